import PyProof.Rows.All
import Wide.All
import OpenK.AllK
import Wide.FinOn
import Lean
import PyProof.EqAt
import PyProof.EqKinds
import PyProof.TupleCall
import PyProof.P3Eq
import PyProof.NeKinds
import PyProof.NeData
import PyProof.ZipIter
import PyProof.EnumMake
import PyProof.EnumFor
import OpenK.KTop
import PyProof.IsRules
import PyProof.AttrMissHeap
import PyProof.DictUpdate
import KE.KDictOf
import PyProof.Rows.SortStr
import PyProof.FString5
import PyProof.StrOps
import PyProof.ListRange
import PyProof.TupleOfGen
import PyProof.Rows.SumAny
import PyProof.Rows.CallKwBuiltin
import PyProof.StrLoop
import PyProof.StrWalks
import PyProof.StrOps2
import PyProof.SliceStr2
import PyProof.StrBlockI
import PyProof.StrLaws
import PyProof.StrBlock
import PyProof.StrBlockL
import PyProof.StrCalls2
import KE.KStrOpen
import KE.KDictList
import PyProof.DictValues
import PyProof.DictTruth
import PySem.Challenge.RW_swellways_k43_like_goes_on
set_option Elab.async false
set_option linter.all false
set_option maxRecDepth 100000
set_option maxHeartbeats 4000000
namespace L2
open PySem PySem.Spec PyProof.Rows
abbrev Key:=Sum Int Str
def tj:Key→Value→Bool
  | .inl k,v=>Value.isInt k v
  | .inr x,v=>Value.isStrOf x v
def SG (w:World):Key→Int
  | .inl k=>hashInt k
  | .inr x=>hashStr w x
theorem cp:∀ {k:Key} {v:Value},tj k v=true→(∃ i t,k=Sum.inl i∧v=Value.int i t)∨(∃ x t,k=Sum.inr x∧v=Value.str x t)
  | .inl i,v,h=>by
    obtain ⟨t,e⟩:=Value.isInt_shape (k:=i) (v:=v) h
    exact .inl ⟨i,t,rfl,e⟩
  | .inr x,v,h=>by
    obtain ⟨t,e⟩:=Value.isStrOf_shape (x:=x) (v:=v) h
    exact .inr ⟨x,t,rfl,e⟩
theorem D0 (i:Int)(t:Tok):tj (.inl i) (.int i t)=true:=by simp[tj,Value.isInt]
theorem CO (x:Str)(t:Tok):tj (.inr x) (.str x t)=true:=by simp[tj,Value.isStrOf]
theorem PZ (a b:Int):decide ((Sum.inl a:Key)=Sum.inl b)=(a == b):=by
  by_cases e:a=b
  · subst e;simp
  · have h:¬ (Sum.inl a:Key)=Sum.inl b:=fun q=>e (Sum.inl.inj q)
    rw[decide_eq_false h]
    exact (beq_eq_false_iff_ne.mpr e).symm
theorem OA (a b:Str):decide ((Sum.inr a:Key)=Sum.inr b)=decide (a=b):=by
  by_cases e:a=b
  · subst e;simp
  · have h:¬ (Sum.inr a:Key)=Sum.inr b:=fun q=>e (Sum.inr.inj q)
    rw[decide_eq_false h,decide_eq_false e]
theorem Pw (a:Int)(b:Str):decide ((Sum.inl a:Key)=Sum.inr b)=false:=decide_eq_false (fun q=>nomatch q)
theorem N0 (a:Str)(b:Int):decide ((Sum.inr a:Key)=Sum.inl b)=false:=decide_eq_false (fun q=>nomatch q)
def ck (prog:Program)(w:World):PySem.KeyKind prog w Key where
  is:=tj
  hash:=SG w
  inj:=fun v a b ha hb=>by
    rcases cp ha with ⟨i,t,rfl,rfl⟩ | ⟨x,t,rfl,rfl⟩
    · rcases cp hb with ⟨j,u,rfl,e⟩ | ⟨y,u,rfl,e⟩
      · injection e with e1 _;rw[e1]
      · exact nomatch e
    · rcases cp hb with ⟨j,u,rfl,e⟩ | ⟨y,u,rfl,e⟩
      · exact nomatch e
      · injection e with e1 _;rw[e1]
  byValue:=fun k v h=>by
    rcases cp h with ⟨i,t,rfl,rfl⟩ | ⟨x,t,rfl,rfl⟩ <;> rfl
  pyHash:=fun hv h=>by
    rcases cp hv with ⟨i,t,rfl,rfl⟩ | ⟨x,t,rfl,rfl⟩
    · exact wpAny_pyHash_int h
    · exact wpAny_pyHash_str h
  eqBool:=fun hu hv h=>by
    rcases cp hu with ⟨i,t,rfl,rfl⟩ | ⟨x,t,rfl,rfl⟩
    · rcases cp hv with ⟨j,u,rfl,rfl⟩ | ⟨y,u,rfl,rfl⟩
      · rw[PZ] at h;exact wpAny_eqBool_int h
      · rw[Pw] at h;exact SeqAt.EqAt.int_str i t y u _ _ _ _ h
    · rcases cp hv with ⟨j,u,rfl,rfl⟩ | ⟨y,u,rfl,rfl⟩
      · rw[N0] at h;exact SeqAt.EqAt.str_int x t j u _ _ _ _ h
      · rw[OA] at h;exact wpAny_eqBool_str h
  «strs»:=fun k x t v h=>by
    rcases cp h with ⟨i,u,rfl,e⟩ | ⟨y,u,rfl,e⟩
    · exact nomatch e
    · injection e with e1 _
      subst e1
      cases v<;>rfl
theorem vt (prog:Program)(w:World)(i:Int)(t:Tok):(ck prog w).is (.inl i) (.int i t)=true:=D0 i t
theorem xZ (prog:Program)(w:World)(x:Str)(t:Tok):(ck prog w).is (.inr x) (.str x t)=true:=CO x t
end L2
namespace L2
open PySem PySem.Spec PyProof.Rows
inductive V where
  | non | bl (b:Bool) | int (i:Int) | str (x:Str) | byt (b:Array UInt8) | flt (b:UInt64) | ref (a:Addr) | ty (n:String)
  deriving DecidableEq
def RelV:V→Value→Prop
  | .non,u=>u=Value.none
  | .bl b,u=>u=Value.bool b
  | .int i,u=>∃ t,u=Value.int i t
  | .str x,u=>∃ t,u=Value.str x t
  | .byt b,u=>∃ t,u=Value.bytes b t
  | .flt b,u=>∃ t,u=Value.float b t
  | .ref a,u=>u=Value.ref a
  | .ty n,u=>u=Value.type n
abbrev Vals:List V→List Value→Prop:=Paired RelV
theorem Vals.length {xs:List V}{us:List Value}(r:Vals xs us):xs.length=us.length:=Paired.length r
theorem Vals.get:∀ {xs:List V} {us:List Value} {i:Nat} {x:V},Vals xs us→xs[i]? = some x→∃ u,us[i]? = some u∧RelV x u
  | _,_,_,_,.nil,e=>by simp at e
  | _,_,0,_,.cons r _,e=>by simp at e;subst e;exact ⟨_,rfl,r⟩
  | _,_,i+1,x,.cons _ t,e=>by
    obtain ⟨u,h1,h2⟩:=Vals.get (i:=i) (x:=x) t (by simpa using e)
    exact ⟨u,by simpa using h1,h2⟩
theorem Vals.set {x:V}{u:Value}(r:RelV x u):∀ {xs:List V} {us:List Value} (i:Nat),Vals xs us→Vals (xs.set i x) (us.set i u)
  | _,_,_,.nil=>.nil
  | _,_,0,.cons _ t=>.cons r t
  | _,_,i+1,.cons q t=>.cons q (Vals.set r i t)
theorem Vals.append:∀ {xs ys:List V} {us ws:List Value},Vals xs us→Vals ys ws→Vals (xs++ys) (us++ws)
  | _,_,_,_,.nil,s=>s
  | _,_,_,_,.cons r t,s=>.cons r (Vals.append t s)
theorem Vals.take:∀ {xs:List V} {us:List Value} (n:Nat),Vals xs us→Vals (xs.take n) (us.take n)
  | _,_,0,_=>.nil
  | _,_,_+1,.nil=>.nil
  | _,_,n+1,.cons r t=>.cons r (Vals.take n t)
theorem Vals.drop:∀ {xs:List V} {us:List Value} (n:Nat),Vals xs us→Vals (xs.drop n) (us.drop n)
  | _,_,0,r=>r
  | _,_,_+1,.nil=>.nil
  | _,_,n+1,.cons _ t=>Vals.drop n t
def nU:Option V→Option Value→Prop
  | some v,some u=>RelV v u
  | none,none=>True
  | _,_=>False
def KV {κ:Type}:List (κ×V)→List (κ×Value)→Prop:=Paired fun (p:κ×V) (q:κ×Value)=>p.1=q.1∧RelV p.2 q.2
def kV:Key→V
  | .inl i=>.int i
  | .inr x=>.str x
inductive HO where
    | lst (xs:List V)
    | tup (xs:List V)
    | dK (kvs:List (Key×V)) | dT (kvs:List (List Key×V))
    | set (S:Int→Bool) (n:Nat)
    | ins (C dx:Addr) (fs:List (Str×V))
    | own (x:Addr)
    | xd (fs:List (Str×V))
    | met (f x:Addr)
    | rng (lo hi:Int)
    | frz (o:Obj) (u:HO)
    | tbl (ps:Array Value)
    | ext (φ:Heap→Prop)
abbrev Hp:=Addr→Option HO
def upd (H:Hp)(a:Addr)(o:HO):Hp:=fun b=>if b=a then some o else H b
theorem aP {H:Hp}{a:Addr}{o:HO}:upd H a o a=some o:=by unfold upd;rw[if_pos rfl]
theorem aO {H:Hp}{a b:Addr}{o:HO}(h:b≠a):upd H a o b=H b:=by unfold upd;rw[if_neg h]
theorem BO {H:Hp}{a:Addr}{o u:HO}:upd (upd H a o) a u=upd H a u:=by
  funext b;unfold upd;split<;>rfl
theorem QN {H:Hp}{a b:Addr}{o u:HO}(h:H a=some o)(h':H b=some u)(d:o≠u):a≠b:=by
  intro e;subst e;rw[h] at h';exact d (Option.some.inj h')
theorem bu {H:Hp}{a b:Addr}{o:HO}(h:H a=some o)(h':H b=none):a≠b:=by
  intro e;subst e;rw[h] at h';cases h'
def uS (h:Heap)(a:Addr)(items:Array Value):Prop:=∃ n,h.get? a=some { cls:=.type "tuple", data:=.seq items n }
theorem uS.tup {h:Heap}{a:Addr}{items:Array Value}(p:uS h a items):IsTup h a items:=by obtain ⟨n,e⟩:=p;exact ⟨_,e,rfl,n,rfl⟩
theorem uS.new (h:Heap)(items:Array Value):uS (h.push { cls:=.type "tuple", data:=.seq items }) h.objs.size items:=⟨_,Heap.get?_push_size _ rfl⟩
section
variable (P:Program) (w:World)
def dX (H:Hp)(h:Heap)(a:Addr):HO→Prop
  | .lst xs=>xs.length≤sizeLine∧∃ (its:List Value) (n:Nat),Vals xs its∧h.get? a=some { cls:=.type "list", data:=.seq its.toArray n }
  | .tup xs=>xs.length≤sizeLine∧∃ its:List Value,Vals xs its∧uS h a its.toArray
  | .dK kvs=>kvs.length≤sizeLine∧(a == sysModules)=false∧∃ vs,KV kvs vs∧h.DictOf (ck P w) a vs
  | .dT kvs=>kvs.length≤sizeLine∧(a == sysModules)=false∧∃ xs:List (List Key×Addr×Value),
      Paired (fun (p:List Key×V) (q:List Key×Addr×Value)=>p.1=q.1∧H q.2.1=some (.tup (p.1.map kV))∧RelV p.2 q.2.2) kvs xs∧
      ∃ o es ep,h.get? a=some o∧o.ExactDict∧o.data=.dict es ep∧es.toList=xs.map (entryOfKey (tupleKind (ck P w)))∧(xs.map (·.1)).Nodup
  | .set S n=>h.SetOf (intKind P w) a S n
  | .ins C dx fs=>H dx=some (.own a)∧fs.length≤1000∧dx≠a∧h.get? a=some (PySem.W.instObj C dx)∧
      ∃ mA,h.Ns1 dx mA∧(∀ f,nU (fs.lookup f) (mA f))∧PySem.Within mA (fs.map (·.1))
  | .own _=>∃ o,h.get? a=some o
  | .xd fs=>∃ mA,h.Ns1 a mA∧∀ f,nU (fs.lookup f) (mA f)
  | .rng lo hi=>∃ t u v,h.get? a=some { cls:=.type "range", data:=.fields #[.int lo t,.int hi u,.int 1 v] }
  | .frz o u=>h.get? a=some o∧dX H h a u
  | .tbl ps=>h.get? a=some { cls:=.none,data:=.fields ps }
  | .met f x=>h.get? a=some (PySem.W.methodObj (.ref f) (.ref x))
  | .ext φ=>φ h∧(∃ o,h.get? a=some o)∧∀ h1 h2:Heap,φ h1→(∀ o,h1.get? a=some o→h2.get? a=some o)→φ h2
def HOk (H:Hp)(h:Heap):Prop:=∀ a o,H a=some o→dX P w H h a o
end
section
variable {P:Program} {w:World} {H H':Hp} {h h':Heap} {a:Addr} {o:HO}
theorem dX.lt (x:dX P w H h a o):a < h.objs.size:=by
  cases o with
  | lst xs=>obtain ⟨_,_,_,_,e⟩:=x;exact Heap.lt_size e
  | tup xs=>obtain ⟨_,_,_,p⟩:=x;exact p.tup.lt
  | dK kvs=>obtain ⟨_,_,_,_,o,_,_,e,_⟩:=x;exact Heap.lt_size e
  | dT kvs=>obtain ⟨_,_,_,_,o,_,_,e,_⟩:=x;exact Heap.lt_size e
  | set S n=>obtain ⟨o,_,_,_,e,_⟩:=x;exact Heap.lt_size e
  | ins C dx fs=>obtain ⟨_,_,_,e,_⟩:=x;exact Heap.lt_size e
  | own y=>obtain ⟨_,e⟩:=x;exact Heap.lt_size e
  | xd fs=>obtain ⟨_,⟨_,_,_,e,_⟩,_⟩:=x;exact Heap.lt_size e
  | rng lo hi=>obtain ⟨_,_,_,e⟩:=x;exact Heap.lt_size e
  | frz ob u=>obtain ⟨e,_⟩:=x;exact Heap.lt_size e
  | tbl ps=>exact Heap.lt_size (show h.get? a=some _ from x)
  | met f y=>exact Heap.lt_size (show h.get? a=some _ from x)
  | ext φ=>obtain ⟨_,⟨_,e⟩,_⟩:=x;exact Heap.lt_size e
theorem Paired.OS {α β:Type}{F G:α→β→Prop}:∀ {l₁:List α} {l₂:List β},Paired F l₁ l₂→(∀ a b,F a b→G a b)→Paired G l₁ l₂
  | _,_,.nil,_=>.nil
  | _,_,.cons r t,f=>.cons (f _ _ r) (Paired.OS t f)
theorem dX.oi (x:dX P w H h a o)(k:∀ b u,(b=a∨H b=some (.own a))→h.get? b=some u→h'.get? b=some u)
    (ho:∀ b,H b=some (.own a)→H' b=some (.own a)) (ht:∀ b xs,H b=some (.tup xs)→H' b=some (.tup xs)):dX P w H' h' a o:=by
  induction o with
  | lst xs=>obtain ⟨z,its,n,r,e⟩:=x;exact ⟨z,its,n,r,k _ _ (.inl rfl) e⟩
  | tup xs=>obtain ⟨z,its,r,m,e⟩:=x;exact ⟨z,its,r,m,k _ _ (.inl rfl) e⟩
  | dK kvs=>obtain ⟨z,y,vs,r,ob,es,ep,e,c⟩:=x;exact ⟨z,y,vs,r,ob,es,ep,k _ _ (.inl rfl) e,c⟩
  | dT kvs=>
    obtain ⟨z,y,xs,r,ob,es,ep,e,c⟩:=x
    exact ⟨z,y,xs,Paired.OS r fun p q z=>⟨z.1,ht _ _ z.2.1,z.2.2⟩,ob,es,ep,k _ _ (.inl rfl) e,c⟩
  | set S n=>obtain ⟨ob,es,ep,t,e,c⟩:=x;exact ⟨ob,es,ep,t,k _ _ (.inl rfl) e,c⟩
  | ins C dx fs=>
    obtain ⟨d,z,ne,e,mA,⟨od,es,ep,e2,c⟩,r⟩:=x
    exact ⟨ho _ d,z,ne,k _ _ (.inl rfl) e,mA,⟨od,es,ep,k _ _ (.inr d) e2,c⟩,r⟩
  | own y=>obtain ⟨ob,e⟩:=x;exact ⟨ob,k _ _ (.inl rfl) e⟩
  | xd fs=>obtain ⟨mA,⟨od,es,ep,e,c⟩,r⟩:=x;exact ⟨mA,⟨od,es,ep,k _ _ (.inl rfl) e,c⟩,r⟩
  | rng lo hi=>obtain ⟨t,u,v,e⟩:=x;exact ⟨t,u,v,k _ _ (.inl rfl) e⟩
  | frz ob u ih=>obtain ⟨e,q⟩:=x;exact ⟨k _ _ (.inl rfl) e,ih q⟩
  | tbl ps=>
    have e:h.get? a=some { cls:=.none,data:=.fields ps }:=x
    show h'.get? a=some { cls:=.none,data:=.fields ps }
    exact k a _ (.inl rfl) e
  | met f y=>
    have e:h.get? a=some (PySem.W.methodObj (.ref f) (.ref y)):=x
    show h'.get? a=some (PySem.W.methodObj (.ref f) (.ref y))
    exact k a _ (.inl rfl) e
  | ext φ=>obtain ⟨p,⟨o,e⟩,st⟩:=x;exact ⟨st _ _ p fun o q=>k _ _ (.inl rfl) q,⟨o,k _ _ (.inl rfl) e⟩,st⟩
theorem HOk.lt (x:HOk P w H h)(e:H a=some o):a < h.objs.size:=(x a o e).lt
theorem HOk.fresh (x:HOk P w H h)(e:h.objs.size≤a):H a=none:=by
  cases q:H a with
  | none=>rfl
  | some u=>exact absurd (Nat.lt_of_lt_of_le (x.lt q) e) (Nat.lt_irrefl _)
theorem HOk.kept (x:HOk P w H h)(k:∀ b u,h.get? b=some u→h'.get? b=some u):HOk P w H h':=fun a o e=>
  (x a o e).oi (fun b u _ q=>k b u q) (fun _ q=>q) fun _ _ q=>q
theorem HOk.laid (x:HOk P w H h)(k:∀ b u,h.get? b=some u→h'.get? b=some u)(hp:h.objs.size≤a)(new:dX P w (upd H a o) h' a o):HOk P w (upd H a o) h':=fun b u e=>by
  have hn:=x.fresh hp
  by_cases hb:b=a
  · subst hb;rw[aP] at e;cases e;exact new
  · rw[aO hb] at e
    exact (x b u e).oi (fun c v _ q=>k c v q) (fun c q=>by rw[aO (bu q hn)];exact q) fun c xs q=>by rw[aO (bu q hn)];exact q
end
def Rd (H:Hp)(a:Addr)(u:HO):Prop:=H a=some u∨∃ o,H a=some (.frz o u)
theorem Rd.of {H:Hp}{a:Addr}{u:HO}(h:H a=some u):Rd H a u:=.inl h
theorem Rd.ok {P:Program}{w:World}{H:Hp}{h:Heap}{a:Addr}{u:HO}(r:Rd H a u)(x:HOk P w H h):dX P w H h a u:=by
  rcases r with r | ⟨o,r⟩
  · exact x a u r
  · obtain ⟨_,q⟩:=x a _ r
    exact q
def Mut:Option HO→Prop
  | some (.lst _)=>True
  | some (.dK _)=>True
  | some (.dT _)=>True
  | some (.set _ _)=>True
  | some (.ins _ _ _)=>True
  | some (.ext _)=>True
  | _=>False
section
variable {P:Program} {w:World} {H:Hp} {h h':Heap} {x e:Addr} {o':HO}
theorem HOk.write (ok:HOk P w H h)(mu:Mut (H x))(he:e=x∨H e=some (.own x))(k:∀ b u,b≠e→h.get? b=some u→h'.get? b=some u)(heo:∃ u,h'.get? e=some u)
    (new:dX P w (upd H x o') h' x o'):HOk P w (upd H x o') h':=fun b u q=>by
  have QJ:∀ c y,H c=some (.own y)→c≠x:=fun c y r z=>by subst z;rw[r] at mu;exact mu
  have S8:∀ c xs,H c=some (.tup xs)→c≠x:=fun c xs r z=>by subst z;rw[r] at mu;exact mu
  by_cases hb:b=x
  · subst hb;rw[aP] at q;cases q;exact new
  · rw[aO hb] at q
    by_cases hbe:b=e
    · have q':H b=some (.own x):=by
        rcases he with z | z
        · exact absurd (hbe.trans z) hb
        · rw[hbe];exact z
      rw[q] at q';cases q'
      obtain ⟨v,hv⟩:=heo
      exact ⟨v,by rw[hbe];exact hv⟩
    · refine (ok b u q).oi (fun c v hc r=>k c v ?_ r) (fun c r=>by rw[aO (QJ c b r)];exact r) fun c xs r=>by rw[aO (S8 c xs r)];exact r
      rcases hc with rfl | hc
      · exact hbe
      · rintro rfl
        rcases he with z | z
        · exact QJ c b hc z
        · rw[hc] at z;cases z;exact hb rfl
end
structure Un (fs ex:List Addr) (H H':Hp) (h h':Heap):Prop where
  keep:∀ b o,h.get? b=some o→H b=none→b ∉ fs→b ∉ ex→h'.get? b=some o
  slot:∀ b o,h.get? b=some o→H b=none→b∈fs→b ∉ ex→∃ sl,h'.get? b=some { o with slots:=sl }
  free:∀ b o,h.get? b=some o→H b=none→b ∉ ex→H' b=none
  there:∀ b o,h.get? b=some o→b ∉ ex→∃ o',h'.get? b=some o'
  om:∀ b xs,H b=some (.tup xs)→H' b=some (.tup xs)
  mi:∀ b o u,H b=some (.frz o u)→H' b=some (.frz o u)
  oo:∀ b ps,H b=some (.tbl ps)→∃ more,H' b=some (.tbl (ps++more))
section
variable {fs fs' ex ex':List Addr} {H H1 H2:Hp} {h h1 h2 h':Heap} {a x e:Addr} {o:HO}
theorem Un.any (u:Un fs ex H H1 h h1){b:Addr}{ob:Obj}(q:h.get? b=some ob)(n:H b=none)(hx:b ∉ ex):∃ sl,h1.get? b=some { ob with slots:=sl }:=by
  by_cases hb:b∈fs
  · exact u.slot b ob q n hb hx
  · exact ⟨ob.slots,u.keep b ob q n hb hx⟩
theorem Un.trans (a:Un fs ex H H1 h h1)(b:Un fs ex H1 H2 h1 h2):Un fs ex H H2 h h2 where
  keep:=fun c ob q n hc hx=>b.keep c ob (a.keep c ob q n hc hx) (a.free c ob q n hx) hc hx
  slot:=fun c ob q n hc hx=>by
    obtain ⟨sl,e1⟩:=a.slot c ob q n hc hx
    obtain ⟨sl',e2⟩:=b.slot c _ e1 (a.free c ob q n hx) hc hx
    exact ⟨sl',e2⟩
  free:=fun c ob q n hx=>by
    obtain ⟨o',e1⟩:=a.there c ob q hx
    exact b.free c o' e1 (a.free c ob q n hx) hx
  there:=fun c ob q hx=>by
    obtain ⟨o',e1⟩:=a.there c ob q hx
    exact b.there c o' e1 hx
  om:=fun c xs q=>b.om c xs (a.om c xs q)
  mi:=fun c ob xs q=>b.mi c ob xs (a.mi c ob xs q)
  oo:=fun c ps q=>by
    obtain ⟨m1,e1⟩:=a.oo c ps q
    obtain ⟨m2,e2⟩:=b.oo c _ e1
    exact ⟨m1++m2,by rw[e2,Array.append_assoc]⟩
theorem Un.kept (k:∀ b u,h.get? b=some u→h'.get? b=some u):Un fs ex H H h h':=
  ⟨fun b ob q _ _ _=>k b ob q,fun b ob q _ _ _=>⟨ob.slots,k b ob q⟩,fun _ _ _ n _=>n,fun b ob q _=>⟨ob,k b ob q⟩,fun _ _ q=>q,fun _ _ _ q=>q,fun _ ps q=>⟨#[],by rw[q];simp⟩⟩
theorem Un.refl:Un fs ex H H h h:=Un.kept fun _ _ q=>q
theorem Un.laid (k:∀ b u,h.get? b=some u→h'.get? b=some u)(hp:h.objs.size≤a)(hn:H a=none):Un fs ex H (upd H a o) h h' where
  keep:=fun b u q _ _ _=>k b u q
  slot:=fun b u q _ _ _=>⟨u.slots,k b u q⟩
  free:=fun b u q n _=>by rw[aO (Nat.ne_of_lt (Nat.lt_of_lt_of_le (Heap.lt_size q) hp))];exact n
  there:=fun b u q _=>⟨u,k b u q⟩
  om:=fun b xs q=>by rw[aO (bu q hn)];exact q
  mi:=fun b u xs q=>by rw[aO (bu q hn)];exact q
  oo:=fun b ps q=>⟨#[],by rw[aO (bu q hn),q];simp⟩
theorem Un.write (mu:Mut (H x))(he:e=x∨H e=some (.own x))(k:∀ b u,b≠e→h.get? b=some u→h'.get? b=some u)(heo:∃ u,h'.get? e=some u):Un fs ex H (upd H x o) h h':=by
  have hx:∀ b,H b=none→b≠x:=fun b n z=>by subst z;rw[n] at mu;exact mu
  have hb:∀ b,H b=none→b≠e:=fun b n z=>by
    subst z
    rcases he with r | r
    · exact hx b n r
    · rw[n] at r;cases r
  have hm:∀ b u,H b=some u→¬ Mut (some u)→b≠x:=fun b u q nm z=>by subst z;rw[q] at mu;exact nm mu
  refine ⟨fun b u q n _ _=>k b u (hb b n) q,fun b u q n _ _=>⟨u.slots,k b u (hb b n) q⟩,fun b u q n _=>by rw[aO (hx b n)];exact n,fun b u q _=>?_,
    fun b xs q=>by rw[aO (hm b _ q fun z=>z)];exact q,fun b u xs q=>by rw[aO (hm b _ q fun z=>z)];exact q,fun b ps q=>⟨#[],by rw[aO (hm b _ q fun z=>z),q];simp⟩⟩
  by_cases hbe:b=e
  · subst hbe;exact heo
  · exact ⟨u,k b u hbe q⟩
theorem Un.mono (u:Un fs ex H H1 h h1)(hs:∀ b∈fs,b∈fs')(hx:∀ b∈ex,b∈ex'):Un fs' ex' H H1 h h1:=
  ⟨fun b ob q n hb he=>u.keep b ob q n (fun z=>hb (hs b z)) fun z=>he (hx b z),fun _ _ q n _ he=>u.any q n fun z=>he (hx _ z),fun b ob q n he=>u.free b ob q n fun z=>he (hx b z),fun b ob q he=>u.there b ob q fun z=>he (hx b z),u.om,u.mi,u.oo⟩
end
def trk (h:Heap)(H:Hp):List Addr:=(List.range h.objs.size).filter fun a=>(H a).isSome
def uf (h:Heap)(H:Hp):Heap:=PySem.W.hideAll h (trk h H)
theorem DI (h:Heap)(H:Hp):(uf h H).objs.size=h.objs.size:=PySem.W.hideAll_size _ _
theorem IB {h:Heap}{H:Hp}{b:Addr}{o:Obj}(e:h.get? b=some o)(n:H b=none):(uf h H).get? b=some o:=
  PySem.W.hideAll_get _ e fun hm=>by
    have q:(H b).isSome=true:=(List.mem_filter.mp hm).2
    rw[n] at q;simp at q
theorem Kc {h:Heap}{H:Hp}{b:Addr}{o:Obj}(e:(uf h H).get? b=some o):h.get? b=some o∧H b=none:=by
  have e':h.get? b=some o:=PySem.W.of_hideAll (trk h H) e
  refine ⟨e',?_⟩
  cases q:H b with
  | none=>rfl
  | some x=>
    have hm:b∈trk h H:=List.mem_filter.mpr ⟨List.mem_range.mpr (Heap.lt_size e'),by simp[q]⟩
    have z:(uf h H).get? b=none:=PySem.W.hideAll_none (trk h H) hm
    rw[z] at e;cases e
def K7 (g h:Heap)(L:Addr):List (Addr×Obj):=(List.range h.objs.size).filterMap fun a=>if a=L∨(g.get? a).isSome=true then none else (h.get? a).map fun o=>(a,o)
def rest (g h:Heap)(L d:Addr):List (Addr×Obj):=(K7 g h L).filter fun p=>decide (p.1≠d)
end L2
namespace L2
open PySem PySem.Spec PyProof.Rows
structure Mod (K:PySem.W.Frag) (mg:Str→Option Value) (base:Heap):Prop where
  kin:K.In base
  glob:base.Ns mainGlobals mg
  blt:∃ mb,base.Ns builtinsNs mb∧∀ x:Str,x ≠ "__name__" → mb x=bootBuiltins x
  nolimit:base.NoLimit
structure Cx where
  prog:Program
  w:World
  K:PySem.W.Frag
  mg:Str→Option Value
  base:Heap
  A:Around
  N:List Str
  s₀:Shared
  H₀:Hp
  env:Env
  outer:List Env
  stack:List Env
  ex:List Addr
  fn:Str→Bool
  calm:Bool
  pn:List (Addr×Obj)
  xe:Value→Shared→Prop
def frs (l:List Env):List Addr:=l.filterMap (·.frame)
abbrev Cx.fs (X:Cx):List Addr:=frs X.outer
def Vis (sc:Scope)(x:Str):Prop:=sc.names.lookup x=some .local∨sc.names.lookup x=some .cell∨sc.names.lookup x=some .free
def Loc (sc:Scope)(x:Str):Prop:=sc.names.lookup x=some .local∨sc.names.lookup x=some .cell
def Look (env:Env)(h:Heap)(m:Str→Option Value)(x:Str)(u:Value):Prop:=
  (env.kindOf x=some .local∧m x=some u)∨((env.kindOf x=some .cell∨env.kindOf x=some .free)∧∃ c,env.cells.lookup x=some c∧h.IsCell c (some u))
structure Cx.Ok (X:Cx):Prop where
  mod:Mod X.K X.mg X.base
  kind:X.env.scope.kind=.function
  glob:X.env.globals=mainGlobals
  blt:X.env.builtins=builtinsNs
  above:X.s₀.heap.objs.size≤X.env.locals
  inj:∀ x y c,X.env.cells.lookup x=some c→X.env.cells.lookup y=some c→x=y
  has:∀ x,(X.env.kindOf x=some .cell∨X.env.kindOf x=some .free)→∃ c,X.env.cells.lookup x=some c
  cab:∀ x c,X.fn x=true→X.env.cells.lookup x=some c→X.s₀.heap.objs.size≤c
  hd:X.calm=true→X.A.handled=none
  frames:X.A.frames=some X.stack
  stk:X.stack=X.outer∨(X.stack=X.env::X.outer∧X.env.frame=some X.env.locals)
  exf:∀ b∈X.ex,b≠X.env.locals∧∀ x c,X.env.cells.lookup x=some c→c≠b
  bs:∀ b o,X.base.get? b=some o→X.s₀.heap.get? b=some o∧X.H₀ b=none
  bsz:X.base.objs.size≤X.s₀.heap.objs.size
  Iw:∀ b o,X.base.get? b=some o→b ∉ X.ex
  ED:∀ b∈X.ex,b ∉ X.fs
  nY:X.s₀.heap.FunFrames X.base X.outer
  frf:∀ b∈X.fs,X.H₀ b=none
structure Inv (X:Cx) (pins:List (Addr×Obj)) (σ:List (Option V)) (H:Hp) (s:Shared):Prop where
  ok:X.Ok
  os:s.os=X.s₀.os
  bare:AllBare s.gens
  base:Un X.fs X.ex X.H₀ H X.s₀.heap s.heap
  loc:∃ m,s.heap.Ns X.env.locals m∧∀ (i:Nat) (x:Str) (v:V),X.N[i]? = some x→σ[i]? = some (some v)→Vis X.env.scope x→∃ u,RelV v u∧Look X.env s.heap m x u
  cell:∀ x c,X.env.cells.lookup x=some c→∃ v,s.heap.IsCell c v
  free:H X.env.locals=none
  jQ:∀ x c,X.env.cells.lookup x=some c→H c=none
  pin:∀ p∈X.pn++pins,s.heap.get? p.1=some p.2∧H p.1=none∧p.1≠X.env.locals∧p.1 ∉ X.fs∧∀ v,p.2.data≠.cell v
  hok:HOk X.prog X.w H s.heap
  len:σ.length=X.N.length
section
variable {X:Cx} {pins:List (Addr×Obj)} {σ:List (Option V)} {H H':Hp} {s:Shared} {h':Heap}
theorem Cx.Ok.SK (ok:X.Ok){b:Addr}{o:Obj}(e:X.base.get? b=some o):b ∉ X.fs:=fun hb=>by
  have:=(ok.nY.mem hb).1
  rw[e] at this;cases this
theorem Inv.bs (I:Inv X pins σ H s):∀ b o,X.base.get? b=some o→s.heap.get? b=some o∧H b=none:=fun b o e=>
  ⟨I.base.keep b o (I.ok.bs b o e).1 (I.ok.bs b o e).2 (I.ok.SK e) (I.ok.Iw b o e),I.base.free b o (I.ok.bs b o e).1 (I.ok.bs b o e).2 (I.ok.Iw b o e)⟩
theorem Inv.bk (I:Inv X pins σ H s):∀ b o,X.base.get? b=some o→s.heap.get? b=some o:=fun b o e=>(I.bs b o e).1
theorem Inv.mod (I:Inv X pins σ H s):Mod X.K X.mg X.base:=I.ok.mod
theorem Inv.kIn (I:Inv X pins σ H s):X.K.In s.heap:=I.ok.mod.kin.keeps I.bk
theorem Inv.nolimit (I:Inv X pins σ H s):s.heap.NoLimit:=I.ok.mod.nolimit.keeps I.bk
theorem Inv.fr (I:Inv X pins σ H s):∃ m,Fr X.base X.env.locals s.heap m:=
  let ⟨m,hn,_⟩:=I.loc
  ⟨m,hn,I.bk,Nat.le_trans I.ok.bsz I.ok.above⟩
theorem Inv.lt (I:Inv X pins σ H s):X.env.locals < s.heap.objs.size:=let ⟨_,hn,_⟩:=I.loc;hn.lt
theorem Inv.sz (I:Inv X pins σ H s):X.s₀.heap.objs.size≤s.heap.objs.size:=Nat.le_trans I.ok.above (Nat.le_of_lt I.lt)
theorem Inv.Tp (I:Inv X pins σ H s){a:Addr}(h:s.heap.objs.size≤a):a ∉ X.fs:=fun hb=>by
  obtain ⟨_,o,ho,_⟩:=I.ok.nY.mem hb
  exact absurd (Nat.lt_of_lt_of_le (Heap.lt_size ho) (Nat.le_trans I.sz h)) (Nat.lt_irrefl _)
theorem Inv.cne (I:Inv X pins σ H s):∀ x c,X.env.cells.lookup x=some c→c≠X.env.locals:=fun x c e z=>by
  obtain ⟨v,o,ho,hd⟩:=I.cell x c e
  obtain ⟨m,⟨o',es,ep,ho',hd',_⟩,_⟩:=I.loc
  rw[z,ho'] at ho;cases ho;rw[hd'] at hd;cases hd
theorem Inv.nY (I:Inv X pins σ H s):s.heap.FunFrames X.base X.outer:=by
  have all:∀ (l:List Env),(∀ b∈frs l,b∈X.fs)→X.s₀.heap.FunFrames X.base l→s.heap.FunFrames X.base l:=by
    intro l
    induction l with
    | nil=>intro _ _;trivial
    | cons env r ih=>
      intro hs hl
      obtain ⟨hk,⟨L,o,hf,hn,ho,hd⟩,hr⟩:=hl
      have hL:L∈X.fs:=hs L (by unfold frs;rw[List.filterMap_cons,hf];exact List.mem_cons_self)
      obtain ⟨sl,e⟩:=I.base.slot L o ho (I.ok.frf L hL) hL fun z=>I.ok.ED L z hL
      exact ⟨hk,⟨L,_,hf,hn,e,hd⟩,ih (fun b hb=>hs b (by unfold frs;rw[List.filterMap_cons,hf];exact List.mem_cons_of_mem _ hb)) hr⟩
  exact all X.outer (fun _ hb=>hb) I.ok.nY
theorem Inv.stack (I:Inv X pins σ H s):s.heap.FunFrames X.base X.stack:=by
  rcases I.ok.stk with e | ⟨e,hf⟩
  · rw[e];exact I.nY
  · rw[e]
    obtain ⟨m,hn,_⟩:=I.loc
    refine .cons (by rw[I.ok.kind];decide) hf hn ?_ I.nY
    exact Heap.get?_none_of_le (Nat.le_trans I.ok.bsz I.ok.above)
theorem Inv.Ar (I:Inv X pins σ H s):∀ b∈frs X.stack,b∈X.env.locals::X.fs:=fun b hb=>by
  rcases I.ok.stk with e | ⟨e,hf⟩
  · rw[e] at hb;exact List.mem_cons_of_mem _ hb
  · rw[e] at hb
    unfold frs at hb
    rw[List.filterMap_cons,hf] at hb
    exact hb
theorem Inv.Cc (I:Inv X pins σ H s):∀ b∈frs X.stack,H b=none:=fun b hb=>by
  rcases List.mem_cons.mp (I.Ar b hb) with e | hb
  · rw[e];exact I.free
  · obtain ⟨_,o,ho,_⟩:=I.ok.nY.mem hb
    exact I.base.free b o ho (I.ok.frf b hb) fun z=>I.ok.ED b z hb
theorem Inv.step {g':Array GenState}{t':Nat}{d':Drawn}{ch:List Addr}(I:Inv X pins σ H s)
    (hch:∀ b∈ch,(b∈X.ex∨X.s₀.heap.objs.size≤b)∧b≠X.env.locals∧(∀ x c,X.env.cells.lookup x=some c→c≠b)∧∀ p∈X.pn++pins,p.1≠b)
    (keep:∀ b o,b≠X.env.locals→b ∉ X.fs→b ∉ ch→s.heap.get? b=some o→H b=none→h'.get? b=some o)
    (slot:∀ b o,b≠X.env.locals→b∈X.fs→b ∉ ch→s.heap.get? b=some o→H b=none→∃ sl,h'.get? b=some { o with slots:=sl }) (free:∀ b o,b ∉ ch→s.heap.get? b=some o→H b=none→H' b=none)
    (there:∀ b o,b ∉ ch→s.heap.get? b=some o→∃ o',h'.get? b=some o')
    (om:∀ b xs,H b=some (.tup xs)→H' b=some (.tup xs)) (mi:∀ b o u,H b=some (.frz o u)→H' b=some (.frz o u)) (oo:∀ b ps,H b=some (.tbl ps)→∃ more,H' b=some (.tbl (ps++more)))
    (ns:∀ m,s.heap.Ns X.env.locals m→h'.Ns X.env.locals m) (hok:HOk X.prog X.w H' h') (hg:AllBare g') :
    Inv X pins σ H' { s with heap:=h',gens:=g',drawn:=d',toks:=t' }:=by
  have neL:∀ b o,X.s₀.heap.get? b=some o→b≠X.env.locals:=fun b o e=>Nat.ne_of_lt (Nat.lt_of_lt_of_le (Heap.lt_size e) I.ok.above)
  have neC:∀ b o,X.s₀.heap.get? b=some o→b ∉ X.ex→b ∉ ch:=fun b o e hx hb=>by
    rcases (hch b hb).1 with z | z
    · exact hx z
    · exact absurd (Nat.lt_of_lt_of_le (Heap.lt_size e) z) (Nat.lt_irrefl _)
  have cellK:∀ x c,X.env.cells.lookup x=some c→∀ v,s.heap.IsCell c v→h'.IsCell c v:=fun x c e v ⟨o,ho,hd⟩=>by
    have nch:c ∉ ch:=fun z=>(hch c z).2.2.1 x c e rfl
    by_cases hc:c∈X.fs
    · obtain ⟨sl,q⟩:=slot c o (I.cne x c e) hc nch ho (I.jQ x c e)
      exact ⟨_,q,hd⟩
    · exact ⟨o,keep c o (I.cne x c e) hc nch ho (I.jQ x c e),hd⟩
  refine ⟨I.ok,I.os,hg,⟨fun b o e n hb hx=>?_,fun b o e n hb hx=>?_,fun b o e n hx=>?_,fun b o e hx=>?_,fun b xs e=>om b xs (I.base.om b xs e),fun b o xs e=>mi b o xs (I.base.mi b o xs e),fun b ps e=>?_⟩,?_,fun x c e=>?_,?_,fun x c e=>?_,fun p hp=>?_,hok,I.len⟩
  · exact keep b o (neL b o e) hb (neC b o e hx) (I.base.keep b o e n hb hx) (I.base.free b o e n hx)
  · obtain ⟨sl,e1⟩:=I.base.slot b o e n hb hx
    obtain ⟨sl',e2⟩:=slot b _ (neL b o e) hb (neC b o e hx) e1 (I.base.free b o e n hx)
    exact ⟨sl',e2⟩
  · obtain ⟨o',e1⟩:=I.base.there b o e hx
    exact free b o' (neC b o e hx) e1 (I.base.free b o e n hx)
  · obtain ⟨o',e1⟩:=I.base.there b o e hx
    exact there b o' (neC b o e hx) e1
  · obtain ⟨m1,e1⟩:=I.base.oo b ps e
    obtain ⟨m2,e2⟩:=oo b _ e1
    exact ⟨m1++m2,by rw[e2,Array.append_assoc]⟩
  · obtain ⟨m,hn,hl⟩:=I.loc
    refine ⟨m,ns m hn,fun i x v e1 e2 e3=>?_⟩
    obtain ⟨u,r,l⟩:=hl i x v e1 e2 e3
    refine ⟨u,r,?_⟩
    rcases l with l | ⟨k,c,e,z⟩
    · exact .inl l
    · exact .inr ⟨k,c,e,cellK x c e _ z⟩
  · obtain ⟨v,z⟩:=I.cell x c e
    exact ⟨v,cellK x c e v z⟩
  · obtain ⟨m,⟨o,_,_,ho,_⟩,_⟩:=I.loc
    exact free _ o (fun z=>(hch _ z).2.1 rfl) ho I.free
  · obtain ⟨v,o,ho,hd⟩:=I.cell x c e
    exact free c o (fun z=>(hch c z).2.2.1 x c e rfl) ho (I.jQ x c e)
  · obtain ⟨e,n,ne,nf,d⟩:=I.pin p hp
    have nch:p.1 ∉ ch:=fun z=>(hch p.1 z).2.2.2 p hp rfl
    exact ⟨keep p.1 p.2 ne nf nch e n,free p.1 p.2 nch e n,ne,nf,d⟩
theorem Inv.un {t':Nat}(I:Inv X pins σ H s)(u:Un X.fs [] H H' s.heap h')(hok:HOk X.prog X.w H' h'):Inv X pins σ H' { s with heap:=h',toks:=t' }:=by
  obtain ⟨m,⟨o,es,ep,ho,r⟩,_⟩:=id I.loc
  obtain ⟨sl,hL⟩:=u.any ho I.free (by simp)
  exact I.step (g':=s.gens) (d':=s.drawn) (ch:=[]) (fun _ z=>nomatch z) (fun b o _ hb _ e n=>u.keep b o e n hb (by simp)) (fun b o _ hb _ e n=>u.slot b o e n hb (by simp)) (fun b o _ e n=>u.free b o e n (by simp)) (fun b o _ e=>u.there b o e (by simp)) u.om u.mi u.oo (fun m' hm=>by
    obtain ⟨o',es',ep',ho',r'⟩:=hm
    rw[ho] at ho';cases ho'
    exact ⟨_,es',ep',hL,r'⟩) hok I.bare
theorem Inv.call {g':Array GenState}{t':Nat}{d':Drawn}{ch:List Addr}(I:Inv X pins σ H s)(u:Un (frs X.stack) ch H H' s.heap h')(hok:HOk X.prog X.w H' h')(hg:AllBare g')
    (hch:∀ b∈ch,(b∈X.ex∨X.s₀.heap.objs.size≤b)∧b≠X.env.locals∧(∀ x c,X.env.cells.lookup x=some c→c≠b)∧∀ p∈X.pn++pins,p.1≠b) :
    Inv X pins σ H' { s with heap:=h',gens:=g',drawn:=d',toks:=t' }:=by
  obtain ⟨m,⟨o,es,ep,ho,r⟩,_⟩:=id I.loc
  obtain ⟨sl,hL⟩:=u.any ho I.free fun z=>(hch _ z).2.1 rfl
  exact I.step (ch:=ch) hch (fun b o hL hb hc e n=>u.keep b o e n (fun z=>(List.mem_cons.mp (I.Ar b z)).elim hL hb) hc) (fun b o _ _ hc e n=>u.any e n hc) (fun b o hc e n=>u.free b o e n hc) (fun b o hc e=>u.there b o e hc) u.om u.mi u.oo (fun m' hm=>by
    obtain ⟨o',es',ep',ho',r'⟩:=hm
    rw[ho] at ho';cases ho'
    exact ⟨_,es',ep',hL,r'⟩) hok hg
theorem Inv.turned {t':Nat}{it:Addr}(I:Inv X pins σ H s)(k:∀ b o,b≠it→s.heap.get? b=some o→h'.get? b=some o)(hn:H it=none)(hL:it≠X.env.locals)
    (h1:it∈X.ex∨X.s₀.heap.objs.size≤it) (h2:∀ x c,X.env.cells.lookup x=some c→c≠it) (h3:∀ p∈X.pn++pins,p.1≠it):Inv X pins σ H { s with heap:=h',toks:=t' }:=by
  have nit:∀ b u,H b=some u→b≠it:=fun b u e z=>by rw[z,hn] at e;cases e
  refine I.step (g':=s.gens) (d':=s.drawn) (ch:=[it]) (fun b hb=>?_) (fun b o _ _ hc e _=>k b o (fun z=>hc (by simp[z])) e) (fun b o _ _ hc e _=>⟨o.slots,k b o (fun z=>hc (by simp[z])) e⟩) (fun _ _ _ _ n=>n)
    (fun b o hc e=>⟨o,k b o (fun z=>hc (by simp[z])) e⟩) (fun _ _ e=>e) (fun _ _ _ e=>e) (fun b ps e=>⟨#[],by rw[e];simp⟩) (fun m hm=>?_) (fun b u e=>?_) I.bare
  · have e:b=it:=by simpa using hb
    subst e
    exact ⟨h1,hL,h2,h3⟩
  · obtain ⟨o,es,ep,ho,r⟩:=hm
    exact ⟨o,es,ep,k _ o (Ne.symm hL) ho,r⟩
  · refine (I.hok b u e).oi (fun c v hc q=>k c v ?_ q) (fun _ q=>q) fun _ _ q=>q
    rcases hc with z | z
    · rw[z];exact nit b u e
    · exact nit c _ z
theorem Inv.tok (I:Inv X pins σ H s)(t:Nat):Inv X pins σ H { s with toks:=t }:=I.un (h':=s.heap) (t':=t) Un.refl I.hok
theorem Inv.kept {t':Nat}(I:Inv X pins σ H s)(k:∀ b u,s.heap.get? b=some u→h'.get? b=some u):Inv X pins σ H { s with heap:=h',toks:=t' }:=I.un (Un.kept k) (I.hok.kept k)
theorem Inv.laid {a:Addr}{o:HO}{t':Nat}(I:Inv X pins σ H s)(k:∀ b u,s.heap.get? b=some u→h'.get? b=some u)(hp:s.heap.objs.size≤a)(new:dX X.prog X.w (upd H a o) h' a o) :
    Inv X pins σ (upd H a o) { s with heap:=h',toks:=t' }:=I.un (Un.laid k hp (I.hok.fresh hp)) (I.hok.laid k hp new)
theorem Inv.write {x e:Addr}{o:HO}{t':Nat}(I:Inv X pins σ H s)(mu:Mut (H x))(he:e=x∨H e=some (.own x))(k:∀ b u,b≠e→s.heap.get? b=some u→h'.get? b=some u)(heo:∃ u,h'.get? e=some u)
    (new:dX X.prog X.w (upd H x o) h' x o):Inv X pins σ (upd H x o) { s with heap:=h',toks:=t' }:=I.un (Un.write mu he k heo) (I.hok.write mu he k heo new)
theorem Inv.weak {σ':List (Option V)}(I:Inv X pins σ H s)(hl:σ'.length=σ.length)(w:∀ (i:Nat) v,σ'[i]? = some (some v)→σ[i]? = some (some v)):Inv X pins σ' H s:=
  ⟨I.ok,I.os,I.bare,I.base,let ⟨m,hn,hl'⟩:=I.loc;⟨m,hn,fun i x v e1 e2 e3=>hl' i x v e1 (w i v e2) e3⟩,I.cell,I.free,I.jQ,I.pin,I.hok,hl.trans I.len⟩
theorem Inv.BS {pins':List (Addr×Obj)}(I:Inv X pins σ H s)(h:∀ p∈pins',s.heap.get? p.1=some p.2∧H p.1=none∧p.1≠X.env.locals∧p.1 ∉ X.fs∧∀ v,p.2.data≠.cell v):Inv X pins' σ H s:=
  ⟨I.ok,I.os,I.bare,I.base,I.loc,I.cell,I.free,I.jQ,fun p hp=>(List.mem_append.mp hp).elim (fun z=>I.pin p (List.mem_append_left _ z)) (h p),I.hok,I.len⟩
theorem yD {N:List Str}(hN:N.Nodup){i j:Nat}{x:Str}(a:N[i]? = some x)(b:N[j]? = some x):i=j:=by
  obtain ⟨h1,e1⟩:=List.getElem?_eq_some_iff.mp a
  obtain ⟨h2,e2⟩:=List.getElem?_eq_some_iff.mp b
  exact (List.getElem_inj hN).mp (e1.trans e2.symm)
theorem CC {M:Model}{A:Around}{E:Value→Shared→Prop}{i:Nat}{x:Str}{v:V}{u:Value}{Q:Unit→Shared→Prop}(I:Inv X pins σ H s)(hN:X.N.Nodup)(hi:X.N[i]? = some x)(hx:Loc X.env.scope x)(r:RelV v u)
    (h:∀ s',Inv X pins (σ.set i (some v)) H s'→(∃ a,Heap.SameBut a s.heap s'.heap∧(a=X.env.locals∨X.env.cells.lookup x=some a))→Q () s') (hf:X.fn x=true∨X.env.scope.names.lookup x=some .local:=by first | exact .inl rfl | exact .inr rfl | assumption):wpAny M A (storeName X.env x u) Q E s:=by
  obtain ⟨m,hn,hl⟩:=id I.loc
  have TX:(X.env.scope.kind == .class || (X.env.scope.kind == .module&&X.env.locals != X.env.globals))=false:=by rw[I.ok.kind];rfl
  have hiσ:i < σ.length:=by rw[I.len];exact (List.getElem?_eq_some_iff.mp hi).1
  have cne:=I.cne
  have tracked:∀ {a:Addr} {h':Heap},(∃ o,s.heap.get? a=some o∧H a=none)→Heap.SameBut a s.heap h'→HOk X.prog X.w H h':=fun {a h'} ha hs b ob e=>by
    obtain ⟨_,_,hfree⟩:=ha
    refine (I.hok b ob e).oi (fun c w' hc q=>(hs.2 c ?_).trans q) (fun _ q=>q) fun _ _ q=>q
    rintro rfl
    rcases hc with rfl | hc
    · rw[hfree] at e;cases e
    · rw[hfree] at hc;cases hc
  rcases hx with hk | hk
  · refine wpAny_storeName_local hk hn (fun h' hn' hs=>?_) TX
    obtain ⟨oL,_,_,hoL,_⟩:=id hn
    refine h _ ⟨I.ok,I.os,I.bare,⟨fun b o e n hb hx=>?_,fun b o e n hb hx=>?_,I.base.free,fun b o e hx=>?_,I.base.om,I.base.mi,I.base.oo⟩,⟨_,hn',fun j y v' e1 e2 e3=>?_⟩,fun y c e=>?_,I.free,I.jQ,fun p hp=>?_,tracked ⟨oL,hoL,I.free⟩ hs,by simpa using I.len⟩ ⟨_,hs,.inl rfl⟩
    · exact (hs.2 b (Nat.ne_of_lt (Nat.lt_of_lt_of_le (Heap.lt_size e) I.ok.above))).trans (I.base.keep b o e n hb hx)
    · obtain ⟨sl,e1⟩:=I.base.slot b o e n hb hx
      exact ⟨sl,(hs.2 b (Nat.ne_of_lt (Nat.lt_of_lt_of_le (Heap.lt_size e) I.ok.above))).trans e1⟩
    · obtain ⟨o',e1⟩:=I.base.there b o e hx
      exact ⟨o',(hs.2 b (Nat.ne_of_lt (Nat.lt_of_lt_of_le (Heap.lt_size e) I.ok.above))).trans e1⟩
    · by_cases hj:j=i
      · subst hj
        rw[hi] at e1;cases e1
        rw[List.getElem?_set_self hiσ] at e2
        cases e2
        exact ⟨u,r,.inl ⟨hk,by simp⟩⟩
      · rw[List.getElem?_set_ne (Ne.symm hj)] at e2
        obtain ⟨u',r',q⟩:=hl j y v' e1 e2 e3
        refine ⟨u',r',?_⟩
        rcases q with ⟨k,e⟩ | ⟨k,c,e,z⟩
        · refine .inl ⟨k,?_⟩
          have:y≠x:=fun e=>hj (yD hN e1 (e ▸ hi))
          simp[this,e]
        · exact .inr ⟨k,c,e,z.sameBut hs (cne y c e)⟩
    · obtain ⟨w',z⟩:=I.cell y c e
      exact ⟨w',z.sameBut hs (cne y c e)⟩
    · obtain ⟨e,n,ne,nf,d⟩:=I.pin p hp
      exact ⟨(hs.2 p.1 ne).trans e,n,ne,nf,d⟩
  · have hfn:X.fn x=true:=by
      rcases hf with z | z
      · exact z
      · rw[z] at hk;cases hk
    obtain ⟨c,hc⟩:=I.ok.has x (.inl hk)
    obtain ⟨w',z⟩:=I.cell x c hc
    refine wpAny_storeName_cell I.ok.kind hk hc z (fun h' hc' hs=>?_)
    obtain ⟨oc,hoc,hocd⟩:=id z
    refine h { s with heap:=h' } ⟨I.ok,I.os,I.bare,⟨fun b o e n hb hx=>?_,fun b o e n hb hx=>?_,I.base.free,fun b o e hx=>?_,I.base.om,I.base.mi,I.base.oo⟩,⟨m,hn.sameBut hs (Ne.symm (cne x c hc)),fun j y v' e1 e2 e3=>?_⟩,fun y c' e=>?_,I.free,I.jQ,fun p hp=>?_,tracked ⟨oc,hoc,I.jQ x c hc⟩ hs,by simpa using I.len⟩ ⟨c,hs,.inr hc⟩
    · exact (hs.2 b (Nat.ne_of_lt (Nat.lt_of_lt_of_le (Heap.lt_size e) (I.ok.cab x c hfn hc)))).trans (I.base.keep b o e n hb hx)
    · obtain ⟨sl,e1⟩:=I.base.slot b o e n hb hx
      exact ⟨sl,(hs.2 b (Nat.ne_of_lt (Nat.lt_of_lt_of_le (Heap.lt_size e) (I.ok.cab x c hfn hc)))).trans e1⟩
    · obtain ⟨o',e1⟩:=I.base.there b o e hx
      exact ⟨o',(hs.2 b (Nat.ne_of_lt (Nat.lt_of_lt_of_le (Heap.lt_size e) (I.ok.cab x c hfn hc)))).trans e1⟩
    · by_cases hj:j=i
      · subst hj
        rw[hi] at e1;cases e1
        rw[List.getElem?_set_self hiσ] at e2
        cases e2
        exact ⟨u,r,.inr ⟨.inl hk,c,hc,hc'⟩⟩
      · rw[List.getElem?_set_ne (Ne.symm hj)] at e2
        obtain ⟨u',r',q⟩:=hl j y v' e1 e2 e3
        refine ⟨u',r',?_⟩
        rcases q with q | ⟨k,c',e,z'⟩
        · exact .inl q
        · refine .inr ⟨k,c',e,z'.sameBut hs ?_⟩
          rintro rfl
          exact hj (yD hN e1 (I.ok.inj _ _ _ e hc ▸ hi))
    · by_cases hcc:c'=c
      · subst hcc;exact ⟨_,hc'⟩
      · obtain ⟨w2,z2⟩:=I.cell y c' e
        exact ⟨w2,z2.sameBut hs hcc⟩
    · obtain ⟨e,n,ne,nf,d⟩:=I.pin p hp
      refine ⟨(hs.2 p.1 ?_).trans e,n,ne,nf,d⟩
      intro q
      rw[q,hoc] at e
      have q':oc=p.2:=Option.some.inj e
      exact d w' (by rw[← q'];exact hocd)
theorem jG {M:Model}{A:Around}{E:Value→Shared→Prop}{i:Nat}{x:Str}{v:V}{u:Value}{Q:Unit→Shared→Prop}(I:Inv X pins σ H s)(hN:X.N.Nodup)(hi:X.N[i]? = some x)(hx:Loc X.env.scope x)(r:RelV v u)
    (h:∀ s',Inv X pins (σ.set i (some v)) H s'→Q () s') (hf:X.fn x=true∨X.env.scope.names.lookup x=some .local:=by first | exact .inl rfl | exact .inr rfl | assumption):wpAny M A (storeName X.env x u) Q E s:=
  CC I hN hi hx r (fun s' I' _=>h s' I') hf
theorem Inv.Mq {s':Shared}{ch:List Addr}(I:Inv X pins σ H s)(ho:s'.os=s.os)(u:Un (frs X.stack) ch H H' s.heap s'.heap)(hok:HOk X.prog X.w H' s'.heap)(hg:AllBare s'.gens)
    (hch:∀ b∈ch,(b∈X.ex∨X.s₀.heap.objs.size≤b)∧b≠X.env.locals∧(∀ x c,X.env.cells.lookup x=some c→c≠b)∧∀ p∈X.pn++pins,p.1≠b):Inv X pins σ H' s':=by
  obtain ⟨h',g',d',t',o'⟩:=s'
  have e:o'=s.os:=ho
  subst e
  exact I.call (g':=g') (t':=t') (d':=d') u hok hg hch
end
abbrev XK:=Value→Option Addr→Hp→Prop
abbrev St:=List (Option V)
abbrev VK:=V→Hp→Prop
abbrev TE:=St→Hp→VK→Prop
abbrev TT:=St→Hp→(Bool→Hp→Prop)→Prop
abbrev TA:=St→Hp→(List V→Hp→Prop)→Prop
structure Ends where
  nx:St→Hp→Prop
  rt:VK
  bk:St→Hp→Prop:=fun _ _=>False
  ct:St→Hp→Prop:=fun _ _=>False
abbrev TS:=Ends→St→Hp→Prop
def EP (X:Cx)(pins:List (Addr×Obj))(σ:St)(Q:VK)(u:Value)(s':Shared):Prop:=∃ v H',Inv X pins σ H' s'∧RelV v u∧Q v H'
def TP (X:Cx)(pins:List (Addr×Obj))(σ:St)(Q:Bool→Hp→Prop)(b:Bool)(s':Shared):Prop:=∃ H',Inv X pins σ H' s'∧Q b H'
def AP (X:Cx)(pins:List (Addr×Obj))(σ:St)(Q:List V→Hp→Prop)(us:List Value)(s':Shared):Prop:=∃ vs H',Inv X pins σ H' s'∧Vals vs us∧Q vs H'
def SP (X:Cx)(pins:List (Addr×Obj))(D:Ends)(f:Flow)(s':Shared):Prop:=
  match f with
  | .next=>∃ σ' H',Inv X pins σ' H' s'∧D.nx σ' H'
  | .brk=>∃ σ' H',Inv X pins σ' H' s'∧D.bk σ' H'
  | .cont=>∃ σ' H',Inv X pins σ' H' s'∧D.ct σ' H'
  | .ret u=>∃ v σ' H',Inv X pins σ' H' s'∧RelV v u∧D.rt v H'
def PE (X:Cx)(e:Expr)(t:TE):Prop:=
  ∀ (pins:List (Addr×Obj)) (s:Shared) (σ:St) (H:Hp) (Q:VK),Inv X pins σ H s→t σ H Q→wpAny (model X.prog X.w) X.A (eval e X.env) (EP X pins σ Q) X.xe s
def PT (X:Cx)(e:Expr)(t:TT):Prop:=
  ∀ (pins:List (Addr×Obj)) (s:Shared) (σ:St) (H:Hp) (Q:Bool→Hp→Prop),Inv X pins σ H s→t σ H Q→wpAny (model X.prog X.w) X.A (isTrue e X.env (eval e X.env)) (TP X pins σ Q) X.xe s
def PW (X:Cx)(e:Expr)(t:TT):Prop:=
  ∀ (whole:Sem Value) (pins:List (Addr×Obj)) (s:Shared) (σ:St) (H:Hp) (Q:Bool→Hp→Prop),Inv X pins σ H s→t σ H Q→wpAny (model X.prog X.w) X.A (isTrue e X.env whole) (TP X pins σ Q) X.xe s
theorem PW.pt {X:Cx}{e:Expr}{t:TT}(h:PW X e t):PT X e t:=h _
def PA (X:Cx)(es:List Expr)(t:TA):Prop:=
  ∀ (pos:Pos) (pins:List (Addr×Obj)) (s:Shared) (σ:St) (H:Hp) (Q:List V→Hp→Prop),Inv X pins σ H s→t σ H Q→wpAny (model X.prog X.w) X.A (spliced (backTo pos (starEach es X.env))) (AP X pins σ Q) X.xe s
def PS (X:Cx)(st:Stmt)(t:TS):Prop:=
  ∀ (pins:List (Addr×Obj)) (s:Shared) (σ:St) (H:Hp) (D:Ends),Inv X pins σ H s→t D σ H→wpAny (model X.prog X.w) X.A (exec st X.env) (SP X pins D) X.xe s
def PSs (X:Cx)(st:List Stmt)(t:TS):Prop:=
  ∀ (pins:List (Addr×Obj)) (s:Shared) (σ:St) (H:Hp) (D:Ends),Inv X pins σ H s→t D σ H→wpAny (model X.prog X.w) X.A (execs st X.env) (SP X pins D) X.xe s
theorem thn {α:Type}{t:Sem α}{Q Q':α→Shared→Prop}{M:Model}{A:Around}{E:Value→Shared→Prop}{s:Shared}(h:wpAny M A t Q E s)(hQ:∀ a s,Q a s→Q' a s):wpAny M A t Q' E s:=wpAny_mono h hQ fun _ _ x=>x
end L2
namespace L2
open PySem PySem.Spec PyProof.Rows
section
variable {X:Cx}
def Qt (i:Nat):TE:=fun σ H Q=>∃ v,σ[i]? = some (some v)∧Q v H
def tC (v:V):TE:=fun _ H Q=>Q v H
theorem HR {i:Nat}{x:Str}{pos:Pos}(hN:X.N[i]? = some x)(hv:Vis X.env.scope x)(hd:(x == ("__debug__" : Str))=false:=by decide)(hcd:(x == ("__classdict__" : Str))=false:=by decide):PE X (.Name x pos) (Qt i):=by
  intro pins s σ H Q I h
  obtain ⟨v,e,h⟩:=h
  obtain ⟨m,hn,hl⟩:=I.loc
  obtain ⟨u,r,l⟩:=hl i x v hN e hv
  have fin:EP X pins σ Q u s:=⟨v,H,I,r,h⟩
  rcases l with ⟨hk,hm⟩ | ⟨hk,c,hc,hcell⟩
  · exact wpAny_Name (wpAny_loadName_local I.ok.kind hk hn hm fin) hd
  · rcases hk with hk | hk
    · exact wpAny_Name (wpAny_loadName_cell I.ok.kind hk hc hcell fin) hd
    · exact wpAny_Name (wpAny_loadName_free I.ok.kind hk hc hcell fin hcd) hd
theorem NT {i j pos}:PE X (.Constant (.int i) j pos) (tC (.int i)):=fun _ _ _ H _ I h=>wpAny_Constant_int ⟨.int i,H,I.tok _,⟨_,rfl⟩,h⟩
theorem RY {b j pos}:PE X (.Constant (.bool b) j pos) (tC (.bl b)):=fun _ _ _ H _ I h=>Constant_bool ⟨.bl b,H,I,rfl,h⟩
theorem OJ {j pos}:PE X (.Constant .none j pos) (tC .non):=fun _ _ _ H _ I h=>Constant_none ⟨.non,H,I,rfl,h⟩
theorem HE {x j pos}:PE X (.Constant (.str x) j pos) (tC (.str x)):=fun _ _ _ H _ I h=>Calls.Constant_str ⟨.str x,H,I.tok _,⟨_,rfl⟩,h⟩
def Gl (X:Cx)(x:Str):Prop:=X.env.kindOf x=some .globalImplicit
theorem Ci {E:Value→Shared→Prop}{pins:List (Addr×Obj)}{s:Shared}{σ:St}{H:Hp}{x:Str}{u:Value}{pos:Pos}{Q:Value→Shared→Prop}(I:Inv X pins σ H s)(hg:Gl X x)(hm:X.mg x=some u)(h:Q u s)
    (hd:(x == ("__debug__" : Str))=false:=by decide):wpAny (model X.prog X.w) X.A (eval (.Name x pos) X.env) Q E s:=
  Calls.Name_function_global I.ok.kind hg (Calls.loadGlobal_global (by rw[I.ok.glob];exact I.mod.glob.keeps I.bk) hm h) hd
theorem i3 {E:Value→Shared→Prop}{pins:List (Addr×Obj)}{s:Shared}{σ:St}{H:Hp}{x:Str}{u:Value}{pos:Pos}{Q:Value→Shared→Prop}(I:Inv X pins σ H s)(hg:Gl X x)(hm:X.mg x=none)(hv:bootBuiltins x=some u)(h:Q u s)
    (hn:x ≠ "__name__" := by decide) (hd:(x == ("__debug__" : Str))=false:=by decide):wpAny (model X.prog X.w) X.A (eval (.Name x pos) X.env) Q E s:=by
  obtain ⟨mb,h1,h2⟩:=I.mod.blt
  exact Calls.Name_function_global I.ok.kind hg (Calls.loadGlobal_builtin (by rw[I.ok.glob];exact I.mod.glob.keeps I.bk) hm (by rw[I.ok.blt];exact h1.keeps I.bk) ((h2 x hn).trans hv) h) hd
theorem Jw {x:Str}{v:V}{u:Value}{pos:Pos}(hg:Gl X x)(hm:X.mg x=some u)(r:RelV v u)(hd:(x == ("__debug__" : Str))=false:=by decide):PE X (.Name x pos) (tC v):=
  fun _ _ _ H _ I h=>Ci I hg hm ⟨v,H,I,r,h⟩ hd
theorem BX {x:Str}{v:V}{u:Value}{pos:Pos}(hg:Gl X x)(hm:X.mg x=none)(hv:bootBuiltins x=some u)(r:RelV v u)(hn:x ≠ "__name__" := by decide)(hd:(x == ("__debug__" : Str))=false:=by decide):PE X (.Name x pos) (tC v):=
  fun _ _ _ H _ I h=>i3 I hg hm hv ⟨v,H,I,r,h⟩ hn hd
variable {a b:Expr} {ta tb:TE} {pos:Pos}
def PC (X:Cx)(op:CmpOp)(a b:Expr)(t:TE):Prop:=
  ∀ (pins:List (Addr×Obj)) (s:Shared) (σ:St) (H:Hp) (Q:VK),Inv X pins σ H s→t σ H Q→
    wpAny (model X.prog X.w) X.A (eval a X.env) (fun v s₁=>wpAny (model X.prog X.w) X.A (eval b X.env) (fun u s₂=>wpAny (model X.prog X.w) X.A (compareOp op v u) (EP X pins σ Q) X.xe s₂) X.xe s₁) X.xe s
theorem FV (b:Expr){op:CmpOp}(h:op≠.In)(h2:op≠.NotIn):behindInMarks op b=false:=by
  have e1:(op == CmpOp.In)=false:=by cases op<;>first | rfl | exact absurd rfl h
  have e2:(op == CmpOp.NotIn)=false:=by cases op<;>first | rfl | exact absurd rfl h2
  cases b<;>simp[behindInMarks,e1,e2]
def tB (t:TE):TT:=fun σ H Q=>t σ H fun x H1=>∃ c,x=.bl c∧Q c H1
theorem Nk {op:CmpOp}{t:TE}(h:PC X op a b t)(h1:behindInMarks op b=false:=by first | exact FV _ (by decide) (by decide) | rfl):PT X (.Compare a [op] [b] pos) (tB t):=by
  intro pins s σ H Q I hw
  refine wpAny_isTrue_Compare1 (thn (h pins s σ H _ I hw) fun v s1 h1=>thn h1 fun u s2 h2=>thn h2 fun c s3 ⟨x,H1,I1,r1,q1⟩=>?_) h1
  obtain ⟨d,rfl,q⟩:=q1
  cases r1
  exact wpAny_truthy_bool ⟨H1,I1,q⟩
theorem P8 {e:Expr}{t:TE}(h:PE X e t)(he:∀ whole,isTrue e X.env whole=(do let v ← whole;standAt e.pos;holding [v] (truthy v)):=by intro _;rfl):PT X e (tB t):=by
  intro pins s σ H Q I hw
  refine isTrue_plain (thn (h pins s σ H _ I hw) fun v s1 ⟨x,H1,I1,r1,q1⟩=>?_) (he _)
  obtain ⟨d,rfl,q⟩:=q1
  cases r1
  exact wpAny_truthy_bool ⟨H1,I1,q⟩
variable {tA tB':TT} {rest:List Expr}
def Tf (t u:TT):TT:=fun σ H Q=>t σ H fun c H1=>if c=true then u σ H1 Q else Q false H1
def tOr (t u:TT):TT:=fun σ H Q=>t σ H fun c H1=>if c=true then Q true H1 else u σ H1 Q
def Sr (t:TT):TT:=fun σ H Q=>t σ H fun c H1=>Q (!c) H1
theorem pw_and1 (ha:PT X a tA):PW X (.BoolOp .And [a] pos) tA:=by
  intro wh pins s σ H Q I h
  refine isTrue_and (thn (ha pins s σ H Q I h) fun c s1 e=>?_)
  cases c with
  | true=>exact isTrue_and_nil e
  | false=>exact e
theorem pw_or1 (ha:PT X a tA):PW X (.BoolOp .Or [a] pos) tA:=by
  intro wh pins s σ H Q I h
  refine isTrue_or (thn (ha pins s σ H Q I h) fun c s1 e=>?_)
  cases c with
  | false=>exact isTrue_or_nil e
  | true=>exact e
theorem pw_and (ha:PT X a tA)(hb:PW X (.BoolOp .And (b::rest) pos) tB'):PW X (.BoolOp .And (a::b::rest) pos) (Tf tA tB'):=by
  intro wh pins s σ H Q I h
  refine isTrue_and (thn (ha pins s σ H _ I h) fun c s1 ⟨H1,I1,q1⟩=>?_)
  cases c with
  | true=>exact hb wh pins s1 σ H1 Q I1 q1
  | false=>exact ⟨H1,I1,q1⟩
theorem pw_or (ha:PT X a tA)(hb:PW X (.BoolOp .Or (b::rest) pos) tB'):PW X (.BoolOp .Or (a::b::rest) pos) (tOr tA tB'):=by
  intro wh pins s σ H Q I h
  refine isTrue_or (thn (ha pins s σ H _ I h) fun c s1 ⟨H1,I1,q1⟩=>?_)
  cases c with
  | true=>exact ⟨H1,I1,q1⟩
  | false=>exact hb wh pins s1 σ H1 Q I1 q1
theorem Oj (ha:PT X a tA):PT X (.UnaryOp .Not a pos) (Sr tA):=by
  intro pins s σ H Q I h
  exact isTrue_not (ha pins s σ H (fun c H1=>Q (!c) H1) I h)
def Qm (ta tb:TE):TE:=fun σ H Q=>ta σ H fun x H1=>∃ c,x=.bl c∧if c=true then tb σ H1 Q else Q (.bl false) H1
def Uc (ta tb:TE):TE:=fun σ H Q=>ta σ H fun x H1=>∃ c,x=.bl c∧if c=true then Q (.bl true) H1 else tb σ H1 Q
theorem NA {op}{t:TE}(h:PE X a t):PE X (.BoolOp op [a] pos) t:=fun pins s σ H Q I hw=>BoolOp_one (h pins s σ H Q I hw)
theorem OZ (ha:PE X a ta)(hb:PE X (.BoolOp .And (b::rest) pos) tb):PE X (.BoolOp .And (a::b::rest) pos) (Qm ta tb):=by
  intro pins s σ H Q I h
  refine BoolOp_and (thn (ha pins s σ H _ I h) fun v s1 ⟨x,H1,I1,r1,q1⟩=>?_)
  obtain ⟨c,rfl,q1⟩:=q1
  cases r1
  refine wpAny_truthy_bool ?_
  cases c with
  | true=>exact hb pins s1 σ H1 Q I1 q1
  | false=>exact ⟨.bl false,H1,I1,rfl,q1⟩
theorem R6 (ha:PE X a ta)(hb:PE X (.BoolOp .Or (b::rest) pos) tb):PE X (.BoolOp .Or (a::b::rest) pos) (Uc ta tb):=by
  intro pins s σ H Q I h
  refine BoolOp_or (thn (ha pins s σ H _ I h) fun v s1 ⟨x,H1,I1,r1,q1⟩=>?_)
  obtain ⟨c,rfl,q1⟩:=q1
  cases r1
  refine wpAny_truthy_bool ?_
  cases c with
  | false=>exact hb pins s1 σ H1 Q I1 q1
  | true=>exact ⟨.bl true,H1,I1,rfl,q1⟩
def tIf (t:TT)(ta tb:TE):TE:=fun σ H Q=>t σ H fun c H1=>if c=true then ta σ H1 Q else tb σ H1 Q
theorem Hr {c:Expr}(hc:PT X c tA)(ha:PE X a ta)(hb:PE X b tb):PE X (.IfExp c a b pos) (tIf tA ta tb):=by
  intro pins s σ H Q I h
  refine wpAny_IfExp (thn (hc pins s σ H _ I h) fun d s1 ⟨H1,I1,q1⟩=>?_)
  cases d with
  | true=>exact ha pins s1 σ H1 Q I1 q1
  | false=>exact hb pins s1 σ H1 Q I1 q1
end
end L2
namespace L2
open PySem PySem.Spec PyProof.Rows
def SqL (K:PySem.W.Frag)(H:Hp)(a:Addr)(xs:List V):Prop:=
  Rd H a (.lst xs)∨
    ∃ (o:Obj) (its:Array Value) (n:Nat),K.lookup a=some o∧o.cls=.type "list" ∧ o.dict=none∧o.data=.seq its n∧its.size≤sizeLine∧Vals xs its.toList
def SqT (K:PySem.W.Frag)(H:Hp)(a:Addr)(xs:List V):Prop:=
  Rd H a (.tup xs)∨
    ∃ (o:Obj) (its:Array Value) (n:Nat),K.lookup a=some o∧o.cls=.type "tuple" ∧ o.dict=none∧o.data=.seq its n∧its.size≤sizeLine∧Vals xs its.toList
def TQ:Value→Option V
  | .none=>some .non
  | .bool b=>some (.bl b)
  | .int i _=>some (.int i)
  | .str x _=>some (.str x)
  | .bytes b _=>some (.byt b)
  | .float b _=>some (.flt b)
  | .ref a=>some (.ref a)
  | .type n=>some (.ty n)
  | _=>none
theorem RelV.abs {x:V}{u:Value}(r:RelV x u):TQ u=some x:=by
  cases x with
  | non=>cases r;rfl
  | bl _=>cases r;rfl
  | int _=>obtain ⟨t,rfl⟩:=r;rfl
  | str _=>obtain ⟨t,rfl⟩:=r;rfl
  | byt _=>obtain ⟨t,rfl⟩:=r;rfl
  | flt _=>obtain ⟨t,rfl⟩:=r;rfl
  | ref _=>cases r;rfl
  | ty _=>cases r;rfl
theorem RelV.inj {x y:V}{u:Value}(r:RelV x u)(q:RelV y u):x=y:=Option.some.inj (r.abs.symm.trans q.abs)
theorem Vals.inj:∀ {xs ys:List V} {us:List Value},Vals xs us→Vals ys us→xs=ys
  | _,_,_,.nil,.nil=>rfl
  | _,_,_,.cons r t,.cons r' t'=>by rw[r.inj r',Vals.inj t t']
section
variable {X:Cx} {pins:List (Addr×Obj)} {σ:St} {H:Hp} {s:Shared} {a:Addr} {xs ys:List V}
theorem SqL.of {K:PySem.W.Frag}(h:H a=some (.lst xs)):SqL K H a xs:=.inl (.inl h)
theorem SqT.of {K:PySem.W.Frag}(h:H a=some (.tup xs)):SqT K H a xs:=.inl (.inl h)
theorem Inv.list (I:Inv X pins σ H s)(h:SqL X.K H a xs):∃ its:List Value,Vals xs its∧PlainL s.heap a its.toArray∧xs.length≤sizeLine:=by
  rcases h with h | ⟨o,its,n,hk,hc,hd,hs,hz,r⟩
  · obtain ⟨z,its,n,r,e⟩:=h.ok I.hok
    exact ⟨its,r,⟨_,n,e,rfl,rfl,rfl⟩,z⟩
  · refine ⟨its.toList,r,⟨o,n,I.kIn a o hk,hc,hd,by simpa using hs⟩,?_⟩
    have e:=r.length
    simp only[Array.length_toList] at e
    omega
theorem Inv.tuple (I:Inv X pins σ H s)(h:SqT X.K H a xs):∃ its:List Value,Vals xs its∧IsTup s.heap a its.toArray∧xs.length≤sizeLine:=by
  rcases h with h | ⟨o,its,n,hk,hc,hdn,hs,hz,r⟩
  · obtain ⟨z,its,r,p⟩:=h.ok I.hok
    exact ⟨its,r,p.tup,z⟩
  · refine ⟨its.toList,r,⟨o,I.kIn a o hk,hc,n,by simpa using hs⟩,?_⟩
    have e:=r.length
    simp only[Array.length_toList] at e
    omega
theorem Inv.yz (I:Inv X pins σ H s)(h:SqL X.K H a xs)(h':SqL X.K H a ys):xs=ys:=by
  obtain ⟨its,r,⟨o,n,e,_,_,d⟩,_⟩:=I.list h
  obtain ⟨its',r',⟨o',n',e',_,_,d'⟩,_⟩:=I.list h'
  rw[e] at e';cases e'
  rw[d] at d'
  injection d' with d1 _
  have:its=its':=by simpa using congrArg Array.toList d1
  subst this
  exact r.inj r'
theorem Inv.tE (I:Inv X pins σ H s)(h:SqT X.K H a xs)(h':SqT X.K H a ys):xs=ys:=by
  obtain ⟨its,r,⟨o,e,_,n,d⟩,_⟩:=I.tuple h
  obtain ⟨its',r',⟨o',e',_,n',d'⟩,_⟩:=I.tuple h'
  rw[e] at e';cases e'
  rw[d] at d'
  injection d' with d1 _
  have:its=its':=by simpa using congrArg Array.toList d1
  subst this
  exact r.inj r'
end
abbrev Cx.oD (X:Cx)(E:Value→Shared→Prop):Cx:={ X with xe:=E }
abbrev Cx.nox (X:Cx):Cx:=X.oD fun _ _=>False
theorem Cx.Ok.oD {X:Cx}(ok:X.Ok)(E:Value→Shared→Prop):(X.oD E).Ok:=
  ⟨ok.mod,ok.kind,ok.glob,ok.blt,ok.above,ok.inj,ok.has,ok.cab,ok.hd,ok.frames,ok.stk,ok.exf,ok.bs,ok.bsz,ok.Iw,ok.ED,ok.nY,ok.frf⟩
theorem Cx.Ok.h9 {X:Cx}{E:Value→Shared→Prop}(ok:(X.oD E).Ok):X.Ok:=
  ⟨ok.mod,ok.kind,ok.glob,ok.blt,ok.above,ok.inj,ok.has,ok.cab,ok.hd,ok.frames,ok.stk,ok.exf,ok.bs,ok.bsz,ok.Iw,ok.ED,ok.nY,ok.frf⟩
section
variable {X:Cx} {pins:List (Addr×Obj)} {σ:St} {H:Hp} {s:Shared} {E:Value→Shared→Prop}
theorem Inv.oD (I:Inv X pins σ H s)(E:Value→Shared→Prop):Inv (X.oD E) pins σ H s:=⟨I.ok.oD E,I.os,I.bare,I.base,I.loc,I.cell,I.free,I.jQ,I.pin,I.hok,I.len⟩
theorem Inv.h9 (I:Inv (X.oD E) pins σ H s):Inv X pins σ H s:=⟨I.ok.h9,I.os,I.bare,I.base,I.loc,I.cell,I.free,I.jQ,I.pin,I.hok,I.len⟩
theorem SP.h9 {D:Ends}{f:Flow}{s':Shared}(h:SP (X.oD E) pins D f s'):SP X pins D f s':=by
  cases f with
  | next=>obtain ⟨σ',H',I,q⟩:=h;exact ⟨σ',H',I.h9,q⟩
  | brk=>obtain ⟨σ',H',I,q⟩:=h;exact ⟨σ',H',I.h9,q⟩
  | cont=>obtain ⟨σ',H',I,q⟩:=h;exact ⟨σ',H',I.h9,q⟩
  | ret u=>obtain ⟨v,σ',H',I,r,q⟩:=h;exact ⟨v,σ',H',I.h9,r,q⟩
theorem PE.nox {e:Expr}{t:TE}(h:PE X.nox e t):PE X e t:=fun pins s σ H Q I hw=>
  wpAny_mono (h pins s σ H Q (I.oD _) hw) (fun _ _ ⟨v,H',I',r,q⟩=>⟨v,H',I'.h9,r,q⟩) fun _ _ z=>False.elim z
theorem PT.nox {e:Expr}{t:TT}(h:PT X.nox e t):PT X e t:=fun pins s σ H Q I hw=>
  wpAny_mono (h pins s σ H Q (I.oD _) hw) (fun _ _ ⟨H',I',q⟩=>⟨H',I'.h9,q⟩) fun _ _ z=>False.elim z
theorem PSs.nox {st:List Stmt}{t:TS}(h:PSs X.nox st t):PSs X st t:=fun pins s σ H D I hw=>
  wpAny_mono (h pins s σ H D (I.oD _) hw) (fun _ _ q=>q.h9) fun _ _ z=>False.elim z
end
section
variable {X:Cx} {st:Stmt} {rest:List Stmt} {t u:TS} {e:Expr} {te:TE} {pos:Pos}
def Q2:TS:=fun D σ H=>D.nx σ H
def TN (t u:TS):TS:=fun D σ H=>t { D with nx:=u D } σ H
theorem KP:PSs X [] Q2:=fun _ _ σ H _ I h=>wpAny_execs_nil ⟨σ,H,I,h⟩
theorem ID (h1:PS X st t)(h2:PSs X rest u):PSs X (st::rest) (TN t u):=by
  intro pins s σ H D I h
  refine wpAny_execs_cons (thn (h1 pins s σ H { D with nx:=u D } I h) fun f s1 q=>?_)
  cases f with
  | next=>
    obtain ⟨σ',H',I',q⟩:=q
    exact h2 pins s1 σ' H' D I' q
  | ret v=>exact q
  | brk=>exact q
  | cont=>exact q
theorem Kt (h1:PS X st t):PSs X [st] t:=by
  intro pins s σ H D I h
  refine wpAny_execs_cons (thn (h1 pins s σ H D I h) fun f s1 q=>?_)
  cases f with
  | next=>exact wpAny_execs_nil q
  | ret v=>exact q
  | brk=>exact q
  | cont=>exact q
theorem Inv.quiet {pins:List (Addr×Obj)}{σ:St}{H:Hp}{s:Shared}(I:Inv X pins σ H s):interactive X.env=false:=by simp[interactive,I.ok.kind]
def R8 (te:TE):TS:=fun D σ H=>te σ H fun _ H1=>D.nx σ H1
theorem KO (he:PE X e te)(hs:swapsWith e none pos.line X.env=pure false:=by rfl):PS X (.Expr e pos) (R8 te):=by
  intro pins s σ H D I h
  exact wpAny_Expr_any (thn (he pins s σ H _ I h) fun v s1 ⟨x,H1,I1,r1,q1⟩=>⟨σ,H1,I1,q1⟩) I.quiet hs
def TV (te:TE):TS:=fun D σ H=>te σ H D.rt
theorem Oc (he:PE X e te):PS X (.Return (some e) pos) (TV te):=by
  intro pins s σ H D I h
  exact wpAny_Return_some (thn (he pins s σ H _ I h) fun v s1 ⟨x,H1,I1,r1,q1⟩=>⟨x,σ,H1,I1,r1,q1⟩)
def Sk (c:TT)(t u:TS):TS:=fun D σ H=>c σ H fun b H1=>if b=true then t D σ H1 else u D σ H1
theorem QI {c:Expr}{a b:List Stmt}{tc:TT}(hc:PT X c tc)(ha:PSs X a t)(hb:PSs X b u):PS X (.If c a b pos) (Sk tc t u):=by
  intro pins s σ H D I h
  refine wpAny_If (thn (hc pins s σ H _ I h) fun d s1 ⟨H1,I1,q1⟩=>?_)
  cases d with
  | true=>exact ha pins s1 σ H1 D I1 q1
  | false=>exact hb pins s1 σ H1 D I1 q1
end
abbrev TG:=V→St→Hp→(St→Hp→Prop)→Prop
abbrev TGs:=List V→St→Hp→(St→Hp→Prop)→Prop
def PG (X:Cx)(target:Expr)(t:TG):Prop:=
  ∀ (pins:List (Addr×Obj)) (s:Shared) (σ:St) (H:Hp) (v:V) (u:Value) (Q:St→Hp→Prop),Inv X pins σ H s→RelV v u→t v σ H Q→
    wpAny (model X.prog X.w) X.A (assign target X.env u) (fun _ s'=>∃ σ' H',Inv X pins σ' H' s'∧Q σ' H') X.xe s
def PGs (X:Cx)(ts:List Expr)(t:TGs):Prop:=
  ∀ (pins:List (Addr×Obj)) (s:Shared) (σ:St) (H:Hp) (vs:List V) (us:List Value) (Q:St→Hp→Prop),Inv X pins σ H s→Vals vs us→t vs σ H Q→
    wpAny (model X.prog X.w) X.A (assignInOrder ((assignEach ts X.env).map (·.2)) us) (fun _ s'=>∃ σ' H',Inv X pins σ' H' s'∧Q σ' H') X.xe s
abbrev TIp:=V→V→Hp→VK→Prop
def PIp (X:Cx)(op:Operator)(t:TIp):Prop:=
  ∀ (pins:List (Addr×Obj)) (s:Shared) (σ:St) (H:Hp) (x y:V) (v u:Value) (Q:VK),Inv X pins σ H s→RelV x v→RelV y u→t x y H Q→
    wpAny (model X.prog X.w) X.A (inplaceOp op v u) (EP X pins σ Q) X.xe s
section
variable {X:Cx} {pos:Pos}
def kM (i:Nat):TG:=fun v σ H Q=>Q (σ.set i (some v)) H
theorem iK {i:Nat}{x:Str}(hN:X.N.Nodup)(hi:X.N[i]? = some x)(hx:Loc X.env.scope x)(hf:X.fn x=true∨X.env.scope.names.lookup x=some .local:=by first | exact .inl rfl | exact .inr rfl | assumption):PG X (.Name x pos) (kM i):=by
  intro pins s σ H v u Q I r h
  exact wpAny_assign_Name (jG I hN hi hx r (fun s' I'=>⟨_,H,I',h⟩) hf)
def SY:TGs:=fun vs σ H Q=>vs=[]∧Q σ H
def Ra (t:TG)(u:TGs):TGs:=fun vs σ H Q=>∃ v r,vs=v::r∧t v σ H fun σ' H'=>u r σ' H' Q
theorem A3:PGs X [] SY:=by
  intro pins s σ H vs us Q I r h
  obtain ⟨e,h⟩:=h
  subst e
  cases r
  exact assignInOrder_nil ⟨σ,H,I,h⟩
theorem vj {e:Expr}{es:List Expr}{t:TG}{u:TGs}(h1:PG X e t)(h2:PGs X es u)
    (hs:(assignEach (e::es) X.env).map (·.2)=assign e X.env::(assignEach es X.env).map (·.2):=by rfl):PGs X (e::es) (Ra t u):=by
  intro pins s σ H vs us Q I r h
  obtain ⟨v,vr,e1,h⟩:=h
  subst e1
  cases r with
  | cons r rr=>
    rw[hs]
    refine assignInOrder_cons (thn (h1 pins s σ H _ _ _ I r h) fun _ s1 ⟨σ1,H1,I1,q1⟩=>?_)
    exact h2 pins s1 σ1 H1 _ _ Q I1 rr q1
def T3 (K:PySem.W.Frag)(n:Nat)(t:TGs):TG:=fun v σ H Q=>∃ a xs,v=.ref a∧SqT K H a xs∧xs.length=n∧t xs σ H Q
theorem GG {es:List Expr}{k:Nat}{t:TGs}{n:Nat}(hc:X.calm=true)(h:PGs X es t)
    (hn:(assignEach es X.env).length=n:=by rfl) (hst:(assignEach es X.env).findIdx? (·.1)=none:=by rfl):PG X (.Tuple es k pos) (T3 X.K n t):=by
  intro pins s σ H v u Q I r hw
  obtain ⟨a,xs,e1,hq,hl,hw⟩:=hw
  subst e1
  cases r
  obtain ⟨its,rv,ht,hz⟩:=I.tuple hq
  refine assign_Tuple_tuple (I.ok.hd hc) ht (by simp[hn,← hl,rv.length]) hst fun h' hx=>?_
  have I1:Inv X pins σ H { s with heap:=h' }:=I.kept (t':=s.toks) fun b o e=>hx b o (Nat.ne_of_lt (Heap.lt_size e)) e
  exact h pins _ σ H xs _ Q I1 (by simpa using rv) hw
def Fs (te:TE)(g:TG):TS:=fun D σ H=>te σ H fun x H1=>g x σ H1 D.nx
theorem Nr {tg e:Expr}{te:TE}{g:TG}(he:PE X e te)(hg:PG X tg g)(hs:swapsWithSole [tg] e pos.line X.env=pure false:=by rfl)(hw:swappedStores [tg] e X.env=pure none:=by rfl)
    (h1:(assignEach [tg] X.env).map (·.2)=[assign tg X.env]:=by rfl):PS X (.Assign [tg] e pos) (Fs te g):=by
  intro pins s σ H D I h
  refine wpAny_Assign_stores (thn (he pins s σ H _ I h) fun v s1 ⟨x,H1,I1,r1,q1⟩=>?_) hs hw
  rw[h1]
  exact thn (hg pins s1 σ H1 x v _ I1 r1 q1) fun _ s2 q=>q
theorem N7 {i:Nat}{x:Str}{e:Expr}{te:TE}{pos':Pos}(hN:X.N.Nodup)(hi:X.N[i]? = some x)(hx:Loc X.env.scope x)(he:PE X e te)(hs:swapsWith e (some (.Name x pos')) pos.line X.env=pure false:=by rfl)(hf:X.fn x=true∨X.env.scope.names.lookup x=some .local:=by first | exact .inl rfl | exact .inr rfl | assumption) :
    PS X (.Assign [.Name x pos'] e pos) (Fs te (kM i)):=by
  intro pins s σ H D I h
  refine wpAny_Assign_Name (thn (he pins s σ H _ I h) fun v s1 ⟨y,H1,I1,r1,q1⟩=>?_) hs
  exact jG I1 hN hi hx r1 (fun s2 I2=>⟨_,H1,I2,q1⟩) hf
def SM (i j:Nat)(ta:TA):TS:=fun D σ H=>ta σ H fun vs H1=>∃ v w,vs=[v,w]∧D.nx ((σ.set i (some v)).set j (some w)) H1
theorem M9 {i j:Nat}{x y:Str}{a b:Expr}{ta:TA}{px py pt:Pos}{kt k2 pt2}(hc:X.calm=true)(hN:X.N.Nodup)(hi:X.N[i]? = some x)(hj:X.N[j]? = some y)(hij:i≠j)
    (hx:X.env.scope.names.lookup x=some .local) (hy:X.env.scope.names.lookup y=some .local) (ha:PA X [a,b] ta)
    (hw:swappedStores [.Tuple [.Name x px,.Name y py] kt pt] (.Tuple [a,b] k2 pt2) X.env=pure (some [x,y]))
    (hs:swapsWithSole [.Tuple [.Name x px,.Name y py] kt pt] (.Tuple [a,b] k2 pt2) pos.line X.env=pure false:=by rfl) :
    PS X (.Assign [.Tuple [.Name x px,.Name y py] kt pt] (.Tuple [a,b] k2 pt2) pos) (SM i j ta):=by
  intro pins s σ H D I h
  rw[exec_Assign_arm]
  refine wpAny_bind (wpAny_standAt ?_)
  rw[hs]
  refine wpAny_bind (wpAny_pure ?_)
  rw[if_neg (by decide)]
  refine wpAny_bind (Tuple_ (thn (ha _ pins s σ H _ I h) fun us s1 ⟨vs,H1,I1,r1,q1⟩=>?_))
  obtain ⟨v,w,e1,q1⟩:=q1
  subst e1
  obtain ⟨u1,u2,rfl,rv,rw'⟩:∃ u1 u2,us=[u1,u2]∧RelV v u1∧RelV w u2:=by
    cases r1 with
    | cons p q=>
      cases q with
      | cons p' q'=>
        cases q'
        exact ⟨_,_,rfl,p,p'⟩
  refine wpAny_newObj_type ?_ (by show 2≤sizeLine;decide)
  have I2:Inv X pins σ H1 { s1 with heap:=s1.heap.push { cls:=.type "tuple", data:=.seq [u1,u2].toArray } }:=I1.kept (t':=s1.toks) fun b o e=>Heap.get?_push_of_some _ e
  rw[hw]
  refine wpAny_bind (wpAny_pure ?_)
  show wpAny (model X.prog X.w) X.A (do rule "assign.swapped-stores";let items ← unpackItems (.ref s1.heap.objs.size) 2 none;assignInOrder [fun v=>bindName X.env y v,fun v=>bindName X.env x v] items.reverse;pure Flow.next) _ _ _
  refine wpAny_bind (wpAny_rule (wpAny_bind (unpackItems_tuple (items:=#[u1,u2]) (I.ok.hd hc) (IsTup.new s1.heap _) fun h' hx'=>?_)))
  have I3:=I2.kept (h':=h') (t':=s1.toks) fun b o e=>hx' b o (Nat.ne_of_lt (Heap.lt_size e)) e
  show wpAny _ _ (assignInOrder [fun v=>bindName X.env y v,fun v=>bindName X.env x v] [u2,u1] >>= fun _=>pure Flow.next) _ _ _
  refine wpAny_bind (assignInOrder_cons (wpAny_bindName (jG I3 hN hj (.inl hy) rw' (fun s2 I4=>?_) (.inr hy))))
  refine assignInOrder_cons (wpAny_bindName (jG I4 hN hi (.inl hx) rv (fun s3 I5=>assignInOrder_nil (wpAny_pure ?_)) (.inr hx)))
  rw[List.set_comm _ _ (Ne.symm hij)] at I5
  exact ⟨_,H1,I5,q1⟩
def Qx (i:Nat)(te:TE)(ti:TIp):TS:=fun D σ H=>∃ x,σ[i]? = some (some x)∧te σ H fun y H1=>ti x y H1 fun z H2=>D.nx (σ.set i (some z)) H2
theorem Nj {i:Nat}{x:Str}{e:Expr}{te:TE}{op:Operator}{ti:TIp}{pos':Pos}(hN:X.N.Nodup)(hi:X.N[i]? = some x)(hx:Loc X.env.scope x)(he:PE X e te)(ho:PIp X op ti)(hf:X.fn x=true∨X.env.scope.names.lookup x=some .local:=by first | exact .inl rfl | exact .inr rfl | assumption) :
    PS X (.AugAssign (.Name x pos') op e pos) (Qx i te ti):=by
  intro pins s σ H D I h
  obtain ⟨v,e1,h⟩:=h
  obtain ⟨m,hn,hl⟩:=I.loc
  have vis:Vis X.env.scope x:=by rcases hx with k | k;exact .inl k;exact .inr (.inl k)
  obtain ⟨u,r,l⟩:=hl i x v hi e1 vis
  refine wpAny_AugAssign_Name ?_
  have go:wpAny (model X.prog X.w) X.A (eval e X.env) (fun w s₂=>wpAny (model X.prog X.w) X.A (inplaceOp op u w) (fun r s₃=>wpAny (model X.prog X.w) X.A (storeName X.env x r) (fun _=>SP X pins D .next) X.xe s₃) X.xe s₂) X.xe s:=by
    refine thn (he pins s σ H _ I h) fun w s1 ⟨y,H1,I1,r1,q1⟩=>?_
    refine thn (ho pins s1 σ H1 v y u w _ I1 r r1 q1) fun z s2 ⟨zv,H2,I2,r2,q2⟩=>?_
    exact jG I2 hN hi hx r2 (fun s3 I3=>⟨_,H2,I3,q2⟩) hf
  rcases l with ⟨hk,hm⟩ | ⟨hk,c,hc,hcell⟩
  · exact wpAny_loadName_local I.ok.kind hk hn hm go
  · rcases hk with hk | hk
    · exact wpAny_loadName_cell I.ok.kind hk hc hcell go
    · rcases hx with k | k
      · have:X.env.scope.names.lookup x=some .free:=hk
        rw[k] at this;cases this
      · have:X.env.scope.names.lookup x=some .free:=hk
        rw[k] at this;cases this
def ipI (f:Int→Int→Int):TIp:=fun x y H Q=>∃ i j,x=.int i∧y=.int j∧Q (.int (f i j)) H
theorem NP:PIp X .Add (ipI fun i j=>i+j):=by
  intro pins s σ H x y v u Q I r1 r2 h
  obtain ⟨i,j,e1,e2,q⟩:=h
  subst e1;subst e2
  obtain ⟨t,rfl⟩:=r1
  obtain ⟨t',rfl⟩:=r2
  exact iadd_int ⟨.int _,H,I.tok _,⟨_,rfl⟩,q⟩
end
section
variable {X:Cx} {pos:Pos}
def Po (c:TT)(tb:TS):TS:=fun D σ H=>∃ W:Nat→St→Hp→Prop,(∃ m,W m σ H)∧∀ m σ H,W m σ H→
  c σ H fun b H1=>if b=true then ∃ N:St→Hp→Prop,(∀ σ' H',N σ' H'→∃ m',m' < m∧W m' σ' H')∧tb { D with nx:=N,ct:=N,bk:=D.nx } σ H1 else D.nx σ H1
theorem Ib {c:Expr}{body:List Stmt}{tc:TT}{tb:TS}(hp:PassesOwn (model X.prog X.w) X.A X.env X.xe)(hc:PT X c tc)(hb:PSs X body tb):PS X (.While c body [] pos) (Po tc tb):=by
  intro pins s σ H D I h
  obtain ⟨W,⟨m0,w0⟩,turn⟩:=h
  refine wpAny_While (codeAny_whileLoop (fun n s'=>∃ σ' H',Inv X pins σ' H' s'∧W n σ' H') ?_ m0 ⟨σ,H,I,w0⟩)
  rintro n s1 ⟨σ1,H1,I1,w1⟩
  refine wpAny_passesOwn hp (thn (hc pins s1 σ1 H1 _ I1 (turn n σ1 H1 w1)) fun b s2 ⟨H2,I2,q2⟩=>?_)
  cases b with
  | true=>
    obtain ⟨N,hN,q2⟩:=q2
    rw[if_pos rfl]
    refine wpAny_passesOwn hp (thn (hb pins s2 σ1 H2 _ I2 q2) fun f s3 q3=>?_)
    cases f with
    | next=>
      obtain ⟨σ3,H3,I3,n3⟩:=q3
      obtain ⟨m',hm,w3⟩:=hN σ3 H3 n3
      exact ⟨m',hm,σ3,H3,I3,w3⟩
    | cont=>
      obtain ⟨σ3,H3,I3,n3⟩:=q3
      obtain ⟨m',hm,w3⟩:=hN σ3 H3 n3
      exact ⟨m',hm,σ3,H3,I3,w3⟩
    | brk=>exact q3
    | ret v=>exact q3
  | false=>
    rw[if_neg Bool.false_ne_true]
    exact wpAny_execs_nil ⟨σ1,H2,I2,q2⟩
end
structure It where
  go:Nat→Hp→Prop
  yld:Nat→Hp→V→Hp→Prop
  stop:Nat→Hp→Prop
def pJ (X:Cx)(pins:List (Addr×Obj))(H:Hp)(b:Addr):Prop:=
  H b=none∧b≠X.env.locals∧b ∉ X.fs∧(b∈X.ex∨X.s₀.heap.objs.size≤b)∧(∀ x c,X.env.cells.lookup x=some c→c≠b)∧∀ p∈X.pn++pins,p.1≠b
theorem Inv.D6 {X:Cx}{pins:List (Addr×Obj)}{σ:St}{H H':Hp}{s:Shared}{b:Addr}(I:Inv X pins σ H s)(hb:s.heap.objs.size≤b)(hn:H' b=none):pJ X pins H' b:=by
  refine ⟨hn,Nat.ne_of_gt (Nat.lt_of_lt_of_le I.lt hb),I.Tp hb,.inr (Nat.le_trans I.sz hb),fun x c e z=>?_,fun p hp z=>?_⟩
  · obtain ⟨v,q⟩:=I.cell x c e
    exact absurd (Nat.lt_of_lt_of_le q.lt (by rw[z];exact hb)) (Nat.lt_irrefl _)
  · exact absurd (Nat.lt_of_lt_of_le (Heap.lt_size (I.pin p hp).1) (by rw[z];exact hb)) (Nat.lt_irrefl _)
structure Turn (P:Program) (w:World) (K:PySem.W.Frag) (tg:Expr) (J:It) (fp:List Addr) (it:Addr) (tn:Nat→Heap→Prop):Prop where
  mem:it∈fp
  obj:∀ i h,tn i h→∀ b∈fp,∃ o,h.get? b=some o∧∀ v,o.data≠.cell v
  keep:∀ i h h',tn i h→(∀ b∈fp,∀ o,h.get? b=some o→h'.get? b=some o)→tn i h'
  item:∀ (X:Cx),X.prog=P→X.w=w→X.K=K→X.calm=true→∀ (i:Nat) (pins:List (Addr×Obj)) (s:Shared) (σ:St) (H:Hp) (E:Value→Shared→Prop),Inv X pins σ H s→(∀ b∈fp,pJ X pins H b)→tn i s.heap→J.go i H→
    wpAny (model P w) X.A (pyNext (.ref it)) (fun r s1=>∃ u,r=some u∧
      wpAny (model P w) X.A (letOwnedTupleGo tg (.ref it) u) (fun _ s2=>∃ x H',Inv X pins σ H' s2∧RelV x u∧J.yld i H x H'∧tn (i+1) s2.heap∧∀ b∈fp,H' b=none) E s1) E s
  done:∀ (X:Cx),X.prog=P→X.w=w→X.K=K→X.calm=true→∀ (i:Nat) (pins:List (Addr×Obj)) (s:Shared) (σ:St) (H:Hp) (E:Value→Shared→Prop),Inv X pins σ H s→(∀ b∈fp,pJ X pins H b)→tn i s.heap→J.stop i H→
    wpAny (model P w) X.A (pyNext (.ref it)) (fun r s1=>r=none∧Inv X pins σ H s1) E s
  self:∀ (A:Around) (i:Nat) (s:Shared) (Q:Value→Shared→Prop) (E:Value→Shared→Prop),tn i s.heap→Q (.ref it) s→wpAny (model P w) A (pyIter (.ref it)) Q E s
abbrev TI:=St→Hp→(It→Hp→Prop)→Prop
def PIE (X:Cx)(pins:List (Addr×Obj))(σ:St)(tg:Expr)(R:It→Hp→Prop)(itv:Value)(s2:Shared):Prop:=
  ∃ (it:Addr) (fp:List Addr) (tn:Nat→Heap→Prop) (J:It) (H':Hp),itv=.ref it∧Inv X pins σ H' s2∧Turn X.prog X.w X.K tg J fp it tn∧tn 0 s2.heap∧(∀ b∈fp,pJ X pins H' b)∧R J H'
def PI (X:Cx)(tg iter:Expr)(wi:TI):Prop:=
  ∀ (pins:List (Addr×Obj)) (s:Shared) (σ:St) (H:Hp) (R:It→Hp→Prop),Inv X pins σ H s→wi σ H R→
    wpAny (model X.prog X.w) X.A (eval iter X.env) (fun v s1=>wpAny (model X.prog X.w) X.A (pyIter v) (PIE X pins σ tg R) X.xe s1) X.xe s
theorem EN {M:Model}{A:Around}{E:Value→Shared→Prop}{s:Shared}{tg:Expr}{it:Addr}{u:Value}{o:Obj}{n:String}{vs:Array Value}{Q:Unit→Shared→Prop}(ho:s.heap.get? it=some o)(hc:o.cls=.type n)(hd:o.data=.fields vs)
    (hn:["enumerate", "zip", "dict_itemiterator", "dict_reverseitemiterator", "odict_iterator", "itertools.zip_longest", "itertools.pairwise"].contains n=false) (hQ:Q () s):wpAny M A (letOwnedTupleGo tg (.ref it) u) Q E s:=by
  unfold letOwnedTupleGo
  cases tg<;>first
    | exact wpAny_pure hQ
    | (cases u<;>first
        | exact wpAny_pure hQ
        | (refine wpAny_bind (wpAny_load ho ?_)
           rw[hc,hd]
           show wpAny M A (if (["enumerate", "zip", "dict_itemiterator", "dict_reverseitemiterator", "odict_iterator", "itertools.zip_longest", "itertools.pairwise"].contains n&&vs[0]? == some (rawInt _))=true then _ else _) Q E s
           rw[if_neg (by intro h;rw[hn,Bool.false_and] at h;cases h)]
           exact wpAny_pure hQ))
def Itl (K:PySem.W.Frag)(a:Addr):It:=
  ⟨fun i H=>∃ xs x,SqL K H a xs∧xs[i]? = some x,fun i H x H'=>H'=H∧∀ xs,SqL K H a xs→xs[i]? = some x,fun i H=>∃ xs,SqL K H a xs∧xs.length≤i⟩
def Itt (K:PySem.W.Frag)(a:Addr):It:=
  ⟨fun i H=>∃ xs x,SqT K H a xs∧xs[i]? = some x,fun i H x H'=>H'=H∧∀ xs,SqT K H a xs→xs[i]? = some x,fun i H=>∃ xs,SqT K H a xs∧xs.length≤i⟩
def Itr (lo:Int)(n:Nat):It:=⟨fun i _=>i < n,fun i H x H'=>H'=H∧x=.int (lo+i),fun i _=>n≤i⟩
theorem sM {P:Program}{w:World}{K:PySem.W.Frag}{tg:Expr}(a it:Addr):Turn P w K tg (Itl K a) [it] it (fun i h=>h.IsListIter it a i) where
  mem:=by simp
  obj:=fun i h st b hb=>by
    have e:b=it:=by simpa using hb
    subst e
    obtain ⟨o,e,c,d⟩:=st
    exact ⟨o,e,fun v z=>by rw[d] at z;cases z⟩
  keep:=fun i h h' st k=>st.at fun o e=>k it (by simp) o e
  item:=by
    intro X hP hw hK hc i pins s σ H E I hf st hg
    subst hP hw hK
    obtain ⟨xs,x,hq,hx⟩:=hg
    obtain ⟨its,rv,p,hz⟩:=I.list hq
    obtain ⟨u,hu,ru⟩:=rv.get hx
    obtain ⟨f0,f1,f2,f3,f4,f5⟩:=hf it (by simp)
    refine wpAny_pyNext_list_item st p.isList (x:=u) (by simpa using hu) fun h' st' sb=>?_
    have I1:Inv X pins σ H { s with heap:=h' }:=I.turned (t':=s.toks) (fun b o hb e=>(sb.2 b hb).trans e) f0 f1 f3 f4 f5
    obtain ⟨o,e,c,d⟩:=id st'
    exact ⟨u,rfl,EN (s:={ s with heap:=h' }) e c d (by decide) ⟨x,H,I1,ru,⟨rfl,fun ys hy=>by rw[I.yz hy hq];exact hx⟩,st',fun b hb=>(hf b hb).1⟩⟩
  done:=by
    intro X hP hw hK hc i pins s σ H E I hf st hg
    subst hP hw hK
    obtain ⟨xs,hq,hx⟩:=hg
    obtain ⟨its,rv,p,hz⟩:=I.list hq
    obtain ⟨f0,f1,f2,f3,f4,f5⟩:=hf it (by simp)
    have hl:=rv.length
    exact wpAny_pyNext_list_end (I.ok.hd hc) st p.isList (by simp;omega) fun h' eb=>⟨rfl,I.turned (t':=s.toks) (fun b o hb e=>eb b o hb e) f0 f1 f3 f4 f5⟩
  self:=fun _ _ _ _ _ st h=>wpAny_pyIter_listiter st h
theorem zl {P:Program}{w:World}{K:PySem.W.Frag}{tg:Expr}(a it:Addr):Turn P w K tg (Itt K a) [it] it (fun i h=>h.IsTupleIter it a i) where
  mem:=by simp
  obj:=fun i h st b hb=>by
    have e:b=it:=by simpa using hb
    subst e
    obtain ⟨o,e,c,d⟩:=st
    exact ⟨o,e,fun v z=>by rw[d] at z;cases z⟩
  keep:=fun i h h' st k=>st.at fun o e=>k it (by simp) o e
  item:=by
    intro X hP hw hK hc i pins s σ H E I hf st hg
    subst hP hw hK
    obtain ⟨xs,x,hq,hx⟩:=hg
    obtain ⟨its,rv,p,hz⟩:=I.tuple hq
    obtain ⟨u,hu,ru⟩:=rv.get hx
    obtain ⟨f0,f1,f2,f3,f4,f5⟩:=hf it (by simp)
    refine wpAny_pyNext_tuple_item st (show s.heap.IsTuple a its.toArray from p) (x:=u) (by simpa using hu) fun h' st' sb=>?_
    have I1:Inv X pins σ H { s with heap:=h' }:=I.turned (t':=s.toks) (fun b o hb e=>(sb.2 b hb).trans e) f0 f1 f3 f4 f5
    obtain ⟨o,e,c,d⟩:=id st'
    exact ⟨u,rfl,EN (s:={ s with heap:=h' }) e c d (by decide) ⟨x,H,I1,ru,⟨rfl,fun ys hy=>by rw[I.tE hy hq];exact hx⟩,st',fun b hb=>(hf b hb).1⟩⟩
  done:=by
    intro X hP hw hK hc i pins s σ H E I hf st hg
    subst hP hw hK
    obtain ⟨xs,hq,hx⟩:=hg
    obtain ⟨its,rv,p,hz⟩:=I.tuple hq
    obtain ⟨f0,f1,f2,f3,f4,f5⟩:=hf it (by simp)
    have hl:=rv.length
    exact wpAny_pyNext_tuple_end (I.ok.hd hc) st (show s.heap.IsTuple a its.toArray from p) (by simp;omega) fun h' eb=>⟨rfl,I.turned (t':=s.toks) (fun b o hb e=>eb b o hb e) f0 f1 f3 f4 f5⟩
  self:=fun _ _ _ _ _ st h=>wpAny_pyIter_tupleiter st h
theorem AX {P:Program}{w:World}{K:PySem.W.Frag}{tg:Expr}(it:Addr)(lo:Int)(n:Nat):Turn P w K tg (Itr lo n) [it] it (fun i h=>IsRangeIter h it (lo+(i:Nat)*1) ((n:Int) - (i:Nat)) 1) where
  mem:=by simp
  obj:=fun i h st b hb=>by
    have e:b=it:=by simpa using hb
    subst e
    exact ⟨_,st,fun v z=>by
      have z':Data.fields _=Data.cell v:=z
      cases z'⟩
  keep:=fun i h h' st k=>k it (by simp) _ st
  item:=by
    intro X hP hw hK hc i pins s σ H E I hf st hg
    subst hP hw hK
    obtain ⟨f0,f1,f2,f3,f4,f5⟩:=hf it (by simp)
    have W:=Walks.range (prog:=X.prog) (w:=X.w) (I.ok.hd hc) it lo 1 n
    refine W.item i s _ _ hg st fun v h' tk hv st' kk=>?_
    obtain ⟨t,rfl⟩:=hv
    have I1:Inv X pins σ H { s with heap:=h',toks:=tk }:=I.turned (fun b o hb e=>kk b o (by simpa using hb) e) f0 f1 f3 f4 f5
    refine ⟨_,rfl,EN (s:={ s with heap:=h',toks:=tk }) (n := "range_iterator") st' rfl rfl (by decide) ⟨.int (lo+i),H,I1,⟨t,?_⟩,⟨rfl,rfl⟩,st',fun b hb=>(hf b hb).1⟩⟩
    rw[Int.mul_one]
  done:=by
    intro X hP hw hK hc i pins s σ H E I hf st hg
    subst hP hw hK
    obtain ⟨f0,f1,f2,f3,f4,f5⟩:=hf it (by simp)
    exact wpAny_pyNext_range_end (I.ok.hd hc) st (by have:n≤i:=hg;omega) fun h' eb=>⟨rfl,I.turned (t':=s.toks) (fun b o hb e=>eb b o hb e) f0 f1 f3 f4 f5⟩
  self:=fun _ _ _ _ _ st h=>wpAny_pyIter_rangeiter st h
end L2
namespace L2
open PySem PySem.Spec PyProof.Rows
section
variable {X:Cx} {tg:Expr}
def MF (K:PySem.W.Frag)(tl:TE):TI:=fun σ H R=>tl σ H fun x H1=>∃ a,x=.ref a∧(∃ xs,SqL K H1 a xs)∧R (Itl K a) H1
theorem B8 {l:Expr}{tl:TE}(hl:PE X l tl):PI X tg l (MF X.K tl):=by
  intro pins s σ H R I h
  refine thn (hl pins s σ H _ I h) fun v s1 ⟨x,H1,I1,r1,q1⟩=>?_
  obtain ⟨a,e,⟨xs,hq⟩,q⟩:=q1
  subst e
  cases r1
  obtain ⟨its,rv,p,hz⟩:=I1.list hq
  refine wpAny_pyIter_list p.isList ?_
  refine ⟨s1.heap.objs.size,[s1.heap.objs.size],_,_,H1,rfl,I1.kept (t':=s1.toks) fun b o e=>Heap.get?_push_of_some _ e,sM a _,⟨_,Heap.get?_push_size _ rfl,rfl,rfl⟩,fun b hb=>?_,q⟩
  have e:b=s1.heap.objs.size:=by simpa using hb
  subst e
  exact I1.D6 (Nat.le_refl _) (I1.hok.fresh (Nat.le_refl _))
theorem FR {pins:List (Addr×Obj)}{σ:St}{H:Hp}{s:Shared}{R:It→Hp→Prop}{E:Value→Shared→Prop}{lo hi:Int}{t u v:Tok}{tk:Nat}(I:Inv X pins σ H s)(h1:-(2 ^ 62)≤lo)(h2:lo < 2 ^ 62)(h3:-(2 ^ 62)≤hi)(h4:hi < 2 ^ 62)
    (q:R (Itr lo (hi - lo).toNat) H):wpAny (model X.prog X.w) X.A (pyIter (.ref s.heap.objs.size)) (PIE X pins σ tg R) E { s with heap:=s.heap.push { cls:=.type "range", data:=.fields #[.int lo t,.int hi u,.int 1 v] },toks:=tk }:=by
  refine wpAny_pyIter_range (IsRange.new ..) (small_one h1 h2 h3 h4) ?_
  have I1:Inv X pins σ H { s with heap:=s.heap.push { cls:=.type "range", data:=.fields #[.int lo t,.int hi u,.int 1 v] },toks:=tk }:=I.kept fun b o e=>Heap.get?_push_of_some _ e
  refine ⟨(s.heap.push { cls:=.type "range", data:=.fields #[.int lo t,.int hi u,.int 1 v] }).objs.size,[(s.heap.push { cls:=.type "range", data:=.fields #[.int lo t,.int hi u,.int 1 v] }).objs.size],_,_,H,rfl,
    I1.kept (t':=tk) fun b o e=>Heap.get?_push_of_some _ e,AX _ lo (hi - lo).toNat,?_,fun b hb=>?_,q⟩
  · have e1:lo+((0:Nat):Int)*1=lo:=by simp
    have e2:(((hi - lo).toNat:Nat):Int) - ((0:Nat):Int)=Builtin.Range.rangeSize lo hi 1:=by rw[rangeSize_one];split<;>omega
    show IsRangeIter _ _ (lo+((0:Nat):Int)*1) ((((hi - lo).toNat:Nat):Int) - ((0:Nat):Int)) 1
    rw[e1,e2]
    exact Heap.get?_push_size _ rfl
  · have e:b=(s.heap.push { cls:=.type "range", data:=.fields #[.int lo t,.int hi u,.int 1 v] }).objs.size:=by simpa using hb
    subst e
    exact I1.D6 (Nat.le_refl _) (I1.hok.fresh (Nat.le_refl _))
def Rv (ta:TA):TI:=fun σ H R=>ta σ H fun vs H1=>∃ j:Int,vs=[.int j]∧-(2 ^ 62)≤j∧j < 2 ^ 62∧R (Itr 0 j.toNat) H1
theorem CM {a:Expr}{ta:TA}{p pos:Pos}(hg:Gl X "range")(hm:X.mg "range" = none)(ha:PA X [a] ta)(hs:starEach [a] X.env=[(false,eval a X.env)]:=by rfl):PI X tg (.Call (.Name "range" p) [a] [] pos) (Rv ta):=by
  intro pins s σ H R I h
  refine Call_ (i3 I hg hm boot_range (PyProof.Rows.callWith_type1 (thn (ha pos pins s σ H _ I h) fun us s1 ⟨vs,H1,I1,r1,q1⟩=>?_) hs rfl))
  obtain ⟨j,e,q1,q2,q⟩:=q1
  subst e
  cases r1 with
  | cons r rr=>
    cases rr
    obtain ⟨t,rfl⟩:=r
    exact call_range_1 (FR I1 (by omega) (by omega) q1 q2 (by simpa using q))
def Tr (wi:TI)(g:TG)(tb:TS):TS:=fun D σ H=>wi σ H fun J H1=>∃ W:Nat→Nat→St→Hp→Prop,(∃ m,W 0 m σ H1)∧∀ i m σ H,W i m σ H→
  (J.stop i H∧D.nx σ H)∨(J.go i H∧∃ N:St→Hp→Prop,(∀ σ' H',N σ' H'→∃ m',m' < m∧W (i+1) m' σ' H')∧∀ x H',J.yld i H x H'→g x σ H' fun σ2 H2=>tb { D with nx:=N,ct:=N,bk:=D.nx } σ2 H2)
def qr (fp:List Addr)(h:Heap):List (Addr×Obj):=fp.filterMap fun b=>(h.get? b).map fun o=>(b,o)
theorem gE {fp:List Addr}{h:Heap}{b:Addr}{o:Obj}(hb:b∈fp)(e:h.get? b=some o):(b,o)∈qr fp h:=List.mem_filterMap.mpr ⟨b,hb,by rw[e];rfl⟩
theorem DY {fp:List Addr}{h:Heap}{p:Addr×Obj}(hp:p∈qr fp h):p.1∈fp∧h.get? p.1=some p.2:=by
  obtain ⟨b,hb,e⟩:=List.mem_filterMap.mp hp
  cases q:h.get? b with
  | none=>rw[q] at e;cases e
  | some o=>
    rw[q] at e
    have e':(b,o)=p:=Option.some.inj e
    subst e'
    exact ⟨hb,q⟩
theorem Inv.pinned {pins:List (Addr×Obj)}{σ:St}{H:Hp}{s:Shared}{fp:List Addr}(I:Inv X pins σ H s)(hf:∀ b∈fp,pJ X pins H b)(ho:∀ b∈fp,∃ o,s.heap.get? b=some o∧∀ v,o.data≠.cell v):Inv X (pins++qr fp s.heap) σ H s:=
  I.BS fun p hp=>(List.mem_append.mp hp).elim (fun z=>I.pin p (List.mem_append_right _ z)) fun z=>by
    obtain ⟨hb,e⟩:=DY z
    obtain ⟨f0,f1,f2,_⟩:=hf p.1 hb
    obtain ⟨o,e',d⟩:=ho p.1 hb
    rw[e] at e';cases e'
    exact ⟨e,f0,f1,f2,d⟩
theorem Inv.jP {pins pl:List (Addr×Obj)}{σ:St}{H:Hp}{s:Shared}(I:Inv X (pins++pl) σ H s):Inv X pins σ H s:=I.BS fun p hp=>I.pin p (List.mem_append_right _ (List.mem_append_left _ hp))
theorem Pg {iter:Expr}{body:List Stmt}{wi:TI}{g:TG}{tb:TS}{pos:Pos}(hp:PassesOwn (model X.prog X.w) X.A X.env X.xe)(hc:X.calm=true)(hi:PI X tg iter wi)(hg:PG X tg g)(hb:PSs X body tb)
    (hs:∀ x,foldedSetIterable iter X.env x=pure x:=by intro _;rfl):PS X (.For tg iter body [] pos) (Tr wi g tb):=by
  intro pins s σ H D I h
  refine wpAny_For (thn (hi pins s σ H _ I h) fun v s1 h1=>thn h1 fun itv s2 h2=>?_) hs
  obtain ⟨it,fp,tn,J,H2,e,I2,T,st2,f2,W,⟨m0,w0⟩,turn⟩:=h2
  subst e
  -- what stays true of the iterator's objects through the loop
  have y4:∀ {H':Hp},(∀ b∈fp,H' b=none)→∀ b∈fp,pJ X pins H' b:=fun hn b hb=>⟨hn b hb,(f2 b hb).2⟩
  refine codeAny_forLoop_any (fun n s'=>∃ i σ' H',Inv X pins σ' H' s'∧tn i s'.heap∧(∀ b∈fp,H' b=none)∧W i n σ' H') ?_ m0 ⟨0,σ,H2,I2,st2,fun b hb=>(f2 b hb).1,w0⟩
  rintro n s3 ⟨i,σ3,H3,I3,st3,fr3,w3⟩
  rcases turn i n σ3 H3 w3 with ⟨stop,qn⟩ | ⟨go,N,hN,step⟩
  · refine wpAny_passesOwn hp (thn (T.done X rfl rfl rfl hc i pins s3 σ3 H3 X.xe I3 (y4 fr3) st3 stop) fun r s4 ⟨hr,I4⟩=>?_)
    subst hr
    exact wpAny_execs_nil ⟨σ3,H3,I4,qn⟩
  · refine wpAny_passesOwn hp (thn (T.item X rfl rfl rfl hc i pins s3 σ3 H3 X.xe I3 (y4 fr3) st3 go) fun r s4 ⟨u,hr,h4⟩=>?_)
    subst hr
    refine wpAny_passesOwn hp (thn h4 fun _ s5 ⟨x,H5,I5,r5,y5,st5,fr5⟩=>?_)
    have I5':=I5.pinned (y4 fr5) (T.obj _ _ st5)
    refine wpAny_passesOwn hp (thn (hg _ s5 σ3 H5 x u _ I5' r5 (step x H5 y5)) fun _ s6 ⟨σ6,H6,I6,q6⟩=>?_)
    refine wpAny_passesOwn hp (thn (hb _ s6 σ6 H6 _ I6 q6) fun f s7 q7=>?_)
    have again:∀ {σ7:St} {H7:Hp},Inv X (pins++qr fp s5.heap) σ7 H7 s7→N σ7 H7→∃ m,m < n∧∃ i σ' H',Inv X pins σ' H' s7∧tn i s7.heap∧(∀ b∈fp,H' b=none)∧W i m σ' H':=fun {σ7 H7} I7 n7=>by
      obtain ⟨m',hm,w7⟩:=hN σ7 H7 n7
      refine ⟨m',hm,i+1,σ7,H7,I7.jP,T.keep _ _ _ st5 fun b hb o e=>(I7.pin (b,o) (List.mem_append_right _ (List.mem_append_right _ (gE hb e)))).1,fun b hb=>?_,w7⟩
      obtain ⟨o,e,d⟩:=T.obj _ _ st5 b hb
      exact (I7.pin (b,o) (List.mem_append_right _ (List.mem_append_right _ (gE hb e)))).2.1
    cases f with
    | next=>obtain ⟨σ7,H7,I7,n7⟩:=q7;exact again I7 n7
    | cont=>obtain ⟨σ7,H7,I7,n7⟩:=q7;exact again I7 n7
    | brk=>obtain ⟨σ7,H7,I7,q7⟩:=q7;exact ⟨σ7,H7,I7.jP,q7⟩
    | ret v=>obtain ⟨x7,σ7,H7,I7,r7,q7⟩:=q7;exact ⟨x7,σ7,H7,I7.jP,r7,q7⟩
end
end L2
namespace L2
open PySem PySem.Spec PyProof.Rows
abbrev R2:=V→V→Hp→VK→Prop
def OpR (X:Cx)(f:Value→Value→Sem Value)(r:R2):Prop:=
  ∀ (pins:List (Addr×Obj)) (s:Shared) (σ:St) (H:Hp) (x y:V) (v u:Value) (Q:VK),Inv X pins σ H s→RelV x v→RelV y u→r x y H Q→
    wpAny (model X.prog X.w) X.A (f v u) (EP X pins σ Q) X.xe s
def UnR (X:Cx)(f:Value→Sem Value)(r:V→Hp→VK→Prop):Prop:=
  ∀ (pins:List (Addr×Obj)) (s:Shared) (σ:St) (H:Hp) (x:V) (v:Value) (Q:VK),Inv X pins σ H s→RelV x v→r x H Q→
    wpAny (model X.prog X.w) X.A (f v) (EP X pins σ Q) X.xe s
def cH (X:Cx)(f:Value)(r:List V→Hp→VK→Prop):Prop:=
  ∀ (pins:List (Addr×Obj)) (s:Shared) (σ:St) (H:Hp) (xs:List V) (us:List Value) (Q:VK),Inv X pins σ H s→Vals xs us→r xs H Q→
    wpAny (model X.prog X.w) X.A (call f us) (EP X pins σ Q) X.xe s
def tOp (r:R2)(ta tb:TE):TE:=fun σ H Q=>ta σ H fun x H1=>tb σ H1 fun y H2=>r x y H2 Q
def tUn (r:V→Hp→VK→Prop)(ta:TE):TE:=fun σ H Q=>ta σ H fun x H1=>r x H1 Q
def rI (C:Int→Int→Prop)(g:Int→Int→V):R2:=fun x y H Q=>∃ i j,x=.int i∧y=.int j∧C i j∧Q (g i j) H
def rI0 (g:Int→Int→V):R2:=fun x y H Q=>∃ i j,x=.int i∧y=.int j∧Q (g i j) H
def rU (g:Int→V):V→Hp→VK→Prop:=fun x H Q=>∃ i,x=.int i∧Q (g i) H
section
variable {X:Cx} {a b c:Expr} {ta tb tc:TE} {pos:Pos}
theorem Nh (ha:PE X a ta)(hb:PE X b tb){pins:List (Addr×Obj)}{s:Shared}{σ:St}{H:Hp}{R:V→V→Hp→Prop}(I:Inv X pins σ H s)
    (h:ta σ H fun x H1=>tb σ H1 fun y H2=>R x y H2) {Q:Value→Shared→Prop} {f:Value→Value→Sem Value}
    (hf:∀ v u s2 x y H2,Inv X pins σ H2 s2→RelV x v→RelV y u→R x y H2→wpAny (model X.prog X.w) X.A (f v u) Q X.xe s2) :
    wpAny (model X.prog X.w) X.A (eval a X.env) (fun v s₁=>wpAny (model X.prog X.w) X.A (eval b X.env) (fun u s₂=>wpAny (model X.prog X.w) X.A (f v u) Q X.xe s₂) X.xe s₁) X.xe s:=by
  refine thn (ha pins s σ H _ I h) fun v s1 ⟨x,H1,I1,r1,q1⟩=>?_
  refine thn (hb pins s1 σ H1 _ I1 q1) fun u s2 ⟨y,H2,I2,r2,q2⟩=>?_
  exact hf v u s2 x y H2 I2 r1 r2 q2
theorem Mv {op:Operator}{r:R2}(ho:OpR X (binaryOp op) r)(ha:PE X a ta)(hb:PE X b tb):PE X (.BinOp a op b pos) (tOp r ta tb):=by
  intro pins s σ H Q I h
  exact wpAny_BinOp (Nh ha hb I h fun v u s2 x y H2 I2 rx ry q=>ho pins s2 σ H2 x y v u Q I2 rx ry q)
theorem QD {op:UnaryOp}{r:V→Hp→VK→Prop}(ho:UnR X (unaryOp op) r)(ha:PE X a ta):PE X (.UnaryOp op a pos) (tUn r ta):=by
  intro pins s σ H Q I h
  exact UnaryOp_ (thn (ha pins s σ H _ I h) fun v s1 ⟨x,H1,I1,r1,q1⟩=>ho pins s1 σ H1 x v Q I1 r1 q1)
theorem opI {f:Value→Value→Sem Value}{C:Int→Int→Prop}{g:Int→Int→Int}
    (rule:∀ (i j:Int) (t u:Tok) (s:Shared) (Q:Value→Shared→Prop) (E:Value→Shared→Prop),C i j→Q (.int (g i j) s.toks) { s with toks:=s.toks+1 }→wpAny (model X.prog X.w) X.A (f (.int i t) (.int j u)) Q E s) :
    OpR X f (rI C fun i j=>.int (g i j)):=by
  intro pins s σ H x y v u Q I rx ry h
  obtain ⟨i,j,rfl,rfl,hc,q⟩:=h
  obtain ⟨t,rfl⟩:=rx
  obtain ⟨t',rfl⟩:=ry
  exact rule i j t t' s _ _ hc ⟨.int (g i j),H,I.tok _,⟨_,rfl⟩,q⟩
theorem Qs {f:Value→Value→Sem Value}{g:Int→Int→Int}
    (rule:∀ (i j:Int) (t u:Tok) (s:Shared) (Q:Value→Shared→Prop) (E:Value→Shared→Prop),Q (.int (g i j) s.toks) { s with toks:=s.toks+1 }→wpAny (model X.prog X.w) X.A (f (.int i t) (.int j u)) Q E s) :
    OpR X f (rI0 fun i j=>.int (g i j)):=by
  intro pins s σ H x y v u Q I rx ry h
  obtain ⟨i,j,rfl,rfl,q⟩:=h
  obtain ⟨t,rfl⟩:=rx
  obtain ⟨t',rfl⟩:=ry
  exact rule i j t t' s _ _ ⟨.int (g i j),H,I.tok _,⟨_,rfl⟩,q⟩
theorem NW {f:Value→Value→Sem Value}{g:Int→Int→Bool}
    (rule:∀ (i j:Int) (t u:Tok) (s:Shared) (Q:Value→Shared→Prop) (E:Value→Shared→Prop),Q (.bool (g i j)) s→wpAny (model X.prog X.w) X.A (f (.int i t) (.int j u)) Q E s) :
    OpR X f (rI0 fun i j=>.bl (g i j)):=by
  intro pins s σ H x y v u Q I rx ry h
  obtain ⟨i,j,rfl,rfl,q⟩:=h
  obtain ⟨t,rfl⟩:=rx
  obtain ⟨t',rfl⟩:=ry
  exact rule i j t t' s _ _ ⟨.bl (g i j),H,I,rfl,q⟩
def SU (i j:Int):Prop:=0≤j∧j≤1000000∧i.natAbs < 2 ^ 64
def Rw (i j:Int):Prop:=(-(2 ^ 64) < i∧i < 2 ^ 64)∨(-(2 ^ 64) < j∧j < 2 ^ 64)
theorem Rw.ok {i j:Int}(h:Rw i j):IntMulOk i j:=by
  rcases h with ⟨h1,h2⟩ | ⟨h1,h2⟩
  · exact .of_left (intBits_le_64 h1 h2)
  · exact .of_right (intBits_le_64 h1 h2)
theorem Nw:OpR X (binaryOp .Add) (rI0 fun i j=>.int (i+j)):=Qs fun _ _ _ _ _ _ _ q=>add_int q
theorem Ou:OpR X (binaryOp .Sub) (rI0 fun i j=>.int (i - j)):=Qs fun _ _ _ _ _ _ _ q=>sub_int q
theorem Ld:OpR X (binaryOp .Mod) (rI (fun _ j=>j≠0) fun i j=>.int (i.fmod j)):=opI fun _ _ _ _ _ _ _ hc q=>mod_int' hc q
theorem Ni:OpR X (binaryOp .Pow) (rI SU fun i j=>.int (i ^ j.toNat)):=opI fun _ _ _ _ _ _ _ hc q=>pow_int_small hc.1 hc.2.1 hc.2.2 q
theorem unI {f:Value→Sem Value}{g:Int→Int}
    (rule:∀ (i:Int) (t:Tok) (s:Shared) (Q:Value→Shared→Prop) (E:Value→Shared→Prop),Q (.int (g i) s.toks) { s with toks:=s.toks+1 }→wpAny (model X.prog X.w) X.A (f (.int i t)) Q E s) :
    UnR X f (rU fun i=>.int (g i)):=by
  intro pins s σ H x v Q I rx h
  obtain ⟨i,rfl,q⟩:=h
  obtain ⟨t,rfl⟩:=rx
  exact rule i t s _ _ ⟨.int (g i),H,I.tok _,⟨_,rfl⟩,q⟩
theorem Oh:UnR X (unaryOp .USub) (rU fun i=>.int (-i)):=unI fun _ _ _ _ _ q=>neg_int q
end
def R9:V→V→Bool
  | .non,.non=>true | .non,.int _=>true | .int _,.non=>true | .non,.bl _=>true | .bl _,.non=>true | .non,.str _=>true | .str _,.non=>true
  | .int _,.int _=>true | .bl _,.bl _=>true | .str _,.str _=>true | .byt _,.byt _=>true
  | .int _,.str _=>true | .str _,.int _=>true | .bl _,.str _=>true | .str _,.bl _=>true
  | _,_=>false
def rEq:R2:=fun x y H Q=>R9 x y=true∧Q (.bl (decide (x=y))) H
def rNe:R2:=fun x y H Q=>R9 x y=true∧Q (.bl (!decide (x=y))) H
section
variable {X:Cx} {a b c:Expr} {ta tb tc:TE} {pos:Pos}
theorem OK {pins:List (Addr×Obj)}{σ:St}{H:Hp}{s:Shared}{Q:VK}{k k':Bool}(I:Inv X pins σ H s)(q:Q (.bl k) H)(e:k=k'):EP X pins σ Q (.bool k') s:=by
  subst e
  exact ⟨.bl k,H,I,rfl,q⟩
theorem Mn:OpR X (compareOp .Lt) (rI0 fun i j=>.bl (decide (i < j))):=NW fun _ _ _ _ _ _ _ q=>lt_int q
theorem Qo:OpR X (compareOp .Gt) (rI0 fun i j=>.bl (decide (j < i))):=NW fun _ _ _ _ _ _ _ q=>gt_int q
theorem QT:OpR X (compareOp .GtE) (rI0 fun i j=>.bl (decide (j≤i))):=NW fun _ _ _ _ _ _ _ q=>ge_int q
theorem Hc:OpR X (compareOp .Is) (fun x y H Q=>y=.non∧Q (.bl (decide (x=.non))) H):=by
  intro pins s σ H x y v u Q I rx ry h
  obtain ⟨rfl,q⟩:=h
  cases ry
  refine is_none_gen (OK I q ?_)
  cases x<;>first
    | (cases rx;rfl)
    | (obtain ⟨t,rfl⟩:=rx;rfl)
theorem OpR.or {f:Value→Value→Sem Value}{r r':R2}(h:OpR X f r)(h':OpR X f r'):OpR X f (fun x y H Q=>r x y H Q∨r' x y H Q):=by
  intro pins s σ H x y v u Q I rx ry q
  rcases q with q | q
  · exact h pins s σ H x y v u Q I rx ry q
  · exact h' pins s σ H x y v u Q I rx ry q
theorem hX (b:Expr){op:CmpOp}(h:op≠.In:=by decide)(h2:op≠.NotIn:=by decide):behindInMarks op b=false:=by
  have e1:(op == CmpOp.In)=false:=by cases op<;>first | rfl | exact absurd rfl h
  have e2:(op == CmpOp.NotIn)=false:=by cases op<;>first | rfl | exact absurd rfl h2
  cases b<;>simp[behindInMarks,e1,e2]
theorem JU {op:CmpOp}{r:R2}(ho:OpR X (compareOp op) r)(ha:PE X a ta)(hb:PE X b tb)(hm:behindInMarks op b=false):PE X (.Compare a [op] [b] pos) (tOp r ta tb):=by
  intro pins s σ H Q I h
  exact wpAny_Compare1 (Nh ha hb I h fun v u s2 x y H2 I2 rx ry q=>ho pins s2 σ H2 x y v u Q I2 rx ry q) hm
def MI (t:TE):TT:=fun σ H Q=>t σ H fun x H'=>∃ k,x=.bl k∧Q k H'
theorem LF {op:CmpOp}{r:R2}(ho:OpR X (compareOp op) r)(ha:PE X a ta)(hb:PE X b tb)(hm:behindInMarks op b=false):PT X (.Compare a [op] [b] pos) (MI (tOp r ta tb)):=by
  intro pins s σ H Q I h
  refine wpAny_isTrue_Compare1 (thn (ha pins s σ H _ I h) fun v s1 ⟨x,H1,I1,r1,q1⟩=>thn (hb pins s1 σ H1 _ I1 q1) fun u s2 ⟨y,H2,I2,r2,q2⟩=>
    thn (ho pins s2 σ H2 x y v u _ I2 r1 r2 q2) fun c s3 ⟨z,H3,I3,r3,k,e,q3⟩=>?_) hm
  subst e
  cases r3
  exact wpAny_truthy_bool ⟨H3,I3,q3⟩
theorem pF:(sizeLine:Nat) < 2 ^ 63:=by rw[sizeLine_eq];decide
theorem zf:OpR X (binaryOp .Add) (fun x y H Q=>∃ i j,x=.str i∧y=.str j∧i.length+j.length≤sizeLine∧Q (.str (i++j)) H):=by
  intro pins s σ H x y v u Q I rx ry h
  obtain ⟨i,j,rfl,rfl,hz,q⟩:=h
  obtain ⟨t,rfl⟩:=rx
  obtain ⟨t',rfl⟩:=ry
  exact add_str (fun t' tk=>⟨.str (i++j),H,I.tok _,⟨_,rfl⟩,q⟩) hz
theorem vals1 {x:V}{us:List Value}(r:Vals [x] us):∃ u,us=[u]∧RelV x u:=by
  cases r with
  | cons r1 r2=>cases r2;exact ⟨_,rfl,r1⟩
theorem vals2 {x y:V}{us:List Value}(r:Vals [x,y] us):∃ u w',us=[u,w']∧RelV x u∧RelV y w':=by
  cases r with
  | cons r1 r2=>
    cases r2 with
    | cons r3 r4=>cases r4;exact ⟨_,_,rfl,r1,r3⟩
theorem vG:cH X (.builtin "abs") (fun xs H Q=>∃ i,xs=[.int i]∧Q (.int (if i < 0 then -i else i)) H):=by
  intro pins s σ H xs us Q I r h
  obtain ⟨i,rfl,q⟩:=h
  obtain ⟨u,rfl,t,rfl⟩:=vals1 r
  exact call_abs_int fun u tk=>⟨.int (if i < 0 then -i else i),H,I.tok _,⟨_,rfl⟩,q⟩
theorem sE (hc:X.calm=true):cH X (.builtin "max") (fun xs H Q=>∃ i j,xs=[.int i,.int j]∧Q (.int (if j > i then j else i)) H):=by
  intro pins s σ H xs us Q I r h
  obtain ⟨i,j,rfl,q⟩:=h
  obtain ⟨u,w',rfl,⟨t,rfl⟩,⟨t',rfl⟩⟩:=vals2 r
  refine max_two_ints (I.ok.hd hc) fun h' tk k=>⟨_,H,I.kept k,?_,q⟩
  by_cases hj:j > i
  · rw[if_pos hj,if_pos hj];exact ⟨_,rfl⟩
  · rw[if_neg hj,if_neg hj];exact ⟨_,rfl⟩
theorem CH (hc:X.calm=true):cH X (.builtin "min") (fun xs H Q=>∃ i j,xs=[.int i,.int j]∧Q (.int (if j < i then j else i)) H):=by
  intro pins s σ H xs us Q I r h
  obtain ⟨i,j,rfl,q⟩:=h
  obtain ⟨u,w',rfl,⟨t,rfl⟩,⟨t',rfl⟩⟩:=vals2 r
  refine min_two_ints (I.ok.hd hc) fun h' tk k=>⟨_,H,I.kept k,?_,q⟩
  by_cases hj:j < i
  · rw[if_pos hj,if_pos hj];exact ⟨_,rfl⟩
  · rw[if_neg hj,if_neg hj];exact ⟨_,rfl⟩
end
end L2
namespace L2
open PySem PySem.Spec PyProof.Rows
structure QH (h:Heap) (x dx C:Addr) (mA:Str→Option Value):Prop where
  obj:h.get? x=some (PySem.W.instObj C dx)
  ns:h.Ns1 dx mA
  ne:dx≠x
theorem De {h:Heap}{dx:Addr}{mA:Str→Option Value}(n:h.Ns1 dx mA):∃ od,h.get? dx=some od∧∀ name,PySem.W.lookIn name od=some (mA name):=by
  obtain ⟨o,es,ep,ho,hd,hk,_,hm⟩:=n
  refine ⟨o,ho,fun name=>?_⟩
  have e:=hm name
  unfold nsFind findBy at e
  rw[← Array.find?_toList] at e
  unfold PySem.W.lookIn
  rw[hd]
  dsimp only
  split
  · rename_i y q
    rw[q] at e
    exact congrArg some e
  · rename_i q
    rw[q] at e
    have a:es.toList.any (·.refKey)=false:=by
      rw[List.any_eq_false]
      intro y hy
      obtain ⟨z,t,hkey⟩:=hk y (Array.mem_toList_iff.mp hy)
      simp[DictEntry.refKey,hkey]
    have a':¬ es.toList.any (·.refKey)=true:=by rw[a];exact Bool.false_ne_true
    rw[if_neg a']
    exact congrArg some e
theorem QH.look {h:Heap}{x dx C:Addr}{mA:Str→Option Value}(I:QH h x dx C mA):∃ od,PySem.W.InstAt h x (PySem.W.instObj C dx) C (some od)∧∀ name,PySem.W.lookIn name od=some (mA name):=
  let ⟨od,ho,hl⟩:=De I.ns
  ⟨od,⟨I.obj,rfl,rfl,ho⟩,hl⟩
section
variable {prog:Program} {w:World} {A:Around} {E:Value→Shared→Prop} {s:Shared} {K:PySem.W.Frag} {x dx C f:Addr} {mA:Str→Option Value} {name:Str} {v:Value}
end
theorem nU.some_of {v:V}{o:Option Value}(r:nU (some v) o):∃ u,o=some u∧RelV v u:=by
  cases o with
  | none=>exact (show False from r).elim
  | some u=>exact ⟨u,rfl,r⟩
section
variable {P:Program} {w:World} {H H':Hp} {h h':Heap} {a C dx:Addr} {fs fs':List (Str×V)}
end
structure Cls (K:PySem.W.Frag) (C:Addr):Prop where
  pg:PySem.W.plainGet K C Str.empty=true
  hd:PySem.W.hasDictIn K C=true
  po:PySem.W.plainOver K C=true
  sa:PySem.W.findIn K (.ref C) "__setattr__" = some (some (.builtin "object.__setattr__"))
theorem Cls.get {K:PySem.W.Frag}{C:Addr}(c:Cls K C)(f:Str):PySem.W.plainGet K C f=true:=c.pg
section
variable {X:Cx} {pins:List (Addr×Obj)} {σ:St} {H:Hp} {s:Shared} {a C dx:Addr} {fs:List (Str×V)} {f:Str} {v:V} {A:Around} {E:Value→Shared→Prop}
theorem Inv.made (I:Inv X pins σ H s):Inv X pins σ (upd (upd H s.heap.objs.size (.own (s.heap.objs.size+1))) (s.heap.objs.size+1) (.ins C s.heap.objs.size []))
    { s with heap:=(s.heap.push PySem.W.emptyDict).push (PySem.W.instObj C s.heap.objs.size) }:=by
  have e1:(s.heap.push PySem.W.emptyDict).get? s.heap.objs.size=some PySem.W.emptyDict:=Heap.get?_push_size s.heap rfl
  have e2:((s.heap.push PySem.W.emptyDict).push (PySem.W.instObj C s.heap.objs.size)).get? (s.heap.objs.size+1)=some (PySem.W.instObj C s.heap.objs.size):=by
    have:=Heap.get?_push_size (s.heap.push PySem.W.emptyDict) (o:=PySem.W.instObj C s.heap.objs.size) rfl
    rwa [Heap.size_push] at this
  have e3:(s.heap.push PySem.W.emptyDict).Ns s.heap.objs.size (fun _=>none):=⟨PySem.W.emptyDict,#[],_,e1,rfl,(fun e he=>absurd he (by simp)),fun _=>rfl⟩
  have I1:=I.laid (a:=s.heap.objs.size) (o:=.own (s.heap.objs.size+1)) (h':=s.heap.push PySem.W.emptyDict) (t':=s.toks) (fun b u q=>Heap.get?_push_of_some _ q) (Nat.le_refl _) ⟨_,e1⟩
  refine I1.laid (a:=s.heap.objs.size+1) (o:=.ins C s.heap.objs.size []) (t':=s.toks) (fun b u q=>Heap.get?_push_of_some _ q) (Nat.le_of_eq (Heap.size_push _ _)) ?_
  have ne:s.heap.objs.size≠s.heap.objs.size+1:=Nat.ne_of_lt (Nat.lt_succ_self _)
  refine ⟨by rw[aO ne,aP],Nat.zero_le _,ne,e2,fun _=>none,(Heap.Ns1.of_empty e3).at fun o q=>Heap.get?_push_of_some _ q,fun _=>True.intro,fun y hy=>absurd rfl hy⟩
end
section
variable {X:Cx} {o e value:Expr} {f:Str} {pos pos' tpos:Pos} {ta tv:TE}
def iC:V→V→Hp→VK→Prop:=fun x y H Q=>∃ i j,x=.int i∧y=.int j∧Q (.int (i - j)) H
end
section
variable {X:Cx} {pins:List (Addr×Obj)} {σ:St} {H:Hp} {s:Shared} {A:Around} {E:Value→Shared→Prop} {Q:Value→Shared→Prop} {c:Value} {b:Bool}
end
end L2
namespace L2
open PySem PySem.Spec PyProof.Rows
structure fT (k:Nat) (A:Around):Prop where
  hd:A.handled=none
  dp:A.depth+3*k+5 < recursionLimit
  un:A.units+16*k+200 < cLine
theorem fT.mono {j k:Nat}{A:Around}(r:fT k A)(h:j≤k):fT j A:=⟨r.hd,by have:=r.dp;omega,by have:=r.un;omega⟩
theorem fT.deeper {k:Nat}{A:Around}(r:fT (k+1) A)(env:Env):fT k (A.deeper env):=
  ⟨r.hd,by have:=r.dp;show A.depth+1+3*k+5 < _;omega,by have:=r.un;show A.units+3+16*k+200 < _;omega⟩
theorem fT.in1 {k:Nat}{A:Around}(r:fT (k+1) A):fT k A.in1:=
  ⟨r.hd,by have:=r.dp;show A.depth+3*k+5 < _;omega,by have:=r.un;show A.units+1+16*k+200 < _;omega⟩
theorem fT.depth {k:Nat}{A:Around}(r:fT k A):A.depth < recursionLimit:=by have:=r.dp;omega
theorem fT.units {k:Nat}{A:Around}(r:fT k A):A.units+64 < cLine:=by have:=r.un;omega
def Q1:TA:=fun _ H Q=>Q [] H
def MG (ta:TE)(tr:TA):TA:=fun σ H Q=>ta σ H fun x H1=>tr σ H1 fun xs H2=>Q (x::xs) H2
section
variable {X:Cx} {e:Expr} {es:List Expr} {te:TE} {t:TA} {pos:Pos}
theorem i9:PA X [] Q1:=fun _ _ _ _ H Q I h=>Calls.spliced_nil ⟨[],H,I,.nil,h⟩
theorem ff (ha:PE X e te)(hr:PA X es t)(hs:starEach (e::es) X.env=(false,eval e X.env)::starEach es X.env:=by rfl):PA X (e::es) (MG te t):=by
  intro pos pins s σ H Q I h
  rw[hs]
  show wpAny _ _ (spliced ((false,eval e X.env)::backTo pos (starEach es X.env))) _ _ s
  refine Calls.spliced_cons (thn (ha pins s σ H _ I h) fun u s1 ⟨x,H1,I1,r1,q1⟩=>?_)
  exact thn (hr pos pins s1 σ H1 _ I1 q1) fun us s2 ⟨xs,H2,I2,r2,q2⟩=>⟨x::xs,H2,I2,.cons r1 r2,q2⟩
def S4 (t:TA):TE:=fun σ H Q=>t σ H fun xs H1=>xs.length≤sizeLine∧∀ p,H1 p=none→Q (.ref p) (upd H1 p (.tup xs))
def Tx (t:TA):TE:=fun σ H Q=>t σ H fun xs H1=>xs.length≤sizeLine∧∀ p,H1 p=none→Q (.ref p) (upd H1 p (.lst xs))
theorem OP {x1}(h:PA X es t):PE X (.Tuple es x1 pos) (S4 t):=by
  intro pins s σ H Q I hq
  refine wpAny_Tuple_spliced (thn (h pos pins s σ H _ I hq) fun us s1 ⟨xs,H1,I1,r,z,q⟩=>⟨by rw[← r.length];exact z,?_⟩)
  have hf:H1 s1.heap.objs.size=none:=I1.hok.fresh (Nat.le_refl _)
  refine ⟨.ref s1.heap.objs.size,upd H1 s1.heap.objs.size (.tup xs),I1.laid (t':=s1.toks) (fun b u e=>Heap.get?_push_of_some _ e) (Nat.le_refl _) ?_,rfl,q _ hf⟩
  exact ⟨z,us,r,⟨_,Heap.get?_push_size _ rfl⟩⟩
theorem Hy (h:PA X es t):PE X (.List es pos) (Tx t):=by
  intro pins s σ H Q I hq
  refine wpAny_List_spliced (thn (h pos pins s σ H _ I hq) fun us s1 ⟨xs,H1,I1,r,z,q⟩=>⟨by rw[← r.length];exact z,?_⟩)
  have hf:H1 s1.heap.objs.size=none:=I1.hok.fresh (Nat.le_refl _)
  refine ⟨.ref s1.heap.objs.size,upd H1 s1.heap.objs.size (.lst xs),I1.laid (t':=s1.toks) (fun b u e=>Heap.get?_push_of_some _ e) (Nat.le_refl _) ?_,rfl,q _ hf⟩
  exact ⟨z,us,0,r,Heap.get?_push_size _ rfl⟩
end
abbrev Sp:=List V→Hp→VK→XK→Prop
abbrev CXT:=List Env→Hp→Shared→XK→Value→Shared→Prop
structure zJ (P:Program) (w:World) (K:PySem.W.Frag) (mg:Str→Option Value) (base:Heap) (A:Around) (outer:List Env) (s:Shared) (H:Hp):Prop where
  frames:A.frames=some outer
  mod:Mod K mg base
  bs:∀ b o,base.get? b=some o→s.heap.get? b=some o∧H b=none
  bsz:base.objs.size≤s.heap.objs.size
  nY:s.heap.FunFrames base outer
  frf:∀ b∈frs outer,H b=none
  hok:HOk P w H s.heap
  bare:AllBare s.gens
def CE (outer:List Env)(P:Program)(w:World)(H:Hp)(s:Shared)(Q:VK)(u:Value)(s':Shared):Prop:=
  ∃ v H',s'.os=s.os∧AllBare s'.gens∧Un (frs outer) [] H H' s.heap s'.heap∧HOk P w H' s'.heap∧RelV v u∧Q v H'
def CR (CX:CXT)(outer:List Env)(P:Program)(w:World)(H:Hp)(s:Shared)(Q:VK)(E:XK)(r:Result)(s':Shared):Prop:=
  match r with
  | .ok (.ret u)=>CE outer P w H s Q u s'
  | .ok _=>False
  | .error e=>CX outer H s E e s'
structure ik (P:Program) (w:World) (K:PySem.W.Frag) (mg:Str→Option Value) (base:Heap) (CX:CXT) (k:Nat) (f:Addr) (fd:FuncData) (ps:List Str) (sp:Sp):Prop where
  len:∀ vs H Q E,sp vs H Q E→vs.length=ps.length
  run:∀ (A:Around) (outer:List Env) (s:Shared) (H:Hp) (args:Args) (us:List Value) (vs:List V) (Q:VK) (E:XK),fT k A→zJ P w K mg base A outer s H→BindsTo s fd args (ps.zip us)→Vals vs us→sp vs H Q E→
    codeAny (model P w) A (.call (.ref f) args) (CR CX outer P w H s Q E) s
theorem ik.mono {P:Program}{w:World}{K:PySem.W.Frag}{mg:Str→Option Value}{base:Heap}{CX:CXT}{j k:Nat}{f:Addr}{fd:FuncData}{ps:List Str}{sp:Sp}(F:ik P w K mg base CX j f fd ps sp)(h:j≤k) :
    ik P w K mg base CX k f fd ps sp:=⟨F.len,fun A outer s H args us vs Q E hr=>F.run A outer s H args us vs Q E (hr.mono h)⟩
theorem ik.imp {P:Program}{w:World}{K:PySem.W.Frag}{mg:Str→Option Value}{base:Heap}{CX:CXT}{k:Nat}{f:Addr}{fd:FuncData}{ps:List Str}{sp sp':Sp}(F:ik P w K mg base CX k f fd ps sp)
    (h:∀ vs H Q E,sp' vs H Q E→sp vs H Q E):ik P w K mg base CX k f fd ps sp':=
  ⟨fun vs H Q E q=>F.len vs H Q E (h _ _ _ _ q),fun A outer s H args us vs Q E hr he hb hv hs=>F.run A outer s H args us vs Q E hr he hb hv (h _ _ _ _ hs)⟩
theorem zJ.in1 {P:Program}{w:World}{K:PySem.W.Frag}{mg:Str→Option Value}{base:Heap}{A:Around}{outer:List Env}{s:Shared}{H:Hp}(e:zJ P w K mg base A outer s H) :
    zJ P w K mg base A.in1 outer s H:=⟨e.frames,e.mod,e.bs,e.bsz,e.nY,e.frf,e.hok,e.bare⟩
section
variable {X:Cx} {pins:List (Addr×Obj)} {σ:St} {H:Hp} {s s':Shared}
theorem Inv.Tj (I:Inv X pins σ H s):zJ X.prog X.w X.K X.mg X.base X.A X.stack s H:=
  ⟨I.ok.frames,I.ok.mod,I.bs,Nat.le_trans I.ok.bsz I.sz,I.stack,I.Cc,I.hok,I.bare⟩
theorem Inv.after {Q:VK}{u:Value}(I:Inv X pins σ H s)(h:CE X.stack X.prog X.w H s Q u s'):EP X pins σ Q u s':=by
  obtain ⟨v,H',os,bare,un,hok,r,q⟩:=h
  obtain ⟨hh,g,d,t,os'⟩:=s'
  obtain rfl:os'=s.os:=os
  exact ⟨v,H',I.call (h':=hh) (g':=g) (d':=d) (t':=t) (ch:=[]) un hok bare (fun b z=>absurd z (by simp)),r,q⟩
end
def Si (sp:Sp)(dvs:List V)(E:XK)(t:TA):TE:=fun σ H Q=>t σ H fun vs H1=>sp (vs++dvs) H1 Q E
def Binds (K:PySem.W.Frag)(fd:FuncData)(ps:List Str)(ds:List Value):Prop:=
  ∀ (s:Shared) (us:List Value),K.In s.heap→(us++ds).length=ps.length→BindsTo s fd ⟨us,[]⟩ (ps.zip (us++ds))
theorem Binds.all {K:PySem.W.Frag}{fd:FuncData}{ps:List Str}(h:∀ us:List Value,us.length=ps.length→bindArgs fd ⟨us,[]⟩=pure (ps.zip us)):Binds K fd ps []:=fun s us _ hl=>by
  rw[List.append_nil] at hl ⊢
  exact .of_eq (h us hl)
def Passes (CX:CXT)(X:Cx)(E:XK):Prop:=∀ (pins:List (Addr×Obj)) (σ:St) (H:Hp) (s:Shared) (e:Value) (s':Shared),Inv X pins σ H s→CX X.stack H s E e s'→X.xe e s'
section
variable {X:Cx} {CX:CXT} {k:Nat} {f C:Addr} {fd:FuncData} {ps:List Str} {sp:Sp} {dvs:List V} {ds:List Value} {E:XK} {x m:Str} {p pos apos:Pos} {e o:Expr} {es:List Expr} {ta:TE} {t:TA}
theorem Oa {pins:List (Addr×Obj)}{σ:St}{H:Hp}{s:Shared}{Q:VK}{us:List Value}{vs:List V}(F:ik X.prog X.w X.K X.mg X.base CX k f fd ps sp)(hr:fT k X.A)(hb:Binds X.K fd ps ds)(hd:Vals dvs ds)(hx:Passes CX X E)
    (I:Inv X pins σ H s) (r:Vals vs us) (h:sp (vs++dvs) H Q E):wpAny (model X.prog X.w) X.A (call (.ref f) us) (EP X pins σ Q) X.xe s:=by
  have r2:Vals (vs++dvs) (us++ds):=r.append hd
  have hl:(us++ds).length=ps.length:=by rw[← r2.length];exact F.len _ _ _ _ h
  refine wpAny_call (codeAny_mono (F.run X.A X.stack s H ⟨us,[]⟩ (us++ds) (vs++dvs) Q E hr I.Tj (hb s us I.kIn hl) r2 h) fun r s' hq=>?_)
  cases r with
  | error e=>exact hx pins σ H s e s' I hq
  | ok fl=>
    cases fl with
    | ret u=>exact I.after hq
    | next=>exact False.elim hq
    | brk=>exact False.elim hq
    | cont=>exact False.elim hq
theorem KJ (F:ik X.prog X.w X.K X.mg X.base CX k f fd ps sp)(hr:fT k X.A)(hg:Gl X x)(hm:X.mg x=some (.ref f))(hk:PySem.W.keepIn X.K (.ref f)=true)(hb:Binds X.K fd ps ds)(hd:Vals dvs ds)(hx:Passes CX X E)
    (ha:PA X (e::es) t) (hdb:(x == ("__debug__" : Str))=false:=by decide) (he:starEach (e::es) X.env=(false,eval e X.env)::starEach es X.env:=by rfl) (hpl:(backTo pos (starEach es X.env)).any (·.1)=false:=by rfl) :
    PE X (.Call (.Name x p) (e::es) [] pos) (Si sp dvs E t):=by
  intro pins s σ H Q I h
  refine wpAny_Call_Name_kw (Ci I hg hm ?_ hdb)
  refine PySem.W.callWith_K (h₀:=X.base) I.ok.mod.kin hk (thn (ha pos pins s σ H _ I h) fun us s1 ⟨vs,H1,I1,r,q⟩=>⟨I1.kIn,?_⟩) he hpl
  exact Oa F hr hb hd hx I1 r q
end
def PK (X:Cx)(kws:List Keyword)(t:TA):Prop:=
  ∀ (pos:Pos) (pins:List (Addr×Obj)) (s:Shared) (σ:St) (H:Hp) (Q:List V→Hp→Prop),Inv X pins σ H s→t σ H Q→wpAny (model X.prog X.w) X.A (evalAll ((backToKw pos (keywordEach kws X.env)).map (·.2))) (AP X pins σ Q) X.xe s
section
variable {X:Cx} {CX:CXT} {k:Nat} {f C:Addr} {fd:FuncData} {ps ks:List Str} {sp:Sp} {E:XK} {x m:Str} {p pos apos kpos:Pos} {e o:Expr} {es:List Expr} {kws:List Keyword} {te ta:TE} {t tk:TA} {nm:Option Str}
theorem Pl:PK X [] Q1:=fun _ _ _ _ H Q I h=>wpAny_evalAll_nil ⟨[],H,I,.nil,h⟩
theorem K2 (ha:PE X e te)(hr:PK X kws t):PK X (⟨nm,e,kpos⟩::kws) (MG te t):=by
  intro pos pins s σ H Q I h
  show wpAny _ _ (evalAll ((do let v ← eval e X.env;standAt pos;pure v)::(backToKw pos (keywordEach kws X.env)).map (·.2))) _ _ s
  refine wpAny_evalAll_cons (wpAny_bind (thn (ha pins s σ H _ I h) fun u s1 ⟨x,H1,I1,r1,q1⟩=>wpAny_bind (wpAny_standAt (wpAny_pure ?_))))
  exact thn (hr pos pins s1 σ H1 _ I1 q1) fun us s2 ⟨xs,H2,I2,r2,q2⟩=>⟨x::xs,H2,I2,.cons r1 r2,q2⟩
variable {g:List Value→List Value→List Value} {gV:List V→List V→List V}
end
structure aI (N P:List Str) (sc:Scope):Prop where
  kind:sc.kind=.function
  co:sc.isCoroutine=false
  gen:sc.isGenerator=false
  nd:N.Nodup
  pre:N.take P.length=P
  par:∀ x∈P,sc.names.lookup x=some .local∨sc.names.lookup x=some .cell
  Qa:∀ y∈sc.names,y.2≠.free
theorem sL {kindOf:Str→Option NameKind}{x:Str}:∀ {binds:List (Str×Value)} {m:Str→Option Value},(∀ v,(x,v) ∉ binds)→bindL kindOf binds m x=m x
  | [],_,_=>rfl
  | (n,v)::r,m,h=>by
    unfold bindL
    rw[sL fun w hw=>h w (List.mem_cons_of_mem _ hw)]
    split
    · have:x≠n:=by rintro rfl;exact h v List.mem_cons_self
      simp[this]
    · rfl
theorem sD {kindOf:Str→Option NameKind}{x:Str}:∀ {binds:List (Str×Value)} {m:Str→Option Value},(∀ v,(x,v) ∉ binds)→bindC kindOf binds m x=m x
  | [],_,_=>rfl
  | (n,v)::r,m,h=>by
    unfold bindC
    rw[sD fun w hw=>h w (List.mem_cons_of_mem _ hw)]
    split
    · rfl
    · have:x≠n:=by rintro rfl;exact h v List.mem_cons_self
      simp[this]
theorem sR {kindOf:Str→Option NameKind}{x:Str}{v:Value}:∀ {P:List Str} {vs:List Value} {i:Nat} {m:Str→Option Value},P.Nodup→P[i]? = some x→vs[i]? = some v→kindOf x=some .local→
    bindL kindOf (P.zip vs) m x=some v
  | [],_,_,_,_,h,_,_=>by simp at h
  | _::_,[],_,_,_,_,h,_=>by simp at h
  | p::P,w::vs,0,m,nd,h1,h2,hk=>by
    simp at h1 h2;subst h1;subst h2
    show bindL kindOf ((p,w)::P.zip vs) m p=_
    unfold bindL
    rw[sL fun v hv=>(List.nodup_cons.mp nd).1 (List.of_mem_zip hv).1,if_pos hk]
    simp
  | p::P,w::vs,i+1,m,nd,h1,h2,hk=>by
    show bindL kindOf ((p,w)::P.zip vs) m x=_
    unfold bindL
    exact sR (i:=i) (List.nodup_cons.mp nd).2 (by simpa using h1) (by simpa using h2) hk
theorem sv {kindOf:Str→Option NameKind}{x:Str}{v:Value}:∀ {P:List Str} {vs:List Value} {i:Nat} {m:Str→Option Value},P.Nodup→P[i]? = some x→vs[i]? = some v→kindOf x≠some .local→
    bindC kindOf (P.zip vs) m x=some v
  | [],_,_,_,_,h,_,_=>by simp at h
  | _::_,[],_,_,_,_,h,_=>by simp at h
  | p::P,w::vs,0,m,nd,h1,h2,hk=>by
    simp at h1 h2;subst h1;subst h2
    show bindC kindOf ((p,w)::P.zip vs) m p=_
    unfold bindC
    rw[sD fun v hv=>(List.nodup_cons.mp nd).1 (List.of_mem_zip hv).1,if_neg hk]
    simp
  | p::P,w::vs,i+1,m,nd,h1,h2,hk=>by
    show bindC kindOf ((p,w)::P.zip vs) m x=_
    unfold bindC
    exact sv (i:=i) (List.nodup_cons.mp nd).2 (by simpa using h1) (by simpa using h2) hk
def start (N:List Str)(vs:List V):St:=vs.map some++List.replicate (N.length - vs.length) none
def vK (CX:CXT)(P:Program)(w:World)(K:PySem.W.Frag)(mg:Str→Option Value)(base:Heap)(N:List Str)(qual:Str)(scope:Scope)(f:Addr)(cd:Value)(A:Around)(outer:List Env)(s:Shared)(H:Hp)(E:XK):Cx where
  prog:=P
  w:=w
  K:=K
  mg:=mg
  base:=base
  A:=A.deeper (envOfC qual scope s.heap.objs.size f cd)
  N:=N
  s₀:=s
  H₀:=H
  env:=envOfC qual scope s.heap.objs.size f cd
  outer:=outer
  stack:=envOfC qual scope s.heap.objs.size f cd::outer
  ex:=[]
  calm:=true
  fn:=fun _=>true
  pn:=[]
  xe:=fun e s'=>wpAny (model P w) (A.deeper (envOfC qual scope s.heap.objs.size f cd)) (leaving (envOfC qual scope s.heap.objs.size f cd) e) (fun _ s''=>CX outer H s E e s'') (fun e' s''=>CX outer H s E e' s'') s'
theorem xG {sc:Scope}{n:Nat}{x:Str}(h:sc.names.lookup x=some .cell):∃ c,(cellsFrom n sc.names []).lookup x=some c:=by
  have q:=PySem.W.cellsFrom_some sc.names n [] (.inl h)
  exact Option.isSome_iff_exists.mp q
theorem Dc {CX:CXT}{P:Program}{w:World}{K:PySem.W.Frag}{mg:Str→Option Value}{base:Heap}{N ps:List Str}{qual:Str}{scope:Scope}{f:Addr}{cd:Value}{A:Around}{outer:List Env}{s s1:Shared}{H:Hp}{E:XK}{us:List Value}{vs:List V}
    (S:aI N ps scope) (hd:A.handled=none) (e0:zJ P w K mg base A outer s H) (hl:vs.length=ps.length) (r:Vals vs us)
    (x:InCallC s s.heap.objs.size (bindL (envOfC qual scope s.heap.objs.size f cd).kindOf (ps.zip us) fun _=>none) (cellsFrom (s.heap.objs.size+1) scope.names []) (bindC (envOfC qual scope s.heap.objs.size f cd).kindOf (ps.zip us) fun _=>none) s1) :
    Inv (vK CX P w K mg base N qual scope f cd A outer s H E) [] (start N vs) H s1:=by
  have hpl:ps.length≤N.length:=by have:=congrArg List.length S.pre;rw[List.length_take] at this;omega
  obtain ⟨h1,tk,rfl,hk⟩:=x.done
  have noA:∀ b:Addr,b ∉ (vK CX P w K mg base N qual scope f cd A outer s H E).ex:=fun b z=>absurd (show b∈([]:List Addr) from z) (by simp)
  refine ⟨⟨e0.mod,S.kind,rfl,rfl,Nat.le_refl _,fun y z c h1 h2=>?_,fun y hy=>?_,fun y c _ h=>?_,fun _=>hd,Around.frames_deeper e0.frames,.inr ⟨rfl,rfl⟩,fun b z=>absurd z (noA b),e0.bs,e0.bsz,fun b _ _=>noA b,fun b z=>absurd z (noA b),e0.nY,e0.frf⟩,
    rfl,e0.bare,Un.kept hk,⟨_,x.toInCall.ns,fun i y v h1 h2 h3=>?_⟩,fun y c h=>⟨_,x.cell y c h⟩,e0.hok.fresh (Nat.le_refl _),fun y c h=>?_,fun p hp=>absurd (show p∈([]:List (Addr×Obj)) from hp) (by simp),e0.hok.kept hk,?_⟩
  · exact name_of_addr x.apart (PySem.mem_of_lookup h1) (PySem.mem_of_lookup h2)
  · have hy:scope.names.lookup y=some .cell∨scope.names.lookup y=some .free:=hy
    rcases hy with hy | hy
    · exact xG hy
    · exact absurd rfl (S.Qa _ (PySem.mem_of_lookup hy))
  · exact Nat.le_of_lt (x.above y c (PySem.mem_of_lookup h))
  · have hi:i < vs.length:=by
      unfold start at h2
      by_cases hi:i < vs.length
      · exact hi
      · rw[List.getElem?_append_right (by simpa using hi)] at h2
        rw[List.getElem?_replicate] at h2
        split at h2<;>cases h2
    have ha:vs[i]? = some v:=by
      unfold start at h2
      rw[List.getElem?_append_left (by simpa using hi),List.getElem?_map] at h2
      cases e:vs[i]? with
      | none=>rw[e] at h2;cases h2
      | some a=>rw[e] at h2;cases h2;rfl
    obtain ⟨u,hu,rv⟩:=r.get ha
    have hp:ps[i]? = some y:=by
      rw[← S.pre,List.getElem?_take_of_lt (by omega)];exact h1
    have ndP:ps.Nodup:=by rw[← S.pre];exact S.nd.sublist (List.take_sublist _ _)
    refine ⟨u,rv,?_⟩
    rcases S.par y (List.mem_of_getElem? hp) with k | k
    · exact .inl ⟨k,sR ndP hp hu k⟩
    · obtain ⟨c,e⟩:=xG (n:=s.heap.objs.size+1) k
      refine .inr ⟨.inl k,c,e,?_⟩
      have q:=x.cell y c e
      rw[sv ndP hp hu (by show scope.names.lookup y≠_;rw[k];decide)] at q
      exact q
  · exact e0.hok.fresh (Nat.le_of_lt (x.above y c (PySem.mem_of_lookup h)))
  · unfold start
    show _=N.length
    rw[List.length_append,List.length_map,List.length_replicate]
    omega
theorem RO {CX:CXT}{P:Program}{w:World}{K:PySem.W.Frag}{mg:Str→Option Value}{base:Heap}{k:Nat}{f:Addr}{name qual:Str}{params:Arguments}{body:List Stmt}{scope:Scope}{dV kV doc pm cdv ct oc:Value}{an od:Option Addr}
    {osl:Array (Option Value)} {N ps:List Str} {sp:Sp} (lk:K.lookup f=some ⟨oc,od,.func (PySem.W.fnOf name qual params body scope dV kV doc pm an cdv ct),osl⟩) (hcd:PySem.W.codeIn K cdv qual=true) (S:aI N ps scope)
    (len:∀ vs H Q E,sp vs H Q E→vs.length=ps.length)
    (hbody:∀ (A:Around) (outer:List Env) (s:Shared) (H:Hp) (vs:List V) (Q:VK) (E:XK),fT k (A.deeper (envOfC qual scope s.heap.objs.size f cdv))→sp vs H Q E→
      ∃ t,PSs (vK CX P w K mg base N qual scope f cdv A outer s H E) body t∧t { nx:=fun _ H'=>Q .non H',rt:=Q } (start N vs) H) :
    ik P w K mg base CX (k+1) f (PySem.W.fnOf name qual params body scope dV kV doc pm an cdv ct) ps sp:=by
  refine ⟨len,fun A outer s H args us vs Q E hr e0 hb r hsp=>?_⟩
  have hl:=len _ _ _ _ hsp
  have KX:K.In s.heap:=e0.mod.kin.keeps fun b o e=>(e0.bs b o e).1
  have lim:s.heap.NoLimit:=e0.mod.nolimit.keeps fun b o e=>(e0.bs b o e).1
  have gD:∀ y∈ps.zip us,scope.names.lookup y.1=some .local∨(scope.names.lookup y.1=some .cell∧((cellsFrom (s.heap.objs.size+1) scope.names []).lookup y.1).isSome=true):=fun ⟨n,v⟩ hy=>by
    rcases S.par n (List.of_mem_zip hy).1 with q | q
    · exact .inl q
    · exact .inr ⟨q,PySem.W.cellsFrom_some _ _ _ (.inl q)⟩
  refine codeAny_call_function hr.depth (KX _ _ lk) rfl S.co S.gen rfl (PySem.W.codeRec_of KX hcd) (hb _ _ _ _ ?_)
  refine wpAny_newFunctionEnv_cells S.kind gD fun env he s1 x=>?_
  subst he
  refine ⟨lim.keeps x.toInCall.keep,codeAny_func ?_⟩
  obtain ⟨t,ht,hq⟩:=hbody A outer s H vs Q E (hr.deeper _) hsp
  have I:Inv (vK CX P w K mg base N qual scope f cdv A outer s H E) [] (start N vs) H s1:=Dc S hr.hd e0 hl r x
  refine wpAny_mono (ht [] s1 (start N vs) H _ I hq) (fun fl s' hs=>?_) fun e s' hs=>hs
  have fin:∀ {σ':St} {H':Hp} {v:V} {u:Value},Inv (vK CX P w K mg base N qual scope f cdv A outer s H E) [] σ' H' s'→RelV v u→Q v H'→CE outer P w H s Q u s':=
    fun {σ' H' v u} J rv q=>⟨v,H',J.os,J.bare,J.base,J.hok,rv,q⟩
  cases fl with
  | ret u=>
    obtain ⟨v,σ',H',J,rv,q⟩:=hs
    exact fin J rv q
  | next=>
    obtain ⟨σ',H',J,q⟩:=hs
    exact fin (v:=V.non) (u:=Value.none) J rfl q
  | brk=>
    obtain ⟨_,_,_,q⟩:=hs
    exact False.elim q
  | cont=>
    obtain ⟨_,_,_,q⟩:=hs
    exact False.elim q
end L2
namespace L2
open PySem PySem.Spec PyProof.Rows
section
variable {X:Cx} {x:Str} {p pos:Pos} {e:Expr} {es:List Expr} {t:TA} {id T:String} {r:List V→Hp→VK→Prop}
def tCB (r:List V→Hp→VK→Prop)(t:TA):TE:=fun σ H Q=>t σ H fun vs H1=>r vs H1 Q
theorem qA (hc:cH X (.builtin id) r)(hg:Gl X x)(hm:X.mg x=none)(hv:bootBuiltins x=some (.builtin id))(ha:PA X (e::es) t)(hn:x ≠ "__name__" := by decide)(hdb:(x == ("__debug__" : Str))=false:=by decide)
    (he:starEach (e::es) X.env=(false,eval e X.env)::starEach es X.env:=by rfl) (hpl:(backTo pos (starEach es X.env)).any (·.1)=false:=by rfl):PE X (.Call (.Name x p) (e::es) [] pos) (tCB r t):=by
  intro pins s σ H Q I h
  refine wpAny_Call_Name_kw (i3 I hg hm hv ?_ hn hdb)
  exact PyProof.Rows.callWith_builtin1 (thn (ha pos pins s σ H _ I h) fun us s1 ⟨vs,H1,I1,r1,q1⟩=>hc pins s1 σ H1 vs us Q I1 r1 q1) he hpl
theorem sT (hc:cH X (.type T) r)(hg:Gl X x)(hm:X.mg x=none)(hv:bootBuiltins x=some (.type T))(ha:PA X (e::es) t)(hn:x ≠ "__name__" := by decide)(hdb:(x == ("__debug__" : Str))=false:=by decide)
    (he:starEach (e::es) X.env=(false,eval e X.env)::starEach es X.env:=by rfl) (hpl:(backTo pos (starEach es X.env)).any (·.1)=false:=by rfl):PE X (.Call (.Name x p) (e::es) [] pos) (tCB r t):=by
  intro pins s σ H Q I h
  refine wpAny_Call_Name_kw (i3 I hg hm hv ?_ hn hdb)
  exact PyProof.Rows.callWith_type1 (thn (ha pos pins s σ H _ I h) fun us s1 ⟨vs,H1,I1,r1,q1⟩=>hc pins s1 σ H1 vs us Q I1 r1 q1) he hpl
end
end L2
namespace HT
open PySem PyProof.Rows
section
open PySem.SeqAt
open PySem.AutoSeq1 (wpAny_loadPart')
open PySem.MeetsSeq PySem.MeetsSeq2 PySem.MeetsSeq3
end
section
variable {prog:Program} {w:World} {A:Around} {E:Value→Shared→Prop} {s:Shared}
theorem JK {t b:Addr}{vs ws:List Value}{Q:Value→Shared→Prop}(ht:IsTup s.heap t vs.toArray)(hb:IsTup s.heap b ws.toArray)(hv:vs≠[])
    (h1:ws=[]→Q (.ref t) s) (h2:ws≠[]→Q (.ref s.heap.objs.size) { s with heap:=s.heap.push { cls:=.type "tuple", data:=.seq (vs++ws).toArray } })
    (hsz:vs.length+ws.length≤sizeLine):wpAny (model prog w) A (binaryOp .Add (.ref t) (.ref b)) Q E s:=by
  obtain ⟨⟨cls,dd,data,sl⟩,ho,hc,n,hd⟩:=id ht
  obtain ⟨⟨cls2,dd2,data2,sl2⟩,ho2,hc2,n2,hd2⟩:=id hb
  simp only at hc hd hc2 hd2
  subst hc hd hc2 hd2
  have e:vs.toArray++ws.toArray=(vs++ws).toArray:=by simp
  by_cases hw:ws=[]
  · exact concat_meets ⟨_,ho,rfl⟩ ⟨_,ho2,rfl⟩ noFill_tuple_add seq_tuple_add PySem.F.slot_tuple_add PySem.F.entry_tuple_add (PySem.F.args_tuple_add_2 _ _)
      (tuple_addW1 t b vs.toArray ws.toArray n n2 dd dd2 sl sl2 (by simpa using hv) (by simp[hw])) ⟨ho,ho2,h1 hw⟩
  · refine concat_meets ⟨_,ho,rfl⟩ ⟨_,ho2,rfl⟩ noFill_tuple_add seq_tuple_add PySem.F.slot_tuple_add PySem.F.entry_tuple_add (PySem.F.args_tuple_add_2 _ _)
      (tuple_addW2 t b vs.toArray ws.toArray n n2 dd dd2 sl sl2 (by simpa using hv) (by simpa using hw) (by rw[List.size_toArray,List.size_toArray];exact hsz)) ⟨ho,ho2,?_⟩
    rw[e]
    exact h2 hw
def sIx (n d:Nat):Option Int→Nat
  | none=>d
  | some v=>if v < 0 then (v+(n:Int)).toNat else min v.toNat n
theorem vw (n d:Nat):sIx n d none=d:=rfl
theorem BU (n d k:Nat):sIx n d (some (k:Int))=min k n:=by
  show (if (k:Int) < 0 then ((k:Int)+(n:Int)).toNat else min (k:Int).toNat n)=min k n
  rw[if_neg (by omega),Int.toNat_natCast]
theorem Pa (n d:Nat)(hd:d≤n)(o:Option Int):sIx n d o≤n:=by
  cases o with
  | none=>exact hd
  | some v=>
    show (if v < 0 then (v+(n:Int)).toNat else min v.toNat n)≤n
    by_cases hv:v < 0
    · rw[if_pos hv];omega
    · rw[if_neg hv];exact Nat.min_le_right _ _
theorem By (v:Int)(n d:Nat):(if v < 0 then max (v+(n:Int)) 0 else min v (n:Int))=((sIx n d (some v):Nat):Int):=by
  show (if v < 0 then max (v+(n:Int)) 0 else min v (n:Int))=(((if v < 0 then (v+(n:Int)).toNat else min v.toNat n):Nat):Int)
  by_cases hv:v < 0
  · simp only[if_pos hv];omega
  · simp only[if_neg hv];omega
theorem AM (lo hi:Option Int)(n:Nat):Builtin.Slice.sliceAdjust lo hi 1 (n:Int)=(((sIx n 0 lo:Nat):Int),((sIx n n hi:Nat):Int)):=by
  have h1:¬ ((1:Int) < 0):=by omega
  unfold Builtin.Slice.sliceAdjust
  simp only[h1,if_false]
  refine Prod.ext ?_ ?_
  · cases lo with
    | none=>rfl
    | some v=>exact By v n 0
  · cases hi with
    | none=>rfl
    | some v=>exact By v n n
theorem zg (i j:Nat):Builtin.Slice.slicePlaces (i:Int) (j:Int) 1=j - i:=by
  unfold Builtin.Slice.slicePlaces
  have h1:(1:Int) > 0:=by omega
  simp only[h1,if_true,Int.ediv_one]
  split<;>omega
theorem pN {v:Value}{o:Option Int}{Q:Option Int→Shared→Prop}(p:IsPart v o)(h:Q o s):wpAny (model prog w) A (Builtin.Slice.slicePartIndex v) Q E s:=by
  cases p with
  | none=>exact slicePart_none h
  | int i t=>exact slicePart_int h
theorem iF {sl:Addr}{vl vu:Value}{lo hi:Option Int}{n:Nat}{Q:Int×Int×Nat→Shared→Prop}(hs:s.heap.IsSliceOf sl vl vu .none)(pl:IsPart vl lo)(pu:IsPart vu hi)
    (h:Q (((sIx n 0 lo:Nat):Int),1,sIx n n hi - sIx n 0 lo) s):wpAny (model prog w) A (Builtin.Slice.sliceApplied (.ref sl) (pure (n:Int))) Q E s:=by
  obtain ⟨os,hos,hcs,hds⟩:=id hs
  unfold Builtin.Slice.sliceApplied Builtin.Slice.sliceFields
  refine wpAny_bind (wpAny_bind (wpAny_field hos hds (x:=vl) rfl (wpAny_bind (wpAny_field hos hds (x:=vu) rfl (wpAny_bind (wpAny_field hos hds (x:=.none) rfl (wpAny_pure ?_)))))))
  refine wpAny_bind (slicePart_none ?_)
  show wpAny _ _ (if ((1:Int) == 0)=true then _ else _) _ _ s
  rw[if_neg (by decide)]
  refine wpAny_bind (pN pl (wpAny_bind (pN pu (wpAny_bind (wpAny_pure ?_)))))
  show wpAny _ _ (match Builtin.Slice.sliceAdjust lo hi 1 (n:Int) with | (lo,hi)=>pure (lo,(1:Int),Builtin.Slice.slicePlaces lo hi 1)) _ _ s
  rw[AM lo hi n]
  show wpAny _ _ (pure (((sIx n 0 lo:Nat):Int),(1:Int),Builtin.Slice.slicePlaces ((sIx n 0 lo:Nat):Int) ((sIx n n hi:Nat):Int) 1)) _ _ s
  rw[zg]
  exact wpAny_pure h
theorem Hx (xs:Array Value)(i k:Nat):((List.range k).filterMap fun (m:Nat)=>xs[((i:Int)+(m:Int)*1).toNat]?).toArray=((xs.toList.drop i).take k).toArray:=by
  have e:(fun (m:Nat)=>xs[((i:Int)+(m:Int)*1).toNat]?)=fun m=>xs[i+m]?:=by
    funext m
    have:((i:Int)+(m:Int)*1).toNat=i+m:=by omega
    rw[this]
  rw[e]
  have:=pick_run xs i k
  rw[List.filterMap_map] at this
  have e2:((fun x=>xs[x]?) ∘ fun x=>i+x)=fun m=>xs[i+m]?:=rfl
  rw[e2] at this
  rw[this]
theorem lQ {t sl:Addr}{items:Array Value}{vl vu:Value}{lo hi:Option Int}{Q:Value→Shared→Prop}(ht:IsTup s.heap t items)(hs:s.heap.IsSliceOf sl vl vu .none)(pl:IsPart vl lo)(pu:IsPart vu hi)
    (hw:¬ (sIx items.size 0 lo=0∧sIx items.size items.size hi=items.size))
    (h:Q (.ref s.heap.objs.size) { s with heap:=s.heap.push { cls:=.type "tuple", data:=.seq ((items.toList.drop (sIx items.size 0 lo)).take (sIx items.size items.size hi - sIx items.size 0 lo)).toArray } })
    (hsz:items.size≤sizeLine):wpAny (model prog w) A (getItem (.ref t) (.ref sl)) Q E s:=by
  have Cp:sizeOk (.seq ((items.toList.drop (sIx items.size 0 lo)).take (sIx items.size items.size hi - sIx items.size 0 lo)).toArray):=by
    show ((items.toList.drop (sIx items.size 0 lo)).take (sIx items.size items.size hi - sIx items.size 0 lo)).toArray.size≤sizeLine
    rw[List.size_toArray,List.length_take,List.length_drop,Array.length_toList]
    omega
  have hj:sIx items.size items.size hi≤items.size:=Pa _ _ (Nat.le_refl _) hi
  obtain ⟨os,hos,hcs,hds⟩:=id hs
  have hTs:s.TypeIs (.ref sl) "slice" := ⟨os,hos,hcs⟩
  unfold getItem
  try with_reducible refine wpAny_holding ?_
  first | refine wpAny_bind (wpAny_pure ?_) | skip
  refine wpAny_bind (wpAny_sequenceKey ht.typeIs (by decide) ?_)
  refine wpAny_bind (wpAny_callSpecial?_slot (name:=Str.ofString "__getitem__") ht.typeIs PyProof.Rows.slot_tuple_getitem
    (wpAny_call_entry PyProof.Rows.slot_tuple_getitem ht.typeIs entry_tuple_getitem ?_ (args_tuple_getitem _ _)))
  show wpAny _ _ (Builtin.Tuple.tupleItemsOf (.ref t) >>= _) _ _ s
  refine wpAny_bind (tupleItemsOf_ ht ?_)
  refine wpAny_bind (wpAny_typeOf hTs ?_)
  rw[if_pos (by decide)]
  refine wpAny_bind (iF hs pl pu ?_)
  have hno:¬ ((((sIx items.size 0 lo:Nat):Int) == 0&&(1:Int) == 1&&(sIx items.size items.size hi - sIx items.size 0 lo) == items.size)=true):=by
    intro q
    rw[Bool.and_eq_true,Bool.and_eq_true] at q
    have q1:((sIx items.size 0 lo:Nat):Int)=0:=eq_of_beq q.1.1
    have q2:sIx items.size items.size hi - sIx items.size 0 lo=items.size:=eq_of_beq q.2
    exact hw ⟨by omega,by omega⟩
  show wpAny _ _ (if (((sIx items.size 0 lo:Nat):Int) == 0&&(1:Int) == 1&&(sIx items.size items.size hi - sIx items.size 0 lo) == items.size)=true then _ else _) _ _ s
  rw[if_neg hno,Hx]
  first
    | exact wpAny_bind (m:=Builtin.Tuple.tupleExact _) (wpAny_newObj_type (wpAny_pure ⟨_,rfl,wpAny_pure h⟩) Cp)
    | exact wpAny_bind (m:=Builtin.Tuple.tupleExact _) (wpAny_newObj_type (wpAny_bind (wpAny_pure (wpAny_pure ⟨_,rfl,wpAny_pure h⟩))) Cp)
    | exact wpAny_bind (wpAny_bind (m:=Builtin.Tuple.tupleExact _) (wpAny_newObj_type (wpAny_pure (wpAny_pure ⟨_,rfl,wpAny_pure h⟩)) Cp))
    | exact wpAny_bind (wpAny_bind (m:=Builtin.Tuple.tupleExact _) (wpAny_newObj_type (wpAny_pure ⟨_,rfl,wpAny_pure h⟩) Cp))
end
end HT
namespace L2
open PySem PySem.Spec PyProof.Rows
abbrev TO:=St→Hp→(Option Int→Hp→Prop)→Prop
def PO (X:Cx)(e:Option Expr)(t:TO):Prop:=
  ∀ (pins:List (Addr×Obj)) (s:Shared) (σ:St) (H:Hp) (Q:Option Int→Hp→Prop),Inv X pins σ H s→t σ H Q→
    wpAny (model X.prog X.w) X.A (evalPart e X.env) (fun u s'=>∃ o H',Inv X pins σ H' s'∧IsPart u o∧Q o H') X.xe s
def KA:TO:=fun _ H Q=>Q none H
def QM (t:TE):TO:=fun σ H Q=>t σ H fun x H1=>∃ i,x=.int i∧Q (some i) H1
theorem intsAre_of {ns:List Int}:∀ {us:List Value},Vals (ns.map V.int) us→IntsAre us ns:=by
  induction ns with
  | nil=>intro us r;rw[List.map_nil] at r;cases r;exact .nil
  | cons n ns ih=>
    intro us r
    rw[List.map_cons] at r
    cases r with
    | cons r1 r2=>
      obtain ⟨t,e⟩:=r1
      subst e
      exact .cons n t (ih r2)
section
variable {X:Cx} {e:Expr} {te:TE} {lo hi:Option Expr} {tl th:TO} {pos p2:Pos}
theorem LP:PO X none KA:=by
  intro pins s σ H Q I h
  rw[evalPart_none]
  exact wpAny_pure ⟨none,H,I,.none,h⟩
theorem Mi (h:PE X e te):PO X (some e) (QM te):=by
  intro pins s σ H Q I hw
  rw[evalPart_some]
  refine thn (h pins s σ H _ I hw) fun u s1 ⟨x,H1,I1,r1,q1⟩=>?_
  obtain ⟨i,rfl,q⟩:=q1
  obtain ⟨t,rfl⟩:=r1
  exact ⟨some i,H1,I1,.int i t,q⟩
def SlR (X:Cx)(r:V→Option Int→Option Int→Hp→VK→Prop):Prop:=
  ∀ (pins:List (Addr×Obj)) (s:Shared) (σ:St) (H:Hp) (x:V) (v vl vu:Value) (lo hi:Option Int) (sl:Addr) (Q:VK),Inv X pins σ H s→RelV x v→s.heap.IsSliceOf sl vl vu .none→IsPart vl lo→IsPart vu hi→r x lo hi H Q→
    ∃ T id,typeLookup (.type T) "__getitem__" = pure (some (.builtin id))∧s.TypeIs v T∧wpAny (model X.prog X.w) X.A (getItem v (.ref sl)) (EP X pins σ Q) X.xe s
theorem SlR.or {r r':V→Option Int→Option Int→Hp→VK→Prop}(h:SlR X r)(h':SlR X r'):SlR X (fun x lo hi H Q=>r x lo hi H Q∨r' x lo hi H Q):=by
  intro pins s σ H x v vl vu lo hi sl Q I rx hs pl pu q
  rcases q with q | q
  · exact h pins s σ H x v vl vu lo hi sl Q I rx hs pl pu q
  · exact h' pins s σ H x v vl vu lo hi sl Q I rx hs pl pu q
def tSl (r:V→Option Int→Option Int→Hp→VK→Prop)(te:TE)(tl th:TO):TE:=fun σ H Q=>te σ H fun x H1=>tl σ H1 fun l H2=>th σ H2 fun u H3=>r x l u H3 Q
theorem EC {r:V→Option Int→Option Int→Hp→VK→Prop}(hr:SlR X r)(he:PE X e te)(hl:PO X lo tl)(hu:PO X hi th):PE X (.Subscript e (.Slice lo hi none p2) pos) (tSl r te tl th):=by
  intro pins s σ H Q I h
  refine Subscript_ (thn (he pins s σ H _ I h) fun v s1 ⟨x,H1,I1,r1,q1⟩=>?_)
  refine wpAny_Slice (thn (hl pins s1 σ H1 _ I1 q1) fun vl s2 ⟨l,H2,I2,pl,q2⟩=>thn (hu pins s2 σ H2 _ I2 q2) fun vu s3 ⟨u,H3,I3,pu,q3⟩=>?_)
  rw[evalPart_none]
  refine wpAny_pure ?_
  have I4:Inv X pins σ H3 { s3 with heap:=s3.heap.push { cls:=.type "slice", data:=.fields #[vl,vu,.none] } }:=I3.kept (t':=s3.toks) fun b ob q=>Heap.get?_push_of_some _ q
  obtain ⟨T,id,hT,ht,hg⟩:=hr pins { s3 with heap:=s3.heap.push { cls:=.type "slice", data:=.fields #[vl,vu,.none] } } σ H3 x v vl vu l u s3.heap.objs.size Q I4 r1 (Heap.IsSliceOf.new ..) pl pu q3
  show wpAny (model X.prog X.w) X.A (subscriptTail e (.Slice lo hi none p2) v (.ref s3.heap.objs.size)) (EP X pins σ Q) X.xe { s3 with heap:=s3.heap.push { cls:=.type "slice", data:=.fields #[vl,vu,.none] } }
  exact tail_any (ops:=[.ref s3.heap.objs.size,v]) ht hT hg (by with_unfolding_all rfl)
def yj (xs:List V)(lo hi:Option Int):List V:=(xs.drop (HT.sIx xs.length 0 lo)).take (HT.sIx xs.length xs.length hi - HT.sIx xs.length 0 lo)
theorem nL (xs:List V)(lo hi:Option Int):(yj xs lo hi).length≤xs.length:=by
  unfold yj
  rw[List.length_take,List.length_drop]
  omega
def T6 (K:PySem.W.Frag):V→Option Int→Option Int→Hp→VK→Prop:=fun x lo hi H Q=>∃ a xs,x=.ref a∧SqT K H a xs∧
  ¬ (HT.sIx xs.length 0 lo=0∧HT.sIx xs.length xs.length hi=xs.length)∧∀ p,H p=none→Q (.ref p) (upd H p (.tup (yj xs lo hi)))
theorem NQ:SlR X (T6 X.K):=by
  intro pins s σ H x v vl vu lo hi sl Q I rx hs pl pu h
  obtain ⟨a,xs,rfl,hx,hw,q⟩:=h
  cases rx
  obtain ⟨its,r,ht,hz⟩:=I.tuple hx
  have hlen:its.toArray.size=xs.length:=by rw[List.size_toArray];exact r.length.symm
  refine ⟨"tuple", _,PyProof.Rows.slot_tuple_getitem.lookup,ht.typeIs,?_⟩
  refine HT.lQ ht hs pl pu (by rw[hlen];exact hw) ?_ (by rw[hlen];exact hz)
  rw[hlen]
  refine ⟨.ref s.heap.objs.size,_,I.laid (t':=s.toks) (o:=.tup (yj xs lo hi)) (fun b ob q=>Heap.get?_push_of_some _ q) (Nat.le_refl _) ?_,rfl,q _ (I.hok.fresh (Nat.le_refl _))⟩
  exact ⟨Nat.le_trans (nL xs lo hi) hz,_,(r.drop (HT.sIx xs.length 0 lo)).take (HT.sIx xs.length xs.length hi - HT.sIx xs.length 0 lo),uS.new _ _⟩
def Mx (K:PySem.W.Frag):R2:=fun x y H Q=>∃ a b xs ys,x=.ref a∧y=.ref b∧SqT K H a xs∧SqT K H b ys∧xs≠[]∧xs.length+ys.length≤sizeLine∧
  (ys=[]→Q (.ref a) H)∧(ys≠[]→∀ p,H p=none→Q (.ref p) (upd H p (.tup (xs++ys))))
theorem Vals.uG {xs:List V}{us:List Value}(r:Vals xs us):us=[]↔xs=[]:=by
  cases r with
  | nil=>simp
  | cons _ _=>simp
theorem L5:OpR X (binaryOp .Add) (Mx X.K):=by
  intro pins s σ H x y v u Q I rx ry h
  obtain ⟨a,b,xs,ys,rfl,rfl,ha,hb,hx,hz,q1,q2⟩:=h
  cases rx
  cases ry
  obtain ⟨its,r1,p1,_⟩:=I.tuple ha
  obtain ⟨its2,r2,p2,_⟩:=I.tuple hb
  refine HT.JK p1 p2 (fun z=>hx (r1.uG.mp z)) (fun z=>⟨.ref a,H,I,rfl,q1 (r2.uG.mp z)⟩) (fun z=>?_) (by rw[← r1.length,← r2.length];exact hz)
  refine ⟨.ref s.heap.objs.size,_,I.laid (t':=s.toks) (o:=.tup (xs++ys)) (fun b ob q=>Heap.get?_push_of_some _ q) (Nat.le_refl _) ?_,rfl,q2 (fun w=>z (r2.uG.mpr w)) _ (I.hok.fresh (Nat.le_refl _))⟩
  exact ⟨by rw[List.length_append];exact hz,_,r1.append r2,uS.new _ _⟩
end
end L2
namespace L2
open PySem PySem.Spec PyProof.Rows
def ixN (n:Nat)(i:Int):Option Nat:=if 0≤i then (if i < n then some i.toNat else none) else if -(n:Int)≤i then some (i+n).toNat else none
def atI {α:Type}(xs:List α)(i:Int):Option α:=(ixN xs.length i).bind fun j=>xs[j]?
theorem KL {n:Nat}{i:Int}{j:Nat}(h:ixN n i=some j):seqIndex? i n=some j∧j < n∧-(n:Int)≤i∧i < n:=by
  unfold ixN at h
  by_cases h0:0≤i
  · rw[if_pos h0] at h
    by_cases h1:i < n
    · rw[if_pos h1] at h
      have e:i.toNat=j:=Option.some.inj h
      exact ⟨by rw[seqIndex_of h0 h1,e],by omega,by omega,h1⟩
    · rw[if_neg h1] at h;cases h
  · rw[if_neg h0] at h
    by_cases h1:-(n:Int)≤i
    · rw[if_pos h1] at h
      have e:(i+n).toNat=j:=Option.some.inj h
      exact ⟨by rw[seqIndex_neg (by omega) h1,e],by omega,h1,by omega⟩
    · rw[if_neg h1] at h;cases h
theorem uF {α:Type}{xs:List α}{i:Int}{v:α}(h:atI xs i=some v):∃ j,seqIndex? i xs.length=some j∧xs[j]? = some v∧j < xs.length∧-(xs.length:Int)≤i∧i < xs.length:=by
  unfold atI at h
  cases e:ixN xs.length i with
  | none=>rw[e] at h;cases h
  | some j=>
    rw[e] at h
    obtain ⟨h1,h2,h3,h4⟩:=KL e
    exact ⟨j,h1,h,h2,h3,h4⟩
def Bw (b:Expr):Prop:=∀ o i,subscripted b false o i=operate [o,i] (getItem o i)
def IxR (X:Cx)(r:R2):Prop:=
  ∀ (value slice:Expr) (pins:List (Addr×Obj)) (s:Shared) (σ:St) (H:Hp) (x y:V) (v u:Value) (Q:VK),Inv X pins σ H s→RelV x v→RelV y u→r x y H Q→
    subscripted slice false v u=operate [v,u] (getItem v u)→wpAny (model X.prog X.w) X.A (subscriptTail value slice v u) (EP X pins σ Q) X.xe s
def MtR (X:Cx)(id:String)(r:V→List V→Hp→VK→Prop):Prop:=
  ∀ (pins:List (Addr×Obj)) (s:Shared) (σ:St) (H:Hp) (x:V) (xs:List V) (v:Value) (us:List Value) (Q:VK),Inv X pins σ H s→RelV x v→Vals xs us→r x xs H Q→
    wpAny (model X.prog X.w) X.A (call (.builtin id) (v::us)) (EP X pins σ Q) X.xe s
section
variable {X:Cx} {a b:Expr} {ta tb:TE} {pos:Pos}
theorem IxR.or {r r':R2}(h:IxR X r)(h':IxR X r'):IxR X (fun x y H Q=>r x y H Q∨r' x y H Q):=by
  intro value slice pins s σ H x y v u Q I rx ry q hs
  rcases q with q | q
  · exact h value slice pins s σ H x y v u Q I rx ry q hs
  · exact h' value slice pins s σ H x y v u Q I rx ry q hs
theorem MtR.or {id:String}{r r':V→List V→Hp→VK→Prop}(h:MtR X id r)(h':MtR X id r'):MtR X id (fun x xs H Q=>r x xs H Q∨r' x xs H Q):=by
  intro pins s σ H x xs v us Q I rx rs q
  rcases q with q | q
  · exact h pins s σ H x xs v us Q I rx rs q
  · exact h' pins s σ H x xs v us Q I rx rs q
theorem QG {r:R2}(hr:IxR X r)(ha:PE X a ta)(hb:PE X b tb)(hs:Bw b):PE X (.Subscript a b pos) (tOp r ta tb):=by
  intro pins s σ H Q I h
  exact Subscript_ (Nh ha hb I h fun v u s2 x y H2 I2 rx ry q=>hr a b pins s2 σ H2 x y v u Q I2 rx ry q (hs _ _))
def RB (K:PySem.W.Frag):R2:=fun x y H Q=>∃ p xs i v,x=.ref p∧y=.int i∧SqL K H p xs∧atI xs i=some v∧Q v H
def Rj (K:PySem.W.Frag):R2:=fun x y H Q=>∃ p xs i v,x=.ref p∧y=.int i∧SqT K H p xs∧atI xs i=some v∧Q v H
def Qy:R2:=fun x y H Q=>∃ z i c,x=.str z∧y=.int i∧z.length≤sizeLine∧atI z.cps.toList i=some c∧Q (.str ⟨#[c]⟩) H
theorem Mj:IxR X (RB X.K):=by
  intro value slice pins s σ H x y v u Q I rx ry h hs
  obtain ⟨p,xs,i,z,rfl,rfl,hq,he,q⟩:=h
  cases rx
  obtain ⟨t,rfl⟩:=ry
  obtain ⟨its,r,pl,hz⟩:=I.list hq
  obtain ⟨j,h1,h2,h3,h4,h5⟩:=uF he
  obtain ⟨w,ew,rw'⟩:=r.get h2
  have hl:=r.length
  have hn:=pF
  have fin:EP X pins σ Q w s:=⟨z,H,I,rw',q⟩
  by_cases h0:0≤i
  · have hj:i.toNat=j:=by
      rw[seqIndex_of h0 h5] at h1
      exact Option.some.inj h1
    exact item_listR pl.isList h0 (by omega) (by rw[hj];simpa using ew) fin hs
  · have hj:(i+(its.toArray.size:Int)).toNat=j:=by
      rw[seqIndex_neg (by omega) h4] at h1
      rw[List.size_toArray,← hl]
      exact Option.some.inj h1
    exact subscriptTail_builtinR (x:=w) pl.isList.typeIs slot_list_getitem.lookup
      (wpAny_getItem_list_neg (Q:=fun r s'=>r=w∧EP X pins σ Q r s') pl.isList (by omega) (by rw[List.size_toArray]<;>omega) (by omega) (by rw[hj];simpa using ew) ⟨rfl,fin⟩) hs
theorem Om:IxR X (Rj X.K):=by
  intro value slice pins s σ H x y v u Q I rx ry h hs
  obtain ⟨p,xs,i,z,rfl,rfl,hq,he,q⟩:=h
  cases rx
  obtain ⟨t,rfl⟩:=ry
  obtain ⟨its,r,pl,hz⟩:=I.tuple hq
  obtain ⟨j,h1,h2,h3,h4,h5⟩:=uF he
  obtain ⟨w,ew,rw'⟩:=r.get h2
  have hl:=r.length
  have hn:=pF
  have fin:EP X pins σ Q w s:=⟨z,H,I,rw',q⟩
  exact subscriptTail_builtinR (x:=w) pl.typeIs slot_tuple_getitem.lookup
    (getItem_tuple (j:=j) (Q:=fun r s'=>r=w∧EP X pins σ Q r s') pl (by omega) (by omega) (by rw[List.size_toArray,← hl];exact h1) (by simpa using ew) ⟨rfl,fin⟩) hs
theorem P5:IxR X Qy:=by
  intro value slice pins s σ H x y v u Q I rx ry h hs
  obtain ⟨z,i,c,rfl,rfl,hz,he,q⟩:=h
  obtain ⟨t,rfl⟩:=rx
  obtain ⟨t',rfl⟩:=ry
  obtain ⟨j,h1,h2,h3,h4,h5⟩:=uF he
  have hl:z.cps.toList.length=z.length:=by simp[Str.length]
  rw[hl] at h1 h4 h5
  have hn:=pF
  exact tail_any (typeIs_str s z t) slot_str_getitem.lookup (getItem_str (c:=c) (by
    have e1:decide (i < -(2 ^ 63:Int))=false:=decide_eq_false (by omega)
    have e2:decide (i ≥ 2 ^ 63)=false:=decide_eq_false (by omega)
    rw[e1,e2,Bool.or_false]) (by rw[h1];simpa using h2) ⟨.str ⟨#[c]⟩,H,I.tok _,⟨_,rfl⟩,q⟩) hs
def rIx (K:PySem.W.Frag):R2:=fun x y H Q=>RB K x y H Q∨Rj K x y H Q∨Qy x y H Q
theorem OC:IxR X (rIx X.K):=Mj.or (Om.or P5)
theorem Inv.lst {pins:List (Addr×Obj)}{σ:St}{H:Hp}{s:Shared}{p:Addr}{xs:List V}(I:Inv X pins σ H s)(h:H p=some (.lst xs)) :
    ∃ (its:List Value) (n:Nat),Vals xs its∧s.heap.get? p=some { cls:=.type "list", data:=.seq its.toArray n }∧xs.length≤sizeLine:=by
  obtain ⟨z,its,n,r,e⟩:=I.hok p _ h
  exact ⟨its,n,r,e,z⟩
theorem uU (lo hi:Option Int)(n:Nat):(sliceBounds lo hi none n).1=((HT.sIx n 0 lo:Nat):Int)∧(sliceBounds lo hi none n).2.1=((HT.sIx n n hi:Nat):Int)∧(sliceBounds lo hi none n).2.2=1:=by
  refine ⟨?_,?_,rfl⟩
  · cases lo with
    | none=>simp[sliceBounds,HT.sIx]
    | some i=>
      simp only[sliceBounds,HT.sIx,Option.getD_none,show (1:Int) > 0 by decide,if_true]
      by_cases h:i < 0
      · simp only[h,if_true]<;>omega
      · simp only[h,if_false]<;>omega
  · cases hi with
    | none=>simp[sliceBounds,HT.sIx]
    | some i=>
      simp only[sliceBounds,HT.sIx,Option.getD_none,show (1:Int) > 0 by decide,if_true]
      by_cases h:i < 0
      · simp only[h,if_true]<;>omega
      · simp only[h,if_false]<;>omega
theorem rS (its:List Value)(lo hi:Option Int):slicePick its.toArray lo hi none=((its.drop (HT.sIx its.length 0 lo)).take (HT.sIx its.length its.length hi - HT.sIx its.length 0 lo)).toArray:=by
  obtain ⟨h1,h2,h3⟩:=uU lo hi its.toArray.size
  unfold slicePick
  rw[h1,h2,h3]
  simp only[sliceRange_one,pick_run,List.size_toArray]<;>rfl
def Sl (K:PySem.W.Frag):V→Option Int→Option Int→Hp→VK→Prop:=fun x lo hi H Q=>∃ a xs,x=.ref a∧SqL K H a xs∧∀ p,H p=none→Q (.ref p) (upd H p (.lst (yj xs lo hi)))
theorem Lm:SlR X (Sl X.K):=by
  intro pins s σ H x v vl vu lo hi sl Q I rx hs pl pu h
  obtain ⟨a,xs,rfl,hx,q⟩:=h
  cases rx
  obtain ⟨its,r,ht,hz⟩:=I.list hx
  have hlen:=r.length
  refine ⟨"list", _,slot_list_getitem.lookup,ht.isList.typeIs,?_⟩
  refine wpAny_getItem_list_slice ht.isList hs pl pu .none (by simp) ?_ (by rw[List.size_toArray]<;>omega)
  rw[rS,← hlen]
  refine ⟨.ref s.heap.objs.size,_,I.laid (t':=s.toks) (o:=.lst (yj xs lo hi)) (fun b ob q=>Heap.get?_push_of_some _ q) (Nat.le_refl _) ?_,rfl,q _ (I.hok.fresh (Nat.le_refl _))⟩
  exact ⟨Nat.le_trans (nL xs lo hi) hz,_,0,(r.drop (HT.sIx xs.length 0 lo)).take (HT.sIx xs.length xs.length hi - HT.sIx xs.length 0 lo),Heap.get?_push_size _ rfl⟩
def MD:V→Bool
  | .non=>true
  | .bl _=>true
  | .int _=>true
  | .str _=>true
  | _=>false
def eqV:V→V→Bool
  | .non,.non=>true
  | .bl a,.bl b=>a == b
  | .bl a,.int b=>(if a then 1 else 0) == b
  | .int a,.bl b=>a == (if b then 1 else 0)
  | .int a,.int b=>a == b
  | .str a,.str b=>a == b
  | _,_=>false
def inV (x:V)(xs:List V):Bool:=xs.any fun y=>eqV y x
def rIn (K:PySem.W.Frag)(neg:Bool):R2:=fun x y H Q=>∃ p xs,y=.ref p∧(SqL K H p xs∨SqT K H p xs)∧MD x=true∧xs.all MD=true∧Q (.bl (if neg then !inV x xs else inV x xs)) H
theorem u6:cH X (.builtin "len") (fun xs H Q=>∃ p ys,xs=[.ref p]∧(SqL X.K H p ys∨SqT X.K H p ys)∧Q (.int ys.length) H):=by
  intro pins s σ H xs us Q I r h
  obtain ⟨p,ys,rfl,hq,q⟩:=h
  obtain ⟨u,rfl,rx⟩:=vals1 r
  cases rx
  have hn:=pF
  rcases hq with hq | hq
  · obtain ⟨its,r',pl,hz⟩:=I.list hq
    have hlen:=r'.length
    exact Calls.call_len_list pl.isList (by simp only[List.size_toArray]<;>omega) ⟨.int ys.length,H,I.tok _,⟨s.toks+1,by rw[List.size_toArray,hlen]⟩,q⟩
  · obtain ⟨its,r',pl,hz⟩:=I.tuple hq
    have hlen:=r'.length
    exact len_tuple pl (by simp only[List.size_toArray]<;>omega) ⟨.int ys.length,H,I.tok _,⟨s.toks+1,by rw[List.size_toArray,hlen]⟩,q⟩
theorem tX:cH X (.builtin "len") (fun xs H Q=>∃ z,xs=[.str z]∧z.length≤sizeLine∧Q (.int z.length) H):=by
  intro pins s σ H xs us Q I r h
  obtain ⟨z,rfl,hz,q⟩:=h
  obtain ⟨u,rfl,t,rfl⟩:=vals1 r
  have hn:=pF
  exact len_str (by omega) ⟨.int z.length,H,I.tok _,⟨_,rfl⟩,q⟩
theorem cH.or {f:Value}{r r':List V→Hp→VK→Prop}(h:cH X f r)(h':cH X f r'):cH X f (fun xs H Q=>r xs H Q∨r' xs H Q):=by
  intro pins s σ H xs us Q I rs q
  rcases q with q | q
  · exact h pins s σ H xs us Q I rs q
  · exact h' pins s σ H xs us Q I rs q
theorem iP:cH X (.type "list") (fun xs H Q=>∃ p ys,xs=[.ref p]∧(SqL X.K H p ys∨SqT X.K H p ys)∧∀ l,H l=none→Q (.ref l) (upd H l (.lst ys))):=by
  intro pins s σ H xs us Q I r h
  obtain ⟨p,ys,rfl,hq,q⟩:=h
  obtain ⟨u,rfl,rx⟩:=vals1 r
  cases rx
  have fin:∀ (its:List Value),Vals ys its→ys.length≤sizeLine→∀ (h':Heap) (c':Nat),(∀ b o',s.heap.get? b=some o'→h'.get? b=some o')→
      h'.get? s.heap.objs.size=some { cls:=.type "list", dict:=none,data:=.seq its.toArray c',slots:=#[] }→EP X pins σ Q (.ref s.heap.objs.size) { s with heap:=h' }:=fun its r' hz h' c' kp e=>
    ⟨.ref s.heap.objs.size,_,I.laid (t':=s.toks) kp (Nat.le_refl _) (show dX X.prog X.w _ h' _ (.lst ys) from ⟨hz,its,c',r',e⟩),rfl,q _ (I.hok.fresh (Nat.le_refl _))⟩
  rcases hq with hq | hq
  · obtain ⟨its,r',pl,hz⟩:=I.list hq
    have hlen:=r'.length
    obtain ⟨o,ho,hc,n,hd⟩:=pl.isList
    exact call_list_seq p (.inl rfl) ho hc hd (fun h' c' kp e=>fin its r' hz h' c' kp e) (by simp only[List.size_toArray]<;>omega)
  · obtain ⟨its,r',pl,hz⟩:=I.tuple hq
    have hlen:=r'.length
    obtain ⟨o,ho,hc,n,hd⟩:=pl
    exact call_list_seq p (.inr rfl) ho hc hd (fun h' c' kp e=>fin its r' hz h' c' kp e) (by simp only[List.size_toArray]<;>omega)
theorem aE:cH X (.type "tuple") (fun xs H Q=>∃ p ys,xs=[.ref p]∧((SqL X.K H p ys∧∀ l,H l=none→Q (.ref l) (upd H l (.tup ys)))∨(SqT X.K H p ys∧Q (.ref p) H))):=by
  intro pins s σ H xs us Q I r h
  obtain ⟨p,ys,rfl,h⟩:=h
  obtain ⟨u,rfl,rx⟩:=vals1 r
  cases rx
  rcases h with ⟨hq,q⟩ | ⟨hq,q⟩
  · obtain ⟨its,r',pl,hz⟩:=I.list hq
    have hlen:=r'.length
    refine call_tuple_list pl.isList (fun h' kp=>?_) (by simp only[List.size_toArray]<;>omega)
    have I1:Inv X pins σ H { s with heap:=h' }:=I.kept (t':=s.toks) kp
    have I2:Inv X pins σ (upd H h'.objs.size (.tup ys)) { s with heap:=h'.push { cls:=.type "tuple", data:=.seq its.toArray } }:=
      I1.laid (t':=s.toks) (fun b o e=>Heap.get?_push_of_some _ e) (Nat.le_refl _) (show dX X.prog X.w _ _ _ (.tup ys) from ⟨hz,its,r',uS.new _ _⟩)
    exact ⟨.ref h'.objs.size,_,I2,rfl,q _ (I1.hok.fresh (Nat.le_refl _))⟩
  · obtain ⟨its,r',pl,hz⟩:=I.tuple hq
    exact call_tuple_same pl ⟨.ref p,H,I,rfl,q⟩
def tyV (K:PySem.W.Frag)(T:String)(x:V)(H:Hp):Prop:=match x with
  | .str _=>T = "str"
  | .int _=>T = "int"
  | .ref p=>(T = "list" ∧ ∃ xs,SqL K H p xs)∨(T = "tuple" ∧ ∃ o,K.lookup p=some o∧o.cls=.type "tuple" ∧ o.dict=none)∨
      (T = "dict" ∧ ((∃ kvs,H p=some (.dK kvs))∨∃ kvs,H p=some (.dT kvs)))∨(T = "set" ∧ ∃ S n,H p=some (.set S n))
  | _=>False
theorem P7 {pins:List (Addr×Obj)}{σ:St}{H:Hp}{s:Shared}{T:String}{x:V}{v:Value}(I:Inv X pins σ H s)(r:RelV x v)(ty:tyV X.K T x H) :
    s.TypeIs v T∧∀ a,v=.ref a→∃ ob,s.heap.get? a=some ob∧ob.dict=none:=by
  cases x with
  | str z=>
    obtain ⟨t,rfl⟩:=r
    cases (show T = "str" from ty)
    exact ⟨typeIs_str s z t,fun _ e=>nomatch e⟩
  | int i=>
    obtain ⟨t,rfl⟩:=r
    cases (show T = "int" from ty)
    exact ⟨typeIs_int s i t,fun _ e=>nomatch e⟩
  | ref p=>
    cases r
    rcases ty with ⟨rfl,xs,hq⟩ | ⟨rfl,o,hk,hc,hd⟩ | ⟨rfl,hk⟩ | ⟨rfl,S,n,hk⟩
    · obtain ⟨its,_,pl,_⟩:=I.list hq
      refine ⟨pl.isList.typeIs,fun a e=>?_⟩
      cases e
      obtain ⟨o,n,e,c,hd,_⟩:=pl
      exact ⟨o,e,hd⟩
    · refine ⟨⟨o,I.kIn p o hk,hc⟩,fun a e=>?_⟩
      cases e
      exact ⟨o,I.kIn _ o hk,hd⟩
    · have z:∃ o,s.heap.get? p=some o∧o.ExactDict:=by
        rcases hk with ⟨kvs,hk⟩ | ⟨kvs,hk⟩
        · obtain ⟨_,_,_,_,o,_,_,e,ex,_⟩:=I.hok p _ hk
          exact ⟨o,e,ex⟩
        · obtain ⟨_,_,_,_,o,_,_,e,ex,_⟩:=I.hok p _ hk
          exact ⟨o,e,ex⟩
      obtain ⟨o,e,ex⟩:=z
      refine ⟨⟨o,e,ex.1⟩,fun a e2=>?_⟩
      cases e2
      exact ⟨o,e,ex.2.1⟩
    · obtain ⟨o,_,_,_,e,ex,_⟩:=I.hok p _ hk
      refine ⟨⟨o,e,ex.1⟩,fun a e2=>?_⟩
      cases e2
      exact ⟨o,e,ex.2.1⟩
  | _=>exact False.elim ty
def tBM (K:PySem.W.Frag)(T:String)(r:V→List V→Hp→VK→Prop)(to:TE)(t:TA):TE:=fun σ H Q=>to σ H fun x H1=>tyV K T x H1∧t σ H1 fun xs H2=>r x xs H2 Q
variable {o e:Expr} {es:List Expr} {to:TE} {t:TA} {name:Str} {apos cpos:Pos} {T id:String} {r:V→List V→Hp→VK→Prop}
theorem BA (pa:PlainAttrs T)(slot:Slot T name id)(hty:typeOf (.builtin id)=pure (.type "method_descriptor"))(hm:MtR X id r)(ho:PE X o to)(ha:PA X (e::es) t)
    (hbase:attributeBase o name X.env (eval o X.env)=eval o X.env:=by rfl)
    (hfew:((backTo cpos (starEach (e::es) X.env)).all (fun x=>!x.1)&&(backToKw cpos (keywordEach [] X.env)).all (fun x=>x.1.isSome)
      && decide ((e::es).length+([]:List Keyword).length+(if ([]:List Keyword).isEmpty then 0 else 1) < 30))=true:=by rfl)
    (hline:(apos.endLine == cpos.line)=true:=by rfl) (hs:starEach (e::es) X.env=(false,eval e X.env)::starEach es X.env:=by rfl) (hplain:(backTo cpos (starEach es X.env)).any (·.1)=false:=by rfl) :
    PE X (.Call (.Attribute o name apos) (e::es) [] cpos) (tBM X.K T r to t):=by
  intro pins s σ H Q I h
  refine wpAny_Call_method_late hbase hfew hline rfl (thn (ho pins s σ H _ I h) fun v s1 ⟨x,H1,I1,r1,ty,q1⟩=>?_)
  obtain ⟨h1,h2⟩:=P7 I1 r1 ty
  refine ⟨T,id,pa,slot,hty,h1,h2,?_⟩
  have hA:=ha cpos pins s1 σ H1 _ I1 q1
  rw[hs] at hA ⊢
  refine Calls.callWith_builtin (by show (false || (backTo cpos (starEach es X.env)).any (·.1))=false;rw[hplain]<;>rfl) (Calls.evalArgs_plain ?_)
  exact thn hA fun us s2 ⟨vs,H2,I2,r2,q2⟩=>hm pins s2 σ H2 x vs v us Q I2 r1 r2 q2
end
end L2
namespace L2
open PySem PySem.Spec PyProof.Rows
def MtM (X:Cx)(id:String)(r:V→List V→Hp→VK→Prop):Prop:=
  ∀ (pins:List (Addr×Obj)) (s:Shared) (σ:St) (H:Hp) (x:V) (xs:List V) (v:Value) (us:List Value) (Q:VK),Inv X pins σ H s→RelV x v→Vals xs us→r x xs H Q→
    wpAny (model X.prog X.w) X.A (call (.builtin id) (v::us)) (EP X pins σ Q) X.xe s
theorem Vals.one:∀ {x:V} {us:List Value},Vals [x] us→∃ u,us=[u]∧RelV x u
  | _,_,.cons r .nil=>⟨_,rfl,r⟩
theorem Vals.zero:∀ {us:List Value},Vals [] us→us=[]
  | _,.nil=>rfl
theorem Vals.eraseIdx:∀ {xs:List V} {us:List Value} (i:Nat),Vals xs us→Vals (xs.eraseIdx i) (us.eraseIdx i)
  | _,_,_,.nil=>.nil
  | _,_,0,.cons _ t=>t
  | _,_,i+1,.cons r t=>.cons r (Vals.eraseIdx i t)
theorem Vals.reverse {xs:List V}{us:List Value}(h:Vals xs us):Vals xs.reverse us.reverse:=by
  induction h with
  | nil=>exact .nil
  | cons r t ih=>rw[List.reverse_cons,List.reverse_cons];exact Vals.append ih (.cons r .nil)
theorem Vals.rep {xs:List V}{us:List Value}(h:Vals xs us):∀ k:Nat,Vals (List.replicate k xs).flatten (List.replicate k us).flatten
  | 0=>.nil
  | k+1=>by
    rw[List.replicate_succ,List.replicate_succ,List.flatten_cons,List.flatten_cons]
    exact Vals.append h (Vals.rep h k)
theorem r8 {α:Type}:∀ (l:List α) (i:Nat),(l.eraseIdx i).length≤l.length
  | [],_=>Nat.le_refl _
  | _::_,0=>Nat.le_succ _
  | _::r,i+1=>Nat.succ_le_succ (r8 r i)
section
variable {X:Cx} {pins:List (Addr×Obj)} {σ:St} {H:Hp} {s:Shared} {l b:Addr} {xs ys zs:List V}
theorem Inv.Lu {its its':List Value}{n:Nat}{f:Array Value→Array Value}{t':Nat}(I:Inv X pins σ H s)(hH:H l=some (.lst xs))
    (e:s.heap.get? l=some { cls:=.type "list", data:=.seq its.toArray n }) (hf:f its.toArray=its'.toArray) (hv:Vals ys its') (hz:ys.length≤sizeLine) :
    Inv X pins σ (upd H l (.lst ys)) { s with heap:=s.heap.update l (Obj.mapSeq f),toks:=t' }:=by
  have q:=PySem.IsL.update e f
  rw[hf] at q
  refine I.write (x:=l) (e:=l) (by rw[hH];exact trivial) (.inl rfl) (fun b' u hb hu=>(Heap.get?_update_other s.heap (Obj.mapSeq f) (Ne.symm hb)).trans hu) ⟨_,q⟩ ?_
  exact ⟨hz,its',_,hv,q⟩
theorem Inv.Sj {its:List Value}{t':Nat}(I:Inv X pins σ H s)(hv:Vals ys its)(hz:ys.length≤sizeLine) :
    Inv X pins σ (upd H s.heap.objs.size (.lst ys)) { s with heap:=s.heap.push { cls:=.type "list", data:=.seq its.toArray },toks:=t' }:=
  I.laid (fun _ _ q=>Heap.get?_push_of_some _ q) (Nat.le_refl _) ⟨hz,its,0,hv,Heap.get?_push_size _ rfl⟩
theorem Inv.fresh (I:Inv X pins σ H s):H s.heap.objs.size=none:=I.hok.fresh (Nat.le_refl _)
theorem Inv.JV (I:Inv X pins σ H s)(hH:H l=some (.lst xs)):xs.length≤sizeLine∧∃ (its:List Value) (n:Nat),Vals xs its∧xs.length=its.length∧s.heap.get? l=some { cls:=.type "list", data:=.seq its.toArray n }:=by
  obtain ⟨z,its,n,r,e⟩:=I.hok l _ hH
  exact ⟨z,its,n,r,r.length,e⟩
theorem ym {n:Nat}(h:n≤sizeLine):Builtin.List.listTooLong n=false:=by
  unfold Builtin.List.listTooLong
  exact decide_eq_false (by omega)
end
section
variable {X:Cx}
def Ju:V→List V→Hp→VK→Prop:=fun x vs H Q=>∃ l xs y,x=.ref l∧vs=[y]∧H l=some (.lst xs)∧xs.length < sizeLine∧Q .non (upd H l (.lst (xs++[y])))
theorem tf:MtM X "list.append" Ju:=by
  intro pins s σ H x vs v us Q I rx rv h
  obtain ⟨l,xs,y,rfl,rfl,hH,hz,q⟩:=h
  cases rx
  obtain ⟨u,rfl,ru⟩:=rv.one
  obtain ⟨z,its,n,r,hl,e⟩:=I.JV hH
  refine call_meets F.slot_list_append ⟨_,e,rfl⟩ F.entry_list_append (F.args_list_append_2 _ _) (PySem.list_append l its.toArray n u (by rw[List.size_toArray];omega)) ⟨e,?_⟩
  refine ⟨.non,_,I.Lu (its':=its++[u]) hH e (by simp) (r.append (.cons ru .nil)) ?_,rfl,q⟩
  rw[List.length_append,List.length_singleton]
  omega
def Np:V→List V→Hp→VK→Prop:=fun x vs H Q=>∃ l xs i k y,x=.ref l∧vs=[.int i]∧H l=some (.lst xs)∧-(2 ^ 63)≤i∧i < 2 ^ 63∧seqIndex? i xs.length=some k∧xs[k]? = some y∧Q y (upd H l (.lst (xs.eraseIdx k)))
theorem Es:MtM X "list.pop" Np:=by
  intro pins s σ H x vs v us Q I rx rv h
  obtain ⟨l,xs,i,k,y,rfl,rfl,hH,h1,h2,hk,hy,q⟩:=h
  cases rx
  obtain ⟨u,rfl,ru⟩:=rv.one
  obtain ⟨t,rfl⟩:=ru
  obtain ⟨z,its,n,r,hl,e⟩:=I.JV hH
  obtain ⟨w,hw,rw'⟩:=r.get hy
  refine call_meets F.slot_list_pop ⟨_,e,rfl⟩ F.entry_list_pop (F.args_list_pop_2 _ _)
    (MeetsSeq.list_pop_at l its.toArray n i t k w (fitsIndex_both h1 h2) (by rw[List.size_toArray,← hl];exact hk) (by rw[← Array.getElem?_toList];exact hw) (by rw[List.size_toArray];omega)) ⟨e,?_⟩
  refine ⟨y,_,I.Lu (its':=its.eraseIdx k) hH e ?_ (r.eraseIdx k) ?_,rw',q⟩
  · show its.toArray.eraseIdxIfInBounds k=(its.eraseIdx k).toArray
    rw[List.eraseIdxIfInBounds_toArray]
  · have:=r8 xs k
    omega
end
section
variable {prog:Program} {w:World} {A:Around} {E:Value→Shared→Prop} {s:Shared}
end
section
variable {X:Cx}
end
end L2
namespace Att
open PySem PySem.W PySem.Calls PyProof.Rows
theorem nW {P:Params}{h:Heap}:∀ (ns:List Int) (vs:List Value),WellAll P h vs (ns.map WData.int)→IntsAre vs ns:=by
  intro ns
  induction ns with
  | nil=>
    intro vs w
    rw[List.map_nil] at w
    cases w
    exact .nil
  | cons n ns ih=>
    intro vs w
    rw[List.map_cons] at w
    cases w with
    | cons a b=>
      cases a
      exact .cons _ _ (ih _ b)
theorem Dq {l:OpenLaw}{n:Nat}(hn:l.most=some n){P:Params}{h:Heap}{args:List WData}{vals:List Value}
    (hpre:l.row.toRowW.claim.pre args=true) (hwl:WellAll P h vals args) :
    ∃ a vs ns,vals=[Value.ref a]∧args=[WData.list (ns.map WData.int)]∧h.get? a=some { cls:=.type "list", data:=.seq vs.toArray }∧IntsAre vs ns∧ns.length≤n:=by
  have hsh:WShape.hasAll [] args [.list .int]=true:=(pre_splitW hpre).1
  have hc:l.pre.holds [] { args:=args }=true:=(pre_splitW hpre).2
  obtain ⟨d,r,rfl,h1,h2⟩:=hasAllW_cons hsh
  obtain rfl:=hasAllW_nil h2
  obtain ⟨xs,rfl,h3⟩:=hasW_list h1
  obtain ⟨ns,rfl⟩:=items_int h3
  have hlen:ns.length≤n:=by
    unfold OpenLaw.pre at hc
    have h4:(WTm.not (.lt (.lit (.int (n:Int))) (.len (.arg 0)))).holds [] { args:=[.list (ns.map .int)] }=true:=by
      have h4:=(holds_andW hc).1
      rw[hn] at h4
      exact h4
    have h5:=condW_of h4 (w_not (w_lt w_lit (w_len_list (w_arg rfl))))
    rw[List.length_map] at h5
    refine Nat.le_of_not_lt fun q=>?_
    have q':(n:Int) < ((ns.length:Nat):Int):=by omega
    first
      | (rw[decide_eq_true q'] at h5;exact absurd h5 (by decide))
      | (simp at h5;omega)
  cases hwl with
  | cons w1 w2=>
    cases w2
    cases w1 with
    | list ho hall=>exact ⟨_,_,ns,rfl,rfl,ho,nW ns _ hall,hlen⟩
theorem DU (l:OpenLaw)(args:List WData):l.row.toRowW.claim.post args (.bool true) args=true:=
  postW_of (r:=l.row.toRowW) (X:=(true == true))
    (show WShape.has [] (.bool true) .bool=true by first | rfl | decide | simp[WShape.has,WShape.arms,WShape.armsAll])
    (show (WTm.eq .res (.lit (.bool true))).value [] { args:=args,res:=some (.bool true),after:=args }=some (.bool (true == true)) from w_eq_bool (w_res rfl) w_lit) rfl
theorem xj {l:OpenLaw}{n:Nat}{q:Program}{loose:List Str}{XP:(Str→Option Value)→Heap→Prop}{YP:World→Heap→Prop}{d:DefRec}
    (hn:l.most=some n) (hdf:d.params.defaults=[])
    (call:∀ (w:World) (s₀ s₁:Shared) (mg mb:Str→Option Value) (fa:Addr) (o:Obj) (pm cd doc:Value) (a:Addr) (vs:List Value) (ns:List Int),
      Ground q loose [] XP w s₀ mg mb s₁.heap→YP w s₁.heap→
      s₁.heap.get? fa=some o→o.data=.func (docDef d.name d.params d.body d.scope pm cd doc)→s₁.heap.CodeRec cd d.name→mg d.name=some (.ref fa)→
      s₁.heap.get? a=some { cls:=.type "list", data:=.seq vs.toArray }→IntsAre vs ns→ns.length≤n→s₁.gens = #[]→
      codeAny (model l.prog w) callerA (.call (.ref fa) ⟨[.ref a],[]⟩) (fun r s'=>r=.ok (.ret (.bool true))∧OldK s₁.heap s'.heap∧s'.os=s₁.os∧AllBare s'.gens) s₁) :
    WalkO q loose XP YP l.row.toRowW d [] (fun f vs=>PySem.call f vs):=by
  intro w s₀ s₁ mg mb G Y fa o pm cd doc dV kV ho hd hcd hD hmg hg args vals as hpre hlay hrd hwl hlo
  obtain rfl:dV=.none:=Dflts.none hD hdf
  obtain rfl:kV=.none:=Dflts.noKw hD
  obtain ⟨a,vs,ns,rfl,rfl,hobj,hints,hlen⟩:=Dq hn hpre hwl
  refine enter_call (codeAny_mono (call w s₀ s₁ mg mb fa o pm cd doc a vs ns G Y ho (fd_plain hd) hcd hmg hobj hints hlen hg) fun r s' hq=>?_)
  obtain ⟨rfl,h2,h3,h4⟩:=hq
  exact ⟨.inl ⟨.bool true,.bool true,[],rfl,fun _=>rfl,.bool true,DU l _,fun _=>⟨List.Pairwise.nil,fun _ hm=>(nomatch hm)⟩⟩,h2,h3,h4⟩
section
variable {prog:Program} {w:World} {A:Around} {E:Value→Shared→Prop} {s:Shared} {K:Frag}
end
end Att
namespace L2
open PySem PySem.Spec PyProof.Rows
theorem sJ:∀ {vs:List Value} {ns:List Int},IntsAre vs ns→Vals (ns.map V.int) vs
  | _,_,.nil=>.nil
  | _,_,.cons n t h=>.cons ⟨t,rfl⟩ (sJ h)
def Jk (H:Hp):Prop:=∀ b,H b=none∨∃ o xs,H b=some (.frz o (.lst xs))
theorem Gq {P:Program}{w:World}{K:PySem.W.Frag}{mg mb:Str→Option Value}{CX:CXT}{k:Nat}{fa a:Addr}{fd:FuncData}{x:Str}{sp:Sp}{s₁:Shared}{vs:List Value}{ns:List Int}
    (KX:K.In s₁.heap) (hns:s₁.heap.Ns mainGlobals mg) (hb:s₁.heap.Ns builtinsNs mb) (hbb:∀ x:Str,x ≠ "__name__" → mb x=bootBuiltins x) (hlim:s₁.heap.NoLimit) (hg:s₁.gens = #[])
    (ha:s₁.heap.get? a=some { cls:=.type "list", data:=.seq vs.toArray }) (hi:IntsAre vs ns) (hl:ns.length≤sizeLine) (hr:fT k callerA)
    (F:∀ base:Heap,K.In base→base.Ns mainGlobals mg→ik P w K mg base CX k fa fd [x] sp) (hbind:∀ (s:Shared) (u:Value),BindsTo s fd ⟨[u],[]⟩ [(x,u)])
    (hsp:∀ H:Hp,Jk H→SqL K H a (ns.map V.int)→sp [.ref a] H (fun v _=>v=.bl true) fun _ _ _=>False)
    (hCX:∀ H e s',CX [] H s₁ (fun _ _ _=>False) e s'→False) :
    codeAny (model P w) callerA (.call (.ref fa) ⟨[.ref a],[]⟩) (fun r s'=>r=.ok (.ret (.bool true))∧OldK s₁.heap s'.heap∧s'.os=s₁.os∧AllBare s'.gens) s₁:=by
  have rv:=sJ hi
  have SX:=hi.length
  -- from an abstract heap in which nothing but the script may be tracked
  have core:∀ H:Hp,Jk H→SqL K H a (ns.map V.int)→HOk P w H s₁.heap→(∀ b,H b≠none→b=a)→(H a≠none→K.lookup a=none)→
      codeAny (model P w) callerA (.call (.ref fa) ⟨[.ref a],[]⟩) (fun r s'=>r=.ok (.ret (.bool true))∧OldK s₁.heap s'.heap∧s'.os=s₁.os∧AllBare s'.gens) s₁:=by
    intro H hO hS hok hA hK
    have base_of:∀ {b:Addr} {o:Obj},s₁.heap.get? b=some o→H b=none→(uf s₁.heap H).get? b=some o:=fun e n=>IB e n
    have noA:∀ {b:Addr} {o:Obj} {es:Array DictEntry} {ep:Nat},s₁.heap.get? b=some o→o.data=.dict es ep→H b=none:=fun {b o es ep} e d=>by
      cases q:H b with
      | none=>rfl
      | some u=>
        have e':b=a:=hA b (by rw[q];simp)
        subst e'
        rw[ha] at e;cases e
        have d':Data.seq vs.toArray _=Data.dict es ep:=d
        cases d'
    have nsK:∀ {b:Addr} {m:Str→Option Value},s₁.heap.Ns b m→(uf s₁.heap H).Ns b m:=fun {b m} ⟨o,es,ep,e,d,r⟩=>⟨o,es,ep,base_of e (noA e d),d,r⟩
    have hKb:K.In (uf s₁.heap H):=fun b o e=>base_of (KX b o e) (by
      cases q:H b with
      | none=>rfl
      | some u=>
        have e':b=a:=hA b (by rw[q];simp)
        subst e'
        rw[hK (by rw[q];simp)] at e;cases e)
    have hM:Mod K mg (uf s₁.heap H):=⟨hKb,nsK hns,⟨mb,nsK hb,hbb⟩,let ⟨mc,h1,h2⟩:=hlim;⟨mc,nsK h1,h2⟩⟩
    have e0:zJ P w K mg (uf s₁.heap H) callerA [] s₁ H:=⟨rfl,hM,fun b o e=>Kc e,Nat.le_of_eq (DI _ _),trivial,fun b hb=>absurd (show b∈([]:List Addr) from hb) (by simp),hok,.of_eq hg⟩
    refine codeAny_mono ((F _ hKb (nsK hns)).run callerA [] s₁ H ⟨[.ref a],[]⟩ [.ref a] [.ref a] _ _ hr e0 (hbind s₁ (.ref a)) (.cons rfl .nil) (hsp H hO hS)) fun r s' h=>?_
    cases r with
    | error e=>exact (hCX H e s' h).elim
    | ok fl=>
      cases fl with
      | next=>exact False.elim h
      | brk=>exact False.elim h
      | cont=>exact False.elim h
      | ret u=>
        obtain ⟨v,H',os,bare,un,hok',r',q⟩:=h
        have q':v=.bl true:=q
        subst q'
        obtain rfl:u=Value.bool true:=r'
        refine ⟨rfl,OldK.of_keep fun b o e=>?_,os,bare⟩
        cases q:H b with
        | none=>exact un.keep b o e q (by intro z;exact absurd (show b∈([]:List Addr) from z) (by simp)) (by simp)
        | some u=>
          rcases hO b with z | ⟨ob,xs,z⟩
          · rw[q] at z;cases z
          · have z2:=un.mi b ob _ z
            obtain ⟨e1,_⟩:=hok b _ z
            obtain ⟨e2,_⟩:=hok' b _ z2
            rw[e] at e1;cases e1
            exact e2
  cases hk:K.lookup a with
  | some o=>
    -- the script is one of the module's own objects
    have e:=KX a o hk
    rw[ha] at e
    cases e
    refine core (fun _=>none) (fun _=>.inl rfl) (.inr ⟨_,vs.toArray,_,hk,rfl,rfl,rfl,by rw[List.size_toArray,SX];exact hl,by simpa using rv⟩) (fun b u z=>by have z':(none:Option HO)=some u:=z;cases z') (fun b z=>absurd rfl z) fun z=>absurd rfl z
  | none=>
    refine core (fun b=>if b=a then some (.frz { cls:=.type "list", data:=.seq vs.toArray } (.lst (ns.map V.int))) else none) (fun b=>?_) (.inl (.inr ⟨{ cls:=.type "list", data:=.seq vs.toArray },if_pos rfl⟩)) (fun b u z=>?_) (fun b z=>?_) fun _=>hk
    · by_cases hb:b=a
      · exact .inr ⟨_,_,if_pos hb⟩
      · exact .inl (if_neg hb)
    · by_cases hb:b=a
      · have z':=(if_pos hb).symm.trans z
        cases z'
        subst hb
        exact ⟨ha,by rw[List.length_map];exact hl,vs,_,rv,ha⟩
      · have z':=(if_neg hb).symm.trans z
        cases z'
    · by_cases hb:b=a
      · exact hb
      · exact absurd (if_neg hb) z
end L2
namespace L2
open PySem PySem.Spec PyProof.Rows
theorem K1 {l:PySem.W.OpenLaw}{n k:Nat}{q:Program}{loose:List Str}{XP:(Str→Option Value)→Heap→Prop}{YP:World→Heap→Prop}{d:DefRec}{K:Params→PySem.W.Frag}{CX:World→CXT}{sp:World→Sp}{x:Str}
    (hn:l.most=some n) (hn2:n≤sizeLine) (hdf:d.params.defaults=[]) (hr:fT k callerA)
    (hY:∀ (w:World) (h:Heap),YP w h→(K w.params).In h)
    (F:∀ (w:World) (mg:Str→Option Value) (fa:Addr) (h:Heap),(K w.params).In h→h.Ns mainGlobals mg→mg d.name=some (.ref fa)→
      ∃ fd:FuncData,(∀ (s:Shared) (u:Value),BindsTo s fd ⟨[u],[]⟩ [(x,u)])∧
        ∀ base:Heap,(K w.params).In base→base.Ns mainGlobals mg→ik l.prog w (K w.params) mg base (CX w) k fa fd [x] (sp w))
    (hsp:∀ (w:World) (H:Hp) (a:Addr) (ns:List Int),ns.length≤n→Jk H→SqL (K w.params) H a (ns.map V.int)→sp w [.ref a] H (fun v _=>v=.bl true) fun _ _ _=>False)
    (hCX:∀ (w:World) (H:Hp) (s:Shared) (e:Value) (s':Shared),CX w [] H s (fun _ _ _=>False) e s'→False) :
    PySem.W.WalkO q loose XP YP l.row.toRowW d [] (fun f vs=>PySem.call f vs):=by
  refine Att.xj hn hdf fun w s₀ s₁ mg mb fa o pm cd doc a vs ns G Y ho hd hcd hmg hobj hints hlen hg=>?_
  have KX:=hY w _ Y
  obtain ⟨fd,hb,hF⟩:=F w mg fa _ KX G.T.g hmg
  exact Gq KX G.T.g G.T.b G.T.builtins G.T.nolimit hg hobj hints (Nat.le_trans hlen hn2) hr hF hb (fun H hO hS=>hsp w H a ns hlen hO hS) fun H e s'=>hCX w H s₁ e s'
end L2
namespace L2
open PySem PySem.Spec PyProof.Rows
def lr (s:Stmt):Arguments:=match s with
  | .FunctionDef _ a _ _ _ _ _ _ _ _=>a
  | _=>{ posonlyargs:=[],args:=[],vararg:=none,kwonlyargs:=[],kw_defaults:=[],kwarg:=none,defaults:=[] }
def gY (s:Stmt):List Stmt:=match s with
  | .FunctionDef _ _ b _ _ _ _ _ _ _=>b
  | _=>[]
def au (s:Stmt):Scope:=match s with
  | .FunctionDef _ _ _ _ _ _ sc _ _ _=>sc
  | _=>{ kind:=.function,names:=[],isGenerator:=false,isCoroutine:=false }
abbrev CX0:CXT:=fun _ _ _ _ _ _=>False
abbrev E0:XK:=fun _ _ _=>False
theorem RI {X:Cx}:Passes CX0 X E0:=fun _ _ _ _ _ _ _ h=>h.elim
structure Fun (K:PySem.W.Frag) (x qual:Str) (st:Stmt) (f:Addr) (fd:FuncData):Prop where
  ex:∃ (oc:Value) (od:Option Addr) (kV doc pm:Value) (an:Option Addr) (cdv ct:Value) (osl:Array (Option Value)),
    fd=PySem.W.fnOf x qual (lr st) (gY st) (au st) .none kV doc pm an cdv ct∧K.lookup f=some ⟨oc,od,.func fd,osl⟩∧PySem.W.codeIn K cdv qual=true
  kp:PySem.W.keepIn K (.ref f)=true
section
variable {P:Program} {w:World} {K:PySem.W.Frag} {mg:Str→Option Value} {base:Heap}
theorem Fun.ok {x qual:Str}{st:Stmt}{f:Addr}{fd:FuncData}{N ps:List Str}{k:Nat}{sp:Sp}(F:Fun K x qual st f fd)(S:aI N ps (au st))(len:∀ vs H Q E,sp vs H Q E→vs.length=ps.length)
    (hbody:∀ (cdv:Value) (A:Around) (outer:List Env) (s:Shared) (H:Hp) (vs:List V) (Q:VK) (E:XK),fT k (A.deeper (envOfC qual (au st) s.heap.objs.size f cdv))→sp vs H Q E→
      ∃ t,PSs (vK CX0 P w K mg base N qual (au st) f cdv A outer s H E).nox (gY st) t∧t { nx:=fun _ H'=>Q .non H',rt:=Q } (start N vs) H):ik P w K mg base CX0 (k+1) f fd ps sp:=by
  obtain ⟨oc,od,kV,doc,pm,an,cdv,ct,osl,rfl,lk,hcd⟩:=F.ex
  refine RO lk hcd S len fun A outer s H vs Q E hr hsp=>?_
  obtain ⟨t,h,q⟩:=hbody cdv A outer s H vs Q E hr hsp
  exact ⟨t,h.nox,q⟩
theorem Fun.binds {x qual:Str}{st:Stmt}{f:Addr}{fd:FuncData}{ps:List Str}(F:Fun K x qual st f fd)
    (h:∀ (kV doc pm:Value) (an:Option Addr) (cdv ct:Value) (us:List Value),us.length=ps.length→bindArgs (PySem.W.fnOf x qual (lr st) (gY st) (au st) .none kV doc pm an cdv ct) ⟨us,[]⟩=pure (ps.zip us)):Binds K fd ps []:=by
  obtain ⟨oc,od,kV,doc,pm,an,cdv,ct,osl,rfl,lk,hcd⟩:=F.ex
  exact .all (h kV doc pm an cdv ct)
theorem aS {x qual:Str}{st:Stmt}{f:Addr}{oc:Value}{od an:Option Addr}{osl:Array (Option Value)}{kV doc pm cdv ct:Value}(l:K.lookup f=some ⟨oc,od,.func (PySem.W.fnOf x qual (lr st) (gY st) (au st) .none kV doc pm an cdv ct),osl⟩)
    (c:PySem.W.codeIn K cdv qual=true) (k:PySem.W.keepIn K (.ref f)=true):Fun K x qual st f (PySem.W.fnOf x qual (lr st) (gY st) (au st) .none kV doc pm an cdv ct):=⟨⟨oc,od,kV,doc,pm,an,cdv,ct,osl,rfl,l,c⟩,k⟩
end
section
variable {X:Cx}
theorem pv (i:Nat){x:Str}{pos:Pos}(hN:X.N[i]? = some x:=by rfl)(hv:Vis X.env.scope x:=by first | exact Or.inl rfl | exact Or.inr (Or.inl rfl) | exact Or.inr (Or.inr rfl))(hd:(x == ("__debug__" : Str))=false:=by decide)
    (hcd:(x == ("__classdict__" : Str))=false:=by decide):PE X (.Name x pos) (Qt i):=HR hN hv hd hcd
end
theorem qX {A B:Prop}(h:B):if false=true then A else B:=by
  rw[if_neg Bool.false_ne_true]
  exact h
theorem ro {A B:Prop}(h:A):if true=true then A else B:=by
  rw[if_pos rfl]
  exact h
def rJ (H H':Hp):Prop:=∀ b o,H b=some o→H' b=some o
theorem rJ.refl (H:Hp):rJ H H:=fun _ _ h=>h
theorem rJ.trans {H H1 H2:Hp}(a:rJ H H1)(b:rJ H1 H2):rJ H H2:=fun c o h=>b c o (a c o h)
theorem rJ.free {H H':Hp}(e:rJ H H'){l:Addr}(h:H' l=Option.none):H l=Option.none:=by
  cases q:H l with
  | none=>rfl
  | some o=>
    rw[e l o q] at h
    cases h
theorem rJ.seq {K:PySem.W.Frag}{H H':Hp}{a:Addr}{xs:List V}(e:rJ H H')(h:SqL K H a xs):SqL K H' a xs:=by
  rcases h with (h | ⟨o,h⟩) | h
  · exact .inl (.inl (e _ _ h))
  · exact .inl (.inr ⟨o,e _ _ h⟩)
  · exact .inr h
end L2
namespace L2
open PySem PySem.Spec PyProof.Rows
section
variable {κ:Type} [DecidableEq κ]
def gJ (kvs:List (κ×V))(k:κ):Option V:=(kvs.find? fun kv=>decide (kv.1=k)).map (·.2)
def putK (kvs:List (κ×V))(k:κ)(v:V):List (κ×V):=
  if (kvs.any fun kv=>decide (kv.1=k))=true then kvs.map (fun kv=>if kv.1=k then (kv.1,v) else kv) else kvs++[(k,v)]
def ME (kvs:List (κ×V))(k:κ):List (κ×V):=kvs.filter fun kv=>decide (kv.1≠k)
theorem ly {p:κ×V}{r:List (κ×V)}{k:κ}(e:p.1=k):gJ (p::r) k=some p.2:=by simp[gJ,List.find?_cons,e]
theorem kK {p:κ×V}{r:List (κ×V)}{k:κ}(e:¬ p.1=k):gJ (p::r) k=gJ r k:=by simp[gJ,List.find?_cons,e]
theorem qm (k:κ):∀ kvs:List (κ×V),(kvs.any fun kv=>decide (kv.1=k))=(gJ kvs k).isSome
  | []=>rfl
  | p::r=>by
    rw[List.any_cons]
    by_cases e:p.1=k
    · simp only[ly e,decide_eq_true e,Bool.true_or,Option.isSome_some]
    · rw[kK e,decide_eq_false e,Bool.false_or];exact qm k r
theorem jN (kvs:List (κ×V))(k:κ)(v:V):(putK kvs k v).length≤kvs.length+1:=by
  unfold putK
  split
  · rw[List.length_map];omega
  · rw[List.length_append,List.length_cons,List.length_nil];omega
theorem HH {kvs:List (κ×V)}{k:κ}(v:V)(h:gJ kvs k=none):putK kvs k v=kvs++[(k,v)]:=by
  unfold putK
  rw[qm,h]
  exact if_neg (by decide)
theorem nU.l5 {o:Option V}{u:Option Value}(r:nU o u):o.isSome=u.isSome:=by
  cases o with
  | none=>cases u with
    | none=>rfl
    | some _=>exact (show False from r).elim
  | some _=>cases u with
    | none=>exact (show False from r).elim
    | some _=>rfl
theorem nU.getD {o:Option V}{u:Option Value}{d:V}{d':Value}(r:nU o u)(rd:RelV d d'):RelV (o.getD d) (u.getD d'):=by
  cases o with
  | none=>cases u with
    | none=>exact rd
    | some _=>exact (show False from r).elim
  | some _=>cases u with
    | none=>exact (show False from r).elim
    | some _=>exact r
theorem KV.val {kvs:List (κ×V)}{vs:List (κ×Value)}(r:KV kvs vs)(k:κ):nU (gJ kvs k) (valueAt vs k):=by
  unfold KV at r
  induction r with
  | nil=>exact True.intro
  | @cons p q ps qs h t ih=>
    obtain ⟨h1,h2⟩:=h
    by_cases e:p.1=k
    · have e':q.1=k:=h1.symm.trans e
      have b:valueAt (q::qs) k=some q.2:=by simp[valueAt,List.find?_cons,e']
      rw[ly e,b];exact h2
    · have e':¬ q.1=k:=fun z=>e (h1.trans z)
      have b:valueAt (q::qs) k=valueAt qs k:=by simp[valueAt,List.find?_cons,e']
      rw[kK e,b];exact ih
theorem KV.any {kvs:List (κ×V)}{vs:List (κ×Value)}(r:KV kvs vs)(k:κ):(kvs.any fun kv=>decide (kv.1=k))=vs.any fun kv=>decide (kv.1=k):=by
  unfold KV at r
  induction r with
  | nil=>rfl
  | cons h t ih=>rw[List.any_cons,List.any_cons,ih,h.1]
theorem KV.OX {kvs:List (κ×V)}{vs:List (κ×Value)}(r:KV kvs vs)(k:κ){y:V}{u:Value}(ry:RelV y u) :
    KV (kvs.map fun kv=>if kv.1=k then (kv.1,y) else kv) (vs.map fun kv=>if kv.1=k then (kv.1,u) else kv):=by
  unfold KV at r ⊢
  induction r with
  | nil=>exact .nil
  | @cons p q ps qs h t ih=>
    rw[List.map_cons,List.map_cons]
    refine .cons ?_ ih
    obtain ⟨h1,h2⟩:=h
    by_cases e:p.1=k
    · rw[if_pos e,if_pos (h1.symm.trans e)];exact ⟨h1,ry⟩
    · rw[if_neg e,if_neg (fun z=>e (h1.trans z))];exact ⟨h1,h2⟩
theorem KV.put {kvs:List (κ×V)}{vs:List (κ×Value)}(r:KV kvs vs)(k:κ){y:V}{u:Value}(ry:RelV y u):KV (putK kvs k y) (stored vs k u):=by
  unfold putK stored
  rw[r.any k]
  by_cases e:(vs.any fun kv=>decide (kv.1=k))=true
  · rw[if_pos e,if_pos e];exact r.OX k ry
  · rw[if_neg e,if_neg e];exact Paired.snoc r ⟨rfl,ry⟩
theorem KV.drop {kvs:List (κ×V)}{vs:List (κ×Value)}(r:KV kvs vs)(k:κ):KV (ME kvs k) (without vs k):=by
  unfold KV at r ⊢
  unfold ME without
  induction r with
  | nil=>exact .nil
  | @cons p q ps qs h t ih=>
    obtain ⟨h1,h2⟩:=h
    rw[List.filter_cons,List.filter_cons]
    by_cases e:p.1=k
    · have a:¬ decide (p.1≠k)=true:=by simp[e]
      have b:¬ decide (q.1≠k)=true:=by simp[h1.symm.trans e]
      rw[if_neg a,if_neg b];exact ih
    · have e':¬ q.1=k:=fun z=>e (h1.trans z)
      have a:decide (p.1≠k)=true:=by simp[e]
      have b:decide (q.1≠k)=true:=by simp[e']
      rw[if_pos a,if_pos b];exact .cons ⟨h1,h2⟩ ih
theorem KV.keys {kvs:List (κ×V)}{vs:List (κ×Value)}(r:KV kvs vs):kvs.map (·.1)=vs.map (·.1):=by
  unfold KV at r
  induction r with
  | nil=>rfl
  | cons h t ih=>rw[List.map_cons,List.map_cons,ih,h.1]
theorem KV.length {kvs:List (κ×V)}{vs:List (κ×Value)}(r:KV kvs vs):kvs.length=vs.length:=Paired.length r
end
theorem sZ {P:Program}{w:World}{k:Key}{u:Value}(r:RelV (kV k) u):(ck P w).is k u=true:=by
  cases k with
  | inl i=>obtain ⟨t,e⟩:=(show ∃ t,u=Value.int i t from r);subst e;exact vt P w i t
  | inr x=>obtain ⟨t,e⟩:=(show ∃ t,u=Value.str x t from r);subst e;exact xZ P w x t
theorem sf {P:Program}{w:World}:∀ {ks:List Key} {us:List Value},Vals (ks.map kV) us→ItemsAre (ck P w) ks us
  | [],_,r=>by rw[List.map_nil] at r;cases r;exact .nil
  | k::ks,_,r=>by
    rw[List.map_cons] at r
    cases r with
    | cons h t=>exact .cons (sZ h) (sf t)
abbrev KT (H:Hp):List (List Key×V)→List (List Key×Addr×Value)→Prop:=Paired fun p q=>p.1=q.1∧H q.2.1=some (.tup (p.1.map kV))∧RelV p.2 q.2.2
theorem KT.val {H:Hp}{kvs:List (List Key×V)}{xs:List (List Key×Addr×Value)}(r:KT H kvs xs)(k:List Key):nU (gJ kvs k) ((atKey xs k).map (·.2)):=by
  induction r with
  | nil=>exact True.intro
  | @cons p q ps qs h t ih=>
    obtain ⟨h1,_,h2⟩:=h
    by_cases e:p.1=k
    · have e':q.1=k:=h1.symm.trans e
      have b:atKey (q::qs) k=some q.2:=by simp[atKey,List.find?_cons,e']
      rw[ly e,b];exact h2
    · have e':¬ q.1=k:=fun z=>e (h1.trans z)
      have b:atKey (q::qs) k=atKey qs k:=by simp[atKey,List.find?_cons,e']
      rw[kK e,b];exact ih
theorem KT.OX {H:Hp}{kvs:List (List Key×V)}{xs:List (List Key×Addr×Value)}(r:KT H kvs xs)(k:List Key){y:V}{u:Value}(ry:RelV y u) :
    KT H (kvs.map fun kv=>if kv.1=k then (kv.1,y) else kv) (xs.map (putAt k u)):=by
  induction r with
  | nil=>exact .nil
  | @cons p q ps qs h t ih=>
    rw[List.map_cons,List.map_cons]
    refine .cons ?_ ih
    obtain ⟨h1,h2,h3⟩:=h
    unfold putAt
    by_cases e:p.1=k
    · rw[if_pos e,if_pos (h1.symm.trans e)];exact ⟨h1,h2,ry⟩
    · rw[if_neg e,if_neg (fun z=>e (h1.trans z))];exact ⟨h1,h2,h3⟩
theorem KT.put {H:Hp}{kvs:List (List Key×V)}{xs:List (List Key×Addr×Value)}(r:KT H kvs xs)(k:List Key){b:Addr}{y:V}{u:Value}(hb:H b=some (.tup (k.map kV)))(ry:RelV y u) :
    KT H (putK kvs k y) (storedH xs k b u):=by
  have e:(kvs.any fun kv=>decide (kv.1=k))=(atKey xs k).isSome:=by
    rw[qm,(r.val k).l5,Option.isSome_map]
  unfold putK storedH
  rw[e]
  by_cases q:(atKey xs k).isSome=true
  · rw[if_pos q,if_pos q];exact r.OX k ry
  · rw[if_neg q,if_neg q];exact Paired.snoc r ⟨rfl,hb,ry⟩
theorem KT.keeps {H H':Hp}{kvs:List (List Key×V)}{xs:List (List Key×Addr×Value)}(r:KT H kvs xs)(ht:∀ b ys,H b=some (.tup ys)→H' b=some (.tup ys)):KT H' kvs xs:=
  Paired.OS r fun _ _ z=>⟨z.1,ht _ _ z.2.1,z.2.2⟩
section
variable {P:Program} {w:World} {H:Hp} {h:Heap} {a:Addr}
theorem MA {u:HO}(ok:HOk P w H h)(e:Rd H a u):dX P w H h a u:=e.ok ok
theorem Cs {kvs:List (Key×V)}(ok:HOk P w H h)(e:Rd H a (.dK kvs)):kvs.length≤sizeLine∧(a == sysModules)=false∧∃ vs,KV kvs vs∧h.DictOf (ck P w) a vs:=
  show dX P w H h a (.dK kvs) from MA ok e
theorem MP {kvs:List (Key×V)}(ok:HOk P w H h)(e:H a=some (.dK kvs)):kvs.length≤sizeLine∧(a == sysModules)=false∧∃ vs,KV kvs vs∧h.DictOf (ck P w) a vs:=Cs ok (.inl e)
theorem tK {ks:List Key}(ok:HOk P w H h)(e:H a=some (.tup (ks.map kV))):(tupleKind (ck P w)).is h ks a:=by
  obtain ⟨_,its,r,n,h1⟩:=(show dX P w H h a (.tup (ks.map kV)) from ok a _ e)
  exact ⟨_,its.toArray,n,h1,rfl,rfl,by simpa using sf r⟩
theorem A4 {kvs:List (List Key×V)}(ok:HOk P w H h)(e:Rd H a (.dT kvs)):kvs.length≤sizeLine∧(a == sysModules)=false∧
    ∃ xs,KT H kvs xs∧h.DictOfH (tupleKind (ck P w)) a xs:=by
  obtain ⟨z,y,xs,r,o,es,ep,h1,h2,h3,h4,h5⟩:=(show dX P w H h a (.dT kvs) from MA ok e)
  refine ⟨z,y,xs,r,o,es,ep,h1,h2,h3,h4,fun x hx=>?_,h5⟩
  have all:∀ {l:List (List Key×V)} {m:List (List Key×Addr×Value)},KT H l m→∀ x∈m,(tupleKind (ck P w)).is h x.1 x.2.1:=by
    intro l m q
    induction q with
    | nil=>intro x hx;exact nomatch hx
    | @cons p q ps qs hq t ih=>
      intro x hx
      rcases List.mem_cons.mp hx with e | hx
      · subst e
        exact tK ok (by rw[← hq.1];exact hq.2.1)
      · exact ih x hx
  exact all r x hx
theorem RU {kvs:List (List Key×V)}(ok:HOk P w H h)(e:H a=some (.dT kvs)):kvs.length≤sizeLine∧(a == sysModules)=false∧
    ∃ xs,KT H kvs xs∧h.DictOfH (tupleKind (ck P w)) a xs:=A4 ok (.inl e)
end
def qQ (H:Hp)(a:Addr)(y:V)(r:Option V):Prop:=
  (∃ kvs k,Rd H a (.dK kvs)∧y=kV k∧r=gJ kvs k)∨∃ kvs k b,Rd H a (.dT kvs)∧y=.ref b∧H b=some (.tup (k.map kV))∧r=gJ kvs k
def yW (H:Hp)(a:Addr)(y v:V)(H':Hp):Prop:=
  (∃ kvs k,H a=some (.dK kvs)∧y=kV k∧kvs.length < sizeLine∧H'=upd H a (.dK (putK kvs k v)))∨
  ∃ kvs k b,H a=some (.dT kvs)∧y=.ref b∧H b=some (.tup (k.map kV))∧kvs.length < sizeLine∧H'=upd H a (.dT (putK kvs k v))
theorem qQ.k {H:Hp}{a:Addr}{kvs:List (Key×V)}{k:Key}(e:H a=some (.dK kvs)):qQ H a (kV k) (gJ kvs k):=.inl ⟨kvs,k,.inl e,rfl,rfl⟩
theorem qQ.t {H:Hp}{a b:Addr}{kvs:List (List Key×V)}{k:List Key}(e:H a=some (.dT kvs))(eb:H b=some (.tup (k.map kV))):qQ H a (.ref b) (gJ kvs k):=.inr ⟨kvs,k,b,.inl e,rfl,eb,rfl⟩
theorem yW.k {H:Hp}{a:Addr}{kvs:List (Key×V)}{k:Key}{v:V}(e:H a=some (.dK kvs))(hl:kvs.length < sizeLine):yW H a (kV k) v (upd H a (.dK (putK kvs k v))):=.inl ⟨kvs,k,e,rfl,hl,rfl⟩
theorem yW.t {H:Hp}{a b:Addr}{kvs:List (List Key×V)}{k:List Key}{v:V}(e:H a=some (.dT kvs))(eb:H b=some (.tup (k.map kV)))(hl:kvs.length < sizeLine) :
    yW H a (.ref b) v (upd H a (.dT (putK kvs k v))):=.inr ⟨kvs,k,b,e,rfl,eb,hl,rfl⟩
section
variable {X:Cx} {pins:List (Addr×Obj)} {σ:St} {H:Hp} {s:Shared} {a:Addr} {y v:V} {u r:Value} {o:Option V} {A:Around} {E:Value→Shared→Prop}
theorem Inv.big (I:Inv X pins σ H s):sysModules < s.heap.objs.size:=by
  have h:mainGlobals < s.heap.objs.size:=(I.mod.glob.keeps I.bk).lt
  exact Nat.lt_trans (by decide) h
theorem DO {Q:Value→Shared→Prop}(hu:A.units+1 < cLine)(I:Inv X pins σ H s)(g:qQ H a y (some v))(ry:RelV y u)(h:∀ w' s',Inv X pins σ H s'→RelV v w'→Q w' s') :
    wpAny (model X.prog X.w) A (getItem (.ref a) u) Q E s:=by
  rcases g with ⟨kvs,k,e,ey,l⟩ | ⟨kvs,k,b,e,ey,eb,l⟩
  · subst ey
    obtain ⟨z,hd,vs,rel,dd⟩:=Cs I.hok e
    obtain ⟨w',hw,rw'⟩:=nU.some_of (v:=v) (o:=valueAt vs k) (by rw[l];exact rel.val k)
    exact wpAny_getItem_of (sZ ry) dd.mapOf hw (h w' _ (I.tok _) rw')
  · subst ey
    cases (show u=Value.ref b from ry)
    obtain ⟨z,hd,xs,rel,dd⟩:=A4 I.hok e
    obtain ⟨w',hw,rw'⟩:=nU.some_of (v:=v) (o:=(atKey xs k).map (·.2)) (by rw[l];exact rel.val k)
    obtain ⟨p,hp,hp2⟩:=Option.map_eq_some_iff.mp hw
    refine wpAny_getItem_heap (tupleKind_room_in1 hu) (tK I.hok eb) dd hp ?_
    rw[hp2]
    exact h w' _ (I.tok _) rw'
theorem JJ {Q:Value→Shared→Prop}(hu:A.units+1 < cLine)(I:Inv X pins σ H s)(g:qQ H a y o)(ry:RelV y u)(h:∀ s',Inv X pins σ H s'→Q (.bool (!o.isSome)) s') :
    wpAny (model X.prog X.w) A (compareOp .NotIn u (.ref a)) Q E s:=by
  rcases g with ⟨kvs,k,e,ey,l⟩ | ⟨kvs,k,b,e,ey,eb,l⟩
  · subst ey
    obtain ⟨z,hd,vs,rel,dd⟩:=Cs I.hok e
    refine wpAny_notIn_of (sZ ry) hd dd.mapOf ?_
    rw[← (rel.val k).l5,← l]
    exact h _ (I.tok _)
  · subst ey
    cases (show u=Value.ref b from ry)
    obtain ⟨z,hd,xs,rel,dd⟩:=A4 I.hok e
    refine wpAny_notIn_heap (tupleKind_room_in1 hu) (tK I.hok eb) hd dd ?_
    have q:=(rel.val k).l5
    rw[Option.isSome_map] at q
    rw[← q,← l]
    exact h _ (I.tok _)
theorem uk {h':Heap}{t':Nat}{ob:HO}(I:Inv X pins σ H s)(mu:Mut (H a))(hs:Heap.SameBut a s.heap h')(he:∃ q,h'.get? a=some q)(new:dX X.prog X.w (upd H a ob) h' a ob) :
    Inv X pins σ (upd H a ob) { s with heap:=h',toks:=t' }:=
  I.write (x:=a) (e:=a) mu (.inl rfl) (fun b q hb z=>(hs.2 b hb).trans z) he new
theorem Ae {P:Program}{w:World}{H':Hp}{h':Heap}{kvs:List (Key×V)}{vs:List (Key×Value)}(z:kvs.length≤sizeLine)(hd:(a == sysModules)=false)(rel:KV kvs vs)(dd:h'.DictOf (ck P w) a vs) :
    dX P w H' h' a (.dK kvs):=⟨z,hd,vs,rel,dd⟩
theorem Di {H':Hp}{Q:Unit→Shared→Prop}(hu:A.units+1 < cLine)(I:Inv X pins σ H s)(g:yW H a y v H')(ry:RelV y u)(rv:RelV v r)(h:∀ s',Inv X pins σ H' s'→Q () s') :
    wpAny (model X.prog X.w) A (setItem (.ref a) u r) Q E s:=by
  rcases g with ⟨kvs,k,e,ey,l,eH⟩ | ⟨kvs,k,b,e,ey,eb,l,eH⟩
  · subst ey eH
    obtain ⟨z,hd,vs,rel,dd⟩:=MP I.hok e
    have hz:vs.length≤sizeLine:=by rw[← rel.length];exact z
    have hl:(putK kvs k v).length≤sizeLine:=by have:=jN kvs k v;omega
    refine wpAny_setItem_pairs (hsz:=hz) (sZ ry) dd fun h' dd' hs=>h _ ?_
    have he:∃ q,h'.get? a=some q:=let ⟨q,_,_,hq,_⟩:=dd';⟨q,hq⟩
    exact uk I (by rw[e];exact True.intro) hs he (Ae hl hd (rel.put k rv) dd')
  · subst ey eH
    cases (show u=Value.ref b from ry)
    obtain ⟨z,hd,xs,rel,dd⟩:=RU I.hok e
    have hz:xs.length≤sizeLine:=by rw[← Paired.length rel];exact z
    have hl:(putK kvs k v).length≤sizeLine:=by have:=jN kvs k v;omega
    refine wpAny_setItem_heap (hsz:=hz) (tupleKind_room_in1 hu) (tK I.hok eb) dd fun h' dd' hs=>h _ ?_
    obtain ⟨q,es,ep,hq,h2,h3,h4,_,h5⟩:=dd'
    refine uk I (by rw[e];exact True.intro) hs ⟨q,hq⟩ ⟨hl,hd,_,(rel.put k eb rv).keeps fun c ys ec=>?_,q,es,ep,hq,h2,h3,h4,h5⟩
    rw[aO (QN ec e (fun z=>nomatch z))]
    exact ec
end
section
variable {X:Cx} {pins:List (Addr×Obj)} {σ:St} {H:Hp} {s:Shared} {a:Addr} {kvs:List (Key×V)} {k:Key} {u:Value} {A:Around} {E:Value→Shared→Prop}
end
def M5 (i:Expr):Prop:=∀ ov iv,subscripted i false ov iv=operate [ov,iv] (getItem ov iv)
theorem Ll {prog:Program}{w:World}{A:Around}{E:Value→Shared→Prop}{s:Shared}{env:Env}{value slice:Expr}{pos:Pos}{T id:String}{Q:Value→Shared→Prop}
    (hl:typeLookup (.type T) "__getitem__" = pure (some (.builtin id))) (hs:M5 slice)
    (h:wpAny (model prog w) A (eval value env) (fun o s₁=>wpAny (model prog w) A (eval slice env) (fun i s₂=>s₂.TypeIs o T∧wpAny (model prog w) A (getItem o i) Q E s₂) E s₁) E s) :
    wpAny (model prog w) A (eval (.Subscript value slice pos) env) Q E s:=by
  refine Subscript_ (wpAny_mono h (fun o s₁ h₁=>wpAny_mono h₁ (fun i s₂ h₂=>?_) fun _ _ x=>x) fun _ _ x=>x)
  obtain ⟨hT,h₂⟩:=h₂
  unfold subscriptTail
  refine wpAny_bind ?_
  rw[getitemInPython_of_ne hT.not_modules]
  refine wpAny_bind (wpAny_specialOf hT hl ?_)
  have fin:wpAny (model prog w) A (subscripted slice false o i) (fun r s₃=>wpAny (model prog w) A (letTemporaryGo value o r >>= fun _=>pure r) Q E s₃) E s₂:=by
    rw[hs o i]
    exact wpAny_operating (wpAny_mono h₂ (fun r s₃ h₃=>wpAny_bind (wpAny_letTemporaryGo (wpAny_pure h₃))) fun _ _ x=>x)
  first
    | exact wpAny_pure (wpAny_bind fin)
    | exact wpAny_bind (wpAny_pure (wpAny_bind fin))
    | exact wpAny_bind fin
theorem wI {X:Cx}{pins:List (Addr×Obj)}{σ:St}{H:Hp}{s:Shared}{a:Addr}{y:V}{o:Option V}(I:Inv X pins σ H s)(g:qQ H a y o):s.TypeIs (.ref a) "dict" := by
  rcases g with ⟨kvs,k,e,_,_⟩ | ⟨kvs,k,b,e,_,_,_⟩
  · obtain ⟨_,_,vs,_,dd⟩:=Cs I.hok e
    exact dd.typeIs
  · obtain ⟨_,_,xs,_,dd⟩:=A4 I.hok e
    exact dd.typeIs
def Rh (td ty:TE):TE:=fun σ H Q=>td σ H fun x H1=>ty σ H1 fun y H2=>∃ a v,x=.ref a∧qQ H2 a y (some v)∧Q v H2
def Bo (ty td:TE):TE:=fun σ H Q=>ty σ H fun y H1=>td σ H1 fun x H2=>∃ a o,x=.ref a∧qQ H2 a y o∧Q (.bl (!o.isSome)) H2
def QW (td ty tv:TE):TS:=fun D σ H=>tv σ H fun v H1=>td σ H1 fun x H2=>ty σ H2 fun y H3=>∃ a H4,x=.ref a∧yW H3 a y v H4∧D.nx σ H4
section
variable {X:Cx} {o i e value:Expr} {pos pos' tpos:Pos} {td ty tv:TE}
theorem Kx (hu:X.A.units+1 < cLine)(ho:PE X o td)(hi:PE X i ty)(hs:M5 i):PE X (.Subscript o i pos) (Rh td ty):=by
  intro pins s σ H Q I h
  refine Ll PySem.F.slot_dict_getitem.lookup hs (thn (ho pins s σ H _ I h) fun u s1 ⟨x,H1,I1,rx,q1⟩=>thn (hi pins s1 σ H1 _ I1 q1) fun iv s2 ⟨y,H2,I2,ry,a,v,ex,g,q2⟩=>?_)
  subst ex
  obtain rfl:u=Value.ref a:=rx
  exact ⟨wI I2 g,DO hu I2 g ry fun w' s3 I3 rw'=>⟨v,H2,I3,rw',q2⟩⟩
theorem Dn (hu:X.A.units+1 < cLine)(hi:PE X i ty)(ho:PE X o td):PC X .NotIn i o (Bo ty td):=by
  intro pins s σ H Q I h
  refine thn (hi pins s σ H _ I h) fun iv s1 ⟨y,H1,I1,ry,q1⟩=>thn (ho pins s1 σ H1 _ I1 q1) fun u s2 ⟨x,H2,I2,rx,a,ov,ex,g,q2⟩=>?_
  subst ex
  obtain rfl:u=Value.ref a:=rx
  exact JJ hu I2 g ry fun s3 I3=>⟨.bl (!ov.isSome),H2,I3,rfl,q2⟩
theorem Kf (hu:X.A.units+1 < cLine)(ho:PE X o td)(hi:PE X i ty)(hv:PE X value tv)(hs:swapsWith value (some (.Subscript o i pos')) pos.line X.env=pure false) :
    PS X (.Assign [.Subscript o i pos'] value pos) (QW td ty tv):=by
  intro pins s σ H D I h
  refine wpAny_Assign_Subscript (thn (hv pins s σ H _ I h) fun r s1 ⟨v,H1,I1,rv,q1⟩=>thn (ho pins s1 σ H1 _ I1 q1) fun u s2 ⟨x,H2,I2,rx,q2⟩=>thn (hi pins s2 σ H2 _ I2 q2) fun iv s3 ⟨y,H3,I3,ry,a,H4,ex,g,q3⟩=>?_) hs
  subst ex
  obtain rfl:u=Value.ref a:=rx
  exact Di hu I3 g ry rv fun s4 I4=>⟨σ,H4,I4,q3⟩
end
theorem wx {P:Program}{w:World}{H:Hp}(h:Heap)(hb:sysModules < h.objs.size):dX P w H (h.push { cls:=.type "dict", data:=.dict #[] }) h.objs.size (.dK []):=
  ⟨Nat.zero_le _,beq_eq_false_iff_ne.mpr (Ne.symm (Nat.ne_of_lt hb)),[],.nil,Heap.DictOf.new h⟩
def Ov:TE:=fun _ H Q=>∀ p,H p=none→Q (.ref p) (upd H p (.dK []))
section
variable {X:Cx} {pos:Pos}
theorem GJ:PE X (.Dict [] [] pos) Ov:=fun pins s σ H Q I h=>
  wpAny_Dict_empty ⟨.ref s.heap.objs.size,_,I.laid (a:=s.heap.objs.size) (o:=.dK []) (t':=s.toks) (fun _ _ q=>Heap.get?_push_of_some _ q) (Nat.le_refl _) (wx s.heap I.big),rfl,h _ (I.hok.fresh (Nat.le_refl _))⟩
end
def t9:List (TE×TE)→St→Hp→(List (V×V)→Hp→Prop)→Prop
  | [],_,H,Q=>Q [] H
  | (tk,tv)::r,σ,H,Q=>tk σ H fun x H1=>tv σ H1 fun y H2=>t9 r σ H2 fun ps H3=>Q ((x,y)::ps) H3
abbrev VV:List (V×V)→List (Value×Value)→Prop:=Paired fun p q=>RelV p.1 q.1∧RelV p.2 q.2
def PPs (X:Cx)(pos:Pos)(keys:List (Option Expr))(values:List Expr)(trs:List (TE×TE)):Prop:=
  ∀ (pins:List (Addr×Obj)) (s:Shared) (σ:St) (H:Hp) (Q:List (V×V)→Hp→Prop),Inv X pins σ H s→t9 trs σ H Q→
    wpAny (model X.prog X.w) X.A (evalPairs (pairTrees keys values X.env pos)) (fun vs s'=>∃ ps H',Inv X pins σ H' s'∧VV ps vs∧Q ps H') X.xe s
theorem Lh {X:Cx}{pos:Pos}:PPs X pos [] [] []:=fun pins s σ H Q I h=>pairTrees_nil_walk ⟨[],H,I,.nil,h⟩
theorem GW {X:Cx}{pos:Pos}{k v:Expr}{ks:List (Option Expr)}{vs:List Expr}{tk tv:TE}{trs:List (TE×TE)}(hk:PE X k tk)(hv:PE X v tv)(hr:PPs X pos ks vs trs) :
    PPs X pos (some k::ks) (v::vs) ((tk,tv)::trs):=fun pins s σ H Q I h=>
  pairTrees_cons_walk (thn (hk pins s σ H _ I h) fun u s1 ⟨x,H1,I1,rx,q1⟩=>thn (hv pins s1 σ H1 _ I1 q1) fun w2 s2 ⟨y,H2,I2,ry,q2⟩=>
    thn (hr pins s2 σ H2 _ I2 q2) fun ws s3 ⟨ps,H3,I3,rel,q3⟩=>⟨(x,y)::ps,H3,I3,.cons ⟨rx,ry⟩ rel,q3⟩)
def eM (kvs more:List (Key×V)):List (Key×V):=more.foldl (fun acc kv=>putK acc kv.1 kv.2) kvs
theorem KV.merge:∀ {more:List (Key×V)} {rs:List (Key×Value)} {kvs:List (Key×V)} {vs:List (Key×Value)},KV more rs→KV kvs vs→KV (eM kvs more) (merged vs rs):=by
  intro more rs kvs vs r
  unfold KV at r
  induction r generalizing kvs vs with
  | nil=>intro q;exact q
  | @cons p q ps qs h t ih=>
    intro r0
    have e:KV (putK kvs p.1 p.2) (stored vs q.1 q.2):=by
      have:=r0.put p.1 h.2
      rw[← h.1];exact this
    exact ih e
theorem hU:∀ (more kvs:List (Key×V)),(eM kvs more).length≤kvs.length+more.length
  | [],kvs=>by show kvs.length≤kvs.length+0;omega
  | p::r,kvs=>by
    have h1:=hU r (putK kvs p.1 p.2)
    have h2:=jN kvs p.1 p.2
    show (eM (putK kvs p.1 p.2) r).length≤_
    rw[List.length_cons];omega
theorem rB {P:Program}{w:World}:∀ {kvs:List (Key×V)} {ws:List (Value×Value)},VV (kvs.map fun kv=>(kV kv.1,kv.2)) ws→∃ rs,Carries (ck P w) ws rs∧KV kvs rs
  | [],_,r=>by rw[List.map_nil] at r;cases r;exact ⟨[],True.intro,.nil⟩
  | p::kvs,_,r=>by
    rw[List.map_cons] at r
    cases r with
    | @cons a b as bs h t=>
      obtain ⟨rs,c,q⟩:=rB (P:=P) (w:=w) t
      obtain ⟨b1,b2⟩:=b
      exact ⟨(p.1,b2)::rs,⟨sZ h.1,rfl,c⟩,.cons ⟨rfl,h.2⟩ q⟩
def QE (trs:List (TE×TE)):TE:=fun σ H Q=>∀ p,H p=none→t9 trs σ (upd H p (.dK [])) fun ps H2=>H2 p=some (.dK [])∧∃ kvs:List (Key×V),ps=kvs.map (fun kv=>(kV kv.1,kv.2))∧kvs.length≤15∧Q (.ref p) (upd H2 p (.dK (eM [] kvs)))
theorem LN {X:Cx}{pos:Pos}{keys:List (Option Expr)}{values:List Expr}{trs:List (TE×TE)}(h:PPs X pos keys values trs)(hall:keys.all (·.isSome)=true)(hl:keys.length=values.length)(h0:keys≠[])
    (h15:keys.length≤15):PE X (.Dict keys values pos) (QE trs):=by
  intro pins s σ H Q I q
  have hn:=I.hok.fresh (Nat.le_refl s.heap.objs.size)
  have I1:=I.laid (a:=s.heap.objs.size) (o:=.dK []) (h':=s.heap.push { cls:=.type "dict", data:=.dict #[] }) (t':=s.toks) (fun _ _ q=>Heap.get?_push_of_some _ q) (Nat.le_refl _) (wx s.heap I.big)
  refine wpAny_Dict_walk (knd:=ck X.prog X.w) hall hl h0 h15 (thn (h pins _ σ _ _ I1 (q _ hn)) fun ws s2 ⟨ps,H2,I2,rel,e,kvs,ep,lk,q2⟩=>?_)
  subst ep
  obtain ⟨rs,c,rk⟩:=rB (P:=X.prog) (w:=X.w) rel
  obtain ⟨z,hd,vs0,r0,dd⟩:=MP I2.hok e
  cases r0
  refine ⟨rs,c,dd,fun h' dd' hs=>⟨.ref s.heap.objs.size,_,?_,rfl,q2⟩⟩
  have hz:(eM [] kvs).length≤sizeLine:=by
    have h1:=hU kvs []
    rw[List.length_nil] at h1
    rw[sizeLine_eq];omega
  have he:∃ q,h'.get? s.heap.objs.size=some q:=let ⟨q,_,_,hq,_⟩:=dd';⟨q,hq⟩
  exact uk I2 (by rw[e];exact True.intro) hs he (Ae hz hd (rk.merge .nil) dd')
section
variable {X:Cx} {pins:List (Addr×Obj)} {σ:St} {H:Hp} {s:Shared} {a:Addr} {y d:V} {u r:Value} {o:Option V} {A:Around} {E:Value→Shared→Prop}
end
section
variable {X:Cx} {o e f:Expr} {apos cpos:Pos} {td ty tx:TE}
end
section
variable {X:Cx} {pins:List (Addr×Obj)} {σ:St} {H:Hp} {s:Shared} {a:Addr} {kvs:List (Key×V)} {A:Around} {E:Value→Shared→Prop}
end
section
variable {X:Cx} {pins:List (Addr×Obj)} {σ:St} {H:Hp} {s:Shared} {a:Addr} {y:V} {u:Value} {A:Around} {E:Value→Shared→Prop}
end
end L2
namespace L3
open PySem
local macro_rules | `(tactic| walk_at "ln")=>`(tactic| (intro ds μ Q h;split at h;rfl;exact h.elim))
theorem Jn {p q:Prop}(a:p)(b:q):p∧q:=⟨a,b⟩
inductive D where
  | non | bl (b:Bool) | int (i:Int) | str (x:Str) | ty (n:String) | tup (ds:List D) | ls (ds:List D) | obj (a:Addr)
inductive MO where
  | lst (ds:List D)
  | dct (kvs:List (L2.Key×D))
abbrev Mu:=Addr→Option MO
def up (μ:Mu)(a:Addr)(o:MO):Mu:=fun b=>if b=a then some o else μ b
theorem aB {μ:Mu}{a:Addr}{o:MO}:up μ a o a=some o:=by unfold up;rw[if_pos rfl]
theorem aK {μ:Mu}{a b:Addr}{o:MO}(h:b≠a):up μ a o b=μ b:=by unfold up;rw[if_neg h]
theorem iH {μ:Mu}{a:Addr}{o u:MO}:up (up μ a o) a u=up μ a u:=by
  funext b;unfold up;split<;>rfl
abbrev ST:=List (Option D)
abbrev DK:=D→Mu→Prop
abbrev ETr:=ST→Mu→DK→Prop
abbrev TTr:=ST→Mu→(Bool→Mu→Prop)→Prop
abbrev ATr:=ST→Mu→(List D→Mu→Prop)→Prop
abbrev DR:=D→Mu→DK→Prop
abbrev DR2:=D→D→Mu→DK→Prop
abbrev FSp:=List D→Mu→DK→Prop
structure En where
  nx:ST→Mu→Prop
  rt:DK
  bk:ST→Mu→Prop:=fun _ _=>False
  ct:ST→Mu→Prop:=fun _ _=>False
abbrev STr:=En→ST→Mu→Prop
abbrev GTr:=D→ST→Mu→(ST→Mu→Prop)→Prop
def kIf (c:Bool)(A B:Prop):Prop:=match c with
  | true=>A
  | false=>B
def kB (x:D)(f:Bool→Prop):Prop:=match x with
  | .bl c=>f c
  | _=>False
def kI (x:D)(f:Int→Prop):Prop:=match x with
  | .int c=>f c
  | _=>False
def kO (x:Option D)(f:D→Prop):Prop:=match x with
  | some d=>f d
  | none=>False
def kS (x:D)(f:List D→Prop):Prop:=match x with
  | .tup ds=>f ds
  | .ls ds=>f ds
  | _=>False
def k2 (ds:List D)(f:D→D→Prop):Prop:=match ds with
  | [v,w]=>f v w
  | _=>False
def kL (μ:Mu)(a:Addr)(f:List D→Prop):Prop:=match μ a with
  | some (.lst ds)=>f ds
  | _=>False
def kD (μ:Mu)(a:Addr)(f:List (L2.Key×D)→Prop):Prop:=match μ a with
  | some (.dct ds)=>f ds
  | _=>False
def kN (x:Option Nat)(f:Nat→Prop):Prop:=match x with
  | some d=>f d
  | none=>False
def lk:ST→Nat→Option D
  | [],_=>none
  | o::_,0=>o
  | _::r,n+1=>lk r n
def ah (i:Nat):ETr:=fun ρ μ Q=>kO (lk ρ i) fun d=>Q d μ
def TC (d:D):ETr:=fun _ μ Q=>Q d μ
def ak (r:DR2)(a b:ETr):ETr:=fun ρ μ Q=>a ρ μ fun x μ1=>b ρ μ1 fun y μ2=>r x y μ2 Q
def TUn (r:DR)(a:ETr):ETr:=fun ρ μ Q=>a ρ μ fun x μ1=>r x μ1 Q
def S64 (i:Int):Prop:=-18446744073709551616 < i∧i < 18446744073709551616
def iV (i:Int):Prop:=-115792089237316195423570985008687907853269984665640564039457584007913129639936 < i∧i < 115792089237316195423570985008687907853269984665640564039457584007913129639936
def MulOk (i j:Int):Prop:=(S64 i∨S64 j)∨(iV i∧iV j)
def jf (j:Int):Prop:=j≠0∧iV j
def xr (i j:Int):Prop:=0≤j∧j≤1000000∧i.natAbs < 18446744073709551616
def iC:DR2:=fun x y μ Q=>match x,y with
  | .int i,.int j=>Q (.int (i - j)) μ
  | _,_=>False
def hV:DR2:=fun x y μ Q=>match x,y with
  | .int i,.int j=>MulOk i j∧Q (.int (i*j)) μ
  | _,_=>False
def mL:DR2:=fun x y μ Q=>match x,y with
  | .int i,.int j=>jf j∧Q (.int (i.fdiv j)) μ
  | _,_=>False
def kU:DR2:=fun x y μ Q=>match x,y with
  | .int i,.int j=>j≠0∧Q (.int (i.fmod j)) μ
  | _,_=>False
def Cz:DR2:=fun x y μ Q=>match x,y with
  | .int i,.int j=>xr i j∧Q (.int (i ^ j.toNat)) μ
  | _,_=>False
def Lr:DR:=fun x μ Q=>match x with
  | .int i=>Q (.int (-i)) μ
  | _=>False
def HL (p:Int→Int→Bool):DR2:=fun x y μ Q=>match x,y with
  | .int i,.int j=>Q (.bl (p i j)) μ
  | _,_=>False
def rLt:DR2:=HL fun i j=>decide (i < j)
def rLe:DR2:=HL fun i j=>decide (i≤j)
def rGt:DR2:=HL fun i j=>decide (j < i)
def rGe:DR2:=HL fun i j=>decide (j≤i)
mutual
def eqD:D→D→Bool
  | .non,.non=>true
  | .bl a,.bl b=>a == b
  | .int a,.int b=>decide (a=b)
  | .bl a,.int b=>decide ((if a then 1 else 0:Int)=b)
  | .int a,.bl b=>decide (a=(if b then 1 else 0:Int))
  | .str a,.str b=>decide (a=b)
  | .tup a,.tup b=>oE a b
  | .ls a,.ls b=>oE a b
  | _,_=>false
def oE:List D→List D→Bool
  | [],[]=>true
  | a::r,b::s=>eqD a b&&oE r s
  | _,_=>false
end
mutual
def okD:Nat→D→Bool
  | _,.non=>true
  | _,.bl _=>true
  | _,.int _=>true
  | _,.str x=>PyData.strOk x
  | n+1,.tup ds=>cS n ds
  | n+1,.ls ds=>cS n ds
  | _,_=>false
def cS:Nat→List D→Bool
  | _,[]=>true
  | n,d::ds=>okD n d&&cS n ds
end
def rEq:DR2:=fun x y μ Q=>(okD 40 x=true∧okD 40 y=true)∧Q (.bl (eqD x y)) μ
def rNe:DR2:=fun x y μ Q=>(okD 40 x=true∧okD 40 y=true)∧Q (.bl (!eqD x y)) μ
def rIs:DR2:=fun x y μ Q=>match y with
  | .non=>(match x with
    | .non=>Q (.bl true) μ
    | _=>Q (.bl false) μ)
  | _=>False
def zP:DR2:=fun x y μ Q=>match y with
  | .non=>(match x with
    | .non=>Q (.bl false) μ
    | _=>Q (.bl true) μ)
  | _=>False
def kg (a b:ETr):ETr:=fun ρ μ Q=>a ρ μ fun x μ1=>kB x fun c=>kIf c (b ρ μ1 Q) (Q (.bl false) μ1)
def FQ (a b:ETr):ETr:=fun ρ μ Q=>a ρ μ fun x μ1=>kB x fun c=>kIf c (Q (.bl true) μ1) (b ρ μ1 Q)
def E7 (a:ETr):ETr:=fun ρ μ Q=>a ρ μ fun x μ1=>kB x fun c=>Q (.bl (!c)) μ1
def TB (t:ETr):TTr:=fun ρ μ Q=>t ρ μ fun x μ1=>kB x fun c=>Q c μ1
def w4 (t u:TTr):TTr:=fun ρ μ Q=>t ρ μ fun c μ1=>kIf c (u ρ μ1 Q) (Q false μ1)
def TOr (t u:TTr):TTr:=fun ρ μ Q=>t ρ μ fun c μ1=>kIf c (Q true μ1) (u ρ μ1 Q)
def yt (t:TTr):TTr:=fun ρ μ Q=>t ρ μ fun c μ1=>Q (!c) μ1
def jt (c:TTr)(a b:ETr):ETr:=fun ρ μ Q=>c ρ μ fun k μ1=>kIf k (a ρ μ1 Q) (b ρ μ1 Q)
def A1 (r r':DR2)(a b c:ETr):ETr:=fun ρ μ Q=>a ρ μ fun x μ1=>b ρ μ1 fun y μ2=>r x y μ2 fun z μ3=>kB z fun k=>kIf k (c ρ μ3 fun y' μ4=>r' y y' μ4 Q) (Q (.bl false) μ3)
def ar:ATr:=fun _ μ Q=>Q [] μ
def af (a:ETr)(r:ATr):ATr:=fun ρ μ Q=>a ρ μ fun x μ1=>r ρ μ1 fun xs μ2=>Q (x::xs) μ2
def aX (t:ATr):ETr:=fun ρ μ Q=>t ρ μ fun ds μ1=>ds.length≤1000000∧Q (.tup ds) μ1
def ig (t:ATr):ETr:=fun ρ μ Q=>t ρ μ fun ds μ1=>ds.length≤1000000∧Q (.ls ds) μ1
def iW (t:ATr):ETr:=fun ρ μ Q=>t ρ μ fun ds μ1=>ds.length≤1000000∧∀ p,μ1 p=none→Q (.obj p) (up μ1 p (.lst ds))
def av (sp:FSp)(t:ATr):ETr:=fun ρ μ Q=>t ρ μ fun ds μ1=>sp ds μ1 Q
def atD (ds:List D)(i:Int):Option D:=L2.atI ds i
def rIx:DR2:=fun x y μ Q=>match x,y with
  | .tup ds,.int i=>kO (atD ds i) fun d=>Q d μ
  | .ls ds,.int i=>kO (atD ds i) fun d=>Q d μ
  | .obj a,.int i=>kL μ a fun ds=>kO (atD ds i) fun d=>Q d μ
  | _,_=>False
def EI:FSp:=fun ds μ Q=>match ds with
  | [.int i]=>Q (.int (if i < 0 then -i else i)) μ
  | _=>False
def sA:FSp:=fun ds μ Q=>match ds with
  | [.int i,.int j]=>Q (.int (if j > i then j else i)) μ
  | _=>False
def sC:FSp:=fun ds μ Q=>match ds with
  | [.int i,.int j]=>Q (.int (if j < i then j else i)) μ
  | _=>False
def QX:FSp:=fun ds μ Q=>match ds with
  | [.int i]=>Q (.int i) μ
  | [.bl k]=>Q (.int (if k then 1 else 0)) μ
  | _=>False
def eL:FSp:=fun ds μ Q=>match ds with
  | [.tup xs]=>Q (.int xs.length) μ
  | [.ls xs]=>Q (.int xs.length) μ
  | [.str x]=>x.length≤1000000∧Q (.int x.length) μ
  | [.obj a]=>kL μ a fun xs=>Q (.int xs.length) μ
  | _=>False
def tyD:D→Option String
  | .non=>some "NoneType"
  | .bl _=>some "bool"
  | .int _=>some "int"
  | .str _=>some "str"
  | .tup _=>some "tuple"
  | .ls _=>some "list"
  | _=>none
def ft (t c:String):Bool:=t == c || (t == "bool" && c == "int")
def gG (c:String):DR:=fun x μ Q=>match tyD x with
  | some t=>Q (.bl (ft t c)) μ
  | none=>False
def bH:STr:=fun E ρ μ=>E.nx ρ μ
def aD (t u:STr):STr:=fun E ρ μ=>t { E with nx:=u E } ρ μ
def As:STr:=fun E ρ μ=>E.bk ρ μ
def FZ:STr:=fun E ρ μ=>E.ct ρ μ
def dW (e:ETr):STr:=fun E ρ μ=>e ρ μ fun _ μ1=>E.nx ρ μ1
def aY (e:ETr):STr:=fun E ρ μ=>e ρ μ E.rt
def Ia:STr:=fun E _ μ=>E.rt .non μ
def c7 (c:TTr)(t u:STr):STr:=fun E ρ μ=>c ρ μ fun b μ1=>kIf b (t E ρ μ1) (u E ρ μ1)
def aw (i:Nat):GTr:=fun d ρ μ k=>k (ρ.set i (some d)) μ
def aN (e:ETr)(g:GTr):STr:=fun E ρ μ=>e ρ μ fun d μ1=>g d ρ μ1 E.nx
def xE (i j:Nat)(a:ATr):STr:=fun E ρ μ=>a ρ μ fun ds μ1=>k2 ds fun v w=>E.nx ((ρ.set i (some v)).set j (some w)) μ1
def RG (x z y:D)(μ:Mu)(f:Mu→Prop):Prop:=match x,z with
  | .obj a,.int n=>kL μ a fun ds=>kN (L2.ixN ds.length n) fun j=>f (up μ a (.lst (ds.set j y)))
  | _,_=>False
def zE (o k e:ETr):STr:=fun E ρ μ=>e ρ μ fun y μ1=>o ρ μ1 fun x μ2=>k ρ μ2 fun z μ3=>RG x z y μ3 fun μ4=>E.nx ρ μ4
def uH (c:TTr)(b:STr):STr:=fun E ρ μ=>∃ (P:ST→Mu→Prop) (m:ST→Mu→Nat),P ρ μ∧∀ ρ μ,P ρ μ→
  c ρ μ fun k μ1=>kIf k (b { E with nx:=fun ρ' μ'=>P ρ' μ'∧m ρ' μ' < m ρ μ,ct:=fun ρ' μ'=>P ρ' μ'∧m ρ' μ' < m ρ μ,bk:=E.nx } ρ μ1) (E.nx ρ μ1)
def forR (g:GTr)(b:STr)(E:En):List D→ST→Mu→Prop
  | [],ρ,μ=>E.nx ρ μ
  | d::r,ρ,μ=>g d ρ μ fun ρ1 μ1=>b { E with nx:=forR g b E r,ct:=forR g b E r,bk:=E.nx } ρ1 μ1
def gK (it:ATr)(g:GTr)(b:STr):STr:=fun E ρ μ=>it ρ μ fun ds μ1=>forR g b E ds ρ μ1
def cL (lo:Int)(n:Nat):List D:=(List.range n).map fun i=>.int (lo+(i:Nat))
def gf (a:ETr):ATr:=fun ρ μ Q=>a ρ μ fun x μ1=>kI x fun j=>(-4611686018427387904≤j∧j < 4611686018427387904)∧Q (cL 0 j.toNat) μ1
def cQ (a:ETr):ATr:=fun ρ μ Q=>a ρ μ fun x μ1=>kS x fun ds=>Q ds μ1
def dn (μ:Mu)(a:Addr):Mu:=fun b=>if b=a then none else μ b
theorem pK {μ:Mu}{a:Addr}{o:MO}(h:μ a=none):dn (up μ a o) a=μ:=by
  funext b
  unfold dn up
  by_cases hb:b=a
  · subst hb;simp[h]
  · simp[hb]
def fK (ρ:ST)(n:Nat)(caps:List Nat):ST:=List.replicate n none++caps.map (lk ρ)
def f9 (p:Addr)(G:GTr)(tt:TTr)(te:ETr)(ρc:ST)(K:Mu→Prop):List D→Mu→Prop
  | [],μ=>K μ
  | d::r,μ=>G d ρc μ fun ρ1 μ1=>tt ρ1 μ1 fun b μ2=>kIf b (te ρ1 μ2 fun y μ3=>kL μ3 p fun zs=>zs.length < 1000000∧f9 p G tt te ρc K r (up μ3 p (.lst (zs++[y])))) (f9 p G tt te ρc K r μ2)
def bL (it:ATr)(G:GTr)(tt:TTr)(te:ETr)(n:Nat)(caps:List Nat):ETr:=fun ρ μ Q=>it ρ μ fun ds μ1=>∀ p,μ1 p=none→
  f9 p G tt te (fK ρ n caps) (fun μ'=>kL μ' p fun zs=>Q (.ls zs) (dn μ' p)) ds (up μ1 p (.lst []))
def dM:TTr:=fun _ μ Q=>Q true μ
def Lq:FSp:=fun ds μ Q=>match ds with
  | [.ls xs]=>∃ bs:List Bool,xs=bs.map .bl∧Q (.bl (bs.all id)) μ
  | _=>False
theorem bK {g:GTr}{b:STr}{E:En}(P:List D→ST→Mu→Prop)(hnil:∀ ρ μ,P [] ρ μ→E.nx ρ μ)
    (hcons:∀ d r ρ μ (N:ST→Mu→Prop),P (d::r) ρ μ→(∀ ρ' μ',P r ρ' μ'→N ρ' μ')→g d ρ μ fun ρ1 μ1=>b { E with nx:=N,ct:=N,bk:=E.nx } ρ1 μ1) :
    ∀ (ds:List D) (ρ:ST) (μ:Mu),P ds ρ μ→forR g b E ds ρ μ
  | [],ρ,μ,h=>hnil ρ μ h
  | d::r,ρ,μ,h=>hcons d r ρ μ _ h fun ρ' μ' q=>bK P hnil hcons r ρ' μ' q
section
open PySem PySem.Spec PyProof.Rows L2
def SqF (K:PySem.W.Frag)(H:Hp)(a:Addr)(xs:List V):Prop:=
  (∃ o,H a=some (.frz o (.lst xs)))∨
    ∃ (o:Obj) (its:Array Value) (n:Nat),K.lookup a=some o∧o.cls=.type "list" ∧ o.dict=none∧o.data=.seq its n∧its.size≤sizeLine∧Vals xs its.toList
theorem SqF.sq {K:PySem.W.Frag}{H:Hp}{a:Addr}{xs:List V}(h:SqF K H a xs):SqL K H a xs:=by
  rcases h with h | h
  · exact .inl (.inr h)
  · exact .inr h
mutual
inductive Dp (K:PySem.W.Frag) (H:Hp):V→D→Prop
  | non:Dp K H .non .non
  | bl (b:Bool):Dp K H (.bl b) (.bl b)
  | int (n:Int):Dp K H (.int n) (.int n)
  | str (z:Str):Dp K H (.str z) (.str z)
  | ty (n:String):Dp K H (.ty n) (.ty n)
  | tup {a:Addr} {xs:List V} {ds:List D}:SqT K H a xs→DpL K H xs ds→Dp K H (.ref a) (.tup ds)
  | ls {a:Addr} {xs:List V} {ds:List D}:SqF K H a xs→DpL K H xs ds→Dp K H (.ref a) (.ls ds)
  | obj (a:Addr):Dp K H (.ref a) (.obj a)
inductive DpL (K:PySem.W.Frag) (H:Hp):List V→List D→Prop
  | nil:DpL K H [] []
  | cons {v:V} {d:D} {vs:List V} {ds:List D}:Dp K H v d→DpL K H vs ds→DpL K H (v::vs) (d::ds)
end
structure Tk (H H':Hp):Prop where
  tup:∀ a xs,H a=some (.tup xs)→H' a=some (.tup xs)
  frz:∀ a o u,H a=some (.frz o u)→H' a=some (.frz o u)
theorem Tk.refl (H:Hp):Tk H H:=⟨fun _ _ h=>h,fun _ _ _ h=>h⟩
theorem Tk.trans {H H1 H2:Hp}(a:Tk H H1)(b:Tk H1 H2):Tk H H2:=⟨fun c xs h=>b.tup c xs (a.tup c xs h),fun c o u h=>b.frz c o u (a.frz c o u h)⟩
theorem Tk.upd {H:Hp}{a:Addr}{o:HO}(h1:∀ xs,H a≠some (.tup xs))(h2:∀ o u,H a≠some (.frz o u)):Tk H (L2.upd H a o):=
  ⟨fun b xs h=>by rw[aO (fun z=>by subst z;exact h1 _ h)];exact h,fun b o u h=>by rw[aO (fun z=>by subst z;exact h2 _ _ h)];exact h⟩
theorem Tk.new {H:Hp}{a:Addr}{o:HO}(h:H a=none):Tk H (L2.upd H a o):=.upd (fun _ e=>by rw[h] at e;cases e) fun _ _ e=>by rw[h] at e;cases e
theorem Tk.sqT {K:PySem.W.Frag}{H H':Hp}{a:Addr}{xs:List V}(t:Tk H H')(h:SqT K H a xs):SqT K H' a xs:=by
  rcases h with (h | ⟨o,h⟩) | h
  · exact .inl (.inl (t.tup _ _ h))
  · exact .inl (.inr ⟨o,t.frz _ _ _ h⟩)
  · exact .inr h
theorem Tk.sqF {K:PySem.W.Frag}{H H':Hp}{a:Addr}{xs:List V}(t:Tk H H')(h:SqF K H a xs):SqF K H' a xs:=by
  rcases h with ⟨o,h⟩ | h
  · exact .inl ⟨o,t.frz _ _ _ h⟩
  · exact .inr h
mutual
theorem Dp.mono {K:PySem.W.Frag}{H H':Hp}(t:Tk H H'):∀ {v:V} {d:D},Dp K H v d→Dp K H' v d
  | _,_,.non=>.non
  | _,_,.bl b=>.bl b
  | _,_,.int i=>.int i
  | _,_,.str x=>.str x
  | _,_,.ty n=>.ty n
  | _,_,.tup h l=>.tup (t.sqT h) (DpL.mono t l)
  | _,_,.ls h l=>.ls (t.sqF h) (DpL.mono t l)
  | _,_,.obj a=>.obj a
theorem DpL.mono {K:PySem.W.Frag}{H H':Hp}(t:Tk H H'):∀ {vs:List V} {ds:List D},DpL K H vs ds→DpL K H' vs ds
  | _,_,.nil=>.nil
  | _,_,.cons h l=>.cons (Dp.mono t h) (DpL.mono t l)
end
theorem DpL.length {K:PySem.W.Frag}{H:Hp}:∀ {vs:List V} {ds:List D},DpL K H vs ds→vs.length=ds.length
  | _,_,.nil=>rfl
  | _,_,.cons _ l=>by rw[List.length_cons,List.length_cons,DpL.length l]
theorem DpL.get {K:PySem.W.Frag}{H:Hp}:∀ {vs:List V} {ds:List D} {i:Nat} {d:D},DpL K H vs ds→ds[i]? = some d→∃ v,vs[i]? = some v∧Dp K H v d
  | _,_,_,_,.nil,e=>by simp at e
  | _,_,0,_,.cons h _,e=>by simp at e;subst e;exact ⟨_,rfl,h⟩
  | _,_,i+1,d,.cons _ l,e=>by
    obtain ⟨v,e1,h⟩:=DpL.get (i:=i) (d:=d) l (by simpa using e)
    exact ⟨v,by simpa using e1,h⟩
theorem DpL.get' {K:PySem.W.Frag}{H:Hp}:∀ {vs:List V} {ds:List D} {i:Nat} {v:V},DpL K H vs ds→vs[i]? = some v→∃ d,ds[i]? = some d∧Dp K H v d
  | _,_,_,_,.nil,e=>by simp at e
  | _,_,0,_,.cons h _,e=>by simp at e;subst e;exact ⟨_,rfl,h⟩
  | _,_,i+1,d,.cons _ l,e=>by
    obtain ⟨v,e1,h⟩:=DpL.get' (i:=i) (v:=d) l (by simpa using e)
    exact ⟨v,by simpa using e1,h⟩
theorem DpL.set {K:PySem.W.Frag}{H:Hp}{v:V}{d:D}(h:Dp K H v d):∀ {vs:List V} {ds:List D} (i:Nat),DpL K H vs ds→DpL K H (vs.set i v) (ds.set i d)
  | _,_,_,.nil=>.nil
  | _,_,0,.cons _ l=>.cons h l
  | _,_,i+1,.cons q l=>.cons q (DpL.set h i l)
theorem DpL.append {K:PySem.W.Frag}{H:Hp}:∀ {vs ws:List V} {ds es:List D},DpL K H vs ds→DpL K H ws es→DpL K H (vs++ws) (ds++es)
  | _,_,_,_,.nil,s=>s
  | _,_,_,_,.cons h l,s=>.cons h (DpL.append l s)
theorem DpL.at {K:PySem.W.Frag}{H:Hp}{vs:List V}{ds:List D}{i:Int}{d:D}(l:DpL K H vs ds)(e:atD ds i=some d):∃ v,atI vs i=some v∧Dp K H v d:=by
  unfold atD atI at e
  unfold atI
  rw[l.length]
  cases q:ixN ds.length i with
  | none=>rw[q] at e;cases e
  | some j=>
    rw[q] at e
    exact l.get e
def DpK (K:PySem.W.Frag)(H:Hp)(xs:List (Key×V))(kvs:List (Key×D)):Prop:=xs.map (·.1)=kvs.map (·.1)∧DpL K H (xs.map (·.2)) (kvs.map (·.2))
theorem DpK.mono {K:PySem.W.Frag}{H H':Hp}(t:Tk H H'){xs:List (Key×V)}{kvs:List (Key×D)}(h:DpK K H xs kvs):DpK K H' xs kvs:=⟨h.1,h.2.mono t⟩
def zG (K:PySem.W.Frag)(H:Hp)(a:Addr):MO→Prop
  | .lst ds=>∃ xs,H a=some (.lst xs)∧DpL K H xs ds
  | .dct kvs=>∃ xs,H a=some (.dK xs)∧DpK K H xs kvs
theorem zG.go {K:PySem.W.Frag}{H H':Hp}{a:Addr}{o:MO}(h:zG K H a o)(t:Tk H H')(k:∀ u,H a=some u→H' a=some u):zG K H' a o:=by
  cases o with
  | lst ds=>obtain ⟨xs,z,l⟩:=h;exact ⟨xs,k _ z,l.mono t⟩
  | dct kvs=>obtain ⟨xs,z,l⟩:=h;exact ⟨xs,k _ z,l.mono t⟩
theorem zG.ne {K:PySem.W.Frag}{H:Hp}{a q:Addr}{o:MO}{u:HO}(h:zG K H a o)(t:Tk H (L2.upd H q u))(k:a≠q):zG K (L2.upd H q u) a o:=h.go t fun _ e=>by rw[aO k];exact e
def bO (K:PySem.W.Frag)(H:Hp)(μ:Mu):Prop:=∀ a o,μ a=some o→zG K H a o
theorem bO.free {K:PySem.W.Frag}{H:Hp}{μ:Mu}(h:bO K H μ){a:Addr}(e:H a=none):μ a=none:=by
  cases q:μ a with
  | none=>rfl
  | some o=>
    cases o with
    | lst ds=>obtain ⟨xs,z,_⟩:=h a _ q;rw[e] at z;cases z
    | dct ds=>obtain ⟨xs,z,_⟩:=h a _ q;rw[e] at z;cases z
theorem bO.keep {K:PySem.W.Frag}{H H':Hp}{μ:Mu}(h:bO K H μ)(t:Tk H H')(k:∀ a u,μ a≠none→H a=some u→H' a=some u):bO K H' μ:=fun a o e=>by
  exact (h a _ e).go t fun u z=>k a u (by rw[e];simp) z
def Sub (μ μ':Mu):Prop:=∀ a o,μ a=some o→μ' a=some o
theorem Sub.refl (μ:Mu):Sub μ μ:=fun _ _ h=>h
theorem Sub.new {μ:Mu}{p:Addr}{o:MO}(h:μ p=none):Sub μ (up μ p o):=fun a u e=>by
  rw[aK (fun z=>by subst z;rw[h] at e;cases e)];exact e
theorem Sub.trans {μ μ1 μ2:Mu}(a:Sub μ μ1)(b:Sub μ1 μ2):Sub μ μ2:=fun c o h=>b c o (a c o h)
theorem bO.sub {K:PySem.W.Frag}{H:Hp}{μ μ':Mu}(h:bO K H μ')(s:Sub μ μ'):bO K H μ:=fun a o e=>h a o (s a o e)
structure Rl (K:PySem.W.Frag) (σ:L2.St) (H:Hp) (ρ:ST) (μ:Mu):Prop where
  len:ρ.length=σ.length
  loc:∀ i d,lk ρ i=some d→∃ v,σ[i]? = some (some v)∧Dp K H v d
  mu:bO K H μ
theorem Rl.go {K:PySem.W.Frag}{σ:L2.St}{H H':Hp}{ρ:ST}{μ μ':Mu}(r:Rl K σ H ρ μ)(t:Tk H H')(m:bO K H' μ'):Rl K σ H' ρ μ':=
  ⟨r.len,fun i d e=>let ⟨v,h1,h2⟩:=r.loc i d e;⟨v,h1,h2.mono t⟩,m⟩
theorem E8:∀ (ρ:ST) (i j:Nat) (d:D),lk (ρ.set i (some d)) j=if i=j∧i < ρ.length then some d else lk ρ j
  | [],i,j,d=>by simp[lk]
  | o::r,0,0,d=>by simp[lk]
  | o::r,0,j+1,d=>by simp[lk]
  | o::r,i+1,0,d=>by simp[lk]
  | o::r,i+1,j+1,d=>by
    show lk (r.set i (some d)) j=_
    rw[E8 r i j d]
    simp[lk]
theorem Rl.set {K:PySem.W.Frag}{σ:L2.St}{H:Hp}{ρ:ST}{μ:Mu}(r:Rl K σ H ρ μ){v:V}{d:D}(h:Dp K H v d)(i:Nat):Rl K (σ.set i (some v)) H (ρ.set i (some d)) μ:=by
  refine ⟨by simp[r.len],fun j e q=>?_,r.mu⟩
  rw[E8] at q
  split at q
  · rename_i hc
    obtain ⟨rfl,hlt⟩:=hc
    cases q
    exact ⟨v,by rw[List.getElem?_set_self (by rw[← r.len];exact hlt)],h⟩
  · rename_i hc
    obtain ⟨u,h1,h2⟩:=r.loc j e q
    by_cases hij:i=j
    · subst hij
      have:¬ i < ρ.length:=fun z=>hc ⟨rfl,z⟩
      have hn:σ[i]? = none:=List.getElem?_eq_none_iff.mpr (by rw[← r.len];omega)
      rw[hn] at h1;cases h1
    · exact ⟨u,by rw[List.getElem?_set_ne hij];exact h1,h2⟩
abbrev jv (K:PySem.W.Frag)(H:Hp)(Q:DK)(Q':VK):Prop:=∀ v H' d μ',Tk H H'→bO K H' μ'→Dp K H' v d→Q d μ'→Q' v H'
def Sim (K:PySem.W.Frag)(t:TE)(T:ETr):Prop:=∀ σ H ρ μ (Q:DK) (Q':VK),Rl K σ H ρ μ→T ρ μ Q→jv K H Q Q'→t σ H Q'
def Jy (K:PySem.W.Frag)(t:TT)(T:TTr):Prop:=∀ σ H ρ μ (Q:Bool→Mu→Prop) (Q':Bool→Hp→Prop),Rl K σ H ρ μ→T ρ μ Q→(∀ b H' μ',Tk H H'→bO K H' μ'→Q b μ'→Q' b H')→t σ H Q'
def RD (K:PySem.W.Frag)(t:TA)(T:ATr):Prop:=∀ σ H ρ μ (Q:List D→Mu→Prop) (Q':List V→Hp→Prop),Rl K σ H ρ μ→T ρ μ Q→(∀ vs H' ds μ',Tk H H'→bO K H' μ'→DpL K H' vs ds→Q ds μ'→Q' vs H')→t σ H Q'
abbrev wR (K:PySem.W.Frag)(H:Hp)(N:ST→Mu→Prop)(N':L2.St→Hp→Prop):Prop:=∀ σ' H' ρ' μ',Tk H H'→Rl K σ' H' ρ' μ'→N ρ' μ'→N' σ' H'
structure Hb (K:PySem.W.Frag) (H:Hp) (E:En) (E':Ends):Prop where
  nx:wR K H E.nx E'.nx
  rt:jv K H E.rt E'.rt
  bk:wR K H E.bk E'.bk
  ct:wR K H E.ct E'.ct
theorem Hb.go {K:PySem.W.Frag}{H H1:Hp}{E:En}{E':Ends}(e:Hb K H E E')(t:Tk H H1):Hb K H1 E E':=
  ⟨fun _ _ _ _ t'=>e.nx _ _ _ _ (t.trans t'),fun _ _ _ _ t'=>e.rt _ _ _ _ (t.trans t'),fun _ _ _ _ t'=>e.bk _ _ _ _ (t.trans t'),fun _ _ _ _ t'=>e.ct _ _ _ _ (t.trans t')⟩
def KQ (K:PySem.W.Frag)(t:TS)(T:STr):Prop:=∀ σ H ρ μ (E:En) (E':Ends),Rl K σ H ρ μ→T E ρ μ→Hb K H E E'→t E' σ H
def Ol (K:PySem.W.Frag)(g:TG)(G:GTr):Prop:=∀ σ H ρ μ v d (k:ST→Mu→Prop) (k':L2.St→Hp→Prop),Rl K σ H ρ μ→Dp K H v d→G d ρ μ k→wR K H k k'→g v σ H k'
structure LE (X:Cx) (e:Expr) (T:ETr):Prop where
  ex:∃ t,PE X e t∧Sim X.K t T
structure LT (X:Cx) (e:Expr) (T:TTr):Prop where
  ex:∃ t,PT X e t∧Jy X.K t T
structure LW (X:Cx) (e:Expr) (T:TTr):Prop where
  ex:∃ t,PW X e t∧Jy X.K t T
structure LA (X:Cx) (es:List Expr) (T:ATr):Prop where
  ex:∃ t,PA X es t∧RD X.K t T
structure LS (X:Cx) (st:Stmt) (T:STr):Prop where
  ex:∃ t,PS X st t∧KQ X.K t T
structure LSs (X:Cx) (sts:List Stmt) (T:STr):Prop where
  ex:∃ t,PSs X sts t∧KQ X.K t T
structure LG (X:Cx) (tg:Expr) (G:GTr):Prop where
  ex:∃ g,PG X tg g∧Ol X.K g G
section
variable {X:Cx} {a b c e:Expr} {Ta Tb Tc:ETr} {pos:Pos}
theorem ae (i:Nat){x:Str}(hN:X.N[i]? = some x:=by rfl)(hv:Vis X.env.scope x:=by first | exact Or.inl rfl | exact Or.inr (Or.inl rfl) | exact Or.inr (Or.inr rfl))(hd:(x == ("__debug__" : Str))=false:=by decide)
    (hcd:(x == ("__classdict__" : Str))=false:=by decide):LE X (.Name x pos) (ah i):=
  ⟨_,HR hN hv hd hcd,fun σ H ρ μ Q Q' r h k=>by
    have h:kO (lk ρ i) fun d=>Q d μ:=h
    cases q:lk ρ i with
    | none=>rw[q] at h;exact False.elim h
    | some d=>
      rw[q] at h
      have h:Q d μ:=h
      obtain ⟨v,e1,p⟩:=r.loc i d q
      exact ⟨v,e1,k v H d μ (.refl H) r.mu p h⟩⟩
theorem le_int {i:Int}{j}:LE X (.Constant (.int i) j pos) (TC (.int i)):=⟨_,NT,fun σ H ρ μ Q Q' r h k=>k _ H _ μ (.refl H) r.mu (.int i) h⟩
theorem wK {b:Bool}{j}:LE X (.Constant (.bool b) j pos) (TC (.bl b)):=⟨_,RY,fun σ H ρ μ Q Q' r h k=>k _ H _ μ (.refl H) r.mu (.bl b) h⟩
theorem c9 {j}:LE X (.Constant .none j pos) (TC .non):=⟨_,OJ,fun σ H ρ μ Q Q' r h k=>k _ H _ μ (.refl H) r.mu .non h⟩
theorem le_str {x:Str}{j}:LE X (.Constant (.str x) j pos) (TC (.str x)):=⟨_,HE,fun σ H ρ μ Q Q' r h k=>k _ H _ μ (.refl H) r.mu (.str x) h⟩
def iu (K:PySem.W.Frag)(r:R2)(R:DR2):Prop:=∀ H μ x y dx dy (Q:DK) (Q':VK),bO K H μ→Dp K H x dx→Dp K H y dy→R dx dy μ Q→jv K H Q Q'→r x y H Q'
def Q8 (K:PySem.W.Frag)(r:V→Hp→VK→Prop)(R:DR):Prop:=∀ H μ x dx (Q:DK) (Q':VK),bO K H μ→Dp K H x dx→R dx μ Q→jv K H Q Q'→r x H Q'
theorem jv.go {K:PySem.W.Frag}{H H1:Hp}{Q:DK}{Q':VK}(k:jv K H Q Q')(t:Tk H H1):jv K H1 Q Q':=fun v H' d μ' t'=>k v H' d μ' (t.trans t')
theorem oN {K:PySem.W.Frag}{r:R2}{R:DR2}{ta tb:TE}(hr:iu K r R)(ha:Sim K ta Ta)(hb:Sim K tb Tb):Sim K (tOp r ta tb) (ak R Ta Tb):=fun σ H ρ μ Q Q' rl h k=>
  ha σ H ρ μ _ _ rl h fun x H1 dx μ1 t1 m1 p1 h1=>hb σ H1 ρ μ1 _ _ (rl.go t1 m1) h1 fun y H2 dy μ2 t2 m2 p2 h2=>hr H2 μ2 x y dx dy Q Q' m2 (p1.mono t2) p2 h2 (k.go (t1.trans t2))
theorem rC {op:Operator}{r:R2}{R:DR2}(ho:OpR X (binaryOp op) r)(hr:iu X.K r R)(ha:LE X a Ta)(hb:LE X b Tb):LE X (.BinOp a op b pos) (ak R Ta Tb):=by
  obtain ⟨ta,pa,sa⟩:=ha.ex
  obtain ⟨tb,pb,sb⟩:=hb.ex
  exact ⟨_,Mv ho pa pb,oN hr sa sb⟩
theorem uK {op:CmpOp}{r:R2}{R:DR2}(ho:OpR X (compareOp op) r)(hr:iu X.K r R)(ha:LE X a Ta)(hb:LE X b Tb)(hm:behindInMarks op b=false):LE X (.Compare a [op] [b] pos) (ak R Ta Tb):=by
  obtain ⟨ta,pa,sa⟩:=ha.ex
  obtain ⟨tb,pb,sb⟩:=hb.ex
  exact ⟨_,JU ho pa pb hm,oN hr sa sb⟩
theorem Eg {K:PySem.W.Frag}{t:TE}{T:ETr}(h:Sim K t T):Jy K (MI t) (TB T):=fun σ H ρ μ Q Q' rl hh k=>
  h σ H ρ μ _ _ rl hh fun v H' d μ' t' m' p' h'=>by
    cases p' with
    | bl c=>exact ⟨c,rfl,k c H' μ' t' m' h'⟩
    | _=>exact False.elim h'
theorem M6 {K:PySem.W.Frag}{t:TE}{T:ETr}(h:Sim K t T):Jy K (tB t) (TB T):=fun σ H ρ μ Q Q' rl hh k=>
  h σ H ρ μ _ _ rl hh fun v H' d μ' t' m' p' h'=>by
    cases p' with
    | bl c=>exact ⟨c,rfl,k c H' μ' t' m' h'⟩
    | _=>exact False.elim h'
theorem gN {op:CmpOp}{r:R2}{R:DR2}(ho:OpR X (compareOp op) r)(hr:iu X.K r R)(ha:LE X a Ta)(hb:LE X b Tb)(hm:behindInMarks op b=false):LT X (.Compare a [op] [b] pos) (TB (ak R Ta Tb)):=by
  obtain ⟨ta,pa,sa⟩:=ha.ex
  obtain ⟨tb,pb,sb⟩:=hb.ex
  exact ⟨_,LF ho pa pb hm,Eg (oN hr sa sb)⟩
theorem OpR.or {f:Value→Value→Sem Value}{r r':R2}(h:OpR X f r)(h':OpR X f r'):OpR X f (fun x y H Q=>r x y H Q∨r' x y H Q):=fun pins s σ H x y v u Q I rx ry q=>by
  rcases q with q | q
  · exact h pins s σ H x y v u Q I rx ry q
  · exact h' pins s σ H x y v u Q I rx ry q
theorem t8 {K:PySem.W.Frag}{C:Int→Int→Prop}{g:Int→Int→V}{R:DR2}(f:Int→Int→D)(hg:∀ H i j,Dp K H (g i j) (f i j))(hR:∀ i j μ Q,R (.int i) (.int j) μ Q→C i j∧Q (f i j) μ)
    (hn:∀ dx dy μ Q,R dx dy μ Q→(∃ i,dx=.int i)∧∃ j,dy=.int j):iu K (rI C g) R:=fun H μ x y dx dy Q Q' m px py h k=>by
  obtain ⟨⟨i,rfl⟩,j,rfl⟩:=hn _ _ _ _ h
  cases px;cases py
  obtain ⟨h1,h2⟩:=hR _ _ _ _ h
  exact ⟨i,j,rfl,rfl,h1,k _ H _ μ (.refl H) m (hg H i j) h2⟩
theorem BI {K:PySem.W.Frag}{g:Int→Int→V}{R:DR2}(f:Int→Int→D)(hg:∀ H i j,Dp K H (g i j) (f i j))(hR:∀ i j μ Q,R (.int i) (.int j) μ Q→Q (f i j) μ)
    (hn:∀ dx dy μ Q,R dx dy μ Q→(∃ i,dx=.int i)∧∃ j,dy=.int j):iu K (rI0 g) R:=fun H μ x y dx dy Q Q' m px py h k=>by
  obtain ⟨⟨i,rfl⟩,j,rfl⟩:=hn _ _ _ _ h
  cases px;cases py
  exact ⟨i,j,rfl,rfl,k _ H _ μ (.refl H) m (hg H i j) (hR _ _ _ _ h)⟩
theorem dY (ha:LE X a Ta)(hb:LE X b Tb):LE X (.BinOp a .Sub b pos) (ak iC Ta Tb):=rC Ou (BI (fun i j=>.int (i - j)) (fun _ _ _=>.int _) (fun _ _ _ _ h=>h) (fun dx dy μ Q h=>by cases dx<;>cases dy<;>first | exact ⟨⟨_,rfl⟩,_,rfl⟩ | exact False.elim h)) ha hb
theorem iV.abs {j:Int}(h:iV j):j.natAbs < 2 ^ 256:=by
  have e:(2:Nat) ^ 256=115792089237316195423570985008687907853269984665640564039457584007913129639936:=by decide +kernel
  rw[e]
  obtain ⟨h1,h2⟩:=h
  omega
theorem MulOk.ok {i j:Int}(h:MulOk i j):IntMulOk i j:=by
  rcases h with (⟨h1,h2⟩ | ⟨h1,h2⟩) | ⟨h1,h2⟩
  · exact .of_left (intBits_le_64 h1 h2)
  · exact .of_right (intBits_le_64 h1 h2)
  · exact .of_le (PyProof.Rows.intBits_le h1.abs) (PyProof.Rows.intBits_le h2.abs) (by decide)
theorem JZ:OpR X (binaryOp .Mult) (rI MulOk fun i j=>.int (i*j)):=opI fun _ _ _ _ _ _ _ hc q=>mul_int q hc.ok
theorem jf.np {i j:Int}(h:jf j):Builtin.divisionGoesByPylong i j=false:=by
  refine PyProof.noPylong_of_log2 ?_
  have h0:j.natAbs≠0:=by have:=h.1;omega
  have:=(Nat.log2_lt h0).mpr h.2.abs
  omega
theorem LB:OpR X (binaryOp .FloorDiv) (rI (fun _ j=>jf j) fun i j=>.int (i.fdiv j)):=opI fun _ _ _ _ _ _ _ hc q=>floordiv_int hc.1 q (.inl hc.np)
theorem iL (ha:LE X a Ta)(hb:LE X b Tb):LE X (.BinOp a .FloorDiv b pos) (ak mL Ta Tb):=rC LB (t8 (fun i j=>.int (i.fdiv j)) (fun _ _ _=>.int _) (fun _ _ _ _ h=>⟨h.1,h.2⟩) (fun dx dy μ Q h=>by cases dx<;>cases dy<;>first | exact ⟨⟨_,rfl⟩,_,rfl⟩ | exact False.elim h)) ha hb
theorem le_mul (ha:LE X a Ta)(hb:LE X b Tb):LE X (.BinOp a .Mult b pos) (ak hV Ta Tb):=rC JZ (t8 (fun i j=>.int (i*j)) (fun _ _ _=>.int _) (fun _ _ _ _ h=>⟨h.1,h.2⟩) (fun dx dy μ Q h=>by cases dx<;>cases dy<;>first | exact ⟨⟨_,rfl⟩,_,rfl⟩ | exact False.elim h)) ha hb
theorem ie (ha:LE X a Ta)(hb:LE X b Tb):LE X (.BinOp a .Mod b pos) (ak kU Ta Tb):=rC Ld (t8 (fun i j=>.int (i.fmod j)) (fun _ _ _=>.int _) (fun _ _ _ _ h=>⟨h.1,h.2⟩) (fun dx dy μ Q h=>by cases dx<;>cases dy<;>first | exact ⟨⟨_,rfl⟩,_,rfl⟩ | exact False.elim h)) ha hb
theorem le_pow (ha:LE X a Ta)(hb:LE X b Tb):LE X (.BinOp a .Pow b pos) (ak Cz Ta Tb):=rC Ni (t8 (fun i j=>.int (i ^ j.toNat)) (fun _ _ _=>.int _) (fun _ _ _ _ h=>⟨h.1,h.2⟩) (fun dx dy μ Q h=>by cases dx<;>cases dy<;>first | exact ⟨⟨_,rfl⟩,_,rfl⟩ | exact False.elim h)) ha hb
theorem oP {K:PySem.W.Frag}(p:Int→Int→Bool):iu K (rI0 fun i j=>.bl (p i j)) (HL p):=BI (fun i j=>.bl (p i j)) (fun _ _ _=>.bl _) (fun _ _ _ _ h=>h) (fun dx dy μ Q h=>by cases dx<;>cases dy<;>first | exact ⟨⟨_,rfl⟩,_,rfl⟩ | exact False.elim h)
theorem Q3 (ha:LE X a Ta)(hb:LE X b Tb):LE X (.Compare a [.Lt] [b] pos) (ak rLt Ta Tb):=uK Mn (oP _) ha hb (hX _)
theorem nj (ha:LE X a Ta)(hb:LE X b Tb):LT X (.Compare a [.Lt] [b] pos) (TB (ak rLt Ta Tb)):=gN Mn (oP _) ha hb (hX _)
theorem mP (ha:LE X a Ta)(hb:LE X b Tb):LT X (.Compare a [.Gt] [b] pos) (TB (ak rGt Ta Tb)):=gN Qo (oP _) ha hb (hX _)
theorem Mz (ha:LE X a Ta)(hb:LE X b Tb):LT X (.Compare a [.GtE] [b] pos) (TB (ak rGe Ta Tb)):=gN QT (oP _) ha hb (hX _)
theorem Rz {op:UnaryOp}{r:V→Hp→VK→Prop}{R:DR}(ho:UnR X (unaryOp op) r)(hr:Q8 X.K r R)(ha:LE X a Ta):LE X (.UnaryOp op a pos) (TUn R Ta):=by
  obtain ⟨ta,pa,sa⟩:=ha.ex
  exact ⟨_,QD ho pa,fun σ H ρ μ Q Q' rl h k=>sa σ H ρ μ _ _ rl h fun x H1 dx μ1 t1 m1 p1 h1=>hr H1 μ1 x dx Q Q' m1 p1 h1 (k.go t1)⟩
theorem fG (ha:LE X a Ta)(he:∀ whole,isTrue a X.env whole=(do let v ← whole;standAt a.pos;holding [v] (truthy v)):=by intro _;rfl):LT X a (TB Ta):=by
  obtain ⟨ta,pa,sa⟩:=ha.ex
  exact ⟨_,P8 pa he,M6 sa⟩
variable {tA tB' tC':TTr} {rest:List Expr}
theorem yO (ha:LT X a tA):LT X (.UnaryOp .Not a pos) (yt tA):=by
  obtain ⟨ta,pa,sa⟩:=ha.ex
  exact ⟨_,Oj pa,fun σ H ρ μ Q Q' rl h k=>sa σ H ρ μ _ _ rl h fun c H1 μ1 t1 m1 h1=>k (!c) H1 μ1 t1 m1 h1⟩
theorem LW.lt (h:LW X a tA):LT X a tA:=by
  obtain ⟨ta,pa,sa⟩:=h.ex
  exact ⟨_,pa.pt,sa⟩
theorem uX (ha:LT X a tA):LW X (.BoolOp .And [a] pos) tA:=by
  obtain ⟨ta,pa,sa⟩:=ha.ex
  exact ⟨_,pw_and1 pa,sa⟩
theorem qS (ha:LT X a tA):LW X (.BoolOp .Or [a] pos) tA:=by
  obtain ⟨ta,pa,sa⟩:=ha.ex
  exact ⟨_,pw_or1 pa,sa⟩
theorem AQ (ha:LT X a tA)(hb:LW X (.BoolOp .And (b::rest) pos) tB'):LW X (.BoolOp .And (a::b::rest) pos) (w4 tA tB'):=by
  obtain ⟨ta,pa,sa⟩:=ha.ex
  obtain ⟨tb,pb,sb⟩:=hb.ex
  refine ⟨_,pw_and pa pb,fun σ H ρ μ Q Q' rl h k=>sa σ H ρ μ _ _ rl h fun c H1 μ1 t1 m1 h1=>?_⟩
  cases c with
  | true=>exact ro (sb σ H1 ρ μ1 Q Q' (rl.go t1 m1) h1 fun b H2 μ2 t2=>k b H2 μ2 (t1.trans t2))
  | false=>exact qX (k false H1 μ1 t1 m1 h1)
theorem wZ (ha:LT X a tA)(hb:LW X (.BoolOp .Or (b::rest) pos) tB'):LW X (.BoolOp .Or (a::b::rest) pos) (TOr tA tB'):=by
  obtain ⟨ta,pa,sa⟩:=ha.ex
  obtain ⟨tb,pb,sb⟩:=hb.ex
  refine ⟨_,pw_or pa pb,fun σ H ρ μ Q Q' rl h k=>sa σ H ρ μ _ _ rl h fun c H1 μ1 t1 m1 h1=>?_⟩
  cases c with
  | true=>exact ro (k true H1 μ1 t1 m1 h1)
  | false=>exact qX (sb σ H1 ρ μ1 Q Q' (rl.go t1 m1) h1 fun b H2 μ2 t2=>k b H2 μ2 (t1.trans t2))
theorem qu {op}(h:LE X a Ta):LE X (.BoolOp op [a] pos) Ta:=by
  obtain ⟨ta,pa,sa⟩:=h.ex
  exact ⟨_,NA pa,sa⟩
theorem pY (ha:LE X a Ta)(hb:LE X (.BoolOp .And (b::rest) pos) Tb):LE X (.BoolOp .And (a::b::rest) pos) (kg Ta Tb):=by
  obtain ⟨ta,pa,sa⟩:=ha.ex
  obtain ⟨tb,pb,sb⟩:=hb.ex
  refine ⟨_,OZ pa pb,fun σ H ρ μ Q Q' rl h k=>sa σ H ρ μ _ _ rl h fun x H1 dx μ1 t1 m1 p1 h1=>?_⟩
  cases p1 with
  | bl c=>
    refine ⟨c,rfl,?_⟩
    cases c with
    | true=>exact ro (sb σ H1 ρ μ1 Q Q' (rl.go t1 m1) h1 (k.go t1))
    | false=>exact qX (k _ H1 _ μ1 t1 m1 (.bl _) h1)
  | _=>exact False.elim h1
theorem RV (ha:LE X a Ta)(hb:LE X (.BoolOp .Or (b::rest) pos) Tb):LE X (.BoolOp .Or (a::b::rest) pos) (FQ Ta Tb):=by
  obtain ⟨ta,pa,sa⟩:=ha.ex
  obtain ⟨tb,pb,sb⟩:=hb.ex
  refine ⟨_,R6 pa pb,fun σ H ρ μ Q Q' rl h k=>sa σ H ρ μ _ _ rl h fun x H1 dx μ1 t1 m1 p1 h1=>?_⟩
  cases p1 with
  | bl c=>
    refine ⟨c,rfl,?_⟩
    cases c with
    | true=>exact ro (k _ H1 _ μ1 t1 m1 (.bl _) h1)
    | false=>exact qX (sb σ H1 ρ μ1 Q Q' (rl.go t1 m1) h1 (k.go t1))
  | _=>exact False.elim h1
theorem fU (hc:LT X c tC')(ha:LE X a Ta)(hb:LE X b Tb):LE X (.IfExp c a b pos) (jt tC' Ta Tb):=by
  obtain ⟨tc,pc,sc⟩:=hc.ex
  obtain ⟨ta,pa,sa⟩:=ha.ex
  obtain ⟨tb,pb,sb⟩:=hb.ex
  refine ⟨_,Hr pc pa pb,fun σ H ρ μ Q Q' rl h k=>sc σ H ρ μ _ _ rl h fun q H1 μ1 t1 m1 h1=>?_⟩
  cases q with
  | true=>exact ro (sa σ H1 ρ μ1 Q Q' (rl.go t1 m1) h1 (k.go t1))
  | false=>exact qX (sb σ H1 ρ μ1 Q Q' (rl.go t1 m1) h1 (k.go t1))
variable {es:List Expr} {At:ATr}
theorem ai:LA X [] ar:=⟨_,i9,fun σ H ρ μ Q Q' rl h k=>k [] H [] μ (.refl H) rl.mu .nil h⟩
theorem aa (ha:LE X e Ta)(hr:LA X es At)(hs:starEach (e::es) X.env=(false,eval e X.env)::starEach es X.env:=by rfl):LA X (e::es) (af Ta At):=by
  obtain ⟨ta,pa,sa⟩:=ha.ex
  obtain ⟨tr,pr,sr⟩:=hr.ex
  exact ⟨_,ff pa pr hs,fun σ H ρ μ Q Q' rl h k=>sa σ H ρ μ _ _ rl h fun x H1 dx μ1 t1 m1 p1 h1=>sr σ H1 ρ μ1 _ _ (rl.go t1 m1) h1 fun xs H2 ds μ2 t2 m2 p2 h2=>k _ H2 _ μ2 (t1.trans t2) m2 (.cons (p1.mono t2) p2) h2⟩
theorem dk {K:PySem.W.Frag}{H:Hp}{μ:Mu}{p:Addr}{o:HO}(m:bO K H μ)(hp:H p=none):bO K (L2.upd H p o) μ:=m.keep (.new hp) fun a' xs' _ e=>by rw[aO (bu e hp)];exact e
theorem big {n:Nat}(h:n≤1000000):n≤sizeLine:=Nat.le_trans h (by decide)
theorem aH {x1}(h:LA X es At):LE X (.Tuple es x1 pos) (aX At):=by
  obtain ⟨ta,pa,sa⟩:=h.ex
  refine ⟨_,OP pa,fun σ H ρ μ Q Q' rl h k=>sa σ H ρ μ _ _ rl h fun xs H1 ds μ1 t1 m1 p1 h1=>⟨by rw[p1.length];exact big h1.1,fun p hp=>?_⟩⟩
  exact k _ _ _ μ1 (t1.trans (.new hp)) (dk m1 hp) (.tup (SqT.of aP) (p1.mono (.new hp))) h1.2
theorem fm (h:LA X es At):LE X (.List es pos) (iW At):=by
  obtain ⟨ta,pa,sa⟩:=h.ex
  refine ⟨_,Hy pa,fun σ H ρ μ Q Q' rl h k=>sa σ H ρ μ _ _ rl h fun xs H1 ds μ1 t1 m1 p1 h1=>⟨by rw[p1.length];exact big h1.1,fun p hp=>?_⟩⟩
  refine k _ _ _ (up μ1 p (.lst ds)) (t1.trans (.new hp)) (fun a o e=>?_) (.obj p) (h1.2 p (m1.free hp))
  by_cases ha:a=p
  · subst ha
    rw[aB] at e;cases e
    exact ⟨xs,aP,p1.mono (.new hp)⟩
  · rw[aK ha] at e
    exact dk m1 hp a o e
def Dl (t:TE):TE:=fun σ H Q=>t σ H fun v H1=>∃ a xs,v=.ref a∧H1 a=some (.lst xs)∧∀ o,Q v (L2.upd H1 a (.frz o (.lst xs)))
theorem kA {t:TE}(h:PE X e t):PE X e (Dl t):=by
  intro pins s σ H Q I hh
  refine thn (h pins s σ H _ I hh) fun u s1 ⟨v,H1,I1,r,a,xs,ev,ea,q⟩=>?_
  obtain ⟨z,its,n,rv,hg⟩:=(show dX X.prog X.w H1 s1.heap a (.lst xs) from I1.hok a _ ea)
  have nl:∀ b o,H1 b=some o→(∀ ys,o≠.lst ys)→b≠a:=fun b o e1 e2 z=>by subst z;rw[ea] at e1;cases e1;exact e2 _ rfl
  refine ⟨v,_,I1.un (h':=s1.heap) (t':=s1.toks) (H':=L2.upd H1 a (.frz { cls:=.type "list", data:=.seq its.toArray n } (.lst xs))) ⟨fun b o e _ _ _=>e,fun b o e _ _ _=>⟨o.slots,e⟩,fun b o e n _=>?_,fun b o e _=>⟨o,e⟩,fun b ys e=>?_,fun b o u e=>?_,fun b ps e=>⟨#[],?_⟩⟩ (fun b u e=>?_),r,q _⟩
  · rw[aO (fun z=>by subst z;rw[ea] at n;cases n)];exact n
  · rw[aO (nl b _ e (fun _=>nofun))];exact e
  · rw[aO (nl b _ e (fun _=>nofun))];exact e
  · rw[aO (nl b _ e (fun _=>nofun)),e];simp
  · by_cases hb:b=a
    · subst hb
      rw[aP] at e;cases e
      exact ⟨hg,z,its,n,rv,hg⟩
    · rw[aO hb] at e
      refine (I1.hok b u e).oi (fun c w _ q=>q) (fun c q=>?_) fun c ys q=>?_
      · rw[aO (nl c _ q (fun _=>nofun))];exact q
      · rw[aO (nl c _ q (fun _=>nofun))];exact q
theorem dZ (h:LA X es At):LE X (.List es pos) (ig At):=by
  obtain ⟨ta,pa,sa⟩:=h.ex
  refine ⟨_,kA (Hy pa),fun σ H ρ μ Q Q' rl h k=>sa σ H ρ μ _ _ rl h fun xs H1 ds μ1 t1 m1 p1 h1=>⟨by rw[p1.length];exact big h1.1,fun p hp=>⟨p,xs,rfl,aP,fun o=>?_⟩⟩⟩
  have e:L2.upd (L2.upd H1 p (.lst xs)) p (.frz o (.lst xs))=L2.upd H1 p (.frz o (.lst xs)):=BO
  rw[e]
  exact k _ _ _ μ1 (t1.trans (.new hp)) (dk m1 hp) (.ls (.inl ⟨o,aP⟩) (p1.mono (.new hp))) h1.2
end
end
section
open PySem PySem.Spec PyProof.Rows L2
mutual
def toP:D→PyData
  | .non=>.none
  | .bl b=>.bool b
  | .int i=>.int i
  | .str x=>.str x
  | .tup ds=>.tuple (kZ ds)
  | .ls ds=>.list (kZ ds)
  | .ty _=>.none
  | .obj _=>.none
def kZ:List D→List PyData
  | []=>[]
  | d::r=>toP d::kZ r
end
mutual
theorem i8:∀ (n:Nat) (d:D),okD n d=true→(toP d).canLay0=true∧(toP d).depth≤n
  | n,.non,_=>⟨rfl,Nat.zero_le _⟩
  | n,.bl b,_=>⟨rfl,Nat.zero_le _⟩
  | n,.int i,_=>⟨rfl,Nat.zero_le _⟩
  | n,.str x,h=>⟨by cases n<;>exact h,Nat.zero_le _⟩
  | n+1,.tup ds,h=>by
    obtain ⟨h1,h2⟩:=qO n ds h
    exact ⟨h1,Nat.succ_le_succ h2⟩
  | n+1,.ls ds,h=>by
    obtain ⟨h1,h2⟩:=qO n ds h
    exact ⟨h1,Nat.succ_le_succ h2⟩
  | 0,.tup ds,h=>by cases h
  | 0,.ls ds,h=>by cases h
  | n,.ty _,h=>by cases n<;>cases h
  | n,.obj _,h=>by cases n<;>cases h
theorem qO:∀ (n:Nat) (ds:List D),cS n ds=true→PyData.canLayAll0 (kZ ds)=true∧PyData.depthAll (kZ ds)≤n
  | n,[],_=>⟨rfl,Nat.zero_le _⟩
  | n,d::r,h=>by
    have h':okD n d=true∧cS n r=true:=by simpa[cS] using h
    obtain ⟨a1,a2⟩:=i8 n d h'.1
    obtain ⟨b1,b2⟩:=qO n r h'.2
    refine ⟨?_,?_⟩
    · show (PyData.canLay0 (toP d)&&PyData.canLayAll0 (kZ r))=true
      rw[a1,b1];rfl
    · show max (PyData.depth (toP d)) (PyData.depthAll (kZ r))≤n
      exact Nat.max_le.mpr ⟨a2,b2⟩
end
theorem str_beq (a b:Str):(a == b)=decide (a=b):=by
  by_cases h:a=b
  · subst h;simp
  · rw[decide_eq_false h];exact beq_eq_false_iff_ne.mpr h
mutual
theorem oH:∀ (n m:Nat) (a b:D),okD n a=true→okD m b=true→PyData.eqv (toP a) (toP b)=eqD a b
  | n,m,.non,b,_,hb=>by cases b<;>first | rfl | (cases m<;>cases hb)
  | n,m,.bl x,b,_,hb=>by
    cases b with
    | int y=>simp only[toP,PyData.eqv,eqD];rw[Bool.beq_eq_decide_eq]
    | ty _=>cases m<;>cases hb
    | obj _=>cases m<;>cases hb
    | _=>rfl
  | n,m,.int x,b,_,hb=>by
    cases b with
    | int y=>simp only[toP,PyData.eqv,eqD];rw[Bool.beq_eq_decide_eq]
    | bl y=>simp only[toP,PyData.eqv,eqD];rw[Bool.beq_eq_decide_eq]
    | ty _=>cases m<;>cases hb
    | obj _=>cases m<;>cases hb
    | _=>rfl
  | n,m,.str x,b,_,hb=>by
    cases b with
    | str y=>simp only[toP,PyData.eqv,eqD];exact str_beq x y
    | ty _=>cases m<;>cases hb
    | obj _=>cases m<;>cases hb
    | _=>rfl
  | n+1,m,.tup xs,b,ha,hb=>by
    cases b with
    | tup ys=>
      cases m with
      | zero=>cases hb
      | succ m=>simp only[toP,PyData.eqv,eqD];exact qi n m xs ys ha hb
    | ty _=>cases m<;>cases hb
    | obj _=>cases m<;>cases hb
    | _=>rfl
  | n+1,m,.ls xs,b,ha,hb=>by
    cases b with
    | ls ys=>
      cases m with
      | zero=>cases hb
      | succ m=>simp only[toP,PyData.eqv,eqD];exact qi n m xs ys ha hb
    | ty _=>cases m<;>cases hb
    | obj _=>cases m<;>cases hb
    | _=>rfl
  | 0,_,.tup ds,_,h,_=>by cases h
  | 0,_,.ls ds,_,h,_=>by cases h
  | n,_,.ty _,_,h,_=>by cases n<;>cases h
  | n,_,.obj _,_,h,_=>by cases n<;>cases h
theorem qi:∀ (n m:Nat) (a b:List D),cS n a=true→cS m b=true→PyData.eqvAll (kZ a) (kZ b)=oE a b
  | _,_,[],[],_,_=>rfl
  | _,_,[],_::_,_,_=>by simp[kZ,PyData.eqvAll,oE]
  | _,_,_::_,[],_,_=>by simp[kZ,PyData.eqvAll,oE]
  | n,m,a::r,b::s,ha,hb=>by
    have ha':okD n a=true∧cS n r=true:=by simpa[cS] using ha
    have hb':okD m b=true∧cS m s=true:=by simpa[cS] using hb
    show (PyData.eqv (toP a) (toP b)&&PyData.eqvAll (kZ r) (kZ s))=(eqD a b&&oE r s)
    rw[oH n m a b ha'.1 hb'.1,qi n m r s ha'.2 hb'.2]
end
section
variable {X:Cx} {pins:List (Addr×Obj)} {σ:L2.St} {H:Hp} {s:Shared}
mutual
theorem fR (I:Inv X pins σ H s):∀ {n:Nat} {v:V} {d:D} {u:Value},Dp X.K H v d→okD n d=true→RelV v u→∃ as,Reads s.heap u (toP d) as
  | n,_,_,u,.non,_,r=>by cases (show u=Value.none from r);exact ⟨_,.none⟩
  | n,_,_,u,.bl b,_,r=>by cases (show u=Value.bool b from r);exact ⟨_,.bool b⟩
  | n,_,_,u,.int i,_,r=>by obtain ⟨t,e⟩:=(show ∃ t,u=Value.int i t from r);subst e;exact ⟨_,.int i t⟩
  | n,_,_,u,.str x,_,r=>by obtain ⟨t,e⟩:=(show ∃ t,u=Value.str x t from r);subst e;exact ⟨_,.str x t⟩
  | n,_,_,u,.ty _,h,_=>by cases n<;>cases h
  | n+1,_,_,u,@Dp.tup _ _ a xs ds q l,h,r=>by
    cases (show u=Value.ref a from r)
    obtain ⟨its,rv,⟨o,e1,e2,k,e3⟩,_⟩:=I.tuple q
    obtain ⟨as,ra⟩:=jD I (n:=n) l h rv
    exact ⟨_,.tuple e1 e2 e3 (by simpa using ra)⟩
  | n+1,_,_,u,@Dp.ls _ _ a xs ds q l,h,r=>by
    cases (show u=Value.ref a from r)
    obtain ⟨its,rv,⟨o,k,e1,e2,_,e3⟩,_⟩:=I.list q.sq
    obtain ⟨as,ra⟩:=jD I (n:=n) l h rv
    exact ⟨_,.list e1 e2 e3 (by simpa using ra)⟩
  | 0,_,_,u,@Dp.tup _ _ a xs ds q l,h,r=>by cases h
  | 0,_,_,u,@Dp.ls _ _ a xs ds q l,h,r=>by cases h
  | n,_,_,u,.obj _,h,_=>by cases n<;>cases h
theorem jD (I:Inv X pins σ H s):∀ {n:Nat} {vs:List V} {ds:List D} {us:List Value},DpL X.K H vs ds→cS n ds=true→Vals vs us→∃ as,ReadsAll s.heap us (kZ ds) as
  | n,_,_,_,.nil,_,.nil=>⟨_,.nil⟩
  | n,_,_,_,@DpL.cons _ _ v d vs ds h l,ho,.cons r rs=>by
    have ho':okD n d=true∧cS n ds=true:=by simpa[cS] using ho
    obtain ⟨as,ra⟩:=fR I h ho'.1 r
    obtain ⟨bs,rb⟩:=jD I l ho'.2 rs
    exact ⟨_,.cons ra rb⟩
end
end
def J9 (K:PySem.W.Frag)(f:Bool→Bool):R2:=fun x y H Q=>∃ dx dy,Dp K H x dx∧Dp K H y dy∧okD 40 dx=true∧okD 40 dy=true∧Q (.bl (f (eqD dx dy))) H
section
variable {X:Cx} {a b c e:Expr} {Ta Tb Tc:ETr} {pos:Pos}
theorem GD (hu:X.A.units+64 < cLine):OpR X (compareOp .Eq) (J9 X.K id):=fun pins s σ H x y v u Q I rx ry ⟨dx,dy,px,py,ox,oy,q⟩=>by
  obtain ⟨as,ra⟩:=fR I px ox rx
  obtain ⟨bs,rb⟩:=fR I py oy ry
  obtain ⟨l1,d1⟩:=i8 40 dx ox
  obtain ⟨l2,d2⟩:=i8 40 dy oy
  exact SeqAt.compareEq_reads ra rb l1 l2 (by have:=Nat.min_le_left (toP dx).depth (toP dy).depth;omega) ⟨.bl _,H,I,rfl,by rw[oH 40 40 dx dy ox oy];exact q⟩
theorem Nu (hu:X.A.units+64 < cLine):OpR X (compareOp .NotEq) (J9 X.K not):=fun pins s σ H x y v u Q I rx ry ⟨dx,dy,px,py,ox,oy,q⟩=>by
  obtain ⟨as,ra⟩:=fR I px ox rx
  obtain ⟨bs,rb⟩:=fR I py oy ry
  obtain ⟨l1,d1⟩:=i8 40 dx ox
  obtain ⟨l2,d2⟩:=i8 40 dy oy
  exact SeqAt.compareNe_reads ra rb l1 l2 (by have:=Nat.min_le_left (toP dx).depth (toP dy).depth;omega) ⟨.bl _,H,I,rfl,by rw[oH 40 40 dx dy ox oy];exact q⟩
theorem Fu {K:PySem.W.Frag}:iu K (J9 K id) rEq:=fun H μ x y dx dy Q Q' m px py h k=>⟨dx,dy,px,py,h.1.1,h.1.2,k _ H _ μ (.refl H) m (.bl _) h.2⟩
theorem Nz {K:PySem.W.Frag}:iu K (J9 K not) rNe:=fun H μ x y dx dy Q Q' m px py h k=>⟨dx,dy,px,py,h.1.1,h.1.2,k _ H _ μ (.refl H) m (.bl _) h.2⟩
theorem le_eq (hu:X.A.units+64 < cLine)(ha:LE X a Ta)(hb:LE X b Tb):LE X (.Compare a [.Eq] [b] pos) (ak rEq Ta Tb):=uK (GD hu) Fu ha hb (hX _)
theorem lt_eq (hu:X.A.units+64 < cLine)(ha:LE X a Ta)(hb:LE X b Tb):LT X (.Compare a [.Eq] [b] pos) (TB (ak rEq Ta Tb)):=gN (GD hu) Fu ha hb (hX _)
theorem yE (hu:X.A.units+64 < cLine)(ha:LE X a Ta)(hb:LE X b Tb):LT X (.Compare a [.NotEq] [b] pos) (TB (ak rNe Ta Tb)):=gN (Nu hu) Nz ha hb (hX _)
theorem GS {K:PySem.W.Frag}:iu K (fun x y H Q=>y=.non∧Q (.bl (decide (x=.non))) H) rIs:=fun H μ x y dx dy Q Q' m px py h k=>by
  cases py with
  | non=>
    refine ⟨rfl,?_⟩
    cases px with
    | non=>exact k _ H _ μ (.refl H) m (.bl _) h
    | _=>exact k _ H _ μ (.refl H) m (.bl _) h
  | _=>exact False.elim h
theorem Q7 (ha:LE X a Ta)(hb:LE X b Tb):LE X (.Compare a [.Is] [b] pos) (ak rIs Ta Tb):=uK Hc GS ha hb (hX _)
theorem nK (ha:LE X a Ta)(hb:LE X b Tb):LT X (.Compare a [.Is] [b] pos) (TB (ak rIs Ta Tb)):=gN Hc GS ha hb (hX _)
theorem J6 {K:PySem.W.Frag}:Q8 K (rU fun i=>.int (-i)) Lr:=fun H μ x dx Q Q' m px h k=>by
  cases px with
  | int i=>exact ⟨i,rfl,k _ H _ μ (.refl H) m (.int _) h⟩
  | _=>exact False.elim h
theorem le_neg (ha:LE X a Ta):LE X (.UnaryOp .USub a pos) (TUn Lr Ta):=Rz Oh J6 ha
theorem lX {o:Option D}{f:D→Prop}(h:kO o f):∃ d,o=some d∧f d:=by
  cases o with
  | none=>exact False.elim h
  | some d=>exact ⟨d,rfl,h⟩
theorem bP {μ:Mu}{a:Addr}{f:List D→Prop}(h:kL μ a f):∃ ds,μ a=some (.lst ds)∧f ds:=by
  unfold kL at h
  cases e:μ a with
  | none=>rw[e] at h;exact False.elim h
  | some o=>cases o with
    | lst ds=>rw[e] at h;exact ⟨ds,rfl,h⟩
    | dct ds=>rw[e] at h;exact False.elim h
theorem uM {μ:Mu}{a:Addr}{f:List (Key×D)→Prop}(h:kD μ a f):∃ ds,μ a=some (.dct ds)∧f ds:=by
  unfold kD at h
  cases e:μ a with
  | none=>rw[e] at h;exact False.elim h
  | some o=>cases o with
    | lst ds=>rw[e] at h;exact False.elim h
    | dct ds=>rw[e] at h;exact ⟨ds,rfl,h⟩
theorem Ho {o:Option Nat}{f:Nat→Prop}(h:kN o f):∃ d,o=some d∧f d:=by
  cases o with
  | none=>exact False.elim h
  | some d=>exact ⟨d,rfl,h⟩
theorem NF {K:PySem.W.Frag}:iu K (L2.rIx K) L3.rIx:=fun H μ x y dx dy Q Q' m px py h k=>by
  cases px with
  | @tup a xs ds q l=>
    cases py with
    | int i=>
      obtain ⟨d,e,h'⟩:=lX h
      obtain ⟨v,e1,p⟩:=l.at e
      exact .inr (.inl ⟨a,xs,i,v,rfl,rfl,q,e1,k _ H _ μ (.refl H) m p h'⟩)
    | _=>exact False.elim h
  | @ls a xs ds q l=>
    cases py with
    | int i=>
      obtain ⟨d,e,h'⟩:=lX h
      obtain ⟨v,e1,p⟩:=l.at e
      exact .inl ⟨a,xs,i,v,rfl,rfl,q.sq,e1,k _ H _ μ (.refl H) m p h'⟩
    | _=>exact False.elim h
  | obj a=>
    cases py with
    | int i=>
      obtain ⟨ds,e0,h1⟩:=bP h
      obtain ⟨d,e,h'⟩:=lX h1
      obtain ⟨xs,ex,l⟩:=m a _ e0
      obtain ⟨v,e1,p⟩:=l.at e
      exact .inl ⟨a,xs,i,v,rfl,rfl,SqL.of ex,e1,k _ H _ μ (.refl H) m p h'⟩
    | _=>exact False.elim h
  | _=>cases py<;>exact False.elim h
theorem aq (ha:LE X a Ta)(hb:LE X b Tb)(hs:Bw b:=by intro _ _;rfl):LE X (.Subscript a b pos) (ak L3.rIx Ta Tb):=by
  obtain ⟨ta,pa,sa⟩:=ha.ex
  obtain ⟨tb,pb,sb⟩:=hb.ex
  exact ⟨_,QG OC pa pb hs,oN NF sa sb⟩
variable {es:List Expr} {At:ATr} {x:Str} {p:Pos} {id T:String}
def lq (K:PySem.W.Frag)(r:List V→Hp→VK→Prop)(R:FSp):Prop:=∀ H μ xs ds (Q:DK) (Q':VK),bO K H μ→DpL K H xs ds→R ds μ Q→jv K H Q Q'→r xs H Q'
theorem sF {K:PySem.W.Frag}{r:List V→Hp→VK→Prop}{R:FSp}{ta:TA}(hr:lq K r R)(ha:RD K ta At):Sim K (tCB r ta) (av R At):=fun σ H ρ μ Q Q' rl h k=>
  ha σ H ρ μ _ _ rl h fun xs H1 ds μ1 t1 m1 p1 h1=>hr H1 μ1 xs ds Q Q' m1 p1 h1 (k.go t1)
theorem aV {r:List V→Hp→VK→Prop}{R:FSp}(hc:cH X (.builtin id) r)(hr:lq X.K r R)(hg:Gl X x)(hm:X.mg x=none)(hv:bootBuiltins x=some (.builtin id))(ha:LA X (e::es) At)(hn:x ≠ "__name__" := by decide)(hdb:(x == ("__debug__" : Str))=false:=by decide)
    (h1:starEach (e::es) X.env=(false,eval e X.env)::starEach es X.env:=by rfl) (h2:(backTo pos (starEach es X.env)).any (·.1)=false:=by rfl):LE X (.Call (.Name x p) (e::es) [] pos) (av R At):=by
  obtain ⟨ta,pa,sa⟩:=ha.ex
  exact ⟨_,qA hc hg hm hv pa hn hdb h1 h2,sF hr sa⟩
theorem aM {r:List V→Hp→VK→Prop}{R:FSp}(hc:cH X (.type T) r)(hr:lq X.K r R)(hg:Gl X x)(hm:X.mg x=none)(hv:bootBuiltins x=some (.type T))(ha:LA X (e::es) At)(hn:x ≠ "__name__" := by decide)(hdb:(x == ("__debug__" : Str))=false:=by decide)
    (h1:starEach (e::es) X.env=(false,eval e X.env)::starEach es X.env:=by rfl) (h2:(backTo pos (starEach es X.env)).any (·.1)=false:=by rfl):LE X (.Call (.Name x p) (e::es) [] pos) (av R At):=by
  obtain ⟨ta,pa,sa⟩:=ha.ex
  exact ⟨_,sT hc hg hm hv pa hn hdb h1 h2,sF hr sa⟩
theorem Mt {n:String}(hg:Gl X x)(hm:X.mg x=none)(hv:bootBuiltins x=some (.type n))(hn:x ≠ "__name__" := by decide)(hd:(x == ("__debug__" : Str))=false:=by decide):LE X (.Name x pos) (TC (.ty n)):=
  ⟨_,BX hg hm hv (v:=.ty n) rfl hn hd,fun σ H ρ μ Q Q' r h k=>k _ H _ μ (.refl H) r.mu (.ty n) h⟩
theorem BG {K:PySem.W.Frag}:lq K (fun xs H Q=>∃ i,xs=[.int i]∧Q (.int (if i < 0 then -i else i)) H) EI:=fun H μ xs ds Q Q' m p h k=>by
  unfold EI at h
  split at h
  · cases p with | cons p1 p2=>cases p2;cases p1;exact ⟨_,rfl,k _ H _ μ (.refl H) m (.int _) h⟩
  · exact False.elim h
theorem xC {K:PySem.W.Frag}:lq K (fun xs H Q=>∃ i j,xs=[.int i,.int j]∧Q (.int (if j > i then j else i)) H) sA:=fun H μ xs ds Q Q' m p h k=>by
  unfold sA at h
  split at h
  · cases p with | cons p1 p2=>cases p2 with | cons p2 p3=>cases p3;cases p1;cases p2;exact ⟨_,_,rfl,k _ H _ μ (.refl H) m (.int _) h⟩
  · exact False.elim h
theorem IA {K:PySem.W.Frag}:lq K (fun xs H Q=>∃ i j,xs=[.int i,.int j]∧Q (.int (if j < i then j else i)) H) sC:=fun H μ xs ds Q Q' m p h k=>by
  unfold sC at h
  split at h
  · cases p with | cons p1 p2=>cases p2 with | cons p2 p3=>cases p3;cases p1;cases p2;exact ⟨_,_,rfl,k _ H _ μ (.refl H) m (.int _) h⟩
  · exact False.elim h
theorem cH.or {f:Value}{r r':List V→Hp→VK→Prop}(h:cH X f r)(h':cH X f r'):cH X f (fun xs H Q=>r xs H Q∨r' xs H Q):=fun pins s σ H xs us Q I rx q=>by
  rcases q with q | q
  · exact h pins s σ H xs us Q I rx q
  · exact h' pins s σ H xs us Q I rx q
theorem bJ {K:PySem.W.Frag}:lq K (fun xs H Q=>(∃ p ys,xs=[.ref p]∧(SqL K H p ys∨SqT K H p ys)∧Q (.int ys.length) H)∨∃ z,xs=[.str z]∧z.length≤sizeLine∧Q (.int z.length) H) eL:=fun H μ xs ds Q Q' m p h k=>by
  unfold eL at h
  split at h
  · cases p with | cons p1 p2=>cases p2;cases p1 with | tup q l=>exact .inl ⟨_,_,rfl,.inr q,k _ H _ μ (.refl H) m (by rw[l.length];exact .int _) h⟩
  · cases p with | cons p1 p2=>cases p2;cases p1 with | ls q l=>exact .inl ⟨_,_,rfl,.inl q.sq,k _ H _ μ (.refl H) m (by rw[l.length];exact .int _) h⟩
  · cases p with | cons p1 p2=>cases p2;cases p1;exact .inr ⟨_,rfl,big h.1,k _ H _ μ (.refl H) m (.int _) h.2⟩
  · rename_i a
    cases p with | cons p1 p2=>
    cases p2;cases p1
    obtain ⟨ys,e0,h⟩:=bP h
    obtain ⟨xs,ex,l⟩:=m a _ e0
    exact .inl ⟨_,_,rfl,.inl (SqL.of ex),k _ H _ μ (.refl H) m (by rw[l.length];exact .int _) h⟩
  · exact False.elim h
theorem a8:cH X (.builtin "len") (fun xs H Q=>(∃ p ys,xs=[.ref p]∧(SqL X.K H p ys∨SqT X.K H p ys)∧Q (.int ys.length) H)∨∃ z,xs=[.str z]∧z.length≤sizeLine∧Q (.int z.length) H):=cH.or u6 tX
end
end
section
open PySem PySem.Spec PyProof.Rows L2
def tys:List String:=["NoneType", "bool", "int", "str", "tuple", "list"]
def wM:List String:=["bool", "int", "str", "tuple", "list", "dict"]
theorem Bm (K:PySem.W.Frag):∀ t∈tys,∀ c∈wM,PySem.W.kitOne K (.type t) (.type c)=some (ft t c):=by
  intro t ht c hc
  simp only[tys,List.mem_cons,List.not_mem_nil,or_false] at ht
  simp only[wM,List.mem_cons,List.not_mem_nil,or_false] at hc
  rcases ht with rfl | rfl | rfl | rfl | rfl | rfl<;>rcases hc with rfl | rfl | rfl | rfl | rfl | rfl<;>with_unfolding_all rfl
theorem Gk {d:D}{t:String}(h:tyD d=some t):t∈tys:=by
  cases d<;>simp[tyD] at h<;>subst h<;>decide
def RJ (K:PySem.W.Frag):List V→Hp→VK→Prop:=fun xs H Q=>∃ x d t c,xs=[x,.ty c]∧Dp K H x d∧tyD d=some t∧c∈wM∧Q (.bl (ft t c)) H
theorem Ge {X:Cx}:cH X (.builtin "isinstance") (RJ X.K):=fun pins s σ H xs us Q I rx ⟨x,d,t,c,ex,px,et,hc,q⟩=>by
  subst ex
  cases rx with | @cons _ u _ _ r1 r2=>cases r2 with | cons r2 r3=>
  cases r3
  cases (show _=Value.type c from r2)
  have e:=Bm X.K t (Gk et) c hc
  have fin:∀ tk,EP X pins σ Q (.bool (ft t c)) { s with toks:=tk }:=fun tk=>⟨.bl _,H,I.tok tk,rfl,q⟩
  cases px with
  | non=>cases et;cases (show u=Value.none from r1);exact PySem.W.kia_one PySem.W.kitx_none I.kIn True.intro e (fun z=>nomatch z) fin
  | bl y=>cases et;cases (show u=Value.bool y from r1);exact PySem.W.kia_one PySem.W.kitx_bool I.kIn True.intro e (fun z=>nomatch z) fin
  | int i=>cases et;obtain ⟨t,z⟩:=(show ∃ t,u=Value.int i t from r1);cases z;exact PySem.W.kia_one PySem.W.kitx_int I.kIn True.intro e (fun z=>nomatch z) fin
  | str y=>cases et;obtain ⟨t,z⟩:=(show ∃ t,u=Value.str y t from r1);cases z;exact PySem.W.kia_one PySem.W.kitx_str I.kIn True.intro e (fun z=>nomatch z) fin
  | ty _=>cases et
  | obj _=>cases et
  | @tup a xs ds sq l=>
    cases et
    cases (show u=Value.ref a from r1)
    obtain ⟨its,_,⟨o,h1,h2,_⟩,_⟩:=I.tuple sq
    exact PySem.W.kia_one PySem.W.kitx_tuple I.kIn ⟨o,h1,h2⟩ e (fun z=>nomatch z) fin
  | @ls a xs ds sq l=>
    cases et
    cases (show u=Value.ref a from r1)
    obtain ⟨its,_,⟨o,n,h1,h2,_⟩,_⟩:=I.list sq.sq
    exact PySem.W.kia_one PySem.W.kitx_list I.kIn ⟨o,h1,h2⟩ e (fun z=>nomatch z) fin
theorem gB {X:Cx}{x y:Str}{p p2 pos:Pos}{c:String}{e:Expr}{Ta:ETr}(hg:Gl X x)(hm:X.mg x=none)(hv:bootBuiltins x=some (.builtin "isinstance"))(ha:LE X e Ta)(hg2:Gl X y)(hm2:X.mg y=none)(hv2:bootBuiltins y=some (.type c))(hc:c∈wM:=by decide)
    (hn:x ≠ "__name__" := by decide) (hdb:(x == ("__debug__" : Str))=false:=by decide) (hn2:y ≠ "__name__" := by decide) (hdb2:(y == ("__debug__" : Str))=false:=by decide)
    (h0:starEach [.Name y p2] X.env=[(false,eval (.Name y p2) X.env)]:=by rfl) (h1:starEach (e::[.Name y p2]) X.env=(false,eval e X.env)::starEach [.Name y p2] X.env:=by rfl) (h2:(backTo pos (starEach [.Name y p2] X.env)).any (·.1)=false:=by rfl) :
    LE X (.Call (.Name x p) [e,.Name y p2] [] pos) (TUn (gG c) Ta):=by
  obtain ⟨ta,pa,sa⟩:=ha.ex
  refine ⟨_,qA Ge hg hm hv (ff pa (ff (BX hg2 hm2 hv2 (v:=.ty c) rfl hn2 hdb2) i9 h0) h1) hn hdb h1 h2,fun σ H ρ μ Q Q' rl h k=>sa σ H ρ μ _ _ rl h fun v H1 d μ1 t1 m1 p1 h1=>?_⟩
  have h1':(match tyD d with | some t=>Q (.bl (ft t c)) μ1 | none=>False):=h1
  cases et:tyD d with
  | none=>rw[et] at h1';exact False.elim h1'
  | some t=>rw[et] at h1';exact ⟨v,d,t,c,rfl,p1,et,hc,k _ H1 _ μ1 t1 m1 (.bl _) h1'⟩
section
variable {X:Cx} {a b c e tg o:Expr} {Ta Tb Tc:ETr} {pos:Pos} {es:List Expr} {At:ATr} {x:Str} {p:Pos} {id T:String} {st:Stmt} {rest:List Stmt} {T1 T2:STr} {tA:TTr}
theorem aZ:LSs X [] bH:=⟨_,KP,fun σ H ρ μ E E' rl h k=>k.nx _ _ _ _ (.refl H) rl h⟩
theorem aj (h1:LS X st T1)(h2:LSs X rest T2):LSs X (st::rest) (aD T1 T2):=by
  obtain ⟨t1,p1,s1⟩:=h1.ex
  obtain ⟨t2,p2,s2⟩:=h2.ex
  exact ⟨_,ID p1 p2,fun σ H ρ μ E E' rl h k=>s1 σ H ρ μ _ _ rl h ⟨fun σ' H' ρ' μ' t' r' q=>s2 σ' H' ρ' μ' E E' r' q (k.go t'),k.rt,k.bk,k.ct⟩⟩
theorem ax (h1:LS X st T1):LSs X [st] T1:=by
  obtain ⟨t1,p1,s1⟩:=h1.ex
  exact ⟨_,Kt p1,s1⟩
theorem cf (he:LE X e Ta)(hs:swapsWith e none pos.line X.env=pure false:=by rfl):LS X (.Expr e pos) (dW Ta):=by
  obtain ⟨ta,pa,sa⟩:=he.ex
  exact ⟨_,KO pa hs,fun σ H ρ μ E E' rl h k=>sa σ H ρ μ _ _ rl h fun v H' d μ' t' m' p' h'=>k.nx _ _ _ _ t' (rl.go t' m') h'⟩
theorem aG (he:LE X e Ta):LS X (.Return (some e) pos) (aY Ta):=by
  obtain ⟨ta,pa,sa⟩:=he.ex
  exact ⟨_,Oc pa,fun σ H ρ μ E E' rl h k=>sa σ H ρ μ _ _ rl h k.rt⟩
theorem bT {sa sb:List Stmt}(hc:LT X c tA)(ha:LSs X sa T1)(hb:LSs X sb T2):LS X (.If c sa sb pos) (c7 tA T1 T2):=by
  obtain ⟨tc,pc,sc⟩:=hc.ex
  obtain ⟨t1,p1,s1⟩:=ha.ex
  obtain ⟨t2,p2,s2⟩:=hb.ex
  refine ⟨_,QI pc p1 p2,fun σ H ρ μ E E' rl h k=>sc σ H ρ μ _ _ rl h fun q H1 μ1 t1' m1 h1=>?_⟩
  cases q with
  | true=>exact ro (s1 σ H1 ρ μ1 E E' (rl.go t1' m1) h1 (k.go t1'))
  | false=>exact qX (s2 σ H1 ρ μ1 E E' (rl.go t1' m1) h1 (k.go t1'))
theorem iJ {K:PySem.W.Frag}(i:Nat):Ol K (kM i) (aw i):=fun σ H ρ μ v d k k' rl p h q=>q _ _ _ _ (.refl H) (rl.set p i) h
theorem dB (i:Nat)(hN:X.N.Nodup)(hi:X.N[i]? = some x:=by rfl)(hx:Loc X.env.scope x:=by first | exact Or.inl rfl | exact Or.inr rfl)(hf:X.fn x=true∨X.env.scope.names.lookup x=some .local:=by first | exact .inl rfl | exact .inr rfl | assumption):LG X (.Name x pos) (aw i):=
  ⟨_,iK hN hi hx hf,iJ i⟩
theorem aA (i:Nat){pos':Pos}(hN:X.N.Nodup)(he:LE X e Ta)(hi:X.N[i]? = some x:=by rfl)(hx:Loc X.env.scope x:=by first | exact Or.inl rfl | exact Or.inr rfl)(hs:swapsWith e (some (.Name x pos')) pos.line X.env=pure false:=by rfl)
    (hf:X.fn x=true∨X.env.scope.names.lookup x=some .local:=by first | exact .inl rfl | exact .inr rfl | assumption):LS X (.Assign [.Name x pos'] e pos) (aN Ta (aw i)):=by
  obtain ⟨ta,pa,sa⟩:=he.ex
  exact ⟨_,N7 hN hi hx pa hs hf,fun σ H ρ μ E E' rl h k=>sa σ H ρ μ _ _ rl h fun v H' d μ' t' m' p' h'=>iJ i σ H' ρ μ' v d _ _ (rl.go t' m') p' h' (k.go t').nx⟩
theorem A0 (i j:Nat){y:Str}{px py pt:Pos}{kt k2 pt2}(hc:X.calm=true)(hN:X.N.Nodup)(ha:LA X [a,b] At)(hi:X.N[i]? = some x:=by rfl)(hj:X.N[j]? = some y:=by rfl)(hij:i≠j:=by decide)
    (hx:X.env.scope.names.lookup x=some .local:=by rfl) (hy:X.env.scope.names.lookup y=some .local:=by rfl)
    (hw:swappedStores [.Tuple [.Name x px,.Name y py] kt pt] (.Tuple [a,b] k2 pt2) X.env=pure (some [x,y]):=by rfl)
    (hs:swapsWithSole [.Tuple [.Name x px,.Name y py] kt pt] (.Tuple [a,b] k2 pt2) pos.line X.env=pure false:=by rfl) :
    LS X (.Assign [.Tuple [.Name x px,.Name y py] kt pt] (.Tuple [a,b] k2 pt2) pos) (xE i j At):=by
  obtain ⟨ta,pa,sa⟩:=ha.ex
  refine ⟨_,M9 hc hN hi hj hij hx hy pa hw hs,fun σ H ρ μ E E' rl h k=>sa σ H ρ μ _ _ rl h fun vs H' ds μ' t' m' p' h'=>?_⟩
  unfold L3.k2 at h'
  split at h'
  · rename_i dv dw
    cases p' with | cons p1 p2=>cases p2 with | cons p2 p3=>
    cases p3
    exact ⟨_,_,rfl,k.nx _ _ _ _ t' (((rl.go t' m').set p1 i).set p2 j) h'⟩
  · exact False.elim h'
theorem ri {body:List Stmt}(hp:PassesOwn (model X.prog X.w) X.A X.env X.xe)(hc:LT X c tA)(hb:LSs X body T1):LS X (.While c body [] pos) (uH tA T1):=by
  obtain ⟨tc,pc,sc⟩:=hc.ex
  obtain ⟨t1,p1,s1⟩:=hb.ex
  refine ⟨_,Ib hp pc p1,fun σ H ρ μ E E' rl h k=>?_⟩
  obtain ⟨P,m,h0,hs⟩:=h
  refine ⟨fun n σ' H'=>∃ ρ' μ',Tk H H'∧Rl X.K σ' H' ρ' μ'∧P ρ' μ'∧n=m ρ' μ',⟨_,ρ,μ,.refl H,rl,h0,rfl⟩,?_⟩
  rintro n σ1 H1 ⟨ρ1,μ1,t1',rl1,hP,rfl⟩
  refine sc σ1 H1 ρ1 μ1 _ _ rl1 (hs ρ1 μ1 hP) fun q H2 μ2 t2 m2 h2=>?_
  have t12:=t1'.trans t2
  cases q with
  | true=>
    refine ro ⟨fun σ' H'=>∃ ρ' μ',Tk H H'∧Rl X.K σ' H' ρ' μ'∧P ρ' μ'∧m ρ' μ' < m ρ1 μ1,fun σ' H' ⟨ρ',μ',a1,a2,a3,a4⟩=>⟨_,a4,ρ',μ',a1,a2,a3,rfl⟩,?_⟩
    have h2':=h2
    refine s1 σ1 H2 ρ1 μ2 _ _ (rl1.go t2 m2) h2' ⟨fun σ' H' ρ' μ' t' r' q=>⟨ρ',μ',t12.trans t',r',q.1,q.2⟩,(k.go t12).rt,(k.go t12).nx,fun σ' H' ρ' μ' t' r' q=>⟨ρ',μ',t12.trans t',r',q.1,q.2⟩⟩
  | false=>exact qX (k.nx _ _ _ _ t12 (rl1.go t2 m2) h2)
theorem nB (lo:Int)(n:Nat):cL lo (n+1)=.int lo::cL (lo+1) n:=by
  unfold cL
  rw[List.range_succ_eq_map]
  rw[List.map_cons,List.map_map]
  congr 1
  · simp
  · refine List.map_congr_left fun i _=>?_
    show D.int _=D.int _
    congr 1
    show lo+((i+1:Nat):Int)=lo+1+(i:Int)
    omega
end
def lift (K:PySem.W.Frag)(sp:FSp):Sp:=fun vs H Q _=>∃ ds μ QQ,DpL K H vs ds∧bO K H μ∧sp ds μ QQ∧jv K H QQ Q
def RT (Q:DK):DK:=fun d μ'=>∃ μ,Sub μ μ'∧Q d μ
def ini (n:Nat)(ds:List D):ST:=ds.map some++List.replicate (n - ds.length) none
theorem Qg:∀ (ds:List D) (n i:Nat) (d:D),lk (ini n ds) i=some d→ds[i]? = some d:=by
  intro ds
  have rep:∀ m i (d:D),lk (List.replicate m none) i=some d→False:=by
    intro m
    induction m with
    | zero=>intro i d h;cases i<;>cases h
    | succ m ih=>intro i d h;cases i with
      | zero=>cases h
      | succ i=>exact ih i d h
  have gen:∀ (ds:List D) m i d,lk (ds.map some++List.replicate m none) i=some d→ds[i]? = some d:=by
    intro ds
    induction ds with
    | nil=>intro m i d h;exact (rep m i d h).elim
    | cons x r ih=>intro m i d h;cases i with
      | zero=>simpa[lk] using h
      | succ i=>simpa using ih m i d h
  exact fun n i d h=>gen ds _ i d h
section
variable {P:Program} {w:World} {K:PySem.W.Frag} {mg:Str→Option Value} {base:Heap}
theorem FO {x qual:Str}{st:Stmt}{f:Addr}{fd:FuncData}{N ps:List Str}{k:Nat}{sp:FSp}{T:STr}(F:Fun K x qual st f fd)(S:aI N ps (au st))(len:∀ ds μ Q,sp ds μ Q→ds.length=ps.length)
    (hb:∀ (cdv:Value) (A:Around) (outer:List Env) (s:Shared) (H:Hp) (E:XK),fT k (A.deeper (envOfC qual (au st) s.heap.objs.size f cdv))→
      LSs (vK CX0 P w K mg base N qual (au st) f cdv A outer s H E).nox (gY st) T)
    (hr:∀ ds μ Q,sp ds μ Q→T { nx:=fun _ μ'=>RT Q .non μ',rt:=RT Q } (ini N.length ds) μ):ik P w K mg base CX0 (k+1) f fd ps (lift K sp):=by
  refine F.ok S (fun vs H Q E h=>?_) (fun cdv A outer s H vs Q E hroom h=>?_)
  · obtain ⟨ds,μ,QQ,l,m,h1,k⟩:=h
    rw[l.length];exact len ds μ QQ h1
  · obtain ⟨ds,μ,QQ,l,m,h1,k⟩:=h
    obtain ⟨t,pt,stt⟩:=(hb cdv A outer s H E hroom).ex
    have hl:vs.length=ds.length:=l.length
    refine ⟨t,pt,stt (L2.start N vs) H (ini N.length ds) μ _ _ ⟨?_,fun i d e=>?_,m⟩ (hr ds μ QQ h1) ⟨fun σ' H' ρ' μ' t' r' q=>?_,fun v H' d μ' t' m' p' q=>?_,fun _ _ _ _ _ _ q=>q,fun _ _ _ _ _ _ q=>q⟩⟩
    · unfold ini L2.start;simp[hl]
    · have e':=Qg ds _ i d e
      obtain ⟨v,e1,p⟩:=l.get e'
      refine ⟨v,?_,p⟩
      unfold L2.start
      have hi:i < vs.length:=(List.getElem?_eq_some_iff.mp e1).1
      rw[List.getElem?_append_left (by simpa using hi),List.getElem?_map,e1]
      rfl
    · obtain ⟨μ2,s2,q2⟩:=q
      exact k _ _ _ μ2 t' (r'.mu.sub s2) .non q2
    · obtain ⟨μ2,s2,q2⟩:=q
      exact k _ _ _ μ2 t' (m'.sub s2) p' q2
end
section
variable {X:Cx} {k:Nat} {f:Addr} {fd:FuncData} {ps:List Str} {sp:FSp} {x:Str} {p pos:Pos} {e:Expr} {es:List Expr} {At:ATr}
theorem BL (F:ik X.prog X.w X.K X.mg X.base CX0 k f fd ps (lift X.K sp))(hr:fT k X.A)(hg:Gl X x)(hm:X.mg x=some (.ref f))(hk:PySem.W.keepIn X.K (.ref f)=true)(hb:Binds X.K fd ps [])
    (ha:LA X (e::es) At) (hdb:(x == ("__debug__" : Str))=false:=by decide) (he:starEach (e::es) X.env=(false,eval e X.env)::starEach es X.env:=by rfl) (hpl:(backTo pos (starEach es X.env)).any (·.1)=false:=by rfl) :
    LE X (.Call (.Name x p) (e::es) [] pos) (av sp At):=by
  obtain ⟨ta,pa,sa⟩:=ha.ex
  refine ⟨_,KJ F hr hg hm hk hb .nil RI pa hdb he hpl,fun σ H ρ μ Q Q' rl h k=>sa σ H ρ μ _ _ rl h fun xs H1 ds μ1 t1 m1 p1 h1=>?_⟩
  rw[List.append_nil]
  exact ⟨ds,μ1,Q,p1,m1,h1,k.go t1⟩
end
end
section
open PySem PySem.Spec PyProof.Rows L2
theorem DpL.ints {K:PySem.W.Frag}{H:Hp}:∀ ns:List Int,DpL K H (ns.map V.int) (ns.map D.int)
  | []=>.nil
  | n::r=>.cons (.int n) (DpL.ints r)
theorem SqF.only {K:PySem.W.Frag}{H:Hp}{a:Addr}{xs:List V}(hO:Jk H)(h:SqL K H a xs):SqF K H a xs:=by
  rcases h with (h | h) | h
  · rcases hO a with z | ⟨o,ys,z⟩
    · rw[h] at z;cases z
    · rw[h] at z;cases z
  · exact .inl h
  · exact .inr h
theorem RW {l:PySem.W.OpenLaw}{k:Nat}{q:Program}{loose:List Str}{XP:(Str→Option Value)→Heap→Prop}{YP:World→Heap→Prop}{d:DefRec}{K:Params→PySem.W.Frag}{sp:FSp}{x:Str}
    (hn:l.most=some 63) (hdf:d.params.defaults=[]) (hr:fT k callerA) (hY:∀ (w:World) (h:Heap),YP w h→(K w.params).In h)
    (hl:∀ ns:List Int,ns.length≤63→∀ μ,sp [.ls (ns.map .int)] μ (fun d _=>d=.bl true))
    (F:∀ (w:World) (mg:Str→Option Value) (fa:Addr) (h:Heap),(K w.params).In h→h.Ns mainGlobals mg→mg d.name=some (.ref fa)→
      ∃ fd:FuncData,(∀ (s:Shared) (u:Value),BindsTo s fd ⟨[u],[]⟩ [(x,u)])∧∀ base:Heap,(K w.params).In base→base.Ns mainGlobals mg→ik l.prog w (K w.params) mg base CX0 k fa fd [x] (lift (K w.params) sp)) :
    PySem.W.WalkO q loose XP YP l.row.toRowW d [] (fun f vs=>PySem.call f vs):=
  L2.K1 (n:=63) (k:=k) (x:=x) (CX:=fun _=>CX0) (sp:=fun w=>lift (K w.params) sp) hn (by decide) hdf hr hY F
    (fun w H a ns hl' hO hS=>⟨[.ls (ns.map .int)],fun _=>none,_,.cons (.ls (.only hO hS) (.ints ns)) .nil,(fun a o e=>by cases e),hl ns hl' _,fun v H' d μ' _ _ p e=>by
      have e':d=.bl true:=e
      subst e'
      cases p;rfl⟩) fun _ _ _ _ _ z=>z
end
section
open PySem PySem.Spec PyProof.Rows L2
structure aR (P:Program) (w:World) (K:PySem.W.Frag) (mg:Str→Option Value) (base:Heap) (k:Nat) (x:Str) (ps:List Str) (sp:FSp):Prop where
  ex:∃ f fd,ik P w K mg base CX0 k f fd ps (lift K sp)∧mg x=some (.ref f)∧PySem.W.keepIn K (.ref f)=true∧Binds K fd ps []
section
variable {P:Program} {w:World} {K:PySem.W.Frag} {mg:Str→Option Value} {base:Heap}
theorem aL {x qual:Str}{st:Stmt}{f:Addr}{fd:FuncData}{N ps:List Str}{k:Nat}{sp:FSp}{T:STr}(m:mg x=some (.ref f))(F:Fun K x qual st f fd)(S:aI N ps (au st))(len:∀ ds μ Q,sp ds μ Q→ds.length=ps.length)
    (hr:∀ ds μ Q,sp ds μ Q→T { nx:=fun _ μ'=>RT Q .non μ',rt:=RT Q } (ini N.length ds) μ)
    (b:∀ (kV doc pm:Value) (an:Option Addr) (cdv ct:Value) (us:List Value),us.length=ps.length→bindArgs (PySem.W.fnOf x qual (lr st) (gY st) (au st) .none kV doc pm an cdv ct) ⟨us,[]⟩=pure (ps.zip us))
    (hb:∀ (cdv:Value) (A:Around) (outer:List Env) (s:Shared) (H:Hp) (E:XK),fT k (A.deeper (envOfC qual (au st) s.heap.objs.size f cdv))→(A.deeper (envOfC qual (au st) s.heap.objs.size f cdv)).units+64 < cLine→
      LSs (vK CX0 P w K mg base N qual (au st) f cdv A outer s H E).nox (gY st) T):aR P w K mg base (k+1) x ps sp:=
  ⟨f,fd,FO F S len (fun cdv A outer s H E h=>hb cdv A outer s H E h h.units) hr,m,F.kp,F.binds b⟩
end
theorem ao {X:Cx}{k n:Nat}{x:Str}{ps:List Str}{sp:FSp}{e:Expr}{es:List Expr}{At:ATr}{p pos:Pos}(C:aR X.prog X.w X.K X.mg X.base k x ps sp)(hr:fT n X.A)(hg:Gl X x)
    (ha:LA X (e::es) At) (hle:k≤n:=by decide) (hdb:(x == ("__debug__" : Str))=false:=by decide) (he:starEach (e::es) X.env=(false,eval e X.env)::starEach es X.env:=by rfl) (hpl:(backTo pos (starEach es X.env)).any (·.1)=false:=by rfl) :
    LE X (.Call (.Name x p) (e::es) [] pos) (av sp At):=by
  obtain ⟨f,fd,F,m,kp,b⟩:=C.ex
  exact BL F (hr.mono hle) hg m kp b ha hdb he hpl
end
section
open PySem PySem.Spec PyProof.Rows L2
def ba (X:Cx)(scope:Scope)(Nc:List Str)(cl:List (Str×Addr))(C:Addr)(s₀:Shared)(H₀:Hp)(ex:List Addr):Cx:=
  { X with env:=compEnvC scope cl C X.env,N:=Nc,s₀:=s₀,H₀:=H₀,outer:=X.stack,ex:=ex,fn:=fun _=>false,pn:=[] }
theorem zM {scope:Scope}{env:Env}(h:∀ y∈scope.names,y.2=.free→∃ c,env.cells.lookup y.1=some c) :
    ∃ cl,closureFor scope env=pure cl∧(∀ x c,cl.lookup x=some c→env.cells.lookup x=some c)∧∀ y∈scope.names,y.2=.free→∃ c,cl.lookup y.1=some c:=by
  have gen:∀ (ns:List (Str×NameKind)) (cs:List (Str×Addr)),(∀ y∈ns,y.2=.free→∃ c,env.cells.lookup y.1=some c)→(∀ x c,cs.lookup x=some c→env.cells.lookup x=some c)→
      ∃ cl,(forIn ns cs fun x r=>if (x.2 == NameKind.free)=true then do let c ← cellOf env x.1;pure (ForInStep.yield ((x.1,c)::r)) else pure (ForInStep.yield r):Sem _)=pure cl∧(∀ x c,cl.lookup x=some c→env.cells.lookup x=some c)∧
        (∀ x,(cs.lookup x).isSome=true→(cl.lookup x).isSome=true)∧∀ y∈ns,y.2=.free→∃ c,cl.lookup y.1=some c:=by
    intro ns
    induction ns with
    | nil=>intro cs _ h2;exact ⟨cs,rfl,h2,fun _ z=>z,fun _ z=>nomatch z⟩
    | cons y r ih=>
      intro cs h1 h2
      obtain ⟨n,k⟩:=y
      by_cases hk:k=.free
      · subst hk
        obtain ⟨c,hc⟩:=h1 (n,.free) List.mem_cons_self rfl
        have h2':∀ x c',((n,c)::cs).lookup x=some c'→env.cells.lookup x=some c':=fun x c' e=>by
          rw[List.lookup_cons] at e
          split at e
          · rename_i hx
            cases e
            have:x=n:=by simpa using hx
            subst this;exact hc
          · exact h2 x c' e
        obtain ⟨cl,e1,e2,e3,e4⟩:=ih ((n,c)::cs) (fun y hy=>h1 y (List.mem_cons_of_mem _ hy)) h2'
        refine ⟨cl,?_,e2,fun x hx=>e3 x ?_,fun y hy hf=>?_⟩
        · rw[List.forIn_cons]
          have:cellOf env n=pure c:=by unfold cellOf;rw[hc]
          simp only[beq_self_eq_true,if_true,this,pure_bind]
          exact e1
        · rw[List.lookup_cons];split
          · rfl
          · exact hx
        · obtain rfl | hy:=List.mem_cons.mp hy
          · have:(cl.lookup n).isSome=true:=e3 n (by simp[List.lookup_cons])
            exact Option.isSome_iff_exists.mp this
          · exact e4 y hy hf
      · obtain ⟨cl,e1,e2,e3,e4⟩:=ih cs (fun y hy=>h1 y (List.mem_cons_of_mem _ hy)) h2
        refine ⟨cl,?_,e2,e3,fun y hy hf=>?_⟩
        · rw[List.forIn_cons]
          have:(k == NameKind.free)=false:=by simpa using hk
          simp only[this,Bool.false_eq_true,if_false,pure_bind]
          exact e1
        · obtain rfl | hy:=List.mem_cons.mp hy
          · exact absurd hf hk
          · exact e4 y hy hf
  obtain ⟨cl,e1,e2,_,e4⟩:=gen scope.names [] h fun x c e=>by cases e
  refine ⟨cl,?_,e2,e4⟩
  show ((forIn scope.names ([]:List (Str×Addr)) fun x r=>if (x.2 == NameKind.free)=true then do let c ← cellOf env x.1;pure (ForInStep.yield ((x.1,c)::r)) else pure (ForInStep.yield r):Sem _) >>= fun s=>pure s)=pure cl
  rw[e1]
  rfl
def yg (Y:Cx)(ifs:List Expr)(t:TT):Prop:=
  ∀ (pins:List (Addr×Obj)) (s:Shared) (σ:L2.St) (H:Hp) (Q:Bool→Hp→Prop),Inv Y pins σ H s→t σ H Q→
    wpAny (model Y.prog Y.w) Y.A (forIn ifs true fun c r=>if r=true then do let ok ← isTrue c Y.env (eval c Y.env);pure (ForInStep.yield ok) else pure (ForInStep.yield r)) (TP Y pins σ Q) Y.xe s
def Tu:TT:=fun _ H Q=>Q true H
theorem Ly {Y:Cx}:yg Y [] Tu:=fun pins s σ H Q I h=>wpAny_tests_nil ⟨H,I,h⟩
theorem Kv {Y:Cx}{c:Expr}{t:TT}(h:PT Y c t):yg Y [c] t:=fun pins s σ H Q I hh=>wpAny_tests_one (h pins s σ H Q I hh)
def kc (σ:L2.St)(n:Nat)(caps:List Nat):L2.St:=List.replicate n none++caps.map fun i=>(σ[i]?).join
def Wk (σ' σ:L2.St):Prop:=σ'.length=σ.length∧∀ (i:Nat) v,σ'[i]? = some (some v)→σ[i]? = some (some v)
def kj (wi:TI)(g:TG)(tt:TT)(te:TE)(n:Nat)(caps:List Nat):TE:=fun σ H Q=>wi σ H fun J H1=>∀ D,H1 D=none→
  ∃ W:Nat→Nat→List V→Hp→Prop,(∃ m,W 0 m [] (L2.upd H1 D (.lst [])))∧∀ i m ys H2,W i m ys H2→
    (J.stop i H2∧Q (.ref D) H2)∨(J.go i H2∧∃ N:List V→Hp→Prop,(∀ ys' H',N ys' H'→∃ m',m' < m∧W (i+1) m' ys' H')∧
      ∀ x H3,J.yld i H2 x H3→g x (kc σ n caps) H3 fun σ4 H4=>Wk (kc σ n caps) σ4∧tt σ4 H4 fun b H5=>if b=true then te σ4 H5 fun y H6=>∃ zs,H6 D=some (.lst zs)∧zs.length < sizeLine∧N (zs++[y]) (L2.upd H6 D (.lst (zs++[y]))) else N ys H5)
theorem Dt {prog:Program}{w:World}{A:Around}{R:Result→Shared→Prop}{s:Shared}{elt target iter:Expr}{ifs:List Expr}{scope:Scope}{pos:Pos}{it acc:Value}{env:Env}(J:Nat→Shared→Prop)
    (turn:∀ n s,J n s→wpAny (model prog w) A (pyNext it) (fun o t₁=>match o with
      | none=>R (.ok .next) t₁
      | some v=>wpAny (model prog w) A (letOwnedTupleGo target it v) (fun _ t₁=>wpAny (model prog w) A (assign target env v) (fun _ t₂=>
          wpAny (model prog w) A (forIn ifs true fun c r=>
            if r=true then do let ok ← isTrue c env (eval c env);pure (ForInStep.yield ok) else pure (ForInStep.yield r)) (fun ok t₃=>
            if ok=true then wpAny (model prog w) A (eval elt env) (fun x t₄=>
              wpAny (model prog w) A (call (.builtin "list.append") [acc,x]) (fun _ t₅=>∃ m,m < n∧J m t₅) (fun _ _=>False) t₄) (fun _ _=>False) t₃
            else ∃ m,m < n∧J m t₃) (fun _ _=>False) t₂) (fun _ _=>False) t₁) (fun _ _=>False) t₁) (fun _ _=>False) s)
    (n:Nat) (h:J n s):codeAny (model prog w) A (.compLoop (.ListComp elt [⟨target,iter,ifs,0⟩] scope pos) 0 it acc env) R s:=by
  refine codeAny_loop rfl J (fun n s hJ=>?_) n h
  show wpAny _ A ((compTurn (.ListComp elt [⟨target,iter,ifs,0⟩] scope pos) 0 it acc env).onRaise
    (fun x=>do noteFrame x env;theTreesLotGoes x)) _ _ s
  refine wpAny_noted ?_
  rw[compTurn_list]
  refine wpAny_bind (wpAny_standAt (wpAny_bind (wpAny_mono (turn n s hJ) (fun r t₁ g₁=>?_) fun _ _ h'=>h'.elim)))
  cases r with
  | none=>exact wpAny_pure g₁
  | some v=>
    refine wpAny_bind (wpAny_mono g₁ (fun _ t₁' g₁'=>?_) fun _ _ h'=>h'.elim)
    refine wpAny_bind (wpAny_mono g₁' (fun _ t₂ g₂=>wpAny_bind (wpAny_mono g₂ (fun ok t₃ g₃=>?_) fun _ _ h'=>h'.elim)) fun _ _ h'=>h'.elim)
    cases ok with
    | false=>exact wpAny_pure ⟨rfl,g₃⟩
    | true=>
      exact wpAny_bind (wpAny_bind (wpAny_mono g₃ (fun x t₄ g₄=>wpAny_bind (wpAny_mono g₄ (fun _ t₅ g₅=>wpAny_pure (wpAny_pure ⟨rfl,g₅⟩)) fun _ _ h'=>h'.elim)) fun _ _ h'=>h'.elim))
theorem jA {σ:L2.St}{n:Nat}{caps:List Nat}{i:Nat}{v:V}(h:(kc σ n caps)[i]? = some (some v)):∃ j k,i=n+j∧caps[j]? = some k∧σ[k]? = some (some v):=by
  unfold kc at h
  by_cases hi:i < n
  · rw[List.getElem?_append_left (by simpa using hi),List.getElem?_replicate,if_pos hi] at h
    cases h
  · rw[List.getElem?_append_right (by simpa using hi)] at h
    rw[List.length_replicate,List.getElem?_map] at h
    cases e:caps[i - n]? with
    | none=>rw[e] at h;cases h
    | some k=>
      rw[e] at h
      have h':(σ[k]?).join=some v:=Option.some.inj h
      cases e2:σ[k]? with
      | none=>rw[e2] at h';cases h'
      | some o=>
        rw[e2] at h'
        have h'':o=some v:=h'
        subst h''
        exact ⟨i - n,k,by omega,e,e2⟩
theorem f6 {env:Env}(hk:env.scope.kind=.function):∀ {names:List (Str×NameKind)} {x:Str},env.kindOf x=some .cell→names.lookup x=some .free→
    (names.map fun (n,k)=>if (k == NameKind.free&&env.scope.kind == .function&&env.kindOf n == some .cell) then (n,NameKind.cell) else (n,k)).lookup x=some .cell
  | [],_,_,h=>by simp at h
  | (n,k)::r,x,hc,h=>by
    have ih:=@f6 env hk r x hc
    show List.lookup x ((if (k == NameKind.free&&env.scope.kind == .function&&env.kindOf n == some .cell)=true
      then (n,NameKind.cell) else (n,k))::_)=_
    cases hx:x == n with
    | true=>
      simp only[hx,List.lookup_cons] at h
      cases h
      have e:x=n:=by simpa using hx
      subst e
      simp[List.lookup_cons,hk,hc]
    | false=>
      simp only[hx,List.lookup_cons] at h
      by_cases hcc:(k == NameKind.free&&env.scope.kind == .function&&env.kindOf n == some .cell)=true
      · rw[if_pos hcc];simp only[List.lookup_cons,hx];exact ih h
      · rw[if_neg hcc];simp only[List.lookup_cons,hx];exact ih h
theorem nT {env:Env}:∀ {names:List (Str×NameKind)} {x:Str} {k':NameKind},(∀ y∈names,y.2≠.cell)→(k'=.cell∨k'=.free)→
    (x,k')∈(names.map fun (n,k)=>if (k == NameKind.free&&env.scope.kind == .function&&env.kindOf n == some .cell) then (n,NameKind.cell) else (n,k))→(x,NameKind.free)∈names:=by
  intro names x k' hn hk h
  obtain ⟨⟨n,k⟩,hm,e⟩:=List.mem_map.mp h
  dsimp only at e
  split at e
  · rename_i hc
    cases e
    have:k=.free:=by simp at hc;exact hc.1.1
    subst this;exact hm
  · cases e
    rcases hk with rfl | rfl
    · exact absurd rfl (hn _ hm)
    · exact hm
theorem FH {X:Cx}{pins:List (Addr×Obj)}{σ:L2.St}{H H5:Hp}{s:Shared}{C:Addr}{h':Heap}(I:Inv X pins σ H s)(f0:H C=none)(fC:pJ X pins H5 C)(hs:Heap.SameBut C s.heap h'):Inv X pins σ H { s with heap:=h' }:=by
  have keep:∀ b o',b≠C→s.heap.get? b=some o'→h'.get? b=some o':=fun b o' hb e'=>(hs.2 b hb).trans e'
  refine I.Mq (ch:=[C]) (s':={ s with heap:=h' }) rfl ⟨fun b o' e' _ _ nx=>keep b o' (fun z=>nx (by rw[z];exact List.mem_cons_self)) e',fun b o' e' _ _ nx=>⟨o'.slots,keep b o' (fun z=>nx (by rw[z];exact List.mem_cons_self)) e'⟩,fun b o' _ w _=>w,fun b o' e' nx=>⟨o',keep b o' (fun z=>nx (by rw[z];exact List.mem_cons_self)) e'⟩,fun b ys e'=>e',fun b o' u e'=>e',fun b ps e'=>⟨#[],by simpa using e'⟩⟩ (fun b u e'=>?_) I.bare fun b hb=>?_
  · refine (I.hok b u e').oi (fun c w' hc q=>keep c w' ?_ q) (fun _ q=>q) fun _ _ q=>q
    rintro rfl
    rcases hc with z | z
    · rw[← z,f0] at e';cases e'
    · rw[f0] at z;cases z
  · cases List.mem_singleton.mp hb
    exact ⟨fC.2.2.2.1,fC.2.1,fC.2.2.2.2.1,fC.2.2.2.2.2⟩
theorem vk {X:Cx}{tg iter elt:Expr}{ifs:List Expr}{scope:Scope}{pos:Pos}{wi:TI}{g:TG}{tt:TT}{te:TE}{Nc:List Str}{n:Nat}{caps:List Nat}
    (hxe:X.xe=fun _ _=>False) (hcalm:X.calm=true) (hi:PI X tg iter wi)
    (hbody:∀ (cl:List (Str×Addr)) (C:Addr) (s₀:Shared) (H₀:Hp) (ex:List Addr),PG (ba X scope Nc cl C s₀ H₀ ex) tg g∧yg (ba X scope Nc cl C s₀ H₀ ex) ifs tt∧PE (ba X scope Nc cl C s₀ H₀ ex) elt te)
    (hfree:∀ y∈scope.names,y.2=.free→X.env.kindOf y.1=some .cell) (hcell:∀ y∈scope.names,y.2≠.cell) (gD:scope.kind=.function)
    (hnames:∀ y∈scope.names,y.2=.local→scope.names.lookup y.1=some .local) (hlen:Nc.length=n+caps.length)
    (hcap:∀ (j k:Nat),caps[j]? = some k→∃ x,Nc[n+j]? = some x∧X.N[k]? = some x∧scope.names.lookup x=some .free)
    {use:Option (Value→Sem Unit)} {Qv:Value→Shared→Prop} {pins:List (Addr×Obj)} {s:Shared} {σ:L2.St} {H:Hp} {Q:VK} {ps:Pos} (I:Inv X pins σ H s) (h:kj wi g tt te n caps σ H Q)
    (hfin:∀ (D C:Addr) (s5:Shared) (H5:Hp) (m:Str→Option Value),Inv X pins σ H5 s5→pJ X pins H5 C→s5.heap.Ns C m→Q (.ref D) H5→compPost (model X.prog X.w) X.A (fun _ _=>False) use Qv (.ref D) C (.ok .next) s5)
    (hs:∀ x,foldedSetIterable iter X.env x=pure x:=by intro _;rfl) :
    wpAny (model X.prog X.w) X.A (comprehension (.ListComp elt [⟨tg,iter,ifs,0⟩] scope pos) scope X.env ps (newList []) false (eval iter X.env) use) Qv (fun _ _=>False) s:=by
  obtain ⟨cl,hclos,clin,clfree⟩:=zM (scope:=scope) (env:=X.env) fun y hy hf=>I.ok.has y.1 (.inl (hfree y hy hf))
  refine wpAny_comprehension_free (use:=use) rfl hs hclos gD hnames ?_
  have hi':=hi pins s σ H _ I h
  rw[hxe] at hi'
  refine wpAny_mono hi' (fun xv s1 h1=>wpAny_mono h1 (fun itv s2 h2=>?_) fun _ _ z=>z) fun _ _ z=>z
  obtain ⟨it,fp,tn,J,H1,rfl,I2,T,st2,f2,hh⟩:=h2
  -- the new list
  refine wpAny_newObj_type ?_
  have hD:H1 s2.heap.objs.size=none:=I2.hok.fresh (Nat.le_refl _)
  obtain ⟨W,⟨m0,w0⟩,turn⟩:=hh _ hD
  have I3:Inv X pins σ (L2.upd H1 s2.heap.objs.size (.lst [])) { s2 with heap:=s2.heap.push { cls:=.type "list", dict:=none,data:=.seq ([]:List Value).toArray } }:=
    I2.laid (t':=s2.toks) (fun b u e=>Heap.get?_push_of_some _ e) (Nat.le_refl _) ⟨Nat.zero_le _,[],0,.nil,Heap.get?_push_size _ rfl⟩
  have k3:∀ b u,s2.heap.get? b=some u→(s2.heap.push { cls:=.type "list", dict:=none,data:=.seq ([]:List Value).toArray }).get? b=some u:=fun b u e=>Heap.get?_push_of_some _ e
  have fne:∀ b∈fp,b≠s2.heap.objs.size:=fun b hb=>by
    obtain ⟨o,ho,_⟩:=T.obj 0 _ st2 b hb
    exact Nat.ne_of_lt (Heap.lt_size ho)
  generalize eD:s2.heap.objs.size=D at *
  generalize eh3:s2.heap.push { cls:=.type "list", dict:=none,data:=.seq ([]:List Value).toArray }=h3 at *
  generalize eH3:L2.upd H1 D (.lst [])=H3 at *
  have st3:tn 0 h3:=T.keep 0 _ _ st2 fun b hb o e=>k3 b o e
  have f3:∀ b∈fp,pJ X pins H3 b:=fun b hb=>⟨by rw[← eH3,aO (fne b hb)];exact (f2 b hb).1,(f2 b hb).2⟩
  have lt3:∀ b∈fp,b < h3.objs.size:=fun b hb=>by
    obtain ⟨o,ho,_⟩:=T.obj 0 _ st3 b hb
    exact Heap.lt_size ho
  generalize es3:({ s2 with heap:=h3 }:Shared)=s3 at *
  have hs3:s3.heap=h3:=by rw[← es3]
  refine wpAny_newFunctionEnv hcell (fun y hy=>(by cases hy)) (fun h4 hns hsb=>?_) gD
  show codeAny _ _ (.compStart _ 0 (.ref it) (.ref D) (compEnvC scope cl s3.heap.objs.size X.env)) (compPost _ _ _ _ _ (.ref D) s3.heap.objs.size) _
  have k4:∀ b u,s3.heap.get? b=some u→h4.get? b=some u:=fun b u e=>hsb.extBut b u (Nat.ne_of_lt (Heap.lt_size e)) (Heap.get?_push_of_some _ e)
  have okY:(ba X scope Nc cl s3.heap.objs.size s3 H3 fp).Ok:=by
    refine ⟨I3.ok.mod,gD,I3.ok.glob,I3.ok.blt,Nat.le_refl _,fun x y c e1 e2=>I3.ok.inj x y c (clin _ _ e1) (clin _ _ e2),fun x hx=>?_,fun x c hf=>(by cases hf),I3.ok.hd,I3.ok.frames,.inl rfl,fun b hb=>⟨?_,fun x c e z=>?_⟩,I3.bs,Nat.le_trans I3.ok.bsz I3.sz,fun b o e hb=>?_,fun b hb hz=>?_,I3.stack,I3.Cc⟩
    · have hx':(relabel scope X.env).names.lookup x=some .cell∨(relabel scope X.env).names.lookup x=some .free:=hx
      have hm:(x,NameKind.free)∈scope.names:=by
        rcases hx' with q | q
        · exact nT hcell (.inl rfl) (PySem.mem_of_lookup q)
        · exact nT hcell (.inr rfl) (PySem.mem_of_lookup q)
      exact clfree _ hm rfl
    · show b≠s3.heap.objs.size
      rw[hs3];exact Nat.ne_of_lt (lt3 b hb)
    · exact (f3 b hb).2.2.2.2.1 x c (clin _ _ e) z
    · rcases (f3 b hb).2.2.2.1 with z | z
      · exact I3.ok.Iw b o e z
      · exact absurd (Nat.lt_of_lt_of_le (Heap.lt_size e) (Nat.le_trans I3.ok.bsz z)) (Nat.lt_irrefl _)
    · rcases List.mem_cons.mp (I3.Ar b hz) with z | z
      · exact (f3 b hb).2.1 z
      · exact (f3 b hb).2.2.1 z
  have RX:∀ c v,s3.heap.IsCell c v→h4.IsCell c v:=fun c v ⟨o,ho,hd⟩=>⟨o,k4 c o ho,hd⟩
  have J0:Inv (ba X scope Nc cl s3.heap.objs.size s3 H3 fp) [] (kc σ n caps) H3 { s3 with heap:=h4,toks:=s3.toks+([]:List (Str×Value)).length }:=by
    refine ⟨okY,rfl,I3.bare,Un.kept k4,⟨_,hns,fun i x v e1 e2 e3=>?_⟩,fun x c e=>?_,I3.hok.fresh (Nat.le_refl _),fun x c e=>I3.jQ x c (clin _ _ e),(fun p hp=>(by cases hp)),I3.hok.kept k4,?_⟩
    · obtain ⟨j,k,rfl,ej,ek⟩:=jA e2
      obtain ⟨x',n1,n2,n3⟩:=hcap j k ej
      have e1':Nc[n+j]? = some x:=e1
      rw[n1] at e1';cases e1'
      have hmem:(x,NameKind.free)∈scope.names:=PySem.mem_of_lookup n3
      have hcellx:X.env.kindOf x=some .cell:=hfree _ hmem rfl
      obtain ⟨m,hn,hl⟩:=I3.loc
      obtain ⟨u,ru,lk⟩:=hl k x v n2 ek (.inr (.inl hcellx))
      refine ⟨u,ru,.inr ⟨.inl (f6 I3.ok.kind hcellx n3),?_⟩⟩
      rcases lk with ⟨q,_⟩ | ⟨_,c,ec,ic⟩
      · rw[hcellx] at q;cases q
      · obtain ⟨c',ec'⟩:=clfree _ hmem rfl
        have:=clin _ _ ec'
        rw[ec] at this;cases this
        exact ⟨c,ec',RX _ _ ic⟩
    · obtain ⟨v,q⟩:=I3.cell x c (clin _ _ e)
      exact ⟨v,RX _ _ q⟩
    · unfold kc
      show _=Nc.length
      rw[List.length_append,List.length_replicate,List.length_map,hlen]
  obtain ⟨pg,pifs,pelt⟩:=hbody cl s3.heap.objs.size s3 H3 fp
  generalize eY:ba X scope Nc cl s3.heap.objs.size s3 H3 fp=Y at *
  have yP:Y.prog=X.prog:=by rw[← eY];rfl
  have yw:Y.w=X.w:=by rw[← eY];rfl
  have yK:Y.K=X.K:=by rw[← eY];rfl
  have yA:Y.A=X.A:=by rw[← eY];rfl
  have yx:Y.xe=fun _ _=>False:=by rw[← eY];exact hxe
  have yc:Y.calm=true:=by rw[← eY];exact hcalm
  have ye:Y.env=compEnvC scope cl s3.heap.objs.size X.env:=by rw[← eY];rfl
  have yfs:Y.fs=frs X.stack:=by rw[← eY];rfl
  have yex:Y.ex=fp:=by rw[← eY];rfl
  have ys0:Y.s₀=s3:=by rw[← eY];rfl
  have yH0:Y.H₀=H3:=by rw[← eY];rfl
  have ypn:Y.pn=[]:=by rw[← eY];rfl
  have y4:∀ {H':Hp},(∀ b∈fp,H' b=none)→∀ b∈fp,pJ Y [] H' b:=fun hn b hb=>⟨hn b hb,by rw[ye];show b≠s3.heap.objs.size;rw[hs3];exact Nat.ne_of_lt (lt3 b hb),okY.ED b (by rw[yex];exact hb),.inl (by rw[yex];exact hb),
    fun x c e=>by rw[ye] at e;exact (f3 b hb).2.2.2.2.1 x c (clin _ _ e),fun p hp=>by rw[ypn] at hp;exact nomatch hp⟩
  have tn4:∀ t,tn 0 ({ s3 with heap:=h4,toks:=t }:Shared).heap:=fun t=>T.keep 0 _ _ st3 fun b hb o e=>k4 b o (by rw[hs3];exact e)
  -- the end
  have fin:∀ (s5:Shared) (H5:Hp),Inv Y [] (kc σ n caps) H5 s5→Q (.ref D) H5→compPost (model X.prog X.w) X.A (fun _ _=>False) use Qv (.ref D) s3.heap.objs.size (.ok .next) s5:=fun s5 H5 I5 q5=>by
    obtain ⟨m,hn,_⟩:=I5.loc
    rw[ye] at hn
    have un:=I5.base
    rw[yfs,yex,yH0,ys0] at un
    have hfreeC0:=I5.free
    rw[ye] at hfreeC0
    have hfreeC:H5 s3.heap.objs.size=none:=hfreeC0
    have hok5:=I5.hok
    rw[yP,yw] at hok5
    have I5X:Inv X pins σ H5 s5:=I3.Mq (ch:=fp) (s':=s5) (by have:=I5.os;rw[ys0] at this;exact this) un hok5 I5.bare fun b hb=>⟨(f3 b hb).2.2.2.1,(f3 b hb).2.1,(f3 b hb).2.2.2.2.1,(f3 b hb).2.2.2.2.2⟩
    exact hfin _ _ s5 H5 m I5X (I3.D6 (Nat.le_refl _) hfreeC) hn q5
  have loop:codeAny (model X.prog X.w) X.A (.compLoop (.ListComp elt [⟨tg,iter,ifs,0⟩] scope pos) 0 (.ref it) (.ref D) (compEnvC scope cl s3.heap.objs.size X.env)) (compPost (model X.prog X.w) X.A (fun _ _=>False) use Qv (.ref D) s3.heap.objs.size)
      { s3 with heap:=h4,toks:=s3.toks+([]:List (Str×Value)).length }:=by
    refine Dt (fun k s'=>∃ i ys H',Inv Y [] (kc σ n caps) H' s'∧tn i s'.heap∧(∀ b∈fp,H' b=none)∧W i k ys H') ?_ m0 ⟨0,[],H3,J0,tn4 _,fun b hb=>(f3 b hb).1,w0⟩
    rintro k s5 ⟨i,ys,H5,I5,st5,fr5,w5⟩
    rcases turn i k ys H5 w5 with ⟨stop,q⟩ | ⟨go,N,hN,step⟩
    · have d:=T.done Y yP yw yK yc i [] s5 _ H5 (fun _ _=>False) I5 (y4 fr5) st5 stop
      rw[yA] at d
      refine thn d fun r s6 ⟨hr,I6⟩=>?_
      subst hr
      exact fin s6 H5 I6 q
    · have d:=T.item Y yP yw yK yc i [] s5 _ H5 (fun _ _=>False) I5 (y4 fr5) st5 go
      rw[yA] at d
      refine thn d fun r s6 ⟨u,hr,h6⟩=>?_
      subst hr
      refine thn h6 fun _ s7 ⟨x,H7,I7,r7,y7,st7,fr7⟩=>?_
      have I7':=I7.pinned (y4 fr7) (T.obj _ _ st7)
      have a:=pg _ s7 _ H7 x u _ I7' r7 (step x H7 y7)
      rw[yP,yw,yA,yx,ye] at a
      refine thn a fun _ s8 ⟨σ8,H8,I8,wk,q8⟩=>?_
      have b:=pifs _ s8 σ8 H8 _ I8 q8
      rw[yP,yw,yA,yx,ye] at b
      have again:∀ {s9:Shared} {ys9:List V} {H9:Hp},Inv Y ([]++qr fp s7.heap) σ8 H9 s9→N ys9 H9→∃ m,m < k∧∃ i ys H',Inv Y [] (kc σ n caps) H' s9∧tn i s9.heap∧(∀ b∈fp,H' b=none)∧W i m ys H':=fun {s9 ys9 H9} I9 n9=>by
        obtain ⟨m',hm,w9⟩:=hN ys9 H9 n9
        have hp:∀ b∈fp,∀ o,s7.heap.get? b=some o→s9.heap.get? b=some o∧H9 b=none:=fun b hb o e=>
          ⟨(I9.pin (b,o) (List.mem_append_right _ (List.mem_append_right _ (gE hb e)))).1,(I9.pin (b,o) (List.mem_append_right _ (List.mem_append_right _ (gE hb e)))).2.1⟩
        refine ⟨m',hm,i+1,ys9,H9,I9.jP.weak wk.1 wk.2,T.keep _ _ _ st7 fun b hb o e=>(hp b hb o e).1,fun b hb=>?_,w9⟩
        obtain ⟨o,e,_⟩:=T.obj _ _ st7 b hb
        exact (hp b hb o e).2
      refine thn b fun ok s9 ⟨H9,I9,q9⟩=>?_
      cases ok with
      | false=>
        rw[if_neg Bool.false_ne_true] at q9 ⊢
        exact again I9 q9
      | true=>
        rw[if_pos rfl] at q9 ⊢
        have c:=pelt _ s9 σ8 H9 _ I9 q9
        rw[yP,yw,yA,yx,ye] at c
        refine thn c fun v s10 ⟨y,H10,I10,r10,zs,ez,lz,n10⟩=>?_
        have d:=tf (X:=Y) _ s10 σ8 H10 (.ref D) [y] (.ref D) [v] (fun _ H'=>N (zs++[y]) H') I10 rfl (.cons r10 .nil) ⟨D,zs,y,rfl,rfl,ez,lz,n10⟩
        rw[yP,yw,yA,yx] at d
        exact thn d fun _ s11 ⟨_,H11,I11,_,q11⟩=>again I11 q11
  refine codeAny_compStart_list loop ?_
  exact T.self X.A 0 _ _ _ (tn4 _) loop
theorem B0 {X:Cx}{tg iter elt:Expr}{ifs:List Expr}{scope:Scope}{pos:Pos}{wi:TI}{g:TG}{tt:TT}{te:TE}{Nc:List Str}{n:Nat}{caps:List Nat}
    (hxe:X.xe=fun _ _=>False) (hcalm:X.calm=true) (hi:PI X tg iter wi)
    (hbody:∀ (cl:List (Str×Addr)) (C:Addr) (s₀:Shared) (H₀:Hp) (ex:List Addr),PG (ba X scope Nc cl C s₀ H₀ ex) tg g∧yg (ba X scope Nc cl C s₀ H₀ ex) ifs tt∧PE (ba X scope Nc cl C s₀ H₀ ex) elt te)
    (hfree:∀ y∈scope.names,y.2=.free→X.env.kindOf y.1=some .cell) (hcell:∀ y∈scope.names,y.2≠.cell) (gD:scope.kind=.function)
    (hnames:∀ y∈scope.names,y.2=.local→scope.names.lookup y.1=some .local) (hlen:Nc.length=n+caps.length)
    (hcap:∀ (j k:Nat),caps[j]? = some k→∃ x,Nc[n+j]? = some x∧X.N[k]? = some x∧scope.names.lookup x=some .free)
    (hs:∀ x,foldedSetIterable iter X.env x=pure x:=by intro _;rfl) :
    PE X (.ListComp elt [⟨tg,iter,ifs,0⟩] scope pos) (kj wi g tt te n caps):=by
  intro pins s σ H Q I h
  rw[hxe,eval_ListComp]
  exact vk hxe hcalm hi hbody hfree hcell gD hnames hlen hcap (use:=none) I h (fun D C s5 H5 m I5 fC hn q=>⟨m,hn,fun h6 hs6=>⟨.ref D,H5,FH I5 fC.1 fC hs6,rfl,q⟩⟩) hs
theorem xT {X:Cx}{tg iter elt:Expr}{ifs:List Expr}{scope:Scope}{pos spos py:Pos}{y:Str}{iy:Nat}{wi:TI}{g:TG}{tt:TT}{te:TE}{Nc:List Str}{n:Nat}{caps:List Nat}{Z:TE→TE}
    (hxe:X.xe=fun _ _=>False) (hcalm:X.calm=true) (hi:PI X tg iter wi)
    (hbody:∀ (cl:List (Str×Addr)) (C:Addr) (s₀:Shared) (H₀:Hp) (ex:List Addr),PG (ba X scope Nc cl C s₀ H₀ ex) tg g∧yg (ba X scope Nc cl C s₀ H₀ ex) ifs tt∧PE (ba X scope Nc cl C s₀ H₀ ex) elt te)
    (hfree:∀ y∈scope.names,y.2=.free→X.env.kindOf y.1=some .cell) (hcell:∀ y∈scope.names,y.2≠.cell) (gD:scope.kind=.function)
    (hnames:∀ y∈scope.names,y.2=.local→scope.names.lookup y.1=some .local) (hlen:Nc.length=n+caps.length)
    (hcap:∀ (j k:Nat),caps[j]? = some k→∃ x,Nc[n+j]? = some x∧X.N[k]? = some x∧scope.names.lookup x=some .free)
    (pgy:PG X (.Name y py) (kM iy))
    (hsw:swapsWith (.ListComp elt [⟨tg,iter,ifs,0⟩] scope pos) (some (.Name y py)) spos.line X.env=pure true)
    (hz:∀ (σ:L2.St) (H:Hp) (Q:VK),Z (kj wi g tt te n caps) σ H Q→∃ Q',kj wi g tt te n caps σ H Q'∧∀ pins D H5 s5,Inv X pins σ H5 s5→Q' (.ref D) H5→∃ H6,(∀ b,H5 b=none→H6 b=none)∧Inv X pins σ H6 s5∧Q (.ref D) H6)
    (hs:∀ x,foldedSetIterable iter X.env x=pure x:=by intro _;rfl) :
    PS X (.Assign [.Name y py] (.ListComp elt [⟨tg,iter,ifs,0⟩] scope pos) spos) (Fs (Z (kj wi g tt te n caps)) (kM iy)):=by
  intro pins s σ H E' I h
  rw[hxe]
  rewrite [exec_Assign_Name_used _ _ _ _ hsw]
  refine wpAny_bind (wpAny_standAt ?_)
  refine wpAny_bind ?_
  refine (show wpAny _ X.A (do let _ ← comprehension (.ListComp elt [⟨tg,iter,ifs,0⟩] scope pos) scope X.env _ (newList []) false (eval iter X.env) (some (assign (.Name y py) X.env))) _ _ s from ?_)
  obtain ⟨Q',h',hq⟩:=hz σ H _ h
  refine wpAny_bind (wpAny_mono (vk hxe hcalm hi hbody hfree hcell gD hnames hlen hcap (use:=some (assign (.Name y py) X.env)) (Qv:=fun _ s'=>SP X pins E' .next s') I h' (fun D C s5 H5 m I5 fC hn q=>?_) hs) (fun _ s' hq=>wpAny_pure (wpAny_pure hq)) fun _ _ e=>e)
  obtain ⟨H6,fr,I6,q6⟩:=hq pins D H5 s5 I5 q
  have f0:=fr C fC.1
  have fC6:pJ X pins H6 C:=⟨f0,fC.2⟩
  obtain ⟨oC,gC,dC⟩:∃ oC,s5.heap.get? C=some oC∧∀ v,oC.data≠.cell v:=by
    obtain ⟨oC,es,ep,ho,hd,_⟩:=hn
    exact ⟨oC,ho,fun v z=>by rw[hd] at z;cases z⟩
  have I5P:=I6.pinned (fp:=[C]) (fun b hb=>by cases List.mem_singleton.mp hb;exact fC6) (fun b hb=>by cases List.mem_singleton.mp hb;exact ⟨oC,gC,dC⟩)
  have as:=pgy _ s5 σ _ (.ref D) (.ref D) E'.nx I5P rfl q6
  rw[hxe] at as
  refine thn as fun _ s6 ⟨σ6,H7,I7,n7⟩=>?_
  obtain ⟨g7,f7,_⟩:=I7.pin (C,oC) (List.mem_append_right _ (List.mem_append_right _ (gE List.mem_cons_self gC)))
  exact ⟨m,hn.at' (fun o' e'=>by have e'':s5.heap.get? C=some o':=e';rw[gC] at e'';cases e'';exact g7),fun h8 hs8=>⟨σ6,H7,FH I7.jP f7 fC6 hs8,n7⟩⟩
end
section
open PySem PySem.Spec PyProof.Rows L2
structure FN (K:PySem.W.Frag) (J:It) (H1:Hp) (ds:List D):Prop where
  go:∀ i H',Tk H1 H'→i < ds.length→J.go i H'
  yld:∀ i H' x H'',Tk H1 H'→i < ds.length→J.yld i H' x H''→Tk H' H''∧(∃ d,ds[i]? = some d∧Dp K H'' x d)∧∀ μ,bO K H' μ→bO K H'' μ
  stop:∀ i H',Tk H1 H'→ds.length≤i→J.stop i H'
def PN (K:PySem.W.Frag)(wi:TI)(It':ATr):Prop:=∀ σ H ρ μ (Q:List D→Mu→Prop) (R:It→Hp→Prop),Rl K σ H ρ μ→It' ρ μ Q→(∀ J H1 ds μ1,Tk H H1→bO K H1 μ1→FN K J H1 ds→Q ds μ1→R J H1)→wi σ H R
structure LI (X:Cx) (tg iter:Expr) (It':ATr):Prop where
  ex:∃ wi,PI X tg iter wi∧PN X.K wi It'
section
variable {X:Cx} {tg a b c e elt iter:Expr} {Ta Tb Te:ETr} {Tt:TTr} {pos:Pos} {It':ATr} {G:GTr}
theorem EY {K:PySem.W.Frag}{H:Hp}{p:Addr}{xs:List V}{ds:List D}(q:SqT K H p xs)(l:DpL K H xs ds):FN K (Itt K p) H ds where
  go:=fun i H' t hi=>by
    have hl:=l.length
    exact ⟨xs,xs[i],t.sqT q,by simp[show i < xs.length by omega]⟩
  yld:=fun i H' x H'' t hi ⟨e,y⟩=>by
    subst e
    have ex:=y xs (t.sqT q)
    obtain ⟨d,ed,p⟩:=l.get' ex
    exact ⟨.refl _,⟨d,ed,p.mono t⟩,fun _ m=>m⟩
  stop:=fun i H' t hi=>⟨xs,t.sqT q,by rw[l.length];exact hi⟩
theorem JO {K:PySem.W.Frag}{H:Hp}{p:Addr}{xs:List V}{ds:List D}(q:SqF K H p xs)(l:DpL K H xs ds):FN K (Itl K p) H ds where
  go:=fun i H' t hi=>by
    have hl:=l.length
    exact ⟨xs,xs[i],(t.sqF q).sq,by simp[show i < xs.length by omega]⟩
  yld:=fun i H' x H'' t hi ⟨e,y⟩=>by
    subst e
    have ex:=y xs (t.sqF q).sq
    obtain ⟨d,ed,p⟩:=l.get' ex
    exact ⟨.refl _,⟨d,ed,p.mono t⟩,fun _ m=>m⟩
  stop:=fun i H' t hi=>⟨xs,(t.sqF q).sq,by rw[l.length];exact hi⟩
theorem eO (lo:Int)(n:Nat):(cL lo n).length=n:=by unfold cL;simp
theorem Ij {K:PySem.W.Frag}{H:Hp}(lo:Int)(n:Nat):FN K (Itr lo n) H (cL lo n) where
  go:=fun i H' t hi=>by rw[eO] at hi;exact hi
  yld:=fun i H' x H'' t hi ⟨e,y⟩=>by
    rw[eO] at hi
    subst e y
    exact ⟨.refl _,⟨.int (lo+i),by unfold cL;simp[hi],.int _⟩,fun _ m=>m⟩
  stop:=fun i H' t hi=>by rw[eO] at hi;exact hi
def Qi (a:ETr):ATr:=fun ρ μ Q=>a ρ μ fun x μ1=>match x with
  | .tup ds=>Q ds μ1
  | _=>False
def ILs (a:ETr):ATr:=fun ρ μ Q=>a ρ μ fun x μ1=>match x with
  | .ls ds=>Q ds μ1
  | _=>False
theorem jY {rp rpos:Pos}(hg:Gl X "range")(hm:X.mg "range" = none)(ha:LE X a Ta)(hs:starEach [a] X.env=[(false,eval a X.env)]:=by rfl):LI X tg (.Call (.Name "range" rp) [a] [] rpos) (gf Ta):=by
  obtain ⟨ta,pa,sa⟩:=ha.ex
  refine ⟨_,CM hg hm (ff pa i9 hs) hs,fun σ H ρ μ Q R rl h k=>sa σ H ρ μ _ _ rl h fun x H1 d μ1 t1 m1 p1 h1=>?_⟩
  cases p1 with
  | int j=>
    obtain ⟨⟨h2,h3⟩,h4⟩:=h1
    exact ⟨j,rfl,by simpa using h2,by simpa using h3,k _ H1 _ μ1 t1 m1 (Ij 0 _) h4⟩
  | _=>exact False.elim h1
theorem Sh {t1:TS}{T1:STr}{g:TG}{E:En}{E':Ends}{K:PySem.W.Frag}{H0 H1:Hp}{J:It}{ds:List D}(sg:Ol K g G)(s1:KQ K t1 T1)(k:Hb K H0 E E')(Y:FN K J H1 ds){σ:L2.St}{ρ:ST}{μ:Mu}(t0:Tk H0 H1)(rl:Rl K σ H1 ρ μ)(h:forR G T1 E ds ρ μ) :
    ∃ W:Nat→Nat→L2.St→Hp→Prop,(∃ m,W 0 m σ H1)∧∀ i m σ H,W i m σ H→
      (J.stop i H∧E'.nx σ H)∨(J.go i H∧∃ N:L2.St→Hp→Prop,(∀ σ' H',N σ' H'→∃ m',m' < m∧W (i+1) m' σ' H')∧∀ x H',J.yld i H x H'→g x σ H' fun σ2 H2=>t1 { E' with nx:=N,ct:=N,bk:=E'.nx } σ2 H2):=by
  refine ⟨fun i m σ' H'=>m=ds.length - i∧i≤ds.length∧Tk H1 H'∧∃ ρ' μ',Rl K σ' H' ρ' μ'∧forR G T1 E (ds.drop i) ρ' μ',⟨ds.length,by simp,Nat.zero_le _,.refl _,ρ,μ,rl,by simpa using h⟩,?_⟩
  rintro i m σ1 H2 ⟨rfl,hi,t12,ρ1,μ1,r1,h1⟩
  by_cases hlt:i < ds.length
  · refine .inr ⟨Y.go i H2 t12 hlt,fun σ' H'=>Tk H1 H'∧∃ ρ' μ',Rl K σ' H' ρ' μ'∧forR G T1 E (ds.drop (i+1)) ρ' μ',fun σ' H' ⟨t',ρ',μ',r',h'⟩=>⟨ds.length - (i+1),by omega,rfl,hlt,t',ρ',μ',r',h'⟩,fun x H3 y=>?_⟩
    obtain ⟨t23,⟨d,ed,pd⟩,mk⟩:=Y.yld i H2 x H3 t12 hlt y
    have e:ds.drop i=d::ds.drop (i+1):=by
      refine (List.drop_eq_getElem_cons hlt).trans ?_
      congr 1
      rw[List.getElem?_eq_getElem hlt] at ed
      exact Option.some.inj ed
    rw[e] at h1
    have t13:=t12.trans t23
    refine sg σ1 H3 ρ1 μ1 _ _ _ _ (r1.go t23 (mk _ r1.mu)) pd h1 fun σ4 H4 ρ4 μ4 t4 r4 h4=>?_
    have t14:=t13.trans t4
    have t04:=t0.trans t14
    exact s1 σ4 H4 ρ4 μ4 _ _ r4 h4 ⟨fun σ' H' ρ' μ' t' r' q=>⟨t14.trans t',ρ',μ',r',q⟩,(k.go t04).rt,(k.go t04).nx,fun σ' H' ρ' μ' t' r' q=>⟨t14.trans t',ρ',μ',r',q⟩⟩
  · have e:i=ds.length:=by omega
    subst e
    rw[List.drop_length] at h1
    exact .inl ⟨Y.stop _ H2 t12 (Nat.le_refl _),k.nx _ _ _ _ (t0.trans t12) r1 h1⟩
theorem di {body:List Stmt}{T1:STr}(hp:PassesOwn (model X.prog X.w) X.A X.env X.xe)(hc:X.calm=true)(hi:LI X tg iter It')(hG:LG X tg G)(hb:LSs X body T1)(hf:∀ x,foldedSetIterable iter X.env x=pure x:=by intro _;rfl) :
    LS X (.For tg iter body [] pos) (gK It' G T1):=by
  obtain ⟨wi,pi,si⟩:=hi.ex
  obtain ⟨g,pg,sg⟩:=hG.ex
  obtain ⟨t1,p1,s1⟩:=hb.ex
  exact ⟨_,Pg hp hc pi pg p1 hf,fun σ H ρ μ E E' rl h k=>si σ H ρ μ _ _ rl h fun J H1 ds μ1 t1' m1 Y h1=>Sh sg s1 k Y t1' (rl.go t1' m1) h1⟩
def lE (K:PySem.W.Frag)(T:ETr):TE:=fun σ H Q'=>∃ ρ μ Q,Rl K σ H ρ μ∧T ρ μ Q∧jv K H Q Q'
def liftT (K:PySem.W.Frag)(T:TTr):TT:=fun σ H Q'=>∃ ρ μ Q,Rl K σ H ρ μ∧T ρ μ Q∧∀ b H' μ',Tk H H'→bO K H' μ'→Q b μ'→Q' b H'
abbrev M3 (K:PySem.W.Frag)(n:Nat)(σ:L2.St)(H:Hp)(k:ST→Mu→Prop)(k':L2.St→Hp→Prop):Prop:=∀ σ' H' ρ' μ',Tk H H'→Rl K σ' H' ρ' μ'→(σ'.length=σ.length∧∀ j,n≤j→σ'[j]? = σ[j]?)→k ρ' μ'→k' σ' H'
def lH (K:PySem.W.Frag)(n:Nat)(G:GTr):TG:=fun v σ H k'=>∃ ρ μ d k,Rl K σ H ρ μ∧Dp K H v d∧G d ρ μ k∧M3 K n σ H k k'
theorem LE.pe (h:LE X e Te):PE X e (lE X.K Te):=by
  obtain ⟨t,p,s⟩:=h.ex
  exact fun pins st σ H Q I ⟨ρ,μ,Q0,rl,hT,k⟩=>p pins st σ H Q I (s σ H ρ μ Q0 Q rl hT k)
structure vV (X:Cx) (ifs:List Expr) (Tt:TTr):Prop where
  pe:yg X ifs (liftT X.K Tt)
theorem bC:vV X [] dM:=⟨fun pins s σ H Q I ⟨ρ,μ,Q0,rl,hT,k⟩=>Ly pins s σ H Q I (k true H μ (.refl H) rl.mu hT)⟩
theorem gv (h:LT X c Tt):vV X [c] Tt:=by
  obtain ⟨t,p,s⟩:=h.ex
  exact ⟨fun pins st σ H Q I ⟨ρ,μ,Q0,rl,hT,k⟩=>Kv p pins st σ H Q I (s σ H ρ μ Q0 Q rl hT k)⟩
structure LGc (X:Cx) (n:Nat) (tg:Expr) (G:GTr):Prop where
  pe:PG X tg (lH X.K n G)
theorem a7 {x:Str}{n:Nat}(i:Nat)(hN:X.N.Nodup)(hin:i < n:=by decide)(hi:X.N[i]? = some x:=by rfl)(hx:Loc X.env.scope x:=by first | exact Or.inl rfl | exact Or.inr rfl)(hf:X.fn x=true∨X.env.scope.names.lookup x=some .local:=by first | exact .inr rfl | exact .inl rfl | assumption):LGc X n (.Name x pos) (aw i):=
  ⟨fun pins s σ H v u k' I r ⟨ρ,μ,d,k,rl,p,h,post⟩=>iK hN hi hx hf pins s σ H v u k' I r (post _ H _ μ (.refl H) (rl.set p i) ⟨by simp,fun j hj=>by rw[List.getElem?_set_ne (by omega)]⟩ h)⟩
theorem oR {K:PySem.W.Frag}{σ:L2.St}{H:Hp}{ρ:ST}{μ:Mu}(rl:Rl K σ H ρ μ)(n:Nat)(caps:List Nat):Rl K (kc σ n caps) H (fK ρ n caps) μ:=by
  refine ⟨by unfold kc fK;simp,fun i d e=>?_,rl.mu⟩
  have gen:∀ (n i:Nat),lk (List.replicate n none++caps.map (lk ρ)) i=some d→∃ j,i=n+j∧∃ k,caps[j]? = some k∧lk ρ k=some d:=by
    intro n
    induction n with
    | zero=>
      intro i h
      have h':lk (caps.map (lk ρ)) i=some d:=by simpa using h
      have g2:∀ (cs:List Nat) (i:Nat),lk (cs.map (lk ρ)) i=some d→∃ k,cs[i]? = some k∧lk ρ k=some d:=by
        intro cs
        induction cs with
        | nil=>intro i h;cases i<;>cases h
        | cons c r ih=>intro i h;cases i with
          | zero=>exact ⟨c,rfl,h⟩
          | succ i=>simpa using ih i h
      exact ⟨i,by omega,g2 caps i h'⟩
    | succ n ih=>
      intro i h
      cases i with
      | zero=>cases h
      | succ i=>
        obtain ⟨j,rfl,k,h1,h2⟩:=ih i h
        exact ⟨j,by omega,k,h1,h2⟩
  obtain ⟨j,rfl,k,h1,h2⟩:=gen n i e
  obtain ⟨v,h3,h4⟩:=rl.loc k d h2
  refine ⟨v,?_,h4⟩
  unfold kc
  rw[List.getElem?_append_right (by simp)]
  simp[h1,h3]
theorem LK {ifs:List Expr}{scope:Scope}{Nc:List Str}{n:Nat}{caps:List Nat}(hxe:X.xe=fun _ _=>False)(hcalm:X.calm=true)(hi:LI X tg iter It')
    (hbody:∀ (cl:List (Str×Addr)) (C:Addr) (s₀:Shared) (H₀:Hp) (ex:List Addr),LGc (ba X scope Nc cl C s₀ H₀ ex) n tg G∧vV (ba X scope Nc cl C s₀ H₀ ex) ifs Tt∧LE (ba X scope Nc cl C s₀ H₀ ex) elt Te)
    (hfree:∀ y∈scope.names,y.2=.free→X.env.kindOf y.1=some .cell) (hcell:∀ y∈scope.names,y.2≠.cell) (gD:scope.kind=.function)
    (hnames:∀ y∈scope.names,y.2=.local→scope.names.lookup y.1=some .local) (hlen:Nc.length=n+caps.length)
    (hcap:∀ (j k:Nat),caps[j]? = some k→∃ x,Nc[n+j]? = some x∧X.N[k]? = some x∧scope.names.lookup x=some .free)
    (hs:∀ x,foldedSetIterable iter X.env x=pure x:=by intro _;rfl) :
    LE X (.ListComp elt [⟨tg,iter,ifs,0⟩] scope pos) (bL It' G Tt Te n caps):=by
  obtain ⟨wi,pi,si⟩:=hi.ex
  refine ⟨_,kA (B0 (g:=lH X.K n G) (tt:=liftT X.K Tt) (te:=lE X.K Te) hxe hcalm pi (fun cl C s₀ H₀ ex=>let ⟨h1,h2,h3⟩:=hbody cl C s₀ H₀ ex;⟨h1.pe,h2.pe,h3.pe⟩) hfree hcell gD hnames hlen hcap hs),?_⟩
  intro σ H ρ μ Q Q' rl h k
  refine si σ H ρ μ _ _ rl h fun J H1 ds μ1 t1 m1 Y h1 D hD=>?_
  have hp:=h1 D (m1.free hD)
  have tD:Tk H1 (L2.upd H1 D (.lst [])):=.new hD
  have mD:bO X.K (L2.upd H1 D (.lst [])) (up μ1 D (.lst [])):=fun a o e=>by
    by_cases ha:a=D
    · subst ha
      rw[aB] at e;cases e
      exact ⟨[],aP,.nil⟩
    · rw[aK ha] at e
      exact dk m1 hD a o e
  refine ⟨fun i m ys H2=>m=ds.length - i∧i≤ds.length∧Tk H1 H2∧∃ μ2,bO X.K H2 μ2∧f9 D G Tt Te (fK ρ n caps) (fun μ'=>kL μ' D fun zs=>Q (.ls zs) (dn μ' D)) (ds.drop i) μ2,
    ⟨ds.length,by simp,Nat.zero_le _,tD,_,mD,by simpa using hp⟩,?_⟩
  rintro i m ys H2 ⟨rfl,hi,t12,μ2,m2,h2⟩
  by_cases hlt:i < ds.length
  · refine .inr ⟨Y.go i H2 t12 hlt,fun ys' H'=>Tk H1 H'∧∃ μ',bO X.K H' μ'∧f9 D G Tt Te (fK ρ n caps) (fun μ'=>kL μ' D fun zs=>Q (.ls zs) (dn μ' D)) (ds.drop (i+1)) μ',fun ys' H' ⟨t',μ',m',h'⟩=>⟨ds.length - (i+1),by omega,rfl,hlt,t',μ',m',h'⟩,fun x H3 y=>?_⟩
    obtain ⟨t23,⟨d,ed,pd⟩,mk⟩:=Y.yld i H2 x H3 t12 hlt y
    have e:ds.drop i=d::ds.drop (i+1):=by
      refine (List.drop_eq_getElem_cons hlt).trans ?_
      congr 1
      rw[List.getElem?_eq_getElem hlt] at ed
      exact Option.some.inj ed
    rw[e] at h2
    have t13:=t12.trans t23
    have r3:Rl X.K (kc σ n caps) H3 (fK ρ n caps) μ2:=oR (rl.go (t1.trans t13) (mk _ m2)) n caps
    refine ⟨_,_,d,_,r3,pd,h2,fun σ4 H4 ρ4 μ4 t4 r4 kp h4=>⟨⟨kp.1.symm,fun j v ej=>?_⟩,_,_,_,r4,h4,fun b H5 μ5 t5 m5 h5=>?_⟩⟩
    · by_cases hj:n≤j
      · rw[kp.2 j hj];exact ej
      · obtain ⟨j',k',e1,_⟩:=jA ej
        omega
    · have t15:=t13.trans (t4.trans t5)
      cases b with
      | false=>exact qX ⟨t15,μ5,m5,h5⟩
      | true=>
        refine ro ⟨_,_,_,r4.go t5 m5,h5,fun v H6 d6 μ6 t6 m6 p6 h6=>?_⟩
        obtain ⟨zs,ez,lz,h7⟩:=bP h6
        obtain ⟨xs,ex,lx⟩:=m6 D _ ez
        have t67:Tk H6 (L2.upd H6 D (.lst (xs++[v]))):=.upd (fun ys z=>by rw[ex] at z;cases z) fun o' u z=>by rw[ex] at z;cases z
        refine ⟨xs,ex,by rw[lx.length];exact Nat.lt_of_lt_of_le lz (by decide),(t15.trans t6).trans t67,up μ6 D (.lst (zs++[d6])),fun a o ea=>?_,h7⟩
        by_cases ha:a=D
        · subst ha
          rw[aB] at ea;cases ea
          exact ⟨_,aP,(lx.append (.cons p6 .nil)).mono t67⟩
        · rw[aK ha] at ea
          exact (m6 a _ ea).ne t67 ha
  · have e:i=ds.length:=by omega
    subst e
    rw[List.drop_length] at h2
    obtain ⟨zs,ez,hq⟩:=bP (show kL μ2 D fun zs=>Q (.ls zs) (dn μ2 D) from h2)
    obtain ⟨xs,ex,lx⟩:=m2 D _ ez
    refine .inl ⟨Y.stop _ H2 t12 (Nat.le_refl _),D,xs,rfl,ex,fun o=>?_⟩
    have t2f:Tk H2 (L2.upd H2 D (.frz o (.lst xs))):=.upd (fun ys z=>by rw[ex] at z;cases z) fun o' u z=>by rw[ex] at z;cases z
    refine k _ _ _ (dn μ2 D) ((t1.trans t12).trans t2f) (fun a o' ea=>?_) (.ls (.inl ⟨o,aP⟩) (lx.mono t2f)) hq
    have ha:a≠D:=fun z=>by subst z;unfold dn at ea;rw[if_pos rfl] at ea;cases ea
    have ea':μ2 a=some o':=by unfold dn at ea;rw[if_neg ha] at ea;exact ea
    exact (m2 a _ ea').ne t2f ha
end
end
section
open PySem PySem.Spec PyProof.Rows L2
def ij (fn:List (Str×NameKind))(XN:List Str)(sc:Scope)(Nc:List Str)(n:Nat)(caps:List Nat):Bool:=
  sc.names.all (fun y=>(y.2 != .free || fn.lookup y.1 == some .cell)&&y.2 != .cell&&(y.2 != .local || sc.names.lookup y.1 == some .local))&&sc.kind == .function&&Nc.length == n+caps.length &&
  (List.range caps.length).all fun j=>match caps[j]? with
    | some k=>(match XN[k]? with
      | some x=>Nc[n+j]? == some x&&sc.names.lookup x == some .free
      | none=>false)
    | none=>false
section
variable {X:Cx} {tg a b c e elt iter:Expr} {Ta Tb Te:ETr} {Tt:TTr} {pos:Pos} {It':ATr} {G:GTr}
theorem bD {ifs:List Expr}{scope fsc:Scope}(XN Nc:List Str)(n:Nat)(caps:List Nat)(hxe:X.xe=fun _ _=>False)(hcalm:X.calm=true)(hi:LI X tg iter It')
    (hbody:∀ (cl:List (Str×Addr)) (C:Addr) (s₀:Shared) (H₀:Hp) (ex:List Addr),LGc (ba X scope Nc cl C s₀ H₀ ex) n tg G∧vV (ba X scope Nc cl C s₀ H₀ ex) ifs Tt∧LE (ba X scope Nc cl C s₀ H₀ ex) elt Te)
    (hsc:X.env.scope=fsc) (hXN:X.N=XN) (hok:ij fsc.names XN scope Nc n caps=true)
    (hs:∀ x,foldedSetIterable iter X.env x=pure x:=by intro _;rfl) :
    LE X (.ListComp elt [⟨tg,iter,ifs,0⟩] scope pos) (bL It' G Tt Te n caps):=by
  unfold ij at hok
  simp only[Bool.and_eq_true,List.all_eq_true] at hok
  obtain ⟨⟨⟨h1,h2⟩,h3⟩,h4⟩:=hok
  refine LK hxe hcalm hi hbody (fun y hy hf=>?_) (fun y hy hf=>?_) (by simpa using h2) (fun y hy hf=>?_) (by simpa using h3) (fun j k hj=>?_) hs
  · have:=(h1 y hy).1.1
    show X.env.scope.names.lookup y.1=_
    rw[hsc]
    simpa[hf] using this
  · have:=(h1 y hy).1.2
    simp[hf] at this
  · have:=(h1 y hy).2
    simpa[hf] using this
  · have hl:j < caps.length:=(List.getElem?_eq_some_iff.mp hj).1
    have:=h4 j (List.mem_range.mpr hl)
    rw[hj] at this
    dsimp only at this
    rw[hXN]
    cases e:XN[k]? with
    | none=>rw[e] at this;cases this
    | some x=>
      rw[e] at this
      dsimp only at this
      rw[Bool.and_eq_true] at this
      exact ⟨x,by simpa using this.1,rfl,by simpa using this.2⟩
end
theorem nO:∀ {bs:List Bool} {us:List Value},Vals (bs.map V.bl) us→LSm.BoolsAre us bs
  | [],_,.nil=>.nil
  | b::r,_,.cons h t=>by
    cases (show _=Value.bool b from h)
    exact .cons b (nO t)
theorem DH {X:Cx}(hc:X.calm=true):cH X (.builtin "all") (fun xs H Q=>∃ (p:Addr) (ys:List V) (bs:List Bool),xs=[.ref p]∧SqL X.K H p ys∧ys=bs.map V.bl∧Q (.bl (bs.all id)) H):=fun pins s σ H xs us Q I rx ⟨p,ys,bs,e1,sq,e2,q⟩=>by
  subst e1 e2
  cases rx with | cons r1 r2=>
  cases r2
  cases (show _=Value.ref p from r1)
  obtain ⟨its,rv,pl,_⟩:=I.list sq
  have ils:s.heap.IsList p its.toArray:=by
    obtain ⟨o,n,h1,h2,_,h3⟩:=pl
    exact ⟨o,h1,h2,n,h3⟩
  have bls:=nO rv
  have hlt:p < s.heap.objs.size:=by obtain ⟨_,e,_⟩:=ils;exact Heap.lt_size e
  refine call_all_walk (wpAny_pyIter_list ils ?_)
  refine ⟨s.heap.objs.size,[s.heap.objs.size,p],[s.heap.objs.size],its.toArray.size,_,_,fun i=>(bs[i]?).getD true,rfl,Walks.list (A:=X.A.in1) (I.ok.hd hc) _ p (Nat.ne_of_lt hlt) its.toArray,
    ⟨⟨_,Heap.get?_push_size _ rfl,rfl,rfl⟩,ils.push _⟩,fun i v s' Q' E' gP gQ=>?_,fun h' tk hk=>?_⟩
  · obtain ⟨b,e,rfl⟩:=bls.get i v (by simpa using gP)
    simp only[e,Option.getD_some] at gQ
    exact wpAny_truthy_bool gQ
  · have e:((List.range its.toArray.size).all fun i=>(bs[i]?).getD true)=bs.all id:=by
      rw[List.size_toArray,bls.length];exact LSm.range_all bs
    rw[e]
    exact ⟨.bl _,H,I.kept (LSm.kept_iter hk),rfl,q⟩
theorem DpL.bools {K:PySem.W.Frag}{H:Hp}:∀ {xs:List V} {bs:List Bool},DpL K H xs (bs.map .bl)→xs=bs.map V.bl
  | _,[],.nil=>rfl
  | _,b::r,.cons h l=>by cases h;rw[DpL.bools l];rfl
theorem JQ {K:PySem.W.Frag}:lq K (fun xs H Q=>∃ (p:Addr) (ys:List V) (bs:List Bool),xs=[.ref p]∧SqL K H p ys∧ys=bs.map V.bl∧Q (.bl (bs.all id)) H) Lq:=fun H μ xs ds Q Q' m p h k=>by
  unfold Lq at h
  split at h
  · obtain ⟨bs,rfl,h⟩:=h
    cases p with | cons p1 p2=>cases p2;cases p1 with | ls q l=>exact ⟨_,_,bs,rfl,q.sq,l.bools,k _ H _ μ (.refl H) m (.bl _) h⟩
  · exact h.elim
end
section
open PySem PySem.Spec PyProof.Rows L2
def GV (K:PySem.W.Frag)(mg:Str→Option Value)(x:Str)(d:D):Prop:=∃ u v,mg x=some u∧RelV v u∧∀ H,Dp K H v d
theorem aC {X:Cx}{x:Str}{pos:Pos}{d:D}(hg:Gl X x)(h:GV X.K X.mg x d)(hd:(x == ("__debug__" : Str))=false:=by decide):LE X (.Name x pos) (TC d):=by
  obtain ⟨u,v,hm,r,p⟩:=h
  exact ⟨_,Jw hg hm r hd,fun σ H ρ μ Q Q' rl h k=>k v H d μ (.refl H) rl.mu (p H) h⟩
section
variable {K:PySem.W.Frag} {h:Heap} {mg:Str→Option Value} {x:Str}
theorem bw {i:Int}{t:Tok}(X:K.In h)(G:h.Ns mainGlobals mg)(a:PySem.W.nsIn K mainGlobals x=some (some (.int i t))):GV K mg x (.int i):=⟨_,.int i,PySem.W.mg_of X G a,⟨t,rfl⟩,fun _=>.int i⟩
theorem zN {p:Addr}{o:Obj}{its:Array Value}{n:Nat}{xs:List V}{ds:List D}(X:K.In h)(G:h.Ns mainGlobals mg)(a:PySem.W.nsIn K mainGlobals x=some (some (.ref p)))(l:K.lookup p=some o)(c:o.cls=.type "tuple")(dn:o.dict=none)(d:o.data=.seq its n)
    (z:its.size≤sizeLine) (r:Vals xs its.toList) (q:∀ H,DpL K H xs ds):GV K mg x (.tup ds):=⟨_,.ref p,PySem.W.mg_of X G a,rfl,fun H=>.tup (.inr ⟨o,its,n,l,c,dn,d,z,r⟩) (q H)⟩
end
def ko:ST→List Nat→List D→ST
  | ρ,i::is,d::ds=>ko (ρ.set i (some d)) is ds
  | ρ,_,_=>ρ
def fA (is:List Nat):GTr:=fun d ρ μ k=>match d with
  | .tup ds=>ds.length=is.length∧k (ko ρ is ds) μ
  | _=>False
def Sb (K:PySem.W.Frag)(t:TGs)(is:List Nat):Prop:=∀ σ H ρ μ vs ds (k:ST→Mu→Prop) (k':L2.St→Hp→Prop),Rl K σ H ρ μ→DpL K H vs ds→ds.length=is.length→k (ko ρ is ds) μ→wR K H k k'→t vs σ H k'
structure LGs (X:Cx) (es:List Expr) (is:List Nat):Prop where
  ex:∃ t,PGs X es t∧Sb X.K t is
section
variable {X:Cx} {e tg:Expr} {es:List Expr} {is:List Nat} {pos:Pos} {x:Str} {Ta:ETr} {G:GTr}
theorem iO:LGs X [] []:=⟨_,A3,fun σ H ρ μ vs ds k k' rl l hl h q=>by
  cases ds with
  | nil=>cases l;exact ⟨rfl,q _ _ _ _ (.refl H) rl h⟩
  | cons=>cases hl⟩
theorem bX (i:Nat)(hN:X.N.Nodup)(h2:LGs X es is)(hi:X.N[i]? = some x:=by rfl)(hx:Loc X.env.scope x:=by first | exact Or.inl rfl | exact Or.inr rfl)(hf:X.fn x=true∨X.env.scope.names.lookup x=some .local:=by first | exact .inl rfl | exact .inr rfl | assumption)
    (hs:(assignEach (.Name x pos::es) X.env).map (·.2)=assign (.Name x pos) X.env::(assignEach es X.env).map (·.2):=by rfl):LGs X (.Name x pos::es) (i::is):=by
  obtain ⟨t,pt,st⟩:=h2.ex
  refine ⟨_,vj (iK hN hi hx hf) pt hs,fun σ H ρ μ vs ds k k' rl l hl h q=>?_⟩
  cases l with
  | nil=>cases hl
  | @cons v d vs ds p l=>exact ⟨v,vs,rfl,st _ H _ μ vs ds k k' (rl.set p i) l (by simpa using hl) h q⟩
theorem kr {k:Nat}(hc:X.calm=true)(h:LGs X es is)(hn:(assignEach es X.env).length=is.length:=by rfl)(hst:(assignEach es X.env).findIdx? (·.1)=none:=by rfl):LG X (.Tuple es k pos) (fA is):=by
  obtain ⟨t,pt,st⟩:=h.ex
  refine ⟨_,GG hc pt hn hst,fun σ H ρ μ v d k k' rl p h q=>?_⟩
  cases p with
  | @tup a xs ds sq l=>exact ⟨a,xs,rfl,sq,by rw[l.length];exact h.1,st σ H ρ μ xs ds k k' rl l h.1 h.2 q⟩
  | _=>exact False.elim h
theorem AK (he:LE X e Ta)(hG:LG X tg G)(hs:swapsWithSole [tg] e pos.line X.env=pure false:=by rfl)(hw:swappedStores [tg] e X.env=pure none:=by rfl)
    (h1:(assignEach [tg] X.env).map (·.2)=[assign tg X.env]:=by rfl):LS X (.Assign [tg] e pos) (aN Ta G):=by
  obtain ⟨ta,pa,sa⟩:=he.ex
  obtain ⟨g,pg,sg⟩:=hG.ex
  exact ⟨_,Nr pa pg hs hw h1,fun σ H ρ μ E E' rl h k=>sa σ H ρ μ _ _ rl h fun v H' d μ' t' m' p' h'=>sg σ H' ρ μ' v d _ _ (rl.go t' m') p' h' (k.go t').nx⟩
end
end
section
open PySem PySem.Spec PyProof.Rows L2
def iG (tp:Bool)(h:Heap)(it a:Addr)(i:Nat):Prop:=match tp with
  | true=>h.IsTupleIter it a i
  | false=>h.IsListIter it a i
def gw (tp:Bool)(h:Heap)(a:Addr)(xs:Array Value):Prop:=match tp with
  | true=>h.IsTuple a xs
  | false=>h.IsList a xs
theorem iG.at {tp:Bool}{h g:Heap}{it a:Addr}{i:Nat}(x:iG tp h it a i)(k:∀ o,h.get? it=some o→g.get? it=some o):iG tp g it a i:=by
  cases tp with
  | true=>obtain ⟨o,e,r⟩:=x;exact ⟨o,k o e,r⟩
  | false=>obtain ⟨o,e,r⟩:=x;exact ⟨o,k o e,r⟩
theorem gw.at {tp:Bool}{h g:Heap}{a:Addr}{xs:Array Value}(x:gw tp h a xs)(k:∀ o,h.get? a=some o→g.get? a=some o):gw tp g a xs:=by
  cases tp with
  | true=>obtain ⟨o,e,r⟩:=x;exact ⟨o,k o e,r⟩
  | false=>obtain ⟨o,e,r⟩:=x;exact ⟨o,k o e,r⟩
theorem iG.ex {tp:Bool}{h:Heap}{it a:Addr}{i:Nat}(x:iG tp h it a i):∃ o,h.get? it=some o∧∃ vs,o.data=.fields vs:=by
  cases tp with
  | true=>obtain ⟨o,e,_,d⟩:=x;exact ⟨o,e,_,d⟩
  | false=>obtain ⟨o,e,_,d⟩:=x;exact ⟨o,e,_,d⟩
section
variable {prog:Program} {w:World} {A:Around} {E:Value→Shared→Prop} {s:Shared}
theorem Fo {it t:Addr}{i:Nat}{xs:Array Value}{x:Value}{Q:Value→Shared→Prop}(hi:s.heap.IsTupleIter it t i)(ht:s.heap.IsTuple t xs)(hx:xs[i]? = some x)
    (k:∀ g,g.IsTupleIter it t (i+1)→Heap.SameBut it s.heap g→Q x { s with heap:=g }):wpAny (model prog w) A (Builtin.SmallTypes.nextOf (.ref it)) Q E s:=by
  obtain ⟨ob,gb,cb,db⟩:=id hi
  obtain ⟨ot,gt,_,nt,dt⟩:=ht
  delta Builtin.SmallTypes.nextOf
  refine wpAny_bind (wpAny_callSpecial?_slot (name:=Str.ofString "__next__") hi.typeIs F.slot_tuple_iterator_next (wpAny_call_entry F.slot_tuple_iterator_next hi.typeIs F.entry_tuple_iterator_next ?_ (F.args_tuple_iterator_next_1 _)))
  refine wpAny_bind (m:=field (.ref it) 0) (wpAny_field gb db (x:=.ref t) rfl ?_)
  refine (show wpAny _ _ (if (Value.ref t == Value.none)=true then _ else _) _ _ s from ?_)
  rw[if_neg (show ¬ ((Value.ref t == Value.none)=true) by intro z;cases z)]
  refine wpAny_bind (m:=field (.ref it) 1) (wpAny_field gb db (x:=.int i 0) rfl ?_)
  refine wpAny_bind (m:=seqItems? (.ref t)) (wpAny_seqItems gt dt ?_)
  simp only[hx,Int.toNat_natCast]
  refine wpAny_bind (wpAny_setField gb db (by simp) (wpAny_pure ⟨x,rfl,wpAny_pure (k _ ⟨_,Heap.get?_update_self _ gb (Obj.isFreed_of_fields (Obj.data_mapFields db _)),(Obj.cls_mapFields ..).trans cb,?_⟩ (Heap.SameBut.update ..))⟩))
  rw[Obj.data_mapFields db];simp[rawInt]
theorem oM {tp:Bool}{it a:Addr}{i:Nat}{xs:Array Value}{x:Value}{Q:Value→Shared→Prop}(hi:iG tp s.heap it a i)(hs:gw tp s.heap a xs)(hx:xs[i]? = some x)
    (k:∀ g,iG tp g it a (i+1)→Heap.SameBut it s.heap g→Q x { s with heap:=g }):wpAny (model prog w) A (Builtin.SmallTypes.nextOf (.ref it)) Q E s:=by
  cases tp with
  | true=>exact Fo hi hs hx k
  | false=>exact wpAny_nextOf_list_item hi hs hx k
theorem K9 {it t:Addr}{i:Nat}{xs:Array Value}{Q:Value→Shared→Prop}(hh:A.handled=none)(hi:s.heap.IsTupleIter it t i)(ht:s.heap.IsTuple t xs)(hx:xs[i]? = none)
    (k:∀ g e,Heap.ExtBut it s.heap g→(∃ o,g.get? e=some o∧o.cls=.type "StopIteration")→E (.ref e) { s with heap:=g }):wpAny (model prog w) A (Builtin.SmallTypes.nextOf (.ref it)) Q E s:=by
  obtain ⟨ob,gb,cb,db⟩:=id hi
  obtain ⟨ot,gt,_,nt,dt⟩:=ht
  delta Builtin.SmallTypes.nextOf
  refine wpAny_bind (wpAny_callSpecial?_slot (name:=Str.ofString "__next__") hi.typeIs F.slot_tuple_iterator_next (wpAny_call_entry F.slot_tuple_iterator_next hi.typeIs F.entry_tuple_iterator_next ?_ (F.args_tuple_iterator_next_1 _)))
  refine wpAny_bind (m:=field (.ref it) 0) (wpAny_field gb db (x:=.ref t) rfl ?_)
  refine (show wpAny _ _ (if (Value.ref t == Value.none)=true then _ else _) _ _ s from ?_)
  rw[if_neg (show ¬ ((Value.ref t == Value.none)=true) by intro z;cases z)]
  refine wpAny_bind (m:=field (.ref it) 1) (wpAny_field gb db (x:=.int i 0) rfl ?_)
  refine wpAny_bind (m:=seqItems? (.ref t)) (wpAny_seqItems gt dt ?_)
  simp only[hx,Int.toNat_natCast]
  refine wpAny_bind (wpAny_rule (wpAny_bind (wpAny_setField gb db (by simp) (wpAny_bind (m:=newExc (.type "StopIteration") []) ?_))))
  simp only[newExc,newTuple]
  refine wpAny_bind (wpAny_newObj_type (wpAny_bind (m:=firstArgMember _ _) (wpAny_of_eq (a:=Value.none) (by first | rfl | (simp only[firstArgMember];rfl)) (wpAny_newObj_type ?_ (by size_fits)))) (by size_fits))
  simp only[raiseNew]
  refine wpAny_bind <| wpAny_handled ?_
  rw[(show A.in1.handled=none from hh)]
  exact wpAny_bind (wpAny_pure (wpAny_throw (k _ _ (((Heap.SameBut.update ..).extBut.push _).push _) ⟨_,Heap.get?_push_size _ rfl,rfl⟩)))
theorem AW {tp:Bool}{it a:Addr}{i:Nat}{xs:Array Value}{Q:Value→Shared→Prop}(hh:A.handled=none)(hi:iG tp s.heap it a i)(hs:gw tp s.heap a xs)(hx:xs[i]? = none)
    (k:∀ g e,Heap.ExtBut it s.heap g→(∃ o,g.get? e=some o∧o.cls=.type "StopIteration")→E (.ref e) { s with heap:=g }):wpAny (model prog w) A (Builtin.SmallTypes.nextOf (.ref it)) Q E s:=by
  cases tp with
  | true=>exact K9 hh hi hs hx k
  | false=>exact wpAny_nextOf_list_end hh hi hs hx k
structure Zp (z ti to i j a b:Addr):Prop where
  nd:[z,ti,to,i,j].Nodup
  na:a ∉ [z,to,i,j]
  nb:b ∉ [z,to,i,j]
structure ZAt (ta tb:Bool) (h:Heap) (z ti to i j a b:Addr) (k:Nat):Prop where
  zz:PySem.IsZip h z ti to .none
  zt:PySem.IsPair h ti (.ref i) (.ref j)
  zo:∃ u v,PySem.IsPair h to u v
  zi:iG ta h i a k
  zj:iG tb h j b k
theorem Cv {ta tb:Bool}{z ti to i j a b:Addr}{k:Nat}{xs ys:Array Value}{x y:Value}{Q:Option Value→Shared→Prop}(Z:Zp z ti to i j a b)(S:ZAt ta tb s.heap z ti to i j a b k)(ha:gw ta s.heap a xs)(hb:gw tb s.heap b ys)(hx:xs[k]? = some x)(hy:ys[k]? = some y)
    (q:∀ g,PySem.IsZip g z ti to (rawInt s.heap.objs.size)→PySem.IsPair g ti (.ref i) (.ref j)→PySem.IsPair g to x y→iG ta g i a (k+1)→iG tb g j b (k+1)→PySem.IsPair g s.heap.objs.size x y→
      (∀ c o,c≠z→c≠to→c≠i→c≠j→s.heap.get? c=some o→g.get? c=some o)→Q (some (.ref s.heap.objs.size)) { s with heap:=g }):wpAny (model prog w) A (pyNext (.ref z)) Q E s:=by
  obtain ⟨zz,zt,⟨u,v,zo⟩,zi,zj⟩:=S
  obtain ⟨nd,na,nb⟩:=Z
  simp only[List.nodup_cons,List.mem_cons,List.not_mem_nil,or_false,not_or] at nd na nb
  obtain ⟨⟨n1,n2,n3,n4⟩,⟨n5,n6,n7⟩,⟨n8,n9⟩,n10,_⟩:=nd
  obtain ⟨a1,a2,a3,a4⟩:=na
  obtain ⟨b1,b2,b3,b4⟩:=nb
  have hT:s.TypeIs (.ref z) "zip" := ⟨_,zz,rfl⟩
  unfold pyNext
  refine wpAny_bind (wpAny_attempt (wpAny_callSpecial?_slot (name:=Str.ofString "__next__") hT F.slot_zip_next (wpAny_call_entry F.slot_zip_next hT F.entry_zip_next ?_ (F.args_zip_next_1 _))))
  refine wpAny_bind (m:=field (.ref z) 2) (wpAny_field zz rfl (x:=.bool false) rfl ?_)
  refine wpAny_bind (m:=field (.ref z) 3) (wpAny_field zz rfl (x:=.ref ti) rfl (wpAny_bind (wpAny_seqItems zt rfl (wpAny_bind (m:=Builtin.SmallTypes.ownedTupleIsFree (.ref z)) ?_))))
  delta Builtin.SmallTypes.ownedTupleIsFree
  refine wpAny_bind (wpAny_field zz rfl (x:=.none) rfl (wpAny_pure ?_))
  simp only[if_true]
  refine wpAny_bind (wpAny_rule (wpAny_bind (wpAny_field zz rfl (x:=.ref to) rfl (wpAny_bind (wpAny_setField_rec zz (by simp) fun g1 zz1 k1=>wpAny_bind ?_)))))
  have zz1:PySem.IsZip g1 z ti to .ellipsis:=zz1
  simp only[List.zipIdx_nil,List.zipIdx_cons,List.forIn_nil,List.forIn_cons]
  refine wpAny_bind (wpAny_bind (wpAny_onRaise (wpAny_bind (m:=Builtin.SmallTypes.nextOf (.ref i)) (oM (s:={ s with heap:=g1 }) (zi.at fun o e=>(k1.2 i (Ne.symm n3)).trans e) (ha.at fun o e=>(k1.2 a a1).trans e) hx fun g2 zi2 k2=>wpAny_pure ?_))))
  have zo2:PySem.IsPair g2 to u v:=(k2.2 to n8).trans ((k1.2 to (Ne.symm n2)).trans zo)
  refine wpAny_bind (wpAny_seqItems zo2 rfl (wpAny_bind (PySem.wpAny_updateSeq_pair zo2 fun g3 zo3 k3=>wpAny_bind (wpAny_letGo (wpAny_pure ?_)))))
  have zo3:PySem.IsPair g3 to x v:=zo3
  refine wpAny_bind (wpAny_bind (wpAny_onRaise (wpAny_bind (m:=Builtin.SmallTypes.nextOf (.ref j)) (oM (s:={ s with heap:=g3 }) (zj.at fun o e=>(k3.2 j (Ne.symm n9)).trans ((k2.2 j (Ne.symm n10)).trans ((k1.2 j (Ne.symm n4)).trans e)))
    (hb.at fun o e=>(k3.2 b b2).trans ((k2.2 b b3).trans ((k1.2 b b1).trans e))) hy fun g4 zj4 k4=>wpAny_pure ?_))))
  have zo4:PySem.IsPair g4 to x v:=(k4.2 to n9).trans zo3
  refine wpAny_bind (wpAny_seqItems zo4 rfl (wpAny_bind (PySem.wpAny_updateSeq_pair zo4 fun g5 zo5 k5=>wpAny_bind (wpAny_letGo (wpAny_pure (wpAny_pure ?_))))))
  have zo5:PySem.IsPair g5 to x y:=zo5
  refine wpAny_bind (wpAny_seqItems zo5 rfl (wpAny_bind (wpAny_newTuple (wpAny_bind (m:=Builtin.SmallTypes.ownedTupleHandOut (.ref z) (.ref g5.objs.size)) ?_))))
  have sz:g5.objs.size=s.heap.objs.size:=by rw[k5.1,k4.1,k3.1,k2.1,k1.1]
  have zz5:PySem.IsZip g5 z ti to .ellipsis:=(k5.2 z n2).trans ((k4.2 z n4).trans ((k3.2 z n2).trans ((k2.2 z n3).trans zz1)))
  have zlt:z < g5.objs.size:=Heap.lt_size zz5
  delta Builtin.SmallTypes.ownedTupleHandOut
  have zz6:PySem.IsZip (g5.push { cls:=.type "tuple", data:=.seq #[x,y] }) z ti to .ellipsis:=Heap.get?_push_of_some _ zz5
  refine wpAny_bind (wpAny_setField_rec zz6 (by simp) fun g7 zz7 k7=>?_)
  have zz7:PySem.IsZip g7 z ti to (rawInt g5.objs.size):=zz7
  refine wpAny_setField_rec zz7 (by simp) fun g8 zz8 k8=>wpAny_pure ⟨_,rfl,wpAny_pure ?_⟩
  have up5:∀ c o,c≠z→g5.get? c=some o→g8.get? c=some o:=fun c o c1 e=>(k8.2 c c1).trans ((k7.2 c c1).trans (Heap.get?_push_of_some _ e))
  have QV:PySem.IsPair g8 g5.objs.size x y:=(k8.2 _ (Nat.ne_of_gt zlt)).trans ((k7.2 _ (Nat.ne_of_gt zlt)).trans (Heap.get?_push_size _ rfl))
  have zz8:PySem.IsZip g8 z ti to (rawInt g5.objs.size):=zz8
  rw[sz] at zz8 QV
  have all:∀ c o,c≠z→c≠to→c≠i→c≠j→s.heap.get? c=some o→g8.get? c=some o:=fun c o c1 c2 c3 c4 e=>up5 c o c1 ((k5.2 c c2).trans ((k4.2 c c4).trans ((k3.2 c c2).trans ((k2.2 c c3).trans ((k1.2 c c1).trans e)))))
  have fin:=q g8 zz8 (all ti _ (Ne.symm n1) n5 n6 n7 zt) (up5 to _ (Ne.symm n2) zo5) (zi2.at fun o e=>up5 i o (Ne.symm n3) ((k5.2 i (Ne.symm n8)).trans ((k4.2 i n10).trans ((k3.2 i (Ne.symm n8)).trans e)))) (zj4.at fun o e=>up5 j o (Ne.symm n4) ((k5.2 j (Ne.symm n9)).trans e)) QV all
  rw[← sz] at fin
  exact fin
theorem Gx {ta tb:Bool}{z ti to i j a b:Addr}{k:Nat}{xs ys:Array Value}{Q:Option Value→Shared→Prop}(hh:A.handled=none)(Z:Zp z ti to i j a b)(S:ZAt ta tb s.heap z ti to i j a b k)(ha:gw ta s.heap a xs)(hb:gw tb s.heap b ys)(he:xs[k]? = none∨ys[k]? = none)
    (q:∀ g,(∀ c o,c≠z→c≠to→c≠i→c≠j→s.heap.get? c=some o→g.get? c=some o)→Q none { s with heap:=g }):wpAny (model prog w) A (pyNext (.ref z)) Q E s:=by
  obtain ⟨zz,zt,⟨u,v,zo⟩,zi,zj⟩:=S
  obtain ⟨nd,na,nb⟩:=Z
  simp only[List.nodup_cons,List.mem_cons,List.not_mem_nil,or_false,not_or] at nd na nb
  obtain ⟨⟨n1,n2,n3,n4⟩,⟨n5,n6,n7⟩,⟨n8,n9⟩,n10,_⟩:=nd
  obtain ⟨a1,a2,a3,a4⟩:=na
  obtain ⟨b1,b2,b3,b4⟩:=nb
  have hT:s.TypeIs (.ref z) "zip" := ⟨_,zz,rfl⟩
  have stop:∀ g e,(∃ o,g.get? e=some o∧o.cls=.type "StopIteration")→(∀ c o,c≠z→c≠to→c≠i→c≠j→s.heap.get? c=some o→g.get? c=some o)→
      wpAny (model prog w) A (isInstance (.ref e) (.type "StopIteration") >>= fun y=>if y=true then pure none else throw (.ref e)) Q E { s with heap:=g }:=fun g e ⟨o,ho,hc⟩ al=>by
    refine wpAny_bind <| wpAny_isInstance (T := "StopIteration") (b:=true) ⟨o,ho,hc⟩ isSubtype_stop ?_
    exact wpAny_pure (q g al)
  unfold pyNext
  refine wpAny_bind (wpAny_attempt (wpAny_callSpecial?_slot (name:=Str.ofString "__next__") hT F.slot_zip_next (wpAny_call_entry F.slot_zip_next hT F.entry_zip_next ?_ (F.args_zip_next_1 _))))
  refine wpAny_bind (m:=field (.ref z) 2) (wpAny_field zz rfl (x:=.bool false) rfl ?_)
  refine wpAny_bind (m:=field (.ref z) 3) (wpAny_field zz rfl (x:=.ref ti) rfl (wpAny_bind (wpAny_seqItems zt rfl (wpAny_bind (m:=Builtin.SmallTypes.ownedTupleIsFree (.ref z)) ?_))))
  delta Builtin.SmallTypes.ownedTupleIsFree
  refine wpAny_bind (wpAny_field zz rfl (x:=.none) rfl (wpAny_pure ?_))
  simp only[if_true]
  refine wpAny_bind (wpAny_rule (wpAny_bind (wpAny_field zz rfl (x:=.ref to) rfl (wpAny_bind (wpAny_setField_rec zz (by simp) fun g1 zz1 k1=>wpAny_bind ?_)))))
  have zz1:PySem.IsZip g1 z ti to .ellipsis:=zz1
  simp only[List.zipIdx_nil,List.zipIdx_cons,List.forIn_nil,List.forIn_cons]
  have zi1:iG ta g1 i a k:=zi.at fun o e=>(k1.2 i (Ne.symm n3)).trans e
  have ha1:gw ta g1 a xs:=ha.at fun o e=>(k1.2 a a1).trans e
  refine wpAny_bind (wpAny_bind (wpAny_onRaise (wpAny_bind (m:=Builtin.SmallTypes.nextOf (.ref i)) ?_)))
  cases hx:xs[k]? with
  | none=>
    refine AW (s:={ s with heap:=g1 }) hh zi1 ha1 hx fun g2 e k2 he2=>?_
    obtain ⟨oe,ge,ce⟩:=he2
    have zz2:PySem.IsZip g2 z ti to .ellipsis:=k2 z _ n3 zz1
    have ez:e≠z:=fun y=>by subst y;rw[zz2] at ge;cases ge;simp at ce
    refine wpAny_setField_rec zz2 (by simp) fun g3 _ k3=>stop g3 e ⟨oe,(k3.2 e ez).trans ge,ce⟩ fun c o c1 _ c3 _ y=>(k3.2 c c1).trans (k2 c o c3 ((k1.2 c c1).trans y))
  | some x=>
    have hy:ys[k]? = none:=by rcases he with h | h;rw[hx] at h;cases h;exact h
    refine oM (s:={ s with heap:=g1 }) zi1 ha1 hx fun g2 zi2 k2=>wpAny_pure ?_
    have zo2:PySem.IsPair g2 to u v:=(k2.2 to n8).trans ((k1.2 to (Ne.symm n2)).trans zo)
    refine wpAny_bind (wpAny_seqItems zo2 rfl (wpAny_bind (PySem.wpAny_updateSeq_pair zo2 fun g3 zo3 k3=>wpAny_bind (wpAny_letGo (wpAny_pure ?_)))))
    refine wpAny_bind (wpAny_bind (wpAny_onRaise (wpAny_bind (m:=Builtin.SmallTypes.nextOf (.ref j)) (AW (s:={ s with heap:=g3 }) hh (zj.at fun o e=>(k3.2 j (Ne.symm n9)).trans ((k2.2 j (Ne.symm n10)).trans ((k1.2 j (Ne.symm n4)).trans e)))
      (hb.at fun o e=>(k3.2 b b2).trans ((k2.2 b b3).trans ((k1.2 b b1).trans e))) hy fun g4 e k4 he4=>?_))))
    obtain ⟨oe,ge,ce⟩:=he4
    have zz4:PySem.IsZip g4 z ti to .ellipsis:=k4 z _ n4 ((k3.2 z n2).trans ((k2.2 z n3).trans zz1))
    have ez:e≠z:=fun y=>by subst y;rw[zz4] at ge;cases ge;simp at ce
    refine wpAny_setField_rec zz4 (by simp) fun g5 _ k5=>stop g5 e ⟨oe,(k5.2 e ez).trans ge,ce⟩ fun c o c1 c2 c3 c4 y=>(k5.2 c c1).trans (k4 c o c4 ((k3.2 c c2).trans ((k2.2 c c3).trans ((k1.2 c c1).trans y))))
abbrev itO (tp:Bool)(a:Addr):Obj:={ cls:=.type (match tp with | true => "tuple_iterator" | false => "list_iterator"),data:=.fields #[.ref a,.int 0 0] }
theorem IP {tp:Bool}{a:Addr}{xs:Array Value}{Q:Value→Shared→Prop}(h:gw tp s.heap a xs)(q:Q (.ref s.heap.objs.size) { s with heap:=s.heap.push (itO tp a) }):wpAny (model prog w) A (pyIter (.ref a)) Q E s:=by
  cases tp with
  | true=>exact wpAny_pyIter_tuple h q
  | false=>exact wpAny_pyIter_list h q
abbrev zg1 (ta:Bool)(h:Heap)(a:Addr):Heap:=h.push (itO ta a)
abbrev zg2 (ta tb:Bool)(h:Heap)(a b:Addr):Heap:=(zg1 ta h a).push (itO tb b)
abbrev zg3 (ta tb:Bool)(h:Heap)(a b:Addr):Heap:=(zg2 ta tb h a b).push { cls:=.type "tuple", data:=.seq #[.ref h.objs.size,.ref (zg1 ta h a).objs.size] }
abbrev zg4 (ta tb:Bool)(h:Heap)(a b:Addr):Heap:=(zg3 ta tb h a b).push { cls:=.type "tuple", data:=.seq #[.none,.none] }
abbrev zg5 (ta tb:Bool)(h:Heap)(a b:Addr):Heap:=(zg4 ta tb h a b).push { cls:=.type "zip", data:=.fields #[.none,.bool false,.bool false,.ref (zg2 ta tb h a b).objs.size,.ref (zg3 ta tb h a b).objs.size] }
theorem Gg (ta tb:Bool)(a b:Addr)(xs ys:Array Value):Meets (Builtin.«zip.__new__» ⟨[.type "zip", .ref a,.ref b],[]⟩) (fun _ R s=>gw ta s.heap a xs∧gw tb s.heap b ys∧R (.ok (.ret (.ref (zg4 ta tb s.heap a b).objs.size))) { s with heap:=zg5 ta tb s.heap a b }):=
  .of_wp fun prog w A R s h=>by
    rcases s with ⟨hp,g,d,tk,os⟩
    obtain ⟨h1,h2,h⟩:=h
    have hs0:=PySem.sub_zip
    have H1:gw ta (Shared.heap ⟨hp,g,d,tk,os⟩) a xs:=h1
    have H2:gw tb (Shared.heap ⟨hp.push (itO ta a),g,d,tk,os⟩) b ys:=gw.at h2 fun o e=>Heap.get?_push_of_some _ e
    wp_walk using IP H1,IP H2
    exact ⟨_,rfl,h⟩
theorem Dh {ta tb:Bool}{a b:Addr}{xs ys:Array Value}{Q:Value→Shared→Prop}(h1:gw ta s.heap a xs)(h2:gw tb s.heap b ys)
    (q:∀ g,ZAt ta tb g (s.heap.objs.size+4) (s.heap.objs.size+2) (s.heap.objs.size+3) s.heap.objs.size (s.heap.objs.size+1) a b 0→(∀ c o,s.heap.get? c=some o→g.get? c=some o)→Q (.ref (s.heap.objs.size+4)) { s with heap:=g }) :
    wpAny (model prog w) A (call (.type "zip") [.ref a,.ref b]) Q E s:=by
  refine callType_new F.called_zip (by decide) (F.typeCall_zip_2 _ _) (F.newCall_zip_2 _ _) (fun obj=>F.args_object_init_3 obj _ _) F.entry_zip_new (Gg ta tb a b xs ys) ⟨h1,h2,?_⟩
  have s1:(zg1 ta s.heap a).objs.size=s.heap.objs.size+1:=Heap.size_push ..
  have s2:(zg2 ta tb s.heap a b).objs.size=s.heap.objs.size+2:=by rw[Heap.size_push,s1]
  have s3:(zg3 ta tb s.heap a b).objs.size=s.heap.objs.size+3:=by rw[Heap.size_push,s2]
  have s4:(zg4 ta tb s.heap a b).objs.size=s.heap.objs.size+4:=by rw[Heap.size_push,s3]
  have p5:(zg5 ta tb s.heap a b).get? (zg4 ta tb s.heap a b).objs.size=some _:=Heap.get?_push_size _ rfl
  have p4:(zg5 ta tb s.heap a b).get? (zg3 ta tb s.heap a b).objs.size=some _:=Heap.get?_push_of_some _ (Heap.get?_push_size _ rfl)
  have p3:(zg5 ta tb s.heap a b).get? (zg2 ta tb s.heap a b).objs.size=some _:=Heap.get?_push_of_some _ (Heap.get?_push_of_some _ (Heap.get?_push_size _ rfl))
  have p2:(zg5 ta tb s.heap a b).get? (zg1 ta s.heap a).objs.size=some (itO tb b):=Heap.get?_push_of_some _ (Heap.get?_push_of_some _ (Heap.get?_push_of_some _ (Heap.get?_push_size _ rfl)))
  have p1:(zg5 ta tb s.heap a b).get? s.heap.objs.size=some (itO ta a):=Heap.get?_push_of_some _ (Heap.get?_push_of_some _ (Heap.get?_push_of_some _ (Heap.get?_push_of_some _ (Heap.get?_push_size _ rfl))))
  have i1:iG ta (zg5 ta tb s.heap a b) s.heap.objs.size a 0:=by cases ta<;>exact ⟨_,p1,rfl,rfl⟩
  have i2:iG tb (zg5 ta tb s.heap a b) (zg1 ta s.heap a).objs.size b 0:=by cases tb<;>exact ⟨_,p2,rfl,rfl⟩
  show _∧_
  rw[s2,s3,s4] at p5
  rw[s1,s2] at p3
  rw[s3] at p4
  rw[s1] at i2
  rw[s4]
  exact ⟨⟨_,p5,rfl⟩,q _ ⟨p5,p3,⟨_,_,p4⟩,i1,i2⟩ fun c o x=>Heap.get?_push_of_some _ (Heap.get?_push_of_some _ (Heap.get?_push_of_some _ (Heap.get?_push_of_some _ (Heap.get?_push_of_some _ x))))⟩
end
def Sq (tp:Bool)(K:PySem.W.Frag)(H:Hp)(a:Addr)(xs:List V):Prop:=match tp with
  | true=>SqT K H a xs
  | false=>SqF K H a xs
theorem Inv.sq {X:Cx}{pins:List (Addr×Obj)}{σ:L2.St}{H:Hp}{s:Shared}{tp:Bool}{a:Addr}{xs:List V}(I:Inv X pins σ H s)(h:Sq tp X.K H a xs):∃ its:List Value,Vals xs its∧gw tp s.heap a its.toArray:=by
  cases tp with
  | true=>obtain ⟨its,r,p,_⟩:=I.tuple h;exact ⟨its,r,p⟩
  | false=>
    obtain ⟨its,r,⟨o,n,e1,e2,_,e3⟩,_⟩:=I.list (SqF.sq h)
    exact ⟨its,r,o,e1,e2,n,e3⟩
theorem Inv.Az {X:Cx}{pins:List (Addr×Obj)}{σ:L2.St}{H:Hp}{s:Shared}{tp:Bool}{a:Addr}{xs ys:List V}(I:Inv X pins σ H s)(h:Sq tp X.K H a xs)(h':Sq tp X.K H a ys):xs=ys:=by
  cases tp with
  | true=>exact I.tE h h'
  | false=>exact I.yz (SqF.sq h) (SqF.sq h')
def Itz (ta tb:Bool)(K:PySem.W.Frag)(a b:Addr):It:=
  ⟨fun i H=>∃ xs ys x y,Sq ta K H a xs∧Sq tb K H b ys∧xs[i]? = some x∧ys[i]? = some y,
   fun i H v H'=>∃ x y p,(∀ xs,Sq ta K H a xs→xs[i]? = some x)∧(∀ ys,Sq tb K H b ys→ys[i]? = some y)∧v=.ref p∧H p=none∧H'=L2.upd H p (.tup [x,y]),
   fun i H=>∃ xs ys,Sq ta K H a xs∧Sq tb K H b ys∧(xs.length≤i∨ys.length≤i)⟩
theorem Fp {P:Program}{w:World}{K:PySem.W.Frag}{es:List Expr}{ek:Nat}{ep:Pos}{ta tb:Bool}{z ti to i j a b:Addr}(Z:Zp z ti to i j a b) :
    Turn P w K (.Tuple es ek ep) (Itz ta tb K a b) [z,ti,to,i,j] z (fun k h=>ZAt ta tb h z ti to i j a b k) where
  mem:=by simp
  obj:=fun k h S c hc=>by
    obtain ⟨zz,zt,⟨u,v,zo⟩,zi,zj⟩:=S
    simp only[List.mem_cons,List.not_mem_nil,or_false] at hc
    rcases hc with rfl | rfl | rfl | rfl | rfl
    · exact ⟨_,zz,fun v y=>by cases y⟩
    · exact ⟨_,zt,fun v y=>by cases y⟩
    · exact ⟨_,zo,fun v y=>by cases y⟩
    · obtain ⟨o,e,vs,d⟩:=zi.ex;exact ⟨o,e,fun v y=>by rw[d] at y;cases y⟩
    · obtain ⟨o,e,vs,d⟩:=zj.ex;exact ⟨o,e,fun v y=>by rw[d] at y;cases y⟩
  keep:=fun k h g S kp=>by
    obtain ⟨zz,zt,⟨u,v,zo⟩,zi,zj⟩:=S
    exact ⟨kp z (by simp) _ zz,kp ti (by simp) _ zt,⟨u,v,kp to (by simp) _ zo⟩,zi.at fun o e=>kp i (by simp) o e,zj.at fun o e=>kp j (by simp) o e⟩
  item:=by
    intro X hP hw hK hc k pins s σ H E I hf S hg
    subst hP hw hK
    obtain ⟨xs,ys,x,y,qa,qb,ex,ey⟩:=hg
    obtain ⟨ia,ra,sa⟩:=Inv.sq I qa
    obtain ⟨ib,rb,sb⟩:=Inv.sq I qb
    obtain ⟨ux,hux,rx⟩:=ra.get ex
    obtain ⟨uy,huy,ry⟩:=rb.get ey
    refine Cv Z S sa sb (x:=ux) (y:=uy) (by simpa using hux) (by simpa using huy) fun g zz zt zo zi zj new al=>⟨_,rfl,wpAny_letOwnedTupleGo_zip zz fun g2 zz2 k2=>?_⟩
    have nd:=Z.nd
    simp only[List.nodup_cons,List.mem_cons,List.not_mem_nil,or_false,not_or] at nd
    obtain ⟨⟨n1,n2,n3,n4⟩,_⟩:=nd
    have zlt:z < s.heap.objs.size:=Heap.lt_size S.zz
    have fr:H s.heap.objs.size=none:=I.hok.fresh (Nat.le_refl _)
    have new2:PySem.IsPair g2 s.heap.objs.size ux uy:=(k2.2 _ (Nat.ne_of_gt zlt)).trans new
    have all:∀ c o,c ∉ [z,ti,to,i,j]→s.heap.get? c=some o→g2.get? c=some o:=fun c o hc e=>by
      simp only[List.mem_cons,List.not_mem_nil,or_false,not_or] at hc
      exact (k2.2 c hc.1).trans (al c o hc.1 hc.2.2.1 hc.2.2.2.1 hc.2.2.2.2 e)
    have nfp:∀ c u,H c=some u→c ∉ [z,ti,to,i,j]:=fun c u e hc=>by rw[(hf c hc).1] at e;cases e
    refine ⟨.ref s.heap.objs.size,L2.upd H s.heap.objs.size (.tup [x,y]),?_,rfl,⟨x,y,_,fun xs' q=>by rw[Inv.Az I q qa];exact ex,fun ys' q=>by rw[Inv.Az I q qb];exact ey,rfl,fr,rfl⟩,⟨zz2,(k2.2 ti (Ne.symm n1)).trans zt,⟨_,_,(k2.2 to (Ne.symm n2)).trans zo⟩,zi.at fun o e=>(k2.2 i (Ne.symm n3)).trans e,zj.at fun o e=>(k2.2 j (Ne.symm n4)).trans e⟩,fun c hc=>?_⟩
    · refine L2.Inv.step (s:=s) (H:=H) (H':=L2.upd H s.heap.objs.size (.tup [x,y])) (g':=s.gens) (d':=s.drawn) (t':=s.toks) (h':=g2) (ch:=[z,ti,to,i,j]) I (fun c hc=>⟨(hf c hc).2.2.2.1,(hf c hc).2.1,(hf c hc).2.2.2.2.1,(hf c hc).2.2.2.2.2⟩) (fun c o _ _ hc e _=>all c o hc e) (fun c o _ _ hc e _=>⟨o.slots,all c o hc e⟩) (fun c o hc e n=>?_) (fun c o hc e=>⟨o,all c o hc e⟩)
        (fun c xs e=>?_) (fun c o u e=>?_) (fun c ps e=>⟨#[],?_⟩) (fun m hm=>?_) (fun c u e=>?_) I.bare
      · rw[aO (Nat.ne_of_lt (Heap.lt_size e))];exact n
      · rw[aO (bu e fr)];exact e
      · rw[aO (bu e fr)];exact e
      · rw[aO (bu e fr),e];simp
      · obtain ⟨o,es',ep',ho,r⟩:=hm
        exact ⟨o,es',ep',all _ o (fun hc=>(hf _ hc).2.1 rfl) ho,r⟩
      · by_cases hcT:c=s.heap.objs.size
        · subst hcT
          rw[aP] at e;cases e
          exact ⟨by show 2≤sizeLine;decide,[ux,uy],.cons rx (.cons ry .nil),⟨_,new2⟩⟩
        · rw[aO hcT] at e
          refine (I.hok c u e).oi (fun c' v hc' q=>all c' v ?_ q) (fun c' q=>by rw[aO (bu q fr)];exact q) fun c' xs q=>by rw[aO (bu q fr)];exact q
          rcases hc' with rfl | hc'
          · exact nfp _ _ e
          · exact nfp _ _ hc'
    · have hcl:c≠s.heap.objs.size:=by
        obtain ⟨zz,zt,⟨u,v,zo⟩,zi,zj⟩:=S
        simp only[List.mem_cons,List.not_mem_nil,or_false] at hc
        rcases hc with rfl | rfl | rfl | rfl | rfl
        · exact Nat.ne_of_lt (Heap.lt_size zz)
        · exact Nat.ne_of_lt (Heap.lt_size zt)
        · exact Nat.ne_of_lt (Heap.lt_size zo)
        · obtain ⟨o,e,_⟩:=zi.ex;exact Nat.ne_of_lt (Heap.lt_size e)
        · obtain ⟨o,e,_⟩:=zj.ex;exact Nat.ne_of_lt (Heap.lt_size e)
      rw[aO hcl];exact (hf c hc).1
  done:=by
    intro X hP hw hK hc k pins s σ H E I hf S hg
    subst hP hw hK
    obtain ⟨xs,ys,qa,qb,he⟩:=hg
    obtain ⟨ia,ra,sa⟩:=Inv.sq I qa
    obtain ⟨ib,rb,sb⟩:=Inv.sq I qb
    have la:=ra.length
    have lb:=rb.length
    refine Gx (I.ok.hd hc) Z S sa sb (he.imp (fun h=>by simp;omega) fun h=>by simp;omega) fun g al=>⟨rfl,?_⟩
    have all:∀ c o,c ∉ [z,ti,to,i,j]→s.heap.get? c=some o→g.get? c=some o:=fun c o hc e=>by
      simp only[List.mem_cons,List.not_mem_nil,or_false,not_or] at hc
      exact al c o hc.1 hc.2.2.1 hc.2.2.2.1 hc.2.2.2.2 e
    have nfp:∀ c u,H c=some u→c ∉ [z,ti,to,i,j]:=fun c u e hc=>by rw[(hf c hc).1] at e;cases e
    refine L2.Inv.step (s:=s) (H:=H) (H':=H) (g':=s.gens) (d':=s.drawn) (t':=s.toks) (h':=g) (ch:=[z,ti,to,i,j]) I (fun c hc=>⟨(hf c hc).2.2.2.1,(hf c hc).2.1,(hf c hc).2.2.2.2.1,(hf c hc).2.2.2.2.2⟩) (fun c o _ _ hc e _=>all c o hc e) (fun c o _ _ hc e _=>⟨o.slots,all c o hc e⟩) (fun c o hc e n=>n) (fun c o hc e=>⟨o,all c o hc e⟩)
      (fun c xs e=>e) (fun c o u e=>e) (fun c ps e=>⟨#[],by rw[e];simp⟩) (fun m hm=>?_) (fun c u e=>?_) I.bare
    · obtain ⟨o,es',ep',ho,r⟩:=hm
      exact ⟨o,es',ep',all _ o (fun hc=>(hf _ hc).2.1 rfl) ho,r⟩
    · refine (I.hok c u e).oi (fun c' v hc' q=>all c' v ?_ q) (fun c' q=>q) fun c' xs q=>q
      rcases hc' with rfl | hc'
      · exact nfp _ _ e
      · exact nfp _ _ hc'
  self:=fun _ _ _ _ _ S h=>wpAny_pyIter_zip S.zz h
theorem Qq (n a b:Nat)(ha:a < n)(hb:b < n):Zp (n+4) (n+2) (n+3) n (n+1) a b:=by
  refine ⟨?_,?_,?_⟩
  · show ([n+4,n+2,n+3,n,n+1]:List Nat).Nodup
    simp only[List.nodup_cons,List.mem_cons,List.not_mem_nil,or_false,not_or,List.nodup_nil,and_true,not_false_eq_true]
    and_intros<;>omega
  · show a ∉ ([n+4,n+3,n,n+1]:List Nat)
    simp only[List.mem_cons,List.not_mem_nil,or_false,not_or]
    omega
  · show b ∉ ([n+4,n+3,n,n+1]:List Nat)
    simp only[List.mem_cons,List.not_mem_nil,or_false,not_or]
    omega
theorem Mm (n c:Nat)(h:c∈([n+4,n+2,n+3,n,n+1]:List Nat)):n≤c:=by
  simp only[List.mem_cons,List.not_mem_nil,or_false] at h
  omega
section
variable {X:Cx} {ea eb:Expr} {es:List Expr} {ek:Nat} {ep p pos:Pos}
def kQ (tp:Bool)(x:D)(f:List D→Prop):Prop:=match tp,x with
  | true,.tup ds=>f ds
  | false,.ls ds=>f ds
  | _,_=>False
theorem Au {K:PySem.W.Frag}{H:Hp}{tp:Bool}{v:V}{x:D}{f:List D→Prop}(p:Dp K H v x)(h:kQ tp x f):∃ a xs ds,v=.ref a∧Sq tp K H a xs∧DpL K H xs ds∧f ds:=by
  cases tp with
  | true=>cases p with
    | @tup a xs ds q l=>exact ⟨a,xs,ds,rfl,q,l,h⟩
    | _=>exact False.elim h
  | false=>cases p with
    | @ls a xs ds q l=>exact ⟨a,xs,ds,rfl,q,l,h⟩
    | _=>exact False.elim h
theorem Tk.sq {K:PySem.W.Frag}{H H':Hp}{tp:Bool}{a:Addr}{xs:List V}(t:Tk H H')(h:Sq tp K H a xs):Sq tp K H' a xs:=by
  cases tp with
  | true=>exact t.sqT h
  | false=>exact t.sqF h
end
end
section
open PySem PySem.Spec PyProof.Rows L2
def kObj (x:D)(f:Addr→Prop):Prop:=match x with
  | .obj a=>f a
  | _=>False
theorem iZ (a:Addr)(f):kObj (.obj a) f=f a:=rfl
section
variable {X:Cx} {o a b c e:Expr} {To Ta Tb Tc Te T T':ETr} {pos:Pos}
theorem LE.imp (h:LE X e T)(k:∀ ρ μ Q,T' ρ μ Q→T ρ μ Q):LE X e T':=by
  obtain ⟨t,p,s⟩:=h.ex
  exact ⟨t,p,fun σ H ρ μ Q Q' rl hh post=>s σ H ρ μ Q Q' rl (k _ _ _ hh) post⟩
theorem R5 {K:PySem.W.Frag}{H:Hp}{μ:Mu}{q:Addr}{u:HO}(m:bO K H μ)(t:Tk H (L2.upd H q u)):bO K (L2.upd H q u) (dn μ q):=fun z y ez=>by
  have zq:z≠q:=fun w=>by subst w;unfold dn at ez;rw[if_pos rfl] at ez;cases ez
  have ez':μ z=some y:=by unfold dn at ez;rw[if_neg zq] at ez;exact ez
  exact (m z _ ez').ne t zq
theorem kG {H:Hp}{q:Addr}{u:HO}{xs:List V}(ex:H q=some (.lst xs)):Tk H (L2.upd H q u):=
  .upd (fun ys z=>by rw[ex] at z;cases z) fun o' w z=>by rw[ex] at z;cases z
theorem Ei {K:PySem.W.Frag}{H:Hp}{μ:Mu}{q:Addr}{xs ys:List V}{ds:List D}(m:bO K H μ)(ex:H q=some (.lst xs))(l:DpL K H ys ds):bO K (L2.upd H q (.lst ys)) (up μ q (.lst ds)):=fun z y ez=>by
  by_cases zq:z=q
  · subst zq
    rw[aB] at ez;cases ez
    exact ⟨ys,aP,l.mono (kG ex)⟩
  · rw[aK zq] at ez
    exact (m z _ ez).ne (kG ex) zq
theorem AE {K:PySem.W.Frag}{H:Hp}{μ:Mu}{q:Addr}{ys:List V}{ds:List D}(m:bO K H μ)(hq:H q=none)(l:DpL K H ys ds):bO K (L2.upd H q (.lst ys)) (up μ q (.lst ds)):=fun z y ez=>by
  by_cases zq:z=q
  · subst zq
    rw[aB] at ez;cases ez
    exact ⟨ys,aP,l.mono (.new hq)⟩
  · rw[aK zq] at ez
    exact dk m hq z y ez
def tU (T:ETr):ETr:=fun ρ μ Q=>T ρ μ fun x μ1=>kObj x fun a=>kL μ1 a fun ds=>Q (.ls ds) (dn μ1 a)
theorem uD (h:LE X e T):LE X e (tU T):=by
  obtain ⟨t,p,s⟩:=h.ex
  refine ⟨_,kA p,fun σ H ρ μ Q Q' rl h k=>s σ H ρ μ _ _ rl h fun v H1 d μ1 t1 m1 p1 h1=>?_⟩
  cases p1 with
  | obj q=>
    obtain ⟨ds,e0,h2⟩:=bP h1
    obtain ⟨xs,ex,l⟩:=m1 q _ e0
    refine ⟨q,xs,rfl,ex,fun u=>?_⟩
    have t2:Tk H1 (L2.upd H1 q (.frz u (.lst xs))):=kG ex
    exact k _ _ _ (dn μ1 q) (t1.trans t2) (R5 m1 t2) (.ls (.inl ⟨u,aP⟩) (l.mono t2)) h2
  | _=>exact False.elim h1
def iT (To Te:ETr):ETr:=fun ρ μ Q=>To ρ μ fun x μ1=>kObj x fun a=>kL μ1 a fun _=>Te ρ μ1 fun y μ2=>kL μ2 a fun ds=>ds.length < 1000000∧Q .non (up μ2 a (.lst (ds++[y])))
theorem le_app {apos cpos:Pos}(ho:LE X o To)(he:LE X e Te)
    (hbase:attributeBase o (Str.ofString "append") X.env (eval o X.env)=eval o X.env:=by rfl)
    (hfew:((backTo cpos (starEach [e] X.env)).all (fun x=>!x.1)&&(backToKw cpos (keywordEach [] X.env)).all (fun x=>x.1.isSome)
      && decide ([e].length+([]:List Keyword).length+(if ([]:List Keyword).isEmpty then 0 else 1) < 30))=true:=by rfl)
    (hline:(apos.endLine == cpos.line)=true:=by rfl) (hs:starEach [e] X.env=(false,eval e X.env)::starEach [] X.env:=by rfl) (hplain:(backTo cpos (starEach [] X.env)).any (·.1)=false:=by rfl) :
    LE X (.Call (.Attribute o (Str.ofString "append") apos) [e] [] cpos) (iT To Te):=by
  obtain ⟨to,po,so⟩:=ho.ex
  obtain ⟨te,pe,se⟩:=he.ex
  refine ⟨_,BA PySem.F.plainAttrs_list PySem.F.slot_list_append PySem.F.type_list_append tf po (ff pe i9 hs) hbase hfew hline hs hplain,fun σ H ρ μ Q Q' rl h k=>so σ H ρ μ _ _ rl h fun x H1 dx μ1 t1 m1 p1 h1=>?_⟩
  cases p1 with
  | obj q=>
    obtain ⟨ds0,e0,h2⟩:=bP h1
    obtain ⟨xs0,ex0,_⟩:=m1 q _ e0
    refine ⟨.inl ⟨rfl,_,SqL.of ex0⟩,se σ H1 ρ μ1 _ _ (rl.go t1 m1) h2 fun y H2 dy μ2 t2 m2 p2 h3=>?_⟩
    obtain ⟨ds,e1,lz,h4⟩:=bP h3
    obtain ⟨xs,ex,l⟩:=m2 q _ e1
    exact ⟨q,xs,y,rfl,rfl,ex,by rw[l.length];exact Nat.lt_of_lt_of_le lz (by decide),k _ _ _ _ ((t1.trans t2).trans (kG ex)) (Ei m2 ex (l.append (.cons p2 .nil))) .non h4⟩
  | _=>exact False.elim h1
def a6:FSp:=fun ds μ Q=>match ds with
  | [.tup xs]=>Q (.tup xs) μ
  | [.ls xs]=>Q (.tup xs) μ
  | [.obj a]=>kL μ a fun xs=>Q (.tup xs) μ
  | _=>False
theorem aQ {K:PySem.W.Frag}:lq K (fun xs H Q=>∃ p ys,xs=[.ref p]∧((SqL K H p ys∧∀ l,H l=none→Q (.ref l) (L2.upd H l (.tup ys)))∨(SqT K H p ys∧Q (.ref p) H))) a6:=fun H μ xs ds Q Q' m p h k=>by
  unfold a6 at h
  split at h
  · cases p with | cons p1 p2=>cases p2;cases p1 with | tup q l=>exact ⟨_,_,rfl,.inr ⟨q,k _ H _ μ (.refl H) m (.tup q l) h⟩⟩
  · cases p with | cons p1 p2=>cases p2;cases p1 with | ls q l=>exact ⟨_,_,rfl,.inl ⟨q.sq,fun z hz=>k _ _ _ μ (.new hz) (dk m hz) (.tup (SqT.of aP) (l.mono (.new hz))) h⟩⟩
  · rename_i q
    cases p with | cons p1 p2=>
    cases p2;cases p1
    obtain ⟨ys,e0,h⟩:=bP h
    obtain ⟨xs,ex,l⟩:=m q _ e0
    exact ⟨_,_,rfl,.inl ⟨SqL.of ex,fun z hz=>k _ _ _ μ (.new hz) (dk m hz) (.tup (SqT.of aP) (l.mono (.new hz))) h⟩⟩
  · exact False.elim h
def jU:FSp:=fun ds μ Q=>match ds with
  | [.tup xs]=>∀ p,μ p=none→Q (.obj p) (up μ p (.lst xs))
  | [.ls xs]=>∀ p,μ p=none→Q (.obj p) (up μ p (.lst xs))
  | [.obj a]=>kL μ a fun xs=>∀ p,μ p=none→Q (.obj p) (up μ p (.lst xs))
  | _=>False
theorem sU {K:PySem.W.Frag}:lq K (fun xs H Q=>∃ p ys,xs=[.ref p]∧(SqL K H p ys∨SqT K H p ys)∧∀ l,H l=none→Q (.ref l) (L2.upd H l (.lst ys))) jU:=fun H μ xs ds Q Q' m p h k=>by
  unfold jU at h
  split at h
  · cases p with | cons p1 p2=>cases p2;cases p1 with | tup q l=>exact ⟨_,_,rfl,.inr q,fun z hz=>k _ _ _ _ (.new hz) (AE m hz l) (.obj _) (h z (m.free hz))⟩
  · cases p with | cons p1 p2=>cases p2;cases p1 with | ls q l=>exact ⟨_,_,rfl,.inl q.sq,fun z hz=>k _ _ _ _ (.new hz) (AE m hz l) (.obj _) (h z (m.free hz))⟩
  · rename_i q
    cases p with | cons p1 p2=>
    cases p2;cases p1
    obtain ⟨ys,e0,h⟩:=bP h
    obtain ⟨xs,ex,l⟩:=m q _ e0
    exact ⟨_,_,rfl,.inl (SqL.of ex),fun z hz=>k _ _ _ _ (.new hz) (AE m hz l) (.obj _) (h z (m.free hz))⟩
  · exact False.elim h
def jE:FSp:=fun ds μ Q=>match ds with
  | [.tup xs]=>Q (.ls xs) μ
  | [.ls xs]=>Q (.ls xs) μ
  | [.obj a]=>kL μ a fun xs=>Q (.ls xs) μ
  | _=>False
def P9 (Q:VK):VK:=fun v H1=>∃ a xs,v=.ref a∧H1 a=some (.lst xs)∧∀ o,Q v (L2.upd H1 a (.frz o (.lst xs)))
theorem gS {K:PySem.W.Frag}{H:Hp}{μ:Mu}{ys:List V}{ds:List D}{Q:DK}{Q':VK}{z:Addr}(m:bO K H μ)(l:DpL K H ys ds)(h:Q (.ls ds) μ)(k:jv K H Q Q')(hz:H z=none):P9 Q' (.ref z) (L2.upd H z (.lst ys)):=
  ⟨z,ys,rfl,aP,fun o=>by
    have e:L2.upd (L2.upd H z (.lst ys)) z (.frz o (.lst ys))=L2.upd H z (.frz o (.lst ys)):=BO
    rw[e]
    exact k _ _ _ μ (.new hz) (dk m hz) (.ls (.inl ⟨o,aP⟩) (l.mono (.new hz))) h⟩
theorem CB {K:PySem.W.Frag}:lq K (fun xs H Q=>∃ p ys,xs=[.ref p]∧(SqL K H p ys∨SqT K H p ys)∧∀ l,H l=none→P9 Q (.ref l) (L2.upd H l (.lst ys))) jE:=fun H μ xs ds Q Q' m p h k=>by
  unfold jE at h
  split at h
  · cases p with | cons p1 p2=>cases p2;cases p1 with | tup q l=>exact ⟨_,_,rfl,.inr q,fun z hz=>gS m l h k hz⟩
  · cases p with | cons p1 p2=>cases p2;cases p1 with | ls q l=>exact ⟨_,_,rfl,.inl q.sq,fun z hz=>gS m l h k hz⟩
  · rename_i q
    cases p with | cons p1 p2=>
    cases p2;cases p1
    obtain ⟨ys,e0,h⟩:=bP h
    obtain ⟨xs,ex,l⟩:=m q _ e0
    exact ⟨_,_,rfl,.inl (SqL.of ex),fun z hz=>gS m l h k hz⟩
  · exact False.elim h
theorem HU {x:Str}{p:Pos}{At:ATr}(hx:x = "list")(hg:Gl X x)(hm:X.mg x=none)(hv:bootBuiltins x=some (.type "list"))(ha:LA X [e] At)(hn:x ≠ "__name__" := by decide)(hdb:(x == ("__debug__" : Str))=false:=by decide)
    (h1:starEach [e] X.env=(false,eval e X.env)::starEach [] X.env:=by rfl) (h2:(backTo pos (starEach [] X.env)).any (·.1)=false:=by rfl):LE X (.Call (.Name x p) [e] [] pos) (av jE At):=by
  obtain ⟨ta,pa,sa⟩:=ha.ex
  exact ⟨_,kA (sT iP hg hm hv pa hn hdb h1 h2),fun σ H ρ μ Q Q' rl h k=>sa σ H ρ μ _ _ rl h fun xs H1 ds μ1 t1 m1 p1 h1=>CB H1 μ1 xs ds Q Q' m1 p1 h1 (k.go t1)⟩
def jg:D→Bool
  | .non=>true
  | .bl _=>true
  | .int _=>true
  | .str _=>true
  | _=>false
def inD (x:D)(xs:List D):Bool:=xs.any fun y=>eqD y x
def rIn (neg:Bool):DR2:=fun x y μ Q=>match y with
  | .tup xs=>(jg x=true∧xs.all jg=true)∧Q (.bl (if neg then !inD x xs else inD x xs)) μ
  | .ls xs=>(jg x=true∧xs.all jg=true)∧Q (.bl (if neg then !inD x xs else inD x xs)) μ
  | .obj a=>kL μ a fun xs=>(jg x=true∧xs.all jg=true)∧Q (.bl (if neg then !inD x xs else inD x xs)) μ
  | _=>False
end
end
section
open PySem PySem.Spec PyProof.Rows L2
section
variable {X:Cx} {a b e:Expr} {Ta Tb T:ETr} {pos:Pos}
def Ry (t:TE):TE:=fun σ H Q=>t σ H fun v H1=>Q v H1∨P9 Q v H1
theorem Bg {t:TE}(h:PE X e t):PE X e (Ry t):=by
  have g:PE X e (fun σ H Q=>∃ P:VK,Dl t σ H P∧∀ v H',P v H'→Q v H'):=fun pins s σ H Q I ⟨P,hP,k⟩=>
    thn (kA h pins s σ H P I hP) fun u s1 ⟨v,H1,I1,r,q⟩=>⟨v,H1,I1,r,k _ _ q⟩
  intro pins s σ H Q I hh
  refine thn (h pins s σ H _ I hh) fun u s1 ⟨v,H1,I1,r,q⟩=>?_
  rcases q with q | ⟨c,xs,rfl,ec,q⟩
  · exact ⟨v,H1,I1,r,q⟩
  · have hz:=I1.hok c _ ec
    obtain ⟨z,its,n,rv,hg⟩:=hz
    have nl:∀ d o,H1 d=some o→(∀ ys,o≠.lst ys)→d≠c:=fun d o e1 e2 w=>by subst w;rw[ec] at e1;cases e1;exact e2 _ rfl
    refine ⟨.ref c,_,I1.un (h':=s1.heap) (t':=s1.toks) (H':=L2.upd H1 c (.frz { cls:=.type "list", data:=.seq its.toArray n } (.lst xs))) ⟨fun d o e _ _ _=>e,fun d o e _ _ _=>⟨o.slots,e⟩,fun d o e w _=>?_,fun d o e _=>⟨o,e⟩,fun d ys e=>?_,fun d o u e=>?_,fun d ps e=>⟨#[],?_⟩⟩ (fun d u e=>?_),r,q _⟩
    · rw[aO (fun z=>by subst z;rw[ec] at w;cases w)];exact w
    · rw[aO (nl d _ e (fun _=>nofun))];exact e
    · rw[aO (nl d _ e (fun _=>nofun))];exact e
    · rw[aO (nl d _ e (fun _=>nofun)),e];simp
    · by_cases hd:d=c
      · subst hd
        rw[aP] at e;cases e
        exact ⟨hg,z,its,n,rv,hg⟩
      · rw[aO hd] at e
        refine (I1.hok d u e).oi (fun k w _ q=>q) (fun k q=>?_) fun k ys q=>?_
        · rw[aO (nl k _ q (fun _=>nofun))];exact q
        · rw[aO (nl k _ q (fun _=>nofun))];exact q
def MY (K:PySem.W.Frag):R2:=fun x y H Q=>∃ p q ys,x=.ref p∧y=.ref q∧SqT K H p []∧SqT K H q ys∧Q (.ref q) H
theorem JR:OpR X (binaryOp .Add) (MY X.K):=fun pins s σ H x y v u Q I rx ry ⟨p,q,ys,e1,e2,hp,hq,h⟩=>by
  subst e1 e2
  cases rx
  cases ry
  obtain ⟨its,r1,p1,_⟩:=I.tuple hp
  obtain ⟨its2,r2,p2,_⟩:=I.tuple hq
  cases r1
  obtain ⟨⟨c1,d1,t1,l1⟩,ho,hc,n,hd⟩:=id p1
  obtain ⟨⟨c2,d2,t2,l2⟩,ho2,hc2,n2,hd2⟩:=id p2
  simp only at hc hd hc2 hd2
  subst hc hd hc2 hd2
  exact concat_meets ⟨_,ho,rfl⟩ ⟨_,ho2,rfl⟩ noFill_tuple_add seq_tuple_add PySem.F.slot_tuple_add PySem.F.entry_tuple_add (PySem.F.args_tuple_add_2 _ _)
    (tuple_addW0 p q #[] its2.toArray n n2 d1 d2 l1 l2 rfl) ⟨ho,ho2,⟨.ref q,H,I,rfl,h⟩⟩
def MC (K:PySem.W.Frag):R2:=fun x y H Q=>∃ p q xs ys,x=.ref p∧y=.ref q∧SqL K H p xs∧SqL K H q ys∧xs.length+ys.length≤sizeLine∧∀ z,H z=none→Q (.ref z) (L2.upd H z (.lst (xs++ys)))
theorem Kq:OpR X (binaryOp .Add) (MC X.K):=fun pins s σ H x y v u Q I rx ry ⟨p,q,xs,ys,e1,e2,hp,hq,hz,h⟩=>by
  subst e1 e2
  cases rx
  cases ry
  obtain ⟨its,r1,p1,_⟩:=I.list hp
  obtain ⟨its2,r2,p2,_⟩:=I.list hq
  obtain ⟨⟨c1,d1,t1,l1⟩,n,ho,hc,hx,hd⟩:=id p1
  obtain ⟨⟨c2,d2,t2,l2⟩,n2,ho2,hc2,hx2,hd2⟩:=id p2
  simp only at hc hd hc2 hd2
  subst hc hd hc2 hd2
  have z1:=r1.length
  have z2:=r2.length
  refine concat_meets ⟨_,ho,rfl⟩ ⟨_,ho2,rfl⟩ PySem.noFill_list_add PySem.seq_list_add PySem.F.slot_list_add PySem.F.entry_list_add (PySem.F.args_list_add_2 _ _)
    (list_addW p q its.toArray its2.toArray n n2 d1 d2 l1 l2 (by rw[List.size_toArray,List.size_toArray];omega)) ⟨ho,ho2,?_⟩
  have ea:its.toArray++its2.toArray=(its++its2).toArray:=by simp
  rw[ea]
  exact ⟨.ref _,_,I.Sj (t':=s.toks) (r1.append r2) (by rw[List.length_append];omega),rfl,h _ I.fresh⟩
def aT:DR2:=fun x y μ Q=>match x,y with
  | .int i,.int j=>Q (.int (i+j)) μ
  | .str i,.str j=>i.length+j.length≤1000000∧Q (.str (i++j)) μ
  | .tup a,.tup b=>a.length+b.length≤1000000∧Q (.tup (a++b)) μ
  | .ls a,.ls b=>a.length+b.length≤1000000∧Q (.ls (a++b)) μ
  | _,_=>False
def rPl (K:PySem.W.Frag):R2:=fun x y H Q=>(rI0 fun i j=>.int (i+j)) x y H Q∨(∃ i j,x=.str i∧y=.str j∧i.length+j.length≤sizeLine∧Q (.str (i++j)) H)∨Mx K x y H Q∨MY K x y H Q∨MC K x y H Q
theorem Kn:OpR X (binaryOp .Add) (rPl X.K):=fun pins s σ H x y v u Q I rx ry h=>by
  rcases h with h | h | h | h | h
  · exact Nw pins s σ H x y v u Q I rx ry h
  · exact zf pins s σ H x y v u Q I rx ry h
  · exact L5 pins s σ H x y v u Q I rx ry h
  · exact JR pins s σ H x y v u Q I rx ry h
  · exact Kq pins s σ H x y v u Q I rx ry h
theorem aJ (ha:LE X a Ta)(hb:LE X b Tb):LE X (.BinOp a .Add b pos) (ak aT Ta Tb):=by
  obtain ⟨ta,pa,sa⟩:=ha.ex
  obtain ⟨tb,pb,sb⟩:=hb.ex
  refine ⟨_,Bg (Mv Kn pa pb),fun σ H ρ μ Q Q' rl h k=>sa σ H ρ μ _ _ rl h fun x H1 dx μ1 t1 m1 p1 h1=>sb σ H1 ρ μ1 _ _ (rl.go t1 m1) h1 fun y H2 dy μ2 t2 m2 p2 h2=>?_⟩
  have p1:=p1.mono t2
  have k:=k.go (t1.trans t2)
  cases p1 with
  | int i=>
    cases p2 with
    | int j=>exact .inl ⟨i,j,rfl,rfl,.inl (k _ H2 _ μ2 (.refl H2) m2 (.int _) h2)⟩
    | _=>exact False.elim h2
  | str i=>
    cases p2 with
    | str j=>exact .inr (.inl ⟨i,j,rfl,rfl,big h2.1,.inl (k _ H2 _ μ2 (.refl H2) m2 (.str _) h2.2)⟩)
    | _=>exact False.elim h2
  | @tup q xs ds sq l=>
    cases p2 with
    | @tup q' ys es sq' l'=>
      obtain ⟨hz,h3⟩:=h2
      by_cases hx:xs=[]
      · subst hx
        cases l
        exact .inr (.inr (.inr (.inl ⟨q,q',ys,rfl,rfl,sq,sq',.inl (k _ H2 _ μ2 (.refl H2) m2 (.tup sq' l') h3)⟩)))
      · refine .inr (.inr (.inl ⟨q,q',xs,ys,rfl,rfl,sq,sq',hx,by rw[l.length,l'.length];exact big hz,fun hy=>?_,fun _ z hzn=>.inl ?_⟩))
        · subst hy
          cases l'
          rw[List.append_nil] at h3
          exact .inl (k _ H2 _ μ2 (.refl H2) m2 (.tup sq l) h3)
        · exact k _ _ _ μ2 (.new hzn) (dk m2 hzn) (.tup (SqT.of aP) ((l.append l').mono (.new hzn))) h3
    | _=>exact False.elim h2
  | @ls q xs ds sq l=>
    cases p2 with
    | @ls q' ys es sq' l'=>exact .inr (.inr (.inr (.inr ⟨q,q',xs,ys,rfl,rfl,sq.sq,sq'.sq,by rw[l.length,l'.length];exact big h2.1,fun z hz=>.inr (gS m2 (l.append l') h2.2 k hz)⟩)))
    | _=>exact False.elim h2
  | _=>cases p2<;>exact False.elim h2
abbrev OTr:=ST→Mu→(Option Int→Mu→Prop)→Prop
def ONo:OTr:=fun _ μ Q=>Q none μ
def gh (T:ETr):OTr:=fun ρ μ Q=>T ρ μ fun x μ1=>kI x fun i=>Q (some i) μ1
def TR (K:PySem.W.Frag)(t:TO)(T:OTr):Prop:=∀ σ H ρ μ (Q:Option Int→Mu→Prop) (Q':Option Int→Hp→Prop),Rl K σ H ρ μ→T ρ μ Q→(∀ i H' μ',Tk H H'→bO K H' μ'→Q i μ'→Q' i H')→t σ H Q'
structure LO (X:Cx) (o:Option Expr) (T:OTr):Prop where
  ex:∃ t,PO X o t∧TR X.K t T
theorem fZ:LO X none ONo:=⟨_,LP,fun σ H ρ μ Q Q' rl h k=>k none H μ (.refl H) rl.mu h⟩
theorem da (h:LE X e T):LO X (some e) (gh T):=by
  obtain ⟨t,p,s⟩:=h.ex
  refine ⟨_,Mi p,fun σ H ρ μ Q Q' rl h k=>s σ H ρ μ _ _ rl h fun v H1 d μ1 t1 m1 p1 h1=>?_⟩
  cases p1 with
  | int i=>exact ⟨i,rfl,k _ H1 μ1 t1 m1 h1⟩
  | _=>exact False.elim h1
def cutD {α:Type}(xs:List α)(lo hi:Option Int):List α:=(xs.drop (HT.sIx xs.length 0 lo)).take (HT.sIx xs.length xs.length hi - HT.sIx xs.length 0 lo)
theorem Aj {α:Type}{xs:List α}{lo hi:Option Int}(h:HT.sIx xs.length 0 lo=0∧HT.sIx xs.length xs.length hi=xs.length):cutD xs lo hi=xs:=by
  unfold cutD;rw[h.1,h.2];simp
theorem DpL.take {K:PySem.W.Frag}{H:Hp}:∀ {vs:List V} {ds:List D} (n:Nat),DpL K H vs ds→DpL K H (vs.take n) (ds.take n)
  | _,_,0,_=>.nil
  | _,_,_+1,.nil=>.nil
  | _,_,n+1,.cons h l=>.cons h (DpL.take n l)
theorem DpL.drop {K:PySem.W.Frag}{H:Hp}:∀ {vs:List V} {ds:List D} (n:Nat),DpL K H vs ds→DpL K H (vs.drop n) (ds.drop n)
  | _,_,0,l=>l
  | _,_,_+1,.nil=>.nil
  | _,_,n+1,.cons _ l=>DpL.drop n l
theorem DpL.cut {K:PySem.W.Frag}{H:Hp}{vs:List V}{ds:List D}(lo hi:Option Int)(l:DpL K H vs ds):DpL K H (yj vs lo hi) (cutD ds lo hi):=by
  unfold yj cutD;rw[l.length];exact (l.drop _).take _
theorem xn {prog:Program}{w:World}{A:Around}{E:Value→Shared→Prop}{s:Shared}{t sl:Addr}{items:Array Value}{vl vu:Value}{lo hi:Option Int}{Q:Value→Shared→Prop}(ht:IsTup s.heap t items)(hs:s.heap.IsSliceOf sl vl vu .none)(pl:IsPart vl lo)(pu:IsPart vu hi)
    (hw:HT.sIx items.size 0 lo=0∧HT.sIx items.size items.size hi=items.size) (h:Q (.ref t) s):wpAny (model prog w) A (getItem (.ref t) (.ref sl)) Q E s:=by
  obtain ⟨os,hos,hcs,hds⟩:=id hs
  have hTs:s.TypeIs (.ref sl) "slice" := ⟨os,hos,hcs⟩
  unfold getItem
  try with_reducible refine wpAny_holding ?_
  first | refine wpAny_bind (wpAny_pure ?_) | skip
  refine wpAny_bind (wpAny_sequenceKey ht.typeIs (by decide) ?_)
  refine wpAny_bind (wpAny_callSpecial?_slot (name:=Str.ofString "__getitem__") ht.typeIs PyProof.Rows.slot_tuple_getitem (wpAny_call_entry PyProof.Rows.slot_tuple_getitem ht.typeIs entry_tuple_getitem ?_ (args_tuple_getitem _ _)))
  show wpAny _ _ (Builtin.Tuple.tupleItemsOf (.ref t) >>= _) _ _ s
  refine wpAny_bind (tupleItemsOf_ ht ?_)
  refine wpAny_bind <| wpAny_typeOf hTs ?_
  rw[if_pos (by decide)]
  refine wpAny_bind (HT.iF hs pl pu ?_)
  rw[hw.1,hw.2]
  refine (show wpAny _ _ (if (((0:Nat):Int) == 0&&(1:Int) == 1&&(items.size - 0) == items.size)=true then _ else _) _ _ s from ?_)
  rw[if_pos (by simp)]
  unfold Builtin.Tuple.tupleIsExact
  refine wpAny_bind (wpAny_bind (wpAny_typeOf ht.typeIs (wpAny_pure ?_)))
  rw[if_pos (by decide)]
  first
    | exact wpAny_bind (wpAny_rule (wpAny_bind (wpAny_pure (wpAny_pure ⟨_,rfl,wpAny_pure h⟩))))
    | exact wpAny_bind (wpAny_rule (wpAny_pure ⟨_,rfl,wpAny_pure h⟩))
    | exact wpAny_bind (wpAny_bind (wpAny_rule (wpAny_pure (wpAny_pure ⟨_,rfl,wpAny_pure h⟩))))
def Ud (K:PySem.W.Frag):V→Option Int→Option Int→Hp→VK→Prop:=fun x lo hi H Q=>∃ a xs,x=.ref a∧SqT K H a xs∧(HT.sIx xs.length 0 lo=0∧HT.sIx xs.length xs.length hi=xs.length)∧Q (.ref a) H
theorem Gj:SlR X (Ud X.K):=fun pins s σ H x v vl vu lo hi sl Q I rx hs pl pu ⟨q,xs,e,hx,hw,h⟩=>by
  subst e
  cases rx
  obtain ⟨its,r,ht,_⟩:=I.tuple hx
  have hlen:its.toArray.size=xs.length:=by rw[List.size_toArray];exact r.length.symm
  exact ⟨"tuple", _,PyProof.Rows.slot_tuple_getitem.lookup,ht.typeIs,xn ht hs pl pu (by rw[hlen];exact hw) ⟨.ref q,H,I,rfl,h⟩⟩
def rSl:D→Option Int→Option Int→Mu→DK→Prop:=fun x lo hi μ Q=>match x with
  | .tup xs=>Q (.tup (cutD xs lo hi)) μ
  | .ls xs=>Q (.ls (cutD xs lo hi)) μ
  | .obj a=>kL μ a fun xs=>Q (.ls (cutD xs lo hi)) μ
  | _=>False
def TSl (a:ETr)(lo hi:OTr):ETr:=fun ρ μ Q=>a ρ μ fun x μ1=>lo ρ μ1 fun l μ2=>hi ρ μ2 fun h μ3=>rSl x l h μ3 Q
theorem fO {lo hi:Option Expr}{Tl Th:OTr}{p2:Pos}(ha:LE X a Ta)(hl:LO X lo Tl)(hh:LO X hi Th):LE X (.Subscript a (.Slice lo hi none p2) pos) (TSl Ta Tl Th):=by
  obtain ⟨ta,pa,sa⟩:=ha.ex
  obtain ⟨tl,pl,sl⟩:=hl.ex
  obtain ⟨th,ph,sh⟩:=hh.ex
  refine ⟨_,Bg (EC (SlR.or Gj (SlR.or NQ Lm)) pa pl ph),fun σ H ρ μ Q Q' rl h k=>sa σ H ρ μ _ _ rl h fun x H1 dx μ1 t1 m1 p1 h1=>sl σ H1 ρ μ1 _ _ (rl.go t1 m1) h1 fun i H2 μ2 t2 m2 h2=>sh σ H2 ρ μ2 _ _ (rl.go (t1.trans t2) m2) h2 fun j H3 μ3 t3 m3 h3=>?_⟩
  have p1:=p1.mono (t2.trans t3)
  have k:=k.go (t1.trans (t2.trans t3))
  cases p1 with
  | @tup q xs ds sq l=>
    by_cases hw:HT.sIx xs.length 0 i=0∧HT.sIx xs.length xs.length j=xs.length
    · refine .inl ⟨q,xs,rfl,sq,hw,.inl (k _ H3 _ μ3 (.refl H3) m3 (.tup sq l) ?_)⟩
      rw[l.length] at hw
      have h3:Q (.tup (cutD ds i j)) μ3:=h3
      rw[Aj hw] at h3;exact h3
    · exact .inr (.inl ⟨q,xs,rfl,sq,hw,fun z hz=>.inl (k _ _ _ μ3 (.new hz) (dk m3 hz) (.tup (SqT.of aP) ((l.cut i j).mono (.new hz))) h3)⟩)
  | @ls q xs ds sq l=>exact .inr (.inr ⟨q,xs,rfl,sq.sq,fun z hz=>.inr (gS m3 (l.cut i j) h3 k hz)⟩)
  | obj q=>
    obtain ⟨ds,e0,h4⟩:=bP h3
    obtain ⟨xs,ex,l⟩:=m3 q _ e0
    exact .inr (.inr ⟨q,xs,rfl,SqL.of ex,fun z hz=>.inr (gS m3 (l.cut i j) h4 k hz)⟩)
  | _=>exact False.elim h3
theorem uY {α:Type}(xs:List α)(k:Nat):cutD xs none (some (k:Int))=xs.take k:=by
  unfold cutD
  rw[HT.vw,HT.BU,List.drop_zero,Nat.sub_zero]
  rcases Nat.le_total k xs.length with h | h
  · rw[Nat.min_eq_left h]
  · rw[Nat.min_eq_right h,List.take_length,List.take_of_length_le h]
theorem lZ {α:Type}(xs:List α)(k:Nat):cutD xs (some (k:Int)) none=xs.drop k:=by
  unfold cutD
  rw[HT.vw,HT.BU]
  rcases Nat.le_total k xs.length with h | h
  · rw[Nat.min_eq_left h,List.take_of_length_le (by rw[List.length_drop];omega)]
  · rw[Nat.min_eq_right h,List.drop_length,List.drop_of_length_le h];simp
end
end
section
open PySem PySem.Spec PyProof.Rows L2
theorem iX:∀ {us:List Value} {ns:List Int},IntsAre us ns→Vals (ns.map V.int) us
  | _,_,.nil=>.nil
  | _,_,.cons n t h=>.cons ⟨t,rfl⟩ (iX h)
def Oe (K:PySem.W.Frag):List V→Hp→VK→Prop:=fun xs H Q=>∃ (p:Addr) (ns:List Int),xs=[.ref p]∧SqL K H p (ns.map V.int)∧ns.length < 64∧∀ ns':List Int,ns'.Perm ns→ns'.Pairwise (·≤·)→∀ z,H z=none→Q (.ref z) (L2.upd H z (.lst (ns'.map V.int)))
theorem AS {X:Cx}:cH X (.builtin "sorted") (Oe X.K):=fun pins s σ H xs us Q I rx ⟨p,ns,e1,sq,hl,q⟩=>by
  subst e1
  obtain ⟨u,rfl,ru⟩:=vals1 rx
  cases ru
  obtain ⟨its,rv,pl,hz⟩:=I.list sq
  have hi:IntsAre its ns:=intsAre_of rv
  have hlen:its.length < 64:=by rw[hi.length];exact hl
  refine sorted_ints pl.isList hi hlen fun out ns' a1 a2 a3=>?_
  obtain ⟨n,en⟩:=sortedAll_at s.heap its out
  refine ⟨.ref _,_,I.laid (t':=s.toks) (o:=.lst (ns'.map V.int)) (fun b o e=>sortedAll_old e) (Nat.le_succ _) ?_,rfl,q ns' a2 a3 _ (I.hok.fresh (Nat.le_succ _))⟩
  have z1:ns'.length=ns.length:=a2.length_eq
  exact ⟨by rw[List.length_map,z1];exact Nat.le_of_lt (Nat.lt_of_lt_of_le hl (by decide)),out.toList,n,iX a1,by simpa[seqObj] using en⟩
theorem DpL.ints_of {K:PySem.W.Frag}{H:Hp}:∀ {xs:List V} {ns:List Int},DpL K H xs (ns.map .int)→xs=ns.map V.int
  | _,[],.nil=>rfl
  | _,n::r,.cons h l=>by cases h;rw[DpL.ints_of l];rfl
end
section
open PySem PySem.Spec PyProof.Rows L2
theorem _root_.L2.Inv.frz {X:Cx}{pins:List (Addr×Obj)}{σ:L2.St}{H:Hp}{s:Shared}{c:Addr}{xs:List V}(I1:Inv X pins σ H s)(ec:H c=some (.lst xs)):∃ o,Inv X pins σ (L2.upd H c (.frz o (.lst xs))) s:=by
  obtain ⟨z,its,n,rv,hg⟩:=I1.hok c _ ec
  have nl:∀ d o,H d=some o→(∀ ys,o≠.lst ys)→d≠c:=fun d o e1 e2 w=>by subst w;rw[ec] at e1;cases e1;exact e2 _ rfl
  refine ⟨_,I1.un (h':=s.heap) (t':=s.toks) (H':=L2.upd H c (.frz { cls:=.type "list", data:=.seq its.toArray n } (.lst xs))) ⟨fun d o e _ _ _=>e,fun d o e _ _ _=>⟨o.slots,e⟩,fun d o e w _=>?_,fun d o e _=>⟨o,e⟩,fun d ys e=>?_,fun d o u e=>?_,fun d ps e=>⟨#[],?_⟩⟩ (fun d u e=>?_)⟩
  · rw[aO (fun z=>by subst z;rw[ec] at w;cases w)];exact w
  · rw[aO (nl d _ e (fun _=>nofun))];exact e
  · rw[aO (nl d _ e (fun _=>nofun))];exact e
  · rw[aO (nl d _ e (fun _=>nofun)),e];simp
  · by_cases hd:d=c
    · subst hd
      rw[aP] at e;cases e
      exact ⟨hg,z,its,n,rv,hg⟩
    · rw[aO hd] at e
      refine (I1.hok d u e).oi (fun k w _ q=>q) (fun k q=>?_) fun k ys q=>?_
      · rw[aO (nl k _ q (fun _=>nofun))];exact q
      · rw[aO (nl k _ q (fun _=>nofun))];exact q
theorem Bj {X:Cx}{tg iter elt:Expr}{ifs:List Expr}{scope:Scope}{pos spos py:Pos}{y:Str}{iy:Nat}{wi:TI}{g:TG}{tt:TT}{te:TE}{Nc:List Str}{n:Nat}{caps:List Nat}
    (hxe:X.xe=fun _ _=>False) (hcalm:X.calm=true) (hi:PI X tg iter wi)
    (hbody:∀ (cl:List (Str×Addr)) (C:Addr) (s₀:Shared) (H₀:Hp) (ex:List Addr),PG (ba X scope Nc cl C s₀ H₀ ex) tg g∧yg (ba X scope Nc cl C s₀ H₀ ex) ifs tt∧PE (ba X scope Nc cl C s₀ H₀ ex) elt te)
    (hfree:∀ y∈scope.names,y.2=.free→X.env.kindOf y.1=some .cell) (hcell:∀ y∈scope.names,y.2≠.cell) (gD:scope.kind=.function)
    (hnames:∀ y∈scope.names,y.2=.local→scope.names.lookup y.1=some .local) (hlen:Nc.length=n+caps.length)
    (hcap:∀ (j k:Nat),caps[j]? = some k→∃ x,Nc[n+j]? = some x∧X.N[k]? = some x∧scope.names.lookup x=some .free)
    (pgy:PG X (.Name y py) (kM iy))
    (hsw:swapsWith (.ListComp elt [⟨tg,iter,ifs,0⟩] scope pos) (some (.Name y py)) spos.line X.env=pure true)
    (hs:∀ x,foldedSetIterable iter X.env x=pure x:=by intro _;rfl) :
    PS X (.Assign [.Name y py] (.ListComp elt [⟨tg,iter,ifs,0⟩] scope pos) spos) (Fs (Dl (kj wi g tt te n caps)) (kM iy)):=
  xT (Z:=Dl) hxe hcalm hi hbody hfree hcell gD hnames hlen hcap pgy hsw (fun σ H Q h=>⟨_,h,fun pins D H5 s5 I5 ⟨a,xs,ea,eH,q⟩=>by
    cases ea
    obtain ⟨o,I6⟩:=I5.frz eH
    exact ⟨_,fun b hb=>by rw[aO (fun z=>by rw[z,eH] at hb;cases hb)];exact hb,I6,q o⟩⟩) hs
theorem Ig {K:PySem.W.Frag}{wi:TI}{It':ATr}{G:GTr}{Tt:TTr}{Te:ETr}{n:Nat}{caps:List Nat}(si:PN K wi It'):Sim K (Dl (kj wi (lH K n G) (liftT K Tt) (lE K Te) n caps)) (bL It' G Tt Te n caps):=by
  intro σ H ρ μ Q Q' rl h k
  refine si σ H ρ μ _ _ rl h fun J H1 ds μ1 t1 m1 Y h1 D hD=>?_
  have hp:=h1 D (m1.free hD)
  have tD:Tk H1 (L2.upd H1 D (.lst [])):=.new hD
  have mD:bO K (L2.upd H1 D (.lst [])) (up μ1 D (.lst [])):=fun a o e=>by
    by_cases ha:a=D
    · subst ha
      rw[aB] at e;cases e
      exact ⟨[],aP,.nil⟩
    · rw[aK ha] at e
      exact dk m1 hD a o e
  refine ⟨fun i m ys H2=>m=ds.length - i∧i≤ds.length∧Tk H1 H2∧∃ μ2,bO K H2 μ2∧f9 D G Tt Te (fK ρ n caps) (fun μ'=>kL μ' D fun zs=>Q (.ls zs) (dn μ' D)) (ds.drop i) μ2,
    ⟨ds.length,by simp,Nat.zero_le _,tD,_,mD,by simpa using hp⟩,?_⟩
  rintro i m ys H2 ⟨rfl,hi,t12,μ2,m2,h2⟩
  by_cases hlt:i < ds.length
  · refine .inr ⟨Y.go i H2 t12 hlt,fun ys' H'=>Tk H1 H'∧∃ μ',bO K H' μ'∧f9 D G Tt Te (fK ρ n caps) (fun μ'=>kL μ' D fun zs=>Q (.ls zs) (dn μ' D)) (ds.drop (i+1)) μ',fun ys' H' ⟨t',μ',m',h'⟩=>⟨ds.length - (i+1),by omega,rfl,hlt,t',μ',m',h'⟩,fun x H3 y=>?_⟩
    obtain ⟨t23,⟨d,ed,pd⟩,mk⟩:=Y.yld i H2 x H3 t12 hlt y
    have e:ds.drop i=d::ds.drop (i+1):=by
      refine (List.drop_eq_getElem_cons hlt).trans ?_
      congr 1
      rw[List.getElem?_eq_getElem hlt] at ed
      exact Option.some.inj ed
    rw[e] at h2
    have t13:=t12.trans t23
    have r3:Rl K (kc σ n caps) H3 (fK ρ n caps) μ2:=oR (rl.go (t1.trans t13) (mk _ m2)) n caps
    refine ⟨_,_,d,_,r3,pd,h2,fun σ4 H4 ρ4 μ4 t4 r4 kp h4=>⟨⟨kp.1.symm,fun j v ej=>?_⟩,_,_,_,r4,h4,fun b H5 μ5 t5 m5 h5=>?_⟩⟩
    · by_cases hj:n≤j
      · rw[kp.2 j hj];exact ej
      · obtain ⟨j',k',e1,_⟩:=jA ej
        omega
    · have t15:=t13.trans (t4.trans t5)
      cases b with
      | false=>exact qX ⟨t15,μ5,m5,h5⟩
      | true=>
        refine ro ⟨_,_,_,r4.go t5 m5,h5,fun v H6 d6 μ6 t6 m6 p6 h6=>?_⟩
        obtain ⟨zs,ez,lz,h7⟩:=bP h6
        obtain ⟨xs,ex,lx⟩:=m6 D _ ez
        have t67:Tk H6 (L2.upd H6 D (.lst (xs++[v]))):=.upd (fun ys z=>by rw[ex] at z;cases z) fun o' u z=>by rw[ex] at z;cases z
        refine ⟨xs,ex,by rw[lx.length];exact Nat.lt_of_lt_of_le lz (by decide),(t15.trans t6).trans t67,up μ6 D (.lst (zs++[d6])),fun a o ea=>?_,h7⟩
        by_cases ha:a=D
        · subst ha
          rw[aB] at ea;cases ea
          exact ⟨_,aP,(lx.append (.cons p6 .nil)).mono t67⟩
        · rw[aK ha] at ea
          exact (m6 a _ ea).ne t67 ha
  · have e:i=ds.length:=by omega
    subst e
    rw[List.drop_length] at h2
    obtain ⟨zs,ez,hq⟩:=bP (show kL μ2 D fun zs=>Q (.ls zs) (dn μ2 D) from h2)
    obtain ⟨xs,ex,lx⟩:=m2 D _ ez
    refine .inl ⟨Y.stop _ H2 t12 (Nat.le_refl _),D,xs,rfl,ex,fun o=>?_⟩
    have t2f:Tk H2 (L2.upd H2 D (.frz o (.lst xs))):=.upd (fun ys z=>by rw[ex] at z;cases z) fun o' u z=>by rw[ex] at z;cases z
    refine k _ _ _ (dn μ2 D) ((t1.trans t12).trans t2f) (fun a o' ea=>?_) (.ls (.inl ⟨o,aP⟩) (lx.mono t2f)) hq
    have ha:a≠D:=fun z=>by subst z;unfold dn at ea;rw[if_pos rfl] at ea;cases ea
    have ea':μ2 a=some o':=by unfold dn at ea;rw[if_neg ha] at ea;exact ea
    exact (m2 a _ ea').ne t2f ha
theorem fz {X:Cx}{tg elt iter:Expr}{Te:ETr}{Tt:TTr}{pos spos py:Pos}{y:Str}{It':ATr}{G:GTr}{ifs:List Expr}{scope fsc:Scope}(iy:Nat)(hN:X.N.Nodup)(XN Nc:List Str)(n:Nat)(caps:List Nat)(hxe:X.xe=fun _ _=>False)(hcalm:X.calm=true)(hi:LI X tg iter It')
    (hbody:∀ (cl:List (Str×Addr)) (C:Addr) (s₀:Shared) (H₀:Hp) (ex:List Addr),LGc (ba X scope Nc cl C s₀ H₀ ex) n tg G∧vV (ba X scope Nc cl C s₀ H₀ ex) ifs Tt∧LE (ba X scope Nc cl C s₀ H₀ ex) elt Te)
    (hsc:X.env.scope=fsc) (hXN:X.N=XN) (hok:ij fsc.names XN scope Nc n caps=true)
    (hiy:X.N[iy]? = some y:=by rfl) (hx:Loc X.env.scope y:=by first | exact Or.inl rfl | exact Or.inr rfl) (hf:X.fn y=true∨X.env.scope.names.lookup y=some .local:=by first | exact .inl rfl | exact .inr rfl | assumption)
    (hsw:swapsWith (.ListComp elt [⟨tg,iter,ifs,0⟩] scope pos) (some (.Name y py)) spos.line X.env=pure true:=by rfl)
    (hs:∀ x,foldedSetIterable iter X.env x=pure x:=by intro _;rfl) :
    LS X (.Assign [.Name y py] (.ListComp elt [⟨tg,iter,ifs,0⟩] scope pos) spos) (aN (bL It' G Tt Te n caps) (aw iy)):=by
  unfold ij at hok
  simp only[Bool.and_eq_true,List.all_eq_true] at hok
  obtain ⟨⟨⟨h1,h2⟩,h3⟩,h4⟩:=hok
  obtain ⟨wi,pi,si⟩:=hi.ex
  refine ⟨_,Bj (g:=lH X.K n G) (tt:=liftT X.K Tt) (te:=lE X.K Te) hxe hcalm pi (fun cl C s₀ H₀ ex=>let ⟨h1,h2,h3⟩:=hbody cl C s₀ H₀ ex;⟨h1.pe,h2.pe,h3.pe⟩) (fun y hy hf=>?_) (fun y hy hf=>?_) (by simpa using h2) (fun y hy hf=>?_) (by simpa using h3) (fun j k hj=>?_) (iK hN hiy hx hf) hsw hs,fun σ H ρ μ E E' rl h k=>Ig si σ H ρ μ _ _ rl h fun v H' d μ' t' m' p' h'=>iJ iy σ H' ρ μ' v d _ _ (rl.go t' m') p' h' (k.go t').nx⟩
  · have:=(h1 y hy).1.1
    show X.env.scope.names.lookup y.1=_
    rw[hsc]
    simpa[hf] using this
  · have:=(h1 y hy).1.2
    simp[hf] at this
  · have:=(h1 y hy).2
    simpa[hf] using this
  · have hl:j < caps.length:=(List.getElem?_eq_some_iff.mp hj).1
    have:=h4 j (List.mem_range.mpr hl)
    rw[hj] at this
    dsimp only at this
    rw[hXN]
    cases e:XN[k]? with
    | none=>rw[e] at this;cases this
    | some x=>
      rw[e] at this
      dsimp only at this
      rw[Bool.and_eq_true] at this
      exact ⟨x,by simpa using this.1,rfl,by simpa using this.2⟩
end
section
open PySem PySem.Spec PyProof.Rows L2
section
variable {X:Cx} {ea:Expr} {es:List Expr} {ek:Nat} {ep p pos:Pos}
def kh (ds:List D):List D:=(List.range ds.length).zipWith (fun i d=>.tup [.int (i:Nat),d]) ds
def Qz (t:ATr):ATr:=fun ρ μ Q=>t ρ μ fun vs μ1=>match vs with
  | [.ls ds]=>Q (kh ds) μ1
  | _=>False
theorem sk (ds:List D)(i:Nat):(kh ds)[i]? = (ds[i]?).map fun d=>.tup [.int (i:Nat),d]:=by
  unfold kh
  rw[List.getElem?_zipWith]
  by_cases h:i < ds.length
  · rw[List.getElem?_range h,List.getElem?_eq_getElem h];rfl
  · rw[List.getElem?_eq_none_iff.mpr (by simpa using h),List.getElem?_eq_none_iff.mpr (by simpa using h)];rfl
theorem r9 (ds:List D):(kh ds).length=ds.length:=by unfold kh;simp
variable {eb:Expr} {tg:Expr} {Ta Tb:ETr}
end
end
section
open PySem PySem.Spec PyProof PyProof.Rows L2
theorem ip:∀ {us:List Value} {ns:List Int},IntsAre us ns→∃ ps:List (Int×Tok),us=ps.map (fun p=>Value.int p.1 p.2)∧ps.map Prod.fst=ns
  | _,_,.nil=>⟨[],⟨rfl,rfl⟩⟩
  | _,_,.cons n t h=>by
    obtain ⟨ps,e1,e2⟩:=ip h
    exact ⟨(n,t)::ps,by rw[e1];rfl,by rw[← e2];rfl⟩
theorem qd (ps:List (Int×Tok))(i:Nat):numAt ps.toArray i=((ps.map Prod.fst)[i]?).getD 0:=by
  unfold numAt
  simp only[List.getElem?_toArray,List.getElem?_map]
section
variable {X:Cx} {a b:Expr} {Ta Tb:ETr} {pos:Pos}
end
end
theorem tZ (i j:Int)(μ Q):aT (.int i) (.int j) μ Q=Q (.int (i+j)) μ:=rfl
theorem uA (i j:Str)(μ Q):aT (.str i) (.str j) μ Q=(i.length+j.length≤1000000∧Q (.str (i++j)) μ):=rfl
theorem tP (a b:List D)(μ Q):aT (.tup a) (.tup b) μ Q=(a.length+b.length≤1000000∧Q (.tup (a++b)) μ):=rfl
theorem uV (a b:List D)(μ Q):aT (.ls a) (.ls b) μ Q=(a.length+b.length≤1000000∧Q (.ls (a++b)) μ):=rfl
theorem ql (a:List D)(μ Q):a6 [.tup a] μ Q=Q (.tup a) μ:=rfl
theorem pM (a:List D)(μ Q):a6 [.ls a] μ Q=Q (.tup a) μ:=rfl
theorem pz (a:Addr)(μ Q):a6 [.obj a] μ Q=kL μ a fun xs=>Q (.tup xs) μ:=rfl
theorem qW (a:List D)(μ Q):jE [.tup a] μ Q=Q (.ls a) μ:=rfl
theorem pG (a:List D)(μ Q):jE [.ls a] μ Q=Q (.ls a) μ:=rfl
theorem p9 (a:Addr)(μ Q):jE [.obj a] μ Q=kL μ a fun xs=>Q (.ls xs) μ:=rfl
theorem qR (a:List D)(μ Q):jU [.tup a] μ Q = ∀ p,μ p=none→Q (.obj p) (up μ p (.lst a)):=rfl
theorem qv (a:List D)(μ Q):jU [.ls a] μ Q = ∀ p,μ p=none→Q (.obj p) (up μ p (.lst a)):=rfl
theorem qE (a:Addr)(μ Q):jU [.obj a] μ Q=kL μ a fun xs=>∀ p,μ p=none→Q (.obj p) (up μ p (.lst xs)):=rfl
theorem Hi (a:List D)(lo hi)(μ Q):rSl (.tup a) lo hi μ Q=Q (.tup (cutD a lo hi)) μ:=rfl
theorem HG (a:List D)(lo hi)(μ Q):rSl (.ls a) lo hi μ Q=Q (.ls (cutD a lo hi)) μ:=rfl
theorem Fm (a:Addr)(lo hi)(μ Q):rSl (.obj a) lo hi μ Q=kL μ a fun xs=>Q (.ls (cutD xs lo hi)) μ:=rfl
theorem Hf (n:Bool)(x:D)(a:List D)(μ Q):L3.rIn n x (.tup a) μ Q=((jg x=true∧a.all jg=true)∧Q (.bl (if n then !inD x a else inD x a)) μ):=rfl
theorem GA (n:Bool)(x:D)(a:List D)(μ Q):L3.rIn n x (.ls a) μ Q=((jg x=true∧a.all jg=true)∧Q (.bl (if n then !inD x a else inD x a)) μ):=rfl
theorem Fq (n:Bool)(x:D)(a:Addr)(μ Q):L3.rIn n x (.obj a) μ Q=kL μ a fun xs=>(jg x=true∧xs.all jg=true)∧Q (.bl (if n then !inD x xs else inD x xs)) μ:=rfl
theorem yS (a:Addr)(μ Q):eL [.obj a] μ Q=kL μ a fun xs=>Q (.int xs.length) μ:=rfl
theorem Av (x:Str)(μ Q):eL [.str x] μ Q=(x.length≤1000000∧Q (.int x.length) μ):=rfl
theorem Hz (μ Q):rIs .non .non μ Q=Q (.bl true) μ:=rfl
theorem Gh (i:Int)(μ Q):rIs (.int i) .non μ Q=Q (.bl false) μ:=rfl
theorem Ip (i:List D)(μ Q):rIs (.tup i) .non μ Q=Q (.bl false) μ:=rfl
theorem pP (μ Q):zP .non .non μ Q=Q (.bl false) μ:=rfl
theorem rh (i:Int)(μ Q):zP (.int i) .non μ Q=Q (.bl true) μ:=rfl
theorem qG (i:List D)(μ Q):zP (.tup i) .non μ Q=Q (.bl true) μ:=rfl
theorem AJ (c:String)(i:List D)(μ Q):gG c (.ls i) μ Q=Q (.bl (ft "list" c)) μ:=rfl
theorem AA (c:String)(i:Str)(μ Q):gG c (.str i) μ Q=Q (.bl (ft "str" c)) μ:=rfl
theorem y1 (c:String)(μ Q):gG c .non μ Q=Q (.bl (ft "NoneType" c)) μ:=rfl
theorem cY (k:Nat)(ds:List D):atD ds (k:Int)=ds[k]?:=by
  unfold atD L2.atI L2.ixN
  rw[if_pos (Int.natCast_nonneg k)]
  by_cases h:k < ds.length
  · rw[if_pos (by omega)];simp
  · rw[if_neg (by omega)];simp;omega
theorem yi (ds:List D):atD ds 0=ds[0]?:=cY 0 ds
theorem wJ (ds:List D):atD ds 1=ds[1]?:=cY 1 ds
theorem Ck (ds:List D):atD ds 2=ds[2]?:=cY 2 ds
theorem Cn (ds:List D):atD ds 3=ds[3]?:=cY 3 ds
theorem Cd (ds:List D):atD ds 4=ds[4]?:=cY 4 ds
theorem A9 (ds:List D):atD ds 5=ds[5]?:=cY 5 ds
theorem BD (n k:Nat):L2.ixN n (k:Int)=if k < n then some k else none:=by
  unfold L2.ixN
  rw[if_pos (Int.natCast_nonneg k)]
  by_cases h:k < n
  · rw[if_pos (by omega),if_pos h];simp
  · rw[if_neg (by omega),if_neg h]
theorem gs:ft "int" "int" = true:=by decide
theorem gr:ft "int" "bool" = false:=by decide
theorem gu:ft "bool" "bool" = true:=by decide
theorem gj:ft "bool" "int" = true:=by decide
theorem gq:ft "tuple" "tuple" = true:=by decide
theorem gn:ft "int" "tuple" = false:=by decide
theorem gi:ft "bool" "tuple" = false:=by decide
theorem fm0 {a n:Int}(h:0 < n):0≤a.fmod n:=Int.fmod_nonneg_of_pos a h
theorem fm1 {a n:Int}(h:0 < n):a.fmod n < n:=Int.fmod_lt_of_pos a h
theorem FD (A B:Prop):kIf true A B=A:=rfl
theorem Gp (A B:Prop):kIf false A B=B:=rfl
theorem GI (p:Prop) [Decidable p] (A B:Prop):kIf (decide p) A B=if p then A else B:=by by_cases h:p<;>simp[h,kIf]
theorem Gb (c:Bool)(A B:Prop):kIf (!c) A B=kIf c B A:=by cases c<;>rfl
theorem GR (c:Bool)(f):kB (.bl c) f=f c:=rfl
theorem Am (c:Int)(f):kI (.int c) f=f c:=rfl
theorem oS (c:D)(f):kO (some c) f=f c:=rfl
theorem zC (c:List D)(f):kS (.tup c) f=f c:=rfl
theorem HS (c:List D)(f):kS (.ls c) f=f c:=rfl
theorem y8 (a b:D)(f):k2 [a,b] f=f a b:=rfl
theorem um (c:Nat)(f):kN (some c) f=f c:=rfl
theorem A2 (μ:Mu)(a:Addr)(ds:List D)(f):kL (up μ a (.lst ds)) a f=f ds:=by unfold kL;rw[aB]
theorem RA {μ:Mu}{a:Addr}{ds:List D}(h:μ a=some (.lst ds))(f):kL μ a f=f ds:=by unfold kL;rw[h]
theorem oY (a:Addr)(n:Int)(y:D)(μ:Mu)(f):RG (.obj a) (.int n) y μ f=kL μ a fun ds=>kN (L2.ixN ds.length n) fun j=>f (up μ a (.lst (ds.set j y))):=rfl
theorem zd (i j:Int)(μ Q):iC (.int i) (.int j) μ Q=Q (.int (i - j)) μ:=rfl
theorem zD (i j:Int)(μ Q):hV (.int i) (.int j) μ Q=(MulOk i j∧Q (.int (i*j)) μ):=rfl
theorem zx (i j:Int)(μ Q):mL (.int i) (.int j) μ Q=(jf j∧Q (.int (i.fdiv j)) μ):=rfl
theorem AO (i j:Int)(μ Q):kU (.int i) (.int j) μ Q=(j≠0∧Q (.int (i.fmod j)) μ):=rfl
theorem Ay (i j:Int)(μ Q):Cz (.int i) (.int j) μ Q=(xr i j∧Q (.int (i ^ j.toNat)) μ):=rfl
theorem z9 (i:Int)(μ Q):Lr (.int i) μ Q=Q (.int (-i)) μ:=rfl
theorem G9 (i j:Int)(μ Q):rLt (.int i) (.int j) μ Q=Q (.bl (decide (i < j))) μ:=rfl
theorem EV (i j:Int)(μ Q):rLe (.int i) (.int j) μ Q=Q (.bl (decide (i≤j))) μ:=rfl
theorem EZ (i j:Int)(μ Q):rGt (.int i) (.int j) μ Q=Q (.bl (decide (j < i))) μ:=rfl
theorem Ic (i j:Int)(μ Q):rGe (.int i) (.int j) μ Q=Q (.bl (decide (j≤i))) μ:=rfl
theorem G2 (x y:D)(μ Q):L3.rEq x y μ Q=((okD 40 x=true∧okD 40 y=true)∧Q (.bl (eqD x y)) μ):=rfl
theorem Hu (x y:D)(μ Q):L3.rNe x y μ Q=((okD 40 x=true∧okD 40 y=true)∧Q (.bl (!eqD x y)) μ):=rfl
theorem o7 (ds:List D)(i:Int)(μ Q):L3.rIx (.tup ds) (.int i) μ Q=kO (atD ds i) fun d=>Q d μ:=rfl
theorem IE (ds:List D)(i:Int)(μ Q):L3.rIx (.ls ds) (.int i) μ Q=kO (atD ds i) fun d=>Q d μ:=rfl
theorem FX (a:Addr)(i:Int)(μ Q):L3.rIx (.obj a) (.int i) μ Q=kL μ a fun ds=>kO (atD ds i) fun d=>Q d μ:=rfl
theorem yI (c:String)(i:Int)(μ Q):gG c (.int i) μ Q=Q (.bl (ft "int" c)) μ:=rfl
theorem Ai (c:String)(i:Bool)(μ Q):gG c (.bl i) μ Q=Q (.bl (ft "bool" c)) μ:=rfl
theorem AU (c:String)(i:List D)(μ Q):gG c (.tup i) μ Q=Q (.bl (ft "tuple" c)) μ:=rfl
theorem AB (i:Int)(μ Q):EI [.int i] μ Q=Q (.int (if i < 0 then -i else i)) μ:=rfl
theorem yU (i j:Int)(μ Q):sA [.int i,.int j] μ Q=Q (.int (if j > i then j else i)) μ:=rfl
theorem zc (i j:Int)(μ Q):sC [.int i,.int j] μ Q=Q (.int (if j < i then j else i)) μ:=rfl
theorem y6 (i:Int)(μ Q):QX [.int i] μ Q=Q (.int i) μ:=rfl
theorem y3 (i:Bool)(μ Q):QX [.bl i] μ Q=Q (.int (if i then 1 else 0)) μ:=rfl
theorem y2 (i:List D)(μ Q):eL [.tup i] μ Q=Q (.int i.length) μ:=rfl
theorem yH (i:List D)(μ Q):eL [.ls i] μ Q=Q (.int i.length) μ:=rfl
local macro_rules | `(tactic| walk_at "rd")=>`(tactic| try simp only[ah,TC,ak,TUn,kg,FQ,E7,TB,w4,TOr,yt,jt,A1,ar,af,aX,ig,iW,av,bH,aD,As,FZ,dW,aY,Ia,c7,aw,aN,xE,zE,gK,gf,cQ, 
  FD,Gp,GI,Gb,GR,Am,oS,zC,HS,y8,um,A2,oY,tZ,uA,tP,uV,iT,iZ,tU,ql,pM,pz,qW,pG,p9,qR,qv,qE,TSl,ONo,gh,Hi,HG,Fm,Hf,GA,Fq,yS,Av,Hz,Gh,Ip,pP,rh,qG,AJ,AA,y1,zd,zD,zx,AO,Ay,z9,G9,EV,EZ,Ic,G2,Hu,o7,IE,FX,yI,Ai,AU,AB,yU,zc,y6,y3,y2,yH,
  lk,ini,List.map,List.length,List.replicate,List.append,List.set,List.cons_append,List.nil_append,Nat.sub_self,Nat.reduceSub,Nat.reduceAdd,
  yi,wJ,Ck,Cn,Cd,A9,List.getElem?_cons_zero,List.getElem?_cons_succ,aB,Nat.reduceLT,Nat.reduceLeDiff,if_true,if_false,true_and,and_true,Bool.not_true,Bool.not_false,Nat.lt_add_one,Nat.zero_lt_succ,Nat.succ_lt_succ_iff,Nat.zero_lt_one,
  decide_eq_true_eq,Bool.false_eq_true,ite_false,ite_true,ne_eq,not_false_eq_true,Int.reduceToNat,Int.reducePow,Int.reduceNeg,Int.reduceSub,Int.reduceAdd,Int.reduceMul,Int.reduceEq,okD,cS,eqD,oE,Bool.and_self,Bool.and_true,Bool.true_and,gs,gr,gu,gj,gq,gn,gi])
local macro_rules | `(tactic| walk_at "ok")=>`(tactic| (simp only[L3.jf,L3.MulOk,L3.S64,L3.iV,L3.xr] at *;omega))
def Box (μ:Mu)(b:Addr):Prop:=∃ g s c:Int,μ b=some (.lst [.int g,.int s,.int c])∧0≤s∧s < 2147483647
structure p8 (b:Addr) (μ μ':Mu):Prop where
  box:Box μ' b
  oth:∀ a,a≠b→μ' a=μ a
theorem p8.trans {b:Addr}{μ μ1 μ2:Mu}(x:p8 b μ μ1)(y:p8 b μ1 μ2):p8 b μ μ2:=⟨y.box,fun a h=>(y.oth a h).trans (x.oth a h)⟩
theorem xg (x y:Int):Int.gcd y (x.fmod y)=Int.gcd x y:=by
  rw[Int.fmod_def,Int.gcd_sub_mul_left_right,Int.gcd_comm]
theorem Hn (a:Int):(if a < 0 then -a else a)=(a.natAbs:Int):=by
  split<;>omega
def mz (i:Nat):ST→Mu→Nat:=fun ρ _=>match lk ρ i with
  | some (.int z)=>z.toNat
  | _=>0
structure Fr (p q:Int):Prop where
  q0:0 < q
  q1:q < 100000000000
  p0:-100000000000 < p
  p1:p < 100000000000
  g:Int.gcd p q=1
theorem jw {a b:Int}(h:0 < b):a.fdiv b=a / b:=Int.fdiv_eq_ediv_of_nonneg a (Int.le_of_lt h)
def fJ:FSp:=fun ds μ Q=>match ds with
  | [.ls xs]=>(∃ ns:List Int,xs=ns.map .int∧ns.length≤63)∧∀ μ',Q (.bl true) μ'
  | _=>False
theorem uu:∀ ds μ Q,fJ ds μ Q→ds.length=1:=by
  unfold fJ
  walk_at "ln"
theorem mw (ns:List Int)(h:ns.length≤63)(μ:Mu):fJ [.ls (ns.map .int)] μ (fun d _=>d=.bl true):=⟨⟨ns,rfl,h⟩,fun _=>rfl⟩
local macro_rules | `(tactic| walk_at "rd")=>`(tactic| try simp only[ah,TC,ak,TUn,kg,FQ,E7,TB,w4,TOr,yt,jt,A1,ar,af,aX,ig,iW,av,bH,aD,As,FZ,dW,aY,Ia,c7,aw,aN,xE,zE,gK,gf,cQ,bL,f9,fK,dM,Qi,ILs,
  FD,Gp,GI,Gb,GR,Am,oS,zC,HS,y8,um,A2,oY,tZ,uA,tP,uV,iT,iZ,tU,ql,pM,pz,qW,pG,p9,qR,qv,qE,TSl,ONo,gh,Hi,HG,Fm,Hf,GA,Fq,yS,Av,Hz,Gh,Ip,pP,rh,qG,AJ,AA,y1,zd,zD,zx,AO,Ay,z9,G9,EV,EZ,Ic,G2,Hu,o7,IE,FX,yI,Ai,AU,AB,yU,zc,y6,y3,y2,yH,
  lk,ini,List.map,List.length,List.replicate,List.append,List.set,List.cons_append,List.nil_append,Nat.sub_self,Nat.reduceSub,Nat.reduceAdd,
  yi,wJ,Ck,Cn,Cd,A9,List.getElem?_cons_zero,List.getElem?_cons_succ,aB,iH,Nat.reduceLT,Nat.reduceLeDiff,if_true,if_false,true_and,and_true,Bool.not_true,Bool.not_false,Nat.lt_add_one,Nat.zero_lt_succ,Nat.succ_lt_succ_iff,Nat.zero_lt_one,
  decide_eq_true_eq,Bool.false_eq_true,ite_false,ite_true,ne_eq,not_false_eq_true,Int.reduceToNat,Int.reducePow,Int.reduceNeg,Int.reduceSub,Int.reduceAdd,Int.reduceMul,Int.reduceEq,okD,cS,eqD,oE,Bool.and_self,Bool.and_true,Bool.true_and,gs,gr,gu,gj,gq,gn,gi])
structure IsPart (a b p q:Int):Prop where
  q0:0 < q
  g:Int.gcd p q=1
  e:p*b=a*q
  pa:p.natAbs≤a.natAbs
  qb:q.natAbs≤b.natAbs
theorem qD {g c:Int}(hg:0 < g):c.natAbs≤(g*c).natAbs:=by
  rw[Int.natAbs_mul]
  exact Nat.le_mul_of_pos_left _ (by omega)
theorem BJ {a b:Int}(hb:b≠0):IsPart a b (a.fdiv (if b < 0 then -(Int.gcd a b:Int) else Int.gcd a b)) (b.fdiv (if b < 0 then -(Int.gcd a b:Int) else Int.gcd a b)):=by
  have gp:0 < Int.gcd a b:=Int.gcd_pos_of_ne_zero_right a hb
  have gz:0 < (Int.gcd a b:Int):=by omega
  obtain ⟨c,hc⟩:=Int.gcd_dvd_left a b
  obtain ⟨d,hd⟩:=Int.gcd_dvd_right a b
  have g1:=Int.gcd_ediv_gcd_ediv_gcd gp
  have e1:a / (Int.gcd a b:Int)=c:=Int.ediv_eq_of_eq_mul_right (by omega) hc
  have e2:b / (Int.gcd a b:Int)=d:=Int.ediv_eq_of_eq_mul_right (by omega) hd
  rw[e1,e2] at g1
  generalize (Int.gcd a b:Int)=g at *
  clear e1 e2 gp
  subst hc hd
  have p1:=qD (c:=c) gz
  have p2:=qD (c:=d) gz
  split
  · rename_i hneg
    have d0:d < 0:=by
      rcases Int.lt_trichotomy d 0 with h | h | h
      · exact h
      · subst h;omega
      · have:=Int.mul_pos gz h;omega
    have x1:(g*c).fdiv (-g) = -c:=by rw[show g*c = -g * -c by rw[Int.neg_mul_neg]];exact Int.mul_fdiv_cancel_left _ (by omega)
    have x2:(g*d).fdiv (-g) = -d:=by rw[show g*d = -g * -d by rw[Int.neg_mul_neg]];exact Int.mul_fdiv_cancel_left _ (by omega)
    rw[x1,x2]
    refine ⟨by omega,by rw[Int.neg_gcd,Int.gcd_neg];exact g1,?_,by omega,by omega⟩
    rw[Int.neg_mul,Int.mul_neg,Int.mul_left_comm,Int.mul_assoc]
  · rename_i hneg
    have d0:0 < d:=by
      rcases Int.lt_trichotomy d 0 with h | h | h
      · have:=Int.mul_neg_of_pos_of_neg gz h;omega
      · subst h;omega
      · exact h
    have x1:(g*c).fdiv g=c:=Int.mul_fdiv_cancel_left _ (by omega)
    have x2:(g*d).fdiv g=d:=Int.mul_fdiv_cancel_left _ (by omega)
    rw[x1,x2]
    refine ⟨d0,g1,?_,by omega,by omega⟩
    rw[Int.mul_left_comm,Int.mul_assoc]
theorem Js {p q p' q':Int}(q0:0 < q)(q0':0 < q')(g:Int.gcd p q=1)(g':Int.gcd p' q'=1)(e:p*q'=p'*q):p=p'∧q=q':=by
  have h1:q ∣ q':=by
    have:q ∣ p*q':=⟨p',by rw[e,Int.mul_comm]⟩
    have h:=Int.dvd_gcd_mul_iff_dvd_mul.mpr this
    rw[Int.gcd_comm,g] at h
    simpa using h
  have h2:q' ∣ q:=by
    have:q' ∣ p'*q:=⟨p,by rw[← e,Int.mul_comm]⟩
    have h:=Int.dvd_gcd_mul_iff_dvd_mul.mpr this
    rw[Int.gcd_comm,g'] at h
    simpa using h
  have e3:q=q':=Int.dvd_antisymm (by omega) (by omega) h1 h2
  subst e3
  exact ⟨Int.eq_of_mul_eq_mul_right (by omega) e,rfl⟩
theorem IsPart.same {a b p q a' b' p' q':Int}(h:IsPart a b p q)(h':IsPart a' b' p' q')(hb:b≠0)(hb':b'≠0)(e:a*b'=a'*b):p=p'∧q=q':=by
  refine Js h.q0 h'.q0 h.g h'.g ?_
  have e1:=h.e
  have e2:=h'.e
  have x:(p*q')*(b*b')=(p'*q)*(b*b'):=by
    calc (p*q')*(b*b')=(p*b)*(q'*b'):=by ac_rfl
      _=(a*q)*(q'*b'):=by rw[e1]
      _=(a*b')*(q*q'):=by ac_rfl
      _=(a'*b)*(q*q'):=by rw[e]
      _=(a'*q')*(q*b):=by ac_rfl
      _=(p'*b')*(q*b):=by rw[e2]
      _=(p'*q)*(b*b'):=by ac_rfl
  exact Int.eq_of_mul_eq_mul_right (Int.mul_ne_zero hb hb') x
def dG:FSp:=fun ds μ Q=>match ds with
  | [.int a,.int b]=>Q (.int (Int.gcd a b)) μ
  | _=>False
theorem rV:∀ ds μ Q,dG ds μ Q→ds.length=2:=by
  unfold dG
  walk_at "ln"
def ng:STr:=aD (aN (av EI (af (ah 0) (ar))) (aw 2)) (aD (aN (av EI (af (ah 1) (ar))) (aw 3)) (aD (uH (TB (ak rGt (ah 3) (TC (.int 0)))) (aD (aN (ak kU (ah 2) (ah 3)) (aw 4)) (aD (aN (ah 3) (aw 2)) (aN (ah 4) (aw 3))))) (aY (ah 2))))
theorem ur:∀ ds μ Q,dG ds μ Q→ng { nx:=fun _ μ'=>RT Q .non μ',rt:=RT Q } (ini 5 ds) μ:=by
  intro ds μ Q k
  unfold dG at k
  split at k
  case h_2=>exact k.elim
  rename_i a b
  unfold ng
  walk_at "rd"
  refine ⟨fun ρ μ'=>μ'=μ∧∃ (x y:Int) (z:Option D),ρ=[some (.int a),some (.int b),some (.int x),some (.int y),z]∧0≤x∧0≤y∧Int.gcd x y=Int.gcd a b,mz 3,⟨rfl,_,_,_,rfl,?_,?_,?_⟩,?_⟩
  · split<;>omega
  · split<;>omega
  · rw[Hn,Hn];unfold Int.gcd;rw[Int.natAbs_natCast,Int.natAbs_natCast]
  · rintro ρ _ ⟨rfl,x,y,z,rfl,x0,y0,e⟩
    walk_at "rd"
    split
    · rename_i hy
      refine ⟨by omega,⟨_,_,_,rfl,y0,fm0 hy,?_⟩,?_⟩
      · rw[xg];exact e
      · have:=fm1 (a:=x) hy
        have:=fm0 (a:=x) hy
        simp only[mz,lk]
        omega
    · rename_i hy
      have hy0:y=0:=by omega
      subst hy0
      rw[Int.gcd_zero_right] at e
      have hx:x=(Int.gcd a b:Int):=by omega
      subst hx
      exact ⟨_,.refl _,k⟩
def fM:FSp:=fun ds μ Q=>match ds with
  | [.int a,.int b]=>(b≠0∧iV b)∧∀ p q,IsPart a b p q→Q (.tup [.int p,.int q]) μ
  | _=>False
theorem II:∀ ds μ Q,fM ds μ Q→ds.length=2:=by
  unfold fM
  walk_at "ln"
def El:STr:=aD (aN (av dG (af (ah 0) (af (ah 1) (ar)))) (aw 2)) (aD (c7 (TB (ak rLt (ah 1) (TC (.int 0)))) (aN (TUn Lr (ah 2)) (aw 2)) (bH)) (aY (aX (af (ak mL (ah 0) (ah 2)) (af (ak mL (ah 1) (ah 2)) (ar))))))
theorem IU:∀ ds μ Q,fM ds μ Q→El { nx:=fun _ μ'=>RT Q .non μ',rt:=RT Q } (ini 3 ds) μ:=by
  intro ds μ Q h
  unfold fM at h
  split at h
  case h_2=>exact h.elim
  rename_i a b
  obtain ⟨⟨hb,hm⟩,k⟩:=h
  have P:=k _ _ (BJ (a:=a) hb)
  have gp:0 < Int.gcd a b:=Int.gcd_pos_of_ne_zero_right a hb
  have gl:Int.gcd a b≤b.natAbs:=Int.gcd_le_natAbs_right a hb
  unfold El
  walk_at "rd"
  show (if b < 0 then _ else _)
  split
  · rename_i hn
    rw[if_pos hn] at P
    have dv:jf (-(Int.gcd a b:Int)):=by walk_at "ok"
    exact ⟨dv,dv,_,.refl _,P⟩
  · rename_i hn
    rw[if_neg hn] at P
    have dv:jf (Int.gcd a b:Int):=by walk_at "ok"
    exact ⟨dv,dv,_,.refl _,P⟩
structure FrB (lo hi p q:Int):Prop where
  q0:0 < q
  q1:q≤10000002
  g:Int.gcd p q=1
  ge:lo*q≤p
  le:p≤hi*q
structure FrA (lo hi p q:Int):Prop extends FrB lo hi p q where
  ab:lo*q < p
structure FrL (hi p q:Int):Prop extends FrB 0 hi p q where
  ab:0 < p
  be:p < hi*q
theorem l8 {a b:Int}(b0:0 < b):∃ g p q:Int,0 < g∧a=g*p∧b=g*q∧a.fdiv (Int.gcd a b)=p∧b.fdiv (Int.gcd a b)=q∧0 < q∧q≤b∧Int.gcd p q=1:=by
  have gp:0 < Int.gcd a b:=Int.gcd_pos_of_ne_zero_right a (by omega)
  have gz:0 < (Int.gcd a b:Int):=by omega
  obtain ⟨c,hc⟩:=Int.gcd_dvd_left a b
  obtain ⟨d,hd⟩:=Int.gcd_dvd_right a b
  have g1:=Int.gcd_ediv_gcd_ediv_gcd gp
  have e1:a / (Int.gcd a b:Int)=c:=Int.ediv_eq_of_eq_mul_right (by omega) hc
  have e2:b / (Int.gcd a b:Int)=d:=Int.ediv_eq_of_eq_mul_right (by omega) hd
  rw[e1,e2] at g1
  refine ⟨_,c,d,gz,hc,hd,by rw[jw gz];exact e1,by rw[jw gz];exact e2,?_,?_,g1⟩
  all_goals generalize (Int.gcd a b:Int)=g at *
  · rcases Int.lt_trichotomy d 0 with h | h | h
    · have:=Int.mul_neg_of_pos_of_neg gz h;omega
    · subst h;omega
    · exact h
  · have d0:0 < d:=by
      rcases Int.lt_trichotomy d 0 with h | h | h
      · have:=Int.mul_neg_of_pos_of_neg gz h;omega
      · subst h;omega
      · exact h
    have h:=Int.mul_le_mul_of_nonneg_right (show (1:Int)≤g by omega) (show (0:Int)≤d by omega)
    omega
theorem MN {lo hi a b:Int}(b0:0 < b)(b1:b≤10000002)(h1:lo*b≤a)(h2:a≤hi*b):FrB lo hi (a.fdiv (Int.gcd a b)) (b.fdiv (Int.gcd a b)):=by
  obtain ⟨g,p,q,g0,ea,eb,ep,eq,q0,qb,gg⟩:=l8 (a:=a) b0
  rw[ep,eq]
  subst ea
  have e1:lo*b=g*(lo*q):=by rw[eb];ac_rfl
  have e2:hi*b=g*(hi*q):=by rw[eb];ac_rfl
  exact ⟨q0,by omega,gg,Int.le_of_mul_le_mul_left (by rw[← e1];exact h1) g0,Int.le_of_mul_le_mul_left (by rw[← e2];exact h2) g0⟩
theorem eF:(Str.ofString "still" = Str.ofString "step")=False:=eq_false (by decide +kernel)
theorem dj:(Str.ofString "still" = Str.ofString "swell")=False:=eq_false (by decide +kernel)
theorem eJ:(Str.ofString "still" = Str.ofString "heed")=False:=eq_false (by decide +kernel)
theorem d9:(Str.ofString "still" = Str.ofString "calm")=False:=eq_false (by decide +kernel)
theorem eE:(Str.ofString "step" = Str.ofString "still")=False:=eq_false (by decide +kernel)
theorem eC:(Str.ofString "step" = Str.ofString "swell")=False:=eq_false (by decide +kernel)
theorem fv:(Str.ofString "step" = Str.ofString "heed")=False:=eq_false (by decide +kernel)
theorem fh:(Str.ofString "step" = Str.ofString "calm")=False:=eq_false (by decide +kernel)
theorem dm:(Str.ofString "swell" = Str.ofString "still")=False:=eq_false (by decide +kernel)
theorem d7:(Str.ofString "swell" = Str.ofString "step")=False:=eq_false (by decide +kernel)
theorem eg:(Str.ofString "swell" = Str.ofString "heed")=False:=eq_false (by decide +kernel)
theorem eG:(Str.ofString "swell" = Str.ofString "calm")=False:=eq_false (by decide +kernel)
theorem eB:(Str.ofString "heed" = Str.ofString "still")=False:=eq_false (by decide +kernel)
theorem fe:(Str.ofString "heed" = Str.ofString "step")=False:=eq_false (by decide +kernel)
theorem d8:(Str.ofString "heed" = Str.ofString "swell")=False:=eq_false (by decide +kernel)
theorem fq:(Str.ofString "heed" = Str.ofString "calm")=False:=eq_false (by decide +kernel)
theorem eI:(Str.ofString "calm" = Str.ofString "still")=False:=eq_false (by decide +kernel)
theorem fi:(Str.ofString "calm" = Str.ofString "step")=False:=eq_false (by decide +kernel)
theorem eA:(Str.ofString "calm" = Str.ofString "swell")=False:=eq_false (by decide +kernel)
theorem fo:(Str.ofString "calm" = Str.ofString "heed")=False:=eq_false (by decide +kernel)
theorem l3:PyData.strOk (Str.ofString "still")=true:=by decide +kernel
theorem o9:PyData.strOk (Str.ofString "step")=true:=by decide +kernel
theorem mG:PyData.strOk (Str.ofString "swell")=true:=by decide +kernel
theorem qz:PyData.strOk (Str.ofString "heed")=true:=by decide +kernel
theorem oW:PyData.strOk (Str.ofString "calm")=true:=by decide +kernel
abbrev fr (p q:Int):D:=.tup [.int p,.int q]
theorem cE (i:Decidable (Str.ofString "still" = Str.ofString "step")):@decide (Str.ofString "still" = Str.ofString "step") i=false:=by cases i with | isTrue h=>exact absurd h (by rw[eF];exact not_false) | isFalse _=>rfl
theorem bW (i:Decidable (Str.ofString "still" = Str.ofString "swell")):@decide (Str.ofString "still" = Str.ofString "swell") i=false:=by cases i with | isTrue h=>exact absurd h (by rw[dj];exact not_false) | isFalse _=>rfl
theorem cF (i:Decidable (Str.ofString "still" = Str.ofString "heed")):@decide (Str.ofString "still" = Str.ofString "heed") i=false:=by cases i with | isTrue h=>exact absurd h (by rw[eJ];exact not_false) | isFalse _=>rfl
theorem cz (i:Decidable (Str.ofString "still" = Str.ofString "calm")):@decide (Str.ofString "still" = Str.ofString "calm") i=false:=by cases i with | isTrue h=>exact absurd h (by rw[d9];exact not_false) | isFalse _=>rfl
theorem cB (i:Decidable (Str.ofString "step" = Str.ofString "still")):@decide (Str.ofString "step" = Str.ofString "still") i=false:=by cases i with | isTrue h=>exact absurd h (by rw[eE];exact not_false) | isFalse _=>rfl
theorem cy (i:Decidable (Str.ofString "step" = Str.ofString "swell")):@decide (Str.ofString "step" = Str.ofString "swell") i=false:=by cases i with | isTrue h=>exact absurd h (by rw[eC];exact not_false) | isFalse _=>rfl
theorem cO (i:Decidable (Str.ofString "step" = Str.ofString "heed")):@decide (Str.ofString "step" = Str.ofString "heed") i=false:=by cases i with | isTrue h=>exact absurd h (by rw[fv];exact not_false) | isFalse _=>rfl
theorem cT (i:Decidable (Str.ofString "step" = Str.ofString "calm")):@decide (Str.ofString "step" = Str.ofString "calm") i=false:=by cases i with | isTrue h=>exact absurd h (by rw[fh];exact not_false) | isFalse _=>rfl
theorem bV (i:Decidable (Str.ofString "swell" = Str.ofString "still")):@decide (Str.ofString "swell" = Str.ofString "still") i=false:=by cases i with | isTrue h=>exact absurd h (by rw[dm];exact not_false) | isFalse _=>rfl
theorem cw (i:Decidable (Str.ofString "swell" = Str.ofString "step")):@decide (Str.ofString "swell" = Str.ofString "step") i=false:=by cases i with | isTrue h=>exact absurd h (by rw[d7];exact not_false) | isFalse _=>rfl
theorem cx (i:Decidable (Str.ofString "swell" = Str.ofString "heed")):@decide (Str.ofString "swell" = Str.ofString "heed") i=false:=by cases i with | isTrue h=>exact absurd h (by rw[eg];exact not_false) | isFalse _=>rfl
theorem cC (i:Decidable (Str.ofString "swell" = Str.ofString "calm")):@decide (Str.ofString "swell" = Str.ofString "calm") i=false:=by cases i with | isTrue h=>exact absurd h (by rw[eG];exact not_false) | isFalse _=>rfl
theorem cG (i:Decidable (Str.ofString "heed" = Str.ofString "still")):@decide (Str.ofString "heed" = Str.ofString "still") i=false:=by cases i with | isTrue h=>exact absurd h (by rw[eB];exact not_false) | isFalse _=>rfl
theorem cW (i:Decidable (Str.ofString "heed" = Str.ofString "step")):@decide (Str.ofString "heed" = Str.ofString "step") i=false:=by cases i with | isTrue h=>exact absurd h (by rw[fe];exact not_false) | isFalse _=>rfl
theorem cD (i:Decidable (Str.ofString "heed" = Str.ofString "swell")):@decide (Str.ofString "heed" = Str.ofString "swell") i=false:=by cases i with | isTrue h=>exact absurd h (by rw[d8];exact not_false) | isFalse _=>rfl
theorem cU (i:Decidable (Str.ofString "heed" = Str.ofString "calm")):@decide (Str.ofString "heed" = Str.ofString "calm") i=false:=by cases i with | isTrue h=>exact absurd h (by rw[fq];exact not_false) | isFalse _=>rfl
theorem cA (i:Decidable (Str.ofString "calm" = Str.ofString "still")):@decide (Str.ofString "calm" = Str.ofString "still") i=false:=by cases i with | isTrue h=>exact absurd h (by rw[eI];exact not_false) | isFalse _=>rfl
theorem cN (i:Decidable (Str.ofString "calm" = Str.ofString "step")):@decide (Str.ofString "calm" = Str.ofString "step") i=false:=by cases i with | isTrue h=>exact absurd h (by rw[fi];exact not_false) | isFalse _=>rfl
theorem cu (i:Decidable (Str.ofString "calm" = Str.ofString "swell")):@decide (Str.ofString "calm" = Str.ofString "swell") i=false:=by cases i with | isTrue h=>exact absurd h (by rw[eA];exact not_false) | isFalse _=>rfl
theorem cX (i:Decidable (Str.ofString "calm" = Str.ofString "heed")):@decide (Str.ofString "calm" = Str.ofString "heed") i=false:=by cases i with | isTrue h=>exact absurd h (by rw[fo];exact not_false) | isFalse _=>rfl
theorem iR (a:Str)(i:Decidable (a=a)):@decide (a=a) i=true:=by cases i with | isTrue _=>rfl | isFalse h=>exact absurd rfl h
def kLs (x:D)(f:List D→Prop):Prop:=match x with
  | .ls ds=>f ds
  | _=>False
def dz (sp:FSp)(ds:List D)(μ:Mu)(Q:DK):Prop:=sp ds μ Q
def LEN (ds:List D)(P:Prop):Prop:=ds.length≤1000000∧P
theorem N4 (d:D)(r:ST)(μ:Mu)(Q:DK):ah 0 (some d::r) μ Q=Q d μ:=propext Iff.rfl
theorem KI (x0:Option D)(r:ST)(d:D)(μ:Mu)(k:ST→Mu→Prop):aw 0 d (x0::r) μ k=k (some d::r) μ:=propext Iff.rfl
theorem M8 (x0:Option D)(d:D)(r:ST)(μ:Mu)(Q:DK):ah 1 (x0::some d::r) μ Q=Q d μ:=propext Iff.rfl
theorem Jl (x0 x1:Option D)(r:ST)(d:D)(μ:Mu)(k:ST→Mu→Prop):aw 1 d (x0::x1::r) μ k=k (x0::some d::r) μ:=propext Iff.rfl
theorem PF (x0 x1:Option D)(d:D)(r:ST)(μ:Mu)(Q:DK):ah 2 (x0::x1::some d::r) μ Q=Q d μ:=propext Iff.rfl
theorem K6 (x0 x1 x2:Option D)(r:ST)(d:D)(μ:Mu)(k:ST→Mu→Prop):aw 2 d (x0::x1::x2::r) μ k=k (x0::x1::some d::r) μ:=propext Iff.rfl
theorem N1 (x0 x1 x2:Option D)(d:D)(r:ST)(μ:Mu)(Q:DK):ah 3 (x0::x1::x2::some d::r) μ Q=Q d μ:=propext Iff.rfl
theorem Ki (x0 x1 x2 x3:Option D)(r:ST)(d:D)(μ:Mu)(k:ST→Mu→Prop):aw 3 d (x0::x1::x2::x3::r) μ k=k (x0::x1::x2::some d::r) μ:=propext Iff.rfl
theorem Qe (x0 x1 x2 x3:Option D)(d:D)(r:ST)(μ:Mu)(Q:DK):ah 4 (x0::x1::x2::x3::some d::r) μ Q=Q d μ:=propext Iff.rfl
theorem JX (x0 x1 x2 x3 x4:Option D)(r:ST)(d:D)(μ:Mu)(k:ST→Mu→Prop):aw 4 d (x0::x1::x2::x3::x4::r) μ k=k (x0::x1::x2::x3::some d::r) μ:=propext Iff.rfl
theorem OH (x0 x1 x2 x3 x4:Option D)(d:D)(r:ST)(μ:Mu)(Q:DK):ah 5 (x0::x1::x2::x3::x4::some d::r) μ Q=Q d μ:=propext Iff.rfl
theorem LZ (x0 x1 x2 x3 x4 x5:Option D)(r:ST)(d:D)(μ:Mu)(k:ST→Mu→Prop):aw 5 d (x0::x1::x2::x3::x4::x5::r) μ k=k (x0::x1::x2::x3::x4::some d::r) μ:=propext Iff.rfl
theorem Ph (x0 x1 x2 x3 x4 x5:Option D)(d:D)(r:ST)(μ:Mu)(Q:DK):ah 6 (x0::x1::x2::x3::x4::x5::some d::r) μ Q=Q d μ:=propext Iff.rfl
theorem LQ (x0 x1 x2 x3 x4 x5 x6:Option D)(r:ST)(d:D)(μ:Mu)(k:ST→Mu→Prop):aw 6 d (x0::x1::x2::x3::x4::x5::x6::r) μ k=k (x0::x1::x2::x3::x4::x5::some d::r) μ:=propext Iff.rfl
theorem NV (x0 x1 x2 x3 x4 x5 x6:Option D)(d:D)(r:ST)(μ:Mu)(Q:DK):ah 7 (x0::x1::x2::x3::x4::x5::x6::some d::r) μ Q=Q d μ:=propext Iff.rfl
theorem J8 (x0 x1 x2 x3 x4 x5 x6 x7:Option D)(r:ST)(d:D)(μ:Mu)(k:ST→Mu→Prop):aw 7 d (x0::x1::x2::x3::x4::x5::x6::x7::r) μ k=k (x0::x1::x2::x3::x4::x5::x6::some d::r) μ:=propext Iff.rfl
theorem PM (x0 x1 x2 x3 x4 x5 x6 x7:Option D)(d:D)(r:ST)(μ:Mu)(Q:DK):ah 8 (x0::x1::x2::x3::x4::x5::x6::x7::some d::r) μ Q=Q d μ:=propext Iff.rfl
theorem JF (x0 x1 x2 x3 x4 x5 x6 x7 x8:Option D)(r:ST)(d:D)(μ:Mu)(k:ST→Mu→Prop):aw 8 d (x0::x1::x2::x3::x4::x5::x6::x7::x8::r) μ k=k (x0::x1::x2::x3::x4::x5::x6::x7::some d::r) μ:=propext Iff.rfl
theorem Og (x0 x1 x2 x3 x4 x5 x6 x7 x8:Option D)(d:D)(r:ST)(μ:Mu)(Q:DK):ah 9 (x0::x1::x2::x3::x4::x5::x6::x7::x8::some d::r) μ Q=Q d μ:=propext Iff.rfl
theorem Kd (x0 x1 x2 x3 x4 x5 x6 x7 x8 x9:Option D)(r:ST)(d:D)(μ:Mu)(k:ST→Mu→Prop):aw 9 d (x0::x1::x2::x3::x4::x5::x6::x7::x8::x9::r) μ k=k (x0::x1::x2::x3::x4::x5::x6::x7::x8::some d::r) μ:=propext Iff.rfl
theorem K3 (x0 x1 x2 x3 x4 x5 x6 x7 x8 x9:Option D)(d:D)(r:ST)(μ:Mu)(Q:DK):ah 10 (x0::x1::x2::x3::x4::x5::x6::x7::x8::x9::some d::r) μ Q=Q d μ:=propext Iff.rfl
theorem Fw (x0 x1 x2 x3 x4 x5 x6 x7 x8 x9 x10:Option D)(r:ST)(d:D)(μ:Mu)(k:ST→Mu→Prop):aw 10 d (x0::x1::x2::x3::x4::x5::x6::x7::x8::x9::x10::r) μ k=k (x0::x1::x2::x3::x4::x5::x6::x7::x8::x9::some d::r) μ:=propext Iff.rfl
theorem LU (x0 x1 x2 x3 x4 x5 x6 x7 x8 x9 x10:Option D)(d:D)(r:ST)(μ:Mu)(Q:DK):ah 11 (x0::x1::x2::x3::x4::x5::x6::x7::x8::x9::x10::some d::r) μ Q=Q d μ:=propext Iff.rfl
theorem Ii (x0 x1 x2 x3 x4 x5 x6 x7 x8 x9 x10 x11:Option D)(r:ST)(d:D)(μ:Mu)(k:ST→Mu→Prop):aw 11 d (x0::x1::x2::x3::x4::x5::x6::x7::x8::x9::x10::x11::r) μ k=k (x0::x1::x2::x3::x4::x5::x6::x7::x8::x9::x10::some d::r) μ:=propext Iff.rfl
theorem LJ (x0 x1 x2 x3 x4 x5 x6 x7 x8 x9 x10 x11:Option D)(d:D)(r:ST)(μ:Mu)(Q:DK):ah 12 (x0::x1::x2::x3::x4::x5::x6::x7::x8::x9::x10::x11::some d::r) μ Q=Q d μ:=propext Iff.rfl
theorem Gm (x0 x1 x2 x3 x4 x5 x6 x7 x8 x9 x10 x11 x12:Option D)(r:ST)(d:D)(μ:Mu)(k:ST→Mu→Prop):aw 12 d (x0::x1::x2::x3::x4::x5::x6::x7::x8::x9::x10::x11::x12::r) μ k=k (x0::x1::x2::x3::x4::x5::x6::x7::x8::x9::x10::x11::some d::r) μ:=propext Iff.rfl
theorem Hs (x0 x1 x2 x3 x4 x5 x6 x7 x8 x9 x10 x11 x12 x13:Option D)(r:ST)(d:D)(μ:Mu)(k:ST→Mu→Prop):aw 13 d (x0::x1::x2::x3::x4::x5::x6::x7::x8::x9::x10::x11::x12::x13::r) μ k=k (x0::x1::x2::x3::x4::x5::x6::x7::x8::x9::x10::x11::x12::some d::r) μ:=propext Iff.rfl
theorem KR (x0 x1 x2 x3 x4 x5 x6 x7 x8 x9 x10 x11 x12 x13:Option D)(d:D)(r:ST)(μ:Mu)(Q:DK):ah 14 (x0::x1::x2::x3::x4::x5::x6::x7::x8::x9::x10::x11::x12::x13::some d::r) μ Q=Q d μ:=propext Iff.rfl
theorem FA (x0 x1 x2 x3 x4 x5 x6 x7 x8 x9 x10 x11 x12 x13 x14:Option D)(r:ST)(d:D)(μ:Mu)(k:ST→Mu→Prop):aw 14 d (x0::x1::x2::x3::x4::x5::x6::x7::x8::x9::x10::x11::x12::x13::x14::r) μ k=k (x0::x1::x2::x3::x4::x5::x6::x7::x8::x9::x10::x11::x12::x13::some d::r) μ:=propext Iff.rfl
theorem Jp (x0 x1 x2 x3 x4 x5 x6 x7 x8 x9 x10 x11 x12 x13 x14:Option D)(d:D)(r:ST)(μ:Mu)(Q:DK):ah 15 (x0::x1::x2::x3::x4::x5::x6::x7::x8::x9::x10::x11::x12::x13::x14::some d::r) μ Q=Q d μ:=propext Iff.rfl
theorem Fy (x0 x1 x2 x3 x4 x5 x6 x7 x8 x9 x10 x11 x12 x13 x14 x15:Option D)(r:ST)(d:D)(μ:Mu)(k:ST→Mu→Prop):aw 15 d (x0::x1::x2::x3::x4::x5::x6::x7::x8::x9::x10::x11::x12::x13::x14::x15::r) μ k=k (x0::x1::x2::x3::x4::x5::x6::x7::x8::x9::x10::x11::x12::x13::x14::some d::r) μ:=propext Iff.rfl
theorem TJ (d:D)(ρ:ST)(μ:Mu)(Q:DK):TC d ρ μ Q=Q d μ:=propext Iff.rfl
theorem PD (r:DR2)(a b:ETr)(ρ:ST)(μ:Mu)(Q:DK):ak r a b ρ μ Q=a ρ μ fun x μ1=>b ρ μ1 fun y μ2=>r x y μ2 Q:=propext Iff.rfl
theorem Qw (r:DR)(a:ETr)(ρ:ST)(μ:Mu)(Q:DK):TUn r a ρ μ Q=a ρ μ fun x μ1=>r x μ1 Q:=propext Iff.rfl
theorem Lf (a b:ETr)(ρ:ST)(μ:Mu)(Q:DK):kg a b ρ μ Q=a ρ μ fun x μ1=>kB x fun c=>kIf c (b ρ μ1 Q) (Q (.bl false) μ1):=propext Iff.rfl
theorem T7 (t:ETr)(ρ:ST)(μ:Mu)(Q:Bool→Mu→Prop):TB t ρ μ Q=t ρ μ fun x μ1=>kB x fun c=>Q c μ1:=propext Iff.rfl
theorem NL (t u:TTr)(ρ:ST)(μ:Mu)(Q:Bool→Mu→Prop):w4 t u ρ μ Q=t ρ μ fun c μ1=>kIf c (u ρ μ1 Q) (Q false μ1):=propext Iff.rfl
theorem QK (t u:TTr)(ρ:ST)(μ:Mu)(Q:Bool→Mu→Prop):TOr t u ρ μ Q=t ρ μ fun c μ1=>kIf c (Q true μ1) (u ρ μ1 Q):=propext Iff.rfl
theorem PY (t:TTr)(ρ:ST)(μ:Mu)(Q:Bool→Mu→Prop):yt t ρ μ Q=t ρ μ fun c μ1=>Q (!c) μ1:=propext Iff.rfl
theorem OG (c:TTr)(a b:ETr)(ρ:ST)(μ:Mu)(Q:DK):jt c a b ρ μ Q=c ρ μ fun k μ1=>kIf k (a ρ μ1 Q) (b ρ μ1 Q):=propext Iff.rfl
theorem N2 (ρ:ST)(μ:Mu)(Q:List D→Mu→Prop):ar ρ μ Q=Q [] μ:=propext Iff.rfl
theorem KN (a:ETr)(r:ATr)(ρ:ST)(μ:Mu)(Q:List D→Mu→Prop):af a r ρ μ Q=a ρ μ fun x μ1=>r ρ μ1 fun xs μ2=>Q (x::xs) μ2:=propext Iff.rfl
theorem OT (t:ATr)(ρ:ST)(μ:Mu)(Q:DK):aX t ρ μ Q=t ρ μ fun ds μ1=>LEN ds (Q (.tup ds) μ1):=propext Iff.rfl
theorem Pe (t:ATr)(ρ:ST)(μ:Mu)(Q:DK):ig t ρ μ Q=t ρ μ fun ds μ1=>LEN ds (Q (.ls ds) μ1):=propext Iff.rfl
theorem PH (t:ATr)(ρ:ST)(μ:Mu)(Q:DK):iW t ρ μ Q=t ρ μ fun ds μ1=>LEN ds (∀ p,μ1 p=none→Q (.obj p) (up μ1 p (.lst ds))):=propext Iff.rfl
theorem J4 (sp:FSp)(t:ATr)(ρ:ST)(μ:Mu)(Q:DK):av sp t ρ μ Q=t ρ μ fun ds μ1=>dz sp ds μ1 Q:=propext Iff.rfl
theorem KC (nx:ST→Mu→Prop)(rt:DK)(bk ct:ST→Mu→Prop)(ρ:ST)(μ:Mu):bH ⟨nx,rt,bk,ct⟩ ρ μ=nx ρ μ:=propext Iff.rfl
theorem NJ (t u:STr)(nx:ST→Mu→Prop)(rt:DK)(bk ct:ST→Mu→Prop)(ρ:ST)(μ:Mu):aD t u ⟨nx,rt,bk,ct⟩ ρ μ=t ⟨u ⟨nx,rt,bk,ct⟩,rt,bk,ct⟩ ρ μ:=propext Iff.rfl
theorem Jh (e:ETr)(nx:ST→Mu→Prop)(rt:DK)(bk ct:ST→Mu→Prop)(ρ:ST)(μ:Mu):dW e ⟨nx,rt,bk,ct⟩ ρ μ=e ρ μ fun _ μ1=>nx ρ μ1:=propext Iff.rfl
theorem Ow (e:ETr)(nx:ST→Mu→Prop)(rt:DK)(bk ct:ST→Mu→Prop)(ρ:ST)(μ:Mu):aY e ⟨nx,rt,bk,ct⟩ ρ μ=e ρ μ rt:=propext Iff.rfl
theorem OB (c:TTr)(t u:STr)(nx:ST→Mu→Prop)(rt:DK)(bk ct:ST→Mu→Prop)(ρ:ST)(μ:Mu):c7 c t u ⟨nx,rt,bk,ct⟩ ρ μ=c ρ μ fun b μ1=>kIf b (t ⟨nx,rt,bk,ct⟩ ρ μ1) (u ⟨nx,rt,bk,ct⟩ ρ μ1):=propext Iff.rfl
theorem Ox (e:ETr)(g:GTr)(nx:ST→Mu→Prop)(rt:DK)(bk ct:ST→Mu→Prop)(ρ:ST)(μ:Mu):aN e g ⟨nx,rt,bk,ct⟩ ρ μ=e ρ μ fun d μ1=>g d ρ μ1 nx:=propext Iff.rfl
theorem Oq (i j:Nat)(a:ATr)(nx:ST→Mu→Prop)(rt:DK)(bk ct:ST→Mu→Prop)(ρ:ST)(μ:Mu):xE i j a ⟨nx,rt,bk,ct⟩ ρ μ=a ρ μ fun ds μ1=>k2 ds fun v w=>aw i v ρ μ1 fun ρ2 μ2=>aw j w ρ2 μ2 nx:=propext Iff.rfl
theorem NZ (it:ATr)(g:GTr)(b:STr)(nx:ST→Mu→Prop)(rt:DK)(bk ct:ST→Mu→Prop)(ρ:ST)(μ:Mu):gK it g b ⟨nx,rt,bk,ct⟩ ρ μ=it ρ μ fun ds μ1=>forR g b ⟨nx,rt,bk,ct⟩ ds ρ μ1:=propext Iff.rfl
theorem Dk (a:ETr)(ρ:ST)(μ:Mu)(Q:List D→Mu→Prop):gf a ρ μ Q=a ρ μ fun x μ1=>kI x fun j=>(-4611686018427387904≤j∧j < 4611686018427387904)∧Q (cL 0 j.toNat) μ1:=propext Iff.rfl
theorem j2 (a:ETr)(ρ:ST)(μ:Mu)(Q:List D→Mu→Prop):Qz (af a ar) ρ μ Q=a ρ μ fun x μ1=>kLs x fun ds=>Q (kh ds) μ1:=propext (Iff.of_eq (congrArg (a ρ μ) (funext fun x=>funext fun μ1=>by cases x<;>rfl)))
theorem ND (a:ETr)(ρ:ST)(μ:Mu)(Q:DK):tU a ρ μ Q=a ρ μ fun x μ1=>kObj x fun b=>kL μ1 b fun ds=>Q (.ls ds) (dn μ1 b):=propext Iff.rfl
theorem Pr (To Te:ETr)(ρ:ST)(μ:Mu)(Q:DK):iT To Te ρ μ Q=To ρ μ fun x μ1=>kObj x fun a=>kL μ1 a fun _=>Te ρ μ1 fun y μ2=>kL μ2 a fun ds=>ds.length < 1000000∧Q .non (up μ2 a (.lst (ds++[y]))):=propext Iff.rfl
theorem Ri (a:ETr)(lo hi:OTr)(ρ:ST)(μ:Mu)(Q:DK):TSl a lo hi ρ μ Q=a ρ μ fun x μ1=>lo ρ μ1 fun l μ2=>hi ρ μ2 fun h μ3=>rSl x l h μ3 Q:=propext Iff.rfl
theorem Q4 (ρ:ST)(μ:Mu)(Q:Option Int→Mu→Prop):ONo ρ μ Q=Q none μ:=propext Iff.rfl
theorem PV (T:ETr)(ρ:ST)(μ:Mu)(Q:Option Int→Mu→Prop):gh T ρ μ Q=T ρ μ fun x μ1=>kI x fun i=>Q (some i) μ1:=propext Iff.rfl
theorem M4 (i0 i1:Nat)(d0 d1:D)(ρ:ST)(μ:Mu)(k:ST→Mu→Prop):fA [i0,i1] (.tup [d0,d1]) ρ μ k=aw i0 d0 ρ μ fun ρ1 _=>aw i1 d1 ρ1 μ fun ρ2 _=>k ρ2 μ:=by simp[fA,ko,aw]
theorem OQ (i0 i1 i2:Nat)(d0 d1 d2:D)(ρ:ST)(μ:Mu)(k:ST→Mu→Prop):fA [i0,i1,i2] (.tup [d0,d1,d2]) ρ μ k=aw i0 d0 ρ μ fun ρ1 _=>aw i1 d1 ρ1 μ fun ρ2 _=>aw i2 d2 ρ2 μ fun ρ3 _=>k ρ3 μ:=by simp[fA,ko,aw]
theorem Ro (P:Prop):LEN [] P=P:=by simp[LEN]
theorem QA (x0:D)(P:Prop):LEN [x0] P=P:=by simp[LEN]
theorem QO (x0 x1:D)(P:Prop):LEN [x0,x1] P=P:=by simp[LEN]
theorem QU (x0 x1 x2:D)(P:Prop):LEN [x0,x1,x2] P=P:=by simp[LEN]
theorem Sf (x0 x1 x2 x3:D)(P:Prop):LEN [x0,x1,x2,x3] P=P:=by simp[LEN]
theorem Rp (x0 x1 x2 x3 x4:D)(P:Prop):LEN [x0,x1,x2,x3,x4] P=P:=by simp[LEN]
theorem Q5 (x0 x1 x2 x3 x4 x5:D)(P:Prop):LEN [x0,x1,x2,x3,x4,x5] P=P:=by simp[LEN]
theorem Rk (x0 x1 x2 x3 x4 x5 x6 x7:D)(P:Prop):LEN [x0,x1,x2,x3,x4,x5,x6,x7] P=P:=by simp[LEN]
theorem NI (x0 x1 x2 x3 x4 x5 x6 x7 x8 x9 x10:D)(P:Prop):LEN [x0,x1,x2,x3,x4,x5,x6,x7,x8,x9,x10] P=P:=by simp[LEN]
theorem NK (x0:D)(r:List D)(μ:Mu)(Q:DK):L3.rIx (.tup (x0::r)) (.int 0) μ Q=Q x0 μ:=by rw[o7];exact congrArg (fun o=>kO o fun d=>Q d μ) (cY 0 _)
theorem Nq (x0 x1:D)(r:List D)(μ:Mu)(Q:DK):L3.rIx (.tup (x0::x1::r)) (.int 1) μ Q=Q x1 μ:=by rw[o7];exact congrArg (fun o=>kO o fun d=>Q d μ) (cY 1 _)
theorem Nb (x0 x1 x2:D)(r:List D)(μ:Mu)(Q:DK):L3.rIx (.tup (x0::x1::x2::r)) (.int 2) μ Q=Q x2 μ:=by rw[o7];exact congrArg (fun o=>kO o fun d=>Q d μ) (cY 2 _)
theorem Qf (x0 x1 x2 x3:D)(r:List D)(μ:Mu)(Q:DK):L3.rIx (.tup (x0::x1::x2::x3::r)) (.int 3) μ Q=Q x3 μ:=by rw[o7];exact congrArg (fun o=>kO o fun d=>Q d μ) (cY 3 _)
theorem Ny (i j:Int)(μ:Mu)(Q:DK):L3.rEq (.int i) (.int j) μ Q=Q (.bl (decide (i=j))) μ:=by simp[L3.rEq,okD,eqD]
theorem PU (i j:Str)(μ:Mu)(Q:DK):L3.rEq (.str i) (.str j) μ Q=((PyData.strOk i=true∧PyData.strOk j=true)∧Q (.bl (decide (i=j))) μ):=by simp[L3.rEq,okD,eqD]
theorem O3 (i j:Bool)(μ:Mu)(Q:DK):L3.rNe (.bl i) (.bl j) μ Q=Q (.bl (!(i == j))) μ:=by simp[L3.rNe,okD,eqD]
theorem Pb (i j:Int)(μ:Mu)(Q:DK):dz sA [.int i,.int j] μ Q=Q (.int (max i j)) μ:=by show Q (.int (if j > i then j else i)) μ=_;congr 2;omega
theorem P0 (i j:Int)(μ:Mu)(Q:DK):dz sC [.int i,.int j] μ Q=Q (.int (min i j)) μ:=by show Q (.int (if j < i then j else i)) μ=_;congr 2;omega
theorem Fe (a:List D)(μ:Mu)(Q:DK):dz a6 [.tup a] μ Q=Q (.tup a) μ:=propext Iff.rfl
theorem F5 (a:List D)(μ:Mu)(Q:DK):dz a6 [.ls a] μ Q=Q (.tup a) μ:=propext Iff.rfl
theorem Hl (a:Addr)(μ:Mu)(Q:DK):dz a6 [.obj a] μ Q=kL μ a fun xs=>Q (.tup xs) μ:=propext Iff.rfl
theorem HN (a:List D)(μ:Mu)(Q:DK):dz jE [.ls a] μ Q=Q (.ls a) μ:=propext Iff.rfl
theorem Ep (a:List D)(μ:Mu)(Q:DK):dz jU [.tup a] μ Q = ∀ p,μ p=none→Q (.obj p) (up μ p (.lst a)):=propext Iff.rfl
theorem O1 (a:Addr)(μ:Mu)(Q:DK):dz eL [.obj a] μ Q=kL μ a fun xs=>Q (.int xs.length) μ:=propext Iff.rfl
theorem NS (x:Str)(μ:Mu)(Q:DK):dz eL [.str x] μ Q=(x.length≤1000000∧Q (.int x.length) μ):=propext Iff.rfl
theorem mH (a:List D)(μ:Mu)(Q:DK):dz eL [.tup a] μ Q=Q (.int a.length) μ:=propext Iff.rfl
theorem mJ (a:List D)(μ:Mu)(Q:DK):dz eL [.ls a] μ Q=Q (.int a.length) μ:=propext Iff.rfl
theorem D1 (n:Nat)(i:Int):okD n (.int i)=true:=by cases n<;>simp[okD]
theorem Aq (n:Nat)(x:Str):okD n (.str x)=PyData.strOk x:=by cases n<;>simp[okD]
theorem D3 (n:Nat)(ds:List D):okD (n+1) (.tup ds)=cS n ds:=by simp[okD]
theorem CD (n:Nat)(ds:List D):okD (n+1) (.ls ds)=cS n ds:=by simp[okD]
theorem j9 (n:Nat):cS n []=true:=by simp[cS]
theorem gI (n:Nat)(d:D)(r:List D):cS n (d::r)=(okD n d&&cS n r):=by simp[cS]
theorem sX (i j:Int):eqD (.int i) (.int j)=decide (i=j):=by simp[eqD]
theorem nz (i j:Str):eqD (.str i) (.str j)=decide (i=j):=by simp[eqD]
theorem sY (a b:List D):eqD (.tup a) (.tup b)=oE a b:=by simp[eqD]
theorem sI (a b:List D):eqD (.ls a) (.ls b)=oE a b:=by simp[eqD]
theorem Jj (A B:Prop):kIf true A B=A:=propext Iff.rfl
theorem L4 (A B:Prop):kIf false A B=B:=propext Iff.rfl
theorem L8 (c:Bool)(f):kB (.bl c) f=f c:=propext Iff.rfl
theorem Hq (c:Int)(f):kI (.int c) f=f c:=propext Iff.rfl
theorem sH (c:D)(f):kO (some c) f=f c:=propext Iff.rfl
theorem Hk (c:List D)(f):kS (.tup c) f=f c:=propext Iff.rfl
theorem Mh (c:List D)(f):kS (.ls c) f=f c:=propext Iff.rfl
theorem EX (a b:D)(f):k2 [a,b] f=f a b:=propext Iff.rfl
theorem Dm (c:Nat)(f):kN (some c) f=f c:=propext Iff.rfl
theorem CY (i j:Int)(μ Q):aT (.int i) (.int j) μ Q=Q (.int (i+j)) μ:=propext Iff.rfl
theorem DC (a b:List D)(μ Q):aT (.tup a) (.tup b) μ Q=(a.length+b.length≤1000000∧Q (.tup (a++b)) μ):=propext Iff.rfl
theorem Fv (i j:Int)(μ Q):iC (.int i) (.int j) μ Q=Q (.int (i - j)) μ:=propext Iff.rfl
theorem Ey (i j:Int)(μ Q):hV (.int i) (.int j) μ Q=(MulOk i j∧Q (.int (i*j)) μ):=propext Iff.rfl
theorem Ex (i j:Int)(μ Q):mL (.int i) (.int j) μ Q=(jf j∧Q (.int (i.fdiv j)) μ):=propext Iff.rfl
theorem IK (i j:Int)(μ Q):kU (.int i) (.int j) μ Q=(j≠0∧Q (.int (i.fmod j)) μ):=propext Iff.rfl
theorem Iy (i j:Int)(μ Q):Cz (.int i) (.int j) μ Q=(xr i j∧Q (.int (i ^ j.toNat)) μ):=propext Iff.rfl
theorem Ku (i j:Int)(μ Q):rLt (.int i) (.int j) μ Q=Q (.bl (decide (i < j))) μ:=propext Iff.rfl
theorem Km (i j:Int)(μ Q):rGt (.int i) (.int j) μ Q=Q (.bl (decide (j < i))) μ:=propext Iff.rfl
theorem Kg (i j:Int)(μ Q):rGe (.int i) (.int j) μ Q=Q (.bl (decide (j≤i))) μ:=propext Iff.rfl
theorem Jc (a:Addr)(i:Int)(μ Q):L3.rIx (.obj a) (.int i) μ Q=kL μ a fun ds=>kO (atD ds i) fun d=>Q d μ:=propext Iff.rfl
theorem Fl (c:String)(i:Int)(μ Q):gG c (.int i) μ Q=Q (.bl (ft "int" c)) μ:=propext Iff.rfl
theorem Ee (c:String)(i:List D)(μ Q):gG c (.tup i) μ Q=Q (.bl (ft "tuple" c)) μ:=propext Iff.rfl
theorem E1 (c:String)(i:List D)(μ Q):gG c (.ls i) μ Q=Q (.bl (ft "list" c)) μ:=propext Iff.rfl
theorem FU (c:String)(i:Str)(μ Q):gG c (.str i) μ Q=Q (.bl (ft "str" c)) μ:=propext Iff.rfl
theorem Iu (c:String)(μ Q):gG c .non μ Q=Q (.bl (ft "NoneType" c)) μ:=propext Iff.rfl
theorem Li (μ Q):rIs .non .non μ Q=Q (.bl true) μ:=propext Iff.rfl
theorem Je (i:Int)(μ Q):rIs (.int i) .non μ Q=Q (.bl false) μ:=propext Iff.rfl
theorem KZ (i:List D)(μ Q):rIs (.tup i) .non μ Q=Q (.bl false) μ:=propext Iff.rfl
theorem Ji (a:List D)(lo hi)(μ Q):rSl (.tup a) lo hi μ Q=Q (.tup (cutD a lo hi)) μ:=propext Iff.rfl
theorem K8 (a:List D)(lo hi)(μ Q):rSl (.ls a) lo hi μ Q=Q (.ls (cutD a lo hi)) μ:=propext Iff.rfl
theorem j5 (ds:List D)(i:Int)(μ Q):L3.rIx (.tup ds) (.int i) μ Q=kO (atD ds i) fun d=>Q d μ:=propext Iff.rfl
theorem jV (ds:List D)(i:Int)(μ Q):L3.rIx (.ls ds) (.int i) μ Q=kO (atD ds i) fun d=>Q d μ:=propext Iff.rfl
theorem j4 (x y:D)(μ Q):L3.rEq x y μ Q=((okD 40 x=true∧okD 40 y=true)∧Q (.bl (eqD x y)) μ):=propext Iff.rfl
theorem jZ (x y:D)(μ Q):L3.rNe x y μ Q=((okD 40 x=true∧okD 40 y=true)∧Q (.bl (!eqD x y)) μ):=propext Iff.rfl
theorem kif {p:Prop} [Decidable p] {A B:Prop}(h1:p→A)(h2:¬ p→B):kIf (decide p) A B:=by
  by_cases h:p
  · rw[decide_eq_true h];exact h1 h
  · rw[decide_eq_false h];exact h2 h
theorem QP {p:Prop} [Decidable p] {A B:Prop}(h1:¬ p→A)(h2:p→B):kIf (!decide p) A B:=by
  by_cases h:p
  · rw[decide_eq_true h];exact h2 h
  · rw[decide_eq_false h];exact h1 h
theorem BP {p:Prop} [Decidable p] {A B:Prop}(h:p)(hA:A):kIf (decide p) A B:=by rw[decide_eq_true h];exact hA
theorem Ir {p:Prop} [Decidable p] {A B:Prop}(h:¬ p)(hB:B):kIf (decide p) A B:=by rw[decide_eq_false h];exact hB
theorem Qk {c:Bool}{A B:Prop}(h1:c=true→A)(h2:c=false→B):kIf c A B:=by
  cases c
  · exact h2 rfl
  · exact h1 rfl
theorem eW {o:Option D}{d:D}{f:D→Prop}(e:o=some d)(h:f d):kO o f:=by rw[e];exact h
theorem a9 {μ:Mu}{a:Addr}{ds:List D}{f:List D→Prop}(e:μ a=some (.lst ds))(h:f ds):kL μ a f:=by rw[RA e];exact h
section
open PySem PySem.Spec PyProof.Rows L2
def MV (kvs:List (Str×D))(s:Str):Option D:=(kvs.find? fun kv=>decide (kv.1=s)).map (·.2)
def Bt (K:PySem.W.Frag):List DictEntry→List (Str×D)→Prop
  | [],[]=>True
  | e::es,(x,d)::r=>(∃ t,e.key=.str x t)∧(∃ v,RelV v e.val∧∀ H,Dp K H v d)∧Bt K es r
  | _,_=>False
theorem yr (s x:Str)(t:Tok):Value.isStrOf s (.str x t)=decide (x=s):=by
  by_cases h:x=s
  · subst h;simp[Value.isStrOf]
  · rw[decide_eq_false h];simp[Value.isStrOf];first | exact h | exact fun z=>h z.symm
theorem Bt.find {K:PySem.W.Frag}(s:Str):∀ {es:List DictEntry} {kvs:List (Str×D)},Bt K es kvs→
    match MV kvs s with
    | none=>(es.find? fun e=>Value.isStrOf s e.key)=none
    | some d=>∃ e v,(es.find? fun e=>Value.isStrOf s e.key)=some e∧RelV v e.val∧∀ H,Dp K H v d
  | [],[],_=>rfl
  | e::es,(x,d)::r,h=>by
    obtain ⟨⟨t,ht⟩,⟨v,rv,pv⟩,hr⟩:=h
    have ih:=Bt.find s hr
    unfold MV at ih ⊢
    rw[List.find?_cons,List.find?_cons,ht,yr]
    by_cases hx:x=s
    · simp only[decide_eq_true hx,Option.map_some]
      exact ⟨e,v,rfl,rv,pv⟩
    · simp only[decide_eq_false hx]
      exact ih
  | [],_::_,h=>False.elim h
  | _::_,[],h=>False.elim h
section
variable {X:Cx} {a b c e:Expr} {Ta Tb Te:ETr} {pos gpos:Pos} {x:Str} {kvs:List (Str×D)}
end
section
variable {X:Cx} {a b:Expr} {Ta Tb:ETr} {pos:Pos}
end
end
section
open PySem PySem.Spec PyProof.Rows L2
def bo (kvs:List (Key×D))(k:Key):Option D:=(kvs.find? fun kv=>decide (kv.1=k)).map (·.2)
def putD (kvs:List (Key×D))(k:Key)(v:D):List (Key×D):=
  if (kvs.any fun kv=>decide (kv.1=k))=true then kvs.map (fun kv=>if kv.1=k then (kv.1,v) else kv) else kvs++[(k,v)]
def tQ (x:D)(f:Key→Prop):Prop:=match x with
  | .int i=>f (.inl i)
  | .str s=>f (.inr s)
  | _=>False
theorem DpK.nil {K:PySem.W.Frag}{H:Hp}:DpK K H [] []:=⟨rfl,.nil⟩
theorem DpK.cons {K:PySem.W.Frag}{H:Hp}{k:Key}{v:V}{d:D}{xs:List (Key×V)}{kvs:List (Key×D)}(h:Dp K H v d)(r:DpK K H xs kvs):DpK K H ((k,v)::xs) ((k,d)::kvs):=
  ⟨by simp[r.1],.cons h r.2⟩
theorem DpK.ind {K:PySem.W.Frag}{H:Hp}{P:List (Key×V)→List (Key×D)→Prop}(h0:P [] [])(h1:∀ k v d xs kvs,Dp K H v d→DpK K H xs kvs→P xs kvs→P ((k,v)::xs) ((k,d)::kvs)) :
    ∀ {xs:List (Key×V)} {kvs:List (Key×D)},DpK K H xs kvs→P xs kvs
  | [],[],_=>h0
  | [],_::_,h=>by cases h.1
  | _::_,[],h=>by cases h.1
  | (k,v)::xs,(k',d)::kvs,h=>by
    obtain ⟨h2,h3⟩:=h
    simp only[List.map_cons,List.cons.injEq] at h2
    obtain ⟨rfl,h2⟩:=h2
    cases h3 with
    | cons p l=>exact h1 k v d xs kvs p ⟨h2,l⟩ (DpK.ind h0 h1 ⟨h2,l⟩)
theorem DpK.look {K:PySem.W.Frag}{H:Hp}{xs:List (Key×V)}{kvs:List (Key×D)}(h:DpK K H xs kvs)(k:Key) :
    (bo kvs k=none∧gJ xs k=none)∨∃ v d,bo kvs k=some d∧gJ xs k=some v∧Dp K H v d:=by
  refine DpK.ind (P:=fun xs kvs=>(bo kvs k=none∧gJ xs k=none)∨∃ v d,bo kvs k=some d∧gJ xs k=some v∧Dp K H v d) (.inl ⟨rfl,rfl⟩) (fun j v d xs kvs p _ ih=>?_) h
  by_cases e:j=k
  · refine .inr ⟨v,d,?_,ly (p:=(j,v)) e,p⟩
    unfold bo;rw[List.find?_cons];simp[e]
  · have e1:bo ((j,d)::kvs) k=bo kvs k:=by unfold bo;rw[List.find?_cons];simp[e]
    rw[e1,kK (p:=(j,v)) e]
    exact ih
theorem DpK.any {K:PySem.W.Frag}{H:Hp}{xs:List (Key×V)}{kvs:List (Key×D)}(h:DpK K H xs kvs)(k:Key):(xs.any fun kv=>decide (kv.1=k))=kvs.any fun kv=>decide (kv.1=k):=by
  refine DpK.ind (P:=fun xs kvs=>(xs.any fun kv=>decide (kv.1=k))=kvs.any fun kv=>decide (kv.1=k)) rfl (fun j v d xs kvs p _ ih=>?_) h
  rw[List.any_cons,List.any_cons,ih]
theorem DpK.put {K:PySem.W.Frag}{H:Hp}{xs:List (Key×V)}{kvs:List (Key×D)}(h:DpK K H xs kvs)(k:Key){v:V}{d:D}(p:Dp K H v d):DpK K H (putK xs k v) (putD kvs k d):=by
  unfold putK putD
  rw[h.any k]
  split
  · refine DpK.ind (P:=fun xs kvs=>DpK K H (xs.map fun kv=>if kv.1=k then (kv.1,v) else kv) (kvs.map fun kv=>if kv.1=k then (kv.1,d) else kv)) .nil (fun j v' d' xs kvs p' _ ih=>?_) h
    rw[List.map_cons,List.map_cons]
    by_cases e:j=k
    · rw[if_pos e,if_pos e];exact .cons p ih
    · rw[if_neg e,if_neg e];exact .cons p' ih
  · refine DpK.ind (P:=fun xs kvs=>DpK K H (xs++[(k,v)]) (kvs++[(k,d)])) (.cons p .nil) (fun j v' d' xs kvs p' _ ih=>?_) h
    exact .cons p' ih
theorem DpK.length {K:PySem.W.Frag}{H:Hp}{xs:List (Key×V)}{kvs:List (Key×D)}(h:DpK K H xs kvs):xs.length=kvs.length:=by
  have:=h.2.length
  simpa using this
theorem pZ {K:PySem.W.Frag}{H:Hp}{y:V}{dy:D}{f:Key→Prop}(p:Dp K H y dy)(h:tQ dy f):∃ k,y=kV k∧f k:=by
  cases p with
  | int i=>exact ⟨.inl i,rfl,h⟩
  | str s=>exact ⟨.inr s,rfl,h⟩
  | _=>exact False.elim h
theorem iw {K:PySem.W.Frag}{H:Hp}{x:V}{dx:D}{f:Addr→Prop}(p:Dp K H x dx)(h:kObj dx f):∃ a,x=.ref a∧f a:=by
  cases p with
  | obj a=>exact ⟨a,rfl,h⟩
  | _=>exact False.elim h
theorem uO {H:Hp}{q:Addr}{u:HO}{xs:List (Key×V)}(ex:H q=some (.dK xs)):Tk H (L2.upd H q u):=
  .upd (fun ys z=>by rw[ex] at z;cases z) fun o' w z=>by rw[ex] at z;cases z
theorem Ej {K:PySem.W.Frag}{H:Hp}{μ:Mu}{q:Addr}{xs ys:List (Key×V)}{ds:List (Key×D)}(m:bO K H μ)(ex:H q=some (.dK xs))(l:DpK K H ys ds):bO K (L2.upd H q (.dK ys)) (up μ q (.dct ds)):=fun z y ez=>by
  by_cases zq:z=q
  · subst zq
    rw[aB] at ez;cases ez
    exact ⟨ys,aP,l.mono (uO ex)⟩
  · rw[aK zq] at ez
    exact (m z _ ez).ne (uO ex) zq
theorem tI {K:PySem.W.Frag}{H:Hp}{μ:Mu}{q:Addr}{ys:List (Key×V)}{ds:List (Key×D)}(m:bO K H μ)(hq:H q=none)(l:DpK K H ys ds):bO K (L2.upd H q (.dK ys)) (up μ q (.dct ds)):=fun z y ez=>by
  by_cases zq:z=q
  · subst zq
    rw[aB] at ez;cases ez
    exact ⟨ys,aP,l.mono (.new hq)⟩
  · rw[aK zq] at ez
    exact dk m hq z y ez
section
variable {X:Cx} {o i a b c e value:Expr} {To Ti Ta Tb Te:ETr} {pos tpos:Pos}
theorem hu1 (hu:X.A.units+64 < cLine):X.A.units+1 < cLine:=by omega
def dU (To Ti:ETr):ETr:=fun ρ μ Q=>To ρ μ fun x μ1=>Ti ρ μ1 fun y μ2=>kObj x fun a=>kD μ2 a fun kvs=>tQ y fun k=>kO (bo kvs k) fun d=>Q d μ2
theorem bR (hu:X.A.units+64 < cLine)(ho:LE X o To)(hi:LE X i Ti)(hs:M5 i:=by intro _ _;rfl):LE X (.Subscript o i pos) (dU To Ti):=by
  obtain ⟨to,po,so⟩:=ho.ex
  obtain ⟨ti,pi,si⟩:=hi.ex
  refine ⟨_,Kx (hu1 hu) po pi hs,fun σ H ρ μ Q Q' rl h k=>so σ H ρ μ _ _ rl h fun x H1 dx μ1 t1 m1 p1 h1=>si σ H1 ρ μ1 _ _ (rl.go t1 m1) h1 fun y H2 dy μ2 t2 m2 p2 h2=>?_⟩
  obtain ⟨q,rfl,h2⟩:=iw p1 h2
  obtain ⟨kvs,e0,h2⟩:=uM h2
  obtain ⟨kk,rfl,h2⟩:=pZ p2 h2
  obtain ⟨d,e1,h2⟩:=lX h2
  obtain ⟨xs,ex,l⟩:=m2 q _ e0
  rcases l.look kk with ⟨z,_⟩ | ⟨v,d',z,ev,pv⟩
  · rw[z] at e1;cases e1
  · rw[z] at e1;cases e1
    exact ⟨q,v,rfl,by rw[← ev];exact qQ.k ex,k _ H2 _ μ2 (t1.trans t2) m2 pv h2⟩
def Kh (neg:Bool)(Ti To:ETr):ETr:=fun ρ μ Q=>Ti ρ μ fun y μ1=>To ρ μ1 fun x μ2=>kObj x fun a=>kD μ2 a fun kvs=>tQ y fun k=>Q (.bl (if neg then !(bo kvs k).isSome else (bo kvs k).isSome)) μ2
theorem yC {K:PySem.W.Frag}{H:Hp}{xs:List (Key×V)}{kvs:List (Key×D)}(l:DpK K H xs kvs)(k:Key):(gJ xs k).isSome=(bo kvs k).isSome:=by
  rcases l.look k with ⟨a,b⟩ | ⟨v,d,a,b,_⟩ <;> rw[a,b]<;>rfl
theorem yN {ti to:TE}{K:PySem.W.Frag}(si:Sim K ti Ti)(so:Sim K to To):Sim K (Bo ti to) (Kh true Ti To):=fun σ H ρ μ Q Q' rl h k=>
  si σ H ρ μ _ _ rl h fun y H1 dy μ1 t1 m1 p1 h1=>so σ H1 ρ μ1 _ _ (rl.go t1 m1) h1 fun x H2 dx μ2 t2 m2 p2 h2=>by
    obtain ⟨q,rfl,h2⟩:=iw p2 h2
    obtain ⟨kvs,e0,h2⟩:=uM h2
    obtain ⟨kk,rfl,h2⟩:=pZ p1 h2
    obtain ⟨xs,ex,l⟩:=m2 q _ e0
    exact ⟨q,_,rfl,qQ.k ex,k _ H2 _ μ2 (t1.trans t2) m2 (.bl _) (by rw[yC l];exact h2)⟩
def kJ (To Ti Te:ETr):STr:=fun E ρ μ=>Te ρ μ fun v μ1=>To ρ μ1 fun x μ2=>Ti ρ μ2 fun y μ3=>kObj x fun a=>kD μ3 a fun kvs=>tQ y fun k=>kvs.length < 1000000∧E.nx ρ (up μ3 a (.dct (putD kvs k v)))
theorem jc (hu:X.A.units+64 < cLine)(ho:LE X o To)(hi:LE X i Ti)(he:LE X value Te)(hs:swapsWith value (some (.Subscript o i tpos)) pos.line X.env=pure false:=by rfl) :
    LS X (.Assign [.Subscript o i tpos] value pos) (kJ To Ti Te):=by
  obtain ⟨to,po,so⟩:=ho.ex
  obtain ⟨ti,pi,si⟩:=hi.ex
  obtain ⟨te,pe,se⟩:=he.ex
  refine ⟨_,Kf (hu1 hu) po pi pe hs,fun σ H ρ μ E E' rl h k=>se σ H ρ μ _ _ rl h fun v H1 dv μ1 t1 m1 p1 h1=>so σ H1 ρ μ1 _ _ (rl.go t1 m1) h1 fun x H2 dx μ2 t2 m2 p2 h2=>
    si σ H2 ρ μ2 _ _ (rl.go (t1.trans t2) m2) h2 fun y H3 dy μ3 t3 m3 p3 h3=>?_⟩
  obtain ⟨q,rfl,h3⟩:=iw p2 h3
  obtain ⟨kvs,e0,h3⟩:=uM h3
  obtain ⟨kk,rfl,h3⟩:=pZ p3 h3
  obtain ⟨xs,ex,l⟩:=m3 q _ e0
  have t4:Tk H3 (L2.upd H3 q (.dK (putK xs kk v))):=uO ex
  have t14:=t1.trans (t2.trans (t3.trans t4))
  refine ⟨q,_,rfl,yW.k ex (by rw[l.length];exact Nat.lt_of_lt_of_le h3.1 (by decide)),k.nx _ _ ρ _ t14 (rl.go t14 (Ej m3 ex (l.put kk (p1.mono (t2.trans t3))))) h3.2⟩
def JE (f:Int→Int→Int)(i:Nat)(Te:ETr):STr:=fun E ρ μ=>kO (lk ρ i) fun d=>kI d fun m=>Te ρ μ fun w μ1=>kI w fun n=>aw i (.int (f m n)) ρ μ1 E.nx
theorem Jb {te:TE}{K:PySem.W.Frag}{f:Int→Int→Int}{j:Nat}(se:Sim K te Te):KQ K (Qx j te (ipI f)) (JE f j Te):=fun σ H ρ μ E E' rl h k=>by
  obtain ⟨d,e1,h⟩:=lX h
  obtain ⟨v,ev,pv⟩:=rl.loc j d e1
  cases pv with
  | int m=>
    refine ⟨.int m,ev,se σ H ρ μ _ _ rl h fun w H1 dw μ1 t1 m1 p1 h1=>?_⟩
    cases p1 with
    | int n=>exact ⟨m,n,rfl,rfl,k.nx _ _ _ _ t1 ((rl.go t1 m1).set (.int _) j) h1⟩
    | _=>exact False.elim h1
  | _=>exact False.elim h
theorem Ds (j:Nat){x:Str}(hN:X.N.Nodup)(he:LE X e Te)(hi:X.N[j]? = some x:=by rfl)(hx:Loc X.env.scope x:=by first | exact Or.inl rfl | exact Or.inr rfl)(hf:X.fn x=true∨X.env.scope.names.lookup x=some .local:=by first | exact .inl rfl | exact .inr rfl | assumption) :
    LS X (.AugAssign (.Name x tpos) .Add e pos) (JE (fun m n=>m+n) j Te):=by
  obtain ⟨te,pe,se⟩:=he.ex
  exact ⟨_,Nj hN hi hx pe NP hf,Jb se⟩
theorem JD:LE X (.Dict [] [] pos) (fun ρ μ Q=>∀ p,μ p=none→Q (.obj p) (up μ p (.dct []))):=
  ⟨_,GJ,fun σ H ρ μ Q Q' rl h k p hp=>k _ _ _ _ (.new hp) (tI rl.mu hp .nil) (.obj p) (h p (rl.mu.free hp))⟩
def S6 (K:PySem.W.Frag)(trs:List (TE×TE))(ks:List Key)(T:ATr):Prop:=∀ σ H ρ μ (Q:List D→Mu→Prop) (Q':List (V×V)→Hp→Prop),Rl K σ H ρ μ→T ρ μ Q→
  (∀ vs H' ds μ',Tk H H'→bO K H' μ'→vs.length=ks.length→DpL K H' vs ds→Q ds μ'→Q' ((ks.map kV).zip vs) H')→t9 trs σ H Q'
structure LPs (X:Cx) (pos:Pos) (keys:List (Option Expr)) (values:List Expr) (ks:List Key) (T:ATr):Prop where
  ex:∃ trs,PPs X pos keys values trs∧S6 X.K trs ks T
theorem Kw:LPs X pos [] [] [] ar:=⟨[],Lh,fun σ H ρ μ Q Q' rl h k=>k [] H [] μ (.refl H) rl.mu rfl .nil h⟩
theorem lC {s:Str}{j}{p:Pos}{ks:List (Option Expr)}{vs:List Expr}{kk:List Key}{At:ATr}(hv:LE X value Te)(hr:LPs X pos ks vs kk At):LPs X pos (some (.Constant (.str s) j p)::ks) (value::vs) (.inr s::kk) (af Te At):=by
  obtain ⟨te,pe,se⟩:=hv.ex
  obtain ⟨trs,pr,sr⟩:=hr.ex
  refine ⟨_,GW HE pe pr,fun σ H ρ μ Q Q' rl h k=>?_⟩
  refine se σ H ρ μ _ _ rl h fun y H1 dy μ1 t1 m1 p1 h1=>sr σ H1 ρ μ1 _ _ (rl.go t1 m1) h1 fun vs H2 ds μ2 t2 m2 hl p2 h2=>?_
  exact k (y::vs) H2 (dy::ds) μ2 (t1.trans t2) m2 (by simp[hl]) (.cons (p1.mono t2) p2) h2
def HX (ks:List Key)(At:ATr):ETr:=fun ρ μ Q=>∀ p,μ p=none→At ρ (up μ p (.dct [])) fun ds μ2=>kD μ2 p fun kvs=>kvs=[]∧Q (.obj p) (up μ2 p (.dct (ks.zip ds)))
theorem Il {acc:List (Key×V)}{k:Key}{v:V}(h:gJ acc k=some v):k∈acc.map (·.1):=by
  unfold gJ at h
  obtain ⟨p,hp,_⟩:=Option.map_eq_some_iff.mp h
  have h1:=List.mem_of_find?_eq_some hp
  have h2:=List.find?_some hp
  exact List.mem_map.mpr ⟨p,h1,of_decide_eq_true h2⟩
theorem pL:∀ (kvs acc:List (Key×V)),((acc++kvs).map (·.1)).Nodup→eM acc kvs=acc++kvs
  | [],acc,_=>by simp[eM]
  | p::r,acc,h=>by
    have hn:gJ acc p.1=none:=by
      cases e:gJ acc p.1 with
      | none=>rfl
      | some v=>
        exfalso
        have:=Il e
        rw[List.map_append,List.map_cons] at h
        exact (List.nodup_append.mp h).2.2 _ this _ List.mem_cons_self rfl
    show eM (putK acc p.1 p.2) r=_
    rw[HH p.2 hn]
    rw[pL r (acc++[(p.1,p.2)]) (by simpa using h)]
    simp
theorem xW:∀ (ks:List Key) (vs:List V),(ks.map kV).zip vs=(ks.zip vs).map fun kv=>(kV kv.1,kv.2)
  | [],_=>by simp
  | _::_,[]=>by simp
  | k::ks,v::vs=>by simp[xW ks vs]
theorem DpK.zip {K:PySem.W.Frag}{H:Hp}:∀ {ks:List Key} {vs:List V} {ds:List D},DpL K H vs ds→DpK K H (ks.zip vs) (ks.zip ds)
  | [],_,_,_=>by simp;exact .nil
  | _::_,_,_,.nil=>by simp;exact .nil
  | k::ks,_,_,.cons p l=>.cons p (DpK.zip l)
theorem Ja {keys:List (Option Expr)}{values:List Expr}{ks:List Key}{At:ATr}(h:LPs X pos keys values ks At)(hall:keys.all (·.isSome)=true:=by rfl)(hl:keys.length=values.length:=by rfl)(h0:keys≠[]:=by nofun)
    (h15:keys.length≤15:=by decide) (hk:keys.length=ks.length:=by rfl) (hn:ks.Nodup:=by decide):LE X (.Dict keys values pos) (HX ks At):=by
  obtain ⟨trs,pr,sr⟩:=h.ex
  refine ⟨_,LN pr hall hl h0 h15,fun σ H ρ μ Q Q' rl h k p hp=>?_⟩
  refine sr σ _ ρ _ _ _ (rl.go (.new hp) (tI rl.mu hp .nil)) (h p (rl.mu.free hp)) fun vs H2 ds μ2 t2 m2 hvl p2 h2=>?_
  obtain ⟨kvs,e0,rfl,h2⟩:=uM h2
  obtain ⟨xs,ex,l⟩:=m2 p _ e0
  have:xs=[]:=by have:=l.length;cases xs with | nil=>rfl | cons=>simp at this
  subst this
  refine ⟨ex,ks.zip vs,xW ks vs,by rw[List.length_zip];omega,?_⟩
  have e:eM [] (ks.zip vs)=ks.zip vs:=by
    have:=pL (ks.zip vs) [] (by rw[List.nil_append,List.map_fst_zip (by omega)];exact hn)
    simpa using this
  rw[e]
  exact k _ _ _ _ ((Tk.new hp).trans (t2.trans (uO ex))) (Ej m2 ex (.zip p2)) (.obj p) h2
end
end
section
open PySem PySem.Spec PyProof.Rows L2
theorem Dy:typeLookup (.type "list") (Str.ofString "keys")=pure none:=am_miss_of_fast (by kernel_rfl)
theorem PL {prog:Program}{w:World}{A:Around}{E:Value→Shared→Prop}{s:Shared}{a:Addr}{o:Obj}{xs:Array Value}{k:Nat}{Q:Option Value→Shared→Prop}
    (hx:s.heap.get? a=some o) (hc:o.cls=.type "list") (hdat:o.data=.seq xs k) (hd:o.dict=none) (hA:A.handled=none)
    (h:∀ h' tk,(∀ b ob,s.heap.get? b=some ob→h'.get? b=some ob)→Q none { s with heap:=h',toks:=tk }) :
    wpAny (model prog w) A (getAttr? (.ref a) "keys") Q E s:=by
  obtain ⟨c,dct,dat,sl⟩:=o
  simp only at hc hdat hd
  subst hc hdat hd
  obtain ⟨hp,g,d,tk,os⟩:=s
  have hT:∀ tk',(⟨hp,g,d,tk',os⟩:Shared).TypeIs (.ref a) "list" := fun _=>⟨_,hx,rfl⟩
  have f1:=sub_AttributeError
  have f3:=F.slot_list_getattribute.lookup
  have f4:=F.slot_list_getattribute.bind (.ref a)
  have f5:=am_list_getattr_none
  unfold getAttr? getAttrBy? getAttrBy
  repeat (any_goals (first | assumption | exact hT _ | ((with_reducible show wpAny _ _ (call (Value.builtin "list.__getattribute__") _ _) _ _ _);refine call_meets F.slot_list_getattribute (hT _) am_entry_list_getattribute (F.args_list_getattribute_2 _ _) (meets_getattribute_miss_list a xs k sl (Str.ofString "keys") _ Dy (by decide +kernel) (by decide +kernel)) ⟨hx,hA,fun h' tk' e hx'=>?_⟩) | wp_step))
  obtain ⟨t',u',he⟩:=hx'.there
  show wpAny _ _ (getattributeRaised _ _ _ _ _ _ _) _ _ _
  unfold getattributeRaised
  repeat (any_goals (first | assumption | wp_step))
  exact h _ _ hx'.keeps
theorem lM:plainId "dict.update.loop" = true:=by decide +kernel
theorem wa:entryFor table "dict.update.loop" = some Builtin.«dict.update.loop»:=entryFor_of_fast (by kernel_rfl)
inductive gk {prog:Program} {w:World} {κ:Type} [DecidableEq κ] (knd:KeyKind prog w κ) (h:Heap):List Value→List (κ×Value)→Prop
  | nil:gk knd h [] []
  | cons {a:Addr} {u v:Value} {k:κ} {us:List Value} {r:List (κ×Value)}:IsTup h a #[u,v]→knd.is k u=true→gk knd h us r→gk knd h (.ref a::us) ((k,v)::r)
section
variable {prog:Program} {w:World} {κ:Type} [DecidableEq κ] {knd:KeyKind prog w κ}
theorem gk.keeps {h h':Heap}(kp:∀ b o,h.get? b=some o→o.cls=.type "tuple" → h'.get? b=some o):∀ {us:List Value} {r:List (κ×Value)},gk knd h us r→gk knd h' us r
  | _,_,.nil=>.nil
  | _,_,.cons t k r=>.cons (by obtain ⟨o,e,c,n,d⟩:=t;exact ⟨o,kp _ o e c,c,n,d⟩) k (r.keeps kp)
theorem xB {A:Around}{R:Result→Shared→Prop}{d it l:Addr}{items:Array Value}(hA:A.handled=none)(n1:d≠it)(n2:l≠it)(n3:l≠d) :
    ∀ (us:List Value) (r:List (κ×Value)) (i:Nat) (kvs:List (κ×Value)) (s:Shared),items.toList.drop i=us→gk knd s.heap us r→s.heap.IsListIter it l i→s.heap.IsList l items→s.heap.DictOf knd d kvs→kvs.length+r.length≤sizeLine→
      (∀ h' tk,h'.DictOf knd d (merged kvs r)→(∀ b o,b≠it→b≠d→s.heap.get? b=some o→h'.get? b=some o)→R (.ok (.ret .none)) { s with heap:=h',toks:=tk })→
      wpAny (model prog w) A.in1 (Builtin.«dict.update.loop» ⟨[.ref d,.ref it,rawInt i,.none],[]⟩) (fun fin s'=>match fin with | .done f=>R (.ok f) s' | .again c'=>c'.quiet=true∧codeAny (model prog w) A c' R s') (fun e s'=>R (.error e) s') s
  | [],r,i,kvs,s,hd,P,hit,hl,hm,hz,h=>by
    cases P
    have hx:items[i]? = none:=by
      have:items.toList.length≤i:=by
        have:=congrArg List.length hd
        simp at this;simp;omega
      simpa using this
    show wpAny _ _ (pyNext (.ref it) >>= _) _ _ _
    refine wpAny_bind (wpAny_pyNext_list_end (by exact hA) hit hl hx fun h' k=>?_)
    show wpAny _ _ (Builtin.Dict.addKeywords d [] >>= _) _ _ _
    refine wpAny_bind (wpAny_pure (wpAny_pure ?_))
    refine h h' s.toks ?_ fun b o hb _ e=>k b o hb e
    obtain ⟨o,es,ep,ho,rest⟩:=hm
    exact ⟨o,es,ep,k d o n1 ho,rest⟩
  | u::us,r,i,kvs,s,hd,P,hit,hl,hm,hz,h=>by
    cases P with
    | @cons a ku v k _ r tp hk P=>
    have hx:items[i]? = some (.ref a):=by
      have:items.toList[i]? = some (.ref a):=by
        have:=congrArg (fun l=>l[0]?) hd
        simpa using this
      simpa using this
    have hd':items.toList.drop (i+1)=us:=by
      have:=congrArg List.tail hd
      simpa using this
    show wpAny _ _ (pyNext (.ref it) >>= _) _ _ _
    refine wpAny_bind (wpAny_pyNext_list_item hit hl hx fun h1 it1 k1=>?_)
    have ne_it:∀ b o,s.heap.get? b=some o→o.cls≠.type "list_iterator" → b≠it:=fun b o e c z=>by
      subst z
      obtain ⟨o',e',c',_⟩:=hit
      rw[e] at e';cases e';exact c c'
    have tp1:IsTup h1 a #[ku,v]:=by
      obtain ⟨o,e,c,n,dd⟩:=tp
      exact ⟨o,(k1.2 a (ne_it a o e (by rw[c];decide))).trans e,c,n,dd⟩
    obtain ⟨o,e,c,n,dd⟩:=tp1
    have hm1:h1.DictOf knd d kvs:=by
      obtain ⟨o,es,ep,ho,rest⟩:=hm
      exact ⟨o,es,ep,(k1.2 d n1).trans ho,rest⟩
    have hl1:h1.IsList l items:=by
      obtain ⟨o,e,c,n,dd⟩:=hl
      exact ⟨o,(k1.2 l n2).trans e,c,n,dd⟩
    dsimp only
    refine wpAny_bind (wpAny_holding ?_)
    refine wpAny_bind (wpAny_tryCatch ?_)
    unfold Builtin.Dict.pairItems
    refine wpAny_bind (wpAny_typeOf (T := "tuple") ⟨o,e,c⟩ ?_)
    rw[if_pos (by decide)]
    refine wpAny_bind (wpAny_seqItems e dd (wpAny_pure ?_))
    show wpAny _ _ (holding [ku,v] (dictSet d ku v)) _ _ _
    refine wpAny_holding (wpAny_dictSet_pairs (hsz:=by have:=hz;simp at this;omega) hk hm1 fun h2 hm2 k2=>?_)
    refine wpAny_pure ?_
    refine ⟨plainId_quiet lM _,codeAny_builtin wa ?_⟩
    rw[Around.under_plainId lM _]
    have kp:∀ b o,b≠it→b≠d→s.heap.get? b=some o→h2.get? b=some o:=fun b o b1 b2 q=>(k2.2 b b2).trans ((k1.2 b b1).trans q)
    have ci:((i:Int)+1)=((i+1:Nat):Int):=by push_cast;rfl
    have nd:∀ b o,s.heap.get? b=some o→o.cls≠.type "dict" → b≠d:=fun b o q c z=>by
      subst z
      obtain ⟨o',_,_,e',ex,_⟩:=hm
      rw[q] at e';cases e';exact c ex.1
    show wpAny _ _ (Builtin.«dict.update.loop» ⟨[.ref d,.ref it,rawInt ((i:Int)+1),.none],[]⟩) _ _ _
    rw[ci]
    refine xB hA n1 n2 n3 us r (i+1) (stored kvs k v) _ hd' (P.keeps fun b o q c=>kp b o (ne_it b o q (by rw[c];decide)) (nd b o q (by rw[c];decide)) q) ?_ ?_ hm2 ?_ ?_
    · obtain ⟨o,e,c⟩:=it1
      exact ⟨o,(k2.2 it (Ne.symm n1)).trans e,c⟩
    · obtain ⟨o,e,c⟩:=hl1
      exact ⟨o,(k2.2 l n3).trans e,c⟩
    · have:=stored_length_le kvs k v
      simp at hz;omega
    · intro h' tk hm' kp'
      exact h h' tk hm' fun b o b1 b2 q=>kp' b o b1 b2 (kp b o b1 b2 q)
end
end
section
open PySem PySem.Spec PyProof.Rows L2
section
variable {prog:Program} {w:World} {κ:Type} [DecidableEq κ] {knd:KeyKind prog w κ}
theorem oG {A:Around}{E:Value→Shared→Prop}{s:Shared}{l:Addr}{o:Obj}{items:Array Value}{k:Nat}{r:List (κ×Value)}{Q:Value→Shared→Prop}(hA:A.handled=none)
    (hx:s.heap.get? l=some o) (hc:o.cls=.type "list") (hdat:o.data=.seq items k) (hd:o.dict=none) (P:gk knd s.heap items.toList r) (hz:r.length≤sizeLine)
    (h:∀ h' tk,h'.DictOf knd s.heap.objs.size (merged [] r)→(∀ b o,s.heap.get? b=some o→h'.get? b=some o)→Q (.ref s.heap.objs.size) { s with heap:=h',toks:=tk }) :
    wpAny (model prog w) A (call (.type "dict") [.ref l]) Q E s:=by
  refine callType_codes (Q₁:=fun obj s₁=>obj=.ref s.heap.objs.size∧s₁={ s with heap:=s.heap.push { cls:=.type "dict", data:=.dict #[] } }) F.kt_called_dict (F.kt_typeCall_dict_1 _) F.entry_dict_init (kt_code_dict_new _ ⟨rfl,rfl⟩) ?_
  rintro obj s₁ ⟨rfl,rfl⟩
  have Lk:(s.heap.push { cls:=.type "dict", data:=.dict #[] }).DictOf knd s.heap.objs.size []:=Heap.DictOf.new s.heap
  have hx1:(s.heap.push { cls:=.type "dict", data:=.dict #[] }).get? l=some o:=Heap.get?_push_of_some _ hx
  have ll:l < s.heap.objs.size:=Heap.lt_size hx
  refine ⟨Lk.typeIs,F.args_dict_init_2 _ _,?_⟩
  unfold Builtin.«dict.__init__»
  refine wpAny_bind ?_
  unfold Builtin.Dict.selfAndRest
  refine wpAny_bind (wpAny_notOrdered_dict Lk.typeIs ?_)
  show wpAny _ _ (pure (s.heap.objs.size,[Value.ref l])) _ _ _
  refine wpAny_pure ?_
  show wpAny _ _ (Builtin.Dict.updateFrom "dict.__init__" s.heap.objs.size (.ref l) [] .none) _ _ _
  unfold Builtin.Dict.updateFrom
  refine wpAny_bind (wpAny_typeOf (T := "list") ⟨o,hx1,hc⟩ ?_)
  rw[if_pos (by decide)]
  refine wpAny_bind (PL hx1 hc hdat hd hA fun h1 tk1 kp1=>?_)
  rw[if_pos (by decide)]
  refine wpAny_bind (wpAny_rule ?_)
  have hx2:h1.get? l=some o:=kp1 _ _ hx1
  have hl2:h1.IsList l items:=⟨o,hx2,hc,k,hdat⟩
  have lt1:s.heap.objs.size < h1.objs.size:=by
    obtain ⟨o',es,ep,ho,_⟩:=Lk
    exact Heap.lt_size (kp1 _ _ ho)
  refine wpAny_bind (wpAny_pyIter_list hl2 ?_)
  refine wpAny_bind (wpAny_pure (wpAny_pure ?_))
  refine ⟨plainId_quiet lM _,codeAny_builtin wa ?_⟩
  rw[Around.under_plainId lM _]
  have kp2:∀ b o,s.heap.get? b=some o→(h1.push { cls:=.type "list_iterator", data:=.fields #[.ref l,.int 0 0] }).get? b=some o:=fun b o q=>Heap.get?_push_of_some _ (kp1 _ _ (Heap.get?_push_of_some _ q))
  refine xB (A:=A.in1) (knd:=knd) (it:=h1.objs.size) (d:=s.heap.objs.size) (l:=l) (items:=items) (R:=wants (fun r s₂=>r=Value.none∧Q (Value.ref s.heap.objs.size) s₂) E) hA (Nat.ne_of_lt lt1) (Nat.ne_of_lt (Nat.lt_trans ll lt1)) (Nat.ne_of_lt ll) items.toList r 0 [] _ rfl ?_ ?_ ?_ ?_ (by simpa using hz) ?_
  · exact P.keeps fun b o q _=>kp2 b o q
  · exact ⟨_,Heap.get?_push_size _ rfl,rfl,rfl⟩
  · exact ⟨o,Heap.get?_push_of_some _ hx2,hc,k,hdat⟩
  · obtain ⟨o',es,ep,ho,rest⟩:=Lk
    exact ⟨o',es,ep,Heap.get?_push_of_some _ (kp1 _ _ ho),rest⟩
  · intro h' tk hm' kp'
    refine ⟨rfl,h h' tk hm' fun b o q=>?_⟩
    have hb:b < s.heap.objs.size:=Heap.lt_size q
    exact kp' b o (Nat.ne_of_lt (Nat.lt_trans hb lt1)) (Nat.ne_of_lt hb) (kp2 b o q)
end
def dK:Key→D
  | .inl i=>.int i
  | .inr s=>.str s
def zY (kv:Key×D):D:=.tup [dK kv.1,kv.2]
def i7 (kvs more:List (Key×D)):List (Key×D):=more.foldl (fun acc kv=>putD acc kv.1 kv.2) kvs
inductive fY (K:PySem.W.Frag) (H:Hp):List V→List (Key×V)→Prop
  | nil:fY K H [] []
  | cons {a:Addr} {k:Key} {v:V} {ys:List V} {r:List (Key×V)}:SqT K H a [kV k,v]→fY K H ys r→fY K H (.ref a::ys) ((k,v)::r)
theorem fY.at {X:Cx}{pins:List (Addr×Obj)}{σ:L2.St}{H:Hp}{s:Shared}(I:Inv X pins σ H s):∀ {ys:List V} {kvs:List (Key×V)} {us:List Value},fY X.K H ys kvs→Vals ys us→∃ r,gk (ck X.prog X.w) s.heap us r∧KV kvs r
  | _,_,_,.nil,.nil=>⟨[],.nil,.nil⟩
  | _,_,_,@fY.cons _ _ a k v ys r sq h,.cons ru rs=>by
    cases (show _=Value.ref a from ru)
    obtain ⟨r,p,q⟩:=h.at I rs
    obtain ⟨its,vs,it,_⟩:=I.tuple sq
    cases vs with | @cons _ u1 _ _ r1 vs=>cases vs with | @cons _ u2 _ _ r2 vs=>
    cases vs
    exact ⟨(k,u2)::r,.cons it (sZ r1) p,.cons ⟨rfl,r2⟩ q⟩
theorem pI {X:Cx}(hc:X.calm=true):cH X (.type "dict") (fun xs H Q=>∃ l ys kvs,xs=[.ref l]∧SqL X.K H l ys∧fY X.K H ys kvs∧kvs.length≤sizeLine∧∀ p,H p=none→Q (.ref p) (L2.upd H p (.dK (eM [] kvs)))):=by
  intro pins s σ H xs us Q I rx h
  obtain ⟨l,ys,kvs,rfl,sq,pv,hz,q⟩:=h
  obtain ⟨u,rfl,ru⟩:=vals1 rx
  cases (show u=Value.ref l from ru)
  obtain ⟨its,vs,pl,_⟩:=I.list sq
  obtain ⟨o,n,e,c,hd,hdat⟩:=pl
  obtain ⟨r,pr,kv⟩:=pv.at I vs
  refine oG (knd:=ck X.prog X.w) (I.ok.hd hc) e c hdat hd (r:=r) (by simpa using pr) (by rw[← kv.length];exact hz) fun h' tk dd kp=>?_
  have hl:(eM [] kvs).length≤sizeLine:=by have:=hU kvs [];simp at this;omega
  exact ⟨.ref s.heap.objs.size,_,I.laid (a:=s.heap.objs.size) (o:=.dK (eM [] kvs)) kp (Nat.le_refl _) (Ae hl (beq_eq_false_iff_ne.mpr (Ne.symm (Nat.ne_of_lt I.big))) (KV.merge kv .nil) dd),rfl,q _ (I.hok.fresh (Nat.le_refl _))⟩
def xP:FSp:=fun ds μ Q=>match ds with
  | [.ls xs]=>∃ kvs:List (Key×D),xs=kvs.map zY∧kvs.length≤1000000∧∀ p,μ p=none→Q (.obj p) (up μ p (.dct (i7 [] kvs)))
  | _=>False
theorem ON {K:PySem.W.Frag}{H:Hp}{v:V}{k:Key}(h:Dp K H v (dK k)):v=kV k:=by
  cases k with
  | inl i=>cases h;rfl
  | inr s=>cases h;rfl
theorem fY.of {K:PySem.W.Frag}{H:Hp}:∀ {kvs:List (Key×D)} {xs:List V},DpL K H xs (kvs.map zY)→∃ r,fY K H xs r∧DpK K H r kvs
  | [],_,h=>by cases h;exact ⟨[],.nil,.nil⟩
  | kv::kvs,_,h=>by
    obtain ⟨k,d⟩:=kv
    cases h with
    | cons p l=>
      obtain ⟨r,h1,h2⟩:=fY.of l
      cases p with
      | tup sq lp=>
        cases lp with | cons p1 lp=>cases lp with | cons p2 lp=>
        cases lp
        cases ON p1
        exact ⟨(k,_)::r,.cons sq h1,.cons p2 h2⟩
theorem DpK.merge {K:PySem.W.Frag}{H:Hp}{xs:List (Key×V)}{kvs:List (Key×D)}(h:DpK K H xs kvs):∀ {axs:List (Key×V)} {akvs:List (Key×D)},DpK K H axs akvs→DpK K H (eM axs xs) (i7 akvs kvs):=
  DpK.ind (P:=fun xs kvs=>∀ {axs:List (Key×V)} {akvs:List (Key×D)},DpK K H axs akvs→DpK K H (eM axs xs) (i7 akvs kvs)) (fun h=>h) (fun k v d xs kvs p _ ih axs akvs ha=>ih (ha.put k p)) h
theorem wg {K:PySem.W.Frag}:lq K (fun xs H Q=>∃ l ys kvs,xs=[.ref l]∧SqL K H l ys∧fY K H ys kvs∧kvs.length≤sizeLine∧∀ p,H p=none→Q (.ref p) (L2.upd H p (.dK (eM [] kvs)))) xP:=fun H μ xs ds Q Q' m p h k=>by
  unfold xP at h
  split at h
  · obtain ⟨kvs,rfl,hl,h⟩:=h
    cases p with | cons p1 p2=>
    cases p2
    cases p1 with
    | ls q l=>
      obtain ⟨r,h1,h2⟩:=fY.of l
      exact ⟨_,_,r,rfl,q.sq,h1,by rw[h2.length];exact big hl,fun z hz=>k _ _ _ _ (.new hz) (tI m hz (h2.merge .nil)) (.obj z) (h z (m.free hz))⟩
  · exact False.elim h
end
section
open PySem PySem.Spec PyProof.Rows L2
theorem Bk (K:PySem.W.Frag){t:String}(ht:t∈tys):∀ (cs:List String),(∀ c∈cs,c∈wM)→PySem.W.kitAny K (.type t) (cs.map .type)=some (cs.any fun c=>ft t c)
  | [],_=>rfl
  | c::cs,h=>by
    have e:=Bm K t ht c (h c List.mem_cons_self)
    have ih:=Bk K ht cs fun x hx=>h x (List.mem_cons_of_mem _ hx)
    rw[List.map_cons,List.any_cons]
    unfold PySem.W.kitAny
    rw[e]
    cases ft t c with
    | true=>rfl
    | false=>rw[Bool.false_or];exact ih
def Ez (K:PySem.W.Frag):List V→Hp→VK→Prop:=fun xs H Q=>∃ x d t p,∃ cs:List String,xs=[x,.ref p]∧SqT K H p (cs.map V.ty)∧Dp K H x d∧tyD d=some t∧(∀ c∈cs,c∈wM)∧Q (.bl (cs.any fun c=>ft t c)) H
theorem BZ:∀ {cs:List String} {us:List Value},Vals (cs.map V.ty) us→us=cs.map .type
  | [],_,h=>by cases h;rfl
  | c::cs,_,h=>by
    cases h with
    | cons r h=>rw[BZ h,List.map_cons];congr 1
theorem C0 {X:Cx}:cH X (.builtin "isinstance") (Ez X.K):=fun pins s σ H xs us Q I rx ⟨x,d,t,p,cs,ex,sq,px,et,hc,q⟩=>by
  subst ex
  cases rx with | @cons _ u _ _ r1 r2=>cases r2 with | cons r2 r3=>
  cases r3
  cases (show _=Value.ref p from r2)
  obtain ⟨its,rv,⟨o,ho,hcl,n,hd⟩,_⟩:=I.tuple sq
  have ei:=BZ rv
  subst ei
  have htp:s.heap.get? p=some ⟨.type "tuple", o.dict,.seq (cs.map Value.type).toArray n,o.slots⟩:=by
    rw[ho];obtain ⟨c,dd,dt,sl⟩:=o;simp only at hcl hd;subst hcl hd;rfl
  have e:=Bk X.K (Gk et) cs hc
  have fin:∀ tk,EP X pins σ Q (.bool (cs.any fun c=>ft t c)) { s with toks:=tk }:=fun tk=>⟨.bl _,H,I.tok tk,rfl,q⟩
  cases px with
  | non=>cases et;cases (show u=Value.none from r1);exact PySem.W.kia_tup PySem.W.kitx_none I.kIn True.intro htp e (fun z=>nomatch z) fin
  | bl y=>cases et;cases (show u=Value.bool y from r1);exact PySem.W.kia_tup PySem.W.kitx_bool I.kIn True.intro htp e (fun z=>nomatch z) fin
  | int i=>cases et;obtain ⟨t,z⟩:=(show ∃ t,u=Value.int i t from r1);cases z;exact PySem.W.kia_tup PySem.W.kitx_int I.kIn True.intro htp e (fun z=>nomatch z) fin
  | str y=>cases et;obtain ⟨t,z⟩:=(show ∃ t,u=Value.str y t from r1);cases z;exact PySem.W.kia_tup PySem.W.kitx_str I.kIn True.intro htp e (fun z=>nomatch z) fin
  | ty _=>cases et
  | obj _=>cases et
  | @tup a xs ds sq l=>
    cases et
    cases (show u=Value.ref a from r1)
    obtain ⟨its,_,⟨o,h1,h2,_⟩,_⟩:=I.tuple sq
    exact PySem.W.kia_tup PySem.W.kitx_tuple I.kIn ⟨o,h1,h2⟩ htp e (fun z=>nomatch z) fin
  | @ls a xs ds sq l=>
    cases et
    cases (show u=Value.ref a from r1)
    obtain ⟨its,_,⟨o,n,h1,h2,_⟩,_⟩:=I.list sq.sq
    exact PySem.W.kia_tup PySem.W.kitx_list I.kIn ⟨o,h1,h2⟩ htp e (fun z=>nomatch z) fin
def Co (cs:List String):FSp:=fun ds μ Q=>match ds with
  | [x,.tup ts]=>(ts=cs.map .ty∧∀ c∈cs,c∈wM)∧(match tyD x with
    | some t=>Q (.bl (cs.any fun c=>ft t c)) μ
    | none=>False)
  | _=>False
theorem Ik {K:PySem.W.Frag}{H:Hp}:∀ {cs:List String} {xs:List V},DpL K H xs (cs.map .ty)→xs=cs.map V.ty
  | [],_,h=>by cases h;rfl
  | c::cs,_,h=>by
    cases h with
    | cons p l=>cases p;rw[Ik l,List.map_cons]
theorem Ff {K:PySem.W.Frag}(cs:List String):lq K (Ez K) (Co cs):=fun H μ xs ds Q Q' m p h k=>by
  unfold Co at h
  split at h
  · obtain ⟨⟨rfl,hc⟩,h⟩:=h
    cases p with | cons p1 p2=>cases p2 with | cons p2 p3=>
    cases p3
    cases p2 with
    | tup sq l=>
      cases Ik l
      split at h
      · rename_i t et
        exact ⟨_,_,t,_,cs,rfl,sq,p1,et,hc,k _ H _ μ (.refl H) m (.bl _) h⟩
      · exact False.elim h
  · exact False.elim h
section
variable {X:Cx} {o i a b c e value:Expr} {To Ti Ta Tb Te:ETr} {pos tpos apos cpos:Pos}
def Px (To Ti:ETr):ETr:=fun ρ μ Q=>To ρ μ fun x μ1=>kObj x fun a=>kL μ1 a fun _=>Ti ρ μ1 fun y μ2=>kI y fun j=>(-9223372036854775808≤j∧j < 9223372036854775808)∧kL μ2 a fun ds=>kN (L2.ixN ds.length j) fun k=>kO ds[k]? fun d=>Q d (up μ2 a (.lst (ds.eraseIdx k)))
theorem Eo {n k:Nat}{j:Int}(h:L2.ixN n j=some k):seqIndex? j n=some k:=by
  unfold L2.ixN at h
  unfold seqIndex?
  split at h
  · split at h
    · cases h
      rename_i h1 h2
      simp[show ¬ (j < 0) by omega,h1,h2]
    · cases h
  · split at h
    · cases h
      rename_i h1 h2
      simp[show j < 0 by omega]
      omega
    · cases h
theorem DpL.erase {K:PySem.W.Frag}{H:Hp}:∀ {vs:List V} {ds:List D} (i:Nat),DpL K H vs ds→DpL K H (vs.eraseIdx i) (ds.eraseIdx i)
  | _,_,_,.nil=>by simp;exact .nil
  | _,_,0,.cons _ l=>l
  | _,_,i+1,.cons q l=>.cons q (DpL.erase i l)
theorem Pu (ho:LE X o To)(hi:LE X i Ti)
    (hbase:attributeBase o "pop" X.env (eval o X.env)=eval o X.env:=by rfl)
    (hfew:((backTo cpos (starEach [i] X.env)).all (fun x=>!x.1)&&(backToKw cpos (keywordEach [] X.env)).all (fun x=>x.1.isSome)
      && decide (([i]:List Expr).length+([]:List Keyword).length+(if ([]:List Keyword).isEmpty then 0 else 1) < 30))=true:=by rfl)
    (hline:(apos.endLine == cpos.line)=true:=by rfl) (hs:starEach [i] X.env=(false,eval i X.env)::starEach [] X.env:=by rfl) (hplain:(backTo cpos (starEach [] X.env)).any (·.1)=false:=by rfl) :
    LE X (.Call (.Attribute o "pop" apos) [i] [] cpos) (Px To Ti):=by
  obtain ⟨to,po,so⟩:=ho.ex
  obtain ⟨ti,pi,si⟩:=hi.ex
  refine ⟨_,BA PySem.F.plainAttrs_list PySem.F.slot_list_pop PySem.F.type_list_pop Es po (ff pi i9 hs) hbase hfew hline hs hplain,fun σ H ρ μ Q Q' rl h k=>so σ H ρ μ _ _ rl h fun x H1 dx μ1 t1 m1 p1 h1=>?_⟩
  obtain ⟨q,rfl,h1⟩:=iw p1 h1
  obtain ⟨ds0,e0,h1⟩:=bP h1
  obtain ⟨xs0,ex0,_⟩:=m1 q _ e0
  refine ⟨.inl ⟨rfl,_,SqL.of ex0⟩,si σ H1 ρ μ1 _ _ (rl.go t1 m1) h1 fun y H2 dy μ2 t2 m2 p2 h2=>?_⟩
  cases p2 with
  | int j=>
    obtain ⟨hr,h2⟩:=h2
    obtain ⟨ds,e2,h3⟩:=bP (show kL μ2 q _ from h2)
    obtain ⟨kk,e3,h3⟩:=Ho h3
    obtain ⟨d,e4,h3⟩:=lX h3
    obtain ⟨xs,ex,l⟩:=m2 q _ e2
    obtain ⟨v,ev,pv⟩:=l.get e4
    have e3':L2.ixN xs.length j=some kk:=by rw[l.length];exact e3
    exact ⟨q,xs,j,kk,v,rfl,rfl,ex,by omega,by omega,Eo e3',ev,k _ _ _ _ ((t1.trans t2).trans (kG ex)) (Ei m2 ex (l.erase kk)) (pv.mono (kG ex)) h3⟩
  | _=>exact False.elim h2
end
noncomputable def oX (h:Heap) (dx:PyData) (y:Value):Bool:=@decide (∃ d as,Reads h y d as∧PyData.canLay0 d=true∧PyData.eqv d dx=true) (Classical.propDecidable _)
theorem IQ {h:Heap}{dx d:PyData}{y:Value}{as:List Addr}(r:Reads h y d as)(hd:d.canLay0=true):oX h dx y=PyData.eqv d dx:=by
  unfold oX
  cases e:PyData.eqv d dx with
  | true=>exact @decide_eq_true _ (Classical.propDecidable _) ⟨d,as,r,hd,e⟩
  | false=>
    refine @decide_eq_false _ (Classical.propDecidable _) ?_
    rintro ⟨d',as',r',hd',e'⟩
    cases SeqAt.Reads.unique _ _ _ _ _ hd r r'
    rw[e] at e';cases e'
theorem A8 {n:Nat}:∀ {ds:List D} {d:D},cS n ds=true→d∈ds→okD n d=true
  | x::r,d,h,hm=>by
    have h':okD n x=true∧cS n r=true:=by simpa[cS] using h
    rcases List.mem_cons.mp hm with rfl | hm
    · exact h'.1
    · exact A8 h'.2 hm
section
variable {X:Cx} {pins:List (Addr×Obj)} {σ:L2.St} {H:Hp} {s:Shared}
theorem item_at (I:Inv X pins σ H s){vs:List V}{ds:List D}{us:List Value}(l:DpL X.K H vs ds)(r:Vals vs us)(ok:cS 38 ds=true){dy:D}{y:Value}{bs:List Addr}(oy:okD 38 dy=true)(ry:Reads s.heap y (toP dy) bs)(hu:X.A.units+64 < cLine)
    {m:Nat} {u:Value} (hm:us[m]? = some u):∃ d,ds[m]? = some d∧oX s.heap (toP dy) u=eqD d dy∧SeqAt.EqAt X.A.in1 s u y (oX s.heap (toP dy) u):=by
  have hlt:m < vs.length:=by rw[r.length];exact (List.getElem?_eq_some_iff.mp hm).1
  obtain ⟨u',e1,rv⟩:=r.get (List.getElem?_eq_getElem hlt)
  rw[hm] at e1;cases e1
  obtain ⟨d,ed,pd⟩:=l.get' (List.getElem?_eq_getElem hlt)
  have od:=A8 ok (List.mem_of_getElem? ed)
  obtain ⟨as,ra⟩:=fR I pd od rv
  obtain ⟨l1,d1⟩:=i8 38 d od
  obtain ⟨l2,d2⟩:=i8 38 dy oy
  have e:=IQ (dx:=toP dy) ra l1
  refine ⟨d,ed,by rw[e,oH 38 38 d dy od oy],?_⟩
  rw[e]
  exact SeqAt.eqAt_reads _ _ _ s _ _ _ _ ra ry l1 l2 (by have:=Nat.min_le_left (toP d).depth (toP dy).depth;rw[Around.in1_units];omega)
end
def Dr (ds:List D)(x:D):Option Nat:=ds.findIdx? fun y=>eqD y x
theorem GN {X:Cx}(hu:X.A.units+64 < cLine):MtM X "list.index" (fun x vs H Q=>∃ p xs y ds dy,∃ j:Nat,x=.ref p∧vs=[y]∧SqL X.K H p xs∧DpL X.K H xs ds∧Dp X.K H y dy∧cS 38 ds=true∧okD 38 dy=true∧Dr ds dy=some j∧j < 1000000∧Q (.int j) H):=by
  intro pins s σ H x vs v us Q I rx rv h
  obtain ⟨p,xs,y,ds,dy,j,rfl,rfl,sq,l,py,ok,oy,hj,hj2,q⟩:=h
  cases (show v=Value.ref p from rx)
  obtain ⟨u,rfl,ru⟩:=rv.one
  obtain ⟨its,r,⟨o,n,e,c,hd,hdat⟩,_⟩:=I.list sq
  obtain ⟨bs,rb⟩:=fR I py oy ru
  have he:s.heap.get? p=some ⟨.type "list", none,.seq its.toArray n,o.slots⟩:=by
    rw[e];obtain ⟨c',dd,dt,sl⟩:=o;simp only at c hd hdat;subst c hd hdat;rfl
  unfold Dr at hj
  rw[List.findIdx?_eq_some_iff_getElem] at hj
  obtain ⟨h1,h2,h3⟩:=hj
  have hl:ds.length=its.length:=by rw[← l.length,r.length]
  have at':∀ m (hm:m < its.toArray.size),∃ d,ds[m]? = some d∧oX s.heap (toP dy) its.toArray[m]=eqD d dy∧SeqAt.EqAt X.A.in1 s its.toArray[m] u (oX s.heap (toP dy) its.toArray[m]):=fun m hm=>
    item_at I l r ok oy rb hu (by simp at hm ⊢)
  refine call_meets F.slot_list_index ⟨_,he,rfl⟩ F.entry_list_index (F.args_list_index_2 _ _) (SeqAt.list_indexAt p its.toArray n none o.slots u (oX s.heap (toP dy)) j (by simp;omega) (by omega) ?_ ?_) ⟨he,fun w hw=>?_,?_⟩
  · obtain ⟨d,e1,e2,_⟩:=at' j (by simp;omega)
    rw[e2]
    rw[List.getElem?_eq_getElem h1] at e1;cases e1
    exact h2
  · intro m hm hlt
    obtain ⟨d,e1,e2,_⟩:=at' m hm
    rw[e2]
    have hm':m < ds.length:=by simp at hm;omega
    rw[List.getElem?_eq_getElem hm'] at e1;cases e1
    have:=h3 m hlt
    simpa using this
  · obtain ⟨m,hm,rfl⟩:=Array.mem_iff_getElem.mp hw
    obtain ⟨d,_,_,e3⟩:=at' m hm
    exact e3
  · exact ⟨.int j,H,I.tok _,⟨_,rfl⟩,q⟩
section
variable {X:Cx} {o i a b c e value:Expr} {To Ti Ta Tb Te:ETr} {pos tpos apos cpos:Pos}
def DM (μ:Mu)(x:D)(f:List D→Prop):Prop:=match x with
  | .ls ds=>f ds
  | .obj a=>kL μ a f
  | _=>False
theorem vp {K:PySem.W.Frag}{H:Hp}{μ:Mu}{x:V}{dx:D}{f:List D→Prop}(m:bO K H μ)(p:Dp K H x dx)(h:DM μ dx f):∃ q xs ds,x=.ref q∧SqL K H q xs∧DpL K H xs ds∧f ds:=by
  cases p with
  | ls sq l=>exact ⟨_,_,_,rfl,sq.sq,l,h⟩
  | obj q=>
    obtain ⟨ds,e0,h⟩:=bP h
    obtain ⟨xs,ex,l⟩:=m q _ e0
    exact ⟨q,xs,ds,rfl,SqL.of ex,l,h⟩
  | _=>exact False.elim h
def Ab (To Ti:ETr):ETr:=fun ρ μ Q=>To ρ μ fun x μ1=>DM μ1 x fun _=>Ti ρ μ1 fun y μ2=>DM μ2 x fun ds=>(cS 38 ds=true∧okD 38 y=true)∧kN (Dr ds y) fun j=>j < 1000000∧Q (.int j) μ2
theorem Gi (hu:X.A.units+64 < cLine)(ho:LE X o To)(hi:LE X i Ti)
    (hbase:attributeBase o "index" X.env (eval o X.env)=eval o X.env:=by rfl)
    (hfew:((backTo cpos (starEach [i] X.env)).all (fun x=>!x.1)&&(backToKw cpos (keywordEach [] X.env)).all (fun x=>x.1.isSome)
      && decide (([i]:List Expr).length+([]:List Keyword).length+(if ([]:List Keyword).isEmpty then 0 else 1) < 30))=true:=by rfl)
    (hline:(apos.endLine == cpos.line)=true:=by rfl) (hs:starEach [i] X.env=(false,eval i X.env)::starEach [] X.env:=by rfl) (hplain:(backTo cpos (starEach [] X.env)).any (·.1)=false:=by rfl) :
    LE X (.Call (.Attribute o "index" apos) [i] [] cpos) (Ab To Ti):=by
  obtain ⟨to,po,so⟩:=ho.ex
  obtain ⟨ti,pi,si⟩:=hi.ex
  refine ⟨_,BA PySem.F.plainAttrs_list PySem.F.slot_list_index PySem.F.type_list_index (GN hu) po (ff pi i9 hs) hbase hfew hline hs hplain,fun σ H ρ μ Q Q' rl h k=>so σ H ρ μ _ _ rl h fun x H1 dx μ1 t1 m1 p1 h1=>?_⟩
  obtain ⟨q,xs0,ds0,rfl,sq0,l0,h1⟩:=vp m1 p1 h1
  refine ⟨.inl ⟨rfl,_,sq0⟩,si σ H1 ρ μ1 _ _ (rl.go t1 m1) h1 fun y H2 dy μ2 t2 m2 p2 h2=>?_⟩
  obtain ⟨q',xs,ds,eq,sq,l,h2⟩:=vp m2 (p1.mono t2) h2
  cases eq
  obtain ⟨⟨o1,o2⟩,h2⟩:=h2
  obtain ⟨j,ej,hj,h2⟩:=Ho h2
  exact ⟨q,xs,y,ds,dy,j,rfl,rfl,sq,l,p2,o1,o2,ej,hj,k _ H2 _ μ2 (t1.trans t2) m2 (.int _) h2⟩
def inG (x:D)(ds:List D):Bool:=ds.any fun y=>eqD y x
def MK (K:PySem.W.Frag)(neg:Bool):L2.R2:=fun x y H Q=>∃ p xs ds dx,y=.ref p∧(SqL K H p xs∨SqT K H p xs)∧DpL K H xs ds∧Dp K H x dx∧cS 38 ds=true∧okD 38 dx=true∧Q (.bl (if neg then !inG dx ds else inG dx ds)) H
theorem Io {pins:List (Addr×Obj)}{σ:L2.St}{H:Hp}{s:Shared}(I:Inv X pins σ H s)(hu:X.A.units+64 < cLine){vs:List V}{ds:List D}{us:List Value}(l:DpL X.K H vs ds)(r:Vals vs us)(ok:cS 38 ds=true){dy:D}{y:Value}{bs:List Addr}(oy:okD 38 dy=true)(ry:Reads s.heap y (toP dy) bs) :
    (∀ w,w∈us.toArray→SeqAt.EqAt X.A.in1 s w y (oX s.heap (toP dy) w))∧us.toArray.any (oX s.heap (toP dy))=inG dy ds:=by
  have hl:ds.length=us.length:=by rw[← l.length,r.length]
  constructor
  · intro w hw
    obtain ⟨m,hm,rfl⟩:=Array.mem_iff_getElem.mp hw
    obtain ⟨d,_,_,e3⟩:=item_at I l r ok oy ry hu (m:=m) (u:=us.toArray[m]) (by simp at hm ⊢)
    exact e3
  · unfold inG
    rw[show us.toArray.any (oX s.heap (toP dy))=us.any (oX s.heap (toP dy)) by simp]
    rw[Bool.eq_iff_iff,List.any_eq_true,List.any_eq_true]
    constructor
    · rintro ⟨w,hw,e⟩
      obtain ⟨m,hm,rfl⟩:=List.mem_iff_getElem.mp hw
      obtain ⟨d,e1,e2,_⟩:=item_at I l r ok oy ry hu (m:=m) (u:=us[m]) (by simp)
      exact ⟨d,List.mem_of_getElem? e1,by rw[← e2];exact e⟩
    · rintro ⟨d,hd,e⟩
      obtain ⟨m,hm,rfl⟩:=List.mem_iff_getElem.mp hd
      obtain ⟨d',e1,e2,_⟩:=item_at I l r ok oy ry hu (m:=m) (u:=us[m]'(by omega)) (by simp)
      rw[List.getElem?_eq_getElem hm] at e1;cases e1
      exact ⟨us[m]'(by omega),List.getElem_mem _,by rw[e2];exact e⟩
theorem NG (hu:X.A.units+64 < cLine):OpR X (compareOp .In) (MK X.K false):=by
  intro pins s σ H x y v u Q I rx ry h
  obtain ⟨p,xs,ds,dx,rfl,hq,l,px,o1,o2,q⟩:=h
  cases (show u=Value.ref p from ry)
  obtain ⟨bs,rb⟩:=fR I px o2 rx
  rcases hq with hq | hq
  · obtain ⟨its,r,pl,hz⟩:=I.list hq
    obtain ⟨h1,h2⟩:=Io I hu l r o1 o2 rb
    exact SeqAt.in_listAt _ pl.isList h1 ⟨.bl _,H,I,rfl,by rw[h2];exact q⟩
  · obtain ⟨its,r,pl,hz⟩:=I.tuple hq
    obtain ⟨h1,h2⟩:=Io I hu l r o1 o2 rb
    exact SeqAt.in_tupleAt _ pl h1 ⟨.bl _,H,I,rfl,by rw[h2];exact q⟩
def DX (μ:Mu)(x:D)(f:List D→Prop):Prop:=match x with
  | .tup ds=>f ds
  | .ls ds=>f ds
  | .obj a=>kL μ a f
  | _=>False
def JB (neg:Bool):DR2:=fun x y μ Q=>DX μ y fun ds=>(cS 38 ds=true∧okD 38 x=true)∧Q (.bl (if neg then !inG x ds else inG x ds)) μ
theorem Mc {K:PySem.W.Frag}(neg:Bool):iu K (MK K neg) (JB neg):=fun H μ x y dx dy Q Q' m px py h k=>by
  cases py with
  | tup sq l=>exact ⟨_,_,_,dx,rfl,.inr sq,l,px,h.1.1,h.1.2,k _ H _ μ (.refl H) m (.bl _) h.2⟩
  | ls sq l=>exact ⟨_,_,_,dx,rfl,.inl sq.sq,l,px,h.1.1,h.1.2,k _ H _ μ (.refl H) m (.bl _) h.2⟩
  | obj q=>
    obtain ⟨ds,e0,h⟩:=bP (show kL μ q _ from h)
    obtain ⟨xs,ex,l⟩:=m q _ e0
    exact ⟨_,_,_,dx,rfl,.inl (SqL.of ex),l,px,h.1.1,h.1.2,k _ H _ μ (.refl H) m (.bl _) h.2⟩
  | _=>exact False.elim h
theorem Pf (hu:X.A.units+64 < cLine)(ha:LE X a Ta)(hb:LE X b Tb)(hm:behindInMarks .In b=false:=by rfl):LT X (.Compare a [.In] [b] pos) (TB (ak (JB false) Ta Tb)):=gN (NG hu) (Mc false) ha hb hm
end
end
section
open PySem PySem.Spec PyProof.Rows L2
def NY (K:PySem.W.Frag)(n:Nat)(t:TGs)(is:List Nat):Prop:=∀ σ H ρ μ vs ds (k:ST→Mu→Prop) (k':L2.St→Hp→Prop),Rl K σ H ρ μ→DpL K H vs ds→ds.length=is.length→k (ko ρ is ds) μ→M3 K n σ H k k'→t vs σ H k'
structure Mb (X:Cx) (n:Nat) (es:List Expr) (is:List Nat):Prop where
  ex:∃ t,PGs X es t∧NY X.K n t is
section
variable {X:Cx} {e tg:Expr} {es:List Expr} {is:List Nat} {pos:Pos} {x:Str} {n:Nat}
theorem fN:Mb X n [] []:=⟨_,A3,fun σ H ρ μ vs ds k k' rl l hl h q=>by
  cases ds with
  | nil=>cases l;exact ⟨rfl,q _ _ _ _ (.refl H) rl ⟨rfl,fun _ _=>rfl⟩ h⟩
  | cons=>cases hl⟩
theorem bF (i:Nat)(hN:X.N.Nodup)(h2:Mb X n es is)(hin:i < n:=by decide)(hi:X.N[i]? = some x:=by rfl)(hx:Loc X.env.scope x:=by first | exact Or.inl rfl | exact Or.inr rfl)(hf:X.fn x=true∨X.env.scope.names.lookup x=some .local:=by first | exact .inr rfl | exact .inl rfl | assumption)
    (hs:(assignEach (.Name x pos::es) X.env).map (·.2)=assign (.Name x pos) X.env::(assignEach es X.env).map (·.2):=by rfl):Mb X n (.Name x pos::es) (i::is):=by
  obtain ⟨t,pt,st⟩:=h2.ex
  refine ⟨_,vj (iK hN hi hx hf) pt hs,fun σ H ρ μ vs ds k k' rl l hl h q=>?_⟩
  cases l with
  | nil=>cases hl
  | @cons v d vs ds p l=>
    refine ⟨v,vs,rfl,st _ H _ μ vs ds k k' (rl.set p i) l (by simpa using hl) h fun σ' H' ρ' μ' t' r' hk kk=>q σ' H' ρ' μ' t' r' ⟨?_,fun j hj=>?_⟩ kk⟩
    · rw[hk.1];simp
    · rw[hk.2 j hj,List.getElem?_set_ne (by omega)]
theorem gU {k:Nat}(hc:X.calm=true)(h:Mb X n es is)(hn:(assignEach es X.env).length=is.length:=by rfl)(hst:(assignEach es X.env).findIdx? (·.1)=none:=by rfl):LGc X n (.Tuple es k pos) (fA is):=by
  obtain ⟨t,pt,st⟩:=h.ex
  refine ⟨fun pins s σ H v u k' I r ⟨ρ,μ,d,k,rl,p,h,post⟩=>GG hc pt hn hst pins s σ H v u k' I r ?_⟩
  cases p with
  | @tup a xs ds sq l=>exact ⟨a,xs,rfl,sq,by rw[l.length];exact h.1,st σ H ρ μ xs ds k k' rl l h.1 h.2 post⟩
  | _=>exact False.elim h
end
section
variable {X:Cx} {o i a b c e value:Expr} {To Ti Ta Tb Te:ETr} {pos tpos apos cpos:Pos}
theorem DW (l:Addr)(its:Array Value)(n:Nat)(q:Addr)(its2:Array Value)(n2:Nat)(sl:Array (Option Value))(h0:¬ (!its.isEmpty&&Builtin.List.listTooLong (its.size+its2.size))=true)(h1:its.size≤sizeLine)(h2:its.size+its2.size≤sizeLine+1) :
    Meets (Builtin.«list.extend» ⟨[.ref l,.ref q],[]⟩) (fun _ R s=>s.heap.get? l=some { cls:=.type "list", dict:=none,data:=.seq its n,slots:=#[] }∧s.heap.get? q=some { cls:=.type "list", dict:=none,data:=.seq its2 n2,slots:=sl }∧
      R (.ok (.ret Value.none)) { s with heap:=s.heap.update l (Obj.mapSeq fun x=>x++its2) }):=
  .of_wp fun prog w A R s h=>by
    obtain ⟨hp,g,d,tk,os⟩:=s
    obtain ⟨hl,hb,h⟩:=h
    have z1:=PySem.AutoSeq1.idx_int
    have z2:=PySem.AutoSeq1.sub_tuple_tuple
    have z3:=PySem.AutoSeq1.sub_list_list
    have z4:=PySem.AutoSeq1.sub_tuple_list
    have z5:=PySem.AutoSeq1.sub_list_tuple
    have hz':(its++its2).size≤sizeLine+1:=by rw[Array.size_append];omega
    wp_walk using (wpAny_updateSeq hl rfl (hz:=h1) (_hz':=hz')),wpAny_loadPart' hl,wpAny_loadPart' hb
    exact ⟨_,rfl,h⟩
def RQ (K:PySem.W.Frag):V→List V→Hp→VK→Prop:=fun x vs H Q=>∃ l b xs zs,x=.ref l∧vs=[.ref b]∧H l=some (.lst xs)∧SqL K H b zs∧xs.length+zs.length≤sizeLine∧Q .non (L2.upd H l (.lst (xs++zs)))
theorem OM:MtM X "list.extend" (RQ X.K):=by
  intro pins s σ H x vs v us Q I rx rv h
  obtain ⟨l,q,xs,zs,rfl,rfl,hH,hB,hz,qq⟩:=h
  cases (show v=Value.ref l from rx)
  obtain ⟨u,rfl,ru⟩:=rv.one
  cases (show u=Value.ref q from ru)
  obtain ⟨z,its,n,r,hl,e⟩:=I.JV hH
  obtain ⟨its2,r2,⟨o,n2,e2,c2,d2,dat2⟩,_⟩:=I.list hB
  have e2':s.heap.get? q=some ⟨.type "list", none,.seq its2.toArray n2,o.slots⟩:=by
    rw[e2];obtain ⟨c',dd,dt,sl⟩:=o;simp only at c2 d2 dat2;subst c2 d2 dat2;rfl
  have hl2:=r2.length
  have hs2:its.toArray.size+its2.toArray.size≤sizeLine:=by rw[List.size_toArray,List.size_toArray];omega
  have FK:¬ (!its.toArray.isEmpty&&Builtin.List.listTooLong (its.toArray.size+its2.toArray.size))=true:=by
    rw[ym hs2,Bool.and_false];decide
  refine call_meets F.slot_list_extend ⟨_,e,rfl⟩ F.entry_list_extend (F.args_list_extend_2 _ _) (DW l its.toArray n q its2.toArray n2 o.slots FK (by omega) (by omega)) ⟨e,e2',?_⟩
  refine ⟨.non,_,I.Lu (its':=its++its2) hH e (by simp) (r.append r2) ?_,rfl,qq⟩
  rw[List.length_append];omega
end
section
variable {P:Program} {w:World} {K:PySem.W.Frag} {mg:Str→Option Value} {base:Heap}
theorem RK {k:Nat}{f:Addr}{fd:FuncData}{ps:List Str}{x qual:Str}{st:Stmt}{N:List Str}(F:Fun K x qual st f fd)(S:aI N ps (au st)):ik P w K mg base CX0 (k+1) f fd ps (lift K fun _ _ _=>False):=by
  refine F.ok S (fun vs H Q E h=>?_) (fun cdv A outer s H vs Q E hroom h=>?_)
  · obtain ⟨ds,μ,QQ,l,m,h1,k⟩:=h;exact h1.elim
  · obtain ⟨ds,μ,QQ,l,m,h1,k⟩:=h;exact h1.elim
end
end
section
open PySem PySem.Spec PyProof.Rows L2
section
variable {X:Cx} {tg a ea eb:Expr} {Ta:ETr} {es:List Expr} {ek:Nat} {ep p pos:Pos}
def TL (K:PySem.W.Frag)(tl:TE):TI:=fun σ H R=>tl σ H fun x H1=>∃ q,x=.ref q∧(((∃ xs,SqL K H1 q xs)∧R (Itl K q) H1)∨((∃ xs,SqT K H1 q xs)∧R (Itt K q) H1))
theorem NX {tl:TE}(hl:PE X a tl):PI X tg a (TL X.K tl):=by
  intro pins s σ H R I h
  refine thn (hl pins s σ H _ I h) fun v s1 ⟨x,H1,I1,r1,q,ex,qq⟩=>?_
  subst ex
  cases (show v=Value.ref q from r1)
  have fp:∀ b∈[s1.heap.objs.size],_:=fun b hb=>by
    have e:b=s1.heap.objs.size:=by simpa using hb
    subst e
    exact I1.D6 (Nat.le_refl _) (I1.hok.fresh (Nat.le_refl _))
  rcases qq with ⟨⟨xs,sq⟩,qq⟩ | ⟨⟨xs,sq⟩,qq⟩
  · obtain ⟨its,rv,pl,hz⟩:=I1.list sq
    exact wpAny_pyIter_list pl.isList ⟨s1.heap.objs.size,[s1.heap.objs.size],_,_,H1,rfl,I1.kept (t':=s1.toks) (fun b o e=>Heap.get?_push_of_some _ e),sM q _,⟨_,Heap.get?_push_size _ rfl,rfl,rfl⟩,fp,qq⟩
  · obtain ⟨its,rv,pl,hz⟩:=I1.tuple sq
    exact wpAny_pyIter_tuple (show s1.heap.IsTuple q its.toArray from pl) ⟨s1.heap.objs.size,[s1.heap.objs.size],_,_,H1,rfl,I1.kept (t':=s1.toks) (fun b o e=>Heap.get?_push_of_some _ e),zl q _,⟨_,Heap.get?_push_size _ rfl,rfl,rfl⟩,fp,qq⟩
theorem br (ha:LE X a Ta):LI X tg a (cQ Ta):=by
  obtain ⟨ta,pa,sa⟩:=ha.ex
  refine ⟨_,NX pa,fun σ H ρ μ Q R rl h k=>sa σ H ρ μ _ _ rl h fun x H1 d μ1 t1 m1 p1 h1=>?_⟩
  cases p1 with
  | @tup p xs ds q l=>exact ⟨p,rfl,.inr ⟨⟨xs,q⟩,k _ H1 ds μ1 t1 m1 (EY q l) h1⟩⟩
  | @ls p xs ds q l=>exact ⟨p,rfl,.inl ⟨⟨xs,q.sq⟩,k _ H1 ds μ1 t1 m1 (JO q l) h1⟩⟩
  | _=>exact False.elim h1
def Q9 (K:PySem.W.Frag)(t:TA):TI:=fun σ H R=>t σ H fun vs H1=>∃ (ta tb:Bool) (a b:Addr),vs=[.ref a,.ref b]∧(∃ xs,Sq ta K H1 a xs)∧(∃ ys,Sq tb K H1 b ys)∧R (Itz ta tb K a b) H1
theorem Jr {t:TA}(hg:Gl X "zip")(hm:X.mg "zip" = none)(ha:PA X [ea,eb] t)(hs:starEach [ea,eb] X.env=[(false,eval ea X.env),(false,eval eb X.env)]:=by rfl)(hs2:starEach [eb] X.env=[(false,eval eb X.env)]:=by rfl) :
    PI X (.Tuple es ek ep) (.Call (.Name "zip" p) [ea,eb] [] pos) (Q9 X.K t):=by
  intro pins s σ H R I h
  refine Call_ (i3 I hg hm boot_zip (PyProof.Rows.callWith_type1 (thn (ha pos pins s σ H _ I h) fun us s1 ⟨vs,H1,I1,r1,ta,tb,a,b,e,⟨xs,qa⟩,⟨ys,qb⟩,q⟩=>?_) (by rw[hs,hs2]) (by rw[hs2];rfl)))
  subst e
  cases r1 with | cons r rr=>cases rr with | cons r' rr=>
  cases rr
  cases (show _=Value.ref a from r)
  cases (show _=Value.ref b from r')
  obtain ⟨ia,ra,sa⟩:=Inv.sq I1 qa
  obtain ⟨ib,rb,sb⟩:=Inv.sq I1 qb
  have alt:a < s1.heap.objs.size:=by cases ta<;>(obtain ⟨o,e,_⟩:=sa;exact Heap.lt_size e)
  have blt:b < s1.heap.objs.size:=by cases tb<;>(obtain ⟨o,e,_⟩:=sb;exact Heap.lt_size e)
  refine Dh sa sb fun g S kp=>wpAny_pyIter_zip S.zz ⟨s1.heap.objs.size+4,[s1.heap.objs.size+4,s1.heap.objs.size+2,s1.heap.objs.size+3,s1.heap.objs.size,s1.heap.objs.size+1],_,_,H1,rfl,I1.kept (t':=s1.toks) kp,Fp (Qq _ _ _ alt blt),S,fun c hc=>?_,q⟩
  exact I1.D6 (Mm _ _ hc) (I1.hok.fresh (Mm _ _ hc))
def k9 (t:ATr):ATr:=fun ρ μ Q=>t ρ μ fun vs μ1=>k2 vs fun x y=>kS x fun ds=>kS y fun es=>Q (List.zipWith (fun d e=>.tup [d,e]) ds es) μ1
theorem AF {K:PySem.W.Frag}{H:Hp}{v:V}{x:D}{f:List D→Prop}(p:Dp K H v x)(h:kS x f):∃ (tp:Bool) (a:Addr) (xs:List V) (ds:List D),v=.ref a∧Sq tp K H a xs∧DpL K H xs ds∧kQ tp x f:=by
  cases p with
  | @tup a xs ds q l=>exact ⟨true,a,xs,ds,rfl,q,l,h⟩
  | @ls a xs ds q l=>exact ⟨false,a,xs,ds,rfl,q,l,h⟩
  | _=>exact False.elim h
theorem jd {At:ATr}(hg:Gl X "zip")(hm:X.mg "zip" = none)(ha:LA X [ea,eb] At)
    (hs:starEach [ea,eb] X.env=[(false,eval ea X.env),(false,eval eb X.env)]:=by rfl) (hs2:starEach [eb] X.env=[(false,eval eb X.env)]:=by rfl) :
    LI X (.Tuple es ek ep) (.Call (.Name "zip" p) [ea,eb] [] pos) (k9 At):=by
  obtain ⟨t,pt,st⟩:=ha.ex
  refine ⟨_,Jr hg hm pt hs hs2,fun σ H ρ μ Q R rl h k=>st σ H ρ μ _ _ rl h fun vs H1 ds μ1 t1 m1 p1 h1=>?_⟩
  unfold L3.k2 at h1
  split at h1
  case h_2=>exact False.elim h1
  cases p1 with | cons pa p2=>cases p2 with | cons pb p3=>
  cases p3
  obtain ⟨ta,a,xs,dx,rfl,qa,la,h2⟩:=AF pa h1
  obtain ⟨a',xs',dx',ea',qa',la',h2⟩:=Au pa h2
  cases ea'
  obtain ⟨tb,b,ys,dy,rfl,qb,lb,h3⟩:=AF pb h2
  obtain ⟨b',ys',dy',eb',qb',lb',h3⟩:=Au pb h3
  cases eb'
  refine ⟨ta,tb,a,b,rfl,⟨xs',qa'⟩,⟨ys',qb'⟩,k _ H1 _ μ1 t1 m1 ⟨fun i H' tk hi=>?_,fun i H' v H'' tk hi yv=>?_,fun i H' tk hi=>?_⟩ h3⟩
  · have l1:=la'.length
    have l2:=lb'.length
    rw[List.length_zipWith] at hi
    exact ⟨xs',ys',xs'[i],ys'[i],tk.sq qa',tk.sq qb',by simp[show i < xs'.length by omega],by simp[show i < ys'.length by omega]⟩
  · obtain ⟨x,y,q,fx,fy,rfl,fr,rfl⟩:=yv
    obtain ⟨d,ed,pd⟩:=la'.get' (fx _ (tk.sq qa'))
    obtain ⟨e,ee,pe⟩:=lb'.get' (fy _ (tk.sq qb'))
    have tn:Tk H' (L2.upd H' q (.tup [x,y])):=.new fr
    exact ⟨tn,⟨.tup [d,e],by simp[List.getElem?_zipWith,ed,ee],.tup (SqT.of aP) (.cons ((pd.mono tk).mono tn) (.cons ((pe.mono tk).mono tn) .nil))⟩,fun μ' m'=>dk m' fr⟩
  · have l1:=la'.length
    have l2:=lb'.length
    rw[List.length_zipWith] at hi
    exact ⟨xs',ys',tk.sq qa',tk.sq qb',by omega⟩
variable {i o:Expr} {Ti To:ETr}
end
end
section
open PySem PySem.Spec PyProof.Rows L2
def ltS (x y:Str):Bool:=decide (x.cps.toList < y.cps.toList)
section
variable {X:Cx} {e a b:Expr} {x:Str} {p pos:Pos} {At:ATr} {Ta Tb:ETr}
def Mr (f:Str→Str→Bool):DR2:=fun x y μ Q=>match x,y with
  | .str i,.str j=>Q (.bl (f i j)) μ
  | _,_=>False
theorem NU:OpR X (compareOp .Gt) (fun x y H Q=>∃ i j,x=.str i∧y=.str j∧Q (.bl (ltS j i)) H):=by
  intro pins s σ H x y v u Q I rx ry h
  obtain ⟨i,j,rfl,rfl,q⟩:=h
  obtain ⟨t,rfl⟩:=rx
  obtain ⟨t',rfl⟩:=ry
  exact PySem.P.gt_str ⟨.bl _,H,I,rfl,q⟩
theorem F7 {K:PySem.W.Frag}(f:Str→Str→Bool):iu K (fun x y H Q=>∃ i j,x=.str i∧y=.str j∧Q (.bl (f i j)) H) (Mr f):=fun H μ x y dx dy Q Q' m px py h k=>by
  cases px with
  | str i=>cases py with
    | str j=>exact ⟨i,j,rfl,rfl,k _ H _ μ (.refl H) m (.bl _) h⟩
    | _=>exact False.elim h
  | _=>cases py<;>exact False.elim h
def Qb:DR2:=Mr fun i j=>ltS j i
theorem Pz (ha:LE X a Ta)(hb:LE X b Tb):LT X (.Compare a [.Gt] [b] pos) (TB (ak Qb Ta Tb)):=gN NU (F7 _) ha hb (hX _)
end
end
section
open PySem PySem.Spec PyProof.Rows L2
def kF (C:Mu→Prop)(p:Addr)(G:GTr)(tt:TTr)(te:ETr)(ρc:ST)(K:Mu→Prop):List D→Mu→Prop
  | [],μ=>C μ∧K μ
  | d::r,μ=>C μ∧G d ρc μ fun ρ1 μ1=>tt ρ1 μ1 fun b μ2=>kIf b (te ρ1 μ2 fun y μ3=>kL μ3 p fun zs=>zs.length < 1000000∧kF C p G tt te ρc K r (up μ3 p (.lst (zs++[y])))) (kF C p G tt te ρc K r μ2)
def jq (To:ETr)(G:GTr)(tt:TTr)(te:ETr)(n:Nat)(caps:List Nat):ETr:=fun ρ μ Q=>To ρ μ fun x μ1=>kObj x fun a=>kL μ1 a fun ds=>∀ p,μ1 p=none→
  kF (fun μ=>μ a=some (.lst ds)) p G tt te (fK ρ n caps) (fun μ'=>kL μ' p fun zs=>Q (.ls zs) (dn μ' p)) ds (up μ1 p (.lst []))
theorem rY {K:PySem.W.Frag}{ta:TE}{To:ETr}{G:GTr}{Tt:TTr}{Te:ETr}{n:Nat}{caps:List Nat}(sa:Sim K ta To):Sim K (Dl (kj (MF K ta) (lH K n G) (liftT K Tt) (lE K Te) n caps)) (jq To G Tt Te n caps):=by
  intro σ H ρ μ Q Q' rl h k
  refine sa σ H ρ μ _ _ rl h fun x H1 dx μ1 t1 m1 px hx=>?_
  obtain ⟨q,rfl,hx⟩:=iw px hx
  obtain ⟨ds,eq0,h1⟩:=bP hx
  obtain ⟨xs0,exs0,l0⟩:=m1 q _ eq0
  refine ⟨q,rfl,⟨_,SqL.of exs0⟩,fun D hD=>?_⟩
  have hp:=h1 D (m1.free hD)
  have tD:Tk H1 (L2.upd H1 D (.lst [])):=.new hD
  have mD:bO K (L2.upd H1 D (.lst [])) (up μ1 D (.lst [])):=fun a o e=>by
    by_cases ha:a=D
    · subst ha
      rw[aB] at e;cases e
      exact ⟨[],aP,.nil⟩
    · rw[aK ha] at e
      exact dk m1 hD a o e
  refine ⟨fun i m ys H2=>m=ds.length - i∧i≤ds.length∧Tk H1 H2∧∃ μ2,bO K H2 μ2∧kF (fun μ=>μ q=some (.lst ds)) D G Tt Te (fK ρ n caps) (fun μ'=>kL μ' D fun zs=>Q (.ls zs) (dn μ' D)) (ds.drop i) μ2,
    ⟨ds.length,by simp,Nat.zero_le _,tD,_,mD,by simpa using hp⟩,?_⟩
  rintro i m ys H2 ⟨rfl,hi,t12,μ2,m2,h2⟩
  have hg:μ2 q=some (.lst ds):=by
    cases hdr:ds.drop i with
    | nil=>rw[hdr] at h2;exact h2.1
    | cons=>rw[hdr] at h2;exact h2.1
  obtain ⟨xs2,ex2,l2⟩:=m2 q _ hg
  have ll:=l2.length
  by_cases hlt:i < ds.length
  · refine .inr ⟨⟨xs2,xs2[i]'(by omega),SqL.of ex2,List.getElem?_eq_getElem (by omega)⟩,fun ys' H'=>Tk H1 H'∧∃ μ',bO K H' μ'∧kF (fun μ=>μ q=some (.lst ds)) D G Tt Te (fK ρ n caps) (fun μ'=>kL μ' D fun zs=>Q (.ls zs) (dn μ' D)) (ds.drop (i+1)) μ',fun ys' H' ⟨t',μ',m',h'⟩=>⟨ds.length - (i+1),by omega,rfl,hlt,t',μ',m',h'⟩,fun x H3 y=>?_⟩
    obtain ⟨rfl,y⟩:=y
    have exi:=y xs2 (SqL.of ex2)
    obtain ⟨d,ed,pd⟩:=l2.get' exi
    have e:ds.drop i=d::ds.drop (i+1):=by
      refine (List.drop_eq_getElem_cons hlt).trans ?_
      congr 1
      rw[List.getElem?_eq_getElem hlt] at ed
      exact Option.some.inj ed
    rw[e] at h2
    have t13:=t12
    have r3:Rl K (kc σ n caps) H3 (fK ρ n caps) μ2:=oR (rl.go (t1.trans t13) m2) n caps
    refine ⟨_,_,d,_,r3,pd,h2.2,fun σ4 H4 ρ4 μ4 t4 r4 kp h4=>⟨⟨kp.1.symm,fun j v ej=>?_⟩,_,_,_,r4,h4,fun b H5 μ5 t5 m5 h5=>?_⟩⟩
    · by_cases hj:n≤j
      · rw[kp.2 j hj];exact ej
      · obtain ⟨j',k',e1,_⟩:=jA ej
        omega
    · have t15:=t13.trans (t4.trans t5)
      cases b with
      | false=>exact qX ⟨t15,μ5,m5,h5⟩
      | true=>
        refine ro ⟨_,_,_,r4.go t5 m5,h5,fun v H6 d6 μ6 t6 m6 p6 h6=>?_⟩
        obtain ⟨zs,ez,lz,h7⟩:=bP h6
        obtain ⟨xs,ex,lx⟩:=m6 D _ ez
        have t67:Tk H6 (L2.upd H6 D (.lst (xs++[v]))):=.upd (fun ys z=>by rw[ex] at z;cases z) fun o' u z=>by rw[ex] at z;cases z
        refine ⟨xs,ex,by rw[lx.length];exact Nat.lt_of_lt_of_le lz (by decide),(t15.trans t6).trans t67,up μ6 D (.lst (zs++[d6])),fun a o ea=>?_,h7⟩
        by_cases ha:a=D
        · subst ha
          rw[aB] at ea;cases ea
          exact ⟨_,aP,(lx.append (.cons p6 .nil)).mono t67⟩
        · rw[aK ha] at ea
          exact (m6 a _ ea).ne t67 ha
  · have e:i=ds.length:=by omega
    subst e
    rw[List.drop_length] at h2
    obtain ⟨zs,ez,hq⟩:=bP (show kL μ2 D fun zs=>Q (.ls zs) (dn μ2 D) from h2.2)
    obtain ⟨xs,ex,lx⟩:=m2 D _ ez
    refine .inl ⟨⟨xs2,SqL.of ex2,by omega⟩,D,xs,rfl,ex,fun o=>?_⟩
    have t2f:Tk H2 (L2.upd H2 D (.frz o (.lst xs))):=.upd (fun ys z=>by rw[ex] at z;cases z) fun o' u z=>by rw[ex] at z;cases z
    refine k _ _ _ (dn μ2 D) ((t1.trans t12).trans t2f) (fun a o' ea=>?_) (.ls (.inl ⟨o,aP⟩) (lx.mono t2f)) hq
    have ha:a≠D:=fun z=>by subst z;unfold dn at ea;rw[if_pos rfl] at ea;cases ea
    have ea':μ2 a=some o':=by unfold dn at ea;rw[if_neg ha] at ea;exact ea
    exact (m2 a _ ea').ne t2f ha
theorem mf {X:Cx}{tg elt iter:Expr}{Te:ETr}{Tt:TTr}{pos spos py:Pos}{y:Str}{To:ETr}{G:GTr}{ifs:List Expr}{scope fsc:Scope}(iy:Nat)(hN:X.N.Nodup)(XN Nc:List Str)(n:Nat)(caps:List Nat)(hxe:X.xe=fun _ _=>False)(hcalm:X.calm=true)(hi:LE X iter To)
    (hbody:∀ (cl:List (Str×Addr)) (C:Addr) (s₀:Shared) (H₀:Hp) (ex:List Addr),LGc (ba X scope Nc cl C s₀ H₀ ex) n tg G∧vV (ba X scope Nc cl C s₀ H₀ ex) ifs Tt∧LE (ba X scope Nc cl C s₀ H₀ ex) elt Te)
    (hsc:X.env.scope=fsc) (hXN:X.N=XN) (hok:ij fsc.names XN scope Nc n caps=true)
    (hiy:X.N[iy]? = some y:=by rfl) (hx:Loc X.env.scope y:=by first | exact Or.inl rfl | exact Or.inr rfl) (hf:X.fn y=true∨X.env.scope.names.lookup y=some .local:=by first | exact .inl rfl | exact .inr rfl | assumption)
    (hsw:swapsWith (.ListComp elt [⟨tg,iter,ifs,0⟩] scope pos) (some (.Name y py)) spos.line X.env=pure true:=by rfl)
    (hs:∀ x,foldedSetIterable iter X.env x=pure x:=by intro _;rfl) :
    LS X (.Assign [.Name y py] (.ListComp elt [⟨tg,iter,ifs,0⟩] scope pos) spos) (aN (jq To G Tt Te n caps) (aw iy)):=by
  unfold ij at hok
  simp only[Bool.and_eq_true,List.all_eq_true] at hok
  obtain ⟨⟨⟨h1,h2⟩,h3⟩,h4⟩:=hok
  obtain ⟨ta,pa,sa⟩:=hi.ex
  refine ⟨_,Bj (g:=lH X.K n G) (tt:=liftT X.K Tt) (te:=lE X.K Te) hxe hcalm (B8 pa) (fun cl C s₀ H₀ ex=>let ⟨h1,h2,h3⟩:=hbody cl C s₀ H₀ ex;⟨h1.pe,h2.pe,h3.pe⟩) (fun y hy hf=>?_) (fun y hy hf=>?_) (by simpa using h2) (fun y hy hf=>?_) (by simpa using h3) (fun j k hj=>?_) (iK hN hiy hx hf) hsw hs,fun σ H ρ μ E E' rl h k=>rY sa σ H ρ μ _ _ rl h fun v H' d μ' t' m' p' h'=>iJ iy σ H' ρ μ' v d _ _ (rl.go t' m') p' h' (k.go t').nx⟩
  · have:=(h1 y hy).1.1
    show X.env.scope.names.lookup y.1=_
    rw[hsc]
    simpa[hf] using this
  · have:=(h1 y hy).1.2
    simp[hf] at this
  · have:=(h1 y hy).2
    simpa[hf] using this
  · have hl:j < caps.length:=(List.getElem?_eq_some_iff.mp hj).1
    have:=h4 j (List.mem_range.mpr hl)
    rw[hj] at this
    dsimp only at this
    rw[hXN]
    cases e:XN[k]? with
    | none=>rw[e] at this;cases this
    | some x=>
      rw[e] at this
      dsimp only at this
      rw[Bool.and_eq_true] at this
      exact ⟨x,by simpa using this.1,rfl,by simpa using this.2⟩
theorem D8 {X:Cx}{tg elt iter:Expr}{Te:ETr}{Tt:TTr}{pos:Pos}{To:ETr}{G:GTr}{ifs:List Expr}{scope fsc:Scope}(XN Nc:List Str)(n:Nat)(caps:List Nat)(hxe:X.xe=fun _ _=>False)(hcalm:X.calm=true)(hi:LE X iter To)
    (hbody:∀ (cl:List (Str×Addr)) (C:Addr) (s₀:Shared) (H₀:Hp) (ex:List Addr),LGc (ba X scope Nc cl C s₀ H₀ ex) n tg G∧vV (ba X scope Nc cl C s₀ H₀ ex) ifs Tt∧LE (ba X scope Nc cl C s₀ H₀ ex) elt Te)
    (hsc:X.env.scope=fsc) (hXN:X.N=XN) (hok:ij fsc.names XN scope Nc n caps=true)
    (hs:∀ x,foldedSetIterable iter X.env x=pure x:=by intro _;rfl) :
    LE X (.ListComp elt [⟨tg,iter,ifs,0⟩] scope pos) (jq To G Tt Te n caps):=by
  unfold ij at hok
  simp only[Bool.and_eq_true,List.all_eq_true] at hok
  obtain ⟨⟨⟨h1,h2⟩,h3⟩,h4⟩:=hok
  obtain ⟨ta,pa,sa⟩:=hi.ex
  refine ⟨_,kA (B0 (g:=lH X.K n G) (tt:=liftT X.K Tt) (te:=lE X.K Te) hxe hcalm (B8 pa) (fun cl C s₀ H₀ ex=>let ⟨h1,h2,h3⟩:=hbody cl C s₀ H₀ ex;⟨h1.pe,h2.pe,h3.pe⟩) (fun y hy hf=>?_) (fun y hy hf=>?_) (by simpa using h2) (fun y hy hf=>?_) (by simpa using h3) (fun j k hj=>?_) hs),rY sa⟩
  · have:=(h1 y hy).1.1
    show X.env.scope.names.lookup y.1=_
    rw[hsc]
    simpa[hf] using this
  · have:=(h1 y hy).1.2
    simp[hf] at this
  · have:=(h1 y hy).2
    simpa[hf] using this
  · have hl:j < caps.length:=(List.getElem?_eq_some_iff.mp hj).1
    have:=h4 j (List.mem_range.mpr hl)
    rw[hj] at this
    dsimp only at this
    rw[hXN]
    cases e:XN[k]? with
    | none=>rw[e] at this;cases this
    | some x=>
      rw[e] at this
      dsimp only at this
      rw[Bool.and_eq_true] at this
      exact ⟨x,by simpa using this.1,rfl,by simpa using this.2⟩
end
theorem LR (a b:ETr)(ρ:ST)(μ:Mu)(Q:DK):dU a b ρ μ Q=a ρ μ fun x μ1=>b ρ μ1 fun y μ2=>kObj x fun a=>kD μ2 a fun kvs=>tQ y fun k=>kO (bo kvs k) fun d=>Q d μ2:=propext Iff.rfl
theorem N5 (n:Bool)(a b:ETr)(ρ:ST)(μ:Mu)(Q:DK):Kh n a b ρ μ Q=a ρ μ fun y μ1=>b ρ μ1 fun x μ2=>kObj x fun a=>kD μ2 a fun kvs=>tQ y fun k=>Q (.bl (if n then !(bo kvs k).isSome else (bo kvs k).isSome)) μ2:=propext Iff.rfl
theorem Ks (a b e:ETr)(nx:ST→Mu→Prop)(rt:DK)(bk ct:ST→Mu→Prop)(ρ:ST)(μ:Mu):kJ a b e ⟨nx,rt,bk,ct⟩ ρ μ=e ρ μ fun v μ1=>a ρ μ1 fun x μ2=>b ρ μ2 fun y μ3=>kObj x fun a=>kD μ3 a fun kvs=>tQ y fun k=>kvs.length < 1000000∧nx ρ (up μ3 a (.dct (putD kvs k v))):=propext Iff.rfl
theorem NN (f:Int→Int→Int)(i:Nat)(e:ETr)(nx:ST→Mu→Prop)(rt:DK)(bk ct:ST→Mu→Prop)(ρ:ST)(μ:Mu):JE f i e ⟨nx,rt,bk,ct⟩ ρ μ=ah i ρ μ fun d _=>kI d fun m=>e ρ μ fun w μ1=>kI w fun n=>aw i (.int (f m n)) ρ μ1 nx:=propext Iff.rfl
theorem IV (ks:List L2.Key)(t:ATr)(ρ:ST)(μ:Mu)(Q:DK):HX ks t ρ μ Q = ∀ p,μ p=none→t ρ (up μ p (.dct [])) fun ds μ2=>kD μ2 p fun kvs=>kvs=[]∧Q (.obj p) (up μ2 p (.dct (ks.zip ds))):=propext Iff.rfl
theorem Na (a b:ETr)(ρ:ST)(μ:Mu)(Q:DK):Px a b ρ μ Q=a ρ μ fun x μ1=>kObj x fun a=>kL μ1 a fun _=>b ρ μ1 fun y μ2=>kI y fun j=>(-9223372036854775808≤j∧j < 9223372036854775808)∧kL μ2 a fun ds=>kN (L2.ixN ds.length j) fun k=>kO ds[k]? fun d=>Q d (up μ2 a (.lst (ds.eraseIdx k))):=propext Iff.rfl
theorem F0 (a b:ETr)(ρ:ST)(μ:Mu)(Q:DK):Ab a b ρ μ Q=a ρ μ fun x μ1=>DM μ1 x fun _=>b ρ μ1 fun y μ2=>DM μ2 x fun ds=>(cS 38 ds=true∧okD 38 y=true)∧kN (Dr ds y) fun j=>j < 1000000∧Q (.int j) μ2:=propext Iff.rfl
theorem Oo (a:ETr)(ρ:ST)(μ:Mu)(Q:List D→Mu→Prop):cQ a ρ μ Q=a ρ μ fun x μ1=>kS x fun ds=>Q ds μ1:=propext Iff.rfl
theorem JN (t:ATr)(ρ:ST)(μ:Mu)(Q:List D→Mu→Prop):k9 t ρ μ Q=t ρ μ fun vs μ1=>k2 vs fun x y=>kS x fun ds=>kS y fun es=>Q (List.zipWith (fun d e=>.tup [d,e]) ds es) μ1:=propext Iff.rfl
theorem M7 (n:Bool)(x:D)(ds:List D)(μ:Mu)(Q:DK):JB n x (.ls ds) μ Q=((cS 38 ds=true∧okD 38 x=true)∧Q (.bl (if n then !inG x ds else inG x ds)) μ):=propext Iff.rfl
theorem O8 (μ:Mu)(ds:List D)(f:List D→Prop):DM μ (.ls ds) f=f ds:=propext Iff.rfl
theorem OW (i:Int)(f:L2.Key→Prop):tQ (.int i) f=f (.inl i):=propext Iff.rfl
theorem Oy (s:Str)(f:L2.Key→Prop):tQ (.str s) f=f (.inr s):=propext Iff.rfl
theorem MM {μ:Mu}{a:Addr}{ds:List (L2.Key×D)}(h:μ a=some (.dct ds))(f):kD μ a f=f ds:=by unfold kD;rw[h]
theorem Qp (μ:Mu)(a:Addr)(ds:List (L2.Key×D))(f:List (L2.Key×D)→Prop):kD (up μ a (.dct ds)) a f=f ds:=MM aB f
theorem iI {μ:Mu}{a:Addr}{ds:List (L2.Key×D)}{f:List (L2.Key×D)→Prop}(e:μ a=some (.dct ds))(h:f ds):kD μ a f:=by rw[MM e];exact h
theorem LY (cs:List String)(x:D)(ts:List D)(μ:Mu)(Q:DK):dz (Co cs) [x,.tup ts] μ Q=((ts=cs.map .ty∧∀ c∈cs,c∈wM)∧(match tyD x with | some t=>Q (.bl (cs.any fun c=>ft t c)) μ | none=>False)):=propext Iff.rfl
theorem Jg (xs:List D)(μ:Mu)(Q:DK):dz xP [.ls xs] μ Q=(∃ kvs:List (L2.Key×D),xs=kvs.map zY∧kvs.length≤1000000∧∀ p,μ p=none→Q (.obj p) (up μ p (.dct (i7 [] kvs)))):=propext Iff.rfl
theorem Nn (i j:Str)(μ:Mu)(Q:DK):Qb (.str i) (.str j) μ Q=Q (.bl (ltS j i)) μ:=propext Iff.rfl
theorem IsPart.of_eq {a b c d x y:Int}(h:IsPart a b x y)(hb:0 < b)(hd:0 < d)(e:a*d=c*b):IsPart c d x y:=by
  have xd:x*d=c*y:=by
    refine Int.eq_of_mul_eq_mul_right (a:=b) (by omega) ?_
    calc x*d*b=(x*b)*d:=by ac_rfl
      _=(a*y)*d:=by rw[h.e]
      _=(a*d)*y:=by ac_rfl
      _=(c*b)*y:=by rw[e]
      _=c*y*b:=by ac_rfl
  have y0:=h.q0
  have dx:x ∣ c:=by
    have:x ∣ y*c:=⟨d,by rw[Int.mul_comm y c];exact xd.symm⟩
    have h':=Int.dvd_gcd_mul_iff_dvd_mul.mpr this
    rw[h.g] at h'
    simpa using h'
  have dy:y ∣ d:=by
    have:y ∣ x*d:=⟨c,by rw[xd,Int.mul_comm]⟩
    have h':=Int.dvd_gcd_mul_iff_dvd_mul.mpr this
    rw[Int.gcd_comm,h.g] at h'
    simpa using h'
  refine ⟨h.q0,h.g,xd,?_,Nat.le_of_dvd (by omega) (Int.natAbs_dvd_natAbs.mpr dy)⟩
  by_cases hc:c=0
  · subst hc
    have:x=0:=by
      rcases Int.mul_eq_zero.mp (show x*d=0 by rw[xd,Int.zero_mul]) with z | z
      · exact z
      · omega
    rw[this];exact Nat.le_refl _
  · exact Nat.le_of_dvd (by omega) (Int.natAbs_dvd_natAbs.mpr dx)
structure Vl (d:D) (a b:Int):Prop where
  ex:∃ p q,d=fr p q∧IsPart a b p q
  b0:0 < b
theorem Vl.of_eq {d:D}{a b a' b':Int}(h:Vl d a b)(hb:0 < b')(e:a*b'=a'*b):Vl d a' b':=by
  obtain ⟨⟨p,q,rfl,P⟩,b0⟩:=h
  exact ⟨⟨p,q,rfl,P.of_eq b0 hb e⟩,hb⟩
theorem Vl.uniq {d d':D}{a b:Int}(h:Vl d a b)(h':Vl d' a b):d=d':=by
  obtain ⟨⟨p,q,rfl,P⟩,b0⟩:=h
  obtain ⟨⟨p',q',rfl,P'⟩,_⟩:=h'
  obtain ⟨rfl,rfl⟩:=P.same P' (by omega) (by omega) rfl
  rfl
theorem Od (a:Int){b:Int}(b0:0 < b):Vl (.tup [.int (a.fdiv (Int.gcd a b)),.int (b.fdiv (Int.gcd a b))]) a b:=by
  have h:=BJ (a:=a) (b:=b) (by omega)
  rw[if_neg (by omega)] at h
  exact ⟨⟨_,_,rfl,h⟩,b0⟩
theorem jb {lo hi p q:Int}(h:FrB lo hi p q):Vl (fr p q) p q:=⟨⟨p,q,rfl,h.q0,h.g,rfl,Nat.le_refl _,Nat.le_refl _⟩,h.q0⟩
theorem Cm {a b x y:Int}(h:IsPart a b x y)(b0:0 < b):Vl (fr x y) a b:=⟨⟨x,y,rfl,h⟩,b0⟩
theorem Mk {p q a b:Int}(g:Int)(q0:0 < q)(b0:0 < b)(e:p*b=a*q):p*g / q=a*g / b:=by
  calc p*g / q=(p*g)*b / (q*b):=(Int.mul_ediv_mul_of_pos_left _ _ b0).symm
    _=(a*g)*q / (b*q):=by rw[show p*g*b=(p*b)*g by ac_rfl,e,Int.mul_comm q b,show a*q*g=a*g*q by ac_rfl]
    _=a*g / b:=Int.mul_ediv_mul_of_pos_left _ _ q0
theorem N8 {p q a b:Int}(q0:0 < q)(b0:0 < b)(e:p*b=a*q):p / q=a / b:=by
  have:=Mk 1 q0 b0 e
  simpa using this
theorem Ql {p q r s a b c e:Int}(q0:0 < q)(s0:0 < s)(b0:0 < b)(e0:0 < e)(h1:p*b=a*q)(h2:r*e=c*s):(p*s < r*q)↔(a*e < c*b):=by
  have k1:(p*s)*(b*e)=(a*e)*(q*s):=by
    calc (p*s)*(b*e)=(p*b)*(s*e):=by ac_rfl
      _=(a*q)*(s*e):=by rw[h1]
      _=(a*e)*(q*s):=by ac_rfl
  have k2:(r*q)*(b*e)=(c*b)*(q*s):=by
    calc (r*q)*(b*e)=(r*e)*(q*b):=by ac_rfl
      _=(c*s)*(q*b):=by rw[h2]
      _=(c*b)*(q*s):=by ac_rfl
  have be:0 < b*e:=Int.mul_pos b0 e0
  have qs:0 < q*s:=Int.mul_pos q0 s0
  constructor
  · intro h
    have:=Int.mul_lt_mul_of_pos_right h be
    rw[k1,k2] at this
    exact Int.lt_of_mul_lt_mul_right this (Int.le_of_lt qs)
  · intro h
    have:=Int.mul_lt_mul_of_pos_right h qs
    rw[← k1,← k2] at this
    exact Int.lt_of_mul_lt_mul_right this (Int.le_of_lt be)
def Le (a A:Int):Prop:=-A≤a∧a≤A
theorem Le.mono {a A B:Int}(h:Le a A)(hb:A≤B):Le a B:=⟨by have:=h.1;omega,by have:=h.2;omega⟩
theorem Le.of {a A:Int}(h0:0≤a)(h1:a≤A):Le a A:=⟨by omega,h1⟩
theorem Le.add {a b A B:Int}(h:Le a A)(k:Le b B):Le (a+b) (A+B):=⟨by have:=h.1;have:=k.1;omega,by have:=h.2;have:=k.2;omega⟩
theorem Le.sub {a b A B:Int}(h:Le a A)(k:Le b B):Le (a - b) (A+B):=⟨by have:=h.1;have:=k.2;omega,by have:=h.2;have:=k.1;omega⟩
theorem Le.neg {a A:Int}(h:Le a A):Le (-a) A:=⟨by have:=h.2;omega,by have:=h.1;omega⟩
theorem Le.abs {a A:Int}(h:Le a A):(a.natAbs:Int)≤A:=by have:=h.1;have:=h.2;omega
theorem Le.F6 {a A:Int}(h:(a.natAbs:Int)≤A):Le a A:=⟨by omega,by omega⟩
theorem Le.mul {a b A B:Int}(h:Le a A)(k:Le b B):Le (a*b) (A*B):=by
  refine .F6 ?_
  rw[Int.natAbs_mul,Int.natCast_mul]
  have a0:(0:Int)≤(a.natAbs:Int):=Int.natCast_nonneg _
  have b0:(0:Int)≤(b.natAbs:Int):=Int.natCast_nonneg _
  exact Int.mul_le_mul h.abs k.abs b0 (Int.le_trans a0 h.abs)
abbrev Bd (a:Int):Prop:=Le a 1000000000000000000000000000000
theorem Bd.m {a:Int}(h:Bd a):iV a:=by have:=h.1;have:=h.2;unfold iV;omega
theorem Bd.mm {a b:Int}(h:Bd a)(k:Bd b):iV (a*b):=by
  have:=(h.mul k).1;have:=(h.mul k).2
  unfold iV;omega
theorem Bd.mul {a b:Int}(h:Bd a)(k:Bd b):MulOk a b:=.inr ⟨h.m,k.m⟩
theorem IsPart.bp {a b x y:Int}(h:IsPart a b x y)(ha:Bd a):Bd x:=.F6 (by have:=h.pa;have:=ha.abs;omega)
theorem IsPart.bq {a b x y:Int}(h:IsPart a b x y)(hb:Bd b):Bd y:=.F6 (by have:=h.qb;have:=hb.abs;omega)
inductive Wd | gF | step | jB | kY | calm
  deriving DecidableEq
structure RN where
  wd:Wd
  p:Int
  q:Int
  x:Int
  y:Int
  a:Int
  b:Int
  l:Int
  h:Int
  r:Int
  s:Int
def Wd.str:Wd→Str
  | .gF=>Str.ofString "still"
  | .step=>Str.ofString "step"
  | .jB=>Str.ofString "swell"
  | .kY=>Str.ofString "heed"
  | .calm=>Str.ofString "calm"
def RN.toD (R:RN):D:=match R.wd with
  | .gF=>.tup [.str "still", fr R.p R.q]
  | .step=>.tup [.str "step", fr R.p R.q,fr R.x R.y,fr R.a R.b,fr R.r R.s]
  | .jB=>.tup [.str "swell", fr R.p R.q,fr R.x R.y,fr R.a R.b,fr R.r R.s]
  | .kY=>.tup [.str "heed", fr R.p R.q,fr R.x R.y,fr R.a R.b,fr R.r R.s]
  | .calm=>.tup [.str "calm", fr R.p R.q,fr R.x R.y,.int R.l,.int R.h,fr R.r R.s]
structure RN.Ok (R:RN):Prop where
  w:FrB 1 60 R.p R.q
  t:FrB 1 60 R.r R.s
  wt:R.p*R.s≤R.r*R.q
  u:FrA 0 60 R.x R.y
  u1:R.wd=.jB→R.y < R.x
  g:FrA 0 1 R.a R.b
  d1:R.wd=.step∨R.wd=.jB→R.a < R.b
  l0:0≤R.l
  lh:R.l≤R.h
  h1:R.h≤60
  st:R.wd=.gF→R.r=R.p∧R.s=R.q
theorem E2 {lo hi:Int}(h0:lo < 1)(h1:1≤hi):FrA lo hi 1 1:=⟨⟨by decide,by decide,by decide,by omega,by omega⟩,by omega⟩
structure Hd where
  good:Int
  mark:Int
  bG:Int
  wt:Int
structure Hd.Ok (h:Hd):Prop where
  g0:0≤h.good
  g1:h.good≤1000000
  m0:0≤h.mark
  m1:h.mark≤1000000
  l0:0≤h.bG
  l1:h.bG≤1000000
  w0:0≤h.wt
def Hd.toD (h:Hd):D:=.tup [.int h.good,.int h.mark,.int h.bG,.int h.wt]
def Hd.bad (h:Hd):Int:=h.mark+h.bG
def Hd.many (h:Hd):Int:=h.good+h.bad
def RN.idle (R:RN)(h:Hd):Prop:=R.wd=.gF∨h.good+h.mark+h.bG=0
instance (R:RN) (h:Hd):Decidable (R.idle h):=by unfold RN.idle;infer_instance
def RN.cap (R:RN)(g:Int):Int:=R.r*g / R.s
def RN.shr (R:RN)(g S:Int)(h:Hd):Int:=if R.wd=.kY then (S*R.b*h.many+R.a*(h.bad*g - S*h.many)) / (R.b*h.many) else S
def RN.fac (R:RN)(g S:Int)(h:Hd):Option (Int×Int):=match R.wd with
  | .gF=>none
  | .calm=>if 0 < h.bG then some (1,2) else none
  | .kY=>if h.bad=0 then none else some (2*g - S,2*g)
  | .jB=>if h.bad=0 then some (R.x,R.y) else some (R.a,R.b)
  | .step=>if h.bad=0 then none else some (R.a,R.b)
def RN.mvd (R:RN)(g W:Int)(h:Hd):Int:=if R.wd=.calm then (if h.wt < R.l then W*R.y+g*R.x else if R.h < h.wt then W*R.y - g*R.x else W*R.y) else W*R.y+g*R.x
def RN.mv (R:RN)(g W S:Int)(h:Hd):Int:=match R.fac g S h with
  | some f=>W*f.1 / f.2
  | none=>R.mvd g W h / R.y
def RN.clip (R:RN)(g z:Int):Int:=min (max z g) (R.cap g)
def RN.beh (R:RN)(g W S:Int)(h:Hd):Int×Int:=if R.idle h then (W,S) else (R.clip g (R.mv g W (R.shr g S h) h),R.shr g S h)
theorem HK {R:RN}(k:R.Ok){g:Int}(g0:0 < g):g≤R.cap g:=by
  unfold RN.cap
  rw[Int.le_ediv_iff_mul_le k.t.q0]
  have:=Int.mul_le_mul_of_nonneg_right k.t.ge (show 0≤g by omega)
  have e:g*R.s=1*R.s*g:=by rw[Int.one_mul,Int.mul_comm]
  omega
theorem F8 {R:RN}(k:R.Ok){g:Int}(g0:0 < g):R.cap g≤60*g:=by
  unfold RN.cap
  refine Int.ediv_le_of_le_mul k.t.q0 ?_
  have:=Int.mul_le_mul_of_nonneg_right k.t.le (show 0≤g by omega)
  have e:60*g*R.s=60*R.s*g:=by ac_rfl
  omega
theorem Hj {R:RN}(k:R.Ok){g S:Int}{h:Hd}(H:h.Ok)(hn:¬ R.idle h)(g0:0 < g)(S0:0≤S)(S1:S≤g):0≤R.shr g S h∧R.shr g S h≤g:=by
  unfold RN.shr
  split
  · rename_i hw
    have m0:0 < h.many:=by
      unfold RN.idle at hn
      unfold Hd.many Hd.bad
      have:=H.g0;have:=H.m0;have:=H.l0
      have:¬ (h.good+h.mark+h.bG=0):=fun z=>hn (.inr z)
      omega
    have bb:h.bad≤h.many:=by unfold Hd.many;have:=H.g0;omega
    have b0:0≤h.bad:=by unfold Hd.bad;have:=H.m0;have:=H.l0;omega
    have q0:=k.g.q0
    have a0:0 < R.a:=by have:=k.g.ab;omega
    have ab:R.a≤R.b:=by have:=k.g.le;omega
    have Y:0 < R.b*h.many:=Int.mul_pos q0 m0
    have e:S*R.b*h.many+R.a*(h.bad*g - S*h.many)=(R.b - R.a)*(S*h.many)+R.a*(h.bad*g):=by
      rw[Int.mul_sub,Int.sub_mul,show S*R.b*h.many=R.b*(S*h.many) by ac_rfl];omega
    have z1:0≤(R.b - R.a)*(S*h.many):=Int.mul_nonneg (by omega) (Int.mul_nonneg S0 (by omega))
    have z2:0≤R.a*(h.bad*g):=Int.mul_nonneg (by omega) (Int.mul_nonneg b0 (by omega))
    have z3:(R.b - R.a)*(S*h.many)≤(R.b - R.a)*(g*h.many):=Int.mul_le_mul_of_nonneg_left (Int.mul_le_mul_of_nonneg_right S1 (by omega)) (by omega)
    have z4:R.a*(h.bad*g)≤R.a*(h.many*g):=Int.mul_le_mul_of_nonneg_left (Int.mul_le_mul_of_nonneg_right bb (by omega)) (by omega)
    have e2:(R.b - R.a)*(g*h.many)+R.a*(h.many*g)=g*(R.b*h.many):=by
      rw[Int.sub_mul,show R.b*(g*h.many)=g*(R.b*h.many) by ac_rfl,show R.a*(h.many*g)=R.a*(g*h.many) by ac_rfl];omega
    rw[e]
    exact ⟨Int.ediv_nonneg (by omega) (by omega),Int.ediv_le_of_le_mul Y (by omega)⟩
  · exact ⟨S0,S1⟩
local macro_rules | `(tactic| walk_at "rd")=>`(tactic| try simp only[ah,TC,ak,TUn,kg,FQ,E7,TB,w4,TOr,yt,jt,A1,ar,af,aX,ig,iW,av,bH,aD,As,FZ,dW,aY,Ia,c7,aw,aN,xE,zE,gK,gf,cQ,bL,f9,fK,dM,Qi,ILs,
  FD,Gp,GI,Gb,GR,Am,oS,zC,HS,y8,um,A2,oY,tZ,uA,tP,uV,iT,iZ,tU,ql,pM,pz,qW,pG,p9,qR,qv,qE,TSl,ONo,gh,Hi,HG,Fm,Hf,GA,Fq,yS,Av,Hz,Gh,Ip,pP,rh,qG,AJ,AA,y1,zd,zD,zx,AO,Ay,z9,G9,EV,EZ,Ic,G2,Hu,o7,IE,FX,yI,Ai,AU,AB,yU,zc,y6,y3,y2,yH,
  lk,ini,List.map,List.length,List.replicate,List.append,List.set,List.cons_append,List.nil_append,Nat.sub_self,Nat.reduceSub,Nat.reduceAdd,
  yi,wJ,Ck,Cn,Cd,A9,List.getElem?_cons_zero,List.getElem?_cons_succ,aB,iH,Nat.reduceLT,Nat.reduceLeDiff,if_true,if_false,true_and,and_true,Bool.not_true,Bool.not_false,Nat.lt_add_one,Nat.zero_lt_succ,Nat.succ_lt_succ_iff,Nat.zero_lt_one,
  decide_eq_true_eq,Bool.false_eq_true,ite_false,ite_true,ne_eq,not_false_eq_true,Int.reduceToNat,Int.reducePow,Int.reduceNeg,Int.reduceSub,Int.reduceAdd,Int.reduceMul,Int.reduceEq,okD,cS,eqD,oE,Bool.and_self,Bool.and_true,Bool.true_and,fA,ko,decide_true,decide_false,Bool.or_true,Bool.or_false,Bool.true_or,Bool.false_or,Bool.and_false,Bool.false_and,and_self,cE,bW,cF,cz,cB,cy,cO,cT,bV,cw,cx,cC,cG,cW,cD,cU,cA,cN,cu,cX,iR,l3,o9,mG,qz,oW,gs,gr,gu,gj,gq,gn,gi])
def gX:FSp:=fun ds μ Q=>match ds with
  | [d1,d2]=>∃ a b c e,((Vl d1 a b∧Vl d2 c e)∧Bd a∧Bd b∧Bd c∧Bd e)∧∀ z,Vl z (a*e+c*b) (b*e)→Q z μ
  | _=>False
theorem G8:∀ ds μ Q,gX ds μ Q→ds.length=2:=by
  unfold gX
  walk_at "ln"
def E9:STr:=aY (av fM (af (ak aT (ak hV (ak L3.rIx (ah 0) (TC (.int 0))) (ak L3.rIx (ah 1) (TC (.int 1)))) (ak hV (ak L3.rIx (ah 1) (TC (.int 0))) (ak L3.rIx (ah 0) (TC (.int 1))))) (af (ak hV (ak L3.rIx (ah 0) (TC (.int 1))) (ak L3.rIx (ah 1) (TC (.int 1)))) (ar))))
theorem JI:∀ ds μ Q,gX ds μ Q→E9 { nx:=fun _ μ'=>RT Q .non μ',rt:=RT Q } (ini 2 ds) μ:=by
  intro ds μ Q h
  unfold gX at h
  split at h
  case h_2=>exact h.elim
  rename_i d1 d2
  unfold E9
  walk_at "rd"
  obtain ⟨a,b,c,e,⟨⟨V1,V2⟩,Ba,Bb,Bc,Be⟩,k⟩:=h
  obtain ⟨⟨p,q,rfl,P⟩,b0⟩:=V1
  obtain ⟨⟨r,s,rfl,S⟩,e0⟩:=V2
  have q0:=P.q0
  have s0:=S.q0
  have be:0 < b*e:=Int.mul_pos b0 e0
  have qs:0 < q*s:=Int.mul_pos q0 s0
  have Bp:=P.bp Ba
  have Bq:=P.bq Bb
  have Br:=S.bp Bc
  have Bs:=S.bq Be
  walk_at "rd"
  refine ⟨Bp.mul Bs,Br.mul Bq,Bq.mul Bs,⟨by omega,Bq.mm Bs⟩,fun x y Pt=>⟨_,.refl _,k _ ⟨⟨x,y,rfl,Pt.of_eq qs be ?_⟩,be⟩⟩⟩
  calc (p*s+r*q)*(b*e)=(p*b)*(s*e)+(r*e)*(q*b):=by rw[Int.add_mul];congr 1<;>ac_rfl
    _=(a*q)*(s*e)+(c*s)*(q*b):=by rw[P.e,S.e]
    _=(a*e+c*b)*(q*s):=by rw[Int.add_mul];congr 1<;>ac_rfl
def fP:FSp:=fun ds μ Q=>match ds with
  | [d1,d2]=>∃ a b c e,((Vl d1 a b∧Vl d2 c e)∧Bd a∧Bd b∧Bd c∧Bd e)∧∀ z,Vl z (a*e - c*b) (b*e)→Q z μ
  | _=>False
theorem D7:∀ ds μ Q,fP ds μ Q→ds.length=2:=by
  unfold fP
  walk_at "ln"
def BY:STr:=aY (av fM (af (ak iC (ak hV (ak L3.rIx (ah 0) (TC (.int 0))) (ak L3.rIx (ah 1) (TC (.int 1)))) (ak hV (ak L3.rIx (ah 1) (TC (.int 0))) (ak L3.rIx (ah 0) (TC (.int 1))))) (af (ak hV (ak L3.rIx (ah 0) (TC (.int 1))) (ak L3.rIx (ah 1) (TC (.int 1)))) (ar))))
theorem G4:∀ ds μ Q,fP ds μ Q→BY { nx:=fun _ μ'=>RT Q .non μ',rt:=RT Q } (ini 2 ds) μ:=by
  intro ds μ Q h
  unfold fP at h
  split at h
  case h_2=>exact h.elim
  rename_i d1 d2
  unfold BY
  walk_at "rd"
  obtain ⟨a,b,c,e,⟨⟨V1,V2⟩,Ba,Bb,Bc,Be⟩,k⟩:=h
  obtain ⟨⟨p,q,rfl,P⟩,b0⟩:=V1
  obtain ⟨⟨r,s,rfl,S⟩,e0⟩:=V2
  have q0:=P.q0
  have s0:=S.q0
  have be:0 < b*e:=Int.mul_pos b0 e0
  have qs:0 < q*s:=Int.mul_pos q0 s0
  have Bp:=P.bp Ba
  have Bq:=P.bq Bb
  have Br:=S.bp Bc
  have Bs:=S.bq Be
  walk_at "rd"
  refine ⟨Bp.mul Bs,Br.mul Bq,Bq.mul Bs,⟨by omega,Bq.mm Bs⟩,fun x y Pt=>⟨_,.refl _,k _ ⟨⟨x,y,rfl,Pt.of_eq qs be ?_⟩,be⟩⟩⟩
  calc (p*s - r*q)*(b*e)=(p*b)*(s*e) - (r*e)*(q*b):=by rw[Int.sub_mul];congr 1<;>ac_rfl
    _=(a*q)*(s*e) - (c*s)*(q*b):=by rw[P.e,S.e]
    _=(a*e - c*b)*(q*s):=by rw[Int.sub_mul];congr 1<;>ac_rfl
def fS:FSp:=fun ds μ Q=>match ds with
  | [d1,d2]=>∃ a b c e,((Vl d1 a b∧Vl d2 c e)∧Bd a∧Bd b∧Bd c∧Bd e)∧∀ z,Vl z (a*c) (b*e)→Q z μ
  | _=>False
theorem DT:∀ ds μ Q,fS ds μ Q→ds.length=2:=by
  unfold fS
  walk_at "ln"
def BH:STr:=aY (av fM (af (ak hV (ak L3.rIx (ah 0) (TC (.int 0))) (ak L3.rIx (ah 1) (TC (.int 0)))) (af (ak hV (ak L3.rIx (ah 0) (TC (.int 1))) (ak L3.rIx (ah 1) (TC (.int 1)))) (ar))))
theorem G5:∀ ds μ Q,fS ds μ Q→BH { nx:=fun _ μ'=>RT Q .non μ',rt:=RT Q } (ini 2 ds) μ:=by
  intro ds μ Q h
  unfold fS at h
  split at h
  case h_2=>exact h.elim
  rename_i d1 d2
  unfold BH
  walk_at "rd"
  obtain ⟨a,b,c,e,⟨⟨V1,V2⟩,Ba,Bb,Bc,Be⟩,k⟩:=h
  obtain ⟨⟨p,q,rfl,P⟩,b0⟩:=V1
  obtain ⟨⟨r,s,rfl,S⟩,e0⟩:=V2
  have q0:=P.q0
  have s0:=S.q0
  have be:0 < b*e:=Int.mul_pos b0 e0
  have qs:0 < q*s:=Int.mul_pos q0 s0
  have Bp:=P.bp Ba
  have Bq:=P.bq Bb
  have Br:=S.bp Bc
  have Bs:=S.bq Be
  walk_at "rd"
  refine ⟨Bp.mul Br,Bq.mul Bs,⟨by omega,Bq.mm Bs⟩,fun x y Pt=>⟨_,.refl _,k _ ⟨⟨x,y,rfl,Pt.of_eq qs be ?_⟩,be⟩⟩⟩
  calc (p*r)*(b*e)=(p*b)*(r*e):=by ac_rfl
    _=(a*q)*(c*s):=by rw[P.e,S.e]
    _=(a*c)*(q*s):=by ac_rfl
def iM:FSp:=fun ds μ Q=>match ds with
  | [d1,d2]=>∃ a b c e,((Vl d1 a b∧Vl d2 c e)∧Bd a∧Bd b∧Bd c∧Bd e)∧Q (.bl (decide (a*e < c*b))) μ
  | _=>False
theorem Gw:∀ ds μ Q,iM ds μ Q→ds.length=2:=by
  unfold iM
  walk_at "ln"
def HM:STr:=aY (ak rLt (ak hV (ak L3.rIx (ah 0) (TC (.int 0))) (ak L3.rIx (ah 1) (TC (.int 1)))) (ak hV (ak L3.rIx (ah 1) (TC (.int 0))) (ak L3.rIx (ah 0) (TC (.int 1)))))
theorem IT:∀ ds μ Q,iM ds μ Q→HM { nx:=fun _ μ'=>RT Q .non μ',rt:=RT Q } (ini 2 ds) μ:=by
  intro ds μ Q h
  unfold iM at h
  split at h
  case h_2=>exact h.elim
  rename_i d1 d2
  unfold HM
  walk_at "rd"
  obtain ⟨a,b,c,e,⟨⟨V1,V2⟩,Ba,Bb,Bc,Be⟩,k⟩:=h
  obtain ⟨⟨p,q,rfl,P⟩,b0⟩:=V1
  obtain ⟨⟨r,s,rfl,S⟩,e0⟩:=V2
  walk_at "rd"
  refine ⟨(P.bp Ba).mul (S.bq Be),(S.bp Bc).mul (P.bq Bb),_,.refl _,?_⟩
  rw[show decide (p*s < r*q)=decide (a*e < c*b) from decide_eq_decide.mpr (Ql P.q0 S.q0 b0 e0 P.e S.e)]
  exact k
def eR:FSp:=fun ds μ Q=>match ds with
  | [d1]=>∃ a b,(Vl d1 a b∧Bd b)∧Q (.int (a / b)) μ
  | _=>False
theorem tJ:∀ ds μ Q,eR ds μ Q→ds.length=1:=by
  unfold eR
  walk_at "ln"
def pB:STr:=aY (ak mL (ak L3.rIx (ah 0) (TC (.int 0))) (ak L3.rIx (ah 0) (TC (.int 1))))
theorem yF:∀ ds μ Q,eR ds μ Q→pB { nx:=fun _ μ'=>RT Q .non μ',rt:=RT Q } (ini 1 ds) μ:=by
  intro ds μ Q h
  unfold eR at h
  split at h
  case h_2=>exact h.elim
  rename_i d1
  unfold pB
  walk_at "rd"
  obtain ⟨a,b,⟨⟨⟨p,q,rfl,P⟩,b0⟩,Bb⟩,k⟩:=h
  have q0:=P.q0
  walk_at "rd"
  rw[jw q0,N8 q0 b0 P.e]
  exact ⟨⟨by omega,(P.bq Bb).m⟩,_,.refl _,k⟩
def dN:FSp:=fun ds μ Q=>match ds with
  | [d1,.int g]=>∃ a b,(Vl d1 a b∧Bd a∧Bd b∧0 < g∧g≤1000000)∧∀ z,Vl z (a*g / b) g→Q z μ
  | _=>False
theorem zX:∀ ds μ Q,dN ds μ Q→ds.length=2:=by
  unfold dN
  walk_at "ln"
def yl:STr:=aY (av fM (af (ak mL (ak hV (ak L3.rIx (ah 0) (TC (.int 0))) (ah 1)) (ak L3.rIx (ah 0) (TC (.int 1)))) (af (ah 1) (ar))))
theorem DJ:∀ ds μ Q,dN ds μ Q→yl { nx:=fun _ μ'=>RT Q .non μ',rt:=RT Q } (ini 2 ds) μ:=by
  intro ds μ Q h
  unfold dN at h
  split at h
  case h_2=>exact h.elim
  rename_i d1 g
  unfold yl
  walk_at "rd"
  obtain ⟨a,b,⟨⟨⟨p,q,rfl,P⟩,b0⟩,Ba,Bb,g0,g1⟩,k⟩:=h
  have q0:=P.q0
  walk_at "rd"
  rw[jw q0,Mk g q0 b0 P.e]
  exact ⟨.inl (.inr (by unfold S64;omega)),⟨by omega,(P.bq Bb).m⟩,⟨by omega,by unfold iV;omega⟩,fun x y Pt=>⟨_,.refl _,k _ (Cm Pt g0)⟩⟩
theorem Ek {xs:List D}{d:D}(h:xs[xs.length - 1]? = some d)(h0:xs≠[]):atD xs ((xs.length:Int) - 1)=some d:=by
  have:0 < xs.length:=List.length_pos_iff.mpr h0
  have e:((xs.length:Int) - 1)=((xs.length - 1:Nat):Int):=by omega
  rw[e,cY,h]
theorem RN.tup (R:RN)(hst:R.wd=.gF→R.r=R.p∧R.s=R.q):∃ xs,R.toD=.tup xs∧xs[0]? = some (.str R.wd.str)∧xs[1]? = some (fr R.p R.q)∧xs[xs.length - 1]? = some (fr R.r R.s)∧xs≠[]:=by
  obtain ⟨wd,p,q,x,y,a,b,l,h,r,s⟩:=R
  cases wd
  · obtain ⟨e1,e2⟩:=hst rfl
    dsimp only at e1 e2
    subst e1 e2
    exact ⟨_,rfl,rfl,rfl,rfl,nofun⟩
  all_goals exact ⟨_,rfl,rfl,rfl,rfl,nofun⟩
def fD:FSp:=fun ds μ Q=>match ds with
  | [d]=>∃ R:RN,(R.Ok∧d=R.toD)∧Q (fr R.r R.s) μ
  | _=>False
theorem zB:∀ ds μ Q,fD ds μ Q→ds.length=1:=by
  unfold fD
  walk_at "ln"
def vZ:STr:=aY (ak L3.rIx (ah 0) (ak iC (av eL (af (ah 0) (ar))) (TC (.int 1))))
theorem D2:∀ ds μ Q,fD ds μ Q→vZ { nx:=fun _ μ'=>RT Q .non μ',rt:=RT Q } (ini 1 ds) μ:=by
  intro ds μ Q h
  unfold fD at h
  split at h
  case h_2=>exact h.elim
  rename_i d
  unfold vZ
  walk_at "rd"
  obtain ⟨R,⟨K,rfl⟩,k⟩:=h
  obtain ⟨xs,e,_,_,e3,e4⟩:=R.tup K.st
  rw[e]
  walk_at "rd"
  rw[Ek e3 e4]
  exact ⟨_,.refl _,k⟩
def fE:FSp:=fun ds μ Q=>match ds with
  | [d,e]=>∃ (R:RN) (h:Hd),(d=R.toD∧e=h.toD)∧Q (.bl (decide (R.idle h))) μ
  | _=>False
theorem vq:∀ ds μ Q,fE ds μ Q→ds.length=2:=by
  unfold fE
  walk_at "ln"
def sV:STr:=aY (FQ (ak rEq (ak L3.rIx (ah 0) (TC (.int 0))) (TC (.str "still"))) (ak rEq (ak aT (ak aT (ak L3.rIx (ah 1) (TC (.int 0))) (ak L3.rIx (ah 1) (TC (.int 1)))) (ak L3.rIx (ah 1) (TC (.int 2)))) (TC (.int 0))))
theorem zu:∀ ds μ Q,fE ds μ Q→sV { nx:=fun _ μ'=>RT Q .non μ',rt:=RT Q } (ini 2 ds) μ:=by
  intro ds μ Q h
  unfold fE at h
  split at h
  case h_2=>exact h.elim
  rename_i d e
  unfold sV
  walk_at "rd"
  obtain ⟨R,h,⟨rfl,rfl⟩,k⟩:=h
  obtain ⟨wd,p,q,x,y,a,b,l,hh,r,s⟩:=R
  obtain ⟨good,mark,bG,wt⟩:=h
  unfold RN.idle at k
  cases wd
  all_goals
    simp only[RN.toD,Hd.toD,fr]
    walk_at "rd"
    refine ⟨_,.refl _,?_⟩
    simpa using k
def Gd (g:Int):Prop:=1≤g∧g≤60
theorem GQ {R:RN}{h:Hd}(H:h.Ok)(hn:¬ R.idle h):0 < h.many∧h.many≤3000000:=by
  have:=H.g0;have:=H.m0;have:=H.l0;have:=H.g1;have:=H.m1;have:=H.l1
  have:¬ (h.good+h.mark+h.bG=0):=fun z=>hn (.inr z)
  unfold Hd.many Hd.bad
  omega
theorem FrB.bd {lo hi p q:Int}(h:FrB lo hi p q)(l0:0≤lo)(h1:hi≤60):Le p 600000120∧Le q 10000002:=by
  have:=h.q0;have:=h.q1
  have e1:=h.ge;have e2:=h.le
  have a1:0≤lo*q:=Int.mul_nonneg l0 (by omega)
  have a2:hi*q≤60*q:=Int.mul_le_mul_of_nonneg_right h1 (by omega)
  exact ⟨.of (by omega) (by omega),.of (by omega) (by omega)⟩
theorem AL {R:RN}{g S:Int}{h:Hd}(hw:R.wd=.kY)(g0:0 < g)(Y:0 < R.b*h.many):(S*(R.b*(h.many*g))+R.a*(h.bad*g - S*h.many)*g)*g / (g*(R.b*(h.many*g)))=R.shr g S h:=by
  unfold RN.shr
  rw[if_pos hw]
  have e1:(S*(R.b*(h.many*g))+R.a*(h.bad*g - S*h.many)*g)*g=(S*R.b*h.many+R.a*(h.bad*g - S*h.many))*(g*g):=by
    rw[Int.add_mul,Int.add_mul];congr 1<;>ac_rfl
  have e2:g*(R.b*(h.many*g))=(R.b*h.many)*(g*g):=by ac_rfl
  rw[e1,e2]
  exact Int.mul_ediv_mul_of_pos_left _ _ (Int.mul_pos g0 g0)
def b6:FSp:=fun ds μ Q=>match ds with
  | [d,.int g,sd,e]=>∃ (R:RN) (S:Int) (h:Hd),((d=R.toD∧e=h.toD)∧R.Ok∧h.Ok∧Gd g∧Vl sd S g∧(0≤S∧S≤g)∧¬ R.idle h)∧∀ z,Vl z (R.shr g S h) g→Q z μ
  | _=>False
theorem my:∀ ds μ Q,b6 ds μ Q→ds.length=4:=by
  unfold b6
  walk_at "ln"
def jz:STr:=aD (c7 (TB (ak rNe (ak L3.rIx (ah 0) (TC (.int 0))) (TC (.str "heed")))) (aY (ah 2)) (bH)) (aD (aN (ak aT (ak L3.rIx (ah 3) (TC (.int 1))) (ak L3.rIx (ah 3) (TC (.int 2)))) (aw 4)) (aD (aN (av fS (af (ak L3.rIx (ah 0) (TC (.int 3))) (af (av fP (af (av fM (af (ah 4) (af (ak aT (ak L3.rIx (ah 3) (TC (.int 0))) (ah 4)) (ar)))) (af (ah 2) (ar)))) (ar)))) (aw 5)) (aY (av dN (af (av gX (af (ah 2) (af (ah 5) (ar)))) (af (ah 1) (ar)))))))
theorem oh:∀ ds μ Q,b6 ds μ Q→jz { nx:=fun _ μ'=>RT Q .non μ',rt:=RT Q } (ini 6 ds) μ:=by
  intro ds μ Q h
  unfold b6 at h
  split at h
  case h_2=>exact h.elim
  rename_i d g sd e
  unfold jz
  walk_at "rd"
  obtain ⟨R,S,h,⟨⟨rfl,rfl⟩,K,H,⟨g0,g1⟩,VS,⟨S0,S1⟩,hn⟩,k⟩:=h
  obtain ⟨m0,m1⟩:=GQ H hn
  have hb0:=H.m0;have hb1:=H.m1;have hc0:=H.l0;have hc1:=H.l1;have hg0:=H.g0;have hg1:=H.g1
  have GB:=K.g.toFrB.bd (by decide) (by decide)
  have gp:=K.g.q0
  obtain ⟨wd,p,q,x,y,a,b,l,hh,r,s⟩:=R
  cases wd
  case kY=>
    have sh:=fun Y=>AL (R:=⟨.kY,p,q,x,y,a,b,l,hh,r,s⟩) (g:=g) (S:=S) (h:=h) rfl (by omega) Y
    have k':=k
    generalize RN.shr ⟨.kY,p,q,x,y,a,b,l,hh,r,s⟩ g S h=Z at sh k'
    dsimp only at sh GB gp
    obtain ⟨good,mark,bG,wt⟩:=h
    simp only[Hd.many,Hd.bad] at sh m0 m1
    dsimp only at m0 m1 hb0 hb1 hc0 hc1 hg0 hg1
    simp only[RN.toD,Hd.toD,fr]
    walk_at "rd"
    have L1:Le (mark+bG) 2000000:=.of (by omega) (by omega)
    have L2:Le (good+(mark+bG)) 3000000:=.of (by omega) (by omega)
    have LS:Le S 60:=.of S0 (by omega)
    have Lg:Le g 60:=.of (by omega) g1
    have e1:=L1.mul Lg
    have e2:=LS.mul L2
    have e3:=L2.mul Lg
    have e4:=e1.sub e2
    have e5:=GB.1.mul e4
    have e6:=GB.2.mul e3
    have mg:0 < (good+(mark+bG))*g:=Int.mul_pos m0 (by omega)
    refine ⟨⟨by omega,Bd.m (L2.mono (by decide))⟩,fun u v Pt=>⟨_,_,_,_,⟨⟨Cm Pt m0,VS⟩,L1.mono (by decide),L2.mono (by decide),LS.mono (by decide),Lg.mono (by decide)⟩,fun z1 V1=>?_⟩⟩
    refine ⟨a,b,_,_,⟨⟨jb K.g.toFrB,V1⟩,GB.1.mono (by decide),GB.2.mono (by decide),e4.mono (by decide),e3.mono (by decide)⟩,fun z2 V2=>?_⟩
    walk_at "rd"
    refine ⟨_,_,_,_,⟨⟨VS,V2⟩,LS.mono (by decide),Lg.mono (by decide),e5.mono (by decide),e6.mono (by decide)⟩,fun z3 V3=>?_⟩
    refine ⟨_,_,⟨V3,((LS.mul e6).add (e5.mul Lg)).mono (by decide),(Lg.mul e6).mono (by decide),by omega,by omega⟩,fun z V=>⟨_,.refl _,k' z ?_⟩⟩
    rw[sh (Int.mul_pos gp m0)] at V
    exact V
  all_goals
    simp only[RN.toD,Hd.toD,fr]
    walk_at "rd"
    refine ⟨_,.refl _,k _ ?_⟩
    exact VS
def dD:FSp:=fun ds μ Q=>match ds with
  | [d,sd,e]=>∃ (R:RN) (g S:Int) (h:Hd),((d=R.toD∧e=h.toD)∧R.Ok∧h.Ok∧Gd g∧Vl sd S g∧(0≤S∧S≤g)∧¬ R.idle h)∧(R.fac g S h=none→Q .non μ)∧∀ f,R.fac g S h=some f→∀ z,Vl z f.1 f.2→Q z μ
  | _=>False
theorem rN:∀ ds μ Q,dD ds μ Q→ds.length=3:=by
  unfold dD
  walk_at "ln"
def mY:STr:=aD (c7 (TB (ak rEq (ak L3.rIx (ah 0) (TC (.int 0))) (TC (.str "calm")))) (aY (jt (TB (ak rGt (ak L3.rIx (ah 2) (TC (.int 2))) (TC (.int 0)))) (TC (.tup [.int 1,.int 2])) (TC .non))) (bH)) (aD (c7 (TB (ak rEq (ak aT (ak L3.rIx (ah 2) (TC (.int 1))) (ak L3.rIx (ah 2) (TC (.int 2)))) (TC (.int 0)))) (aY (jt (TB (ak rEq (ak L3.rIx (ah 0) (TC (.int 0))) (TC (.str "swell")))) (ak L3.rIx (ah 0) (TC (.int 2))) (TC .non))) (bH)) (aD (c7 (TB (ak rEq (ak L3.rIx (ah 0) (TC (.int 0))) (TC (.str "heed")))) (aY (av fP (af (TC (.tup [.int 1,.int 1])) (af (av fS (af (TC (.tup [.int 1,.int 2])) (af (ah 1) (ar)))) (ar))))) (bH)) (aY (ak L3.rIx (ah 0) (TC (.int 3))))))
theorem tS:∀ ds μ Q,dD ds μ Q→mY { nx:=fun _ μ'=>RT Q .non μ',rt:=RT Q } (ini 3 ds) μ:=by
  intro ds μ Q h
  unfold dD at h
  split at h
  case h_2=>exact h.elim
  rename_i d sd e
  unfold mY
  walk_at "rd"
  obtain ⟨R,g,S,h,⟨⟨rfl,rfl⟩,K,H,⟨g0,g1⟩,VS,⟨S0,S1⟩,hn⟩,k1,k2⟩:=h
  have hb0:=H.m0;have hb1:=H.m1;have hc0:=H.l0;have hc1:=H.l1;have hg0:=H.g0;have hg1:=H.g1
  have VG:=jb K.g.toFrB
  have VU:=jb K.u.toFrB
  have LS:Le S 60:=.of S0 (by omega)
  have Lg:Le g 60:=.of (by omega) g1
  have V12:Vl (fr 1 2) 1 2:=jb (lo:=0) (hi:=1) ⟨by decide,by decide,by decide,by decide,by decide⟩
  have V11:Vl (fr 1 1) 1 1:=jb (E2 (lo:=0) (hi:=1) (by decide) (by decide)).toFrB
  obtain ⟨wd,p,q,x,y,a,b,l,hh,r,s⟩:=R
  obtain ⟨good,mark,bG,wt⟩:=h
  dsimp only at hb0 hb1 hc0 hc1 hg0 hg1 VG VU
  simp only[RN.fac,Hd.bad] at k1 k2
  cases wd
  case gF=>exact absurd (Or.inl rfl) hn
  case calm=>
    simp only[RN.toD,Hd.toD,fr]
    walk_at "rd"
    split
    · rename_i hl
      exact ⟨_,.refl _,k2 (1,2) (if_pos hl) _ V12⟩
    · rename_i hl
      exact ⟨_,.refl _,k1 (if_neg hl)⟩
  case kY=>
    simp only[RN.toD,Hd.toD,fr]
    walk_at "rd"
    split
    · rename_i hl
      exact ⟨_,.refl _,k1 (if_pos hl)⟩
    · rename_i hl
      refine ⟨1,2,S,g,⟨⟨V12,VS⟩,.of (by decide) (by decide),.of (by decide) (by decide),LS.mono (by decide),Lg.mono (by decide)⟩,fun z1 V1=>?_⟩
      refine ⟨1,1,_,_,⟨⟨V11,V1⟩,.of (by decide) (by decide),.of (by decide) (by decide),?_,?_⟩,fun z2 V2=>⟨_,.refl _,k2 (2*g - S,2*g) (if_neg hl) _ ?_⟩⟩
      · rw[Int.one_mul];exact LS.mono (by decide)
      · exact .of (by omega) (by omega)
      · simpa using V2
  case step=>
    simp only[RN.toD,Hd.toD,fr]
    walk_at "rd"
    split
    · rename_i hl
      exact ⟨_,.refl _,k1 (if_pos hl)⟩
    · rename_i hl
      exact ⟨_,.refl _,k2 (a,b) (if_neg hl) _ VG⟩
  case jB=>
    simp only[RN.toD,Hd.toD,fr]
    walk_at "rd"
    split
    · rename_i hl
      exact ⟨_,.refl _,k2 (x,y) (if_pos hl) _ VU⟩
    · rename_i hl
      exact ⟨_,.refl _,k2 (a,b) (if_neg hl) _ VG⟩
def ir:FSp:=fun ds μ Q=>match ds with
  | [d,wd,e]=>∃ (R:RN) (g W:Int) (h:Hd),((d=R.toD∧e=h.toD)∧R.Ok∧Gd g∧Vl wd W g∧Le W 1000000∧¬ R.idle h)∧∀ z,Vl z (R.mvd g W h) (g*R.y)→Q z μ
  | _=>False
theorem DG:∀ ds μ Q,ir ds μ Q→ds.length=3:=by
  unfold ir
  walk_at "ln"
def BV:STr:=aD (c7 (TOr (TB (ak rNe (ak L3.rIx (ah 0) (TC (.int 0))) (TC (.str "calm")))) (TB (ak rLt (ak L3.rIx (ah 2) (TC (.int 3))) (ak L3.rIx (ah 0) (TC (.int 3)))))) (aY (av gX (af (ah 1) (af (ak L3.rIx (ah 0) (TC (.int 2))) (ar))))) (bH)) (aD (c7 (TB (ak rGt (ak L3.rIx (ah 2) (TC (.int 3))) (ak L3.rIx (ah 0) (TC (.int 4))))) (aY (av fP (af (ah 1) (af (ak L3.rIx (ah 0) (TC (.int 2))) (ar))))) (bH)) (aY (ah 1)))
theorem Fc:∀ ds μ Q,ir ds μ Q→BV { nx:=fun _ μ'=>RT Q .non μ',rt:=RT Q } (ini 3 ds) μ:=by
  intro ds μ Q h
  unfold ir at h
  split at h
  case h_2=>exact h.elim
  rename_i d wd e
  unfold BV
  walk_at "rd"
  obtain ⟨R,g,W,h,⟨⟨rfl,rfl⟩,K,⟨g0,g1⟩,VW,LW,hn⟩,k⟩:=h
  have VU:=jb K.u.toFrB
  have UB:=K.u.toFrB.bd (by decide) (by decide)
  have y0:=K.u.q0
  have Lg:Le g 60:=.of (by omega) g1
  obtain ⟨wd',p,q,x,y,a,b,l,hh,r,s⟩:=R
  obtain ⟨good,mark,bG,wt⟩:=h
  dsimp only at VU UB y0
  simp only[RN.mvd] at k
  have up:∀ Q':DK,(∀ z,Vl z (W*y+g*x) (g*y)→Q' z μ)→gX [wd,fr x y] μ Q':=fun Q' kk=>
    ⟨W,g,x,y,⟨⟨VW,VU⟩,LW.mono (by decide),Lg.mono (by decide),UB.1.mono (by decide),UB.2.mono (by decide)⟩,fun z V=>kk z (by rw[Int.mul_comm g x];exact V)⟩
  cases wd'
  case gF=>exact absurd (Or.inl rfl) hn
  case calm=>
    simp only[if_true] at k
    simp only[RN.toD,Hd.toD,fr]
    walk_at "rd"
    split
    · rename_i hl
      rw[if_pos hl] at k
      exact up _ fun z V=>⟨_,.refl _,k z V⟩
    · rename_i hl
      rw[if_neg hl] at k
      split
      · rename_i hm
        rw[if_pos hm] at k
        exact ⟨W,g,x,y,⟨⟨VW,VU⟩,LW.mono (by decide),Lg.mono (by decide),UB.1.mono (by decide),UB.2.mono (by decide)⟩,fun z V=>⟨_,.refl _,k z (by rw[Int.mul_comm g x];exact V)⟩⟩
      · rename_i hm
        rw[if_neg hm] at k
        exact ⟨_,.refl _,k _ (VW.of_eq (Int.mul_pos (by omega) y0) (by ac_rfl))⟩
  all_goals
    simp only[reduceCtorEq,if_false] at k
    simp only[RN.toD,Hd.toD,fr]
    walk_at "rd"
    exact up _ fun z V=>⟨_,.refl _,k z V⟩
def iS:FSp:=fun ds μ Q=>match ds with
  | [d,.int g,wd]=>∃ (R:RN) (N M:Int),(d=R.toD∧R.Ok∧Gd g∧Vl wd N M∧Bd N∧Bd M)∧∀ z,Vl z (R.clip g (N*g / M)) g→Q z μ
  | _=>False
theorem ES:∀ ds μ Q,iS ds μ Q→ds.length=3:=by
  unfold iS
  walk_at "ln"
def Fd:STr:=aD (c7 (TB (av iM (af (ah 2) (af (TC (.tup [.int 1,.int 1])) (ar))))) (aY (TC (.tup [.int 1,.int 1]))) (bH)) (aD (c7 (TB (av iM (af (av fD (af (ah 0) (ar))) (af (ah 2) (ar))))) (aY (av dN (af (av fD (af (ah 0) (ar))) (af (ah 1) (ar))))) (bH)) (aY (av dN (af (ah 2) (af (ah 1) (ar))))))
theorem IZ:∀ ds μ Q,iS ds μ Q→Fd { nx:=fun _ μ'=>RT Q .non μ',rt:=RT Q } (ini 3 ds) μ:=by
  intro ds μ Q h
  unfold iS at h
  split at h
  case h_2=>exact h.elim
  rename_i d g wd
  unfold Fd
  walk_at "rd"
  obtain ⟨R,N,M,⟨rfl,K,⟨g0,g1⟩,V,BN,BM⟩,k⟩:=h
  have M0:=V.b0
  have V11:Vl (fr 1 1) 1 1:=jb (E2 (lo:=0) (hi:=1) (by decide) (by decide)).toFrB
  have TB:=K.t.bd (by decide) (by decide)
  have VT:=jb K.t
  have s0:=K.t.q0
  have cg:=HK K (g:=g) (by omega)
  refine ⟨N,M,1,1,⟨⟨V,V11⟩,BN,BM,.of (by decide) (by decide),.of (by decide) (by decide)⟩,?_⟩
  walk_at "rd"
  rw[Int.mul_one,Int.one_mul]
  have key:∀ z,Vl z (R.clip g (N*g / M)) g→RT Q z μ:=fun z V=>⟨_,.refl _,k z V⟩
  unfold RN.clip at key
  split
  · rename_i hl
    have f:N*g / M < g:=by
      rw[Int.ediv_lt_iff_lt_mul M0,Int.mul_comm g M]
      exact Int.mul_lt_mul_of_pos_right hl (by omega)
    rw[show min (max (N*g / M) g) (R.cap g)=g by omega] at key
    exact key _ (V11.of_eq (by omega) (by omega))
  · rename_i hl
    refine ⟨R,⟨K,rfl⟩,R.r,R.s,N,M,⟨⟨VT,V⟩,TB.1.mono (by decide),TB.2.mono (by decide),BN,BM⟩,?_⟩
    walk_at "rd"
    have f1:g≤N*g / M:=by
      rw[Int.le_ediv_iff_mul_le M0,Int.mul_comm g M]
      exact Int.mul_le_mul_of_nonneg_right (by omega) (by omega)
    split
    · rename_i ht
      have f2:R.cap g≤N*g / M:=by
        unfold RN.cap
        rw[Int.le_ediv_iff_mul_le M0]
        have d:=Int.ediv_mul_le (R.r*g) (show R.s≠0 by omega)
        have e1:R.r*g / R.s*M*R.s≤N*g*R.s:=by
          calc R.r*g / R.s*M*R.s=(R.r*g / R.s*R.s)*M:=by ac_rfl
            _≤(R.r*g)*M:=Int.mul_le_mul_of_nonneg_right d (by omega)
            _=(R.r*M)*g:=by ac_rfl
            _≤(N*R.s)*g:=Int.mul_le_mul_of_nonneg_right (by omega) (by omega)
            _=N*g*R.s:=by ac_rfl
        exact Int.le_of_mul_le_mul_right e1 s0
      rw[show min (max (N*g / M) g) (R.cap g)=R.cap g by omega] at key
      exact ⟨R,⟨K,rfl⟩,R.r,R.s,⟨VT,TB.1.mono (by decide),TB.2.mono (by decide),by omega,by omega⟩,fun z V=>key z V⟩
    · rename_i ht
      have f2:N*g / M≤R.cap g:=by
        unfold RN.cap
        rw[Int.le_ediv_iff_mul_le s0]
        have d:=Int.ediv_mul_le (N*g) (show M≠0 by omega)
        have e1:N*g / M*R.s*M≤R.r*g*M:=by
          calc N*g / M*R.s*M=(N*g / M*M)*R.s:=by ac_rfl
            _≤(N*g)*R.s:=Int.mul_le_mul_of_nonneg_right d (by omega)
            _=(N*R.s)*g:=by ac_rfl
            _≤(R.r*M)*g:=Int.mul_le_mul_of_nonneg_right (by omega) (by omega)
            _=R.r*g*M:=by ac_rfl
        exact Int.le_of_mul_le_mul_right e1 M0
      rw[show min (max (N*g / M) g) (R.cap g)=N*g / M by omega] at key
      exact ⟨N,M,⟨V,BN,BM,by omega,by omega⟩,fun z V=>key z V⟩
theorem RN.Pp {R:RN}(K:R.Ok){g S:Int}{h:Hd}(G:Gd g)(S0:0≤S)(S1:S≤g){f:Int×Int}(e:R.fac g S h=some f):0 < f.1∧0 < f.2∧Le f.1 600000120∧Le f.2 10000002:=by
  obtain ⟨g0,g1⟩:=G
  have UB:=K.u.toFrB.bd (by decide) (by decide)
  have GB:=K.g.toFrB.bd (by decide) (by decide)
  have h1:=K.u.q0;have h2:=K.u.ab;have h3:=K.g.q0;have h4:=K.g.ab
  unfold RN.fac at e
  split at e
  · cases e
  · split at e
    · cases e;exact ⟨by decide,by decide,.of (by decide) (by decide),.of (by decide) (by decide)⟩
    · cases e
  · split at e
    · cases e
    · cases e;exact ⟨by show 0 < 2*g - S;omega,by show 0 < 2*g;omega,.of (by show 0≤2*g - S;omega) (by show 2*g - S≤_;omega),.of (by show 0≤2*g;omega) (by show 2*g≤_;omega)⟩
  · split at e
    · cases e;exact ⟨by show 0 < R.x;omega,h1,UB.1,UB.2⟩
    · cases e;exact ⟨by show 0 < R.a;omega,h3,GB.1,GB.2⟩
  · split at e
    · cases e
    · cases e;exact ⟨by show 0 < R.a;omega,h3,GB.1,GB.2⟩
theorem RN.Qd {R:RN}(K:R.Ok){g W:Int}{h:Hd}(G:Gd g)(L:Le W 1000000):Bd (R.mvd g W h):=by
  obtain ⟨g0,g1⟩:=G
  have UB:=K.u.toFrB.bd (by decide) (by decide)
  have Lg:Le g 60:=.of (by omega) g1
  have e1:=L.mul UB.2
  have e2:=Lg.mul UB.1
  unfold RN.mvd
  split
  · split
    · exact (e1.add e2).mono (by decide)
    · split
      · exact (e1.sub e2).mono (by decide)
      · exact e1.mono (by decide)
  · exact (e1.add e2).mono (by decide)
def eQ:FSp:=fun ds μ Q=>match ds with
  | [d,.int g,wd,sd,e]=>∃ (R:RN) (W S:Int) (h:Hd),((d=R.toD∧e=h.toD)∧R.Ok∧h.Ok∧Gd g∧(Vl wd W g∧Le W 1000000)∧Vl sd S g∧(0≤S∧S≤g))∧∀ w z,Vl w (R.beh g W S h).1 g→Vl z (R.beh g W S h).2 g→Q (.tup [w,z]) μ
  | _=>False
theorem tL:∀ ds μ Q,eQ ds μ Q→ds.length=5:=by
  unfold eQ
  walk_at "ln"
def qJ:STr:=aD (c7 (TB (av fE (af (ah 0) (af (ah 4) (ar))))) (aY (aX (af (ah 2) (af (ah 3) (ar))))) (bH)) (aD (aN (av b6 (af (ah 0) (af (ah 1) (af (ah 3) (af (ah 4) (ar)))))) (aw 5)) (aD (aN (av dD (af (ah 0) (af (ah 5) (af (ah 4) (ar))))) (aw 6)) (aD (c7 (TB (ak rIs (ah 6) (TC .non))) (aY (aX (af (av iS (af (ah 0) (af (ah 1) (af (av ir (af (ah 0) (af (ah 2) (af (ah 4) (ar))))) (ar))))) (af (ah 5) (ar))))) (bH)) (aY (aX (af (av iS (af (ah 0) (af (ah 1) (af (av fS (af (ah 2) (af (ah 6) (ar)))) (ar))))) (af (ah 5) (ar))))))))
theorem yB:∀ ds μ Q,eQ ds μ Q→qJ { nx:=fun _ μ'=>RT Q .non μ',rt:=RT Q } (ini 7 ds) μ:=by
  intro ds μ Q h
  unfold eQ at h
  split at h
  case h_2=>exact h.elim
  rename_i d g wd sd e
  unfold qJ
  walk_at "rd"
  obtain ⟨R,W,S,h,⟨⟨rfl,rfl⟩,K,H,G,⟨VW,LW⟩,VS,S0,S1⟩,k⟩:=h
  have g0:=G.1
  have g1:=G.2
  have Lg:Le g 60:=.of (by omega) g1
  refine ⟨R,h,⟨rfl,rfl⟩,?_⟩
  walk_at "rd"
  unfold RN.beh at k
  split
  · rename_i hi
    rw[if_pos hi] at k
    exact ⟨_,.refl _,k _ _ VW VS⟩
  · rename_i hi
    rw[if_neg hi] at k
    refine ⟨R,S,h,⟨⟨rfl,rfl⟩,K,H,G,VS,⟨S0,S1⟩,hi⟩,fun z VZ=>?_⟩
    walk_at "rd"
    have sin:=Hj K H hi (by omega) S0 S1
    unfold RN.mv at k
    refine ⟨R,g,_,h,⟨⟨rfl,rfl⟩,K,H,G,VZ,sin,hi⟩,fun hf=>?_,fun f hf v VF=>?_⟩
    · rw[hf] at k
      walk_at "rd"
      have y0:=K.u.q0
      refine ⟨R,g,W,h,⟨⟨rfl,rfl⟩,K,G,VW,LW,hi⟩,fun w Vw=>?_⟩
      refine ⟨R,_,_,⟨rfl,K,G,Vw,RN.Qd K G LW,?_⟩,fun w2 Vw2=>?_⟩
      · exact (Lg.mul (K.u.toFrB.bd (by decide) (by decide)).2).mono (by decide)
      · walk_at "rd"
        refine ⟨_,.refl _,k _ _ ?_ VZ⟩
        rw[show R.mvd g W h*g / (g*R.y)=R.mvd g W h / R.y by rw[Int.mul_comm g R.y];exact Int.mul_ediv_mul_of_pos_left _ _ (by omega)] at Vw2
        exact Vw2
    · rw[hf] at k
      obtain ⟨f1,f2,F1,F2⟩:=RN.Pp K G sin.1 sin.2 hf
      obtain ⟨⟨p,q,rfl,P⟩,b0⟩:=id VF
      walk_at "rd"
      refine ⟨W,g,f.1,f.2,⟨⟨VW,VF⟩,LW.mono (by decide),Lg.mono (by decide),F1.mono (by decide),F2.mono (by decide)⟩,fun w Vw=>?_⟩
      refine ⟨R,_,_,⟨rfl,K,G,Vw,(LW.mul F1).mono (by decide),(Lg.mul F2).mono (by decide)⟩,fun w2 Vw2=>?_⟩
      walk_at "rd"
      refine ⟨_,.refl _,k _ _ ?_ VZ⟩
      rw[show W*f.1*g / (g*f.2)=W*f.1 / f.2 by rw[Int.mul_comm g f.2];exact Int.mul_ediv_mul_of_pos_left _ _ (by omega)] at Vw2
      exact Vw2
def Ru:=Jn @N4 <| Jn @KI <| Jn @M8 <| Jn @Jl <| Jn @PF <| Jn @K6 <| Jn @N1 <| Jn @Ki <| Jn @Qe <| Jn @JX <| Jn @OH <| Jn @LZ <| Jn @Ph <| Jn @LQ <| Jn @NV <| Jn @J8 <| Jn @PM <| Jn @JF <| Jn @Og <| Jn @Kd <| Jn @K3 <| Jn @Fw <| Jn @LU <| Jn @Ii <| Jn @LJ <| Jn @Gm <| Jn @Hs <| Jn @KR <| Jn @FA <| Jn @Jp <| Jn @Fy <| Jn @TJ <| Jn @PD <| Jn @Qw <| Jn @Lf <| Jn @T7 <| Jn @NL <| Jn @QK <| Jn @PY <| Jn @OG <| Jn @N2 <| Jn @KN <| Jn @OT <| Jn @Pe <| Jn @PH <| Jn @J4 <| Jn @KC <| Jn @NJ <| Jn @Jh <| Jn @Ow <| Jn @OB <| Jn @Ox <| Jn @Oq <| Jn @NZ <| Jn @Dk <| Jn @ND <| Jn @Pr <| Jn @Ri <| Jn @Q4 <| Jn @PV <| Jn @M4 <| Jn @OQ <| Jn @Ro <| Jn @QA <| Jn @QO <| Jn @QU <| Jn @Sf <| Jn @Rp <| Jn @Q5 <| Jn @Rk <| Jn @NI <| Jn @NK <| Jn @Nq <| Jn @Nb <| Jn @Qf <| Jn @Jj <| Jn @L4 <| Jn @L8 <| Jn @Hq <| Jn @sH <| Jn @Hk <| Jn @Mh <| Jn @EX <| Jn @Dm <| Jn @A2 <| Jn @CY <| Jn @DC <| Jn @Fv <| Jn @Ey <| Jn @Ex <| Jn @IK <| Jn @Iy <| Jn @Ku <| Jn @Km <| Jn @Kg <| Jn @Jc <| Jn @Fl <| Jn @Ee <| Jn @E1 <| Jn @FU <| Jn @Iu <| Jn @Li <| Jn @Je <| Jn @KZ <| Jn @Ji <| Jn @K8 <| Jn @Ny <| Jn @PU <| Jn @O3 <| Jn @Pb <| Jn @P0 <| Jn @Fe <| Jn @F5 <| Jn @Hl <| Jn @HN <| Jn @Ep <| Jn @O1 <| @NS
def CI:=Jn @l3 <| Jn @o9 <| Jn @mG <| Jn @qz <| @oW
local macro_rules | `(tactic| walk_at "go")=>`(tactic| try simp only[↓Ru,CI,↓j2,↓iZ,cE,bW,cF,cz,cB,cy,cO,cT,bV,cw,cx,cC,cG,cW,cD,cU,cA,cN,cu,cX,iR,D1,Aq,D3,CD,j9,gI,sX,nz,sY,sI,mH,mJ,j5,jV,j4,jZ,true_and,and_true,and_self,Bool.not_true,Bool.not_false,decide_true,decide_false,Bool.or_true,Bool.or_false,Bool.true_or,Bool.false_or,Bool.and_false,Bool.false_and,Bool.and_true,Bool.true_and,Int.reduceToNat,Int.reducePow,Int.reduceNeg,Int.reduceSub,Int.reduceAdd,Int.reduceMul,Int.reduceEq,Int.reduceLT,Int.reduceLE,Int.reduceBEq,iH,gs,gr,gu,gj,gq,gn,gi,if_true,if_false,Bool.false_eq_true,reduceCtorEq,decide_eq_true_eq])
local macro_rules | `(tactic| walk_at "ini")=>`(tactic| simp only[ini,List.map,List.length,List.replicate,Nat.reduceSub,Nat.reduceAdd,Nat.sub_self,List.cons_append,List.nil_append,List.append_nil])
theorem dq {xs:List D}{P:D→Prop}(h:∀ d∈xs,P d){k:Int}(k0:0≤k)(k1:k < xs.length):∃ d,atD xs k=some d∧P d:=by
  obtain ⟨j,rfl⟩:=Int.eq_ofNat_of_zero_le k0
  rw[cY]
  have hj:j < xs.length:=by omega
  exact ⟨xs[j],by simp[hj],h _ (List.getElem_mem hj)⟩
def IsL (hi:Int)(d:D):Prop:=∃ p q,d=fr p q∧FrL hi p q
def IsI (lo hi:Int)(d:D):Prop:=∃ i:Int,d=.int i∧lo≤i∧i≤hi
theorem fI {P:D→Prop}:∀ d∈([]:List D),P d:=fun _ h=>nomatch h
theorem bh {P:D→Prop}{a:D}{xs:List D}(h:P a)(k:∀ d∈xs,P d):∀ d∈a::xs,P d:=fun d hd=>by
  rcases List.mem_cons.mp hd with e | e
  · rw[e];exact h
  · exact k d e
local macro_rules | `(tactic| walk_at "all")=>`(tactic| repeat' (first | exact fI | refine bh ?_ ?_))
structure oF (b p:Addr) (xs:List D) (μ μ':Mu):Prop where
  box:Box μ' b
  ne:p≠b
  new:μ p=none
  at':μ' p=some (.lst xs)
  oth:∀ a,a≠b→a≠p→μ' a=μ a
theorem oF.mk' {b p:Addr}{xs:List D}{μ:Mu}(hB:Box μ b)(hp:μ p=none):oF b p xs μ (up μ p (.lst xs)):=by
  have ne:p≠b:=fun z=>by subst z;obtain ⟨_,_,_,e,_⟩:=hB;rw[hp] at e;cases e
  obtain ⟨g,s,c,e,h⟩:=hB
  exact ⟨⟨g,s,c,by rw[aK ne.symm];exact e,h⟩,ne,hp,aB,fun a _ h=>aK h⟩
theorem oF.go {b p:Addr}{xs:List D}{μ μ1 μ2:Mu}(h:oF b p xs μ μ1)(B:p8 b μ1 μ2):oF b p xs μ μ2:=
  ⟨B.box,h.ne,h.new,by rw[B.oth p h.ne];exact h.at',fun a h1 h2=>by rw[B.oth a h1];exact h.oth a h1 h2⟩
theorem oF.set {b p:Addr}{xs ys:List D}{μ μ1:Mu}(h:oF b p xs μ μ1):oF b p ys μ (up μ1 p (.lst ys)):=by
  obtain ⟨g,s,c,e,hh⟩:=h.box
  exact ⟨⟨g,s,c,by rw[aK h.ne.symm];exact e,hh⟩,h.ne,h.new,aB,fun a h1 h2=>by rw[aK h2];exact h.oth a h1 h2⟩
theorem OE (μ:Mu)(p:Addr):Sub (dn μ p) μ:=fun a o e=>by
  unfold dn at e
  split at e
  · cases e
  · exact e
theorem oF.fin {b p:Addr}{xs:List D}{μ μ1:Mu}(h:oF b p xs μ μ1):p8 b μ (dn μ1 p):=by
  obtain ⟨g,s,c,e,hh⟩:=h.box
  refine ⟨⟨g,s,c,?_,hh⟩,fun a ha=>?_⟩
  · unfold dn;rw[if_neg h.ne.symm];exact e
  · unfold dn
    split
    · rename_i z;subst z;exact h.new.symm
    · rename_i z;exact h.oth a ha z
theorem oF.rt {b p:Addr}{xs:List D}{μ μ1:Mu}{Q:DK}{d:D}(h:oF b p xs μ μ1)(k:∀ μ',p8 b μ μ'→Q d μ'):RT Q d μ1:=⟨_,OE μ1 p,k _ h.fin⟩
def RN.ap1 (R:RN)(g S far:Int)(h:Hd):Int×Int:=if R.idle h then (S,far) else
  (R.shr g S h,min (match R.fac g (R.shr g S h) h with
    | some f=>-((-(far*f.1)) / f.2)
    | none=>far) (R.cap g - g))
def RN.ap (R:RN)(g:Int):List Hd→Int→Int→Int
  | [],_,far=>far
  | h::r,S,far=>RN.ap R g r (R.ap1 g S far h).1 (R.ap1 g S far h).2
theorem jX {p:Addr}{G:GTr}{tt:TTr}{te:ETr}{ρc:ST}{K:Mu→Prop}(P:List D→Mu→Prop)(hnil:∀ μ,P [] μ→K μ)
    (hcons:∀ d r μ (N:Mu→Prop),P (d::r) μ→(∀ μ',P r μ'→N μ')→G d ρc μ fun ρ1 μ1=>tt ρ1 μ1 fun b μ2=>kIf b (te ρ1 μ2 fun y μ3=>kL μ3 p fun zs=>zs.length < 1000000∧N (up μ3 p (.lst (zs++[y])))) (N μ2)) :
    ∀ (ds:List D) (μ:Mu),P ds μ→f9 p G tt te ρc K ds μ
  | [],μ,h=>hnil μ h
  | d::r,μ,h=>hcons d r μ _ h fun μ' q=>jX P hnil hcons r μ' q
theorem xq (d0:D)(r:List D)(f:D→Prop):kO (atD (d0::r) 0) f=f d0:=by rw[yi];rfl
theorem xi (d0 d1:D)(r:List D)(f:D→Prop):kO (atD (d0::d1::r) 1) f=f d1:=by rw[wJ];rfl
theorem vW (d0 d1 d2:D)(r:List D)(f:D→Prop):kO (atD (d0::d1::d2::r) 2) f=f d2:=by rw[Ck];rfl
theorem wu (d0 d1 d2 d3:D)(r:List D)(f:D→Prop):kO (atD (d0::d1::d2::d3::r) 3) f=f d3:=by rw[Cn];rfl
theorem xo (d0 d1 d2 d3 d4:D)(r:List D)(f:D→Prop):kO (atD (d0::d1::d2::d3::d4::r) 4) f=f d4:=by rw[Cd];rfl
theorem vR (d0 d1 d2 d3 d4 d5:D)(r:List D)(f:D→Prop):kO (atD (d0::d1::d2::d3::d4::d5::r) 5) f=f d5:=by rw[A9];rfl
def qP (G:GTr)(tt:TTr)(te:ETr)(ρc:ST)(ds:List D)(μ:Mu)(Q:DK):Prop:=∀ p,μ p=none→f9 p G tt te ρc (fun μ'=>kL μ' p fun zs=>Q (.ls zs) (dn μ' p)) ds (up μ p (.lst []))
theorem IX (it:ATr)(G:GTr)(tt:TTr)(te:ETr)(n:Nat)(caps:List Nat)(ρ:ST)(μ:Mu)(Q:DK):bL it G tt te n caps ρ μ Q=it ρ μ fun ds μ1=>qP G tt te (fK ρ n caps) ds μ1 Q:=propext Iff.rfl
section
variable {G:GTr} {tt:TTr} {te:ETr} {ρc:ST} {ds:List D} {μ:Mu} {Q:DK}
theorem uz (f:D→Option D)(hl:ds.length≤999999)
    (step:∀ d∈ds,∀ μ',Sub μ μ'→∀ (N:Option D→Mu→Prop),N (f d) μ'→G d ρc μ' fun ρ1 μ1=>tt ρ1 μ1 fun b μ2=>kIf b (te ρ1 μ2 fun y μ3=>N (some y) μ3) (N none μ2))
    (k:Q (.ls (ds.filterMap f)) μ):qP G tt te ρc ds μ Q:=by
  intro p hp
  refine jX (fun r μ'=>∃ done,ds=done++r∧μ'=up μ p (.lst (done.filterMap f))) ?_ ?_ _ _ ⟨[],rfl,rfl⟩
  · rintro μ' ⟨done,e,rfl⟩
    rw[List.append_nil] at e
    subst e
    refine a9 aB ?_
    rw[pK hp];exact k
  · rintro d r μ' N ⟨done,e,rfl⟩ hN
    have hd:d∈ds:=by rw[e];simp
    have e':ds=(done++[d])++r:=by rw[e];simp
    have lf:(done.filterMap f).length < 1000000:=by
      have h1:=List.length_filterMap_le f done
      have h2:ds.length=done.length+(d::r).length:=by rw[e,List.length_append]
      rw[List.length_cons] at h2;omega
    refine step d hd _ (Sub.new hp) (fun oy μ3=>match oy with
      | some y=>kL μ3 p fun zs=>zs.length < 1000000∧N (up μ3 p (.lst (zs++[y])))
      | none=>N μ3) ?_
    cases hf:f d with
    | none=>
      refine hN _ ⟨done++[d],e',?_⟩
      rw[List.filterMap_append];simp[hf]
    | some y=>
      refine a9 aB ⟨lf,hN _ ⟨done++[d],e',?_⟩⟩
      rw[List.filterMap_append,iH];simp[hf]
theorem comp_map (f:D→D)(hl:ds.length≤999999)
    (step:∀ d∈ds,∀ μ',Sub μ μ'→∀ (N:DK),N (f d) μ'→G d ρc μ' fun ρ1 μ1=>te ρ1 μ1 N)
    (k:Q (.ls (ds.map f)) μ):qP G dM te ρc ds μ Q:=by
  refine uz (fun d=>some (f d)) hl (fun d hd μ' s N n=>?_) (by rw[show (fun d=>some (f d))=some ∘ f from rfl,List.filterMap_eq_map];exact k)
  exact step d hd μ' s (fun y μ3=>N (some y) μ3) n
theorem FF (I:List D→List D→Prop)(h0:I ds [])(hl:ds.length≤999999)
    (step:∀ d r zs μ',Sub μ μ'→I (d::r) zs→∀ (N:Option D→Mu→Prop),(∀ oy,I r (zs++oy.toList)→N oy μ')→G d ρc μ' fun ρ1 μ1=>tt ρ1 μ1 fun b μ2=>kIf b (te ρ1 μ2 fun y μ3=>N (some y) μ3) (N none μ2))
    (k:∀ zs,I [] zs→Q (.ls zs) μ):qP G tt te ρc ds μ Q:=by
  intro p hp
  refine jX (fun r μ'=>∃ zs,I r zs∧zs.length+r.length≤ds.length∧μ'=up μ p (.lst zs)) ?_ ?_ _ _ ⟨[],h0,by simp,rfl⟩
  · rintro μ' ⟨zs,hI,_,rfl⟩
    refine a9 aB ?_
    rw[pK hp];exact k zs hI
  · rintro d r μ' N ⟨zs,hI,hz,rfl⟩ hN
    rw[List.length_cons] at hz
    refine step d r zs _ (Sub.new hp) hI (fun oy μ3=>match oy with
      | some y=>kL μ3 p fun zs=>zs.length < 1000000∧N (up μ3 p (.lst (zs++[y])))
      | none=>N μ3) ?_
    intro oy hoy
    cases oy with
    | none=>exact hN _ ⟨zs,by simpa using hoy,by omega,rfl⟩
    | some y=>
      refine a9 aB ⟨by omega,hN _ ⟨zs++[y],hoy,by rw[List.length_append];simp;omega,?_⟩⟩
      rw[iH]
theorem lP {α:Type}(xs:List α)(t:α→D)(h:α→Option D)(hds:ds=xs.map t)(hl:xs.length≤999999)
    (step:∀ x∈xs,∀ μ',Sub μ μ'→∀ (N:Option D→Mu→Prop),N (h x) μ'→G (t x) ρc μ' fun ρ1 μ1=>tt ρ1 μ1 fun b μ2=>kIf b (te ρ1 μ2 fun y μ3=>N (some y) μ3) (N none μ2))
    (k:Q (.ls (xs.filterMap h)) μ):qP G tt te ρc ds μ Q:=by
  subst hds
  refine FF (fun r zs=>∃ a c,xs=a++c∧r=c.map t∧zs=a.filterMap h) ⟨[],xs,rfl,rfl,rfl⟩ (by simpa using hl) ?_ ?_
  · rintro d r zs μ' sb ⟨a,c,e,er,rfl⟩ N hN
    cases c with
    | nil=>cases er
    | cons x c=>
    cases er
    refine step x (by rw[e];simp) μ' sb N (hN _ ⟨a++[x],c,by rw[e];simp,rfl,?_⟩)
    rw[List.filterMap_append]
    cases hx:h x<;>simp[hx]
  · rintro zs ⟨a,c,e,er,rfl⟩
    have:c=[]:=by cases c with | nil=>rfl | cons=>cases er
    subst this
    rw[List.append_nil] at e
    subst e;exact k
theorem bf {α:Type}(xs:List α)(t:α→D)(h:α→D)(hds:ds=xs.map t)(hl:xs.length≤999999)
    (step:∀ x∈xs,∀ μ',Sub μ μ'→∀ (N:DK),N (h x) μ'→G (t x) ρc μ' fun ρ1 μ1=>te ρ1 μ1 N)
    (k:Q (.ls (xs.map h)) μ):qP G dM te ρc ds μ Q:=by
  refine lP xs t (fun x=>some (h x)) hds hl (fun x hx μ' s N n=>?_) (by rw[show (fun x=>some (h x))=some ∘ h from rfl,List.filterMap_eq_map];exact k)
  exact step x hx μ' s (fun y μ3=>N (some y) μ3) n
def Ct (a:Addr)(full:List D)(G:GTr)(tt:TTr)(te:ETr)(ρc:ST)(ds:List D)(μ:Mu)(Q:DK):Prop:=∀ p,μ p=none→kF (fun μ=>μ a=some (.lst full)) p G tt te ρc (fun μ'=>kL μ' p fun zs=>Q (.ls zs) (dn μ' p)) ds (up μ p (.lst []))
theorem EF (To:ETr)(G:GTr)(tt:TTr)(te:ETr)(n:Nat)(caps:List Nat)(ρ:ST)(μ:Mu)(Q:DK):jq To G tt te n caps ρ μ Q=To ρ μ fun x μ1=>kObj x fun a=>kL μ1 a fun ds=>Ct a ds G tt te (fK ρ n caps) ds μ1 Q:=propext Iff.rfl
theorem kq {C:Mu→Prop}{p:Addr}{ρc:ST}{K:Mu→Prop}(P:List D→Mu→Prop)(hC:∀ r μ,P r μ→C μ)(hnil:∀ μ,P [] μ→K μ)
    (hcons:∀ d r μ (N:Mu→Prop),P (d::r) μ→(∀ μ',P r μ'→N μ')→G d ρc μ fun ρ1 μ1=>tt ρ1 μ1 fun b μ2=>kIf b (te ρ1 μ2 fun y μ3=>kL μ3 p fun zs=>zs.length < 1000000∧N (up μ3 p (.lst (zs++[y])))) (N μ2)) :
    ∀ (ds:List D) (μ:Mu),P ds μ→kF C p G tt te ρc K ds μ
  | [],μ,h=>⟨hC _ _ h,hnil μ h⟩
  | d::r,μ,h=>⟨hC _ _ h,hcons d r μ _ h fun μ' q=>kq P hC hnil hcons r μ' q⟩
theorem Ih {a:Addr}{full:List D}(hm:μ a=some (.lst full))(f:D→Option D)(hl:ds.length≤999999)
    (step:∀ d∈ds,∀ μ',Sub μ μ'→∀ (N:Option D→Mu→Prop),N (f d) μ'→G d ρc μ' fun ρ1 μ1=>tt ρ1 μ1 fun b μ2=>kIf b (te ρ1 μ2 fun y μ3=>N (some y) μ3) (N none μ2))
    (k:Q (.ls (ds.filterMap f)) μ):Ct a full G tt te ρc ds μ Q:=by
  intro p hp
  refine kq (fun r μ'=>∃ done,ds=done++r∧μ'=up μ p (.lst (done.filterMap f))) ?_ ?_ ?_ _ _ ⟨[],rfl,rfl⟩
  · rintro r μ' ⟨done,_,rfl⟩
    exact Sub.new hp _ _ hm
  · rintro μ' ⟨done,e,rfl⟩
    rw[List.append_nil] at e
    subst e
    refine a9 aB ?_
    rw[pK hp];exact k
  · rintro d r μ' N ⟨done,e,rfl⟩ hN
    have hd:d∈ds:=by rw[e];simp
    have e':ds=(done++[d])++r:=by rw[e];simp
    have lf:(done.filterMap f).length < 1000000:=by
      have h1:=List.length_filterMap_le f done
      have h2:ds.length=done.length+(d::r).length:=by rw[e,List.length_append]
      rw[List.length_cons] at h2;omega
    refine step d hd _ (Sub.new hp) (fun oy μ3=>match oy with
      | some y=>kL μ3 p fun zs=>zs.length < 1000000∧N (up μ3 p (.lst (zs++[y])))
      | none=>N μ3) ?_
    cases hf:f d with
    | none=>
      refine hN _ ⟨done++[d],e',?_⟩
      rw[List.filterMap_append];simp[hf]
    | some y=>
      refine a9 aB ⟨lf,hN _ ⟨done++[d],e',?_⟩⟩
      rw[List.filterMap_append,iH];simp[hf]
theorem mh {α:Type}{a:Addr}(xs:List α)(t:α→D)(h:α→Option D)(hds:ds=xs.map t)(hm:μ a=some (.lst (xs.map t)))(hl:xs.length≤999999)
    (step:∀ x∈xs,∀ μ',Sub μ μ'→∀ (N:Option D→Mu→Prop),N (h x) μ'→G (t x) ρc μ' fun ρ1 μ1=>tt ρ1 μ1 fun b μ2=>kIf b (te ρ1 μ2 fun y μ3=>N (some y) μ3) (N none μ2))
    (k:Q (.ls (xs.filterMap h)) μ):Ct a (xs.map t) G tt te ρc ds μ Q:=by
  subst hds
  intro p hp
  refine kq (fun r μ'=>∃ b c,xs=b++c∧r=c.map t∧μ'=up μ p (.lst (b.filterMap h))) ?_ ?_ ?_ _ _ ⟨[],xs,rfl,rfl,rfl⟩
  · rintro r μ' ⟨b,c,_,_,rfl⟩
    exact Sub.new hp _ _ hm
  · rintro μ' ⟨b,c,e,er,rfl⟩
    have:c=[]:=by cases c with | nil=>rfl | cons=>cases er
    subst this
    rw[List.append_nil] at e
    subst e
    refine a9 aB ?_
    rw[pK hp];exact k
  · rintro d r μ' N ⟨b,c,e,er,rfl⟩ hN
    cases c with
    | nil=>cases er
    | cons x c=>
    cases er
    have e':xs=(b++[x])++c:=by rw[e];simp
    have lf:(b.filterMap h).length < 1000000:=by
      have h1:=List.length_filterMap_le h b
      have h2:xs.length=b.length+(x::c).length:=by rw[e,List.length_append]
      rw[List.length_cons] at h2;omega
    refine step x (by rw[e];simp) _ (Sub.new hp) (fun oy μ3=>match oy with
      | some y=>kL μ3 p fun zs=>zs.length < 1000000∧N (up μ3 p (.lst (zs++[y])))
      | none=>N μ3) ?_
    cases hf:h x with
    | none=>
      refine hN _ ⟨b++[x],c,e',rfl,?_⟩
      rw[List.filterMap_append];simp[hf]
    | some y=>
      refine a9 aB ⟨lf,hN _ ⟨b++[x],c,e',rfl,?_⟩⟩
      rw[List.filterMap_append,iH];simp[hf]
theorem CQ {a:Addr}{full:List D}(hm:μ a=some (.lst full))(f:D→D)(hl:ds.length≤999999)
    (step:∀ d∈ds,∀ μ',Sub μ μ'→∀ (N:DK),N (f d) μ'→G d ρc μ' fun ρ1 μ1=>te ρ1 μ1 N)
    (k:Q (.ls (ds.map f)) μ):Ct a full G dM te ρc ds μ Q:=by
  refine Ih hm (fun d=>some (f d)) hl (fun d hd μ' s N n=>?_) (by rw[show (fun d=>some (f d))=some ∘ f from rfl,List.filterMap_eq_map];exact k)
  exact step d hd μ' s (fun y μ3=>N (some y) μ3) n
end
def Rm:=Jn @IX <| Jn @EF <| Jn @LR <| Jn @N5 <| Jn @Ks <| Jn @NN <| Jn @IV <| Jn @Na <| Jn @F0 <| Jn @Oo <| Jn @JN <| Jn @M7 <| Jn @O8 <| Jn @OW <| Jn @Oy <| Jn @Qp <| Jn @LY <| Jn @Jg <| Jn @Nn <| @Ru
local macro_rules | `(tactic| walk_at "go")=>`(tactic| try simp only[↓Rm,CI,↓xq,↓xi,↓vW,↓wu,↓xo,↓vR,↓j2,↓iZ,cE,bW,cF,cz,cB,cy,cO,cT,bV,cw,cx,cC,cG,cW,cD,cU,cA,cN,cu,cX,iR,fK,List.map_cons,List.map_nil,List.replicate,List.cons_append,List.nil_append,lk,D1,Aq,D3,CD,j9,gI,sX,nz,sY,sI,mH,mJ,j5,jV,j4,jZ,true_and,and_true,and_self,Bool.not_true,Bool.not_false,decide_true,decide_false,Bool.or_true,Bool.or_false,Bool.true_or,Bool.false_or,Bool.and_false,Bool.false_and,Bool.and_true,Bool.true_and,Int.reduceToNat,Int.reducePow,Int.reduceNeg,Int.reduceSub,Int.reduceAdd,Int.reduceMul,Int.reduceEq,Int.reduceLT,Int.reduceLE,Int.reduceBEq,iH,gs,gr,gu,gj,gq,gn,gi,if_true,if_false,Bool.false_eq_true,reduceCtorEq,decide_eq_true_eq])
abbrev ks (s:String):L2.Key:=.inr (Str.ofString s)
def jk (cs:List Int)(a l g m s:Int):List (L2.Key×D):=[(ks "cells", .ls (cs.map .int)),(ks "at", .int a),(ks "left", .int l),(ks "given", .int g),(ks "many", .int m),(ks "seed", .int s)]
section
variable (cs:List Int) (a l g m s x:Int)
theorem D9:bo (jk cs a l g m s) (.inr (Str.ofString "cells"))=some (.ls (cs.map .int)):=rfl
theorem PJ:bo (jk cs a l g m s) (.inr (Str.ofString "at"))=some (.int a):=rfl
theorem Eu:bo (jk cs a l g m s) (.inr (Str.ofString "left"))=some (.int l):=rfl
theorem Dw:bo (jk cs a l g m s) (.inr (Str.ofString "given"))=some (.int g):=rfl
theorem HQ:bo (jk cs a l g m s) (.inr (Str.ofString "many"))=some (.int m):=rfl
theorem Fj:bo (jk cs a l g m s) (.inr (Str.ofString "seed"))=some (.int s):=rfl
theorem Ot:putD (jk cs a l g m s) (.inr (Str.ofString "at")) (.int x)=jk cs x l g m s:=rfl
theorem Gz:putD (jk cs a l g m s) (.inr (Str.ofString "left")) (.int x)=jk cs a x g m s:=rfl
theorem Cy:putD (jk cs a l g m s) (.inr (Str.ofString "given")) (.int x)=jk cs a l x m s:=rfl
theorem EJ:putD (jk cs a l g m s) (.inr (Str.ofString "many")) (.int x)=jk cs a l g x s:=rfl
theorem Hg:putD (jk cs a l g m s) (.inr (Str.ofString "seed")) (.int x)=jk cs a l g m x:=rfl
theorem Jx:(jk cs a l g m s).length < 1000000:=by show 6 < 1000000;decide
end
local macro_rules | `(tactic| walk_at "pot")=>`(tactic| try simp only[D9,PJ,Eu,Dw,HQ,Fj,Ot,Gz,Cy,EJ,Hg,Jx,true_and,oS])
local macro_rules | `(tactic| walk_at "gp")=>`(tactic| (walk_at "go";walk_at "pot";walk_at "go";walk_at "pot";walk_at "go";walk_at "pot";walk_at "go";walk_at "pot";walk_at "go"))
def Pot (μ:Mu)(b:Addr):Prop:=∃ (cs:List Int) (a l g m s:Int),μ b=some (.dct (jk cs a l g m s))∧0≤a
structure nM (b:Addr) (μ μ':Mu):Prop where
  pot:Pot μ' b
  oth:∀ a,a≠b→μ' a=μ a
theorem nM.trans {b:Addr}{μ μ1 μ2:Mu}(x:nM b μ μ1)(y:nM b μ1 μ2):nM b μ μ2:=⟨y.pot,fun a h=>(y.oth a h).trans (x.oth a h)⟩
theorem nM.ne {b p:Addr}{μ μ1:Mu}(x:nM b μ μ1)(h:p≠b):μ1 p=μ p:=x.oth p h
theorem Pot.ne {μ:Mu}{b p:Addr}(h:Pot μ b)(hp:μ p=none):p≠b:=fun z=>by subst z;obtain ⟨_,_,_,_,_,_,e,_⟩:=h;rw[hp] at e;cases e
theorem Pot.up {μ:Mu}{b p:Addr}{o:MO}(h:Pot μ b)(hp:p≠b):Pot (up μ p o) b:=by
  obtain ⟨cs,a,l,g,m,s,e,h0⟩:=h
  exact ⟨cs,a,l,g,m,s,by rw[aK (Ne.symm hp)];exact e,h0⟩
def Kp (b:Addr)(μ μ':Mu):Prop:=∀ a o,a≠b→μ a=some o→μ' a=some o
theorem Kp.refl (b:Addr)(μ:Mu):Kp b μ μ:=fun _ _ _ h=>h
theorem Kp.trans {b:Addr}{μ μ1 μ2:Mu}(x:Kp b μ μ1)(y:Kp b μ1 μ2):Kp b μ μ2:=fun a o h e=>y a o h (x a o h e)
theorem nM.kp {b:Addr}{μ μ1:Mu}(x:nM b μ μ1):Kp b μ μ1:=fun a o h e=>by rw[x.oth a h];exact e
theorem Kp.new {b p:Addr}{μ:Mu}{o:MO}(h:μ p=none):Kp b μ (up μ p o):=fun a u _ e=>by rw[aK (fun z=>by subst z;rw[h] at e;cases e)];exact e
theorem Kp.put {b p:Addr}{μ μ1:Mu}{o:MO}(x:Kp b μ μ1)(h:μ p=none):Kp b μ (up μ1 p o):=fun a u n e=>by rw[aK (fun z=>by subst z;rw[h] at e;cases e)];exact x a u n e
theorem Kp.dn {b p:Addr}{μ μ1:Mu}(x:Kp b μ μ1)(h:μ p=none):Kp b μ (dn μ1 p):=fun a u n e=>by unfold L3.dn;rw[if_neg (fun z=>by subst z;rw[h] at e;cases e)];exact x a u n e
section
variable {G:GTr} {tt:TTr} {te:ETr} {ρc:ST} {ds:List D} {μ:Mu} {Q:DK} {b:Addr}
end
theorem eN (k j:L2.Key)(d:D)(r:List (L2.Key×D)):bo ((k,d)::r) j=if k=j then some d else bo r j:=by
  unfold bo
  rw[List.find?_cons]
  by_cases h:k=j<;>simp[h]
theorem CW (kvs:List (L2.Key×D))(k j:L2.Key)(d:D):bo (putD kvs k d) j=if j=k then some d else bo kvs j:=by
  unfold putD
  split
  · rename_i ha
    induction kvs with
    | nil=>simp at ha
    | cons p r ih=>
      obtain ⟨k',d'⟩:=p
      rw[List.map_cons]
      by_cases h1:k'=k
      · subst h1
        simp only[if_true]
        rw[eN,eN]
        by_cases h2:k'=j
        · simp[h2]
        · rw[if_neg h2,if_neg h2,if_neg (Ne.symm h2)]
          by_cases h3:(r.any fun kv=>decide (kv.1=k'))=true
          · rw[ih h3,if_neg (Ne.symm h2)]
          · have:r.map (fun kv=>if kv.1=k' then (kv.1,d) else kv)=r:=by
              refine (List.map_congr_left fun kv hkv=>?_).trans (List.map_id r)
              rw[if_neg (fun z=>h3 (List.any_eq_true.mpr ⟨kv,hkv,by simp[z]⟩))];rfl
            rw[this]
      · rw[if_neg h1,eN,eN]
        rw[List.any_cons,decide_eq_false h1,Bool.false_or] at ha
        by_cases h2:k'=j
        · rw[if_pos h2,if_pos h2,if_neg (fun z=>h1 (h2.trans z))]
        · rw[if_neg h2,if_neg h2,ih ha]
  · rename_i ha
    induction kvs with
    | nil=>rw[List.nil_append,eN];by_cases h:k=j<;>simp[h,Ne.symm,bo,eq_comm]
    | cons p r ih=>
      obtain ⟨k',d'⟩:=p
      rw[List.any_cons,Bool.or_eq_true,not_or] at ha
      have h1:¬ k'=k:=by simpa using ha.1
      rw[List.cons_append,eN,eN]
      by_cases h2:k'=j
      · rw[if_pos h2,if_pos h2,if_neg (fun z=>h1 (h2.trans z))]
      · rw[if_neg h2,if_neg h2,ih ha.2]
theorem KY (kvs:List (L2.Key×D))(k:L2.Key)(d:D):(putD kvs k d).length≤kvs.length+1:=by
  unfold putD
  split
  · rw[List.length_map];omega
  · rw[List.length_append];simp
theorem Kr {xs:List D}{c:Int}(c0:0≤c):atD xs c=xs[c.toNat]?:=by
  have:=cY c.toNat xs
  rwa [Int.toNat_of_nonneg c0] at this
structure Lt where
  nm:Str
  nu:Int
  ag:Int
  hp:Int
  mr:Int
def Lt.toD (x:Lt):D:=.tup [.str x.nm,.int x.nu,.int x.ag,.int x.hp,.int x.mr]
abbrev ltD (ls:List Lt):List D:=ls.map Lt.toD
structure Lt.Ok (x:Lt):Prop where
  a0:0≤x.ag
  a1:x.ag < 30
  h0:0≤x.hp
  h1:x.hp < 6
  m0:0≤x.mr
  m1:x.mr≤1
structure Wy where
  nm:Str
  pc:Int
  rm:Int
  mr:Option Int
  tn:Bool
def cZ:Option Int→D
  | none=>.non
  | some i=>.int i
def vc (b:Bool):Str:=if b then Str.ofString "turns" else Str.ofString "line"
def Wy.toD (x:Wy):D:=.tup [.str x.nm,.int x.pc,.int x.rm,cZ x.mr,.str (vc x.tn)]
structure Wy.Ok (x:Wy):Prop where
  n:PyData.strOk x.nm=true
  p0:1≤x.pc
  p1:x.pc≤20
  r0:1≤x.rm
  r1:x.rm≤60
  m:∀ i,x.mr=some i→0≤i∧i≤60
mutual
def pl:Nat→D→Bool
  | _,.non=>true
  | _,.int _=>true
  | _,.str x=>PyData.strOk x
  | n+1,.tup ds=>decide (ds.length≤999999)&&pls n ds
  | n+1,.ls ds=>decide (ds.length≤999999)&&pls n ds
  | _,_=>false
def pls:Nat→List D→Bool
  | _,[]=>true
  | n,d::r=>pl n d&&pls n r
end
def jo (n:Nat):FSp:=fun ds μ Q=>match ds with
  | [x,y]=>(x=y∧pl n y=true)∧Q (.bl true) μ
  | _=>False
def j7:Nat→FSp
  | 0=>fun _ _ _=>False
  | n+1=>jo n
theorem AG:∀ n ds μ Q,j7 n ds μ Q→ds.length=2:=by
  intro n ds μ Q h
  cases n with
  | zero=>exact h.elim
  | succ n=>
    have h:jo n ds μ Q:=h
    unfold jo at h
    split at h
    · rfl
    · exact h.elim
theorem Bf {n:Nat}:∀ {ds:List D} {d:D},pls n ds=true→d∈ds→pl n d=true
  | x::r,d,h,hm=>by
    have h':pl n x=true∧pls n r=true:=by simpa[pls] using h
    rcases List.mem_cons.mp hm with rfl | hm
    · exact h'.1
    · exact Bf h'.2 hm
theorem wY:∀ (ds:List D),List.zipWith (fun d e=>D.tup [d,e]) ds ds=ds.map fun d=>.tup [d,d]
  | []=>rfl
  | d::r=>by simp[wY r]
theorem Cq {n:Nat}{ds:List D}{μ:Mu}{Q:DK}(hl:ds.length≤999999)(hp:pls n ds=true)(fin:RT Q (.bl true) μ) :
    qP (fA [0,1]) dM (av (j7 (n+1)) (af (ah 0) (af (ah 1) ar))) [none,none] (List.zipWith (fun d e=>D.tup [d,e]) ds ds) μ fun x μ1=>dz Lq [x] μ1 (RT Q):=by
  rw[wY]
  refine comp_map (fun _=>.bl true) (by simpa using hl) (fun d hd μ' _ N n=>?_) ?_
  · obtain ⟨x,hx,rfl⟩:=List.mem_map.mp hd
    walk_at "go"
    exact ⟨⟨rfl,Bf hp hx⟩,n⟩
  · refine ⟨ds.map fun _=>true,by simp,?_⟩
    have:(ds.map fun _=>true).all id=true:=by simp
    rw[this]
    exact fin
abbrev BK:FSp:=j7 6
theorem uP {x y:D}{μ:Mu}{Q:DK}(e:x=y)(h:pl 5 y=true)(k:Q (.bl true) μ):dz BK [x,y] μ Q:=⟨⟨e,h⟩,k⟩
theorem lU {n:Nat}:∀ {ds:List D},(∀ d∈ds,pl n d=true)→pls n ds=true
  | [],_=>rfl
  | d::r,h=>by simp only[pls,Bool.and_eq_true];exact ⟨h d List.mem_cons_self,lU fun x hx=>h x (List.mem_cons_of_mem _ hx)⟩
def oA (w:Wy)(x:Lt)(n:Nat):Lt:=match w.mr with
  | none=>x
  | some i=>if (n:Int) < i then x else { x with mr:=1 }
def bY (w:Wy)(p:List Lt×List Lt)(y:Lt):List Lt×List Lt:=if w.rm≤(p.1.length:Int) then (p.1,p.2++[y]) else (p.1++[oA w y p.1.length],p.2)
def tk (w:Wy)(xs ys:List Lt):List Lt×List Lt:=ys.foldl (bY w) (xs,[])
theorem N6 (a b c d e:D):cutD [a,b,c,d,e] none (some 4)=[a,b,c,d]:=rfl
def c5:FSp:=fun ds μ Q=>match ds with
  | [wd,ld,.int n]=>∃ (w:Wy) (x:Lt) (m:Nat),(wd=w.toD∧ld=x.toD∧n=m)∧Q (oA w x m).toD μ
  | _=>False
theorem rj:∀ ds μ Q,c5 ds μ Q→ds.length=3:=by
  unfold c5
  walk_at "ln"
def lD:STr:=aD (c7 (TOr (TB (ak rIs (ak L3.rIx (ah 0) (TC (.int 3))) (TC .non))) (TB (ak rLt (ah 2) (ak L3.rIx (ah 0) (TC (.int 3)))))) (aY (ah 1)) (bH)) (aY (ak aT (TSl (ah 1) (ONo) (gh (TC (.int 4)))) (aX (af (TC (.int 1)) (ar)))))
theorem rD:∀ ds μ Q,c5 ds μ Q→lD { nx:=fun _ μ'=>RT Q .non μ',rt:=RT Q } (ini 3 ds) μ:=by
  intro ds μ Q h
  unfold c5 at h
  split at h
  case h_2=>exact h.elim
  rename_i wd ld n
  walk_at "ini"
  unfold lD
  walk_at "go"
  obtain ⟨w,x,m,⟨rfl,rfl,rfl⟩,k⟩:=h
  simp only[Wy.toD]
  walk_at "go"
  unfold oA at k
  cases hm:w.mr with
  | none=>
    rw[hm] at k
    simp only[cZ]
    walk_at "go"
    exact ⟨_,.refl _,k⟩
  | some i=>
    rw[hm] at k
    simp only[cZ]
    walk_at "go"
    refine kif (fun h1=>⟨_,.refl _,?_⟩) fun h1=>?_
    · simp only[if_pos h1] at k;exact k
    · simp only[if_neg h1] at k
      simp only[Lt.toD]
      walk_at "go"
      rw[N6]
      walk_at "go"
      exact ⟨by show 5≤1000000;decide,_,.refl _,k⟩
def eP:FSp:=fun ds μ Q=>match ds with
  | [wd,.tup st,.tup le]=>∃ (w:Wy) (xs ys:List Lt),(wd=w.toD∧st=ltD xs∧le=ltD ys∧xs.length+ys.length≤900000)∧Q (.tup [.tup (ltD (tk w xs ys).1),.tup (ltD (tk w xs ys).2)]) μ
  | _=>False
theorem u7:∀ ds μ Q,eP ds μ Q→ds.length=3:=by
  unfold eP
  walk_at "ln"
def qL:STr:=aD (aN (av jU (af (ah 1) (ar))) (aw 3)) (aD (aN (iW (ar)) (aw 4)) (aD (gK (cQ (ah 2)) (aw 5) (c7 (TB (ak rGe (av eL (af (ah 3) (ar))) (ak L3.rIx (ah 0) (TC (.int 2))))) (dW (iT (ah 4) (ah 5))) (dW (iT (ah 3) (av c5 (af (ah 0) (af (ah 5) (af (av eL (af (ah 3) (ar))) (ar))))))))) (aY (aX (af (av a6 (af (ah 3) (ar))) (af (av a6 (af (ah 4) (ar))) (ar)))))))
theorem vm:∀ ds μ Q,eP ds μ Q→qL { nx:=fun _ μ'=>RT Q .non μ',rt:=RT Q } (ini 6 ds) μ:=by
  intro ds μ Q h
  unfold eP at h
  split at h
  case h_2=>exact h.elim
  rename_i wd st le
  walk_at "ini"
  unfold qL
  walk_at "go"
  obtain ⟨w,xs,ys,⟨rfl,rfl,rfl,hl⟩,k⟩:=h
  intro p hp
  walk_at "go"
  intro q hq
  have qp:q≠p:=fun z=>by subst z;rw[aB] at hq;cases hq
  have hqn:μ q=none:=by rw[aK qp] at hq;exact hq
  refine bK (fun r ρ μ'=>∃ (a b:List Lt) (rs:List Lt) (v5:Option D),r=ltD rs∧ρ=[some w.toD,some (.tup (ltD xs)),some (.tup (ltD ys)),some (.obj p),some (.obj q),v5]∧μ' p=some (.lst (ltD a))∧μ' q=some (.lst (ltD b))∧Sub μ μ'∧rs.foldl (bY w) (a,b)=tk w xs ys∧a.length+b.length+rs.length≤900000) ?_ ?_ _ _ _ ⟨xs,[],ys,_,rfl,rfl,by rw[aK (Ne.symm qp),aB],aB,(Sub.new hp).trans (Sub.new hq),rfl,by simpa using hl⟩
  · rintro ρ μ' ⟨a,b,rs,v5,er,rfl,ep,eq,s,e,_⟩
    have:rs=[]:=by cases rs with | nil=>rfl | cons=>cases er
    subst this
    have e:(a,b)=tk w xs ys:=e
    rw[← e] at k
    walk_at "go"
    refine a9 ep ?_
    walk_at "go"
    refine a9 eq ?_
    exact ⟨_,s,k⟩
  · rintro d r ρ μ' N ⟨a,b,rs,v5,er,rfl,ep,eq,s,e,hz⟩ hN
    cases rs with
    | nil=>cases er
    | cons y rs=>
    cases er
    rw[List.length_cons] at hz
    rw[List.foldl_cons] at e
    unfold bY at e
    simp only[Wy.toD]
    walk_at "go"
    refine a9 ep ?_
    walk_at "go"
    rw[List.length_map]
    refine kif (fun h1=>?_) fun h1=>?_
    · rw[if_pos h1] at e
      walk_at "go"
      refine a9 eq ?_
      walk_at "go"
      refine a9 eq ⟨by simp;omega,hN _ _ ⟨a,b++[y],rs,_,rfl,rfl,by rw[aK (Ne.symm qp)];exact ep,by rw[aB];simp[ltD],fun z o h=>?_,e,by simp;omega⟩⟩
      rw[aK (fun e=>by subst e;rw[hqn] at h;cases h)];exact s z o h
    · rw[if_neg h1] at e
      walk_at "go"
      refine a9 ep ?_
      walk_at "go"
      refine a9 ep ?_
      rw[List.length_map]
      refine ⟨w,y,a.length,⟨rfl,rfl,rfl⟩,?_⟩
      walk_at "go"
      refine a9 ep ⟨by simp;omega,hN _ _ ⟨a++[oA w y a.length],b,rs,_,rfl,rfl,by rw[aB];simp[ltD],by rw[aK qp];exact eq,fun z o h=>?_,e,by simp;omega⟩⟩
      rw[aK (fun e=>by subst e;rw[hp] at h;cases h)];exact s z o h
theorem Ua (w:Wy)(μ:Mu)(Q:DK):L3.rIx w.toD (.int 0) μ Q=Q (.str w.nm) μ:=propext Iff.rfl
theorem SF (w:Wy)(μ:Mu)(Q:DK):L3.rIx w.toD (.int 1) μ Q=Q (.int w.pc) μ:=propext Iff.rfl
theorem SW (w:Wy)(μ:Mu)(Q:DK):L3.rIx w.toD (.int 4) μ Q=Q (.str (vc w.tn)) μ:=propext Iff.rfl
theorem lt_0 (x:Lt)(μ:Mu)(Q:DK):L3.rIx x.toD (.int 0) μ Q=Q (.str x.nm) μ:=propext Iff.rfl
theorem Ue (x:Lt)(μ:Mu)(Q:DK):L3.rIx x.toD (.int 1) μ Q=Q (.int x.nu) μ:=propext Iff.rfl
theorem TZ (x:Lt)(μ:Mu)(Q:DK):L3.rIx x.toD (.int 2) μ Q=Q (.int x.ag) μ:=propext Iff.rfl
theorem SR (x:Lt)(μ:Mu)(Q:DK):L3.rIx x.toD (.int 3) μ Q=Q (.int x.hp) μ:=propext Iff.rfl
theorem Ub (x:Lt)(μ:Mu)(Q:DK):L3.rIx x.toD (.int 4) μ Q=Q (.int x.mr) μ:=propext Iff.rfl
theorem Sm (xs:List D){k:Int}(k0:0≤k):cutD xs none (some k)=xs.take k.toNat:=by
  have:=uY xs k.toNat
  rwa [Int.toNat_of_nonneg k0] at this
theorem Ug (xs:List D){k:Int}(k0:0≤k):cutD xs (some k) none=xs.drop k.toNat:=by
  have:=lZ xs k.toNat
  rwa [Int.toNat_of_nonneg k0] at this
theorem Jv (ls:List Lt)(n:Nat):(ltD ls).take n=ltD (ls.take n):=by simp[ltD,List.map_take]
theorem J7 (ls:List Lt)(n:Nat):(ltD ls).drop n=ltD (ls.drop n):=by simp[ltD,List.map_drop]
theorem oT {w:Wy}{a b:List Lt}{y:Lt}(h:w.rm≤(a.length:Int)):bY w (a,b) y=(a,b++[y]):=by unfold bY;rw[if_pos h]
theorem Cj {w:Wy}{a b:List Lt}{y:Lt}(h:¬ w.rm≤(a.length:Int)):bY w (a,b) y=(a++[oA w y a.length],b):=by unfold bY;rw[if_neg h]
theorem tM:cZ none=.non:=rfl
theorem tW (i:Int):cZ (some i)=.int i:=rfl
theorem yX (w:Wy):∀ (ys:List Lt) (a b:List Lt),(ys.foldl (bY w) (a,b)).1.length+(ys.foldl (bY w) (a,b)).2.length=a.length+b.length+ys.length
  | [],a,b=>by simp
  | y::ys,a,b=>by
    rw[List.foldl_cons]
    by_cases h:w.rm≤(a.length:Int)
    · rw[oT h,yX w ys];simp;omega
    · rw[Cj h,yX w ys];simp;omega
theorem Bz (w:Wy)(y:Lt)(n:Nat):(oA w y n).nm=y.nm:=by
  unfold oA
  split
  · rfl
  · split<;>rfl
theorem Gy (w:Wy)(P:Str→Prop):∀ (ys:List Lt) (a b:List Lt),(∀ x∈a,P x.nm)→(∀ x∈b,P x.nm)→(∀ x∈ys,P x.nm)→(∀ x∈(ys.foldl (bY w) (a,b)).1,P x.nm)∧∀ x∈(ys.foldl (bY w) (a,b)).2,P x.nm
  | [],a,b,h1,h2,_=>⟨h1,h2⟩
  | y::ys,a,b,h1,h2,h3=>by
    rw[List.foldl_cons]
    have hy:=h3 y List.mem_cons_self
    have hr:∀ x∈ys,P x.nm:=fun x hx=>h3 x (List.mem_cons_of_mem _ hx)
    by_cases h:w.rm≤(a.length:Int)
    · rw[oT h]
      refine Gy w P ys _ _ h1 (fun x hx=>?_) hr
      rcases List.mem_append.mp hx with z | z
      · exact h2 x z
      · have:x=y:=by simpa using z
        subst this;exact hy
    · rw[Cj h]
      refine Gy w P ys _ _ (fun x hx=>?_) h2 hr
      rcases List.mem_append.mp hx with z | z
      · exact h1 x z
      · have:x=oA w y a.length:=by simpa using z
        subst this;rw[Bz];exact hy
def RH:=Jn @Ua <| Jn @SF <| Jn @SW <| Jn @lt_0 <| Jn @Ue <| Jn @TZ <| Jn @SR <| Jn @Ub <| @Rm
local macro_rules | `(tactic| walk_at "go")=>`(tactic| try simp only[↓RH,CI,↓xq,↓xi,↓vW,↓wu,↓xo,↓vR,↓j2,↓iZ,cE,bW,cF,cz,cB,cy,cO,cT,bV,cw,cx,cC,cG,cW,cD,cU,cA,cN,cu,cX,iR,tM,tW,fK,List.map_cons,List.map_nil,List.replicate,List.cons_append,List.nil_append,lk,D1,Aq,D3,CD,j9,gI,sX,nz,sY,sI,mH,mJ,j5,jV,j4,jZ,true_and,and_true,and_self,Bool.not_true,Bool.not_false,decide_true,decide_false,Bool.or_true,Bool.or_false,Bool.true_or,Bool.false_or,Bool.and_false,Bool.false_and,Bool.and_true,Bool.true_and,Int.reduceToNat,Int.reducePow,Int.reduceNeg,Int.reduceSub,Int.reduceAdd,Int.reduceMul,Int.reduceEq,Int.reduceLT,Int.reduceLE,Int.reduceBEq,iH,gs,gr,gu,gj,gq,gn,gi,if_true,if_false,Bool.false_eq_true,reduceCtorEq,decide_eq_true_eq])
def mR (ws os:List Str)(l:Str):Option Str:=match (ws.filter fun w=>decide (w∈os)).filter fun w=>ltS l w with
  | x::_=>some x
  | []=>(ws.filter fun w=>decide (w∈os)).head?
theorem xw {ws os:List Str}{l n:Str}(h:mR ws os l=some n):n∈ws∧n∈os:=by
  unfold mR at h
  have hm:n∈ws.filter fun w=>decide (w∈os):=by
    split at h
    · rename_i x r e
      cases h
      have:n∈(ws.filter fun w=>decide (w∈os)).filter fun w=>ltS l w:=by rw[e];exact List.mem_cons_self
      exact (List.mem_filter.mp this).1
    · exact List.mem_of_head? h
  have:=List.mem_filter.mp hm
  exact ⟨this.1,by simpa using this.2⟩
theorem Al {ws os:List Str}{l w:Str}(h1:w∈ws)(h2:w∈os):∃ n,mR ws os l=some n:=by
  have hm:w∈ws.filter fun w=>decide (w∈os):=List.mem_filter.mpr ⟨h1,by simpa using h2⟩
  unfold mR
  split
  · exact ⟨_,rfl⟩
  · cases e:(ws.filter fun w=>decide (w∈os)) with
    | nil=>rw[e] at hm;cases hm
    | cons x r=>exact ⟨x,rfl⟩
theorem KS (w:Str)(os:List Str):inG (.str w) (os.map .str)=decide (w∈os):=by
  unfold inG
  rw[List.any_map]
  induction os with
  | nil=>simp
  | cons o r ih=>
    rw[List.any_cons,ih]
    simp only[Function.comp_apply,nz]
    by_cases h:o=w
    · simp[h]
    · simp[h,Ne.symm h,eq_comm]
theorem Bu {n:Nat}{os:List Str}(h:∀ o∈os,PyData.strOk o=true):cS n (os.map .str)=true:=by
  induction os with
  | nil=>rfl
  | cons o r ih=>
    rw[List.map_cons,gI,Aq,h o List.mem_cons_self,ih fun x hx=>h x (List.mem_cons_of_mem _ hx)];rfl
theorem wO (os:List Str)(p:Str→Bool):(os.map D.str).filterMap (fun d=>match d with
    | .str w=>if p w then some (D.str w) else none
    | _=>none)=(os.filter p).map D.str:=by
  induction os with
  | nil=>rfl
  | cons o r ih=>
    rw[List.map_cons,List.filterMap_cons,List.filter_cons]
    dsimp only
    cases p o with
    | true=>simp[ih]
    | false=>simp[ih]
def dP:FSp:=fun ds μ Q=>match ds with
  | [d,.ls os',.str l]=>∃ (ws os:List Str) (n:Str),((d=.tup (ws.map .str)∨d=.ls (ws.map .str))∧os'=os.map .str∧(∀ w∈ws,PyData.strOk w=true)∧(∀ w∈os,PyData.strOk w=true)∧ws.length≤900000∧mR ws os l=some n)∧Q (.str n) μ
  | _=>False
theorem rG:∀ ds μ Q,dP ds μ Q→ds.length=3:=by
  unfold dP
  walk_at "ln"
def mX:STr:=aD (aN (bL (cQ (ah 0)) (aw 0) (TB (ak (JB false) (ah 0) (ah 1))) (ah 0) 1 [1]) (aw 3)) (aD (aN (bL (cQ (ah 3)) (aw 0) (TB (ak Qb (ah 0) (ah 1))) (ah 0) 1 [2]) (aw 4)) (aY (jt (TB (ak rGt (av eL (af (ah 4) (ar))) (TC (.int 0)))) (ak L3.rIx (ah 4) (TC (.int 0))) (ak L3.rIx (ah 3) (TC (.int 0))))))
theorem ud:∀ ds μ Q,dP ds μ Q→mX { nx:=fun _ μ'=>RT Q .non μ',rt:=RT Q } (ini 5 ds) μ:=by
  intro ds μ Q h
  unfold dP at h
  split at h
  case h_2=>exact h.elim
  rename_i d os' l
  walk_at "ini"
  unfold mX
  walk_at "go"
  obtain ⟨ws,os,n,⟨hd,rfl,h1,h2,hl,hn⟩,k⟩:=h
  have go:∀ d,d=.tup (ws.map .str)∨d=.ls (ws.map .str)→∀ f:List D→Prop,f (ws.map .str)→kS d f:=fun d h f hf=>by rcases h with rfl | rfl<;>exact hf
  refine go d hd _ ?_
  refine uz (fun d=>match d with
    | .str w=>if decide (w∈os) then some (.str w) else none
    | _=>none) (by rw[List.length_map];omega) (fun d hd μ' _ N n=>?_) ?_
  · obtain ⟨w,hw,rfl⟩:=List.mem_map.mp hd
    walk_at "go"
    rw[Bu h2,KS]
    have:=h1 w hw
    simp only[this,true_and]
    dsimp only at n
    refine kif (fun h=>?_) fun h=>?_
    · rw[decide_eq_true h] at n;exact n
    · rw[decide_eq_false h] at n;exact n
  · rw[wO ws fun w=>decide (w∈os)]
    generalize hth:(ws.filter fun w=>decide (w∈os))=th at *
    have lth:th.length≤900000:=by rw[← hth];exact Nat.le_trans (List.length_filter_le _ _) hl
    walk_at "go"
    refine uz (fun d=>match d with
      | .str w=>if ltS l w then some (.str w) else none
      | _=>none) (by rw[List.length_map];omega) (fun d hd μ' _ N n=>?_) ?_
    · obtain ⟨w,hw,rfl⟩:=List.mem_map.mp hd
      walk_at "go"
      dsimp only at n
      refine Qk (fun h=>?_) fun h=>?_
      · rw[h] at n;exact n
      · rw[h] at n;exact n
    · rw[wO th fun w=>ltS l w]
      unfold mR at hn
      rw[hth] at hn
      walk_at "go"
      cases e:th.filter fun w=>ltS l w with
      | nil=>
        rw[e] at hn
        have hn:th.head? = some n:=hn
        cases th with
        | nil=>cases hn
        | cons x r=>
        cases hn
        walk_at "go"
        show kIf false _ _
        walk_at "go"
        exact ⟨_,.refl _,k⟩
      | cons x r=>
        rw[e] at hn
        have hn:some x=some n:=hn
        cases hn
        walk_at "go"
        refine BP (by simp) ?_
        exact ⟨_,.refl _,k⟩
def at1 (n:Str)(st:List Lt):Nat:=st.findIdx fun x=>decide (x.nm=n)
def dg (ws:List Str)(p:Int):Nat→List Lt→List Lt→Str→List Lt×List Lt×Str
  | 0,st,out,l=>(out,st,l)
  | f+1,st,out,l=>if 0 < st.length∧(out.length:Int) < p then (match mR ws (st.map Lt.nm) l with
      | some n=>(match st[at1 n st]? with
        | some x=>dg ws p f (st.eraseIdx (at1 n st)) (out++[x]) n
        | none=>(out,st,l))
      | none=>(out,st,l)) else (out,st,l)
theorem Ht {n:Str}{st:List Lt}(h:n∈st.map Lt.nm):at1 n st < st.length:=by
  obtain ⟨x,hx,rfl⟩:=List.mem_map.mp h
  exact List.findIdx_lt_length_of_exists ⟨x,hx,by simp⟩
theorem sO {α β:Type}(f:α→β):∀ (l:List α) (i:Nat),(l.map f).eraseIdx i=(l.eraseIdx i).map f
  | [],_=>by simp
  | _::_,0=>rfl
  | a::l,i+1=>by simp[sO f l i]
theorem O5 {n:Str}{st:List Lt}(h:n∈st.map Lt.nm):Dr ((st.map Lt.nm).map .str) (.str n)=some (at1 n st):=by
  unfold Dr
  have hl:=Ht h
  rw[List.findIdx?_eq_some_iff_getElem]
  have e1:∀ m (hm:m < ((st.map Lt.nm).map D.str).length),eqD ((st.map Lt.nm).map D.str)[m] (.str n)=decide ((st[m]'(by simpa using hm)).nm=n):=by
    intro m hm
    simp[nz]
  refine ⟨by simpa using hl,?_,fun j hj=>?_⟩
  · rw[e1]
    have hl':(st.findIdx fun x=>decide (x.nm=n)) < st.length:=hl
    have:=List.findIdx_getElem (xs:=st) (p:=fun x=>decide (x.nm=n)) (w:=hl')
    exact this
  · rw[e1]
    have:=List.not_of_lt_findIdx (xs:=st) (p:=fun x=>decide (x.nm=n)) hj
    simpa using this
theorem Ag {ws:List Str}{p:Int}{f:Nat}{st out:List Lt}{l:Str}(h:¬ (0 < st.length∧(out.length:Int) < p)):dg ws p f st out l=(out,st,l):=by
  cases f with
  | zero=>rfl
  | succ f=>unfold dg;rw[if_neg h]
theorem GZ {ws:List Str}{p:Int}{f:Nat}{st out:List Lt}{l n:Str}{x:Lt}(h:0 < st.length∧(out.length:Int) < p)(hn:mR ws (st.map Lt.nm) l=some n)(hx:st[at1 n st]? = some x) :
    dg ws p (f+1) st out l=dg ws p f (st.eraseIdx (at1 n st)) (out++[x]) n:=by
  conv=>lhs;unfold dg
  rw[if_pos h,hn]
  dsimp only
  rw[hx]
theorem Lv {n k:Nat}(h:k < n):L2.ixN n (k:Int)=some k:=by rw[BD,if_pos h]
def mC (ws:List Str)(st:List Lt):Prop:=∀ x∈st,x.nm∈ws
def b8:FSp:=fun ds μ Q=>match ds with
  | [wd,d,.tup st',.str l]=>∃ (w:Wy) (ws:List Str) (st:List Lt),(wd=w.toD∧(d=.tup (ws.map .str)∨d=.ls (ws.map .str))∧st'=ltD st∧(∀ x∈ws,PyData.strOk x=true)∧mC ws st∧ws.length≤900000∧st.length≤900000)∧
      Q (.tup [.tup (ltD (dg ws w.pc st.length st [] l).1),.tup (ltD (dg ws w.pc st.length st [] l).2.1),.str (dg ws w.pc st.length st [] l).2.2]) μ
  | _=>False
theorem mF:∀ ds μ Q,b8 ds μ Q→ds.length=4:=by
  unfold b8
  walk_at "ln"
def jn:STr:=aD (aN (av jU (af (ah 2) (ar))) (aw 4)) (aD (aN (iW (ar)) (aw 5)) (aD (aN (ah 3) (aw 6)) (aD (uH (w4 (TB (ak rGt (av eL (af (ah 4) (ar))) (TC (.int 0)))) (TB (ak rLt (av eL (af (ah 5) (ar))) (ak L3.rIx (ah 0) (TC (.int 1)))))) (aD (aN (jq (ah 4) (aw 0) (dM) (ak L3.rIx (ah 0) (TC (.int 0))) 1 []) (aw 7)) (aD (aN (av dP (af (ah 1) (af (ah 7) (af (ah 6) (ar))))) (aw 6)) (dW (iT (ah 5) (Px (ah 4) (Ab (ah 7) (ah 6)))))))) (aY (aX (af (av a6 (af (ah 5) (ar))) (af (av a6 (af (ah 4) (ar))) (af (ah 6) (ar)))))))))
theorem oj:∀ ds μ Q,b8 ds μ Q→jn { nx:=fun _ μ'=>RT Q .non μ',rt:=RT Q } (ini 8 ds) μ:=by
  intro ds μ Q h
  unfold b8 at h
  split at h
  case h_2=>exact h.elim
  rename_i wd d st' l
  walk_at "ini"
  unfold jn
  walk_at "go"
  obtain ⟨w,ws,st,⟨rfl,hd,rfl,hw,hs,hl1,hl2⟩,k⟩:=h
  intro p hp
  walk_at "go"
  intro q hq
  have qp:q≠p:=fun z=>by subst z;rw[aB] at hq;cases hq
  have hqn:μ q=none:=by rw[aK qp] at hq;exact hq
  walk_at "go"
  refine ⟨fun ρ μ'=>∃ (a o:List Lt) (n:Str) (v7:Option D) (f:Nat),ρ=[some w.toD,some d,some (.tup (ltD st)),some (.str l),some (.obj p),some (.obj q),some (.str n),v7]∧μ' p=some (.lst (ltD a))∧μ' q=some (.lst (ltD o))∧Sub μ μ'∧dg ws w.pc f a o n=dg ws w.pc st.length st [] l∧a.length≤f∧a.length+o.length≤900000∧mC ws a,
    fun _ μ'=>match μ' p with
      | some (.lst ds)=>ds.length
      | _=>0,⟨st,[],l,_,st.length,rfl,by rw[aK (Ne.symm qp),aB],aB,(Sub.new hp).trans (Sub.new hq),rfl,Nat.le_refl _,by simpa using hl2,hs⟩,?_⟩
  rintro ρ μ' ⟨a,o,n,v7,f,rfl,ep,eq,sb,e,hf,hz,ha⟩
  have fin:¬ (0 < a.length∧(o.length:Int) < w.pc)→RT Q (.tup [.tup (ltD o),.tup (ltD a),.str n]) μ':=fun hn=>by
    rw[Ag hn] at e
    rw[← e] at k
    exact ⟨_,sb,k⟩
  walk_at "go"
  refine a9 ep ?_
  walk_at "go"
  rw[List.length_map]
  refine kif (fun h1=>?_) fun h1=>?_
  rotate_left
  · refine a9 eq ?_
    walk_at "go"
    refine a9 ep ?_
    walk_at "go"
    exact fin fun h=>h1 (by have:=h.1;omega)
  walk_at "go"
  refine a9 eq ?_
  walk_at "go"
  rw[List.length_map]
  refine kif (fun h2=>?_) fun h2=>?_
  rotate_left
  · refine a9 eq ?_
    walk_at "go"
    refine a9 ep ?_
    walk_at "go"
    exact fin fun h=>h2 h.2
  walk_at "go"
  refine a9 ep ?_
  refine CQ ep (fun d=>match d with
    | .tup (x::_)=>x
    | _=>.non) (by rw[List.length_map];omega) (fun d hd μ2 _ N n=>?_) ?_
  · obtain ⟨x,hx,rfl⟩:=List.mem_map.mp hd
    walk_at "go"
    exact n
  have em:(ltD a).map (fun d=>match d with
    | .tup (x::_)=>x
    | _=>D.non)=(a.map Lt.nm).map .str:=by rw[List.map_map,List.map_map];rfl
  rw[em]
  walk_at "go"
  cases a with
  | nil=>simp at h1
  | cons x0 a0=>
  have h0:=ha x0 List.mem_cons_self
  obtain ⟨n2,hn2⟩:=Al (l:=n) h0 (show x0.nm∈(x0::a0).map Lt.nm from List.mem_cons_self)
  generalize hA:x0::a0=A at *
  have hos:∀ z∈A.map Lt.nm,PyData.strOk z=true:=fun z hz=>by
    obtain ⟨y,hy,rfl⟩:=List.mem_map.mp hz
    exact hw _ (ha y hy)
  refine ⟨ws,A.map Lt.nm,n2,⟨hd,rfl,hw,hos,hl1,hn2⟩,?_⟩
  walk_at "go"
  have hin:=xw hn2
  have hi:=Ht hin.2
  refine a9 eq ?_
  walk_at "go"
  refine a9 ep ?_
  walk_at "go"
  rw[Bu hos,hw _ hin.1,O5 hin.2]
  simp only[true_and]
  walk_at "go"
  refine ⟨by omega,⟨by omega,by omega⟩,a9 ep ?_⟩
  rw[List.length_map,Lv hi]
  walk_at "go"
  obtain ⟨x,hx⟩:∃ x,A[at1 n2 A]? = some x:=⟨A[at1 n2 A],List.getElem?_eq_getElem hi⟩
  rw[List.getElem?_map,hx]
  walk_at "go"
  refine a9 (by rw[aK qp];exact eq) ⟨by simp;omega,?_⟩
  cases f with
  | zero=>omega
  | succ f=>
  rw[GZ ⟨by omega,h2⟩ hn2 hx] at e
  have le:(A.eraseIdx (at1 n2 A)).length=A.length - 1:=List.length_eraseIdx_of_lt hi
  refine ⟨⟨A.eraseIdx (at1 n2 A),o++[x],n2,_,f,rfl,?_,?_,?_,e,by omega,by simp;omega,fun y hy=>ha y (List.mem_of_mem_eraseIdx hy)⟩,?_⟩
  · rw[aK (Ne.symm qp),aB,sO]
  · rw[aB];simp[ltD]
  · intro z u h
    rw[aK (fun e=>by subst e;rw[hqn] at h;cases h),aK (fun e=>by subst e;rw[hp] at h;cases h)]
    exact sb z u h
  · rw[aK (Ne.symm qp),aB,ep]
    simp[List.length_eraseIdx,hi]
    omega
def cP (w:Wy)(ws:List Str)(st:List Lt)(l:Str):List Lt×List Lt×Str:=if w.tn then dg ws w.pc st.length st [] l else (st.take w.pc.toNat,st.drop w.pc.toNat,Str.ofString "")
theorem JW (b:Bool):PyData.strOk (vc b)=true:=by cases b<;>decide +kernel
theorem Fi:PyData.strOk (Str.ofString "turns")=true:=by decide +kernel
theorem Py (b:Bool):decide (vc b=Str.ofString "turns")=b:=by cases b<;>decide +kernel
def fL:FSp:=fun ds μ Q=>match ds with
  | [wd,d,.tup st',.str l]=>∃ (w:Wy) (ws:List Str) (st:List Lt),(wd=w.toD∧(w.tn=true→(d=.tup (ws.map .str)∨d=.ls (ws.map .str))∧(∀ x∈ws,PyData.strOk x=true)∧mC ws st∧ws.length≤900000)∧st'=ltD st∧st.length≤900000∧0≤w.pc)∧
      Q (.tup [.tup (ltD (cP w ws st l).1),.tup (ltD (cP w ws st l).2.1),.str (cP w ws st l).2.2]) μ
  | _=>False
theorem xS:∀ ds μ Q,fL ds μ Q→ds.length=4:=by
  unfold fL
  walk_at "ln"
def sx:STr:=aD (c7 (TB (ak rEq (ak L3.rIx (ah 0) (TC (.int 4))) (TC (.str "turns")))) (aY (av b8 (af (ah 0) (af (ah 1) (af (ah 2) (af (ah 3) (ar))))))) (bH)) (aY (aX (af (av a6 (af (TSl (ah 2) (ONo) (gh (ak L3.rIx (ah 0) (TC (.int 1))))) (ar))) (af (av a6 (af (TSl (ah 2) (gh (ak L3.rIx (ah 0) (TC (.int 1)))) (ONo)) (ar))) (af (TC (.str "")) (ar))))))
theorem zQ:∀ ds μ Q,fL ds μ Q→sx { nx:=fun _ μ'=>RT Q .non μ',rt:=RT Q } (ini 4 ds) μ:=by
  intro ds μ Q h
  unfold fL at h
  split at h
  case h_2=>exact h.elim
  rename_i wd d st' l
  walk_at "ini"
  unfold sx
  walk_at "go"
  obtain ⟨w,ws,st,⟨rfl,ht,rfl,hl,hp⟩,k⟩:=h
  walk_at "go"
  rw[JW,Fi,Py]
  unfold cP at k
  refine ⟨⟨rfl,rfl⟩,?_⟩
  cases e:w.tn with
  | true=>
    rw[e,if_pos rfl] at k
    obtain ⟨h1,h2,h3,h4⟩:=ht e
    walk_at "go"
    exact ⟨w,ws,st,⟨rfl,h1,rfl,h2,h3,h4,hl⟩,_,.refl _,k⟩
  | false=>
    rw[e,if_neg (by decide)] at k
    walk_at "go"
    rw[Sm _ hp,Ug _ hp,Jv,J7]
    exact ⟨_,.refl _,k⟩
def fF:FSp:=fun ds μ Q=>match ds with
  | [.int a,.int b]=>(0≤a∧0 < b∧iV b)∧Q (fr (a.fdiv (Int.gcd a b)) (b.fdiv (Int.gcd a b))) μ
  | _=>False
theorem AD:∀ ds μ Q,fF ds μ Q→ds.length=2:=by
  unfold fF
  walk_at "ln"
def xY:STr:=aD (xE 2 3 (af (ah 0) (af (ah 1) (ar)))) (aD (uH (TB (ak rGt (ah 3) (TC (.int 0)))) (xE 2 3 (af (ah 3) (af (ak kU (ah 2) (ah 3)) (ar))))) (aY (aX (af (ak mL (ah 0) (ah 2)) (af (ak mL (ah 1) (ah 2)) (ar))))))
theorem CS:∀ ds μ Q,fF ds μ Q→xY { nx:=fun _ μ'=>RT Q .non μ',rt:=RT Q } (ini 4 ds) μ:=by
  intro ds μ Q h
  unfold fF at h
  split at h
  case h_2=>exact h.elim
  rename_i a b
  walk_at "ini"
  unfold xY
  walk_at "go"
  obtain ⟨⟨a0,b0,b1⟩,k⟩:=h
  refine ⟨fun ρ μ'=>μ'=μ∧∃ x y:Int,ρ=[some (.int a),some (.int b),some (.int x),some (.int y)]∧0≤x∧0≤y∧Int.gcd x y=Int.gcd a b,mz 3,⟨rfl,a,b,rfl,a0,by omega,rfl⟩,?_⟩
  rintro ρ _ ⟨rfl,x,y,rfl,x0,y0,e⟩
  walk_at "go"
  refine kif (fun hy=>?_) fun hy=>?_
  · walk_at "go"
    refine ⟨by omega,⟨_,_,rfl,y0,fm0 hy,?_⟩,?_⟩
    · rw[xg];exact e
    · have:=fm1 (a:=x) hy
      have:=fm0 (a:=x) hy
      simp only[mz,lk]
      omega
  · have hy0:y=0:=by omega
    subst hy0
    rw[Int.gcd_zero_right] at e
    have hx:x=(Int.gcd a b:Int):=by omega
    subst hx
    have gp:0 < Int.gcd a b:=Int.gcd_pos_of_ne_zero_right a (by omega)
    have gl:(Int.gcd a b:Int)≤b:=Int.gcd_le_right a b0
    have dv:jf (Int.gcd a b:Int):=⟨by omega,by unfold iV at *;omega⟩
    walk_at "go"
    exact ⟨dv,dv,_,.refl _,k⟩
theorem DP (w:Wd)(i:Decidable (w.str=Str.ofString "still")):@decide (w.str=Str.ofString "still") i=decide (w=.gF):=by
  have e:(w.str=Str.ofString "still")↔w=.gF:=by cases w<;>simp[Wd.str,eF,dj,eJ,d9,eE,eC,fv,fh,dm,d7,eg,eG,eB,fe,d8,fq,eI,fi,eA,fo]
  cases i with
  | isTrue h=>exact (decide_eq_true (e.mp h)).symm
  | isFalse h=>exact (decide_eq_false fun z=>h (e.mpr z)).symm
theorem Dz (w:Wd)(i:Decidable (w.str=Str.ofString "swell")):@decide (w.str=Str.ofString "swell") i=decide (w=.jB):=by
  have e:(w.str=Str.ofString "swell")↔w=.jB:=by cases w<;>simp[Wd.str,eF,dj,eJ,d9,eE,eC,fv,fh,dm,d7,eg,eG,eB,fe,d8,fq,eI,fi,eA,fo]
  cases i with
  | isTrue h=>exact (decide_eq_true (e.mp h)).symm
  | isFalse h=>exact (decide_eq_false fun z=>h (e.mpr z)).symm
theorem HY (w:Wd)(i:Decidable (w.str=Str.ofString "heed")):@decide (w.str=Str.ofString "heed") i=decide (w=.kY):=by
  have e:(w.str=Str.ofString "heed")↔w=.kY:=by cases w<;>simp[Wd.str,eF,dj,eJ,d9,eE,eC,fv,fh,dm,d7,eg,eG,eB,fe,d8,fq,eI,fi,eA,fo]
  cases i with
  | isTrue h=>exact (decide_eq_true (e.mp h)).symm
  | isFalse h=>exact (decide_eq_false fun z=>h (e.mpr z)).symm
theorem FC (w:Wd)(i:Decidable (w.str=Str.ofString "calm")):@decide (w.str=Str.ofString "calm") i=decide (w=.calm):=by
  have e:(w.str=Str.ofString "calm")↔w=.calm:=by cases w<;>simp[Wd.str,eF,dj,eJ,d9,eE,eC,fv,fh,dm,d7,eg,eG,eB,fe,d8,fq,eI,fi,eA,fo]
  cases i with
  | isTrue h=>exact (decide_eq_true (e.mp h)).symm
  | isFalse h=>exact (decide_eq_false fun z=>h (e.mpr z)).symm
theorem Ng (w:Wd):PyData.strOk w.str=true:=by cases w<;>simp[Wd.str,l3,o9,mG,qz,oW]
theorem MW {lo hi hi' p q:Int}(h:FrB lo hi p q)(hh:hi≤hi'):FrB lo hi' p q:=⟨h.q0,h.q1,h.g,h.ge,by have:=h.le;have:=Int.mul_le_mul_of_nonneg_right hh (Int.le_of_lt h.q0);omega⟩
abbrev wyD (ws:List Wy):List D:=ws.map Wy.toD
structure Sn where
  nm:Str
  rd:List Str
  bt:Int
  bg:Int
  mn:Option Int
  rl:RN
def Sn.toD (x:Sn):D:=.tup [.str x.nm,.tup (x.rd.map .str),.int x.bt,.int x.bg,cZ x.mn,x.rl.toD]
abbrev snD (ss:List Sn):List D:=ss.map Sn.toD
structure Sn.Ok (wn:List Str) (m:Int) (x:Sn):Prop where
  n:PyData.strOk x.nm=true
  r0:x.rd≠[]
  r:x.rd.Sublist wn
  b0:1≤x.bt
  b1:x.bt≤8
  g0:0≤x.bg
  g1:x.bg≤1000000
  mm:∀ i,x.mn=some i→0≤i∧i≤1000000
  k:x.rl.Ok
  l:x.rl.r≤m*x.rl.s
structure Pn where
  g:Int
  ws:List Wy
  ss:List Sn
def Pn.toD (p:Pn):D:=.tup [.int p.g,.tup (wyD p.ws),.tup (snD p.ss)]
abbrev Pn.wn (p:Pn):List Str:=p.ws.map Wy.nm
abbrev Pn.sn (p:Pn):List Str:=p.ss.map Sn.nm
structure Pn.Ok (m:Int) (p:Pn):Prop where
  g:Gd p.g
  w0:0 < p.ws.length
  w1:p.ws.length≤6
  wd:p.wn.Nodup
  w:∀ x∈p.ws,x.Ok
  s1:p.ss.length≤8
  sd:p.sn.Pairwise fun a b=>ltS a b=true
  s:∀ x∈p.ss,x.Ok p.wn m
theorem sub_snoc {α:Type}{a b:List α}(h:a.Sublist b)(x:α):(a++[x]).Sublist (b++[x]):=h.append (List.Sublist.refl _)
def fb (a b:Int):D:=fr (a.fdiv (Int.gcd a b)) (b.fdiv (Int.gcd a b))
theorem NB (a:Int){b:Int}(b0:0 < b):Vl (fb a b) a b:=Od a b0
theorem HW {d:D}{a b:Int}(h:Vl d a b):d=fb a b:=h.uniq (NB a h.b0)
theorem OR {g:Int}(g0:0 < g):fb 0 g=fr 0 1:=by
  unfold fb
  rw[Int.gcd_zero_left,Int.zero_fdiv]
  have:((g.natAbs:Nat):Int)=g:=by omega
  rw[this,jw g0,Int.ediv_self (by omega)]
abbrev c6 (ns:List Int):List D:=ns.map .int
structure Ws where
  cm:List Lt
  st:List Lt
  la:Str
def Ws.toD (x:Ws):D:=.tup [.tup (ltD x.cm),.tup (ltD x.st),.str x.la]
abbrev wsD (xs:List Ws):List D:=xs.map Ws.toD
structure Ss where
  nm:Str
  du:Option Int
  W:Int
  S:Int
  nx:Int
  lf:Option Int
  ag:List Int
  lo:List Int
  gd:Int
  mk':Int
  wt:Int
def Ss.toD (g:Int)(x:Ss):D:=.tup [.str x.nm,cZ x.du,fb x.W g,fb x.S g,.int x.nx,cZ x.lf,.tup (c6 x.ag),.tup (c6 x.lo),.int x.gd,.int x.mk',.int x.wt]
abbrev ssD (g:Int)(xs:List Ss):List D:=xs.map (Ss.toD g)
structure St' where
  ws:List Ws
  ss:List Ss
def St'.toD (g:Int)(x:St'):D:=.tup [.tup (wsD x.ws),.tup (ssD g x.ss)]
def Sn.beg (g:Int)(x:Sn):Ss:=⟨x.nm,some x.bg,x.rl.p*g / x.rl.q,0,0,x.mn,[],[],0,0,0⟩
def Pn.beg (p:Pn):St':=⟨p.ws.map fun _=>⟨[],[],Str.ofString ""⟩,p.ss.map (Sn.beg p.g)⟩
theorem SQ (x:Sn)(μ:Mu)(Q:DK):L3.rIx x.toD (.int 0) μ Q=Q (.str x.nm) μ:=propext Iff.rfl
theorem T5 (x:Sn)(μ:Mu)(Q:DK):L3.rIx x.toD (.int 1) μ Q=Q (.tup (x.rd.map .str)) μ:=propext Iff.rfl
theorem Tq (x:Sn)(μ:Mu)(Q:DK):L3.rIx x.toD (.int 2) μ Q=Q (.int x.bt) μ:=propext Iff.rfl
theorem Uh (x:Sn)(μ:Mu)(Q:DK):L3.rIx x.toD (.int 3) μ Q=Q (.int x.bg) μ:=propext Iff.rfl
theorem Sv (x:Sn)(μ:Mu)(Q:DK):L3.rIx x.toD (.int 4) μ Q=Q (cZ x.mn) μ:=propext Iff.rfl
theorem T4 (x:Sn)(μ:Mu)(Q:DK):L3.rIx x.toD (.int 5) μ Q=Q (x.rl.toD) μ:=propext Iff.rfl
theorem SI (x:Pn)(μ:Mu)(Q:DK):L3.rIx x.toD (.int 0) μ Q=Q (.int x.g) μ:=propext Iff.rfl
theorem S9 (x:Pn)(μ:Mu)(Q:DK):L3.rIx x.toD (.int 1) μ Q=Q (.tup (wyD x.ws)) μ:=propext Iff.rfl
theorem Su (x:Pn)(μ:Mu)(Q:DK):L3.rIx x.toD (.int 2) μ Q=Q (.tup (snD x.ss)) μ:=propext Iff.rfl
theorem TM (x:Ws)(μ:Mu)(Q:DK):L3.rIx x.toD (.int 0) μ Q=Q (.tup (ltD x.cm)) μ:=propext Iff.rfl
theorem TH (x:Ws)(μ:Mu)(Q:DK):L3.rIx x.toD (.int 1) μ Q=Q (.tup (ltD x.st)) μ:=propext Iff.rfl
theorem Sx (x:Ws)(μ:Mu)(Q:DK):L3.rIx x.toD (.int 2) μ Q=Q (.str x.la) μ:=propext Iff.rfl
theorem Tg (g:Int)(x:Ss)(μ:Mu)(Q:DK):L3.rIx (x.toD g) (.int 0) μ Q=Q (.str x.nm) μ:=propext Iff.rfl
theorem Tn (g:Int)(x:Ss)(μ:Mu)(Q:DK):L3.rIx (x.toD g) (.int 1) μ Q=Q (cZ x.du) μ:=propext Iff.rfl
theorem T8 (g:Int)(x:Ss)(μ:Mu)(Q:DK):L3.rIx (x.toD g) (.int 2) μ Q=Q (fb x.W g) μ:=propext Iff.rfl
theorem SN (g:Int)(x:Ss)(μ:Mu)(Q:DK):L3.rIx (x.toD g) (.int 3) μ Q=Q (fb x.S g) μ:=propext Iff.rfl
theorem Sy (g:Int)(x:Ss)(μ:Mu)(Q:DK):L3.rIx (x.toD g) (.int 4) μ Q=Q (.int x.nx) μ:=propext Iff.rfl
theorem SH (g:Int)(x:Ss)(μ:Mu)(Q:DK):L3.rIx (x.toD g) (.int 5) μ Q=Q (cZ x.lf) μ:=propext Iff.rfl
theorem TF (g:Int)(x:Ss)(μ:Mu)(Q:DK):L3.rIx (x.toD g) (.int 6) μ Q=Q (.tup (c6 x.ag)) μ:=propext Iff.rfl
theorem SD (g:Int)(x:Ss)(μ:Mu)(Q:DK):L3.rIx (x.toD g) (.int 7) μ Q=Q (.tup (c6 x.lo)) μ:=propext Iff.rfl
theorem S3 (g:Int)(x:Ss)(μ:Mu)(Q:DK):L3.rIx (x.toD g) (.int 8) μ Q=Q (.int x.gd) μ:=propext Iff.rfl
theorem SO (g:Int)(x:Ss)(μ:Mu)(Q:DK):L3.rIx (x.toD g) (.int 9) μ Q=Q (.int x.mk') μ:=propext Iff.rfl
theorem R0 (g:Int)(x:Ss)(μ:Mu)(Q:DK):L3.rIx (x.toD g) (.int 10) μ Q=Q (.int x.wt) μ:=propext Iff.rfl
theorem SE (g:Int)(x:St')(μ:Mu)(Q:DK):L3.rIx (x.toD g) (.int 0) μ Q=Q (.tup (wsD x.ws)) μ:=propext Iff.rfl
theorem S2 (g:Int)(x:St')(μ:Mu)(Q:DK):L3.rIx (x.toD g) (.int 1) μ Q=Q (.tup (ssD g x.ss)) μ:=propext Iff.rfl
def RF:=Jn @SQ <| Jn @T5 <| Jn @Tq <| Jn @Uh <| Jn @Sv <| Jn @T4 <| Jn @SI <| Jn @S9 <| Jn @Su <| Jn @TM <| Jn @TH <| Jn @Sx <| Jn @Tg <| Jn @Tn <| Jn @T8 <| Jn @SN <| Jn @Sy <| Jn @SH <| Jn @TF <| Jn @SD <| Jn @S3 <| Jn @SO <| Jn @R0 <| Jn @SE <| Jn @S2 <| @RH
local macro_rules | `(tactic| walk_at "go")=>`(tactic| try simp only[↓RF,CI,↓xq,↓xi,↓vW,↓wu,↓xo,↓vR,↓j2,↓iZ,cE,bW,cF,cz,cB,cy,cO,cT,bV,cw,cx,cC,cG,cW,cD,cU,cA,cN,cu,cX,iR,tM,tW,fK,List.map_cons,List.map_nil,List.replicate,List.cons_append,List.nil_append,lk,D1,Aq,D3,CD,j9,gI,sX,nz,sY,sI,mH,mJ,j5,jV,j4,jZ,true_and,and_true,and_self,Bool.not_true,Bool.not_false,decide_true,decide_false,Bool.or_true,Bool.or_false,Bool.true_or,Bool.false_or,Bool.and_false,Bool.false_and,Bool.and_true,Bool.true_and,Int.reduceToNat,Int.reducePow,Int.reduceNeg,Int.reduceSub,Int.reduceAdd,Int.reduceMul,Int.reduceEq,Int.reduceLT,Int.reduceLE,Int.reduceBEq,iH,gs,gr,gu,gj,gq,gn,gi,if_true,if_false,Bool.false_eq_true,reduceCtorEq,decide_eq_true_eq])
def eV:FSp:=fun ds μ Q=>match ds with
  | [d,.int g]=>∃ R:RN,(d=R.toD∧R.Ok∧Gd g)∧Q (.tup [fb (R.p*g / R.q) g,fb 0 g]) μ
  | _=>False
theorem ub:∀ ds μ Q,eV ds μ Q→ds.length=2:=by
  unfold eV
  walk_at "ln"
def pS:STr:=aY (aX (af (av dN (af (ak L3.rIx (ah 0) (TC (.int 1))) (af (ah 1) (ar)))) (af (TC (.tup [.int 0,.int 1])) (ar))))
theorem yy:∀ ds μ Q,eV ds μ Q→pS { nx:=fun _ μ'=>RT Q .non μ',rt:=RT Q } (ini 2 ds) μ:=by
  intro ds μ Q h
  unfold eV at h
  split at h
  case h_2=>exact h.elim
  rename_i d g
  walk_at "ini"
  unfold pS
  walk_at "go"
  obtain ⟨R,⟨rfl,K,g0,g1⟩,k⟩:=h
  obtain ⟨xs,e,e0,e1,e3,e4⟩:=R.tup K.st
  have WB:=K.w.bd (by decide) (by decide)
  rw[e]
  walk_at "go"
  rw[wJ,e1]
  walk_at "go"
  refine ⟨R.p,R.q,⟨jb K.w,WB.1.mono (by decide),WB.2.mono (by decide),by omega,by omega⟩,fun w V=>?_⟩
  walk_at "go"
  rw[HW V]
  rw[OR (show 0 < g by omega)] at k
  exact ⟨_,.refl _,k⟩
def b5:FSp:=fun ds μ Q=>match ds with
  | [.int g,d]=>∃ x:Sn,(d=x.toD∧x.rl.Ok∧Gd g)∧Q ((x.beg g).toD g) μ
  | _=>False
theorem l9:∀ ds μ Q,b5 ds μ Q→ds.length=2:=by
  unfold b5
  walk_at "ln"
def jI:STr:=aD (aN (av eV (af (ak L3.rIx (ah 1) (TC (.int 5))) (af (ah 0) (ar)))) (aw 2)) (aY (aX (af (ak L3.rIx (ah 1) (TC (.int 0))) (af (ak L3.rIx (ah 1) (TC (.int 3))) (af (ak L3.rIx (ah 2) (TC (.int 0))) (af (ak L3.rIx (ah 2) (TC (.int 1))) (af (TC (.int 0)) (af (ak L3.rIx (ah 1) (TC (.int 4))) (af (aX (ar)) (af (aX (ar)) (af (TC (.int 0)) (af (TC (.int 0)) (af (TC (.int 0)) (ar))))))))))))))
theorem nX:∀ ds μ Q,b5 ds μ Q→jI { nx:=fun _ μ'=>RT Q .non μ',rt:=RT Q } (ini 3 ds) μ:=by
  intro ds μ Q h
  unfold b5 at h
  split at h
  case h_2=>exact h.elim
  rename_i g d
  walk_at "ini"
  unfold jI
  walk_at "go"
  obtain ⟨x,⟨rfl,K,G⟩,k⟩:=h
  walk_at "go"
  refine ⟨x.rl,⟨rfl,K,G⟩,?_⟩
  walk_at "go"
  exact ⟨_,.refl _,k⟩
def iE:FSp:=fun ds μ Q=>match ds with
  | [d]=>∃ p:Pn,(d=p.toD∧(∀ x∈p.ss,x.rl.Ok)∧Gd p.g∧p.ws.length≤900000∧p.ss.length≤900000)∧Q (p.beg.toD p.g) μ
  | _=>False
theorem CV:∀ ds μ Q,iE ds μ Q→ds.length=1:=by
  unfold iE
  walk_at "ln"
def A7:STr:=aD (aN (av a6 (af (bL (cQ (ak L3.rIx (ah 0) (TC (.int 1)))) (aw 0) (dM) (aX (af (aX (ar)) (af (aX (ar)) (af (TC (.str "")) (ar))))) 1 []) (ar))) (aw 1)) (aY (aX (af (ah 1) (af (av a6 (af (bL (cQ (ak L3.rIx (ah 0) (TC (.int 2)))) (aw 0) (dM) (av b5 (af (ak L3.rIx (ah 1) (TC (.int 0))) (af (ah 0) (ar)))) 1 [0]) (ar))) (ar)))))
theorem FP:∀ ds μ Q,iE ds μ Q→A7 { nx:=fun _ μ'=>RT Q .non μ',rt:=RT Q } (ini 2 ds) μ:=by
  intro ds μ Q h
  unfold iE at h
  split at h
  case h_2=>exact h.elim
  rename_i d
  walk_at "ini"
  unfold A7
  walk_at "go"
  obtain ⟨p,⟨rfl,K,G,l1,l2⟩,k⟩:=h
  walk_at "go"
  refine comp_map (fun _=>.tup [.tup [],.tup [],.str ""]) (by rw[List.length_map];omega) (fun d hd μ' _ N n=>?_) ?_
  · walk_at "go"
    exact n
  · walk_at "go"
    refine bf p.ss Sn.toD (fun x=>(x.beg p.g).toD p.g) rfl (by omega) (fun x hx μ' _ N n=>?_) ?_
    · walk_at "go"
      exact ⟨x,⟨rfl,K x hx,G⟩,n⟩
    · walk_at "go"
      refine ⟨_,.refl _,?_⟩
      have e1:(wyD p.ws).map (fun _=>D.tup [.tup [],.tup [],.str ""])=wsD p.beg.ws:=by simp[Pn.beg,wsD,wyD,Ws.toD,Function.comp_def]
      have e2:p.ss.map (fun x=>(x.beg p.g).toD p.g)=ssD p.g p.beg.ss:=by simp[Pn.beg,ssD,Function.comp_def]
      rw[e1,e2];exact k
section
open PySem PySem.Spec PyProof.Rows L2
section
variable {prog:Program} {w:World} {A:Around} {E:Value→Shared→Prop} {s:Shared}
abbrev HF (a c:Int)(acc:Array Value)(n:Nat):Prop:=ItemsOf (fun i v=>∃ t,v=.int (a+i*c) t) acc n
abbrev Kept (s:Shared)(g:Heap):Prop:=∀ b o,s.heap.get? b=some o→g.get? b=some o
structure Rg (s:Shared) (r:Addr) (a b c:Int) (n:Nat):Prop where
  at':∃ t u v,IsRange s.heap r a b c t u v
  sm:Builtin.Range.small a b c=true
  sz:Builtin.Range.rangeSize a b c=n
  le:n≤1048576
theorem run_plain {id:String}{bi:Builtin}{args:Args}{R:Result→Shared→Prop}(hp:plainId id=true)(he:entryFor table id=some bi)
    (h:wpAny (model prog w) A.in1 (bi args) (fun fin s'=>match fin with | .done f=>R (.ok f) s' | .again c'=>c'.quiet=true∧codeAny (model prog w) A c' R s') (fun e s'=>R (.error e) s') s):codeAny (model prog w) A (.builtin id args) R s:=
  codeAny_builtin he (by rw[Around.under_plainId hp];exact h)
theorem kC {R:Result→Shared→Prop}{r:Addr}{a b c:Int}{n:Nat}(hh:A.handled=none)(G:Rg s r a b c n)
    (hR:∀ (g:Heap) (tk:Nat) (acc:Array Value) (e:Nat),Kept s g→g.get? s.heap.objs.size=some { cls:=.type "list", dict:=none,data:=.seq acc e,slots:=#[] }→HF a c acc n→R (.ok (.ret (.ref s.heap.objs.size))) { s with heap:=g,toks:=tk }) :
    codeAny (model prog w) A (.builtin "proto.collect" ⟨[.ref r],[]⟩) R s:=by
  obtain ⟨⟨t,u,v,hr⟩,sm,sz,le⟩:=G
  have l24:n≤2 ^ 24:=by omega
  have ext:=fun h0=>wpAny_extend_range (prog:=prog) (w:=w) (A:=A) (R:=R) (s:={ s with heap:=s.heap.push { cls:=.type "list", data:=.seq #[] } }) hh (Heap.get?_push_of_some _ hr) sm sz l24 s.heap.objs.size (.ref s.heap.objs.size) 0 h0 fun g tk acc e kp new its=>
    hR g tk acc e (fun b o q=>kp b o (Nat.ne_of_lt (Heap.lt_size q)) (Heap.get?_push_of_some _ q)) new its
  exact run_plain F.plain_proto_collect F.entry_proto_collect (wpAny_bind (wpAny_newObj_type (wpAny_pure ⟨plainId_quiet F.plain_list_iadd _,run_plain F.plain_list_iadd F.entry_list_iadd (ext (Heap.get?_push_size _ rfl))⟩)))
theorem rX {Q:List Value→Shared→Prop}{r:Addr}{a b c:Int}{n:Nat}(hh:A.handled=none)(G:Rg s r a b c n)
    (hQ:∀ (g:Heap) (tk:Nat) (acc:Array Value),Kept s g→HF a c acc n→Q acc.toList { s with heap:=g,toks:=tk }):wpAny (model prog w) A (collect (.ref r)) Q E s:=by
  unfold collect
  exact wpAny_bind (wpAny_runValue (kC hh G fun g tk acc e kp new its=>wpAny_bind (wpAny_load new (wpAny_pure (hQ g tk acc kp its)))))
theorem mq {Q:Value→Shared→Prop}{r:Addr}{a b c:Int}{n:Nat}(hh:A.handled=none)(G:Rg s r a b c n)
    (hQ:∀ (g:Heap) (tk:Nat) (acc:Array Value),Kept s g→HF a c acc n→Q (.ref g.objs.size) { s with heap:=g.push { cls:=.type "tuple", data:=.seq acc },toks:=tk }) :
    wpAny (model prog w) A (call (.type "tuple") [.ref r]) Q E s:=by
  have isr:s.TypeIs (.ref r) "range" := let ⟨t,u,v,hr⟩:=G.at';⟨_,hr,rfl⟩
  have fit:n≤sizeLine:=by have:=G.le;rw[sizeLine_eq];omega
  have made:codeAny (model prog w) A.in1 (.call (.builtin "tuple.__new__") ⟨[.type "tuple", .ref r],[]⟩) (wants (fun obj s₁=>s₁.TypeIs obj "tuple" ∧ Q obj s₁) E) s:=by
    refine codeAny_of_tree (wpAny_bind (wpAny_of_eq (F.newCall_tuple_1 _) (wpAny_pure ⟨plainId_quiet F.plain_tuple_new _,run_plain F.plain_tuple_new F.entry_tuple_new ?_⟩)))
    have u1:=sub_tuple_self
    have u2:=init_tuple_lookup
    have u3:=madeHere_tuple
    wp_walk using wpAny_typeOf isr,rX (A:=A.in1.in1) hh G
    intro g tk acc kp its
    have whole:acc.toList.toArray=acc:=Array.toArray_toList
    have few:acc.toList.toArray.size≤sizeLine:=by rw[whole,its.1];exact fit
    have end':wpAny (model prog w) A.in1.in1 (Builtin.Tuple.tupleExact acc.toList.toArray) (fun v s'=>wants (fun obj s₁=>s₁.TypeIs obj "tuple" ∧ Q obj s₁) E (.ok (.ret v)) s') (fun e s'=>wants (fun obj s₁=>s₁.TypeIs obj "tuple" ∧ Q obj s₁) E (.error e) s') { s with heap:=g,toks:=tk }:=by
      unfold Builtin.Tuple.tupleExact;exact wpAny_newObj_type (by rw[whole];exact ⟨⟨_,Heap.get?_push_size _ rfl,rfl⟩,hQ g tk acc kp its⟩) few
    exact (show wpAny _ _ (Builtin.Tuple.tupleExact acc.toList.toArray >>= fun v=>ret v) _ _ _ from wpAny_bind (wpAny_mono end' (fun v s' h=>wpAny_pure h) fun _ _ h=>h))
  exact callType_codes F.called_tuple (F.typeCall_tuple_1 _) F.entry_object_init made fun obj s₁ h₁=>⟨h₁.1,F.args_object_init_2 obj _,object_init_meets F.called_tuple.init.lookup F.called_tuple.made (by decide) prog w A.in1 _ s₁ ⟨h₁.1,rfl,h₁.2⟩⟩
end
section
variable {X:Cx} {ea eb:Expr} {Ta Tb:ETr} {p p2 pos rpos:Pos}
def QS (t:TA):TE:=fun σ H Q=>t σ H fun vs H1=>∃ i j:Int,vs=[.int i,.int j]∧(-(2 ^ 62)≤i∧i < 2 ^ 62∧-(2 ^ 62)≤j∧j < 2 ^ 62∧(j - i).toNat≤1000000)∧∀ z,H1 z=none→Q (.ref z) (L2.upd H1 z (.tup ((List.range (j - i).toNat).map fun (k:Nat)=>V.int (i+(k:Int)))))
theorem ki:∀ {us:List Value} {vs:List V},us.length=vs.length→(∀ (j:Nat) u v,us[j]? = some u→vs[j]? = some v→RelV v u)→Vals vs us
  | [],[],_,_=>.nil
  | u::us,v::vs,hl,h=>.cons (h 0 u v rfl rfl) (ki (by simpa using hl) fun j a b h1 h2=>h (j+1) a b h1 h2)
theorem Ka {t:TA}(hc:X.calm=true)(hg:Gl X "tuple")(hm:X.mg "tuple" = none)(hgr:Gl X "range")(hmr:X.mg "range" = none)(ha:PA X [ea,eb] t)(hs:starEach [ea,eb] X.env=[(false,eval ea X.env),(false,eval eb X.env)]:=by rfl)(hs2:starEach [eb] X.env=[(false,eval eb X.env)]:=by rfl)
    (hs0:starEach [.Call (.Name "range" p2) [ea,eb] [] rpos] X.env=(false,eval (.Call (.Name "range" p2) [ea,eb] [] rpos) X.env)::starEach [] X.env:=by rfl) :
    PE X (.Call (.Name "tuple" p) [.Call (.Name "range" p2) [ea,eb] [] rpos] [] pos) (QS t):=by
  intro pins s σ H Q I h
  refine Call_ (i3 I hg hm boot_tuple (PyProof.Rows.callWith_type1 ?_ hs0 rfl))
  rw[hs0]
  show wpAny _ _ (spliced ((false,eval _ X.env)::backTo pos (starEach [] X.env))) _ _ s
  refine Calls.spliced_cons (Call_ (i3 I hgr hmr boot_range (PyProof.Rows.callWith_type1 (thn (ha rpos pins s σ H _ I h) fun us s1 ⟨vs,H1,I1,r1,q1⟩=>?_) (by rw[hs,hs2]) (by rw[hs2];rfl))))
  obtain ⟨i,j,e,⟨h1,h2,h3,h4,h5⟩,q⟩:=q1
  subst e
  cases r1 with | cons r rr=>cases rr with | cons r' rr=>
  cases rr
  obtain ⟨t1,rfl⟩:=r
  obtain ⟨t2,rfl⟩:=r'
  refine call_range_2 (Calls.spliced_nil ?_)
  have e2:Builtin.Range.rangeSize i j 1=((j - i).toNat:Nat):=by rw[rangeSize_one];split<;>omega
  refine mq (n:=(j - i).toNat) (I1.ok.hd hc) ⟨⟨_,_,_,IsRange.new ..⟩,small_one h1 h2 h3 h4,e2,by omega⟩ fun h' tk acc hk hacc=>?_
  have I2:Inv X pins σ H1 { s1 with heap:=h',toks:=tk }:=I1.kept (t':=tk) fun b o e=>hk b o (Heap.get?_push_of_some _ e)
  refine ⟨.ref h'.objs.size,_,I2.laid (t':=tk) (o:=.tup ((List.range (j - i).toNat).map fun (k:Nat)=>V.int (i+(k:Int)))) (fun b o e=>Heap.get?_push_of_some _ e) (Nat.le_refl _) ⟨?_,acc.toList,ki ?_ fun m u v hu hv=>?_,?_⟩,rfl,q _ (I2.hok.fresh (Nat.le_refl _))⟩
  · rw[List.length_map,List.length_range];exact big (by omega)
  · rw[List.length_map,List.length_range,Array.length_toList,hacc.1]
  · have hu':acc[m]? = some u:=by simpa using hu
    obtain ⟨t3,rfl⟩:=hacc.2 m u hu'
    have hm:m < (j - i).toNat:=by
      have:=(Array.getElem?_eq_some_iff.mp hu').1
      exact hacc.1 ▸ this
    rw[List.getElem?_map,List.getElem?_range hm] at hv
    cases hv
    exact ⟨t3,by simp⟩
  · rw[Array.toArray_toList];exact uS.new h' acc
def IJ (Ta Tb:ETr):ETr:=fun ρ μ Q=>Ta ρ μ fun x μ1=>Tb ρ μ1 fun y μ2=>kI x fun i=>kI y fun j=>((-4611686018427387904≤i∧i < 4611686018427387904)∧(-4611686018427387904≤j∧j < 4611686018427387904)∧(j - i).toNat≤1000000)∧Q (.tup (cL i (j - i).toNat)) μ2
theorem DS {K:PySem.W.Frag}{H:Hp}(i:Int)(n:Nat):DpL K H ((List.range n).map fun (k:Nat)=>V.int (i+(k:Int))) (cL i n):=by
  unfold cL
  generalize List.range n=l
  induction l with
  | nil=>exact .nil
  | cons a l ih=>exact .cons (.int _) ih
theorem KH (hc:X.calm=true)(hg:Gl X "tuple")(hm:X.mg "tuple" = none)(hgr:Gl X "range")(hmr:X.mg "range" = none)(ha:LE X ea Ta)(hb:LE X eb Tb)(hs:starEach [ea,eb] X.env=[(false,eval ea X.env),(false,eval eb X.env)]:=by rfl)(hs2:starEach [eb] X.env=[(false,eval eb X.env)]:=by rfl)
    (hs0:starEach [.Call (.Name "range" p2) [ea,eb] [] rpos] X.env=(false,eval (.Call (.Name "range" p2) [ea,eb] [] rpos) X.env)::starEach [] X.env:=by rfl) :
    LE X (.Call (.Name "tuple" p) [.Call (.Name "range" p2) [ea,eb] [] rpos] [] pos) (IJ Ta Tb):=by
  obtain ⟨ta,pa,sa⟩:=ha.ex
  obtain ⟨tb,pb,sb⟩:=hb.ex
  refine ⟨_,Ka hc hg hm hgr hmr (ff pa (ff pb i9 hs2) (by rw[hs,hs2])) hs hs2 hs0,fun σ H ρ μ Q Q' rl h k=>sa σ H ρ μ _ _ rl h fun x H1 d μ1 t1 m1 p1 h1=>sb σ H1 ρ μ1 _ _ (rl.go t1 m1) h1 fun y H2 d2 μ2 t2 m2 p2 h2=>?_⟩
  cases p1 with
  | int i=>
    cases p2 with
    | int j=>
      obtain ⟨⟨⟨h3,h4⟩,⟨h5,h6⟩,h7⟩,h8⟩:=h2
      refine ⟨i,j,rfl,⟨by simpa using h3,by simpa using h4,by simpa using h5,by simpa using h6,h7⟩,fun z hz=>?_⟩
      have tn:Tk H2 (L2.upd H2 z (.tup ((List.range (j - i).toNat).map fun (k:Nat)=>V.int (i+(k:Int))))):=.new hz
      exact k _ _ _ μ2 ((t1.trans t2).trans tn) (dk m2 hz) (.tup (SqT.of aP) (DS i _)) h8
    | _=>exact False.elim h2
  | _=>exact False.elim h2
end
end
section
open PySem PySem.Spec PyProof.Rows L2
section
variable {prog:Program} {w:World} {A:Around} {E:Value→Shared→Prop} {s:Shared}
theorem sortedHeap_at {g:Heap}{vs:List Value}{out:Array Value}{k:Nat}(e:(g.push (seqObj "list" vs.toArray k)).get? g.objs.size=some (seqObj "list" vs.toArray k)):(∃ n,(sortedHeap (g.push (seqObj "list" vs.toArray k)) g.objs.size vs out).get? g.objs.size=some (seqObj "list" out n))∧∀ b o,g.get? b=some o→(sortedHeap (g.push (seqObj "list" vs.toArray k)) g.objs.size vs out).get? b=some o:=by
  have lt:g.objs.size < (g.push (seqObj "list" vs.toArray k)).objs.size:=by rw[size_push'];omega
  unfold sortedHeap
  constructor
  · have e1:=get?_update_seq e fun _=>#[]
    have e2:∀ o1 o2:Obj,((((g.push (seqObj "list" vs.toArray k)).update g.objs.size (Obj.mapSeq fun _=>#[])).push o1).push o2).get? g.objs.size=_:=fun o1 o2=>Heap.get?_push_of_some _ (Heap.get?_push_of_some _ e1)
    exact ⟨_,get?_update_seq (e2 _ _) fun _=>out⟩
  · intro b o hb
    have nb:g.objs.size≠b:=Ne.symm (Nat.ne_of_lt (Heap.lt_size hb))
    exact (Heap.get?_update_other _ _ nb).trans (Heap.get?_push_of_some _ (Heap.get?_push_of_some _ ((Heap.get?_update_other _ _ nb).trans (Heap.get?_push_of_some _ hb))))
theorem yV {tp:Addr}{vs:List Value}{ns:List Int}{Q:Value→Shared→Prop}(hl:IsTup s.heap tp vs.toArray)(hI:IntsAre vs ns)(few:vs.length < 64)
    (h:∀ (g g1:Heap) (out:Array Value) (n:Nat) (ns':List Int),Kept s g→(∀ b o,g.get? b=some o→g1.get? b=some o)→g1.get? g.objs.size=some (seqObj "list" out n)→IntsAre out.toList ns'→ns'.Perm ns→ns'.Pairwise (·≤·)→Q (.ref g.objs.size) { s with heap:=g1 }) :
    wpAny (model prog w) A (call (.builtin "sorted") [.ref tp]) Q E s:=by
  obtain ⟨ob,e1,e2,ne,e3⟩:=hl
  have fits:vs.toArray.size≤sizeLine:=by rw[List.size_toArray,sizeLine_eq];omega
  have rest:∀ g:Heap,(∀ b o,s.heap.get? b=some o→g.get? b=some o)→wpAny (model prog w) A.in1 (do let z ← newList vs;let _ ← holding [z] (call (.builtin "list.sort") [z]);ret z) (fun fin s'=>∃ v,fin=.done (.ret v)∧Q v s') E { s with heap:=g }:=fun g kp=>by
    have at':(g.push (seqObj "list" vs.toArray 0)).get? g.objs.size=some (seqObj "list" vs.toArray 0):=Heap.get?_push_size _ rfl
    have done:=fun out ns' (a1:IntsAre out.toList ns') (a2:ns'.Perm ns) (a3:ns'.Pairwise (·≤·))=>let ⟨⟨m,e⟩,old⟩:=sortedHeap_at (out:=out) at';h g _ out m ns' kp old e a1 a2 a3
    exact wpAny_bind (wpAny_newList (wpAny_bind (wpAny_holding (wpAny_call_entry slot_list_sort ⟨_,at',rfl⟩ entry_list_sort (list_sort_tree at' hI few fun out ns' a1 a2 a3=>⟨_,rfl,wpAny_pure ⟨_,rfl,done out ns' a1 a2 a3⟩⟩) (args_list_sort _)))))
  refine Calls.call_function_entry (b:=Builtin.«sorted») kind_sorted plain_sorted entry_sorted (args_sorted1 _) ?_
  show wpAny _ _ (do checkCount "sorted" 1 1 1;let xs ← collect (.ref tp);let z ← newList xs;let _ ← holding [z] (call (.builtin "list.sort") [z]);ret z) _ _ s
  exact wpAny_bind (wpAny_pure (wpAny_bind (wpAny_collect_seq tp (.inr rfl) e1 e2 e3 (fun g kp=>rest g kp) fits)))
end
def PB (K:PySem.W.Frag):List V→Hp→VK→Prop:=fun xs H Q=>∃ (p:Addr) (ns:List Int),xs=[.ref p]∧(SqL K H p (ns.map V.int)∨SqT K H p (ns.map V.int))∧ns.length < 64∧∀ ns':List Int,ns'.Perm ns→ns'.Pairwise (·≤·)→∀ z,H z=none→Q (.ref z) (L2.upd H z (.lst (ns'.map V.int)))
theorem AH {X:Cx}:cH X (.builtin "sorted") (PB X.K):=fun pins s σ H xs us Q I rx ⟨p,ns,e1,sq,hl,q⟩=>by
  rcases sq with sq | sq
  · exact AS pins s σ H xs us Q I rx ⟨p,ns,e1,sq,hl,q⟩
  subst e1
  obtain ⟨u,rfl,ru⟩:=vals1 rx
  cases ru
  obtain ⟨its,rv,pl,hz⟩:=I.tuple sq
  have hi:IntsAre its ns:=intsAre_of rv
  have hlen:its.length < 64:=by rw[hi.length];exact hl
  refine yV pl hi hlen fun g g1 out n ns' kp old e a1 a2 a3=>?_
  have I2:Inv X pins σ H { s with heap:=g }:=I.kept (t':=s.toks) kp
  refine ⟨.ref g.objs.size,_,I2.laid (t':=s.toks) (o:=.lst (ns'.map V.int)) old (Nat.le_refl _) ?_,rfl,q ns' a2 a3 _ (I2.hok.fresh (Nat.le_refl _))⟩
  have z1:ns'.length=ns.length:=a2.length_eq
  exact ⟨by rw[List.length_map,z1];exact Nat.le_of_lt (Nat.lt_of_lt_of_le hl (by decide)),out.toList,n,iX a1,by simpa[seqObj] using e⟩
def pQ:FSp:=fun ds μ Q=>match ds with
  | [x]=>kS x fun xs=>∃ ns:List Int,(xs=ns.map .int∧ns.length < 64)∧∀ ns':List Int,ns'.Perm ns→ns'.Pairwise (·≤·)→Q (.ls (ns'.map .int)) μ
  | _=>False
theorem vY {X:Cx}{e:Expr}{x:Str}{p pos:Pos}{At:ATr}(hg:Gl X x)(hm:X.mg x=none)(hv:bootBuiltins x=some (.builtin "sorted"))(ha:LA X [e] At)(hn:x ≠ "__name__" := by decide)(hdb:(x == ("__debug__" : Str))=false:=by decide)
    (h1:starEach [e] X.env=(false,eval e X.env)::starEach [] X.env:=by rfl) (h2:(backTo pos (starEach [] X.env)).any (·.1)=false:=by rfl):LE X (.Call (.Name x p) [e] [] pos) (av pQ At):=by
  obtain ⟨ta,pa,sa⟩:=ha.ex
  refine ⟨_,kA (qA AH hg hm hv pa hn hdb h1 h2),fun σ H ρ μ Q Q' rl h k=>sa σ H ρ μ _ _ rl h fun xs H1 ds μ1 t1 m1 p1 h1=>?_⟩
  unfold pQ at h1
  split at h1
  · cases p1 with | cons p1 p2=>
    cases p2
    cases p1 with
    | @ls q xs ds sq l=>
      obtain ⟨ns,⟨rfl,hl⟩,h2⟩:=h1
      have ex:=l.ints_of
      subst ex
      exact ⟨q,ns,rfl,.inl sq.sq,hl,fun ns' a2 a3 z hz=>gS m1 (DpL.ints ns') (h2 ns' a2 a3) (k.go t1) hz⟩
    | @tup q xs ds sq l=>
      obtain ⟨ns,⟨rfl,hl⟩,h2⟩:=h1
      have ex:=l.ints_of
      subst ex
      exact ⟨q,ns,rfl,.inr sq,hl,fun ns' a2 a3 z hz=>gS m1 (DpL.ints ns') (h2 ns' a2 a3) (k.go t1) hz⟩
    | _=>exact False.elim h1
  · exact h1.elim
theorem DZ {X:Cx}(hc:X.calm=true):cH X (.builtin "sum") (fun xs H Q=>∃ (p:Addr) (ns:List Int),xs=[.ref p]∧SqL X.K H p (ns.map V.int)∧Q (.int ns.sum) H):=fun pins s σ H xs us Q I rx ⟨p,ns,e1,sq,q⟩=>by
  subst e1
  obtain ⟨u,rfl,ru⟩:=vals1 rx
  cases ru
  obtain ⟨its,rv,pl,_⟩:=I.list sq
  obtain ⟨ps,rfl,rfl⟩:=ip (intsAre_of rv)
  have il:s.heap.IsList p (intItems ps.toArray):=by
    have:=pl.isList
    simpa[intItems] using this
  refine sum_intListG (I.ok.hd hc) il fun h' tk t' hk=>?_
  have e:preSum (numAt ps.toArray) ps.toArray.size=(ps.map Prod.fst).sum:=by
    rw[preSum_eq,List.take_of_length_le (by simp)]
  rw[e]
  exact ⟨.int _,H,I.kept hk,⟨t',rfl⟩,q⟩
def BW:FSp:=fun ds μ Q=>match ds with
  | [.ls xs]=>∃ ns:List Int,xs=ns.map .int∧Q (.int ns.sum) μ
  | _=>False
theorem EM {K:PySem.W.Frag}:lq K (fun xs H Q=>∃ (p:Addr) (ns:List Int),xs=[.ref p]∧SqL K H p (ns.map V.int)∧Q (.int ns.sum) H) BW:=fun H μ xs ds Q Q' m p h k=>by
  unfold BW at h
  split at h
  · obtain ⟨ns,rfl,h⟩:=h
    cases p with | cons p1 p2=>
    cases p2
    cases p1 with
    | @ls q xs ds sq l=>
      have ex:=l.ints_of
      subst ex
      exact ⟨q,ns,rfl,sq.sq,k _ H _ μ (.refl H) m (.int _) h⟩
  · exact h.elim
end
section
open PySem PySem.Spec PyProof.Rows L2
section
variable {prog:Program} {w:World} {A:Around} {E:Value→Shared→Prop} {s:Shared}
theorem GX {tp:Bool}{e it a:Addr}{i:Nat}{xs:Array Value}{x old:Value}{Q:Option Value→Shared→Prop}(en:IsEnum s.heap e it i old)(li:iG tp s.heap it a i)(se:gw tp s.heap a xs)(hx:xs[i]? = some x)(ne:e≠it)
    (q:∀ g,IsEnumOut g e it ((i:Int)+1) x s.heap.objs.size→iG tp g it a (i+1)→g.get? s.heap.objs.size=some { cls:=.type "tuple", data:=.seq #[.int i s.toks,x] }→
      (∀ c o,c≠e→c≠it→s.heap.get? c=some o→g.get? c=some o)→Q (some (.ref s.heap.objs.size)) { s with heap:=g,toks:=s.toks+1 }):wpAny (model prog w) A (pyNext (.ref e)) Q E s:=by
  have ty:s.TypeIs (.ref e) "enumerate" := ⟨_,en,rfl⟩
  unfold pyNext
  refine wpAny_bind (wpAny_attempt (wpAny_callSpecial?_slot (name:=Str.ofString "__next__") ty F.slot_enumerate_next (wpAny_call_entry F.slot_enumerate_next ty F.entry_enumerate_next ?_ (F.args_enumerate_next_1 _))))
  refine wpAny_bind (m:=field (.ref e) 2) (wpAny_field en rfl (x:=.ref it) rfl (wpAny_bind (m:=Builtin.SmallTypes.nextOf (.ref it)) (oM li se hx fun g1 li1 k1=>?_)))
  have en1:IsEnum g1 e it i old:=(k1.2 e ne).trans en
  refine wpAny_bind (m:=field (.ref e) 3) (wpAny_field (s:={ s with heap:=g1 }) en1 rfl (x:=rawInt i) rfl (wpAny_bind (m:=field (.ref e) 4) (wpAny_field (s:={ s with heap:=g1 }) en1 rfl (x:=.none) rfl (wpAny_bind (m:=mkInt i) (wpAny_mkInt ?_)))))
  refine wpAny_bind (m:=setField (.ref e) 3 (rawInt ((i:Int)+1))) (wpAny_setField_rec en1 (by simp) fun g2 en2 k2=>?_)
  have en2:IsEnum g2 e it ((i:Int)+1) old:=en2
  refine wpAny_bind (m:=setField (.ref e) 4 .none) (wpAny_setField_rec en2 (by simp) fun g3 en3 k3=>?_)
  have en3:IsEnum g3 e it ((i:Int)+1) old:=en3
  refine wpAny_bind (m:=newTuple [.int i s.toks,x]) (wpAny_newTuple ?_)
  have sz:g3.objs.size=s.heap.objs.size:=by rw[k3.1,k2.1,k1.1]
  have en4:IsEnum (g3.push { cls:=.type "tuple", data:=.seq #[.int i s.toks,x] }) e it ((i:Int)+1) old:=Heap.get?_push_of_some _ en3
  have elt:e < g3.objs.size:=Heap.lt_size en3
  refine wpAny_bind (m:=Builtin.SmallTypes.ownedTupleIsFree (.ref e)) ?_
  delta Builtin.SmallTypes.ownedTupleIsFree
  refine wpAny_bind (wpAny_field (s:={ s with heap:=g3.push { cls:=.type "tuple", data:=.seq #[.int i s.toks,x] },toks:=s.toks+1 }) en4 rfl (x:=.none) rfl (wpAny_pure ?_))
  simp only[if_true]
  refine wpAny_bind (wpAny_rule (wpAny_bind (wpAny_field en4 rfl (x:=old) rfl (wpAny_bind (wpAny_setField_rec en4 (by simp) fun g5 en5 k5=>?_)))))
  have en5:IsEnum g5 e it ((i:Int)+1) x:=en5
  refine wpAny_bind (m:=Builtin.SmallTypes.ownedTupleHandOut (.ref e) (.ref g3.objs.size)) ?_
  delta Builtin.SmallTypes.ownedTupleHandOut
  refine wpAny_bind (wpAny_setField_rec en5 (by simp) fun g6 en6 k6=>?_)
  have en6:IsEnumOut g6 e it ((i:Int)+1) x g3.objs.size:=en6
  refine wpAny_setField_rec en6 (by simp) fun g7 en7 k7=>?_
  have en7:IsEnumOut g7 e it ((i:Int)+1) x g3.objs.size:=en7
  have up3:∀ c o,c≠e→g3.get? c=some o→g7.get? c=some o:=fun c o c1 h=>(k7.2 c c1).trans ((k6.2 c c1).trans ((k5.2 c c1).trans (Heap.get?_push_of_some _ h)))
  have new:g7.get? g3.objs.size=some { cls:=.type "tuple", data:=.seq #[.int i s.toks,x] }:=(k7.2 _ (Nat.ne_of_gt elt)).trans ((k6.2 _ (Nat.ne_of_gt elt)).trans ((k5.2 _ (Nat.ne_of_gt elt)).trans (Heap.get?_push_size _ rfl)))
  rw[sz] at en7 new
  have fin:=q g7 en7 (li1.at fun o h=>up3 it o (Ne.symm ne) ((k3.2 it (Ne.symm ne)).trans ((k2.2 it (Ne.symm ne)).trans h))) new fun c o c1 c2 h=>up3 c o c1 ((k3.2 c c1).trans ((k2.2 c c1).trans ((k1.2 c c2).trans h)))
  rw[← sz] at fin
  exact wpAny_bind (wpAny_letGo (wpAny_pure ⟨_,rfl,wpAny_pure fin⟩))
theorem I0 {tp:Bool}{e it a:Addr}{i:Nat}{xs:Array Value}{old:Value}{Q:Option Value→Shared→Prop}(hh:A.handled=none)(en:IsEnum s.heap e it i old)(li:iG tp s.heap it a i)(se:gw tp s.heap a xs)(hx:xs[i]? = none)
    (q:∀ g,Heap.ExtBut it s.heap g→Q none { s with heap:=g }):wpAny (model prog w) A (pyNext (.ref e)) Q E s:=by
  have ty:s.TypeIs (.ref e) "enumerate" := ⟨_,en,rfl⟩
  unfold pyNext
  refine wpAny_bind (wpAny_attempt (wpAny_callSpecial?_slot (name:=Str.ofString "__next__") ty F.slot_enumerate_next (wpAny_call_entry F.slot_enumerate_next ty F.entry_enumerate_next ?_ (F.args_enumerate_next_1 _))))
  refine wpAny_bind (m:=field (.ref e) 2) (wpAny_field en rfl (x:=.ref it) rfl (wpAny_bind (m:=Builtin.SmallTypes.nextOf (.ref it)) (AW hh li se hx fun g z kp sz=>?_)))
  obtain ⟨o,ho,hc⟩:=sz
  exact wpAny_bind (wpAny_isInstance (T := "StopIteration") (b:=true) ⟨o,ho,hc⟩ isSubtype_stop (wpAny_pure (q _ kp)))
theorem ER (tp:Bool)(a:Addr)(xs:Array Value):Meets (Builtin.«enumerate.__new__» ⟨[.type "enumerate", .ref a],[]⟩) (fun _ R s=>gw tp s.heap a xs∧
      R (.ok (.ret (.ref (s.heap.push (itO tp a)).objs.size))) { s with heap:=(s.heap.push (itO tp a)).push { cls:=.type "enumerate", data:=.fields #[.none,.bool false,.ref s.heap.objs.size,rawInt 0,.none,.none] } }):=
  .of_wp fun prog w A R s h=>by
    rcases s with ⟨hp,g,d,tk,os⟩
    obtain ⟨h1,h⟩:=h
    have hs0:=sub_enumerate
    have H1:gw tp (Shared.heap ⟨hp,g,d,tk,os⟩) a xs:=h1
    wp_walk
    refine wpAny_stack_any fun stk=>wpAny_pure ?_
    split
    · rename_i c _ _ _ _ _
      cases (c == Value.type "enumerate")<;>(wp_walk using IP H1;exact ⟨_,rfl,h⟩)
    · wp_walk using IP H1
      exact ⟨_,rfl,h⟩
theorem zV {tp:Bool}{a:Addr}{xs:Array Value}{Q:Value→Shared→Prop}(h1:gw tp s.heap a xs)
    (q:∀ g,IsEnum g (s.heap.objs.size+1) s.heap.objs.size 0 .none→iG tp g s.heap.objs.size a 0→(∀ c o,s.heap.get? c=some o→g.get? c=some o)→Q (.ref (s.heap.objs.size+1)) { s with heap:=g }) :
    wpAny (model prog w) A (call (.type "enumerate") [.ref a]) Q E s:=by
  refine callType_new F.called_enumerate (by decide) (F.typeCall_enumerate_1 _) (F.newCall_enumerate_1 _) (fun obj=>F.args_object_init_2 obj _) F.entry_enumerate_new (ER tp a xs) ⟨h1,?_⟩
  have s1:(s.heap.push (itO tp a)).objs.size=s.heap.objs.size+1:=Heap.size_push ..
  have new:IsEnum ((s.heap.push (itO tp a)).push { cls:=.type "enumerate", data:=.fields #[.none,.bool false,.ref s.heap.objs.size,rawInt 0,.none,.none] }) (s.heap.push (itO tp a)).objs.size s.heap.objs.size 0 .none:=Heap.get?_push_size _ rfl
  refine ⟨⟨_,new,rfl⟩,?_⟩
  rw[s1] at new ⊢
  refine q _ new ?_ fun c o h=>Heap.get?_push_of_some _ (Heap.get?_push_of_some _ h)
  have z:=Heap.get?_push_of_some { cls:=.type "enumerate", data:=.fields #[.none,.bool false,.ref s.heap.objs.size,rawInt 0,.none,.none] } (Heap.get?_push_size s.heap (o:=itO tp a) (by cases tp<;>rfl))
  cases tp<;>exact ⟨_,z,rfl,rfl⟩
end
def Itn (tp:Bool)(K:PySem.W.Frag)(a:Addr):It:=
  ⟨fun i H=>∃ xs x,Sq tp K H a xs∧xs[i]? = some x,
   fun i H v H'=>∃ x p,(∀ xs,Sq tp K H a xs→xs[i]? = some x)∧v=.ref p∧H p=none∧H'=L2.upd H p (.tup [.int i,x]),
   fun i H=>∃ xs,Sq tp K H a xs∧xs.length≤i⟩
structure NAt (tp:Bool) (h:Heap) (e it a:Addr) (k:Nat):Prop where
  en:∃ old,IsEnum h e it k old
  li:iG tp h it a k
theorem GP {P:Program}{w:World}{K:PySem.W.Frag}{es:List Expr}{ek:Nat}{ep:Pos}{tp:Bool}{e it a:Addr}(n1:e≠it) :
    Turn P w K (.Tuple es ek ep) (Itn tp K a) [e,it] e (fun k h=>NAt tp h e it a k) where
  mem:=by simp
  obj:=fun k h S c hc=>by
    obtain ⟨⟨old,en⟩,li⟩:=S
    simp only[List.mem_cons,List.not_mem_nil,or_false] at hc
    rcases hc with rfl | rfl
    · exact ⟨_,en,fun v y=>by cases y⟩
    · obtain ⟨o,ho,vs,hd⟩:=li.ex;exact ⟨o,ho,fun v y=>by rw[hd] at y;cases y⟩
  keep:=fun k h g S kp=>by
    obtain ⟨⟨old,en⟩,li⟩:=S
    exact ⟨⟨old,kp e (by simp) _ en⟩,li.at fun o q=>kp it (by simp) o q⟩
  item:=by
    intro X hP hw hK hc k pins s σ H E I hf S hg
    subst hP hw hK
    obtain ⟨xs,x,qa,ex⟩:=hg
    obtain ⟨⟨old,en⟩,li⟩:=S
    obtain ⟨ia,ra,sa⟩:=Inv.sq I qa
    obtain ⟨ux,hux,rx⟩:=ra.get ex
    have elt:e < s.heap.objs.size:=Heap.lt_size en
    have fr:H s.heap.objs.size=none:=I.hok.fresh (Nat.le_refl _)
    refine GX en li sa (x:=ux) (by simpa using hux) n1 fun g eo li2 new al=>⟨_,rfl,wpAny_letOwnedTupleGo_enum eo fun g2 en2 k2=>?_⟩
    have k2:Heap.SameBut e g g2:=k2
    have all:∀ c o,c ∉ [e,it]→s.heap.get? c=some o→g2.get? c=some o:=fun c o hc q=>by
      simp only[List.mem_cons,List.not_mem_nil,or_false,not_or] at hc
      exact (k2.2 c hc.1).trans (al c o hc.1 hc.2 q)
    have new2:g2.get? s.heap.objs.size=some { cls:=.type "tuple", data:=.seq #[.int k s.toks,ux] }:=(k2.2 _ (Nat.ne_of_gt elt)).trans new
    have nfp:∀ c u,H c=some u→c ∉ [e,it]:=fun c u q hc=>by rw[(hf c hc).1] at q;cases q
    refine ⟨.ref s.heap.objs.size,L2.upd H s.heap.objs.size (.tup [.int k,x]),?_,rfl,⟨x,_,fun xs' q=>by rw[Inv.Az I q qa];exact ex,rfl,fr,rfl⟩,⟨⟨_,en2⟩,li2.at fun o q=>(k2.2 it (Ne.symm n1)).trans q⟩,fun c hc=>?_⟩
    · refine L2.Inv.step (s:=s) (H:=H) (H':=L2.upd H s.heap.objs.size (.tup [.int k,x])) (g':=s.gens) (d':=s.drawn) (t':=s.toks+1) (h':=g2) (ch:=[e,it]) I (fun c hc=>⟨(hf c hc).2.2.2.1,(hf c hc).2.1,(hf c hc).2.2.2.2.1,(hf c hc).2.2.2.2.2⟩) (fun c o _ _ hc q _=>all c o hc q) (fun c o _ _ hc q _=>⟨o.slots,all c o hc q⟩) (fun c o hc q n=>?_) (fun c o hc q=>⟨o,all c o hc q⟩)
        (fun c xs q=>?_) (fun c o u q=>?_) (fun c ps q=>⟨#[],?_⟩) (fun m hm=>?_) (fun c u q=>?_) I.bare
      · rw[aO (Nat.ne_of_lt (Heap.lt_size q))];exact n
      · rw[aO (bu q fr)];exact q
      · rw[aO (bu q fr)];exact q
      · rw[aO (bu q fr),q];simp
      · obtain ⟨o,es',ep',ho,r⟩:=hm
        exact ⟨o,es',ep',all _ o (fun hc=>(hf _ hc).2.1 rfl) ho,r⟩
      · by_cases hcT:c=s.heap.objs.size
        · subst hcT
          rw[aP] at q;cases q
          exact ⟨by show 2≤sizeLine;decide,[.int k s.toks,ux],.cons ⟨s.toks,rfl⟩ (.cons rx .nil),⟨_,new2⟩⟩
        · rw[aO hcT] at q
          refine (I.hok c u q).oi (fun c' v hc' z=>all c' v ?_ z) (fun c' z=>by rw[aO (bu z fr)];exact z) fun c' xs z=>by rw[aO (bu z fr)];exact z
          rcases hc' with rfl | hc'
          · exact nfp _ _ q
          · exact nfp _ _ hc'
    · have hcl:c≠s.heap.objs.size:=by
        simp only[List.mem_cons,List.not_mem_nil,or_false] at hc
        rcases hc with rfl | rfl
        · exact Nat.ne_of_lt elt
        · obtain ⟨o,q,_⟩:=li.ex;exact Nat.ne_of_lt (Heap.lt_size q)
      rw[aO hcl];exact (hf c hc).1
  done:=by
    intro X hP hw hK hc k pins s σ H E I hf S hg
    subst hP hw hK
    obtain ⟨xs,qa,he⟩:=hg
    obtain ⟨⟨old,en⟩,li⟩:=S
    obtain ⟨ia,ra,sa⟩:=Inv.sq I qa
    have la:=ra.length
    obtain ⟨f0,f1,f2,f3,f4,f5⟩:=hf it (by simp)
    exact I0 (I.ok.hd hc) en li sa (by simp;omega) fun g eb=>⟨rfl,I.turned (t':=s.toks) (fun b o hb q=>eb b o hb q) f0 f1 f3 f4 f5⟩
  self:=fun _ _ _ _ _ S h=>by
    obtain ⟨⟨old,en⟩,_⟩:=S
    exact wpAny_pyIter_enum en h
def Sz (K:PySem.W.Frag)(t:TA):TI:=fun σ H R=>t σ H fun vs H1=>∃ (tp:Bool) (a:Addr),vs=[.ref a]∧(∃ xs,Sq tp K H1 a xs)∧R (Itn tp K a) H1
section
variable {X:Cx} {ea:Expr} {es:List Expr} {ek:Nat} {ep p pos:Pos}
theorem O6 {t:TA}(hg:Gl X "enumerate")(hm:X.mg "enumerate" = none)(ha:PA X [ea] t)(hs:starEach [ea] X.env=[(false,eval ea X.env)]:=by rfl) :
    PI X (.Tuple es ek ep) (.Call (.Name "enumerate" p) [ea] [] pos) (Sz X.K t):=by
  intro pins s σ H R I h
  refine Call_ (i3 I hg hm boot_enumerate (PyProof.Rows.callWith_type1 (thn (ha pos pins s σ H _ I h) fun us s1 ⟨vs,H1,I1,r1,q1⟩=>?_) (by rw[hs];rfl) rfl))
  obtain ⟨tp,a,e,⟨xs,qa⟩,q⟩:=q1
  subst e
  cases r1 with | cons r rr=>
  cases rr
  cases (show _=Value.ref a from r)
  obtain ⟨ia,ra,sa⟩:=Inv.sq I1 qa
  refine zV sa fun g en li kp=>wpAny_pyIter_enum en ?_
  refine ⟨s1.heap.objs.size+1,[s1.heap.objs.size+1,s1.heap.objs.size],_,_,H1,rfl,I1.kept (t':=s1.toks) kp,GP (tp:=tp) (a:=a) (Nat.succ_ne_self _),⟨⟨_,en⟩,li⟩,fun c hc=>?_,q⟩
  have hc':s1.heap.objs.size≤c:=by
    simp only[List.mem_cons,List.not_mem_nil,or_false] at hc
    rcases hc with rfl | rfl
    · exact Nat.le_succ _
    · exact Nat.le_refl _
  exact I1.D6 hc' (I1.hok.fresh hc')
def Fx (t:ATr):ATr:=fun ρ μ Q=>t ρ μ fun vs μ1=>match vs with
  | [x]=>kS x fun ds=>Q (kh ds) μ1
  | _=>False
theorem K0 {At:ATr}(hg:Gl X "enumerate")(hm:X.mg "enumerate" = none)(ha:LA X [ea] At)(hs:starEach [ea] X.env=[(false,eval ea X.env)]:=by rfl) :
    LI X (.Tuple es ek ep) (.Call (.Name "enumerate" p) [ea] [] pos) (Fx At):=by
  obtain ⟨t,pt,st⟩:=ha.ex
  refine ⟨_,O6 hg hm pt hs,fun σ H ρ μ Q R rl h k=>st σ H ρ μ _ _ rl h fun vs H1 ds μ1 t1 m1 p1 h1=>?_⟩
  split at h1
  case h_2=>exact False.elim h1
  cases p1 with | cons pa p2=>
  cases p2
  obtain ⟨tp,a,xs,dx,rfl,qa,la,h2⟩:=AF pa h1
  obtain ⟨a',xs',dx',ea',qa',la',h2⟩:=Au pa h2
  cases ea'
  refine ⟨tp,a,rfl,⟨xs',qa'⟩,k _ H1 _ μ1 t1 m1 ⟨fun i H' tk hi=>?_,fun i H' v H'' tk hi yv=>?_,fun i H' tk hi=>?_⟩ h2⟩
  · have l1:=la'.length
    rw[r9] at hi
    exact ⟨xs',xs'[i],tk.sq qa',by simp[show i < xs'.length by omega]⟩
  · obtain ⟨x,q,fx,rfl,fr,rfl⟩:=yv
    have ex:=fx _ (tk.sq qa')
    obtain ⟨d,ed,pd⟩:=la'.get' ex
    have tn:Tk H' (L2.upd H' q (.tup [.int i,x])):=.new fr
    exact ⟨tn,⟨.tup [.int i,d],by rw[sk,ed];rfl,.tup (SqT.of aP) (.cons (.int _) (.cons ((pd.mono tk).mono tn) .nil))⟩,fun μ' m'=>dk m' fr⟩
  · rw[r9] at hi
    exact ⟨xs',tk.sq qa',by rw[la'.length];exact hi⟩
end
end
section
open PySem PySem.Spec PyProof PyProof.Rows L2
section
variable {w:World} {prog:Program} {A:Around} {E:Value→Shared→Prop}
abbrev Qu (g:Heap)(b:Addr)(xs:Array Value):Prop:=∃ n,g.get? b=some { cls:=.type "list", dict:=none,data:=.seq xs n,slots:=#[] }
section
variable {R:Result→Shared→Prop} {I:Addr} {fp wr:List Addr} {n:Nat} {P:Nat→Value→Prop} {St:Nat→Heap→Prop}
theorem JT (W:Walks prog w A.in1 I fp wr n P St){bt:Nat→Nat→Bool}(cm:CmpOf prog w A.in1 .Gt P bt){S:Addr}(hS:S ∉ fp)(kw:List (Str×Value)) :
    ∀ (m:Nat) (j:Nat) (s:Shared) (vb:Value),j+1+m=n→St (j+1) s.heap→P (argBest bt j) vb→Qu s.heap S #[vb,vb]→
    (∀ v g tk,P (argBest bt (n - 1)) v→(∀ c o,c ∉ wr→c≠S→s.heap.get? c=some o→g.get? c=some o)→R (.ok (.ret v)) { s with heap:=g,toks:=tk })→
    codeAny (model prog w) A (.builtin "max.loop" ⟨[.ref I,.none,.ref S],kw⟩) R s:=by
  have sw:S ∉ wr:=fun h=>hS (W.sub _ h)
  have nm:(toString "max" ++ toString ".loop" : String) = "max.loop" := by decide
  intro m
  induction m with
  | zero=>
    intro j s vb en st pb ⟨ep,at'⟩ fin
    refine run_plain F.plain_max_loop F.entry_max_loop ?_
    show wpAny (model prog w) A.in1 (seqItems? (.ref S) >>= _) _ _ s
    refine wpAny_bind (wpAny_seqItems at' rfl ?_)
    show wpAny (model prog w) A.in1 (tryCatch (pyNext (.ref I)) _ >>= _) _ _ s
    refine wpAny_bind (wpAny_tryCatch (W.done s _ _ (by rw[← en];exact st) fun g tk kp=>?_))
    have at1:=kp S _ sw at'
    show wpAny (model prog w) A.in1 (updateSeq S (fun _=>#[]) >>= _) _ _ _
    refine wpAny_bind ?_
    refine wpAny_updateSeq at1 rfl ?_;refine wpAny_bind (wpAny_letGo (wpAny_pure ?_))
    exact fin vb _ tk (by rw[show n - 1=j by omega];exact pb) fun c o c1 c2 e=>(Heap.get?_update_other _ _ (Ne.symm c2)).trans (kp c o c1 e)
  | succ m ih=>
    intro j s vb en st pb ⟨ep,at'⟩ fin
    refine run_plain F.plain_max_loop F.entry_max_loop ?_
    show wpAny (model prog w) A.in1 (seqItems? (.ref S) >>= _) _ _ s
    refine wpAny_bind (wpAny_seqItems at' rfl ?_)
    show wpAny (model prog w) A.in1 (tryCatch (pyNext (.ref I)) _ >>= _) _ _ s
    refine wpAny_bind (wpAny_tryCatch (W.item (j+1) s _ _ (by omega) st fun v g tk pv st1 kp=>?_))
    have at1:=kp S _ sw at'
    show wpAny (model prog w) A.in1 (tryCatch (holding [v,v] (richCompare .Gt v vb >>= _)) _ >>= _) _ _ _
    refine wpAny_bind (wpAny_tryCatch (wpAny_holding (wpAny_bind (cm (j+1) (argBest bt j) v vb _ _ _ pv pb ?_))))
    refine wpAny_bind (wpAny_holding (wpAny_truthy_bool (wpAny_bind (wpAny_letGo (wpAny_pure ?_)))))
    cases better:bt (j+1) (argBest bt j) with
    | true=>
      rw[if_pos rfl]
      have bst:argBest bt (j+1)=j+1:=by rw[argBest,if_pos better]
      refine wpAny_bind ?_
      refine wpAny_updateSeq at1 rfl ?_
      refine wpAny_bind (wpAny_letGo ?_)
      rw[nm]
      refine wpAny_pure ⟨plainId_quiet F.plain_max_loop _,ih (j+1) _ v (by omega) (W.frame _ _ _ st1 fun c hc o e=>(Heap.get?_update_other _ _ (fun z:S=c=>hS (by rw[z];exact hc))).trans e) (by rw[bst];exact pv) ⟨_,Heap.get?_update_self _ at1 rfl⟩ fun v' g' tk' p' kp'=>?_⟩
      exact fin v' g' tk' p' fun c o c1 c2 e=>kp' c o c1 c2 ((Heap.get?_update_other _ _ (Ne.symm c2)).trans (kp c o c1 e))
    | false=>
      rw[if_neg Bool.false_ne_true]
      have bst:argBest bt (j+1)=argBest bt j:=by rw[argBest,if_neg (by rw[better];exact Bool.false_ne_true)]
      refine wpAny_bind (wpAny_letGo ?_)
      rw[nm]
      exact wpAny_pure ⟨plainId_quiet F.plain_max_loop _,ih (j+1) _ vb (by omega) st1 (by rw[bst];exact pb) ⟨_,at1⟩ fun v' g' tk' p' kp'=>fin v' g' tk' p' fun c o c1 c2 e=>kp' c o c1 c2 (kp c o c1 e)⟩
theorem Fh (W:Walks prog w A.in1 I fp wr n P St){bt:Nat→Nat→Bool}(cm:CmpOf prog w A.in1 .Gt P bt){S:Addr}(hS:S ∉ fp){s:Shared}{nm':Str}{d:Value}(st:St 0 s.heap)(at0:Qu s.heap S #[])
    (f0:n=0→∀ g tk,(∀ c o,c ∉ wr→c≠S→s.heap.get? c=some o→g.get? c=some o)→R (.ok (.ret d)) { s with heap:=g,toks:=tk })
    (f1:∀ v g tk,0 < n→P (argBest bt (n - 1)) v→(∀ c o,c ∉ wr→c≠S→s.heap.get? c=some o→g.get? c=some o)→R (.ok (.ret v)) { s with heap:=g,toks:=tk }) :
    codeAny (model prog w) A (.builtin "max.loop" ⟨[.ref I,.none,.ref S],[(nm',d)]⟩) R s:=by
  have sw:S ∉ wr:=fun h=>hS (W.sub _ h)
  have nm:(toString "max" ++ toString ".loop" : String) = "max.loop" := by decide
  obtain ⟨ep,at'⟩:=at0
  refine run_plain F.plain_max_loop F.entry_max_loop ?_
  show wpAny (model prog w) A.in1 (seqItems? (.ref S) >>= _) _ _ s
  refine wpAny_bind (wpAny_seqItems at' rfl ?_)
  show wpAny (model prog w) A.in1 (tryCatch (pyNext (.ref I)) _ >>= _) _ _ s
  rcases Nat.eq_zero_or_pos n with hn | hn
  · refine wpAny_bind (wpAny_tryCatch (W.done s _ _ (by rw[hn];exact st) fun g tk kp=>?_))
    show wpAny (model prog w) A.in1 (rule _ >>= _) _ _ _
    exact wpAny_bind (wpAny_rule (wpAny_pure (f0 hn g tk fun c o c1 c2 e=>kp c o c1 e)))
  · refine wpAny_bind (wpAny_tryCatch (W.item 0 s _ _ hn st fun v g tk pv st1 kp=>?_))
    have at1:=kp S _ sw at'
    show wpAny (model prog w) A.in1 (updateSeq S (fun _=>#[v,v]) >>= _) _ _ _
    refine wpAny_bind ?_
    refine wpAny_updateSeq at1 rfl ?_
    rw[nm]
    refine wpAny_pure ⟨plainId_quiet F.plain_max_loop _,JT W cm hS _ (n - 1) 0 _ v (by omega) (W.frame _ _ _ st1 fun c hc o e=>(Heap.get?_update_other _ _ (fun z:S=c=>hS (by rw[z];exact hc))).trans e) pv ⟨_,Heap.get?_update_self _ at1 rfl⟩ fun v' g' tk' p' kp'=>?_⟩
    exact f1 v' g' tk' hn p' fun c o c1 c2 e=>kp' c o c1 c2 ((Heap.get?_update_other _ _ (Ne.symm c2)).trans (kp c o c1 e))
end
variable {s:Shared}
theorem Dj (a d:Value):argsOk "max" ⟨[a],[(Str.ofString "default", d)]⟩:=by unfold argsOk;kernel_rfl
theorem Df (d:Value):Builtin.Builtins.bindParams "max" ["key", "default"] 0 ⟨[],[(Str.ofString "default", d)]⟩=pure [none,some d]:=by kernel_rfl
theorem IW {id:String}{bi:Builtin}{a:Args}{Q:Value→Shared→Prop}(hk:builtinKind id=none)(hp:plainId id=true)(hb:entryFor table id=some bi)(ha:argsOk id a)
    (h:wpAny (model prog w) A.in1 (bi a) (fun fin s'=>match fin with
      | .done f=>(match (Except.ok f:Result) with | .ok (.ret v)=>Q v s' | .ok _=>False | .error e=>E e s') | .again c'=>c'.quiet=true∧codeAny (model prog w) A c' (fun r s'=>match r with | .ok (.ret v)=>Q v s' | .ok _=>False | .error e=>E e s') s') E s):wpAny (model prog w) A (call (.builtin id) a.pos a.kw) Q E s:=by
  refine wpAny_call (codeAny_call_builtin hp hb ?_);simp only[checkBuiltinCall,hk]
  unfold argsOk at ha
  split<;>rename_i sg
  · rw[sg] at ha
    have ha':Bind.checkArgs id _ a=pure ():=ha
    rw[show (⟨a.pos,a.kw⟩:Args)=a from rfl,ha']
    exact wpAny_pure h
  · exact wpAny_pure h
theorem CZ {l:Addr}{xs:Array (Int×Tok)}{d:Value}{Q:Value→Shared→Prop}(hh:A.handled=none)(hl:s.heap.IsList l (intItems xs))
    (f0:xs.size=0→∀ g tk,Kept s g→Q d { s with heap:=g,toks:=tk })
    (f1:∀ v g tk,0 < xs.size→(intItems xs)[argBest (fun i j=>decide (numAt xs i > numAt xs j)) (xs.size - 1)]? = some v→Kept s g→Q v { s with heap:=g,toks:=tk }) :
    wpAny (model prog w) A (call (.builtin "max") [.ref l] [(Str.ofString "default", d)]) Q E s:=by
  have nm:(toString "max" ++ toString ".loop" : String) = "max.loop" := by decide
  refine IW (a:=⟨[.ref l],[(Str.ofString "default", d)]⟩) F.kind_max F.plain_max F.entry_max (Dj _ _) ?_
  show wpAny (model prog w) A.in1 (Builtin.Builtins.bindParams "max" ["key", "default"] 0 ⟨[],[(Str.ofString "default", d)]⟩ >>= _) _ _ s
  refine wpAny_bind (wpAny_of_eq (Df d) ?_)
  refine wpAny_bind (wpAny_pure ?_)
  refine wpAny_bind (iter_intList hl fun s₂ e st hfp hlI=>?_)
  subst e
  refine wpAny_bind (wpAny_newObj_type ?_);rw[nm]
  have W:=Walks.list (prog:=prog) (w:=w) (A:=A.in1) hh _ l hlI (intItems xs)
  have n1:(intItems xs).size=xs.size:=by simp[intItems]
  have S0:(s.heap.push { cls:=.type "list_iterator", data:=.fields #[.ref l,.int 0 0] }).objs.size ∉ [s.heap.objs.size,l]:=fun hm=>Nat.lt_irrefl _ (hfp _ hm)
  have old:∀ g,(∀ c o,c ∉ [s.heap.objs.size]→c≠(s.heap.push { cls:=.type "list_iterator", data:=.fields #[.ref l,.int 0 0] }).objs.size→((s.heap.push { cls:=.type "list_iterator", data:=.fields #[.ref l,.int 0 0] }).push { cls:=.type "list", data:=.seq ([]:List Value).toArray }).get? c=some o→g.get? c=some o)→Kept s g:=fun g kp c o e=>by
    have lt:=Heap.lt_size e
    exact kp c o (fun h=>by rw[List.mem_singleton.mp h] at lt;exact Nat.lt_irrefl _ lt) (by rw[Heap.size_push];exact Nat.ne_of_lt (Nat.lt_succ_of_lt lt)) (Heap.get?_push_of_some _ (Heap.get?_push_of_some _ e))
  refine wpAny_pure ⟨plainId_quiet F.plain_max_loop _,Fh W (CmpOf.ints_gt (numAt xs) fun _ _=>intItems_at) S0 (W.frame _ _ _ st fun c _ o e=>Heap.get?_push_of_some _ e) ⟨_,Heap.get?_push_size _ rfl⟩ (fun z g tk kp=>?_) fun v g tk hn pv kp=>?_⟩
  · exact f0 (by rw[← n1];exact z) g tk (old g kp)
  · rw[n1] at hn pv
    exact f1 v g tk hn pv (old g kp)
end
section
variable {X:Cx} {e d:Expr} {p pos kp:Pos} {Te Td:ETr}
def R7 (K:PySem.W.Frag)(xs:List V)(zs:List V)(H:Hp)(Q:VK):Prop:=∃ (p:Addr) (ns:List Int) (z:V),xs=[.ref p]∧zs=[z]∧SqL K H p (ns.map V.int)∧(ns=[]→Q z H)∧(ns≠[]→∀ M,M∈ns→(∀ a∈ns,a≤M)→Q (.int M) H)
theorem Lb {t tk:TA}(hc:X.calm=true)(hg:Gl X "max")(hm:X.mg "max" = none)(ha:PA X [e] t)(hkw:PK X [⟨some (Str.ofString "default"),d,kp⟩] tk)(he:backTo pos (starEach [e] X.env)=(false,eval e X.env)::backTo pos (starEach [] X.env):=by rfl)(hpl:(backTo pos (starEach [e] X.env)).any (·.1)=false:=by rfl) :
    PE X (.Call (.Name "max" p) [e] [⟨some (Str.ofString "default"),d,kp⟩] pos) (fun σ H Q=>t σ H fun xs H1=>tk σ H1 fun zs H2=>R7 X.K xs zs H2 Q):=by
  intro pins s σ H Q I h
  refine wpAny_Call_Name_kw (i3 I hg hm (u:=.builtin "max") (by rfl) ?_)
  refine callWith_kw (thn (ha pos pins s σ H _ I h) fun us s1 ⟨vs,H1,I1,r1,q1⟩=>thn (hkw pos pins s1 σ H1 _ I1 q1) fun ws s2 ⟨zs,H2,I2,rz,q2⟩=>?_) he hpl rfl rfl
  obtain ⟨q,ns,z,rfl,rfl,sq,k0,k1⟩:=q2
  obtain ⟨u,rfl,ru⟩:=vals1 r1
  cases ru
  obtain ⟨u,rfl,rz1⟩:=vals1 rz
  obtain ⟨its,rv,pl,_⟩:=I2.list sq
  obtain ⟨ps,rfl,rfl⟩:=ip (intsAre_of rv)
  have il:s2.heap.IsList q (intItems ps.toArray):=by
    have:=pl.isList
    simpa[intItems] using this
  have hs:ps.toArray.size=ps.length:=by simp
  refine CZ (I2.ok.hd hc) il (fun z0 g tk kp=>?_) fun v g tk hn hv hk=>?_
  · exact ⟨z,H2,I2.kept kp,rz1,k0 (by rw[hs] at z0;cases ps with | nil=>rfl | cons=>cases z0)⟩
  · rcases intItems_at hv with ⟨t,rfl⟩
    obtain ⟨b1,b2⟩:=argBest_gt (numAt ps.toArray) (ps.toArray.size - 1)
    generalize argBest (fun i j=>decide (numAt ps.toArray i > numAt ps.toArray j)) (ps.toArray.size - 1)=m at hv b1 b2
    rw[hs] at b1 b2 hn
    have hk':m < (ps.map Prod.fst).length:=by rw[List.length_map];omega
    refine ⟨.int _,H2,I2.kept hk,⟨t,rfl⟩,k1 (fun z=>by rw[List.map_eq_nil_iff.mp z] at hn;cases hn) _ ?_ fun a ha=>?_⟩
    · rw[qd,List.getElem?_eq_getElem hk']
      exact List.getElem_mem hk'
    · obtain ⟨j,hj,rfl⟩:=List.getElem_of_mem ha
      have:=b2 j (by rw[List.length_map] at hj;omega)
      rw[qd ps j,List.getElem?_eq_getElem hj] at this
      exact this
def B9 (Te Td:ETr):ETr:=fun ρ μ Q=>Te ρ μ fun x μ1=>Td ρ μ1 fun y μ2=>match x with
  | .ls xs=>∃ ns:List Int,xs=ns.map .int∧(ns=[]→Q y μ2)∧(ns≠[]→∀ M,M∈ns→(∀ a∈ns,a≤M)→Q (.int M) μ2)
  | _=>False
theorem Bn (hc:X.calm=true)(hg:Gl X "max")(hm:X.mg "max" = none)(ha:LE X e Te)(hd:LE X d Td)(h1:starEach [e] X.env=(false,eval e X.env)::starEach [] X.env:=by rfl)(he:backTo pos (starEach [e] X.env)=(false,eval e X.env)::backTo pos (starEach [] X.env):=by rfl)(hpl:(backTo pos (starEach [e] X.env)).any (·.1)=false:=by rfl) :
    LE X (.Call (.Name "max" p) [e] [⟨some (Str.ofString "default"),d,kp⟩] pos) (B9 Te Td):=by
  obtain ⟨te,pe,se⟩:=ha.ex
  obtain ⟨td,pd,sd⟩:=hd.ex
  refine ⟨_,Lb hc hg hm (ff pe i9 h1) (K2 pd Pl) he hpl,fun σ H ρ μ Q Q' rl h k=>se σ H ρ μ _ _ rl h fun x H1 dx μ1 t1 m1 p1 h1=>sd σ H1 ρ μ1 _ _ (rl.go t1 m1) h1 fun y H2 dy μ2 t2 m2 p2 h2=>?_⟩
  cases (p1.mono t2) with
  | @ls q xs ds sq l=>
    obtain ⟨ns,rfl,k0,k1⟩:=h2
    have ex:=l.ints_of
    subst ex
    exact ⟨q,ns,y,rfl,rfl,sq.sq,fun z=>k _ H2 _ μ2 (t1.trans t2) m2 p2 (k0 z),fun z M h3 h4=>k _ H2 _ μ2 (t1.trans t2) m2 (.int _) (k1 z M h3 h4)⟩
  | _=>exact False.elim h2
end
end
section
open PySem PySem.Spec PyProof.Rows L2
def uQ (It':ATr)(G:GTr)(tt:TTr)(te:ETr)(n:Nat)(caps:List Nat):ETr:=fun ρ μ Q=>It' ρ μ fun ds μ1=>∀ p,μ1 p=none→f9 p G tt te (fK ρ n caps) (fun μ'=>Q (.obj p) μ') ds (up μ1 p (.lst []))
theorem EO {X:Cx}{tg iter elt:Expr}{ifs:List Expr}{scope:Scope}{pos spos py:Pos}{y:Str}{iy:Nat}{wi:TI}{g:TG}{tt:TT}{te:TE}{Nc:List Str}{n:Nat}{caps:List Nat}
    (hxe:X.xe=fun _ _=>False) (hcalm:X.calm=true) (hi:PI X tg iter wi)
    (hbody:∀ (cl:List (Str×Addr)) (C:Addr) (s₀:Shared) (H₀:Hp) (ex:List Addr),PG (ba X scope Nc cl C s₀ H₀ ex) tg g∧yg (ba X scope Nc cl C s₀ H₀ ex) ifs tt∧PE (ba X scope Nc cl C s₀ H₀ ex) elt te)
    (hfree:∀ y∈scope.names,y.2=.free→X.env.kindOf y.1=some .cell) (hcell:∀ y∈scope.names,y.2≠.cell) (gD:scope.kind=.function)
    (hnames:∀ y∈scope.names,y.2=.local→scope.names.lookup y.1=some .local) (hlen:Nc.length=n+caps.length)
    (hcap:∀ (j k:Nat),caps[j]? = some k→∃ x,Nc[n+j]? = some x∧X.N[k]? = some x∧scope.names.lookup x=some .free)
    (pgy:PG X (.Name y py) (kM iy))
    (hsw:swapsWith (.ListComp elt [⟨tg,iter,ifs,0⟩] scope pos) (some (.Name y py)) spos.line X.env=pure true)
    (hs:∀ x,foldedSetIterable iter X.env x=pure x:=by intro _;rfl) :
    PS X (.Assign [.Name y py] (.ListComp elt [⟨tg,iter,ifs,0⟩] scope pos) spos) (Fs (kj wi g tt te n caps) (kM iy)):=
  xT (Z:=id) hxe hcalm hi hbody hfree hcell gD hnames hlen hcap pgy hsw (fun σ H Q h=>⟨_,h,fun pins D H5 s5 I5 q=>⟨H5,fun _ h=>h,I5,q⟩⟩) hs
theorem CG {K:PySem.W.Frag}{wi:TI}{It':ATr}{G:GTr}{Tt:TTr}{Te:ETr}{n:Nat}{caps:List Nat}(si:PN K wi It'):Sim K (kj wi (lH K n G) (liftT K Tt) (lE K Te) n caps) (uQ It' G Tt Te n caps):=by
  intro σ H ρ μ Q Q' rl h k
  refine si σ H ρ μ _ _ rl h fun J H1 ds μ1 t1 m1 Y h1 D hD=>?_
  have hp:=h1 D (m1.free hD)
  have tD:Tk H1 (L2.upd H1 D (.lst [])):=.new hD
  have mD:bO K (L2.upd H1 D (.lst [])) (up μ1 D (.lst [])):=fun a o e=>by
    by_cases ha:a=D
    · subst ha
      rw[aB] at e;cases e
      exact ⟨[],aP,.nil⟩
    · rw[aK ha] at e
      exact dk m1 hD a o e
  refine ⟨fun i m ys H2=>m=ds.length - i∧i≤ds.length∧Tk H1 H2∧∃ μ2,bO K H2 μ2∧f9 D G Tt Te (fK ρ n caps) (fun μ'=>Q (.obj D) μ') (ds.drop i) μ2,
    ⟨ds.length,by simp,Nat.zero_le _,tD,_,mD,by simpa using hp⟩,?_⟩
  rintro i m ys H2 ⟨rfl,hi,t12,μ2,m2,h2⟩
  by_cases hlt:i < ds.length
  · refine .inr ⟨Y.go i H2 t12 hlt,fun ys' H'=>Tk H1 H'∧∃ μ',bO K H' μ'∧f9 D G Tt Te (fK ρ n caps) (fun μ'=>Q (.obj D) μ') (ds.drop (i+1)) μ',fun ys' H' ⟨t',μ',m',h'⟩=>⟨ds.length - (i+1),by omega,rfl,hlt,t',μ',m',h'⟩,fun x H3 y=>?_⟩
    obtain ⟨t23,⟨d,ed,pd⟩,mk⟩:=Y.yld i H2 x H3 t12 hlt y
    have e:ds.drop i=d::ds.drop (i+1):=by
      refine (List.drop_eq_getElem_cons hlt).trans ?_
      congr 1
      rw[List.getElem?_eq_getElem hlt] at ed
      exact Option.some.inj ed
    rw[e] at h2
    have t13:=t12.trans t23
    have r3:Rl K (kc σ n caps) H3 (fK ρ n caps) μ2:=oR (rl.go (t1.trans t13) (mk _ m2)) n caps
    refine ⟨_,_,d,_,r3,pd,h2,fun σ4 H4 ρ4 μ4 t4 r4 kp h4=>⟨⟨kp.1.symm,fun j v ej=>?_⟩,_,_,_,r4,h4,fun b H5 μ5 t5 m5 h5=>?_⟩⟩
    · by_cases hj:n≤j
      · rw[kp.2 j hj];exact ej
      · obtain ⟨j',k',e1,_⟩:=jA ej
        omega
    · have t15:=t13.trans (t4.trans t5)
      cases b with
      | false=>exact qX ⟨t15,μ5,m5,h5⟩
      | true=>
        refine ro ⟨_,_,_,r4.go t5 m5,h5,fun v H6 d6 μ6 t6 m6 p6 h6=>?_⟩
        obtain ⟨zs,ez,lz,h7⟩:=bP h6
        obtain ⟨xs,ex,lx⟩:=m6 D _ ez
        have t67:Tk H6 (L2.upd H6 D (.lst (xs++[v]))):=.upd (fun ys z=>by rw[ex] at z;cases z) fun o' u z=>by rw[ex] at z;cases z
        refine ⟨xs,ex,by rw[lx.length];exact Nat.lt_of_lt_of_le lz (by decide),(t15.trans t6).trans t67,up μ6 D (.lst (zs++[d6])),fun a o ea=>?_,h7⟩
        by_cases ha:a=D
        · subst ha
          rw[aB] at ea;cases ea
          exact ⟨_,aP,(lx.append (.cons p6 .nil)).mono t67⟩
        · rw[aK ha] at ea
          exact (m6 a _ ea).ne t67 ha
  · have e:i=ds.length:=by omega
    subst e
    rw[List.drop_length] at h2
    exact .inl ⟨Y.stop _ H2 t12 (Nat.le_refl _),k _ _ _ μ2 (t1.trans t12) m2 (.obj _) h2⟩
theorem Hv {X:Cx}{tg elt iter:Expr}{Te:ETr}{Tt:TTr}{pos spos py:Pos}{y:Str}{It':ATr}{G:GTr}{ifs:List Expr}{scope fsc:Scope}(iy:Nat)(hN:X.N.Nodup)(XN Nc:List Str)(n:Nat)(caps:List Nat)(hxe:X.xe=fun _ _=>False)(hcalm:X.calm=true)(hi:LI X tg iter It')
    (hbody:∀ (cl:List (Str×Addr)) (C:Addr) (s₀:Shared) (H₀:Hp) (ex:List Addr),LGc (ba X scope Nc cl C s₀ H₀ ex) n tg G∧vV (ba X scope Nc cl C s₀ H₀ ex) ifs Tt∧LE (ba X scope Nc cl C s₀ H₀ ex) elt Te)
    (hsc:X.env.scope=fsc) (hXN:X.N=XN) (hok:ij fsc.names XN scope Nc n caps=true)
    (hiy:X.N[iy]? = some y:=by rfl) (hx:Loc X.env.scope y:=by first | exact Or.inl rfl | exact Or.inr rfl) (hf:X.fn y=true∨X.env.scope.names.lookup y=some .local:=by first | exact .inl rfl | exact .inr rfl | assumption)
    (hsw:swapsWith (.ListComp elt [⟨tg,iter,ifs,0⟩] scope pos) (some (.Name y py)) spos.line X.env=pure true:=by rfl)
    (hs:∀ x,foldedSetIterable iter X.env x=pure x:=by intro _;rfl) :
    LS X (.Assign [.Name y py] (.ListComp elt [⟨tg,iter,ifs,0⟩] scope pos) spos) (aN (uQ It' G Tt Te n caps) (aw iy)):=by
  unfold ij at hok
  simp only[Bool.and_eq_true,List.all_eq_true] at hok
  obtain ⟨⟨⟨h1,h2⟩,h3⟩,h4⟩:=hok
  obtain ⟨wi,pi,si⟩:=hi.ex
  refine ⟨_,EO (g:=lH X.K n G) (tt:=liftT X.K Tt) (te:=lE X.K Te) hxe hcalm pi (fun cl C s₀ H₀ ex=>let ⟨h1,h2,h3⟩:=hbody cl C s₀ H₀ ex;⟨h1.pe,h2.pe,h3.pe⟩) (fun y hy hf=>?_) (fun y hy hf=>?_) (by simpa using h2) (fun y hy hf=>?_) (by simpa using h3) (fun j k hj=>?_) (iK hN hiy hx hf) hsw hs,fun σ H ρ μ E E' rl h k=>CG si σ H ρ μ _ _ rl h fun v H' d μ' t' m' p' h'=>iJ iy σ H' ρ μ' v d _ _ (rl.go t' m') p' h' (k.go t').nx⟩
  · have:=(h1 y hy).1.1
    show X.env.scope.names.lookup y.1=_
    rw[hsc]
    simpa[hf] using this
  · have:=(h1 y hy).1.2
    simp[hf] at this
  · have:=(h1 y hy).2
    simpa[hf] using this
  · have hl:j < caps.length:=(List.getElem?_eq_some_iff.mp hj).1
    have:=h4 j (List.mem_range.mpr hl)
    rw[hj] at this
    dsimp only at this
    rw[hXN]
    cases e:XN[k]? with
    | none=>rw[e] at this;cases this
    | some x=>
      rw[e] at this
      dsimp only at this
      rw[Bool.and_eq_true] at this
      exact ⟨x,by simpa using this.1,rfl,by simpa using this.2⟩
section
variable {X:Cx} {o i:Expr} {To Ti:ETr} {apos cpos:Pos}
end
end
section
open PySem PySem.Spec PyProof.Rows L2
section
variable {X:Cx} {o i:Expr} {To Ti:ETr} {apos cpos:Pos}
theorem Ao (l:Addr)(its:Array Value)(n:Nat)(q:Addr)(its2:Array Value)(n2:Nat)(dd:Option Addr)(sl:Array (Option Value))(h0:¬ (!its.isEmpty&&Builtin.List.listTooLong (its.size+its2.size))=true)(h1:its.size≤sizeLine)(h2:its.size+its2.size≤sizeLine+1) :
    Meets (Builtin.«list.extend» ⟨[.ref l,.ref q],[]⟩) (fun _ R s=>s.heap.get? l=some { cls:=.type "list", dict:=none,data:=.seq its n,slots:=#[] }∧s.heap.get? q=some { cls:=.type "tuple", dict:=dd,data:=.seq its2 n2,slots:=sl }∧
      R (.ok (.ret Value.none)) { s with heap:=s.heap.update l (Obj.mapSeq fun x=>x++its2) }):=
  .of_wp fun prog w A R s h=>by
    rcases s with ⟨hp,g,d,tk,os⟩
    obtain ⟨hl,hb,h⟩:=h
    have z1:=PySem.AutoSeq1.idx_int
    have z2:=PySem.AutoSeq1.sub_tuple_tuple
    have z3:=PySem.AutoSeq1.sub_list_list
    have z4:=PySem.AutoSeq1.sub_tuple_list
    have z5:=PySem.AutoSeq1.sub_list_tuple
    have hz':(its++its2).size≤sizeLine+1:=by rw[Array.size_append];omega
    wp_walk using (wpAny_updateSeq hl rfl (hz:=h1) (_hz':=hz')),wpAny_loadPart' hl,wpAny_loadPart' hb
    exact ⟨_,rfl,h⟩
def Qr (K:PySem.W.Frag):V→List V→Hp→VK→Prop:=fun x vs H Q=>∃ l b xs zs,x=.ref l∧vs=[.ref b]∧H l=some (.lst xs)∧(SqL K H b zs∨SqT K H b zs)∧xs.length+zs.length≤sizeLine∧Q .non (L2.upd H l (.lst (xs++zs)))
theorem Mf:MtM X "list.extend" (Qr X.K):=by
  intro pins s σ H x vs v us Q I rx rv h
  obtain ⟨l,q,xs,zs,rfl,rfl,hH,hB,hz,qq⟩:=h
  rcases hB with hB | hB
  · exact OM pins s σ H _ _ v us Q I rx rv ⟨l,q,xs,zs,rfl,rfl,hH,hB,hz,qq⟩
  cases (show v=Value.ref l from rx)
  obtain ⟨u,rfl,ru⟩:=rv.one
  cases (show u=Value.ref q from ru)
  obtain ⟨z,its,n,r,hl,e⟩:=I.JV hH
  obtain ⟨its2,r2,⟨o,e2,c2,n2,dat2⟩,_⟩:=I.tuple hB
  have e2':s.heap.get? q=some ⟨.type "tuple", o.dict,.seq its2.toArray n2,o.slots⟩:=by
    rw[e2];obtain ⟨c',dd,dt,sl⟩:=o;simp only at c2 dat2;subst c2 dat2;rfl
  have hl2:=r2.length
  have hs2:its.toArray.size+its2.toArray.size≤sizeLine:=by rw[List.size_toArray,List.size_toArray];omega
  have FK:¬ (!its.toArray.isEmpty&&Builtin.List.listTooLong (its.toArray.size+its2.toArray.size))=true:=by
    rw[ym hs2,Bool.and_false];decide
  refine call_meets F.slot_list_extend ⟨_,e,rfl⟩ F.entry_list_extend (F.args_list_extend_2 _ _) (Ao l its.toArray n q its2.toArray n2 o.dict o.slots FK (by omega) (by omega)) ⟨e,e2',?_⟩
  refine ⟨.non,_,I.Lu (its':=its++its2) hH e (by simp) (r.append r2) ?_,rfl,qq⟩
  rw[List.length_append];omega
def vI (To Ti:ETr):ETr:=fun ρ μ Q=>To ρ μ fun x μ1=>kObj x fun a=>kL μ1 a fun _=>Ti ρ μ1 fun y μ2=>DX μ2 y fun es=>kL μ2 a fun ds=>ds.length+es.length≤1000000∧Q .non (up μ2 a (.lst (ds++es)))
theorem FL {K:PySem.W.Frag}{H:Hp}{μ:Mu}{x:V}{dx:D}{f:List D→Prop}(m:bO K H μ)(p:Dp K H x dx)(h:DX μ dx f):∃ q xs ds,x=.ref q∧(SqL K H q xs∨SqT K H q xs)∧DpL K H xs ds∧f ds:=by
  cases p with
  | tup sq l=>exact ⟨_,_,_,rfl,.inr sq,l,h⟩
  | ls sq l=>exact ⟨_,_,_,rfl,.inl sq.sq,l,h⟩
  | obj q=>
    obtain ⟨ds,e0,h⟩:=bP (show kL μ q _ from h)
    obtain ⟨xs,ex,l⟩:=m q _ e0
    exact ⟨q,xs,ds,rfl,.inl (SqL.of ex),l,h⟩
  | _=>exact False.elim h
theorem u4 (ho:LE X o To)(hi:LE X i Ti)
    (hbase:attributeBase o "extend" X.env (eval o X.env)=eval o X.env:=by rfl)
    (hfew:((backTo cpos (starEach [i] X.env)).all (fun x=>!x.1)&&(backToKw cpos (keywordEach [] X.env)).all (fun x=>x.1.isSome)
      && decide (([i]:List Expr).length+([]:List Keyword).length+(if ([]:List Keyword).isEmpty then 0 else 1) < 30))=true:=by rfl)
    (hline:(apos.endLine == cpos.line)=true:=by rfl) (hs:starEach [i] X.env=(false,eval i X.env)::starEach [] X.env:=by rfl) (hplain:(backTo cpos (starEach [] X.env)).any (·.1)=false:=by rfl) :
    LE X (.Call (.Attribute o "extend" apos) [i] [] cpos) (vI To Ti):=by
  obtain ⟨to,po,so⟩:=ho.ex
  obtain ⟨ti,pi,si⟩:=hi.ex
  refine ⟨_,BA PySem.F.plainAttrs_list PySem.F.slot_list_extend PySem.F.type_list_extend Mf po (ff pi i9 hs) hbase hfew hline hs hplain,fun σ H ρ μ Q Q' rl h k=>so σ H ρ μ _ _ rl h fun x H1 dx μ1 t1 m1 p1 h1=>?_⟩
  obtain ⟨q,rfl,h1⟩:=iw p1 h1
  obtain ⟨ds0,e0,h1⟩:=bP h1
  obtain ⟨xs0,ex0,_⟩:=m1 q _ e0
  refine ⟨.inl ⟨rfl,_,SqL.of ex0⟩,si σ H1 ρ μ1 _ _ (rl.go t1 m1) h1 fun y H2 dy μ2 t2 m2 p2 h2=>?_⟩
  obtain ⟨q',ys,es,rfl,sq,l',h2⟩:=FL m2 p2 h2
  obtain ⟨ds,e2,hz,h2⟩:=bP h2
  obtain ⟨xs,ex,l⟩:=m2 q _ e2
  exact ⟨q,q',xs,ys,rfl,rfl,ex,sq,by rw[l.length,l'.length];exact big hz,k _ _ _ _ ((t1.trans t2).trans (kG ex)) (Ei m2 ex (l.append l')) .non h2⟩
end
end
theorem KW (a b:ETr)(ρ:ST)(μ:Mu)(Q:DK):IJ a b ρ μ Q=a ρ μ fun x μ1=>b ρ μ1 fun y μ2=>kI x fun i=>kI y fun j=>((-4611686018427387904≤i∧i < 4611686018427387904)∧(-4611686018427387904≤j∧j < 4611686018427387904)∧(j - i).toNat≤1000000)∧Q (.tup (cL i (j - i).toNat)) μ2:=propext Iff.rfl
def Oz (x y:D)(μ:Mu)(Q:DK):Prop:=match x with
  | .ls xs=>∃ ns:List Int,xs=ns.map .int∧(ns=[]→Q y μ)∧(ns≠[]→∀ M,M∈ns→(∀ a∈ns,a≤M)→Q (.int M) μ)
  | _=>False
theorem L6 (a b:ETr)(ρ:ST)(μ:Mu)(Q:DK):B9 a b ρ μ Q=a ρ μ fun x μ1=>b ρ μ1 fun y μ2=>Oz x y μ2 Q:=propext Iff.rfl
theorem Jt (a b:ETr)(ρ:ST)(μ:Mu)(Q:DK):vI a b ρ μ Q=a ρ μ fun x μ1=>kObj x fun a=>kL μ1 a fun _=>b ρ μ1 fun y μ2=>DX μ2 y fun es=>kL μ2 a fun ds=>ds.length+es.length≤1000000∧Q .non (up μ2 a (.lst (ds++es))):=propext Iff.rfl
theorem Nf (μ:Mu)(ds:List D)(f:List D→Prop):DX μ (.tup ds) f=f ds:=propext Iff.rfl
theorem O9 (μ:Mu)(ds:List D)(f:List D→Prop):DX μ (.ls ds) f=f ds:=propext Iff.rfl
def ENM (vs:List D)(μ:Mu)(Q:List D→Mu→Prop):Prop:=match vs with
  | [x]=>kS x fun ds=>Q (kh ds) μ
  | _=>False
theorem Lw (t:ATr)(ρ:ST)(μ:Mu)(Q:List D→Mu→Prop):Fx t ρ μ Q=t ρ μ fun vs μ1=>ENM vs μ1 Q:=propext Iff.rfl
theorem Rr (x:D)(μ:Mu)(Q:List D→Mu→Prop):ENM [x] μ Q=kS x fun ds=>Q (kh ds) μ:=propext Iff.rfl
def MR (G:GTr)(tt:TTr)(te:ETr)(ρc:ST)(ds:List D)(μ:Mu)(Q:DK):Prop:=∀ p,μ p=none→f9 p G tt te ρc (fun μ'=>Q (.obj p) μ') ds (up μ p (.lst []))
theorem Er (it:ATr)(G:GTr)(tt:TTr)(te:ETr)(n:Nat)(caps:List Nat)(ρ:ST)(μ:Mu)(Q:DK):uQ it G tt te n caps ρ μ Q=it ρ μ fun ds μ1=>MR G tt te (fK ρ n caps) ds μ1 Q:=propext Iff.rfl
theorem F3 (xs:List D)(μ:Mu)(Q:DK):dz pQ [.tup xs] μ Q = ∃ ns:List Int,(xs=ns.map .int∧ns.length < 64)∧∀ ns':List Int,ns'.Perm ns→ns'.Pairwise (·≤·)→Q (.ls (ns'.map .int)) μ:=propext Iff.rfl
theorem JL (xs:List D)(μ:Mu)(Q:DK):dz BW [.ls xs] μ Q = ∃ ns:List Int,xs=ns.map .int∧Q (.int ns.sum) μ:=propext Iff.rfl
theorem QF (o:Option Int)(μ Q):rIs (cZ o) .non μ Q=Q (.bl (decide (o=none))) μ:=by cases o<;>simp[rIs,cZ]
def iA (ns:List Int):List Int:=ns.mergeSort (fun a b=>decide (a≤b))
theorem iN (ns:List Int):(iA ns).Perm ns:=List.mergeSort_perm ..
theorem pD (ns:List Int):(iA ns).Pairwise (·≤·):=by
  have:=List.pairwise_mergeSort (le:=fun a b:Int=>decide (a≤b)) (fun a b c h1 h2=>by simp at *;omega) (fun a b=>by simp;omega) ns
  exact this.imp fun h=>by simpa using h
theorem jL:∀ {a b:List Int},a.Perm b→a.Pairwise (·≤·)→b.Pairwise (·≤·)→a=b
  | [],b,h,_,_=>(List.nil_perm.mp h).symm
  | x::a,[],h,_,_=>absurd h (by simp)
  | x::a,y::b,h,ha,hb=>by
    have ha':=List.pairwise_cons.mp ha
    have hb':=List.pairwise_cons.mp hb
    have hx:x∈y::b:=h.mem_iff.mp List.mem_cons_self
    have hy:y∈x::a:=h.mem_iff.mpr List.mem_cons_self
    have e:x=y:=by
      rcases List.mem_cons.mp hx with e | e
      · exact e
      · rcases List.mem_cons.mp hy with e' | e'
        · exact e'.symm
        · have h1:=ha'.1 y e'
          have h2:=hb'.1 x e
          omega
    subst e
    rw[jL ((List.perm_cons x).mp h) ha'.2 hb'.2]
theorem xm {a ns:List Int}(h:a.Perm ns)(s:a.Pairwise (·≤·)):a=iA ns:=jL (h.trans (iN ns).symm) s (pD ns)
theorem l4 (ns:List Int):(iA ns).length=ns.length:=(iN ns).length_eq
def own (n:Str)(ls:List Lt):List Lt:=ls.filter fun l=>decide (l.nm=n)
def St'.und (x:St')(n:Str):Int:=(x.ws.map fun w=>((own n (w.cm++w.st)).length:Int)).sum
def iz (lf:Option Int)(places:Int):Int:=match lf with
  | none=>places
  | some l=>min places l
def rgI (a:Int)(n:Nat):List Int:=(List.range n).map fun (i:Nat)=>a+(i:Int)
theorem Q6 (a:Int)(n:Nat):cL a n=(rgI a n).map .int:=by unfold cL rgI;rw[List.map_map];rfl
def Ss.fill (x:Ss)(pl:Nat):Ss×List Int:=
  let c:=iz x.lf ((pl:Int) - ((x.ag.take pl).length:Int))
  (⟨x.nm,x.du,x.W,x.S,x.nx+c,x.lf.map (· - c),x.ag.drop (x.ag.take pl).length,x.lo,x.gd,x.mk',x.wt⟩,x.ag.take pl++rgI x.nx c.toNat)
def Ss.hd (x:Ss):Hd:=⟨x.gd,x.mk',x.lo.length,x.wt⟩
def Ss.rdy (g:Int)(R:RN)(x:Ss):Ss:=⟨x.nm,x.du,(R.beh g x.W x.S x.hd).1,(R.beh g x.W x.S x.hd).2,x.nx,x.lf,iA (x.ag++x.lo),[],0,0,0⟩
def Ss.bt (g:Int)(s:Sn)(x:Ss)(u:Int):Ss×List Int:=if x.du=some 0 then (x.rdy g s.rl).fill (max 0 ((s.rl.beh g x.W x.S x.hd).1 / g - u)).toNat else (x,[])
def eZ (ns:List (List Int)):Nat:=(ns.map List.length).foldr max 0
def lL (ss:List Sn)(ns:List (List Int)):List (Str×Lt):=
  (List.range (eZ ns)).flatMap fun t=>(List.zip ss ns).filterMap fun p=>p.2[t]?.map fun n=>(p.1.rd.headD (Str.ofString ""),⟨p.1.nm,n,0,0,0⟩)
def sdD (x:Str×Lt):D:=.tup [.str x.1,x.2.toD]
structure Wt where
  ca:List Lt
  lo:List Lt
  ou:List Lt
  st:List Lt
  la:Str
def Wt.toD (x:Wt):D:=.tup [.tup (ltD x.ca),.tup (ltD x.lo),.tup (ltD x.ou),.tup (ltD x.st),.str x.la]
def pass (w:Wy)(ns:List Str)(k:Ws)(aU:List (Str×Lt)):Wt:=
  let ca:=k.cm++(aU.filter fun x=>decide (x.1=w.nm)).map (·.2)
  let h:=tk w k.st ca
  let t:=cP w ns h.1 k.la
  ⟨ca,h.2,t.1,t.2.1,t.2.2⟩
def ka (ss:List Sn):List (L2.Key×D):=ss.map fun s=>(.inr s.nm,.tup (s.rd.map .str))
def road (ss:List Sn)(n:Str):List Str:=((ss.find? fun s=>decide (s.nm=n)).map Sn.rd).getD []
def fc (ss:List Sn)(l:Lt):Option Str:=(road ss l.nm)[l.hp.toNat+1]?
def xR:Option Str→D
  | none=>.non
  | some s=>.str s
structure Ev where
  wd:Str
  nm:Str
  nu:Int
  wy:Str
def Ev.toD (x:Ev):D:=.tup [.str x.wd,.str x.nm,.int x.nu,.str x.wy]
abbrev evD (xs:List Ev):List D:=xs.map Ev.toD
def evs (ss:List Sn)(w:Wy)(x:Wt):List Ev:=
  (x.ca.zipIdx.map fun p=>⟨if (p.2:Int) < (x.ca.length:Int) - x.lo.length then Str.ofString "in" else Str.ofString "lost", p.1.nm,p.1.nu,w.nm⟩) ++
  x.ou.map fun l=>⟨if fc ss l=none then Str.ofString "taken" else Str.ofString "out", l.nm,l.nu,w.nm⟩
def Lt.pR (x:Lt)(h:Int):Lt:=⟨x.nm,x.nu,x.ag+1,x.hp+h,x.mr⟩
def Ah (ss:List Sn)(w:Wy)(x:Wt)(out:List Lt):Ws:=⟨(out.filter fun l=>decide (fc ss l=some w.nm)).map (·.pR 1),x.st.map (·.pR 0),x.la⟩
def DL (s:Sn)(d:Option Int):Option Int:=d.map fun i=>if i=0 then s.bt - 1 else i - 1
def pw (d:Int):List Int→Int
  | []=>d
  | a::r=>(a::r).tail.foldl max a
def ky (s:Sn)(x:Ss)(bG taken:List Lt):Ss:=
  let o:=own s.nm taken
  let m:=(o.map Lt.mr).sum
  ⟨x.nm,DL s x.du,x.W,x.S,x.nx,x.lf,x.ag,iA (x.lo++(own s.nm bG).map Lt.nu),x.gd+o.length - m,x.mk'+m,max x.wt (pw 0 (o.map fun l=>l.ag - l.hp))⟩
def Pn.bz (p:Pn)(st:St'):List (Ss×List Int):=List.zipWith (fun s k=>k.bt p.g s (st.und k.nm)) p.ss st.ss
def Pn.aU (p:Pn)(st:St'):List (Str×Lt):=lL p.ss ((p.bz st).map (·.2))
def Pn.cI (p:Pn)(st:St'):List Wt:=List.zipWith (fun w k=>pass w p.sn k (p.aU st)) p.ws st.ws
def Pn.bG (p:Pn)(st:St'):List Lt:=(p.cI st).flatMap Wt.lo
def Pn.out (p:Pn)(st:St'):List Lt:=(p.cI st).flatMap Wt.ou
def Pn.taken (p:Pn)(st:St'):List Lt:=(p.out st).filter fun l=>decide (fc p.ss l=none)
def Pn.step (p:Pn)(st:St'):St':=⟨List.zipWith (fun w x=>Ah p.ss w x (p.out st)) p.ws (p.cI st),List.zipWith (fun s b=>ky s b.1 (p.bG st) (p.taken st)) p.ss (p.bz st)⟩
def Pn.evs (p:Pn)(st:St'):List Ev:=(p.aU st).map (fun x=>⟨Str.ofString "sent", x.2.nm,x.2.nu,x.1⟩)++(List.zipWith (fun w x=>L3.evs p.ss w x) p.ws (p.cI st)).flatten
theorem Sw (x:Wt)(μ:Mu)(Q:DK):L3.rIx x.toD (.int 0) μ Q=Q (.tup (ltD x.ca)) μ:=propext Iff.rfl
theorem Tz (x:Wt)(μ:Mu)(Q:DK):L3.rIx x.toD (.int 1) μ Q=Q (.tup (ltD x.lo)) μ:=propext Iff.rfl
theorem So (x:Wt)(μ:Mu)(Q:DK):L3.rIx x.toD (.int 2) μ Q=Q (.tup (ltD x.ou)) μ:=propext Iff.rfl
theorem SJ (x:Wt)(μ:Mu)(Q:DK):L3.rIx x.toD (.int 3) μ Q=Q (.tup (ltD x.st)) μ:=propext Iff.rfl
theorem S5 (x:Wt)(μ:Mu)(Q:DK):L3.rIx x.toD (.int 4) μ Q=Q (.str x.la) μ:=propext Iff.rfl
theorem S7 (x:Ev)(μ:Mu)(Q:DK):L3.rIx x.toD (.int 0) μ Q=Q (.str x.wd) μ:=propext Iff.rfl
theorem TU (x:Ev)(μ:Mu)(Q:DK):L3.rIx x.toD (.int 1) μ Q=Q (.str x.nm) μ:=propext Iff.rfl
theorem Ts (x:Ev)(μ:Mu)(Q:DK):L3.rIx x.toD (.int 2) μ Q=Q (.int x.nu) μ:=propext Iff.rfl
theorem SS (x:Ev)(μ:Mu)(Q:DK):L3.rIx x.toD (.int 3) μ Q=Q (.str x.wy) μ:=propext Iff.rfl
theorem Rn (i0 i1:Nat)(x:Str×Lt)(ρ:ST)(μ:Mu)(k:ST→Mu→Prop):fA [i0,i1] (sdD x) ρ μ k=fA [i0,i1] (.tup [.str x.1,x.2.toD]) ρ μ k:=propext Iff.rfl
def RN.sh1 (R:RN)(g S:Int)(h:Hd):Int:=if R.idle h then S else R.shr g S h
theorem J1 (R:RN)(g W S:Int)(h:Hd):(R.beh g W S h).2=R.sh1 g S h:=by
  unfold RN.beh RN.sh1;split<;>rfl
theorem OD {R:RN}(k:R.Ok){g S:Int}{h:Hd}(H:h.Ok)(g0:0 < g)(S0:0≤S)(S1:S≤g):0≤R.sh1 g S h∧R.sh1 g S h≤g:=by
  unfold RN.sh1
  split
  · exact ⟨S0,S1⟩
  · rename_i hn;exact Hj k H hn g0 S0 S1
theorem LD {R:RN}(K:R.Ok){g:Int}(g0:0 < g)(x:Int):g≤R.clip g x∧R.clip g x≤R.cap g:=by
  have c2:=HK K (g:=g) g0
  unfold RN.clip;omega
def Qh:=Jn @KW <| Jn @L6 <| Jn @Jt <| Jn @Nf <| Jn @O9 <| Jn @Lw <| Jn @Rr <| Jn @Er <| Jn @F3 <| Jn @JL <| Jn @QF <| Jn @Sw <| Jn @Tz <| Jn @So <| Jn @SJ <| Jn @S5 <| Jn @S7 <| Jn @TU <| Jn @Ts <| Jn @SS <| Jn @Rn <| @RF
local macro_rules | `(tactic| walk_at "go")=>`(tactic| try simp only[↓Qh,CI,↓xq,↓xi,↓vW,↓wu,↓xo,↓vR,↓j2,↓iZ,cE,bW,cF,cz,cB,cy,cO,cT,bV,cw,cx,cC,cG,cW,cD,cU,cA,cN,cu,cX,iR,tM,tW,fK,List.map_cons,List.map_nil,List.replicate,List.cons_append,List.nil_append,lk,D1,Aq,D3,CD,j9,gI,sX,nz,sY,sI,mH,mJ,j5,jV,j4,jZ,true_and,and_true,and_self,Bool.not_true,Bool.not_false,decide_true,decide_false,Bool.or_true,Bool.or_false,Bool.true_or,Bool.false_or,Bool.and_false,Bool.false_and,Bool.and_true,Bool.true_and,Int.reduceToNat,Int.reducePow,Int.reduceNeg,Int.reduceSub,Int.reduceAdd,Int.reduceMul,Int.reduceEq,Int.reduceLT,Int.reduceLE,Int.reduceBEq,iH,gs,gr,gu,gj,gq,gn,gi,if_true,if_false,Bool.false_eq_true,reduceCtorEq,decide_eq_true_eq])
theorem fH {α β:Type}(p:α→Prop) [DecidablePred p] (f:α→β):∀ xs:List α,xs.filterMap (fun x=>if p x then some (f x) else none)=(xs.filter fun x=>decide (p x)).map f
  | []=>rfl
  | x::r=>by by_cases h:p x<;>simp[h,fH p f r]
theorem G7 {μ:Mu}{Q:DK}(ls:List Lt)(n:Str)(hl:ls.length≤900000)(ok:∀ x∈ls,PyData.strOk x.nm=true)(hn:PyData.strOk n=true)(k:Q (.ls (ltD (own n ls))) μ) :
    qP (aw 0) (TB (ak rEq (ak rIx (ah 0) (TC (.int 0))) (ah 1))) (ah 0) [none,some (.str n)] (ltD ls) μ Q:=by
  refine lP ls Lt.toD (fun x=>if x.nm=n then some x.toD else none) rfl (by omega) (fun x hx μ' _ N nn=>?_) ?_
  · walk_at "go"
    refine ⟨⟨ok x hx,hn⟩,kif (fun h=>?_) (fun h=>?_)⟩
    · rw[if_pos h] at nn;exact nn
    · rw[if_neg h] at nn;exact nn
  · rw[fH (fun x:Lt=>x.nm=n) Lt.toD];exact k
def RS (ls:List Lt):Prop:=∀ x∈ls,PyData.strOk x.nm=true
structure Ws.Ok (w:Ws):Prop where
  n:RS (w.cm++w.st)
  l:w.cm.length+w.st.length≤900000
def dS:FSp:=fun ds μ Q=>match ds with
  | [d,.str n]=>∃ (g:Int) (x:St'),(d=x.toD g∧(∀ w∈x.ws,w.Ok)∧PyData.strOk n=true)∧Q (.int (x.und n)) μ
  | _=>False
theorem rP:∀ ds μ Q,dS ds μ Q→ds.length=2:=by
  unfold dS
  walk_at "ln"
def m9:STr:=aD (aN (TC (.int 0)) (aw 2)) (aD (gK (cQ (ak L3.rIx (ah 0) (TC (.int 0)))) (aw 3) (JE (fun m n=>m+n) 2 (av eL (af (bL (cQ (ak aT (ak L3.rIx (ah 3) (TC (.int 0))) (ak L3.rIx (ah 3) (TC (.int 1))))) (aw 0) (TB (ak rEq (ak L3.rIx (ah 0) (TC (.int 0))) (ah 1))) (ah 0) 1 [1]) (ar))))) (aY (ah 2)))
theorem t7:∀ ds μ Q,dS ds μ Q→m9 { nx:=fun _ μ'=>RT Q .non μ',rt:=RT Q } (ini 4 ds) μ:=by
  intro ds μ Q h
  unfold dS at h
  split at h
  case h_2=>exact h.elim
  rename_i d n
  walk_at "ini"
  unfold m9
  walk_at "go"
  obtain ⟨g,x,⟨rfl,hw,hn⟩,k⟩:=h
  walk_at "go"
  refine bK (fun r ρ μ'=>∃ (a c:List Ws) (v3:Option D),r=wsD c∧ρ=[some (x.toD g),some (.str n),some (.int (a.map fun w=>((own n (w.cm++w.st)).length:Int)).sum),v3]∧μ'=μ∧a++c=x.ws) ?_ ?_ _ _ _ ⟨[],x.ws,_,rfl,rfl,rfl,rfl⟩
  · rintro ρ μ' ⟨a,c,v3,er,rfl,rfl,e⟩
    have:c=[]:=by cases c with | nil=>rfl | cons=>cases er
    subst this
    rw[List.append_nil] at e
    subst e
    walk_at "go"
    exact ⟨_,.refl _,k⟩
  · rintro d r ρ μ' N ⟨a,c,v3,er,rfl,rfl,e⟩ hN
    cases c with
    | nil=>cases er
    | cons w c=>
    cases er
    have ho:=hw w (by rw[← e];simp)
    walk_at "go"
    have hl:=ho.l
    refine ⟨by simp;omega,?_⟩
    rw[← List.map_append]
    refine G7 (w.cm++w.st) n (by simp;omega) ho.n hn ?_
    walk_at "go"
    refine hN _ _ ⟨a++[w],c,some w.toD,rfl,?_,rfl,by rw[← e];simp⟩
    simp
def eX:FSp:=fun ds μ Q=>match ds with
  | [d,.int n]=>∃ (g:Int) (x:Ss),d=x.toD g∧Q (.int (iz x.lf n)) μ
  | _=>False
theorem ue:∀ ds μ Q,eX ds μ Q→ds.length=2:=by
  unfold eX
  walk_at "ln"
def qj:STr:=aY (jt (TB (ak rIs (ak L3.rIx (ah 0) (TC (.int 5))) (TC .non))) (ah 1) (av sC (af (ah 1) (af (ak L3.rIx (ah 0) (TC (.int 5))) (ar)))))
theorem xM:∀ ds μ Q,eX ds μ Q→qj { nx:=fun _ μ'=>RT Q .non μ',rt:=RT Q } (ini 2 ds) μ:=by
  intro ds μ Q h
  unfold eX at h
  split at h
  case h_2=>exact h.elim
  rename_i d n
  walk_at "ini"
  unfold qj
  walk_at "go"
  obtain ⟨g,x,rfl,k⟩:=h
  walk_at "go"
  unfold iz at k
  cases e:x.lf with
  | none=>rw[e] at k;exact BP (by simp) ⟨_,.refl _,k⟩
  | some l=>
    rw[e] at k
    refine Ir (by simp) ?_
    show dz sC [.int n,.int l] μ _
    walk_at "go"
    exact ⟨_,.refl _,k⟩
theorem lu (g:Int)(x:Ss):cutD [.str x.nm,cZ x.du,fb x.W g,fb x.S g,.int x.nx,cZ x.lf,.tup (c6 x.ag),.tup (c6 x.lo),.int x.gd,.int x.mk',.int x.wt] none (some 4)=[.str x.nm,cZ x.du,fb x.W g,fb x.S g]:=rfl
theorem Md (g:Int)(x:Ss):cutD [.str x.nm,cZ x.du,fb x.W g,fb x.S g,.int x.nx,cZ x.lf,.tup (c6 x.ag),.tup (c6 x.lo),.int x.gd,.int x.mk',.int x.wt] (some 7) none=[.tup (c6 x.lo),.int x.gd,.int x.mk',.int x.wt]:=rfl
theorem rZ (g:Int)(x:Ss)(lo hi:Option Int)(μ:Mu)(Q:DK):rSl (x.toD g) lo hi μ Q=Q (.tup (cutD [.str x.nm,cZ x.du,fb x.W g,fb x.S g,.int x.nx,cZ x.lf,.tup (c6 x.ag),.tup (c6 x.lo),.int x.gd,.int x.mk',.int x.wt] lo hi)) μ:=propext Iff.rfl
def eS:FSp:=fun ds μ Q=>match ds with
  | [d,.int n]=>∃ (g:Int) (x:Ss) (m:Nat),(d=x.toD g∧n=m∧m≤1000∧(-4000000000000000000≤x.nx∧x.nx≤4000000000000000000)∧x.ag.length≤1000∧(∀ l,x.lf=some l→0≤l))∧Q (.tup [(x.fill m).1.toD g,.tup (c6 (x.fill m).2)]) μ
  | _=>False
theorem tN:∀ ds μ Q,eS ds μ Q→ds.length=2:=by
  unfold eS
  walk_at "ln"
def qK:STr:=aD (aN (TSl (ak L3.rIx (ah 0) (TC (.int 6))) (ONo) (gh (ah 1))) (aw 2)) (aD (aN (av eX (af (ah 0) (af (ak iC (ah 1) (av eL (af (ah 2) (ar)))) (ar)))) (aw 3)) (aD (aN (ak L3.rIx (ah 0) (TC (.int 4))) (aw 4)) (aD (aN (jt (TB (ak rIs (ak L3.rIx (ah 0) (TC (.int 5))) (TC .non))) (TC .non) (ak iC (ak L3.rIx (ah 0) (TC (.int 5))) (ah 3))) (aw 5)) (aD (aN (ak aT (ak aT (TSl (ah 0) (ONo) (gh (TC (.int 4)))) (aX (af (ak aT (ah 4) (ah 3)) (af (ah 5) (af (TSl (ak L3.rIx (ah 0) (TC (.int 6))) (gh (av eL (af (ah 2) (ar)))) (ONo)) (ar)))))) (TSl (ah 0) (gh (TC (.int 7))) (ONo))) (aw 6)) (aY (aX (af (ah 6) (af (ak aT (ah 2) (IJ (ah 4) (ak aT (ah 4) (ah 3)))) (ar)))))))))
theorem vC:∀ ds μ Q,eS ds μ Q→qK { nx:=fun _ μ'=>RT Q .non μ',rt:=RT Q } (ini 7 ds) μ:=by
  intro ds μ Q h
  unfold eS at h
  split at h
  case h_2=>exact h.elim
  rename_i d n
  walk_at "ini"
  unfold qK
  walk_at "go"
  obtain ⟨g,x,m,⟨rfl,rfl,hm,⟨n0,n1⟩,ha,hl⟩,k⟩:=h
  simp only[↓rZ]
  have c1:cutD (c6 x.ag) none (some (m:Int))=c6 (x.ag.take m):=by rw[uY];exact List.map_take.symm
  have c2:∀ L:Nat,cutD (c6 x.ag) (some (L:Int)) none=c6 (x.ag.drop L):=fun L=>by rw[lZ];exact List.map_drop.symm
  walk_at "go"
  simp only[c1,lu,Md,List.length_map,c2]
  refine ⟨g,x,rfl,?_⟩
  have tl:(x.ag.take m).length≤m:=by simp;omega
  have e1:(x.fill m).1.toD g=.tup ([.str x.nm,cZ x.du,fb x.W g,fb x.S g]++[.int (x.nx+iz x.lf ((m:Int) - ((x.ag.take m).length:Int))),cZ (x.lf.map (· - iz x.lf ((m:Int) - ((x.ag.take m).length:Int)))),.tup (c6 (x.ag.drop (x.ag.take m).length))]++[.tup (c6 x.lo),.int x.gd,.int x.mk',.int x.wt]):=rfl
  have e2:c6 (x.fill m).2=c6 (x.ag.take m)++cL x.nx (iz x.lf ((m:Int) - ((x.ag.take m).length:Int))).toNat:=by rw[Q6,← List.map_append];rfl
  rw[e1,e2] at k
  have c0:0≤iz x.lf ((m:Int) - ((x.ag.take m).length:Int))∧iz x.lf ((m:Int) - ((x.ag.take m).length:Int))≤1000:=by
    unfold iz
    cases e:x.lf with
    | none=>simp only;omega
    | some l=>have:=hl l e;simp only;omega
  generalize iz x.lf ((m:Int) - ((x.ag.take m).length:Int))=c at *
  have e3:(x.nx+c - x.nx).toNat=c.toNat:=by congr 1;omega
  walk_at "go"
  rw[e3]
  cases e:x.lf with
  | none=>
    rw[e] at k
    refine BP rfl ⟨by simp,by simp,⟨⟨by omega,by omega⟩,⟨by omega,by omega⟩,by omega⟩,?_,_,.refl _,k⟩
    rw[eO];omega
  | some l=>
    rw[e] at k
    refine Ir nofun ?_
    walk_at "go"
    refine ⟨by simp,by simp,⟨⟨by omega,by omega⟩,⟨by omega,by omega⟩,by omega⟩,?_,_,.refl _,k⟩
    rw[eO];omega
structure Ss.Ok (g:Int) (R:RN) (x:Ss):Prop where
  n:PyData.strOk x.nm=true
  w0:g≤x.W
  w1:x.W≤R.cap g
  s0:0≤x.S
  s1:x.S≤g
  h:x.hd.Ok
  n0:-4000000000000000000≤x.nx
  n1:x.nx≤4000000000000000000
  a:x.ag.length+x.lo.length≤60
  l:∀ i,x.lf=some i→0≤i
theorem RP (st:St')(n:Str):0≤st.und n:=by
  unfold St'.und
  generalize st.ws=l
  induction l with
  | nil=>simp
  | cons a l ih=>simp only[List.map_cons,List.sum_cons];omega
theorem Jd (o:Option Int):eqD (cZ o) (.int 0)=decide (o=some 0):=by cases o<;>simp[cZ,eqD]
theorem EG {R:RN}(K:R.Ok){g W S:Int}(g0:0 < g)(h:Hd)(w0:g≤W)(w1:W≤R.cap g):g≤(R.beh g W S h).1∧(R.beh g W S h).1≤R.cap g:=by
  unfold RN.beh
  split
  · exact ⟨w0,w1⟩
  · exact LD K g0 _
def gy:FSp:=fun ds μ Q=>match ds with
  | [.int g,sd,kd,td]=>∃ (s:Sn) (x:Ss) (st:St'),((sd=s.toD∧kd=x.toD g∧td=st.toD g)∧s.rl.Ok∧Gd g∧x.Ok g s.rl∧∀ w∈st.ws,w.Ok)∧Q (.tup [(x.bt g s (st.und x.nm)).1.toD g,.tup (c6 (x.bt g s (st.und x.nm)).2)]) μ
  | _=>False
theorem zT:∀ ds μ Q,gy ds μ Q→ds.length=4:=by
  unfold gy
  walk_at "ln"
def vO:STr:=aD (c7 (TB (ak rNe (ak L3.rIx (ah 2) (TC (.int 1))) (TC (.int 0)))) (aY (aX (af (ah 2) (af (aX (ar)) (ar))))) (bH)) (aD (aN (aX (af (ak L3.rIx (ah 2) (TC (.int 8))) (af (ak L3.rIx (ah 2) (TC (.int 9))) (af (av eL (af (ak L3.rIx (ah 2) (TC (.int 7))) (ar))) (af (ak L3.rIx (ah 2) (TC (.int 10))) (ar)))))) (aw 4)) (aD (aN (av eQ (af (ak L3.rIx (ah 1) (TC (.int 5))) (af (ah 0) (af (ak L3.rIx (ah 2) (TC (.int 2))) (af (ak L3.rIx (ah 2) (TC (.int 3))) (af (ah 4) (ar))))))) (aw 5)) (aD (aN (av a6 (af (av pQ (af (ak aT (ak L3.rIx (ah 2) (TC (.int 6))) (ak L3.rIx (ah 2) (TC (.int 7)))) (ar))) (ar))) (aw 6)) (aD (aN (aX (af (ak L3.rIx (ah 2) (TC (.int 0))) (af (ak L3.rIx (ah 2) (TC (.int 1))) (af (ak L3.rIx (ah 5) (TC (.int 0))) (af (ak L3.rIx (ah 5) (TC (.int 1))) (af (ak L3.rIx (ah 2) (TC (.int 4))) (af (ak L3.rIx (ah 2) (TC (.int 5))) (af (ah 6) (af (aX (ar)) (af (TC (.int 0)) (af (TC (.int 0)) (af (TC (.int 0)) (ar))))))))))))) (aw 7)) (aY (av eS (af (ah 7) (af (av sA (af (TC (.int 0)) (af (ak iC (av eR (af (ak L3.rIx (ah 5) (TC (.int 0))) (ar))) (av dS (af (ah 3) (af (ak L3.rIx (ah 2) (TC (.int 0))) (ar))))) (ar)))) (ar)))))))))
theorem CK:∀ ds μ Q,gy ds μ Q→vO { nx:=fun _ μ'=>RT Q .non μ',rt:=RT Q } (ini 8 ds) μ:=by
  intro ds μ Q h
  unfold gy at h
  split at h
  case h_2=>exact h.elim
  rename_i g sd kd td
  walk_at "ini"
  unfold vO
  walk_at "go"
  obtain ⟨s,x,st,⟨⟨rfl,rfl,rfl⟩,K,G,X,hw⟩,k⟩:=h
  obtain ⟨g0,g1⟩:=id G
  have gp:0 < g:=by omega
  walk_at "go"
  refine ⟨by cases x.du<;>rfl,?_⟩
  rw[Jd]
  unfold Ss.bt at k
  refine QP (fun hd=>?_) (fun hd=>?_)
  · rw[if_neg hd] at k
    exact ⟨_,.refl _,k⟩
  rw[if_pos hd] at k
  have cl:=F8 K gp
  have xa:=X.a;have w1:=X.w1;have w0:=X.w0
  rw[List.length_map]
  refine ⟨s.rl,x.W,x.S,x.hd,⟨⟨rfl,rfl⟩,K,X.h,G,⟨NB _ gp,.of (by omega) (by omega)⟩,NB _ gp,⟨X.s0,X.s1⟩⟩,fun w z Vw Vz=>?_⟩
  have bi:=EG K gp x.hd (S:=x.S) w0 w1
  have e1:=HW Vw
  have e2:=HW Vz
  walk_at "go"
  refine ⟨by simp;omega,x.ag++x.lo,⟨by rw[List.map_append],by simp;omega⟩,fun ns' pm so=>?_⟩
  have e3:=xm pm so
  walk_at "go"
  refine ⟨_,_,⟨Vw,.of (by omega) (by omega)⟩,?_⟩
  walk_at "go"
  refine ⟨g,st,⟨rfl,hw,X.n⟩,?_⟩
  walk_at "go"
  have u0:=RP st x.nm
  have d60:(s.rl.beh g x.W x.S x.hd).1 / g≤60:=Int.ediv_le_of_le_mul gp (by omega)
  have hm:max 0 ((s.rl.beh g x.W x.S x.hd).1 / g - st.und x.nm)=((max 0 ((s.rl.beh g x.W x.S x.hd).1 / g - st.und x.nm)).toNat:Int):=by omega
  rw[hm,e1,e2,e3]
  refine ⟨g,x.rdy g s.rl,_,⟨rfl,rfl,by omega,⟨X.n0,X.n1⟩,?_,X.l⟩,⟨_,.refl _,k⟩⟩
  show (iA (x.ag++x.lo)).length≤1000
  rw[l4,List.length_append];omega
theorem Kz {ns:List (List Int)}{n:List Int}(h:n∈ns):n.length≤eZ ns:=by
  unfold eZ
  induction ns with
  | nil=>cases h
  | cons a r ih=>
    rcases List.mem_cons.mp h with rfl | h
    · simp only[List.map_cons,List.foldr_cons];omega
    · have:=ih h;simp only[List.map_cons,List.foldr_cons];omega
theorem A5 {ns:List (List Int)}{k:Nat}(h:∀ n∈ns,n.length≤k):eZ ns≤k:=by
  unfold eZ
  induction ns with
  | nil=>simp
  | cons a r ih=>
    have h1:=h a List.mem_cons_self
    have h2:=ih fun n hn=>h n (List.mem_cons_of_mem _ hn)
    simp only[List.map_cons,List.foldr_cons];omega
theorem IS {ns:List (List Int)}{M:Int}(h:M∈ns.map fun n=>(n.length:Int))(g:∀ a∈ns.map fun n=>(n.length:Int),a≤M):M=eZ ns:=by
  obtain ⟨n,hn,rfl⟩:=List.mem_map.mp h
  have h1:=Kz hn
  have h2:eZ ns≤n.length:=A5 fun m hm=>by have:=g _ (List.mem_map.mpr ⟨m,hm,rfl⟩);omega
  omega
def fB (t:Nat)(p:Sn×List Int):Option (Str×Lt):=p.2[t]?.map fun n=>(p.1.rd.headD (Str.ofString ""),⟨p.1.nm,n,0,0,0⟩)
theorem rg (ss:List Sn)(ns:List (List Int)):lL ss ns=(List.range (eZ ns)).flatMap fun t=>(List.zip ss ns).filterMap (fB t):=rfl
abbrev nsD (ns:List (List Int)):List D:=ns.map fun n=>.tup (c6 n)
def bU:FSp:=fun ds μ Q=>match ds with
  | [sd,.ls nd]=>∃ (ss:List Sn) (ns:List (List Int)),((sd=.tup (snD ss)∧nd=nsD ns)∧ss.length≤100∧ns.length≤100∧(∀ n∈ns,n.length≤1000)∧∀ s∈ss,s.rd≠[])∧Q (.ls ((lL ss ns).map sdD)) μ
  | _=>False
theorem Em {ns:List (List Int)}{μ:Mu}{Q:DK}(k:Q (.int (eZ ns:Nat)) μ):Oz (.ls (ns.map fun n=>.int (n.length:Int))) (.int 0) μ Q:=by
  refine ⟨ns.map fun n=>(n.length:Int),by rw[List.map_map];rfl,fun e=>?_,fun _ M h1 h2=>by rw[IS h1 h2];exact k⟩
  rw[List.map_eq_nil_iff.mp e] at k
  exact k
theorem CF (ss:List Sn)(ns:List (List Int)):List.zipWith (fun d e=>D.tup [d,e]) (snD ss) (nsD ns)=(List.zip ss ns).map fun p=>.tup [p.1.toD,.tup (c6 p.2)]:=by
  simp only[snD,nsD,List.zip,List.zipWith_map,List.map_zipWith]
theorem lj:∀ ds μ Q,bU ds μ Q→ds.length=2:=by
  unfold bU
  walk_at "ln"
def jj:STr:=aD (aN (iW (ar)) (aw 2)) (aD (gK (gf (B9 (bL (cQ (ah 1)) (aw 0) (dM) (av eL (af (ah 0) (ar))) 1 []) (TC (.int 0)))) (aw 3) (gK (k9 (af (ah 0) (af (ah 1) (ar)))) (fA [4,5]) (c7 (TB (ak rLt (ah 3) (av eL (af (ah 5) (ar))))) (dW (iT (ah 2) (aX (af (ak L3.rIx (ak L3.rIx (ah 4) (TC (.int 1))) (TC (.int 0))) (af (aX (af (ak L3.rIx (ah 4) (TC (.int 0))) (af (ak L3.rIx (ah 5) (ah 3)) (af (TC (.int 0)) (af (TC (.int 0)) (af (TC (.int 0)) (ar))))))) (ar)))))) (bH)))) (aY (tU (ah 2))))
theorem md:∀ ds μ Q,bU ds μ Q→jj { nx:=fun _ μ'=>RT Q .non μ',rt:=RT Q } (ini 6 ds) μ:=by
  intro ds μ Q h
  unfold bU at h
  split at h
  case h_2=>exact h.elim
  rename_i sd nd
  walk_at "ini"
  unfold jj
  walk_at "go"
  obtain ⟨ss,ns,⟨⟨rfl,rfl⟩,hs,hn,h1000,hrd⟩,k⟩:=h
  intro p hp
  walk_at "go"
  refine bf ns (fun n=>.tup (c6 n)) (fun n=>.int (n.length:Int)) rfl (by omega) (fun n hn μ' _ N nn=>?_) ?_
  · walk_at "go"
    rw[List.length_map]
    exact nn
  have m1:eZ ns≤1000:=A5 h1000
  walk_at "go"
  refine Em ?_
  walk_at "go"
  refine ⟨⟨by omega,by omega⟩,?_⟩
  rw[show ((eZ ns:Int)).toNat=eZ ns from rfl]
  refine bK (fun r ρ μ'=>∃ (t:Nat) (acc:List (Str×Lt)) (v3 v4 v5:Option D),r=cL t (eZ ns - t)∧t≤eZ ns∧ρ=[some (.tup (snD ss)),some (.ls (nsD ns)),some (.obj p),v3,v4,v5]∧acc=(List.range t).flatMap (fun t=>(List.zip ss ns).filterMap (fB t))∧acc.length≤t*100∧μ'=up μ p (.lst (acc.map sdD))) ?_ ?_ _ _ _ ⟨0,[],_,_,_,rfl,by omega,rfl,rfl,by simp,rfl⟩
  · rintro ρ μ' ⟨t,acc,v3,v4,v5,er,ht,rfl,rfl,_,rfl⟩
    have et:t=eZ ns:=by
      cases e:eZ ns - t with
      | zero=>omega
      | succ n=>rw[e,nB] at er;cases er
    subst et
    walk_at "go"
    rw[← rg,pK hp]
    exact ⟨_,.refl _,k⟩
  · rintro d r ρ μ' N ⟨t,acc,v3,v4,v5,er,ht,rfl,ea,la,rfl⟩ hN
    cases e:eZ ns - t with
    | zero=>rw[e] at er;cases er
    | succ n=>
    rw[e,nB] at er
    cases er
    walk_at "go"
    rw[CF]
    have lz:(List.zip ss ns).length≤100:=by simp;omega
    refine bK (fun r ρ μ'=>∃ (a c:List (Sn×List Int)) (v4 v5:Option D),r=c.map (fun p=>.tup [p.1.toD,.tup (c6 p.2)])∧a++c=List.zip ss ns∧ρ=[some (.tup (snD ss)),some (.ls (nsD ns)),some (.obj p),some (.int t),v4,v5]∧μ'=up μ p (.lst ((acc++a.filterMap (fB t)).map sdD))) ?_ ?_ _ _ _ ⟨[],List.zip ss ns,_,_,rfl,rfl,rfl,by simp⟩
    · rintro ρ μ' ⟨a,c,v4,v5,er,ez,rfl,rfl⟩
      have:c=[]:=by cases c with | nil=>rfl | cons=>cases er
      subst this
      rw[List.append_nil] at ez
      subst ez
      refine hN _ _ ⟨t+1,_,_,_,_,?_,by omega,rfl,?_,?_,rfl⟩
      · congr 1
        · omega
      · rw[List.range_succ,List.flatMap_append,← ea];simp
      · have:=List.length_filterMap_le (fB t) (List.zip ss ns)
        rw[List.length_append];omega
    · rintro d r ρ μ' N ⟨a,c,v4,v5,er,ez,rfl,rfl⟩ hN
      cases c with
      | nil=>cases er
      | cons x c=>
      cases er
      obtain ⟨s,own⟩:=x
      have hx:(s,own)∈List.zip ss ns:=by rw[← ez];simp
      have hs':s∈ss:=(List.of_mem_zip hx).1
      walk_at "go"
      rw[List.length_map]
      obtain ⟨fw,rw',erd⟩:∃ fw rw',s.rd=fw::rw':=by
        cases e:s.rd with
        | nil=>exact absurd e (hrd s hs')
        | cons a b=>exact ⟨a,b,rfl⟩
      refine kif (fun hc=>?_) (fun hc=>?_)
      · have hc':t < own.length:=by omega
        have g1:(List.map D.str s.rd)[0]? = some (.str fw):=by rw[erd];rfl
        have g2:atD (c6 own) (t:Int)=some (.int own[t]):=by rw[cY];simp[hc']
        have la':=List.length_filterMap_le (fB t) a
        have az:a.length≤100:=by have:=congrArg List.length ez;simp at this;omega
        walk_at "go"
        rw[yi,g1]
        walk_at "go"
        rw[g2]
        walk_at "go"
        refine ⟨by simp;omega,hN _ _ ⟨a++[(s,own)],c,_,_,rfl,by rw[← ez];simp,rfl,?_⟩⟩
        have e3:fB t (s,own)=some (fw,⟨s.nm,own[t],0,0,0⟩):=by unfold fB;simp[hc',erd]
        rw[List.filterMap_append,show [(s,own)].filterMap (fB t)=[(fw,⟨s.nm,own[t],0,0,0⟩)] by simp[e3]]
        simp[sdD,Lt.toD]
      · have e3:fB t (s,own)=none:=by unfold fB;simp;omega
        refine hN _ _ ⟨a++[(s,own)],c,_,_,rfl,by rw[← ez];simp,rfl,?_⟩
        rw[List.filterMap_append,show [(s,own)].filterMap (fB t)=[] by simp[e3],List.append_nil]
def gx:FSp:=fun ds μ Q=>match ds with
  | [wd,.tup nd,kd,.ls sd]=>∃ (w:Wy) (ns:List Str) (k:Ws) (aU:List (Str×Lt)),((wd=w.toD∧nd=ns.map .str∧kd=k.toD∧sd=aU.map sdD)∧(PyData.strOk w.nm=true∧∀ x∈aU,PyData.strOk x.1=true)∧0≤w.pc∧(∀ n∈ns,PyData.strOk n=true)∧(∀ l∈k.cm++k.st++aU.map (·.2),l.nm∈ns)∧k.cm.length+k.st.length+aU.length≤900000∧ns.length≤900000)∧Q (pass w ns k aU).toD μ
  | _=>False
theorem Dd {μ:Mu}{Q:DK}(aU:List (Str×Lt)){w:Wy}(hl:aU.length≤900000)(ok:∀ x∈aU,PyData.strOk x.1=true)(hn:PyData.strOk w.nm=true)(k:Q (.ls (ltD ((aU.filter fun x=>decide (x.1=w.nm)).map (·.2)))) μ) :
    qP (fA [0,1]) (TB (ak rEq (ah 0) (ak rIx (ah 2) (TC (.int 0))))) (ah 1) [none,none,some w.toD] (aU.map sdD) μ Q:=by
  refine lP aU sdD (fun x=>if x.1=w.nm then some x.2.toD else none) rfl (by omega) (fun x hx μ' _ N nn=>?_) ?_
  · walk_at "go"
    refine ⟨⟨ok x hx,hn⟩,kif (fun h=>?_) (fun h=>?_)⟩
    · rw[if_pos h] at nn;exact nn
    · rw[if_neg h] at nn;exact nn
  · rw[fH (fun x:Str×Lt=>x.1=w.nm) (fun x=>x.2.toD)];unfold ltD at k;rw[List.map_map] at k;exact k
theorem AR:∀ ds μ Q,gx ds μ Q→ds.length=4:=by
  unfold gx
  walk_at "ln"
def xu:STr:=aD (aN (ak aT (ak L3.rIx (ah 2) (TC (.int 0))) (av a6 (af (bL (cQ (ah 3)) (fA [0,1]) (TB (ak rEq (ah 0) (ak L3.rIx (ah 2) (TC (.int 0))))) (ah 1) 2 [0]) (ar)))) (aw 4)) (aD (aN (av eP (af (ah 0) (af (ak L3.rIx (ah 2) (TC (.int 1))) (af (ah 4) (ar))))) (aw 5)) (aD (aN (av fL (af (ah 0) (af (ah 1) (af (ak L3.rIx (ah 5) (TC (.int 0))) (af (ak L3.rIx (ah 2) (TC (.int 2))) (ar)))))) (aw 6)) (aY (aX (af (ah 4) (af (ak L3.rIx (ah 5) (TC (.int 1))) (af (ak L3.rIx (ah 6) (TC (.int 0))) (af (ak L3.rIx (ah 6) (TC (.int 1))) (af (ak L3.rIx (ah 6) (TC (.int 2))) (ar))))))))))
theorem DF:∀ ds μ Q,gx ds μ Q→xu { nx:=fun _ μ'=>RT Q .non μ',rt:=RT Q } (ini 7 ds) μ:=by
  intro ds μ Q h
  unfold gx at h
  split at h
  case h_2=>exact h.elim
  rename_i wd nd kd sd
  walk_at "ini"
  unfold xu
  walk_at "go"
  obtain ⟨w,ns,x,aU,⟨⟨rfl,rfl,rfl,rfl⟩,⟨hw,hs⟩,pc,hn,hl,len,len2⟩,k⟩:=h
  walk_at "go"
  refine Dd aU (by omega) hs hw ?_
  walk_at "go"
  have lf:=List.length_filter_le (fun x:Str×Lt=>decide (x.1=w.nm)) aU
  refine ⟨by simp only[List.length_map];omega,?_⟩
  rw[← List.map_append]
  generalize hca:x.cm++(aU.filter fun x=>decide (x.1=w.nm)).map (·.2)=ca
  have lca:ca.length≤x.cm.length+aU.length:=by rw[← hca];simp only[List.length_append,List.length_map];omega
  have nca:∀ l∈ca,l.nm∈ns:=fun l h=>by
    rw[← hca] at h
    rcases List.mem_append.mp h with h | h
    · exact hl l (by simp[h])
    · obtain ⟨y,hy,rfl⟩:=List.mem_map.mp h
      exact hl y.2 (List.mem_append_right _ (List.mem_map.mpr ⟨y,(List.mem_filter.mp hy).1,rfl⟩))
  refine ⟨w,x.st,ca,⟨rfl,rfl,rfl,by omega⟩,?_⟩
  walk_at "go"
  have ln:=yX w ca x.st []
  have nn:=Gy w (fun n=>n∈ns) ca x.st [] (fun l h=>hl l (by simp[h])) (fun l h=>nomatch h) nca
  refine ⟨w,ns,(tk w x.st ca).1,⟨rfl,fun _=>⟨.inl rfl,hn,nn.1,len2⟩,rfl,?_,pc⟩,?_⟩
  · unfold tk;simp only[List.length_nil] at ln;omega
  · walk_at "go"
    subst hca
    exact ⟨_,.refl _,k⟩
theorem F4 {ss:List Sn}{n:Str}(h:n∈ss.map Sn.nm):bo (ka ss) (.inr n)=some (.tup ((road ss n).map .str)):=by
  unfold bo ka road
  induction ss with
  | nil=>cases h
  | cons s r ih=>
    by_cases e:s.nm=n
    · simp[e]
    · have h':n∈r.map Sn.nm:=by
        rcases List.mem_cons.mp h with z | z
        · exact absurd z.symm e
        · exact z
      have:=ih h'
      simp only[List.map_cons,List.find?_cons]
      have e1:decide ((Sum.inr s.nm:L2.Key)=Sum.inr n)=false:=by simp[e]
      have e2:decide (s.nm=n)=false:=by simp[e]
      rw[e1,e2]
      exact this
def bS:FSp:=fun ds μ Q=>match ds with
  | [.obj r,ld]=>∃ (ss:List Sn) (l:Lt),(ld=l.toD∧μ r=some (.dct (ka ss))∧l.nm∈ss.map Sn.nm∧0≤l.hp)∧Q (xR (fc ss l)) μ
  | _=>False
theorem qN:∀ ds μ Q,bS ds μ Q→ds.length=2:=by
  unfold bS
  walk_at "ln"
def lO:STr:=aD (aN (dU (ah 0) (ak L3.rIx (ah 1) (TC (.int 0)))) (aw 2)) (aY (jt (TB (ak rLt (ak aT (ak L3.rIx (ah 1) (TC (.int 3))) (TC (.int 1))) (av eL (af (ah 2) (ar))))) (ak L3.rIx (ah 2) (ak aT (ak L3.rIx (ah 1) (TC (.int 3))) (TC (.int 1)))) (TC .non)))
theorem rK:∀ ds μ Q,bS ds μ Q→lO { nx:=fun _ μ'=>RT Q .non μ',rt:=RT Q } (ini 3 ds) μ:=by
  intro ds μ Q h
  unfold bS at h
  split at h
  case h_2=>exact h.elim
  rename_i r ld
  walk_at "ini"
  unfold lO
  walk_at "go"
  obtain ⟨ss,l,⟨rfl,er,hl,h0⟩,k⟩:=h
  walk_at "go"
  refine iI er (eW (F4 hl) ?_)
  obtain ⟨h,eh⟩:=Int.eq_ofNat_of_zero_le h0
  have e1:fc ss l=(road ss l.nm)[h+1]?:=by unfold fc;rw[eh];rfl
  rw[e1] at k
  walk_at "go"
  rw[List.length_map]
  refine kif (fun hc=>?_) (fun hc=>?_)
  · have hc':h+1 < (road ss l.nm).length:=by omega
    rw[List.getElem?_eq_getElem hc'] at k
    refine eW (d:=.str (road ss l.nm)[h+1]) ?_ ⟨_,.refl _,k⟩
    rw[eh,show ((h:Int)+1)=((h+1:Nat):Int) by omega,cY]
    simp[hc']
  · rw[List.getElem?_eq_none (by omega)] at k
    exact ⟨_,.refl _,k⟩
theorem Jm (ls:List Lt):kh (ltD ls)=ls.zipIdx.map fun p=>.tup [.int (p.2:Nat),p.1.toD]:=by
  refine List.ext_getElem? fun i=>?_
  rw[sk]
  simp[List.getElem?_zipIdx]
  cases ls[i]? <;> rfl
theorem Cf (o:Option Str)(μ:Mu)(Q:DK):rIs (xR o) .non μ Q=Q (.bl (decide (o=none))) μ:=by cases o<;>simp[rIs,xR]
def evA (w:Wy)(n:Int)(p:Lt×Nat):Ev:=⟨if (p.2:Int) < n then Str.ofString "in" else Str.ofString "lost", p.1.nm,p.1.nu,w.nm⟩
def evB (ss:List Sn)(w:Wy)(l:Lt):Ev:=⟨if fc ss l=none then Str.ofString "taken" else Str.ofString "out", l.nm,l.nu,w.nm⟩
theorem Nv (ss:List Sn)(w:Wy)(x:Wt):evs ss w x=x.ca.zipIdx.map (evA w ((x.ca.length:Int) - x.lo.length))++x.ou.map (evB ss w):=rfl
def dO:FSp:=fun ds μ Q=>match ds with
  | [wd,.obj r,td]=>∃ (w:Wy) (ss:List Sn) (x:Wt),((wd=w.toD∧td=x.toD)∧μ r=some (.dct (ka ss))∧(∀ l∈x.ou,l.nm∈ss.map Sn.nm∧0≤l.hp)∧x.ca.length+x.ou.length≤900000)∧Q (.ls (evD (evs ss w x))) μ
  | _=>False
theorem rM:∀ ds μ Q,dO ds μ Q→ds.length=3:=by
  unfold dO
  walk_at "ln"
def mO:STr:=aD (aN (iW (ar)) (aw 3)) (aD (gK (Fx (af (ak L3.rIx (ah 2) (TC (.int 0))) (ar))) (fA [4,5]) (aD (aN (jt (TB (ak rLt (ah 4) (ak iC (av eL (af (ak L3.rIx (ah 2) (TC (.int 0))) (ar))) (av eL (af (ak L3.rIx (ah 2) (TC (.int 1))) (ar)))))) (TC (.str "in")) (TC (.str "lost"))) (aw 6)) (dW (iT (ah 3) (aX (af (ah 6) (af (ak L3.rIx (ah 5) (TC (.int 0))) (af (ak L3.rIx (ah 5) (TC (.int 1))) (af (ak L3.rIx (ah 0) (TC (.int 0))) (ar)))))))))) (aD (gK (cQ (ak L3.rIx (ah 2) (TC (.int 2)))) (aw 5) (aD (aN (jt (TB (ak rIs (av bS (af (ah 1) (af (ah 5) (ar)))) (TC .non))) (TC (.str "taken")) (TC (.str "out"))) (aw 6)) (dW (iT (ah 3) (aX (af (ah 6) (af (ak L3.rIx (ah 5) (TC (.int 0))) (af (ak L3.rIx (ah 5) (TC (.int 1))) (af (ak L3.rIx (ah 0) (TC (.int 0))) (ar)))))))))) (aY (tU (ah 3)))))
theorem tV:∀ ds μ Q,dO ds μ Q→mO { nx:=fun _ μ'=>RT Q .non μ',rt:=RT Q } (ini 7 ds) μ:=by
  intro ds μ Q h
  unfold dO at h
  split at h
  case h_2=>exact h.elim
  rename_i wd r td
  walk_at "ini"
  unfold mO
  walk_at "go"
  obtain ⟨w,ss,x,⟨⟨rfl,rfl⟩,er,ho,hl⟩,k⟩:=h
  intro p hp
  have npr:r≠p:=fun z=>by rw[z,hp] at er;cases er
  walk_at "go"
  rw[Jm]
  refine bK (fun rr ρ μ'=>∃ (a c:List (Lt×Nat)) (v4 v5 v6:Option D),rr=c.map (fun p=>.tup [.int (p.2:Nat),p.1.toD])∧a++c=x.ca.zipIdx∧ρ=[some w.toD,some (.obj r),some x.toD,some (.obj p),v4,v5,v6]∧μ'=up μ p (.lst (evD (a.map (evA w ((x.ca.length:Int) - x.lo.length)))))) ?_ ?_ _ _ _ ⟨[],x.ca.zipIdx,_,_,_,rfl,rfl,rfl,rfl⟩
  · rintro ρ μ' ⟨a,c,v4,v5,v6,er',ez,rfl,rfl⟩
    have:c=[]:=by cases c with | nil=>rfl | cons=>cases er'
    subst this
    rw[List.append_nil] at ez
    subst ez
    walk_at "go"
    refine bK (fun rr ρ μ'=>∃ (a c:List Lt) (v4 v5 v6:Option D),rr=ltD c∧a++c=x.ou∧ρ=[some w.toD,some (.obj r),some x.toD,some (.obj p),v4,v5,v6]∧μ'=up μ p (.lst (evD (x.ca.zipIdx.map (evA w ((x.ca.length:Int) - x.lo.length))++a.map (evB ss w))))) ?_ ?_ _ _ _ ⟨[],x.ou,_,_,_,rfl,rfl,rfl,by simp⟩
    · rintro ρ μ' ⟨a,c,v4,v5,v6,er',ez,rfl,rfl⟩
      have:c=[]:=by cases c with | nil=>rfl | cons=>cases er'
      subst this
      rw[List.append_nil] at ez
      subst ez
      walk_at "go"
      rw[pK hp,← Nv]
      exact ⟨_,.refl _,k⟩
    · rintro d rr ρ μ' N ⟨a,c,v4,v5,v6,er',ez,rfl,rfl⟩ hN
      cases c with
      | nil=>cases er'
      | cons l c=>
      cases er'
      have hl':=ho l (by rw[← ez];simp)
      have la:a.length≤x.ou.length:=by rw[← ez];simp
      walk_at "go"
      refine ⟨ss,l,⟨rfl,by rw[aK npr];exact er,hl'.1,hl'.2⟩,?_⟩
      walk_at "go"
      rw[Cf]
      walk_at "go"
      have fin:∀ wd,wd=(if fc ss l=none then Str.ofString "taken" else Str.ofString "out")→(evD (x.ca.zipIdx.map (evA w ((x.ca.length:Int) - x.lo.length))++a.map (evB ss w))).length < 1000000∧N [some w.toD,some (.obj r),some x.toD,some (.obj p),v4,some l.toD,some (.str wd)] (up μ p (.lst (evD (x.ca.zipIdx.map (evA w ((x.ca.length:Int) - x.lo.length))++a.map (evB ss w))++[.tup [.str wd,.str l.nm,.int l.nu,.str w.nm]]))):=fun wd e=>by
        refine ⟨by simp;omega,hN _ _ ⟨a++[l],c,_,_,_,rfl,by rw[← ez];simp,rfl,?_⟩⟩
        simp[evB,Ev.toD,e]
      refine kif (fun h=>?_) (fun h=>?_)
      · walk_at "go"
        exact fin _ (by rw[if_pos h])
      · walk_at "go"
        exact fin _ (by rw[if_neg h])
  · rintro d rr ρ μ' N ⟨a,c,v4,v5,v6,er',ez,rfl,rfl⟩ hN
    cases c with
    | nil=>cases er'
    | cons y c=>
    cases er'
    obtain ⟨l,i⟩:=y
    have la:a.length≤x.ca.length:=by have:=congrArg List.length ez;simp at this;omega
    walk_at "go"
    simp only[List.length_map]
    have fin:∀ wd,wd=(if (i:Int) < (x.ca.length:Int) - x.lo.length then Str.ofString "in" else Str.ofString "lost")→(evD (a.map (evA w ((x.ca.length:Int) - x.lo.length)))).length < 1000000∧N [some w.toD,some (.obj r),some x.toD,some (.obj p),some (.int i),some l.toD,some (.str wd)] (up μ p (.lst (evD (a.map (evA w ((x.ca.length:Int) - x.lo.length)))++[.tup [.str wd,.str l.nm,.int l.nu,.str w.nm]]))):=fun wd e=>by
      refine ⟨by simp;omega,hN _ _ ⟨a++[(l,i)],c,_,_,_,rfl,by rw[← ez];simp,rfl,?_⟩⟩
      simp[evA,Ev.toD,e]
    refine kif (fun h=>?_) (fun h=>?_)
    · walk_at "go"
      have:=fin _ (by rw[if_pos h])
      simpa using this
    · walk_at "go"
      have:=fin _ (by rw[if_neg h])
      simpa using this
def i4:FSp:=fun ds μ Q=>match ds with
  | [ld,.int h]=>∃ l:Lt,ld=l.toD∧Q (l.pR h).toD μ
  | _=>False
theorem Ef:∀ ds μ Q,i4 ds μ Q→ds.length=2:=by
  unfold i4
  walk_at "ln"
def Fb:STr:=aY (aX (af (ak L3.rIx (ah 0) (TC (.int 0))) (af (ak L3.rIx (ah 0) (TC (.int 1))) (af (ak aT (ak L3.rIx (ah 0) (TC (.int 2))) (TC (.int 1))) (af (ak aT (ak L3.rIx (ah 0) (TC (.int 3))) (ah 1)) (af (ak L3.rIx (ah 0) (TC (.int 4))) (ar)))))))
theorem Lp:∀ ds μ Q,i4 ds μ Q→Fb { nx:=fun _ μ'=>RT Q .non μ',rt:=RT Q } (ini 2 ds) μ:=by
  intro ds μ Q h
  unfold i4 at h
  split at h
  case h_2=>exact h.elim
  rename_i ld h0
  walk_at "ini"
  unfold Fb
  walk_at "go"
  obtain ⟨l,rfl,k⟩:=h
  walk_at "go"
  exact ⟨_,.refl _,k⟩
theorem Mg (o:Option Str)(n:Str):eqD (xR o) (.str n)=decide (o=some n):=by cases o<;>simp[xR,eqD]
theorem LV (o:Option Str)(h:∀ n,o=some n→PyData.strOk n=true):okD 40 (xR o)=true:=by
  cases o with
  | none=>rfl
  | some n=>simpa[xR,okD] using h n rfl
def dA:FSp:=fun ds μ Q=>match ds with
  | [wd,.obj r,td,.obj o]=>∃ (w:Wy) (ss:List Sn) (x:Wt) (out:List Lt),((wd=w.toD∧td=x.toD)∧(μ r=some (.dct (ka ss))∧μ o=some (.lst (ltD out)))∧(∀ l∈out,l.nm∈ss.map Sn.nm∧0≤l.hp)∧(PyData.strOk w.nm=true∧∀ s∈ss,∀ n∈s.rd,PyData.strOk n=true)∧out.length≤900000∧x.st.length≤900000)∧Q (Ah ss w x out).toD μ
  | _=>False
theorem Lz {ss:List Sn}(h:∀ s∈ss,∀ n∈s.rd,PyData.strOk n=true){l:Lt}{n:Str}(e:fc ss l=some n):PyData.strOk n=true:=by
  unfold fc road at e
  cases f:ss.find? fun s=>decide (s.nm=l.nm) with
  | none=>rw[f] at e;simp at e
  | some s=>
    rw[f] at e
    exact h s (List.mem_of_find?_eq_some f) n (List.mem_of_getElem? e)
theorem rO:∀ ds μ Q,dA ds μ Q→ds.length=4:=by
  unfold dA
  walk_at "ln"
def ni:STr:=aD (aN (jq (ah 3) (aw 0) (TB (ak rEq (av bS (af (ah 1) (af (ah 0) (ar)))) (ak L3.rIx (ah 2) (TC (.int 0))))) (av i4 (af (ah 0) (af (TC (.int 1)) (ar)))) 1 [1,0]) (aw 4)) (aY (aX (af (av a6 (af (ah 4) (ar))) (af (av a6 (af (bL (cQ (ak L3.rIx (ah 2) (TC (.int 3)))) (aw 0) (dM) (av i4 (af (ah 0) (af (TC (.int 0)) (ar)))) 1 []) (ar))) (af (ak L3.rIx (ah 2) (TC (.int 4))) (ar))))))
theorem uJ:∀ ds μ Q,dA ds μ Q→ni { nx:=fun _ μ'=>RT Q .non μ',rt:=RT Q } (ini 5 ds) μ:=by
  intro ds μ Q h
  unfold dA at h
  split at h
  case h_2=>exact h.elim
  rename_i wd r td o
  walk_at "ini"
  unfold ni
  walk_at "go"
  obtain ⟨w,ss,x,out,⟨⟨rfl,rfl⟩,⟨er,eo⟩,ho,⟨hw,hs⟩,l1,l2⟩,k⟩:=h
  refine a9 eo ?_
  refine mh out Lt.toD (fun l=>if fc ss l=some w.nm then some (l.pR 1).toD else none) rfl eo (by omega) (fun l hl μ' sb N nn=>?_) ?_
  · walk_at "go"
    refine ⟨ss,l,⟨rfl,sb _ _ er,(ho l hl).1,(ho l hl).2⟩,?_⟩
    walk_at "go"
    rw[Mg]
    refine ⟨⟨LV _ fun n e=>Lz hs e,hw⟩,kif (fun h=>?_) (fun h=>?_)⟩
    · rw[if_pos h] at nn
      exact ⟨l,rfl,nn⟩
    · rw[if_neg h] at nn;exact nn
  · rw[fH (fun l:Lt=>fc ss l=some w.nm) (fun l=>(l.pR 1).toD)]
    walk_at "go"
    refine bf x.st Lt.toD (fun l=>(l.pR 0).toD) rfl (by omega) (fun l hl μ' sb N nn=>?_) ?_
    · walk_at "go"
      exact ⟨l,rfl,nn⟩
    · walk_at "go"
      refine ⟨_,.refl _,?_⟩
      unfold Ah Ws.toD ltD at k
      simp only[List.map_map] at k
      exact k
def dE:FSp:=fun ds μ Q=>match ds with
  | [sd,d]=>∃ (s:Sn) (o:Option Int),(sd=s.toD∧d=cZ o)∧Q (cZ (DL s o)) μ
  | _=>False
theorem rE:∀ ds μ Q,dE ds μ Q→ds.length=2:=by
  unfold dE
  walk_at "ln"
def ny:STr:=aD (c7 (TB (ak rIs (ah 1) (TC .non))) (aY (TC .non)) (bH)) (aY (jt (TB (ak rEq (ah 1) (TC (.int 0)))) (ak iC (ak L3.rIx (ah 0) (TC (.int 2))) (TC (.int 1))) (ak iC (ah 1) (TC (.int 1)))))
theorem uL:∀ ds μ Q,dE ds μ Q→ny { nx:=fun _ μ'=>RT Q .non μ',rt:=RT Q } (ini 2 ds) μ:=by
  intro ds μ Q h
  unfold dE at h
  split at h
  case h_2=>exact h.elim
  rename_i sd d
  walk_at "ini"
  unfold ny
  obtain ⟨s,o,⟨rfl,rfl⟩,k⟩:=h
  cases o with
  | none=>
    simp only[cZ]
    walk_at "go"
    exact ⟨_,.refl _,k⟩
  | some i=>
    simp only[cZ]
    walk_at "go"
    by_cases h:i=0
    · refine BP h ⟨_,.refl _,?_⟩
      have e:DL s (some i)=some (s.bt - 1):=by simp[DL,h]
      rw[e] at k;exact k
    · refine Ir h ⟨_,.refl _,?_⟩
      have e:DL s (some i)=some (i - 1):=by simp[DL,h]
      rw[e] at k;exact k
theorem xO {d M:Int}{ns:List Int}(ne:ns≠[])(h:M∈ns)(g:∀ a∈ns,a≤M):pw d ns=M:=by
  have key:∀ (l:List Int) (a:Int),(∀ b∈a::l,b≤M)→M∈a::l→l.foldl max a=M:=by
    intro l
    induction l with
    | nil=>intro a h1 h2;simp at h2;exact h2.symm
    | cons b l ih=>
      intro a h1 h2
      rw[List.foldl_cons]
      refine ih (max a b) (fun c hc=>?_) ?_
      · rcases List.mem_cons.mp hc with rfl | hc
        · have:=h1 a (by simp);have:=h1 b (by simp);omega
        · exact h1 c (by simp[hc])
      · have ha:=h1 a (by simp);have hb:=h1 b (by simp)
        rcases List.mem_cons.mp h2 with e | h2
        · have:max a b=M:=by omega
          rw[this];simp
        · rcases List.mem_cons.mp h2 with e | h2
          · have:max a b=M:=by omega
            rw[this];simp
          · simp[h2]
  cases ns with
  | nil=>exact absurd rfl ne
  | cons a l=>exact key l a g h
theorem Nx {ns:List Int}{μ:Mu}{Q:DK}(k:Q (.int (pw 0 ns)) μ):Oz (.ls (ns.map .int)) (.int 0) μ Q:=by
  refine ⟨ns,rfl,fun e=>?_,fun ne M h1 h2=>by rw[xO ne h1 h2] at k;exact k⟩
  rw[e] at k;exact k
theorem HA (g:Int)(x:Ss):cutD [.str x.nm,cZ x.du,fb x.W g,fb x.S g,.int x.nx,cZ x.lf,.tup (c6 x.ag),.tup (c6 x.lo),.int x.gd,.int x.mk',.int x.wt] (some 2) (some 7)=[fb x.W g,fb x.S g,.int x.nx,cZ x.lf,.tup (c6 x.ag)]:=rfl
def bZ:FSp:=fun ds μ Q=>match ds with
  | [sd,kd,.obj lo,.ls tk]=>∃ (g:Int) (s:Sn) (x:Ss) (bG taken:List Lt),((sd=s.toD∧kd=x.toD g∧tk=ltD taken)∧μ lo=some (.lst (ltD bG))∧(PyData.strOk s.nm=true∧(∀ l∈bG,PyData.strOk l.nm=true)∧∀ l∈taken,PyData.strOk l.nm=true)∧(bG.length≤900000∧taken.length≤900000)∧x.lo.length+(own s.nm bG).length < 64)∧Q ((ky s x bG taken).toD g) μ
  | _=>False
theorem lW:∀ ds μ Q,bZ ds μ Q→ds.length=4:=by
  unfold bZ
  walk_at "ln"
def jC:STr:=aD (aN (jq (ah 2) (aw 0) (TB (ak rEq (ak L3.rIx (ah 0) (TC (.int 0))) (ak L3.rIx (ah 1) (TC (.int 0))))) (ak L3.rIx (ah 0) (TC (.int 1))) 1 [0]) (aw 4)) (aD (aN (bL (cQ (ah 3)) (aw 0) (TB (ak rEq (ak L3.rIx (ah 0) (TC (.int 0))) (ak L3.rIx (ah 1) (TC (.int 0))))) (ah 0) 1 [0]) (aw 5)) (aD (aN (av BW (af (bL (cQ (ah 5)) (aw 0) (dM) (ak L3.rIx (ah 0) (TC (.int 4))) 1 []) (ar))) (aw 6)) (aD (aN (B9 (bL (cQ (ah 5)) (aw 0) (dM) (ak iC (ak L3.rIx (ah 0) (TC (.int 2))) (ak L3.rIx (ah 0) (TC (.int 3)))) 1 []) (TC (.int 0))) (aw 7)) (aD (aN (aX (af (ak iC (ak aT (ak L3.rIx (ah 1) (TC (.int 8))) (av eL (af (ah 5) (ar)))) (ah 6)) (af (ak aT (ak L3.rIx (ah 1) (TC (.int 9))) (ah 6)) (af (av sA (af (ak L3.rIx (ah 1) (TC (.int 10))) (af (ah 7) (ar)))) (ar))))) (aw 8)) (aD (aN (aX (af (ak L3.rIx (ah 1) (TC (.int 0))) (af (av dE (af (ah 0) (af (ak L3.rIx (ah 1) (TC (.int 1))) (ar)))) (ar)))) (aw 9)) (aY (ak aT (ak aT (ak aT (ah 9) (TSl (ah 1) (gh (TC (.int 2))) (gh (TC (.int 7))))) (aX (af (av a6 (af (av pQ (af (ak aT (ak L3.rIx (ah 1) (TC (.int 7))) (av a6 (af (ah 4) (ar)))) (ar))) (ar))) (ar)))) (ah 8))))))))
theorem oa:∀ ds μ Q,bZ ds μ Q→jC { nx:=fun _ μ'=>RT Q .non μ',rt:=RT Q } (ini 10 ds) μ:=by
  intro ds μ Q h
  unfold bZ at h
  split at h
  case h_2=>exact h.elim
  rename_i sd kd lo tk
  walk_at "ini"
  unfold jC
  walk_at "go"
  obtain ⟨g,s,x,bG,taken,⟨⟨rfl,rfl,rfl⟩,el,⟨hn,h1,h2⟩,⟨l1,l2⟩,h64⟩,k⟩:=h
  refine a9 el ?_
  refine mh bG Lt.toD (fun l=>if l.nm=s.nm then some (.int l.nu) else none) rfl el (by omega) (fun l hl μ' sb N nn=>?_) ?_
  · walk_at "go"
    refine ⟨⟨h1 l hl,hn⟩,kif (fun h=>?_) (fun h=>?_)⟩
    · rw[if_pos h] at nn;exact nn
    · rw[if_neg h] at nn;exact nn
  rw[fH (fun l:Lt=>l.nm=s.nm) (fun l=>D.int l.nu)]
  walk_at "go"
  refine lP taken Lt.toD (fun l=>if l.nm=s.nm then some l.toD else none) rfl (by omega) (fun l hl μ' sb N nn=>?_) ?_
  · walk_at "go"
    refine ⟨⟨h2 l hl,hn⟩,kif (fun h=>?_) (fun h=>?_)⟩
    · rw[if_pos h] at nn;exact nn
    · rw[if_neg h] at nn;exact nn
  rw[fH (fun l:Lt=>l.nm=s.nm) Lt.toD]
  have lo2:=List.length_filter_le (fun l:Lt=>decide (l.nm=s.nm)) taken
  walk_at "go"
  refine bf (own s.nm taken) Lt.toD (fun l=>.int l.mr) rfl (by unfold own;omega) (fun l hl μ' sb N nn=>?_) ?_
  · walk_at "go"
    exact nn
  walk_at "go"
  refine ⟨(own s.nm taken).map Lt.mr,by rw[List.map_map];rfl,?_⟩
  walk_at "go"
  refine bf (own s.nm taken) Lt.toD (fun l=>.int (l.ag - l.hp)) rfl (by unfold own;omega) (fun l hl μ' sb N nn=>?_) ?_
  · walk_at "go"
    exact nn
  walk_at "go"
  rw[show (own s.nm taken).map (fun l=>D.int (l.ag - l.hp))=((own s.nm taken).map fun l=>l.ag - l.hp).map .int by rw[List.map_map];rfl]
  refine Nx ?_
  simp only[↓rZ]
  walk_at "go"
  simp only[HA]
  refine ⟨s,x.du,⟨rfl,rfl⟩,?_⟩
  unfold own at h64
  have eo:(List.filter (fun x:Lt=>decide (x.nm=s.nm)) bG).map (fun l=>D.int l.nu)=((own s.nm bG).map Lt.nu).map .int:=by unfold own;rw[List.map_map];rfl
  refine ⟨by simp,by simp only[List.length_map];omega,x.lo++(own s.nm bG).map Lt.nu,⟨by rw[eo,List.map_append],by unfold own;rw[List.length_append,List.length_map];exact h64⟩,fun ns' pm so=>?_⟩
  rw[xm pm so]
  refine ⟨by simp,by simp,_,.refl _,?_⟩
  have e:(ky s x bG taken).toD g=_:=rfl
  unfold ky Ss.toD own at k
  simp only[List.length_map]
  exact k
theorem IG {kvs:List (L2.Key×D)}{k:L2.Key}{d:D}(h:k ∉ kvs.map (·.1)):putD kvs k d=kvs++[(k,d)]:=by
  unfold putD
  refine if_neg fun z=>?_
  obtain ⟨x,hx,e⟩:=List.any_eq_true.mp z
  exact h (List.mem_map.mpr ⟨x,hx,by simpa using e⟩)
theorem l6:∀ (more kvs:List (L2.Key×D)),((kvs++more).map (·.1)).Nodup→i7 kvs more=kvs++more
  | [],kvs,_=>by simp[i7]
  | (k,d)::r,kvs,h=>by
    have h1:k ∉ kvs.map (·.1):=fun z=>by
      rw[List.map_append,List.map_cons,List.nodup_append] at h
      exact h.2.2 k z k (by simp) rfl
    show i7 (putD kvs k d) r=_
    rw[IG h1,l6 r _ (by simpa using h)]
    simp
theorem CT {ss:List Sn}(h:(ss.map Sn.nm).Nodup):i7 [] (ka ss)=ka ss:=by
  refine l6 _ [] ?_
  rw[List.nil_append]
  unfold ka
  rw[List.map_map]
  have:(ss.map ((fun x:L2.Key×D=>x.1) ∘ fun s=>((.inr s.nm,.tup (s.rd.map .str)):L2.Key×D)))=(ss.map Sn.nm).map Sum.inr:=by rw[List.map_map];rfl
  rw[this]
  exact List.Pairwise.map _ (fun a b (hab:a≠b) (z:Sum.inr a=Sum.inr b)=>hab (Sum.inr.inj z)) h
theorem vS {α β:Type}(f:α→D)(g:β→D)(xs:List α)(ys:List β):List.zipWith (fun d e=>D.tup [d,e]) (xs.map f) (ys.map g)=(List.zip xs ys).map fun y=>.tup [f y.1,g y.2]:=by
  simp only[List.zip,List.zipWith_map,List.map_zipWith]
theorem zp {α:Type}{G:GTr}{te:ETr}{ρc:ST}{ds:List D}{μ:Mu}{Q:DK}(xs:List α)(t:α→D)(h:α→D)(hds:ds=xs.map t)(hl:xs.length≤999999)
    (step:∀ x∈xs,∀ μ',Sub μ μ'→∀ (N:DK),N (h x) μ'→G (t x) ρc μ' fun ρ1 μ1=>te ρ1 μ1 N)
    (k:∀ p,μ p=none→Q (.obj p) (up μ p (.lst (xs.map h)))):MR G dM te ρc ds μ Q:=by
  subst hds
  intro p hp
  suffices go:∀ (r done:List α),done++r=xs→f9 p G dM te ρc (fun μ'=>Q (.obj p) μ') (r.map t) (up μ p (.lst (done.map h))) from go xs [] rfl
  intro r
  induction r with
  | nil=>
    intro done e
    rw[List.append_nil] at e;subst e
    exact k p hp
  | cons d r ih=>
    intro done e
    have hd:d∈xs:=by rw[← e];simp
    have lf:(done.map h).length < 1000000:=by
      have:=congrArg List.length e
      simp at this ⊢;omega
    refine step d hd _ (Sub.new hp) _ (a9 aB ⟨lf,?_⟩)
    rw[iH]
    have:=ih (done++[d]) (by rw[← e];simp)
    rw[List.map_append] at this
    exact this
theorem uc {β:Type}(f:Wt→List β)(zs:List (Wy×Wt)):(zs.flatMap fun y=>f y.2)=(zs.map (·.2)).flatMap f:=by rw[List.flatMap_map]
def btD (g:Int)(b:Ss×List Int):D:=.tup [b.1.toD g,.tup (c6 b.2)]
theorem c8 {α β γ:Type}(f:α→β→γ)(xs:List α)(ys:List β):List.zipWith f xs ys=(List.zip xs ys).map fun p=>f p.1 p.2:=by
  simp[List.zip,List.map_zipWith]
structure yb (p:Pn) (st:St'):Prop where
  g:Gd p.g
  sd:p.sn.Nodup
  sl:p.ss.length≤100
  wl:p.ws.length≤100
  sn:∀ n∈p.sn,PyData.strOk n=true
  rl:∀ s∈p.ss,s.rl.Ok∧s.rd≠[]∧∀ n∈s.rd,PyData.strOk n=true
  wy:∀ w∈p.ws,PyData.strOk w.nm=true∧0≤w.pc
  ws:∀ w∈st.ws,w.Ok
  ss:∀ y∈List.zip p.ss st.ss,y.2.Ok p.g y.1.rl
  nb:∀ b∈p.bz st,b.2.length≤1000
  se:∀ x∈p.aU st,PyData.strOk x.1=true∧x.2.nm∈p.sn
  sz:(p.aU st).length≤100000
  wz:∀ w∈st.ws,(∀ l∈w.cm++w.st,l.nm∈p.sn)∧w.cm.length+w.st.length≤700000
  go:∀ x∈p.cI st,x.ca.length+x.ou.length≤900000∧x.st.length≤900000
  ou:∀ l∈p.out st,l.nm∈p.sn∧0≤l.hp
  lo:∀ l∈p.bG st,l.nm∈p.sn
  oz:(p.out st).length≤900000
  lz:(p.bG st).length≤900000
  ez:(p.evs st).length≤900000
  lt:∀ y∈List.zip p.ss (p.bz st),y.2.1.lo.length+(own y.1.nm (p.bG st)).length < 64
def dh:FSp:=fun ds μ Q=>match ds with
  | [pd,sd]=>∃ (p:Pn) (st:St'),((pd=p.toD∧sd=st.toD p.g)∧yb p st)∧Q (.tup [(p.step st).toD p.g,.ls (evD (p.evs st))]) μ
  | _=>False
theorem vH:∀ ds μ Q,dh ds μ Q→ds.length=2:=by
  unfold dh
  walk_at "ln"
def sy:STr:=aD (aN (ak L3.rIx (ah 0) (TC (.int 2))) (aw 2)) (aD (aN (av a6 (af (bL (cQ (ah 2)) (aw 0) (dM) (ak L3.rIx (ah 0) (TC (.int 0))) 1 []) (ar))) (aw 3)) (aD (aN (av xP (af (bL (cQ (ah 2)) (aw 0) (dM) (aX (af (ak L3.rIx (ah 0) (TC (.int 0))) (af (ak L3.rIx (ah 0) (TC (.int 1))) (ar)))) 1 []) (ar))) (aw 4)) (aD (aN (bL (k9 (af (ah 2) (af (ak L3.rIx (ah 1) (TC (.int 1))) (ar)))) (fA [0,1]) (dM) (av gy (af (ak L3.rIx (ah 3) (TC (.int 0))) (af (ah 0) (af (ah 1) (af (ah 2) (ar)))))) 2 [1,0]) (aw 5)) (aD (aN (av bU (af (ah 2) (af (bL (cQ (ah 5)) (fA [0,1]) (dM) (ah 1) 2 []) (ar)))) (aw 6)) (aD (aN (bL (k9 (af (ak L3.rIx (ah 0) (TC (.int 1))) (af (ak L3.rIx (ah 1) (TC (.int 0))) (ar)))) (fA [0,1]) (dM) (av gx (af (ah 0) (af (ah 2) (af (ah 1) (af (ah 3) (ar)))))) 2 [3,6]) (aw 7)) (aD (aN (uQ (cQ (ah 6)) (fA [0,1]) (dM) (aX (af (TC (.str "sent")) (af (ak L3.rIx (ah 1) (TC (.int 0))) (af (ak L3.rIx (ah 1) (TC (.int 1))) (af (ah 0) (ar)))))) 2 []) (aw 8)) (aD (aN (iW (ar)) (aw 9)) (aD (aN (iW (ar)) (aw 10)) (aD (gK (k9 (af (ak L3.rIx (ah 0) (TC (.int 1))) (af (ah 7) (ar)))) (fA [11,12]) (aD (dW (vI (ah 8) (av dO (af (ah 11) (af (ah 4) (af (ah 12) (ar))))))) (aD (dW (vI (ah 9) (ak L3.rIx (ah 12) (TC (.int 1))))) (dW (vI (ah 10) (ak L3.rIx (ah 12) (TC (.int 2)))))))) (aD (aN (jq (ah 10) (aw 0) (TB (ak rIs (av bS (af (ah 1) (af (ah 0) (ar)))) (TC .non))) (ah 0) 1 [4]) (aw 13)) (aD (aN (bL (k9 (af (ak L3.rIx (ah 0) (TC (.int 1))) (af (ah 7) (ar)))) (fA [0,1]) (dM) (av dA (af (ah 0) (af (ah 2) (af (ah 1) (af (ah 3) (ar)))))) 2 [4,10]) (aw 14)) (aD (aN (bL (k9 (af (ah 2) (af (ah 5) (ar)))) (fA [0,1]) (dM) (av bZ (af (ah 0) (af (ak L3.rIx (ah 1) (TC (.int 0))) (af (ah 2) (af (ah 3) (ar)))))) 2 [9,13]) (aw 15)) (aY (aX (af (aX (af (av a6 (af (ah 14) (ar))) (af (av a6 (af (ah 15) (ar))) (ar)))) (af (tU (ah 8)) (ar)))))))))))))))))
theorem zH:∀ ds μ Q,dh ds μ Q→sy { nx:=fun _ μ'=>RT Q .non μ',rt:=RT Q } (ini 16 ds) μ:=by
  intro ds μ Q h
  unfold dh at h
  split at h
  case h_2=>exact h.elim
  rename_i pd sd
  walk_at "ini"
  unfold sy
  walk_at "go"
  obtain ⟨p,st,⟨⟨rfl,rfl⟩,R⟩,k⟩:=h
  have sl:=R.sl
  walk_at "go"
  refine bf p.ss Sn.toD (fun s=>.str s.nm) rfl (by omega) (fun s hs μ' sb N nn=>?_) ?_
  · walk_at "go"
    exact nn
  walk_at "go"
  refine bf p.ss Sn.toD (fun s=>.tup [.str s.nm,.tup (s.rd.map .str)]) rfl (by omega) (fun s hs μ' sb N nn=>?_) ?_
  · walk_at "go"
    exact nn
  walk_at "go"
  refine ⟨ka p.ss,by unfold ka;rw[List.map_map];rfl,by unfold ka;rw[List.length_map];omega,fun r hr=>?_⟩
  rw[CT R.sd]
  walk_at "go"
  rw[vS]
  have lz:∀ {α β:Type} (xs:List α) (ys:List β),(List.zip xs ys).length≤xs.length:=fun xs ys=>by simp;omega
  refine bf (List.zip p.ss st.ss) (fun y=>.tup [y.1.toD,y.2.toD p.g]) (fun y=>btD p.g (y.2.bt p.g y.1 (st.und y.2.nm))) rfl (by have:=lz p.ss st.ss;omega) (fun y hy μ' sb N nn=>?_) ?_
  · walk_at "go"
    exact ⟨y.1,y.2,st,⟨⟨rfl,rfl,rfl⟩,(R.rl _ (List.of_mem_zip hy).1).1,R.g,R.ss y hy,R.ws⟩,nn⟩
  have eb:(List.zip p.ss st.ss).map (fun y=>btD p.g (y.2.bt p.g y.1 (st.und y.2.nm)))=(p.bz st).map (btD p.g):=by unfold Pn.bz;rw[c8,List.map_map];rfl
  have lb:(p.bz st).length≤100:=by unfold Pn.bz;rw[List.length_zipWith];omega
  rw[eb]
  walk_at "go"
  refine bf (p.bz st) (btD p.g) (fun b=>.tup (c6 b.2)) rfl (by omega) (fun b hb μ' sb N nn=>?_) ?_
  · unfold btD
    walk_at "go"
    exact nn
  walk_at "go"
  refine ⟨p.ss,(p.bz st).map (·.2),⟨⟨rfl,by unfold nsD;rw[List.map_map];rfl⟩,sl,by rw[List.length_map];exact lb,fun n hn=>?_,fun s hs=>(R.rl s hs).2.1⟩,?_⟩
  · obtain ⟨b,hb,rfl⟩:=List.mem_map.mp hn
    exact R.nb b hb
  rw[show lL p.ss ((p.bz st).map (·.2))=p.aU st from rfl]
  have sz:=R.sz
  have wl:=R.wl
  walk_at "go"
  rw[vS]
  refine bf (List.zip p.ws st.ws) (fun y=>.tup [y.1.toD,y.2.toD]) (fun y=>(pass y.1 p.sn y.2 (p.aU st)).toD) rfl (by have:=lz p.ws st.ws;omega) (fun y hy μ' sb N nn=>?_) ?_
  · walk_at "go"
    have hw:=R.wy _ (List.of_mem_zip hy).1
    have hk:=R.wz _ (List.of_mem_zip hy).2
    have len2:p.sn.length≤900000:=by unfold Pn.sn;rw[List.length_map];omega
    refine ⟨y.1,p.sn,y.2,p.aU st,⟨⟨rfl,by unfold Pn.sn;rw[List.map_map];rfl,rfl,rfl⟩,⟨hw.1,fun x hx=>(R.se x hx).1⟩,hw.2,R.sn,fun l hl=>?_,by have:=hk.2;omega,len2⟩,nn⟩
    rcases List.mem_append.mp hl with hl | hl
    · exact hk.1 l hl
    · obtain ⟨x,hx,rfl⟩:=List.mem_map.mp hl
      exact (R.se x hx).2
  have ew:(List.zip p.ws st.ws).map (fun y=>(pass y.1 p.sn y.2 (p.aU st)).toD)=(p.cI st).map Wt.toD:=by unfold Pn.cI;rw[c8,List.map_map];rfl
  rw[ew]
  walk_at "go"
  refine zp (p.aU st) sdD (fun x=>(⟨Str.ofString "sent", x.2.nm,x.2.nu,x.1⟩:Ev).toD) rfl (by omega) (fun x hx μ' sb N nn=>?_) (fun e he=>?_)
  · walk_at "go"
    exact nn
  walk_at "go"
  intro l hl o ho
  walk_at "go"
  rw[vS]
  have er0:up μ r (.dct (ka p.ss)) r=some (.dct (ka p.ss)):=aB
  generalize hμr:up μ r (.dct (ka p.ss))=μr at *
  have nre:r≠e:=fun z=>by rw[← z,er0] at he;cases he
  have nel:e≠l:=fun z=>by rw[← z,aB] at hl;cases hl
  have nlo:l≠o:=fun z=>by rw[← z,aB] at ho;cases ho
  have hl':μr l=none:=by rw[aK (Ne.symm nel)] at hl;exact hl
  have ho1:up μr e (.lst ((p.aU st).map fun x=>(⟨Str.ofString "sent", x.2.nm,x.2.nu,x.1⟩:Ev).toD)) o=none:=by rw[aK (Ne.symm nlo)] at ho;exact ho
  have neo:e≠o:=fun z=>by rw[← z,aB] at ho1;cases ho1
  have ho':μr o=none:=by rw[aK (Ne.symm neo)] at ho1;exact ho1
  have nrl:r≠l:=fun z=>by rw[← z,er0] at hl';cases hl'
  have nro:r≠o:=fun z=>by rw[← z,er0] at ho';cases ho'
  have og:=R.go;have oe:=R.ez;have oz:=R.oz;have olz:=R.lz
  have RL:∀ {a},a∈List.zip p.ws (p.cI st)→a.2∈p.cI st:=fun h=>(List.of_mem_zip h).2
  have lw:(p.cI st).length≤p.ws.length:=by unfold Pn.cI;rw[List.length_zipWith];omega
  have zw:(List.zip p.ws (p.cI st)).map (·.2)=p.cI st:=by
    rw[List.map_snd_zip];exact lw
  refine bK (fun rr ρ μ'=>∃ (a c:List (Wy×Wt)) (v11 v12 v13 v14 v15:Option D),rr=c.map (fun y=>.tup [y.1.toD,y.2.toD])∧a++c=List.zip p.ws (p.cI st)∧
    ρ=[some p.toD,some (st.toD p.g),some (.tup (snD p.ss)),some (.tup (p.ss.map fun s=>.str s.nm)),some (.obj r),some (.ls ((p.bz st).map (btD p.g))),some (.ls ((p.aU st).map sdD)),some (.ls ((p.cI st).map Wt.toD)),some (.obj e),some (.obj l),some (.obj o),v11,v12,v13,v14,v15]∧
    (μ' e=some (.lst (evD ((p.aU st).map (fun x=>⟨Str.ofString "sent", x.2.nm,x.2.nu,x.1⟩)++a.flatMap fun y=>evs p.ss y.1 y.2)))∧μ' l=some (.lst (ltD (a.flatMap fun y=>y.2.lo)))∧μ' o=some (.lst (ltD (a.flatMap fun y=>y.2.ou))))∧∀ b,b≠e→b≠l→b≠o→μ' b=μr b) ?_ ?_ _ _ _
    ⟨[],List.zip p.ws (p.cI st),_,_,_,_,_,rfl,rfl,rfl,⟨?_,?_,?_⟩,fun b h1 h2 h3=>?_⟩
  rotate_left 2
  · rw[aK neo,aK nel,aB];simp
  · rw[aK nlo,aB];rfl
  · rw[aB];rfl
  · rw[aK h3,aK h2,aK h1]
  · rintro ρ μ' ⟨a,c,v11,v12,v13,v14,v15,er',ez,rfl,⟨ee,el,eo⟩,eq⟩
    have:c=[]:=by cases c with | nil=>rfl | cons=>cases er'
    subst this
    rw[List.append_nil] at ez
    subst ez
    have el':μ' l=some (.lst (ltD (p.bG st))):=by rw[el,uc,zw];rfl
    have eo':μ' o=some (.lst (ltD (p.out st))):=by rw[eo,uc,zw];rfl
    have ee':μ' e=some (.lst (evD (p.evs st))):=by rw[ee];unfold Pn.evs;rw[c8];congr 3
    have er1:μ' r=some (.dct (ka p.ss)):=by rw[eq r nre nrl nro];exact er0
    have hnm:∀ {n},n∈p.sn→n∈p.ss.map Sn.nm:=fun h=>h
    walk_at "go"
    refine a9 eo' ?_
    refine mh (p.out st) Lt.toD (fun l=>if fc p.ss l=none then some l.toD else none) rfl eo' (by omega) (fun y hy μ2 sb N nn=>?_) ?_
    · walk_at "go"
      refine ⟨p.ss,y,⟨rfl,sb _ _ er1,hnm (R.ou y hy).1,(R.ou y hy).2⟩,?_⟩
      show rIs (xR (fc p.ss y)) .non μ2 _
      rw[Cf]
      walk_at "go"
      refine kif (fun h=>?_) (fun h=>?_)
      · rw[if_pos h] at nn;exact nn
      · rw[if_neg h] at nn;exact nn
    rw[fH (fun l:Lt=>fc p.ss l=none) Lt.toD]
    rw[show (p.out st).filter (fun l=>decide (fc p.ss l=none))=p.taken st from rfl]
    walk_at "go"
    rw[vS]
    refine bf (List.zip p.ws (p.cI st)) (fun y=>.tup [y.1.toD,y.2.toD]) (fun y=>(Ah p.ss y.1 y.2 (p.out st)).toD) rfl (by have:=lz p.ws (p.cI st);omega) (fun y hy μ2 sb N nn=>?_) ?_
    · walk_at "go"
      have h1:=R.wy _ (List.of_mem_zip hy).1
      exact ⟨y.1,p.ss,y.2,p.out st,⟨⟨rfl,rfl⟩,⟨sb _ _ er1,sb _ _ eo'⟩,fun x hx=>⟨hnm (R.ou x hx).1,(R.ou x hx).2⟩,⟨h1.1,fun s hs=>(R.rl s hs).2.2⟩,R.oz,(R.go _ (RL hy)).2⟩,nn⟩
    have e1:(List.zip p.ws (p.cI st)).map (fun y=>(Ah p.ss y.1 y.2 (p.out st)).toD)=wsD (p.step st).ws:=by unfold Pn.step wsD;simp only;rw[c8,List.map_map];rfl
    rw[e1]
    walk_at "go"
    rw[vS]
    have lt1:(p.taken st).length≤900000:=by have:=List.length_filter_le (fun l:Lt=>decide (fc p.ss l=none)) (p.out st);unfold Pn.taken;omega
    refine bf (List.zip p.ss (p.bz st)) (fun y=>.tup [y.1.toD,btD p.g y.2]) (fun y=>(ky y.1 y.2.1 (p.bG st) (p.taken st)).toD p.g) rfl (by have:=lz p.ss (p.bz st);omega) (fun y hy μ2 sb N nn=>?_) ?_
    · unfold btD
      walk_at "go"
      have hs:=(List.of_mem_zip hy).1
      refine ⟨p.g,y.1,y.2.1,p.bG st,p.taken st,⟨⟨rfl,rfl,rfl⟩,sb _ _ el',⟨R.sn _ (List.mem_map.mpr ⟨_,hs,rfl⟩),fun x hx=>R.sn _ (R.lo x hx),fun x hx=>R.sn _ (R.ou x (List.mem_filter.mp hx).1).1⟩,⟨R.lz,lt1⟩,R.lt y hy⟩,nn⟩
    have e2:(List.zip p.ss (p.bz st)).map (fun y=>(ky y.1 y.2.1 (p.bG st) (p.taken st)).toD p.g)=ssD p.g (p.step st).ss:=by unfold Pn.step ssD;simp only;rw[c8,List.map_map];rfl
    rw[e2]
    walk_at "go"
    refine a9 ee' ?_
    refine ⟨μ,fun b ob hb=>?_,k⟩
    have nb:∀ z,μr z=none→b≠z:=fun z hz w=>by
      rw[w] at hb
      rw[← hμr] at hz
      by_cases hzr:z=r
      · rw[hzr,hr] at hb;cases hb
      · rw[aK hzr,hb] at hz;cases hz
    have n1:=nb e he
    have n2:=nb l hl'
    have n3:=nb o ho'
    unfold dn
    rw[if_neg n1,eq b n1 n2 n3,← hμr,aK (fun w=>by rw[w,hr] at hb;cases hb)]
    exact hb
  · rintro d rr ρ μ' N ⟨a,c,v11,v12,v13,v14,v15,er',ez,rfl,⟨ee,el,eo⟩,eq⟩ hN
    cases c with
    | nil=>cases er'
    | cons y c=>
    cases er'
    have hy:y∈List.zip p.ws (p.cI st):=by rw[← ez];simp
    have hyw:=RL hy
    have er1:μ' r=some (.dct (ka p.ss)):=by rw[eq r nre nrl nro];exact er0
    walk_at "go"
    refine a9 ee ?_
    have hou:∀ x∈y.2.ou,x.nm∈p.ss.map Sn.nm∧0≤x.hp:=fun x hx=>R.ou x (List.mem_flatMap.mpr ⟨_,hyw,hx⟩)
    refine ⟨y.1,p.ss,y.2,⟨⟨rfl,rfl⟩,er1,hou,(og _ hyw).1⟩,?_⟩
    walk_at "go"
    have za:a++y::c=List.zip p.ws (p.cI st):=ez
    have le1:(evD ((p.aU st).map (fun x=>⟨Str.ofString "sent", x.2.nm,x.2.nu,x.1⟩)++a.flatMap fun y=>evs p.ss y.1 y.2)).length+(evD (evs p.ss y.1 y.2)).length≤1000000:=by
      have:(p.evs st).length=(p.aU st).length+((a++y::c).flatMap fun y=>evs p.ss y.1 y.2).length:=by
        unfold Pn.evs;rw[c8,za,List.length_append,List.length_map];rfl
      rw[List.flatMap_append,List.flatMap_cons,List.length_append,List.length_append] at this
      simp only[List.length_map,List.length_append];omega
    have ll1:(ltD (a.flatMap fun y=>y.2.lo)).length+(ltD y.2.lo).length≤1000000:=by
      have:(p.bG st).length=((a++y::c).flatMap fun y=>y.2.lo).length:=by unfold Pn.bG;rw[za,uc,zw]
      rw[List.flatMap_append,List.flatMap_cons,List.length_append,List.length_append] at this
      simp only[List.length_map];omega
    have lo1:(ltD (a.flatMap fun y=>y.2.ou)).length+(ltD y.2.ou).length≤1000000:=by
      have:(p.out st).length=((a++y::c).flatMap fun y=>y.2.ou).length:=by unfold Pn.out;rw[za,uc,zw]
      rw[List.flatMap_append,List.flatMap_cons,List.length_append,List.length_append] at this
      simp only[List.length_map];omega
    refine a9 ee ⟨le1,?_⟩
    walk_at "go"
    refine a9 (by rw[aK (Ne.symm nel)];exact el) (a9 (by rw[aK (Ne.symm nel)];exact el) ⟨ll1,?_⟩)
    walk_at "go"
    refine a9 (by rw[aK (Ne.symm nlo),aK (Ne.symm neo)];exact eo) (a9 (by rw[aK (Ne.symm nlo),aK (Ne.symm neo)];exact eo) ⟨lo1,?_⟩)
    refine hN _ _ ⟨a++[y],c,_,_,_,_,_,rfl,by rw[← ez];simp,rfl,⟨?_,?_,?_⟩,fun b h1 h2 h3=>?_⟩
    · rw[aK neo,aK nel,aB,List.flatMap_append];simp
    · rw[aK nlo,aB,List.flatMap_append];simp
    · rw[aB,List.flatMap_append];simp
    · rw[aK h3,aK h2,aK h1,eq b h1 h2 h3]
theorem pV {α:Type}{f g:α→Nat}:∀ {l:List α},(∀ x∈l,f x≤g x)→(l.map f).sum≤(l.map g).sum
  | [],_=>Nat.le_refl _
  | a::r,h=>by
    have h1:=h a List.mem_cons_self
    have h2:=pV (l:=r) fun x hx=>h x (List.mem_cons_of_mem _ hx)
    simp only[List.map_cons,List.sum_cons];omega
theorem cq {α:Type}(f g:α→Nat):∀ l:List α,(l.map fun x=>f x+g x).sum=(l.map f).sum+(l.map g).sum
  | []=>rfl
  | a::r=>by have:=cq f g r;simp only[List.map_cons,List.sum_cons];omega
theorem j3 {α:Type}{f:α→Nat}{k:Nat}:∀ {l:List α},(∀ x∈l,f x≤k)→(l.map f).sum≤l.length*k
  | [],_=>by simp
  | a::r,h=>by
    have h1:=h a List.mem_cons_self
    have h2:=j3 (l:=r) fun x hx=>h x (List.mem_cons_of_mem _ hx)
    simp only[List.map_cons,List.sum_cons,List.length_cons,Nat.succ_mul];omega
theorem kx {α:Type}{f:α→Nat}:∀ {l:List α} {x:α},x∈l→f x≤(l.map f).sum
  | a::r,x,h=>by
    simp only[List.map_cons,List.sum_cons]
    rcases List.mem_cons.mp h with rfl | h
    · omega
    · have:=kx (f:=f) h;omega
theorem ma {κ:Type} [DecidableEq κ] (a:κ):∀ {ks:List κ},ks.Nodup→(ks.map fun k=>if a=k then 1 else 0).sum≤1
  | [],_=>by simp
  | k::r,h=>by
    have h':=List.nodup_cons.mp h
    simp only[List.map_cons,List.sum_cons]
    by_cases e:a=k
    · have:(r.map fun k=>if a=k then 1 else 0).sum=0:=by
        have:∀ l:List κ,a ∉ l→(l.map fun k=>if a=k then 1 else 0).sum=0:=by
          intro l
          induction l with
          | nil=>intro _;rfl
          | cons b l ih=>
            intro hl
            simp only[List.mem_cons,not_or] at hl
            simp[hl.1,ih hl.2]
        exact this r (by rw[e];exact h'.1)
      rw[if_pos e,this];exact Nat.le_refl 1
    · rw[if_neg e];have:=ma a h'.2;omega
theorem split_le {α κ:Type} [DecidableEq κ] (f:α→κ){ks:List κ}(nd:ks.Nodup):∀ xs:List α,(ks.map fun k=>(xs.filter fun x=>decide (f x=k)).length).sum≤xs.length
  | []=>by
    have:∀ l:List κ,(l.map fun _=>0).sum=0:=fun l=>by induction l<;>simp_all
    simpa using this ks
  | x::r=>by
    have h1:=split_le f nd r
    have h2:=ma (f x) nd
    have e:(ks.map fun k=>((x::r).filter fun x=>decide (f x=k)).length)=ks.map fun k=>(if f x=k then 1 else 0)+(r.filter fun x=>decide (f x=k)).length:=by
      refine List.map_congr_left fun k _=>?_
      by_cases z:f x=k<;>simp[z];omega
    rw[e,cq,List.length_cons];omega
theorem zI (ns:List Str):∀ ls:List Lt,(∀ l∈ls,l.nm∈ns)→ls.length≤(ns.map fun n=>(own n ls).length).sum
  | [],_=>by simp
  | x::r,h=>by
    have h1:=zI ns r fun l hl=>h l (List.mem_cons_of_mem _ hl)
    have hx:=h x List.mem_cons_self
    have e:(ns.map fun n=>(own n (x::r)).length)=ns.map fun n=>(if x.nm=n then 1 else 0)+(own n r).length:=by
      refine List.map_congr_left fun k _=>?_
      unfold own
      by_cases z:x.nm=k<;>simp[z];omega
    have h2:1≤(ns.map fun n=>if x.nm=n then 1 else 0).sum:=by
      have:=kx (f:=fun n=>if x.nm=n then 1 else 0) hx
      simpa using this
    rw[e,cq,List.length_cons];omega
theorem uo (n:Str)(ls:List Lt):(own n ls).length=(ls.map Lt.nm).count n:=by
  unfold own
  induction ls with
  | nil=>rfl
  | cons x r ih=>by_cases z:x.nm=n<;>simp[z,ih]
theorem oQ (n:Str)(a b:List Lt):(own n (a++b)).length=(own n a).length+(own n b).length:=by unfold own;simp
theorem pC:∀ {l:List Lt} {i:Nat} (h:i < l.length),([l[i]]++l.eraseIdx i).Perm l
  | x::r,0,_=>.refl _
  | x::r,i+1,h=>by
    have:=pC (l:=r) (i:=i) (by simpa using h)
    simp only[List.getElem_cons_succ,List.eraseIdx_cons_succ]
    exact (List.Perm.swap x _ _).trans (this.cons x)
theorem pH (ws:List Str)(p:Int):∀ (f:Nat) (st out:List Lt) (l:Str),((dg ws p f st out l).1++(dg ws p f st out l).2.1).Perm (out++st)
  | 0,st,out,l=>.refl _
  | f+1,st,out,l=>by
    unfold dg
    split
    · split
      · rename_i n _
        split
        · rename_i x e
          refine (pH ws p f _ _ _).trans ?_
          obtain ⟨hi,rfl⟩:=List.getElem?_eq_some_iff.mp e
          rw[List.append_assoc]
          exact List.Perm.append_left _ (pC hi)
        · exact .refl _
      · exact .refl _
    · exact .refl _
theorem ju (w:Wy)(ws:List Str)(st:List Lt)(l:Str):((cP w ws st l).1++(cP w ws st l).2.1).Perm st:=by
  unfold cP
  split
  · exact pH ..
  · simp only[List.take_append_drop];exact .refl _
theorem oJ (w:Wy):∀ (ys a b:List Lt),(((ys.foldl (bY w) (a,b)).1++(ys.foldl (bY w) (a,b)).2).map Lt.nm).Perm ((a++b++ys).map Lt.nm)
  | [],a,b=>by simp
  | y::r,a,b=>by
    rw[List.foldl_cons]
    by_cases h:w.rm≤(a.length:Int)
    · rw[oT h]
      refine (oJ w r a (b++[y])).trans (by simp)
    · rw[Cj h]
      refine (oJ w r (a++[oA w y a.length]) b).trans ?_
      simp only[List.map_append,List.map_cons,List.map_nil,Bz,List.append_assoc]
      refine List.Perm.append_left _ ?_
      exact (List.perm_middle (l₁:=List.map Lt.nm b)).symm
def Lt.In (sn:List Str)(l:Lt):Prop:=l.nm∈sn∧0≤l.hp∧0≤l.mr∧l.mr≤1
theorem Lc {sn:List Str}{w:Wy}{x:Lt}(n:Nat)(h:x.In sn):(oA w x n).In sn:=by
  unfold oA
  split
  · exact h
  · split
    · exact h
    · exact ⟨h.1,h.2.1,(show (0:Int)≤1 by decide),Int.le_refl 1⟩
theorem ze {sn:List Str}(w:Wy):∀ (ys a b:List Lt),(∀ l∈a,l.In sn)→(∀ l∈b,l.In sn)→(∀ l∈ys,l.In sn)→(∀ l∈(ys.foldl (bY w) (a,b)).1,l.In sn)∧∀ l∈(ys.foldl (bY w) (a,b)).2,l.In sn
  | [],a,b,h1,h2,_=>⟨h1,h2⟩
  | y::r,a,b,h1,h2,h3=>by
    rw[List.foldl_cons]
    have hy:=h3 y List.mem_cons_self
    have hr:∀ l∈r,l.In sn:=fun l hl=>h3 l (List.mem_cons_of_mem _ hl)
    by_cases h:w.rm≤(a.length:Int)
    · rw[oT h]
      refine ze w r a (b++[y]) h1 (fun l hl=>?_) hr
      rcases List.mem_append.mp hl with hl | hl
      · exact h2 l hl
      · rw[List.mem_singleton.mp hl];exact hy
    · rw[Cj h]
      refine ze w r _ b (fun l hl=>?_) h2 hr
      rcases List.mem_append.mp hl with hl | hl
      · exact h1 l hl
      · rw[List.mem_singleton.mp hl];exact Lc _ hy
theorem Hm (w:Wy)(ns:List Str)(k:Ws)(aU:List (Str×Lt))(n:Str):(own n (pass w ns k aU).lo).length+(own n (pass w ns k aU).ou).length+(own n (pass w ns k aU).st).length=(own n (pass w ns k aU).ca).length+(own n k.st).length:=by
  have h1:=(oJ w (pass w ns k aU).ca k.st []).count_eq n
  have h2:=((ju w ns (tk w k.st (pass w ns k aU).ca).1 k.la).map Lt.nm).count_eq n
  simp only[List.map_append,List.count_append,← uo] at h1 h2
  have e1:(pass w ns k aU).lo=(tk w k.st (pass w ns k aU).ca).2:=rfl
  have e2:(pass w ns k aU).ou=(cP w ns (tk w k.st (pass w ns k aU).ca).1 k.la).1:=rfl
  have e3:(pass w ns k aU).st=(cP w ns (tk w k.st (pass w ns k aU).ca).1 k.la).2.1:=rfl
  rw[e1,e2,e3]
  unfold tk at *
  have:(own n ([]:List Lt)).length=0:=rfl
  omega
theorem G1 (w:Wy)(ns:List Str)(k:Ws)(aU:List (Str×Lt)):(pass w ns k aU).lo.length+(pass w ns k aU).ou.length+(pass w ns k aU).st.length=(pass w ns k aU).ca.length+k.st.length:=by
  have h1:=(oJ w (pass w ns k aU).ca k.st []).length_eq
  have h2:=(ju w ns (tk w k.st (pass w ns k aU).ca).1 k.la).length_eq
  simp only[List.length_map,List.length_append,List.length_nil] at h1 h2
  have e1:(pass w ns k aU).lo=(tk w k.st (pass w ns k aU).ca).2:=rfl
  have e2:(pass w ns k aU).ou=(cP w ns (tk w k.st (pass w ns k aU).ca).1 k.la).1:=rfl
  have e3:(pass w ns k aU).st=(cP w ns (tk w k.st (pass w ns k aU).ca).1 k.la).2.1:=rfl
  rw[e1,e2,e3]
  unfold tk at *
  omega
theorem JY {sn:List Str}{w:Wy}{ns:List Str}{k:Ws}{aU:List (Str×Lt)}(hk:∀ l∈k.cm++k.st,l.In sn)(hs:∀ x∈aU,x.2.In sn):(∀ l∈(pass w ns k aU).ca,l.In sn)∧(∀ l∈(pass w ns k aU).lo,l.In sn)∧(∀ l∈(pass w ns k aU).ou,l.In sn)∧∀ l∈(pass w ns k aU).st,l.In sn:=by
  have hca:∀ l∈(pass w ns k aU).ca,l.In sn:=fun l hl=>by
    rcases List.mem_append.mp (show l∈k.cm++(aU.filter fun x=>decide (x.1=w.nm)).map (·.2) from hl) with hl | hl
    · exact hk l (by simp[hl])
    · obtain ⟨x,hx,rfl⟩:=List.mem_map.mp hl
      exact hs x (List.mem_filter.mp hx).1
  have ht:=ze w (pass w ns k aU).ca k.st [] (fun l hl=>hk l (by simp[hl])) (fun l hl=>nomatch hl) hca
  have hp:=ju w ns (tk w k.st (pass w ns k aU).ca).1 k.la
  refine ⟨hca,ht.2,fun l hl=>ht.1 l (hp.mem_iff.mp (List.mem_append_left _ hl)),fun l hl=>ht.1 l (hp.mem_iff.mp (List.mem_append_right _ hl))⟩
theorem Ky {lf:Option Int}{k:Int}(k0:0≤k)(hl:∀ i,lf=some i→0≤i):0≤iz lf k∧iz lf k≤k∧∀ i,lf.map (· - iz lf k)=some i→0≤i:=by
  cases lf with
  | none=>exact ⟨k0,Int.le_refl _,fun i h=>by cases h⟩
  | some l=>
    have:=hl l rfl
    refine ⟨?_,?_,fun i h=>?_⟩
    · show 0≤min k l;omega
    · show min k l≤k;omega
    · have e:l - min k l=i:=by simpa[iz] using h
      omega
theorem JH (a:Int)(n:Nat):(rgI a n).length=n:=by unfold rgI;simp
structure Fills (x:Ss) (pl:Nat) (b:Ss×List Int):Prop where
  same:b.1.nm=x.nm∧b.1.du=x.du∧b.1.W=x.W∧b.1.S=x.S∧b.1.lo=x.lo∧b.1.gd=x.gd∧b.1.mk'=x.mk'∧b.1.wt=x.wt
  few:b.2.length≤pl
  all:b.1.ag.length+b.2.length≤max x.ag.length pl
  n0:x.nx≤b.1.nx
  n1:b.1.nx≤x.nx+pl
  l:∀ i,b.1.lf=some i→0≤i
theorem L9 {x:Ss}(pl:Nat)(hl:∀ i,x.lf=some i→0≤i):Fills x pl (x.fill pl):=by
  have tl:(x.ag.take pl).length=min pl x.ag.length:=List.length_take
  obtain ⟨c0,c1,c2⟩:=Ky (lf:=x.lf) (k:=(pl:Int) - ((x.ag.take pl).length:Int)) (by omega) hl
  have e1:(x.fill pl).1.ag.length=x.ag.length - (x.ag.take pl).length:=by show (x.ag.drop _).length=_;rw[List.length_drop]
  have e2:(x.fill pl).2.length=(x.ag.take pl).length+(iz x.lf ((pl:Int) - ((x.ag.take pl).length:Int))).toNat:=by show (x.ag.take pl++rgI _ _).length=_;rw[List.length_append,JH]
  have e3:(x.fill pl).1.nx=x.nx+iz x.lf ((pl:Int) - ((x.ag.take pl).length:Int)):=rfl
  refine ⟨⟨rfl,rfl,rfl,rfl,rfl,rfl,rfl,rfl⟩,by omega,by omega,by omega,by omega,c2⟩
structure SsI (g:Int) (R:RN) (n:Nat) (x:Ss):Prop where
  w0:g≤x.W
  w1:x.W≤R.cap g
  s0:0≤x.S
  s1:x.S≤g
  g0:0≤x.gd
  g1:x.gd≤60*n
  m0:0≤x.mk'
  m1:x.mk'≤60*n
  t0:0≤x.wt
  n0:0≤x.nx
  n1:x.nx≤60*n
  l:∀ i,x.lf=some i→0≤i
theorem SsI.ok {g:Int}{R:RN}{n:Nat}{x:Ss}(h:SsI g R n x)(hn:n≤10000)(nm:PyData.strOk x.nm=true)(a:x.ag.length+x.lo.length≤60):x.Ok g R:=by
  have:=h.g1;have:=h.m1;have:=h.n1
  exact ⟨nm,h.w0,h.w1,h.s0,h.s1,⟨h.g0,(show x.gd≤1000000 by omega),h.m0,(show x.mk'≤1000000 by omega),(show (0:Int)≤(x.lo.length:Int) by omega),(show (x.lo.length:Int)≤1000000 by omega),h.t0⟩,by have:=h.n0;omega,by omega,a,h.l⟩
structure Ca (g:Int) (R:RN) (n:Nat) (u:Int) (x:Ss) (b:Ss×List Int):Prop where
  nm:b.1.nm=x.nm
  i:SsI g R (n+1) b.1
  g:b.1.gd≤60*n
  m:b.1.mk'≤60*n
  few:b.2.length≤60
  all:u+(b.2.length:Int)+(b.1.ag.length:Int)+(b.1.lo.length:Int)≤60
theorem QL {p:Int}{s:Sn}{n:Nat}{x:Ss}{u:Int}(K:s.rl.Ok)(g0:0 < p)(h:SsI p s.rl n x)(hd:x.hd.Ok)(u0:0≤u)(a:u+(x.ag.length:Int)+(x.lo.length:Int)≤60):Ca p s.rl n u x (x.bt p s u):=by
  unfold Ss.bt
  have i:=h
  split
  · have bi:=EG K g0 x.hd (S:=x.S) h.w0 h.w1
    have bs:=OD K hd g0 h.s0 h.s1
    rw[← J1 s.rl p x.W x.S x.hd] at bs
    have cl:=F8 K g0
    have d60:(s.rl.beh p x.W x.S x.hd).1 / p≤60:=Int.ediv_le_of_le_mul g0 (by omega)
    generalize hpl:(max 0 ((s.rl.beh p x.W x.S x.hd).1 / p - u)).toNat=pl
    have F:=L9 (x:=x.rdy p s.rl) pl h.l
    have la:(x.rdy p s.rl).ag.length=x.ag.length+x.lo.length:=by show (iA _).length=_;rw[l4,List.length_append]
    obtain ⟨e1,e2,e3,e4,e5,e6,e7,e8⟩:=F.same
    have f1:=F.few;have f2:=F.all;have f3:=F.n0;have f4:=F.n1
    have ex:(x.rdy p s.rl).nx=x.nx:=rfl
    have elo:((x.rdy p s.rl).fill pl).1.lo.length=0:=by rw[e5];rfl
    have:=h.n0;have:=h.n1
    have z6:((x.rdy p s.rl).fill pl).1.gd=0:=e6
    have z7:((x.rdy p s.rl).fill pl).1.mk'=0:=e7
    have z8:((x.rdy p s.rl).fill pl).1.wt=0:=e8
    refine ⟨e1,⟨?_,?_,?_,?_,by omega,by omega,by omega,by omega,by omega,by omega,by omega,F.l⟩,by omega,by omega,by omega,by omega⟩
    · rw[e3];exact bi.1
    · rw[e3];exact bi.2
    · rw[e4];exact bs.1
    · rw[e4];exact bs.2
  · have:=h.g1;have:=h.m1;have:=h.n1
    exact ⟨rfl,⟨h.w0,h.w1,h.s0,h.s1,h.g0,(show x.gd≤60*((n+1:Nat):Int) by omega),h.m0,(show x.mk'≤60*((n+1:Nat):Int) by omega),h.t0,h.n0,(show x.nx≤60*((n+1:Nat):Int) by omega),h.l⟩,h.g1,h.m1,by simp,by simpa using a⟩
theorem EW {ss:List Sn}{ns:List (List Int)}{x:Str×Lt}(h:x∈lL ss ns):∃ s∈ss,∃ n,x=(s.rd.headD (Str.ofString ""),⟨s.nm,n,0,0,0⟩):=by
  rw[rg] at h
  obtain ⟨t,_,h⟩:=List.mem_flatMap.mp h
  obtain ⟨y,hy,e⟩:=List.mem_filterMap.mp h
  unfold fB at e
  cases q:y.2[t]? with
  | none=>rw[q] at e;cases e
  | some n=>
    rw[q] at e
    cases e
    exact ⟨y.1,(List.of_mem_zip hy).1,n,rfl⟩
theorem wC (n:Str)(t:Nat):∀ zs:List (Sn×List Int),(own n ((zs.filterMap (fB t)).map (·.2))).length≤(zs.map fun y=>if n=y.1.nm then 1 else 0).sum
  | []=>by simp[own]
  | y::r=>by
    have ih:=wC n t r
    simp only[List.map_cons,List.sum_cons]
    cases e:fB t y with
    | none=>rw[List.filterMap_cons_none e];omega
    | some z=>
      rw[List.filterMap_cons_some e,List.map_cons]
      have ez:z.2.nm=y.1.nm:=by
        unfold fB at e
        cases q:y.2[t]? with
        | none=>rw[q] at e;cases e
        | some k=>rw[q] at e;cases e;rfl
      unfold own at *
      by_cases h:n=y.1.nm
      · rw[if_pos h]
        rw[List.filter_cons]
        split
        · rw[List.length_cons];omega
        · omega
      · rw[if_neg h,List.filter_cons_of_neg (by rw[ez];simp;exact fun z=>h z.symm)];omega
theorem sQ (n:Str)(t L:Nat)(hL:L≤t):∀ zs:List (Sn×List Int),(∀ y∈zs,y.1.nm=n→y.2.length≤L)→(own n ((zs.filterMap (fB t)).map (·.2))).length=0
  | [],_=>rfl
  | y::r,h=>by
    have ih:=sQ n t L hL r fun y hy=>h y (List.mem_cons_of_mem _ hy)
    cases e:fB t y with
    | none=>rw[List.filterMap_cons_none e];exact ih
    | some z=>
      rw[List.filterMap_cons_some e,List.map_cons]
      unfold fB at e
      cases q:y.2[t]? with
      | none=>rw[q] at e;cases e
      | some k=>
        rw[q] at e;cases e
        have hlt:=(List.getElem?_eq_some_iff.mp q).1
        have ne:¬ y.1.nm=n:=fun z=>by have:=h y List.mem_cons_self z;omega
        unfold own at *
        rw[List.filter_cons_of_neg (by simpa using ne)]
        exact ih
theorem kP {α:Type}(n:Str)(f:α→List Lt):∀ xs:List α,(own n (xs.flatMap f)).length=(xs.map fun x=>(own n (f x)).length).sum
  | []=>rfl
  | x::r=>by rw[List.flatMap_cons,oQ,kP n f r];rfl
theorem JM (L:Nat):∀ M:Nat,((List.range M).map fun t=>if t < L then 1 else 0).sum≤L
  | 0=>by simp
  | M+1=>by
    have key:∀ M:Nat,((List.range M).map fun t=>if t < L then 1 else 0).sum=min M L:=by
      intro M
      induction M with
      | zero=>simp
      | succ M ih=>
        rw[List.range_succ,List.map_append,List.sum_append,ih]
        simp only[List.map_cons,List.map_nil,List.sum_cons,List.sum_nil]
        split<;>omega
    rw[key];omega
theorem BR {α β:Type}:∀ (xs:List α) (ys:List β),((List.zip xs ys).map (·.1)) <+: xs
  | [],_=>by simp
  | x::r,[]=>by simp
  | x::r,y::s=>by simpa using BR r s
theorem GU {ss:List Sn}{ns:List (List Int)}(nd:(ss.map Sn.nm).Nodup)(n:Str)(L:Nat)(h:∀ y∈List.zip ss ns,y.1.nm=n→y.2.length≤L):(own n ((lL ss ns).map (·.2))).length≤L:=by
  rw[rg,List.map_flatMap,kP]
  refine Nat.le_trans (pV (g:=fun t=>if t < L then 1 else 0) fun t _=>?_) (JM L _)
  split
  · refine Nat.le_trans (wC n t _) ?_
    have e:((List.zip ss ns).map fun y=>if n=y.1.nm then 1 else 0)=((List.zip ss ns).map (·.1.nm)).map fun k=>if n=k then 1 else 0:=by rw[List.map_map];rfl
    rw[e]
    refine ma n ?_
    have e2:(List.zip ss ns).map (·.1.nm)=((List.zip ss ns).map (·.1)).map Sn.nm:=by rw[List.map_map];rfl
    rw[e2]
    exact nd.sublist (((BR ss ns).sublist).map Sn.nm)
  · rw[sQ n t L (by omega) _ h];exact Nat.le_refl 0
def St'.jS (x:St')(n:Str):Nat:=(x.ws.map fun w=>(own n (w.cm++w.st)).length).sum
theorem Rt (x:St')(n:Str):x.und n=(x.jS n:Int):=by
  unfold St'.und St'.jS
  induction x.ws with
  | nil=>rfl
  | cons a l ih=>simp only[List.map_cons,List.sum_cons,ih];omega
structure dQ (p:Pn) (m:Int) (n:Nat) (st:St'):Prop where
  K:p.Ok m
  lw:st.ws.length=p.ws.length
  nm:st.ss.map Ss.nm=p.sn
  lt:∀ w∈st.ws,∀ l∈w.cm++w.st,l.In p.sn
  ss:∀ y∈List.zip p.ss st.ss,SsI p.g y.1.rl n y.2
  cn:∀ x∈st.ss,(st.jS x.nm:Int)+(x.ag.length:Int)+(x.lo.length:Int)≤60
theorem Dx {ns:List Str}(h:ns.Pairwise fun a b=>ltS a b=true):ns.Nodup:=h.imp fun {a b} h e=>by
  subst e
  have:¬ a.cps.toList < a.cps.toList:=List.lt_irrefl _
  simp[ltS,this] at h
theorem qo {α β:Type}{f:α→List β}{k:Nat}{l:List α}(h:∀ x∈l,(f x).length≤k):(l.flatMap f).length≤l.length*k:=by
  rw[List.length_flatMap];exact j3 h
theorem mE {α β:Type}{f:α→β}{a b:α}:∀ {l:List α},(l.map f).Nodup→a∈l→b∈l→f a=f b→a=b
  | x::r,h,ha,hb,e=>by
    have h':=List.nodup_cons.mp h
    rcases List.mem_cons.mp ha with ea | ha
    · rcases List.mem_cons.mp hb with eb | hb
      · rw[ea,eb]
      · exact absurd (List.mem_map.mpr ⟨b,hb,by rw[← e,ea]⟩:f x∈r.map f) h'.1
    · rcases List.mem_cons.mp hb with eb | hb
      · exact absurd (List.mem_map.mpr ⟨a,ha,by rw[e,eb]⟩:f x∈r.map f) h'.1
      · exact mE h'.2 ha hb e
section
variable {p:Pn} {m:Int} {n:Nat} {st:St'} (I:dQ p m n st)
include I
theorem dQ.sd:p.sn.Nodup:=Dx I.K.sd
theorem dQ.ls:st.ss.length=p.ss.length:=by have:=congrArg List.length I.nm;simpa using this
theorem dQ.znm {y:Sn×Ss}(h:y∈List.zip p.ss st.ss):y.2.nm=y.1.nm:=by
  obtain ⟨i,hi,e⟩:=List.getElem_of_mem h
  have h1:i < p.ss.length:=by simp at hi;omega
  have h2:i < st.ss.length:=by simp at hi;omega
  have e1:=congrArg (fun l=>l[i]?) I.nm
  simp[h1,h2] at e1
  rw[← e]
  simpa using e1
theorem dQ.snm {a:Str}(h:a∈p.sn):∃ x∈st.ss,x.nm=a:=by rw[← I.nm] at h;obtain ⟨x,hx,e⟩:=List.mem_map.mp h;exact ⟨x,hx,e⟩
theorem dQ.Rb {a:Str}(h:a∈p.sn):st.jS a≤60:=by
  obtain ⟨x,hx,rfl⟩:=I.snm h
  have:=I.cn x hx;omega
theorem dQ.snl:p.sn.length≤8:=by unfold Pn.sn;rw[List.length_map];exact I.K.s1
theorem dQ.LC {w:Ws}(h:w∈st.ws):w.cm.length+w.st.length≤480:=by
  have h1:=zI p.sn (w.cm++w.st) fun l hl=>(I.lt w h l hl).1
  have h2:(p.sn.map fun a=>(own a (w.cm++w.st)).length).sum≤p.sn.length*60:=j3 fun a ha=>by
    have:=I.Rb ha
    have:=kx (f:=fun w:Ws=>(own a (w.cm++w.st)).length) h
    unfold St'.jS at *;omega
  have:=I.snl
  rw[List.length_append] at h1;omega
theorem dQ.sok {a:Str}(h:a∈p.sn):PyData.strOk a=true:=by
  obtain ⟨s,hs,rfl⟩:=List.mem_map.mp h
  exact (I.K.s s hs).n
theorem dQ.xok (hn:n≤10000){y:Sn×Ss}(h:y∈List.zip p.ss st.ss):y.2.Ok p.g y.1.rl:=by
  have hx:=(List.of_mem_zip h).2
  have c:=I.cn _ hx
  refine (I.ss y h).ok hn (I.sok ?_) (by omega)
  rw[I.znm h];exact List.mem_map.mpr ⟨_,(List.of_mem_zip h).1,rfl⟩
theorem dQ.bt (hn:n≤10000){y:Sn×Ss}(h:y∈List.zip p.ss st.ss):Ca p.g y.1.rl n (st.jS y.2.nm) y.2 (y.2.bt p.g y.1 (st.und y.2.nm)):=by
  have hx:=(List.of_mem_zip h).2
  have hs:=(List.of_mem_zip h).1
  have c:=I.cn _ hx
  rw[Rt]
  exact QL (I.K.s _ hs).k (by have:=I.K.g.1;omega) (I.ss y h) (I.xok hn h).h (by omega) c
theorem dQ.T9 (hn:n≤10000){b:Ss×List Int}(h:b∈p.bz st):∃ y∈List.zip p.ss st.ss,b=y.2.bt p.g y.1 (st.und y.2.nm)∧Ca p.g y.1.rl n (st.jS y.2.nm) y.2 b:=by
  unfold Pn.bz at h
  rw[c8] at h
  obtain ⟨y,hy,rfl⟩:=List.mem_map.mp h
  exact ⟨y,hy,rfl,I.bt hn hy⟩
theorem dQ.nb (hn:n≤10000){b:Ss×List Int}(h:b∈p.bz st):b.2.length≤60:=by obtain ⟨y,_,_,B⟩:=I.T9 hn h;exact B.few
theorem dQ.zb {y:Sn×(Ss×List Int)}(h:y∈List.zip p.ss (p.bz st)):∃ x,(y.1,x)∈List.zip p.ss st.ss∧y.2=x.bt p.g y.1 (st.und x.nm):=by
  obtain ⟨i,hi,e⟩:=List.getElem_of_mem h
  have h1:i < p.ss.length:=by simp at hi;omega
  have h2:i < st.ss.length:=by have:=I.ls;omega
  refine ⟨st.ss[i],?_,?_⟩
  · have:i < (List.zip p.ss st.ss).length:=by simp;omega
    have hm:=List.getElem_mem this
    rw[List.getElem_zip] at hm
    rw[← e];simpa using hm
  · rw[← e]
    simp[Pn.bz]
theorem dQ.zs {y:Sn×List Int}(h:y∈List.zip p.ss ((p.bz st).map (·.2))):∃ b,(y.1,b)∈List.zip p.ss (p.bz st)∧y.2=b.2:=by
  rw[List.zip_map_right] at h
  obtain ⟨z,hz,rfl⟩:=List.mem_map.mp h
  exact ⟨z.2,hz,rfl⟩
theorem dQ.Ml (hn:n≤10000){x:Ss}{s:Sn}(h:(s,x)∈List.zip p.ss st.ss):(own s.nm ((p.aU st).map (·.2))).length≤(x.bt p.g s (st.und x.nm)).2.length:=by
  refine GU I.sd s.nm _ fun y hy e=>?_
  obtain ⟨b,hb,e2⟩:=I.zs hy
  obtain ⟨x',hx',e3⟩:=I.zb hb
  have e3':b=x'.bt p.g y.1 (st.und x'.nm):=e3
  have es:y.1=s:=mE (f:=Sn.nm) I.sd (List.of_mem_zip hx').1 (List.of_mem_zip h).1 e
  have ex:x'=x:=by
    refine mE (f:=Ss.nm) (by rw[I.nm];exact I.sd) (List.of_mem_zip hx').2 (List.of_mem_zip h).2 ?_
    have n1:x'.nm=y.1.nm:=I.znm hx'
    have n2:x.nm=s.nm:=I.znm h
    rw[n1,n2];exact e
  rw[e2,e3',es,ex]
  exact Nat.le_refl _
theorem dQ.SA {s:Sn}(h:s∈p.ss):∃ x,(s,x)∈List.zip p.ss st.ss:=by
  obtain ⟨i,hi,e⟩:=List.getElem_of_mem h
  have h2:i < st.ss.length:=by have:=I.ls;omega
  have:i < (List.zip p.ss st.ss).length:=by simp;omega
  have hm:=List.getElem_mem this
  rw[List.getElem_zip] at hm
  exact ⟨_,by rw[← e];exact hm⟩
theorem dQ.tR {x:Str×Lt}(h:x∈p.aU st):x.2.In p.sn∧PyData.strOk x.1=true:=by
  obtain ⟨s,hs,k,rfl⟩:=EW h
  have hk:=I.K.s s hs
  refine ⟨⟨List.mem_map.mpr ⟨s,hs,rfl⟩,Int.le_refl 0,Int.le_refl 0,(show (0:Int)≤1 by decide)⟩,?_⟩
  cases e:s.rd with
  | nil=>exact absurd e hk.r0
  | cons a r=>
    have:a∈p.wn:=hk.r.subset (by rw[e];simp)
    obtain ⟨w,hw,rfl⟩:=List.mem_map.mp this
    exact (I.K.w w hw).n
theorem dQ.MJ (hn:n≤10000):(p.aU st).length≤480:=by
  have h1:=zI p.sn ((p.aU st).map (·.2)) fun l hl=>by obtain ⟨x,hx,rfl⟩:=List.mem_map.mp hl;exact (I.tR hx).1.1
  have h2:(p.sn.map fun a=>(own a ((p.aU st).map (·.2))).length).sum≤p.sn.length*60:=j3 fun a ha=>by
    obtain ⟨s,hs,rfl⟩:=List.mem_map.mp ha
    obtain ⟨x,hx⟩:=I.SA hs
    exact Nat.le_trans (I.Ml hn hx) (I.bt hn hx).few
  have:=I.snl
  rw[List.length_map] at h1;omega
theorem dQ.HP {x:Wt}(h:x∈p.cI st):∃ y∈List.zip p.ws st.ws,x=pass y.1 p.sn y.2 (p.aU st):=by
  unfold Pn.cI at h
  rw[c8] at h
  obtain ⟨y,hy,rfl⟩:=List.mem_map.mp h
  exact ⟨y,hy,rfl⟩
theorem dQ.zh {x:Wt}(h:x∈p.cI st):(∀ l∈x.ca,l.In p.sn)∧(∀ l∈x.lo,l.In p.sn)∧(∀ l∈x.ou,l.In p.sn)∧∀ l∈x.st,l.In p.sn:=by
  obtain ⟨y,hy,rfl⟩:=I.HP h
  exact JY (I.lt _ (List.of_mem_zip hy).2) fun x hx=>(I.tR hx).1
theorem dQ.Bx (hn:n≤10000){x:Wt}(h:x∈p.cI st):x.ca.length≤960∧x.lo.length+x.ou.length+x.st.length≤1440:=by
  obtain ⟨y,hy,rfl⟩:=I.HP h
  have h1:=I.LC (List.of_mem_zip hy).2
  have h2:=I.MJ hn
  have h3:=G1 y.1 p.sn y.2 (p.aU st)
  have h4:(pass y.1 p.sn y.2 (p.aU st)).ca.length≤y.2.cm.length+(p.aU st).length:=by
    show (y.2.cm++((p.aU st).filter fun x=>decide (x.1=y.1.nm)).map (·.2)).length≤_
    rw[List.length_append,List.length_map]
    have:=List.length_filter_le (fun x:Str×Lt=>decide (x.1=y.1.nm)) (p.aU st)
    omega
  omega
theorem dQ.wl:(p.cI st).length≤6:=by unfold Pn.cI;rw[List.length_zipWith];have:=I.K.w1;omega
end
theorem DA {α:Type}(a b:α→Bool)(l:List α):(l.filter a).filter b=(l.filter b).filter a:=by
  rw[List.filter_filter,List.filter_filter];congr 1;funext x;exact Bool.and_comm ..
theorem Kl (n:Str)(q:Str×Lt→Bool)(l:List (Str×Lt)):(own n ((l.filter q).map (·.2))).length=((l.filter fun x=>decide (x.2.nm=n)).filter q).length:=by
  unfold own
  rw[List.filter_map,List.length_map,← DA]
  rfl
theorem yq (n:Str)(h:Int)(l:List Lt):(own n (l.map (·.pR h))).length=(own n l).length:=by
  rw[uo,uo,List.map_map];rfl
theorem qI {α β γ:Type}(P:α×β→γ):∀ (xs:List α) (ys:List β),List.zip xs ((List.zip xs ys).map P)=(List.zip xs ys).map fun y=>(y.1,P y)
  | [],_=>by simp
  | x::r,[]=>by simp
  | x::r,y::s=>by simp[qI P r s]
theorem uW {α β:Type}:∀ {xs:List α} {ys:List β},xs.length≤ys.length→(List.zip xs ys).map (·.1)=xs
  | [],_,_=>by simp
  | x::r,[],h=>by simp at h
  | x::r,y::s,h=>by simp[uW (xs:=r) (ys:=s) (by simpa using h)]
theorem BC {α β:Type}:∀ {xs:List α} {ys:List β},ys.length≤xs.length→(List.zip xs ys).map (·.2)=ys
  | _,[],_=>by simp
  | [],y::s,h=>by simp at h
  | x::r,y::s,h=>by simp[BC (xs:=r) (ys:=s) (by simpa using h)]
theorem Du (q:Lt→Bool)(n:Str)(l:List Lt):(own n (l.filter q)).length+(own n (l.filter fun x=>!q x)).length=(own n l).length:=by
  unfold own
  induction l with
  | nil=>rfl
  | cons x r ih=>by_cases h1:q x<;>by_cases h2:x.nm=n<;>simp[h1,h2] at ih ⊢ <;> omega
theorem G6 {p:Pn}{st:St'}(nd:p.wn.Nodup)(lw:st.ws.length=p.ws.length)(a:Str) :
    (p.step st).jS a+(own a (p.taken st)).length+(own a (p.bG st)).length≤st.jS a+(own a ((p.aU st).map (·.2))).length:=by
  generalize hZ:List.zip p.ws st.ws=Z
  have z1:Z.map (·.1)=p.ws:=by rw[← hZ];exact uW (by omega)
  have z2:Z.map (·.2)=st.ws:=by rw[← hZ];exact BC (by omega)
  let P:Wy×Ws→Wt:=fun y=>pass y.1 p.sn y.2 (p.aU st)
  have ew:p.cI st=Z.map P:=by unfold Pn.cI;rw[c8,hZ]
  have el:(own a (p.bG st)).length=(Z.map fun y=>(own a (P y).lo).length).sum:=by unfold Pn.bG;rw[kP,ew,List.map_map];rfl
  have eo:(own a (p.out st)).length=(Z.map fun y=>(own a (P y).ou).length).sum:=by unfold Pn.out;rw[kP,ew,List.map_map];rfl
  have e3:(Z.map fun y=>(own a (P y).lo).length).sum+(Z.map fun y=>(own a (P y).ou).length).sum+(Z.map fun y=>(own a (P y).st).length).sum=(Z.map fun y=>(own a (P y).ca).length).sum+(Z.map fun y=>(own a y.2.st).length).sum:=by
    rw[← cq,← cq,← cq]
    congr 1
    exact List.map_congr_left fun y _=>Hm y.1 p.sn y.2 (p.aU st) a
  have e4:(Z.map fun y=>(own a (P y).ca).length).sum≤(Z.map fun y=>(own a y.2.cm).length).sum+(own a ((p.aU st).map (·.2))).length:=by
    have:(Z.map fun y=>(own a (P y).ca).length)=Z.map fun y=>(own a y.2.cm).length+(((p.aU st).filter fun x=>decide (x.2.nm=a)).filter fun x=>decide (x.1=y.1.nm)).length:=by
      refine List.map_congr_left fun y _=>?_
      show (own a (y.2.cm++((p.aU st).filter fun x=>decide (x.1=y.1.nm)).map (·.2))).length=_
      rw[oQ,Kl]
    rw[this,cq]
    have h2:=split_le (f:=fun x:Str×Lt=>x.1) nd ((p.aU st).filter fun x=>decide (x.2.nm=a))
    have h3:(Z.map fun y=>(((p.aU st).filter fun x=>decide (x.2.nm=a)).filter fun x=>decide (x.1=y.1.nm)).length)=(p.wn.map fun k=>(((p.aU st).filter fun x=>decide (x.2.nm=a)).filter fun x=>decide (x.1=k)).length):=by
      unfold Pn.wn;rw[← z1,List.map_map,List.map_map];rfl
    rw[h3]
    have h4:(own a ((p.aU st).map (·.2))).length=((p.aU st).filter fun x=>decide (x.2.nm=a)).length:=by
      unfold own;rw[List.filter_map,List.length_map];rfl
    omega
  have e5:st.jS a=(Z.map fun y=>(own a y.2.cm).length).sum+(Z.map fun y=>(own a y.2.st).length).sum:=by
    unfold St'.jS
    rw[← z2,List.map_map,← cq]
    congr 1
    exact List.map_congr_left fun y _=>oQ ..
  have e6:(p.step st).jS a=(Z.map fun y=>(own a ((p.out st).filter fun l=>decide (fc p.ss l=some y.1.nm))).length).sum+(Z.map fun y=>(own a (P y).st).length).sum:=by
    unfold St'.jS Pn.step
    simp only
    rw[c8,ew,← hZ,qI,hZ,List.map_map,List.map_map,← cq]
    congr 1
    refine List.map_congr_left fun y _=>?_
    show (own a (((p.out st).filter fun l=>decide (fc p.ss l=some y.1.nm)).map (·.pR 1)++(P y).st.map (·.pR 0))).length=_
    rw[oQ,yq,yq]
  have e7:(Z.map fun y=>(own a ((p.out st).filter fun l=>decide (fc p.ss l=some y.1.nm))).length).sum≤(own a ((p.out st).filter fun l=>!decide (fc p.ss l=none))).length:=by
    have nd2:(p.wn.map some).Nodup:=List.Pairwise.map _ (fun a b (h:a≠b) (z:some a=some b)=>h (Option.some.inj z)) nd
    have h2:=split_le (f:=fc p.ss) nd2 (own a ((p.out st).filter fun l=>!decide (fc p.ss l=none)))
    rw[List.map_map] at h2
    have h3:(Z.map fun y=>(own a ((p.out st).filter fun l=>decide (fc p.ss l=some y.1.nm))).length)=p.wn.map ((fun k=>((own a ((p.out st).filter fun l=>!decide (fc p.ss l=none))).filter fun x=>decide (fc p.ss x=k)).length) ∘ some):=by
      unfold Pn.wn
      rw[← z1,List.map_map,List.map_map]
      refine List.map_congr_left fun y _=>?_
      unfold own
      simp only[Function.comp,List.filter_filter]
      congr 2
      funext x
      by_cases h1:x.nm=a<;>cases h:fc p.ss x<;>simp[h1]
    rw[h3];exact h2
  have e8:=Du (fun l=>decide (fc p.ss l=none)) a (p.out st)
  have e9:(own a (p.taken st)).length=(own a ((p.out st).filter fun l=>decide (fc p.ss l=none))).length:=rfl
  omega
theorem sS:∀ {l:List Lt},(∀ x∈l,0≤x.mr∧x.mr≤1)→0≤(l.map Lt.mr).sum∧(l.map Lt.mr).sum≤(l.length:Int)
  | [],_=>by simp
  | x::r,h=>by
    have h1:=h x List.mem_cons_self
    have h2:=sS (l:=r) fun x hx=>h x (List.mem_cons_of_mem _ hx)
    simp only[List.map_cons,List.sum_cons,List.length_cons];omega
section
variable {p:Pn} {m:Int} {n:Nat} {st:St'} (I:dQ p m n st) (hn:n≤10000)
include I
theorem dQ.BQ {l:Lt}(h:l∈p.out st):l.In p.sn:=by
  obtain ⟨x,hx,hl⟩:=List.mem_flatMap.mp h
  exact (I.zh hx).2.2.1 l hl
theorem dQ.O7 {l:Lt}(h:l∈p.bG st):l.In p.sn:=by
  obtain ⟨x,hx,hl⟩:=List.mem_flatMap.mp h
  exact (I.zh hx).2.1 l hl
include hn
theorem dQ.cons {s:Sn}{b:Ss×List Int}(h:(s,b)∈List.zip p.ss (p.bz st)):b.1.nm=s.nm∧SsI p.g s.rl (n+1) b.1∧b.1.gd≤60*n∧b.1.mk'≤60*n∧
    ((p.step st).jS s.nm:Int)+((own s.nm (p.taken st)).length:Int)+((own s.nm (p.bG st)).length:Int)+(b.1.ag.length:Int)+(b.1.lo.length:Int)≤60:=by
  obtain ⟨x,hx,e⟩:=I.zb h
  have e':b=x.bt p.g s (st.und x.nm):=e
  have B:Ca p.g s.rl n (st.jS x.nm) x (x.bt p.g s (st.und x.nm)):=I.bt hn hx
  have nm:x.nm=s.nm:=I.znm hx
  have c:=G6 (p:=p) (st:=st) I.K.wd I.lw s.nm
  have d:(own s.nm ((p.aU st).map (·.2))).length≤(x.bt p.g s (st.und x.nm)).2.length:=I.Ml hn hx
  have a:=B.all
  rw[← e'] at B d a
  rw[nm] at a
  exact ⟨B.nm.trans nm,B.i,B.g,B.m,by omega⟩
theorem dQ.rd:yb p st:=by
  have w1:=I.K.w1;have s1:=I.K.s1
  have wl:=I.wl
  have sl:=I.MJ hn
  have lo:=qo (f:=Wt.lo) (k:=1440) (l:=p.cI st) fun x hx=>by have:=(I.Bx hn hx).2;omega
  have ou:=qo (f:=Wt.ou) (k:=1440) (l:=p.cI st) fun x hx=>by have:=(I.Bx hn hx).2;omega
  refine ⟨I.K.g,I.sd,by omega,by omega,fun a ha=>I.sok ha,fun s hs=>⟨(I.K.s s hs).k,(I.K.s s hs).r0,fun a ha=>?_⟩,fun w hw=>⟨(I.K.w w hw).n,by have:=(I.K.w w hw).p0;omega⟩,fun w hw=>⟨fun l hl=>I.sok (I.lt w hw l hl).1,by have:=I.LC hw;omega⟩,
    fun y hy=>I.xok hn hy,fun b hb=>by have:=I.nb hn hb;omega,fun x hx=>⟨(I.tR hx).2,(I.tR hx).1.1⟩,by omega,fun w hw=>⟨fun l hl=>(I.lt w hw l hl).1,by have:=I.LC hw;omega⟩,fun x hx=>by have:=I.Bx hn hx;omega,
    fun l hl=>⟨(I.BQ hl).1,(I.BQ hl).2.1⟩,fun l hl=>(I.O7 hl).1,?_,?_,?_,fun y hy=>?_⟩
  · have:a∈p.wn:=(I.K.s s hs).r.subset ha
    obtain ⟨w,hw,rfl⟩:=List.mem_map.mp this
    exact (I.K.w w hw).n
  · show ((p.cI st).flatMap Wt.ou).length≤_;omega
  · show ((p.cI st).flatMap Wt.lo).length≤_;omega
  · unfold Pn.evs
    rw[List.length_append,List.length_map,c8]
    have h2:(List.zip p.ws (p.cI st)).length≤6:=by simp;omega
    have h3:=qo (f:=fun y:Wy×Wt=>evs p.ss y.1 y.2) (k:=2400) (l:=List.zip p.ws (p.cI st)) fun y hy=>by
      have:=I.Bx hn (List.of_mem_zip hy).2
      show (y.2.ca.zipIdx.map _++y.2.ou.map _).length≤_
      rw[List.length_append,List.length_map,List.length_map,List.length_zipIdx];omega
    rw[List.flatMap_def] at h3
    omega
  · have:=(I.cons hn (s:=y.1) (b:=y.2) hy).2.2.2.2
    omega
theorem dQ.next:dQ p m (n+1) (p.step st):=by
  have lwt:(p.cI st).length=p.ws.length:=by unfold Pn.cI;rw[List.length_zipWith];have:=I.lw;omega
  have lb:(p.bz st).length=p.ss.length:=by unfold Pn.bz;rw[List.length_zipWith];have:=I.ls;omega
  have es:(p.step st).ss=(List.zip p.ss (p.bz st)).map fun y=>ky y.1 y.2.1 (p.bG st) (p.taken st):=by unfold Pn.step;simp only;rw[c8]
  have key:∀ y∈List.zip p.ss (p.bz st),(ky y.1 y.2.1 (p.bG st) (p.taken st)).nm=y.1.nm:=fun y hy=>(I.cons hn (s:=y.1) (b:=y.2) hy).1
  refine ⟨I.K,?_,?_,fun w hw l hl=>?_,fun y hy=>?_,fun x hx=>?_⟩
  · unfold Pn.step;simp only;rw[List.length_zipWith];omega
  · rw[es,List.map_map]
    have:(List.zip p.ss (p.bz st)).map (Ss.nm ∘ fun y=>ky y.1 y.2.1 (p.bG st) (p.taken st))=(List.zip p.ss (p.bz st)).map (Sn.nm ∘ (·.1)):=List.map_congr_left fun y hy=>key y hy
    rw[this,← List.map_map,uW (by omega)]
  · unfold Pn.step at hw
    simp only at hw
    rw[c8] at hw
    obtain ⟨y,hy,rfl⟩:=List.mem_map.mp hw
    rcases List.mem_append.mp hl with hl | hl
    · obtain ⟨z,hz,rfl⟩:=List.mem_map.mp (show l∈((p.out st).filter fun l=>decide (fc p.ss l=some y.1.nm)).map (·.pR 1) from hl)
      have h:=I.BQ (List.mem_filter.mp hz).1
      exact ⟨h.1,(show 0≤z.hp+1 by have:=h.2.1;omega),h.2.2⟩
    · obtain ⟨z,hz,rfl⟩:=List.mem_map.mp (show l∈y.2.st.map (·.pR 0) from hl)
      have h:=(I.zh (List.of_mem_zip hy).2).2.2.2 z hz
      exact ⟨h.1,(show 0≤z.hp+0 by have:=h.2.1;omega),h.2.2⟩
  · rw[es,qI] at hy
    obtain ⟨z,hz,rfl⟩:=List.mem_map.mp hy
    obtain ⟨h1,h2,h3,h4,h5⟩:=I.cons hn (s:=z.1) (b:=z.2) hz
    have mk:=sS (l:=own z.1.nm (p.taken st)) fun l hl=>by
      have:=I.BQ (List.mem_filter.mp (List.mem_filter.mp hl).1).1
      exact this.2.2
    have g0:=h2.g0;have m0:=h2.m0;have t0:=h2.t0
    refine ⟨h2.w0,h2.w1,h2.s0,h2.s1,?_,?_,?_,?_,?_,h2.n0,h2.n1,h2.l⟩
    · show 0≤z.2.1.gd+((own z.1.nm (p.taken st)).length:Int) - ((own z.1.nm (p.taken st)).map Lt.mr).sum;omega
    · show z.2.1.gd+((own z.1.nm (p.taken st)).length:Int) - ((own z.1.nm (p.taken st)).map Lt.mr).sum≤60*((n+1:Nat):Int);omega
    · show 0≤z.2.1.mk'+((own z.1.nm (p.taken st)).map Lt.mr).sum;omega
    · show z.2.1.mk'+((own z.1.nm (p.taken st)).map Lt.mr).sum≤60*((n+1:Nat):Int);omega
    · show 0≤max z.2.1.wt _;omega
  · rw[es] at hx
    obtain ⟨z,hz,rfl⟩:=List.mem_map.mp hx
    obtain ⟨h1,h2,h3,h4,h5⟩:=I.cons hn (s:=z.1) (b:=z.2) hz
    rw[key z hz]
    have e:(ky z.1 z.2.1 (p.bG st) (p.taken st)).lo.length=z.2.1.lo.length+(own z.1.nm (p.bG st)).length:=by
      show (iA (z.2.1.lo++(own z.1.nm (p.bG st)).map Lt.nu)).length=_
      rw[l4,List.length_append,List.length_map]
    have e2:(ky z.1 z.2.1 (p.bG st) (p.taken st)).ag=z.2.1.ag:=rfl
    rw[e,e2];omega
end
theorem Lo {p:Pn}{m:Int}(K:p.Ok m):dQ p m 0 p.beg:=by
  have g1:=K.g.1
  have nm:∀ s:Sn,(Sn.beg p.g s).nm=s.nm:=fun s=>rfl
  have und:∀ a,p.beg.jS a=0:=fun a=>by
    unfold St'.jS Pn.beg
    simp only[List.map_map]
    have:∀ l:List Wy,(l.map fun _=>0).sum=0:=fun l=>by induction l<;>simp_all
    exact this p.ws
  refine ⟨K,by simp[Pn.beg],by unfold Pn.beg;simp only[List.map_map];rfl,fun w hw l hl=>?_,fun y hy=>?_,fun x hx=>?_⟩
  · unfold Pn.beg at hw
    obtain ⟨_,_,rfl⟩:=List.mem_map.mp hw
    cases hl
  · have hy':y∈List.zip p.ss (p.ss.map (Sn.beg p.g)):=hy
    rw[List.zip_map_right] at hy'
    obtain ⟨z,hz,rfl⟩:=List.mem_map.mp hy'
    have e:z.2=z.1:=by
      have:∀ (l:List Sn) (z:Sn×Sn),z∈List.zip l l→z.2=z.1:=by
        intro l
        induction l with
        | nil=>intro z hz;simp at hz
        | cons a l ih=>
          intro z hz
          rcases List.mem_cons.mp (by simpa using hz) with e | h
          · rw[e]
          · exact ih z h
      exact this _ z hz
    have hk:=K.s z.1 (List.of_mem_zip hz).1
    have R:=hk.k
    have q0:=R.w.q0;have s0:=R.t.q0
    show SsI p.g z.1.rl 0 (Sn.beg p.g z.2)
    rw[e]
    refine ⟨?_,?_,Int.le_refl 0,(show (0:Int)≤p.g by omega),Int.le_refl 0,Int.le_refl 0,Int.le_refl 0,Int.le_refl 0,Int.le_refl 0,Int.le_refl 0,Int.le_refl 0,fun i hi=>(hk.mm i hi).1⟩
    · show p.g≤z.1.rl.p*p.g / z.1.rl.q
      rw[Int.le_ediv_iff_mul_le q0]
      have:=Int.mul_le_mul_of_nonneg_right R.w.ge (show 0≤p.g by omega)
      rw[Int.one_mul,Int.mul_comm z.1.rl.q] at this
      exact this
    · show z.1.rl.p*p.g / z.1.rl.q≤z.1.rl.r*p.g / z.1.rl.s
      rw[Int.le_ediv_iff_mul_le s0]
      generalize hW:z.1.rl.p*p.g / z.1.rl.q=W
      have h1:W*z.1.rl.q≤z.1.rl.p*p.g:=by rw[← hW];exact Int.ediv_mul_le _ (by omega)
      have h2:=Int.mul_le_mul_of_nonneg_right h1 (show 0≤z.1.rl.s by omega)
      have h3:=Int.mul_le_mul_of_nonneg_right R.wt (show 0≤p.g by omega)
      refine Int.le_of_mul_le_mul_right (a:=z.1.rl.q) ?_ q0
      calc W*z.1.rl.s*z.1.rl.q=W*z.1.rl.q*z.1.rl.s:=by ac_rfl
        _≤z.1.rl.p*p.g*z.1.rl.s:=h2
        _=z.1.rl.p*z.1.rl.s*p.g:=by ac_rfl
        _≤z.1.rl.r*z.1.rl.q*p.g:=h3
        _=z.1.rl.r*p.g*z.1.rl.q:=by ac_rfl
  · have hx':x∈p.ss.map (Sn.beg p.g):=hx
    obtain ⟨s,hs,rfl⟩:=List.mem_map.mp hx'
    rw[und]
    show ((0:Nat):Int)+((0:Nat):Int)+((0:Nat):Int)≤60
    decide
def spD (is:List Nat):List (L2.Key×D):=is.map fun i:Nat=>(.inl (i:Int),.bl true)
def ke (cs:List Int)(t l u:Int)(c:Addr):List (L2.Key×D):=[(.inr (Str.ofString "cells"),.ls (cs.map .int)),(.inr (Str.ofString "turn"),.int t),(.inr (Str.ofString "left"),.int l),(.inr (Str.ofString "used"),.int u),(.inr (Str.ofString "spent"),.obj c)]
structure Pq (μ:Mu) (b c:Addr) (n:Nat):Prop where
  ne:b≠c
  ex:∃ (cs:List Int) (t l u:Int) (is:List Nat),μ b=some (.dct (ke cs t l u c))∧μ c=some (.dct (spD is))∧(0≤t∧t≤n)∧is.Nodup∧(∀ i∈is,i < cs.length)∧cs.length≤63
structure i5 (b c:Addr) (n:Nat) (μ μ':Mu):Prop where
  p:Pq μ' b c n
  o:∀ a,a≠b→a≠c→μ' a=μ a
theorem Pq.mono {μ:Mu}{b c:Addr}{n m:Nat}(h:Pq μ b c n)(k:n≤m):Pq μ b c m:=by
  obtain ⟨ne,cs,t,l,u,is,e1,e2,⟨t0,t1⟩,r⟩:=h
  exact ⟨ne,cs,t,l,u,is,e1,e2,⟨t0,by omega⟩,r⟩
theorem i5.mono {μ μ':Mu}{b c:Addr}{n m:Nat}(h:i5 b c n μ μ')(k:n≤m):i5 b c m μ μ':=⟨h.p.mono k,h.o⟩
theorem i5.trans {b c:Addr}{μ μ1 μ2:Mu}{n m:Nat}(h:i5 b c n μ μ1)(k:i5 b c m μ1 μ2):i5 b c m μ μ2:=⟨k.p,fun a h1 h2=>(k.o a h1 h2).trans (h.o a h1 h2)⟩
theorem Pq.nb {μ:Mu}{b c a:Addr}{n:Nat}(h:Pq μ b c n)(e:μ a=none):a≠b∧a≠c:=by
  obtain ⟨_,cs,t,l,u,is,e1,e2,_⟩:=h
  exact ⟨(fun z=>by subst z;rw[e1] at e;cases e),(fun z=>by subst z;rw[e2] at e;cases e)⟩
theorem Pq.up {μ:Mu}{b c a:Addr}{o:MO}{n:Nat}(h:Pq μ b c n)(k:a≠b∧a≠c):Pq (up μ a o) b c n:=by
  obtain ⟨ne,cs,t,l,u,is,e1,e2,r⟩:=h
  exact ⟨ne,cs,t,l,u,is,by rw[aK k.1.symm];exact e1,by rw[aK k.2.symm];exact e2,r⟩
theorem MU:∀ (n:Nat) (l:List Nat),l.Nodup→(∀ i∈l,i < n)→l.length≤n
  | 0,l,_,h=>by
    cases l with
    | nil=>exact Nat.le_refl _
    | cons a r=>exact absurd (h a List.mem_cons_self) (Nat.not_lt_zero _)
  | n+1,l,nd,h=>by
    have ih:=MU n (l.erase n) (nd.erase n) fun i hi=>by
      have h1:=h i (List.mem_of_mem_erase hi)
      have h2:i≠n:=fun z=>by subst z;exact absurd hi (List.Nodup.not_mem_erase nd)
      omega
    by_cases hm:n∈l
    · rw[List.length_erase_of_mem hm] at ih;omega
    · rw[List.erase_of_not_mem hm] at ih;omega
theorem Ce (i:Nat):∀ is:List Nat,(bo (spD is) (.inl (i:Int))).isSome=decide (i∈is)
  | []=>by simp[spD,bo]
  | j::r=>by
    have ih:=Ce i r
    by_cases h:i=j
    · subst h
      simp[spD,bo]
    · have:¬ ((j:Int)=(i:Int)):=by omega
      simp only[List.mem_cons,h,false_or]
      rw[← ih]
      simp[spD,bo,this]
theorem NC {i:Nat}{is:List Nat}(h:i ∉ is):putD (spD is) (.inl (i:Int)) (.bl true)=spD (is++[i]):=by
  unfold putD
  rw[if_neg]
  · unfold spD;rw[List.map_append];rfl
  · intro z
    obtain ⟨kv,hk,e⟩:=List.any_eq_true.mp z
    obtain ⟨j,hj,rfl⟩:=List.mem_map.mp hk
    have e:=of_decide_eq_true e
    injection e with e
    have:i=j:=by omega
    exact h (this ▸ hj)
section
variable (cs:List Int) (t l u x:Int) (c:Addr)
theorem Eh:bo (ke cs t l u c) (.inr (Str.ofString "cells"))=some (.ls (cs.map .int)):=rfl
theorem Lj:bo (ke cs t l u c) (.inr (Str.ofString "turn"))=some (.int t):=rfl
theorem J3:bo (ke cs t l u c) (.inr (Str.ofString "left"))=some (.int l):=rfl
theorem La:bo (ke cs t l u c) (.inr (Str.ofString "used"))=some (.int u):=rfl
theorem GH:bo (ke cs t l u c) (.inr (Str.ofString "spent"))=some (.obj c):=rfl
theorem LH:putD (ke cs t l u c) (.inr (Str.ofString "turn")) (.int x)=ke cs x l u c:=rfl
theorem Me:putD (ke cs t l u c) (.inr (Str.ofString "left")) (.int x)=ke cs t x u c:=rfl
theorem LL:putD (ke cs t l u c) (.inr (Str.ofString "used")) (.int x)=ke cs t l x c:=rfl
theorem EL:(ke cs t l u c).length < 1000000:=by show 5 < 1000000;decide
end
section
variable {G:GTr} {tt:TTr} {te:ETr} {ρc:ST} {ds:List D} {μ:Mu} {Q:DK} {b c:Addr} {n m:Nat}
theorem Ln (hP:Pq μ b c n)(I:List D→List D→Nat→Prop)(h0:I ds [] n)(hl:ds.length≤999999)
    (step:∀ d r zs μ' k,Pq μ' b c k→(∀ a o,a≠b→a≠c→μ a=some o→μ' a=some o)→I (d::r) zs k→∀ (N:Option D→Mu→Prop),(∀ oy μ2 k',I r (zs++oy.toList) k'→i5 b c k' μ' μ2→N oy μ2)→G d ρc μ' fun ρ1 μ1=>tt ρ1 μ1 fun c μ2=>kIf c (te ρ1 μ2 fun y μ3=>N (some y) μ3) (N none μ2))
    (k:∀ zs μ' k',I [] zs k'→i5 b c k' μ μ'→Q (.ls zs) μ'):qP G tt te ρc ds μ Q:=by
  intro p hp
  have pb:=hP.nb hp
  refine jX (fun r μ'=>∃ zs j,I r zs j∧zs.length+r.length≤ds.length∧μ' p=some (.lst zs)∧Pq μ' b c j∧∀ a,a≠b→a≠c→a≠p→μ' a=μ a) ?_ ?_ _ _ ⟨[],n,h0,by simp,aB,hP.up pb,fun a _ _ h=>aK h⟩
  · rintro μ' ⟨zs,j,hI,_,e,P,fr⟩
    refine a9 e (k zs _ j hI ⟨?_,fun a h1 h2=>?_⟩)
    · obtain ⟨ne,cs,t,l,u,is,e1,e2,r⟩:=P
      exact ⟨ne,cs,t,l,u,is,by unfold dn;rw[if_neg pb.1.symm];exact e1,by unfold dn;rw[if_neg pb.2.symm];exact e2,r⟩
    · unfold dn
      split
      · rename_i z;subst z;exact hp.symm
      · rename_i z;exact fr a h1 h2 z
  · rintro d r μ' N ⟨zs,j,hI,hz,e,P,fr⟩ hN
    rw[List.length_cons] at hz
    refine step d r zs μ' j P (fun a o n1 n2 h=>?_) hI (fun oy μ3=>match oy with
      | some y=>kL μ3 p fun zs=>zs.length < 1000000∧N (up μ3 p (.lst (zs++[y])))
      | none=>N μ3) ?_
    · rw[fr a n1 n2 (fun z=>by subst z;rw[hp] at h;cases h)];exact h
    intro oy μ2 j' hoy P2
    have e2:μ2 p=some (.lst zs):=by rw[P2.o p pb.1 pb.2];exact e
    cases oy with
    | none=>exact hN _ ⟨zs,j',by simpa using hoy,by omega,e2,P2.p,fun a h1 h2 h3=>(P2.o a h1 h2).trans (fr a h1 h2 h3)⟩
    | some y=>
      refine a9 e2 ⟨by omega,hN _ ⟨zs++[y],j',hoy,by rw[List.length_append];simp;omega,aB,P2.p.up pb,fun a h1 h2 h3=>?_⟩⟩
      rw[aK h3,P2.o a h1 h2,fr a h1 h2 h3]
end
theorem EE {b c p:Addr}{μ μ':Mu}{d:D}{Q:DK}{n:Nat}(hp:μ p=none)(np:p≠b∧p≠c)(hP:Pq μ' b c n)(h:∀ a,a≠b→a≠c→a≠p→μ' a=μ a)(k:∀ μ2,i5 b c n μ μ2→Q d μ2):RT Q d μ':=by
  refine ⟨fun a=>if a=p then none else μ' a,fun a o e=>?_,k _ ⟨?_,fun a h1 h2=>?_⟩⟩
  · dsimp only at e
    split at e
    · cases e
    · exact e
  · obtain ⟨ne,cs,t,l,u,is,e1,e2,r⟩:=hP
    exact ⟨ne,cs,t,l,u,is,by rw[if_neg np.1.symm];exact e1,by rw[if_neg np.2.symm];exact e2,r⟩
  · by_cases z:a=p
    · subst z;simp only[if_true];exact hp.symm
    · simp only[if_neg z];exact h a h1 h2 z
def nxF (ss:List Ss)(n:Str):Int:=((ss.find? fun x=>decide (x.nm=n)).map Ss.nx).getD 0
theorem ya:∀ (ss:List Ss) (n:Str),n∈ss.map Ss.nm→bo (ss.map fun x=>((.inr x.nm,.int x.nx):L2.Key×D)) (.inr n)=some (.int (nxF ss n))
  | [],n,h=>nomatch h
  | y::r,n,h=>by
    unfold bo nxF
    rw[List.map_cons,List.find?_cons,List.find?_cons]
    by_cases e:y.nm=n
    · simp[e]
    · have e':¬ ((Sum.inr y.nm:L2.Key)=Sum.inr n):=fun z=>e (by injection z)
      simp only[decide_eq_false e,decide_eq_false e']
      exact ya r n ((List.mem_cons.mp h).resolve_left fun z=>e z.symm)
def Lt.lw (f:Str→Int)(l:Lt):Lt:=⟨l.nm,l.nu - f l.nm,l.ag,l.hp,l.mr⟩
def Ws.lw (f:Str→Int)(w:Ws):Ws:=⟨w.cm.map (Lt.lw f),w.st.map (Lt.lw f),w.la⟩
def Ss.lk (x:Ss):Ss:=⟨x.nm,x.du,x.W,x.S,0,x.lf,x.ag.map (· - x.nx),x.lo.map (· - x.nx),x.gd,x.mk',x.wt⟩
def St'.lk (st:St'):St':=⟨st.ws.map (Ws.lw (nxF st.ss)),st.ss.map Ss.lk⟩
def Lt.mv (f:Str→Int)(l:Lt):Lt:=⟨l.nm,l.nu+f l.nm,l.ag,l.hp,l.mr⟩
def Ws.mv (f:Str→Int)(w:Ws):Ws:=⟨w.cm.map (Lt.mv f),w.st.map (Lt.mv f),w.la⟩
def Ss.mv (f:Str→Int)(x:Ss):Ss:=⟨x.nm,x.du,x.W,x.S,x.nx+f x.nm,x.lf,x.ag.map (· + f x.nm),x.lo.map (· + f x.nm),x.gd,x.mk',x.wt⟩
def St'.mv (f:Str→Int)(st:St'):St':=⟨st.ws.map (Ws.mv f),st.ss.map (Ss.mv f)⟩
structure StL (st:St'):Prop where
  nd:(st.ss.map Ss.nm).Nodup
  sn:∀ x∈st.ss,PyData.strOk x.nm=true
  lt:∀ w∈st.ws,∀ l∈w.cm++w.st,l.nm∈st.ss.map Ss.nm
  la:∀ w∈st.ws,PyData.strOk w.la=true
  z1:st.ws.length≤100∧st.ss.length≤100
  z2:∀ w∈st.ws,w.cm.length≤10000∧w.st.length≤10000
  z3:∀ x∈st.ss,x.ag.length≤10000∧x.lo.length≤10000
theorem Mp (ss:List Ss):(ss.map Ss.lk).map Ss.nm=ss.map Ss.nm:=by rw[List.map_map];rfl
theorem Ms (f:Str→Int)(ss:List Ss):(ss.map (Ss.mv f)).map Ss.nm=ss.map Ss.nm:=by rw[List.map_map];rfl
theorem StL.lk {st:St'}(h:StL st):StL st.lk:=by
  refine ⟨by show ((st.ss.map Ss.lk).map Ss.nm).Nodup;rw[Mp];exact h.nd,fun x hx=>?_,fun w hw l hl=>?_,fun w hw=>?_,?_,fun w hw=>?_,fun x hx=>?_⟩
  · obtain ⟨y,hy,rfl⟩:=List.mem_map.mp hx
    exact h.sn y hy
  · obtain ⟨v,hv,rfl⟩:=List.mem_map.mp hw
    show l.nm∈(st.ss.map Ss.lk).map Ss.nm
    rw[Mp]
    have hl:l∈v.cm.map (Lt.lw (nxF st.ss))++v.st.map (Lt.lw (nxF st.ss)):=hl
    rw[← List.map_append] at hl
    obtain ⟨k,hk,rfl⟩:=List.mem_map.mp hl
    exact h.lt v hv k hk
  · obtain ⟨v,hv,rfl⟩:=List.mem_map.mp hw
    exact h.la v hv
  · show (st.ws.map (Ws.lw (nxF st.ss))).length≤100∧(st.ss.map Ss.lk).length≤100
    rw[List.length_map,List.length_map];exact h.z1
  · obtain ⟨v,hv,rfl⟩:=List.mem_map.mp hw
    show (v.cm.map _).length≤_∧(v.st.map _).length≤_
    rw[List.length_map,List.length_map];exact h.z2 v hv
  · obtain ⟨y,hy,rfl⟩:=List.mem_map.mp hx
    show (y.ag.map _).length≤_∧(y.lo.map _).length≤_
    rw[List.length_map,List.length_map];exact h.z3 y hy
theorem StL.mv {st:St'}(f:Str→Int)(h:StL st):StL (st.mv f):=by
  refine ⟨by show ((st.ss.map (Ss.mv f)).map Ss.nm).Nodup;rw[Ms];exact h.nd,fun x hx=>?_,fun w hw l hl=>?_,fun w hw=>?_,?_,fun w hw=>?_,fun x hx=>?_⟩
  · obtain ⟨y,hy,rfl⟩:=List.mem_map.mp hx
    exact h.sn y hy
  · obtain ⟨v,hv,rfl⟩:=List.mem_map.mp hw
    show l.nm∈(st.ss.map (Ss.mv f)).map Ss.nm
    rw[Ms]
    have hl:l∈v.cm.map (Lt.mv f)++v.st.map (Lt.mv f):=hl
    rw[← List.map_append] at hl
    obtain ⟨k,hk,rfl⟩:=List.mem_map.mp hl
    exact h.lt v hv k hk
  · obtain ⟨v,hv,rfl⟩:=List.mem_map.mp hw
    exact h.la v hv
  · show (st.ws.map (Ws.mv f)).length≤100∧(st.ss.map (Ss.mv f)).length≤100
    rw[List.length_map,List.length_map];exact h.z1
  · obtain ⟨v,hv,rfl⟩:=List.mem_map.mp hw
    show (v.cm.map _).length≤_∧(v.st.map _).length≤_
    rw[List.length_map,List.length_map];exact h.z2 v hv
  · obtain ⟨y,hy,rfl⟩:=List.mem_map.mp hx
    show (y.ag.map _).length≤_∧(y.lo.map _).length≤_
    rw[List.length_map,List.length_map];exact h.z3 y hy
theorem ET (f:Str→Int):∀ (ss:List Ss) (n:Str),n∈ss.map Ss.nm→nxF (ss.map (Ss.mv f)) n=nxF ss n+f n
  | [],n,h=>nomatch h
  | y::r,n,h=>by
    unfold nxF
    rw[List.map_cons,List.find?_cons,List.find?_cons]
    by_cases e:y.nm=n
    · have e2:(Ss.mv f y).nm=n:=e
      simp only[e,e2,decide_true,Option.map_some,Option.getD_some]
      show y.nx+f y.nm=y.nx+f n
      rw[e]
    · have e2:¬ (Ss.mv f y).nm=n:=e
      simp only[decide_eq_false e,decide_eq_false e2]
      exact ET f r n ((List.mem_cons.mp h).resolve_left fun z=>e z.symm)
theorem Rx {st:St'}(f:Str→Int)(h:StL st):(st.mv f).lk=st.lk:=by
  unfold St'.lk St'.mv
  simp only[List.map_map]
  congr 1
  · refine List.map_congr_left fun w hw=>?_
    have one:∀ l∈w.cm++w.st,(l.mv f).lw (nxF (st.ss.map (Ss.mv f)))=l.lw (nxF st.ss):=fun l hl=>by
      have e:=ET f st.ss l.nm (h.lt w hw l hl)
      show (⟨l.nm,l.nu+f l.nm - nxF (st.ss.map (Ss.mv f)) l.nm,l.ag,l.hp,l.mr⟩:Lt)=⟨l.nm,l.nu - nxF st.ss l.nm,l.ag,l.hp,l.mr⟩
      congr 1
      omega
    show (⟨(w.cm.map (Lt.mv f)).map _,(w.st.map (Lt.mv f)).map _,w.la⟩:Ws)=⟨w.cm.map _,w.st.map _,w.la⟩
    congr 1
    · rw[List.map_map];exact List.map_congr_left fun l hl=>one l (List.mem_append_left _ hl)
    · rw[List.map_map];exact List.map_congr_left fun l hl=>one l (List.mem_append_right _ hl)
  · refine List.map_congr_left fun x hx=>?_
    show (⟨x.nm,x.du,x.W,x.S,0,x.lf,(x.ag.map (· + f x.nm)).map (· - (x.nx+f x.nm)),(x.lo.map (· + f x.nm)).map (· - (x.nx+f x.nm)),x.gd,x.mk',x.wt⟩:Ss)=⟨x.nm,x.du,x.W,x.S,0,x.lf,x.ag.map (· - x.nx),x.lo.map (· - x.nx),x.gd,x.mk',x.wt⟩
    congr 1
    · rw[List.map_map];exact List.map_congr_left fun i _=>by show i+f x.nm - (x.nx+f x.nm)=i - x.nx;omega
    · rw[List.map_map];exact List.map_congr_left fun i _=>by show i+f x.nm - (x.nx+f x.nm)=i - x.nx;omega
theorem HJ (o:Option Int)(n:Nat):pl n (cZ o)=true:=by cases o<;>cases n<;>rfl
theorem E5 (a b:Int)(n:Nat):pl (n+1) (fb a b)=true:=by
  unfold fb fr
  cases n<;>simp[pl,pls]
theorem Gv (ns:List Int)(h:ns.length≤999999)(n:Nat):pl (n+1) (.tup (c6 ns))=true:=by
  have e:pls n (c6 ns)=true:=lU fun d hd=>by
    obtain ⟨i,_,rfl⟩:=List.mem_map.mp hd
    cases n<;>rfl
  simp only[pl,List.length_map,decide_eq_true h,e];rfl
theorem Ga {ls:List Lt}(h:∀ l∈ls,PyData.strOk l.nm=true)(hl:ls.length≤999999)(n:Nat):pl (n+2) (.tup (ltD ls))=true:=by
  have e:pls (n+1) (ltD ls)=true:=lU fun d hd=>by
    obtain ⟨l,hl,rfl⟩:=List.mem_map.mp hd
    have:=h l hl
    cases n<;>simp[Lt.toD,pl,pls,this]
  simp only[pl,List.length_map,decide_eq_true hl,e];rfl
theorem Mo {st:St'}(h:StL st)(g:Int):pl 5 (st.toD g)=true:=by
  have nm:∀ n∈st.ss.map Ss.nm,PyData.strOk n=true:=fun n hn=>by
    obtain ⟨x,hx,rfl⟩:=List.mem_map.mp hn
    exact h.sn x hx
  have e1:pls 3 (wsD st.ws)=true:=lU fun d hd=>by
    obtain ⟨w,hw,rfl⟩:=List.mem_map.mp hd
    have z:=h.z2 w hw
    have a:=Ga (ls:=w.cm) (fun l hl=>nm _ (h.lt w hw l (List.mem_append_left _ hl))) (by omega) 0
    have b:=Ga (ls:=w.st) (fun l hl=>nm _ (h.lt w hw l (List.mem_append_right _ hl))) (by omega) 0
    have c:=h.la w hw
    show (true&&(pl 2 (.tup (ltD w.cm))&&(pl 2 (.tup (ltD w.st))&&(PyData.strOk w.la&&true))))=true
    rw[a,b,c];rfl
  have e2:pls 3 (ssD g st.ss)=true:=lU fun d hd=>by
    obtain ⟨x,hx,rfl⟩:=List.mem_map.mp hd
    have z:=h.z3 x hx
    show (true&&(PyData.strOk x.nm&&(pl 2 (cZ x.du)&&(pl 2 (fb x.W g)&&(pl 2 (fb x.S g)&&(true&&(pl 2 (cZ x.lf)&&(pl 2 (.tup (c6 x.ag))&&(pl 2 (.tup (c6 x.lo))&&true)))))))))=true
    rw[h.sn x hx,HJ,HJ,E5,E5,Gv _ (by omega),Gv _ (by omega)];rfl
  have z:=h.z1
  show (true&&((decide ((wsD st.ws).length≤999999)&&pls 3 (wsD st.ws))&&((decide ((ssD g st.ss).length≤999999)&&pls 3 (ssD g st.ss))&&true)))=true
  rw[List.length_map,List.length_map,decide_eq_true (by omega),decide_eq_true (by omega),e1,e2];rfl
def Pn.run (p:Pn):Nat→St'
  | 0=>p.beg
  | n+1=>p.step (p.run n)
def Pn.rows (p:Pn)(n:Nat):List D:=(List.range n).map fun i=>.ls (evD (p.evs (p.run i)))
theorem Pn.j6 {p:Pn}{m:Int}(K:p.Ok m):∀ n:Nat,n≤10000→dQ p m n (p.run n)
  | 0,_=>Lo K
  | n+1,h=>(p.j6 K n (by omega)).next (by omega)
theorem we (ws:List Str)(p:Int):∀ (f:Nat) (st out:List Lt) (l:Str),(dg ws p f st out l).2.2=l∨(dg ws p f st out l).2.2∈ws
  | 0,_,_,_=>.inl rfl
  | f+1,st,out,l=>by
    unfold dg
    split
    · split
      · rename_i n hn
        split
        · rename_i x _
          rcases we ws p f (st.eraseIdx (at1 n st)) (out++[x]) n with e | e
          · rw[e];exact .inr (xw hn).1
          · exact .inr e
        · exact .inl rfl
      · exact .inl rfl
    · exact .inl rfl
theorem CA (w:Wy)(ws:List Str)(st:List Lt)(l:Str)(hl:PyData.strOk l=true)(hw:∀ n∈ws,PyData.strOk n=true):PyData.strOk (cP w ws st l).2.2=true:=by
  unfold cP
  split
  · rcases we ws w.pc st.length st [] l with e | e
    · rw[e];exact hl
    · exact hw _ e
  · show PyData.strOk (Str.ofString "")=true
    decide +kernel
theorem Iq {p:Pn}{m:Int}(K:p.Ok m):∀ n:Nat,n≤10000→∀ w∈(p.run n).ws,PyData.strOk w.la=true
  | 0,_,w,hw=>by
    obtain ⟨_,_,rfl⟩:=List.mem_map.mp hw
    show PyData.strOk (Str.ofString "")=true
    decide +kernel
  | n+1,h,w,hw=>by
    have I:=p.j6 K n (by omega)
    have ih:=Iq K n (by omega)
    have hw:w∈List.zipWith (fun w x=>Ah p.ss w x (p.out (p.run n))) p.ws (p.cI (p.run n)):=hw
    rw[c8] at hw
    obtain ⟨y,hy,rfl⟩:=List.mem_map.mp hw
    show PyData.strOk y.2.la=true
    obtain ⟨z,hz,e⟩:=I.HP (List.of_mem_zip hy).2
    rw[e]
    exact CA _ _ _ _ (ih _ (List.of_mem_zip hz).2) fun n hn=>I.sok hn
theorem Jz {p:Pn}{m:Int}(K:p.Ok m){n:Nat}(h:n≤10000):StL (p.run n):=by
  have I:=p.j6 K n h
  have s1:=K.s1
  have w1:=K.w1
  refine ⟨by rw[I.nm];exact I.sd,fun x hx=>?_,fun w hw l hl=>?_,Iq K n h,⟨by rw[I.lw];omega,by rw[I.ls];omega⟩,fun w hw=>?_,fun x hx=>?_⟩
  · exact I.sok (by rw[← I.nm];exact List.mem_map.mpr ⟨x,hx,rfl⟩)
  · rw[I.nm];exact (I.lt w hw l hl).1
  · have:=I.LC hw;omega
  · have:=I.cn x hx;omega
abbrev mvS (f:Str→Int)(x:Str×Lt):Str×Lt:=(x.1,x.2.mv f)
theorem zA (f:Str→Int)(n:Str)(ls:List Lt):own n (ls.map (Lt.mv f))=(own n ls).map (Lt.mv f):=by
  unfold own
  rw[List.filter_map]
  rfl
theorem PQ (f:Str→Int)(st:St')(n:Str):(st.mv f).und n=st.und n:=by
  unfold St'.und St'.mv
  rw[List.map_map]
  congr 1
  refine List.map_congr_left fun w hw=>?_
  show ((own n ((w.cm.map (Lt.mv f))++w.st.map (Lt.mv f))).length:Int)=_
  rw[← List.map_append,zA,List.length_map]
theorem wc (c:Int)(xs:List Int):iA (xs.map (· + c))=(iA xs).map (· + c):=by
  refine jL ((iN _).trans ((iN xs).symm.map _)) (pD _) ?_
  rw[List.pairwise_map]
  exact (pD xs).imp fun h=>by omega
theorem Nm (f:Str→Int)(g:Int)(R:RN)(x:Ss):(x.mv f).rdy g R=(x.rdy g R).mv f:=by
  have h:(x.mv f).hd=x.hd:=by unfold Ss.hd Ss.mv;simp
  unfold Ss.rdy
  rw[h]
  show Ss.mk _ _ _ _ _ _ (iA (x.ag.map (· + f x.nm)++x.lo.map (· + f x.nm))) [] 0 0 0=_
  rw[← List.map_append,wc]
  rfl
theorem O2 (a c:Int)(n:Nat):rgI (a+c) n=(rgI a n).map (· + c):=by
  unfold rgI
  rw[List.map_map]
  refine List.map_congr_left fun i hi=>?_
  show a+c+(i:Int)=a+(i:Int)+c
  omega
abbrev mvB (f:Str→Int)(b:Ss×List Int):Ss×List Int:=(b.1.mv f,b.2.map (· + f b.1.nm))
theorem Ls (f:Str→Int)(x:Ss)(m:Nat):(x.mv f).fill m=mvB f (x.fill m):=by
  unfold Ss.fill
  show (Ss.mk x.nm x.du x.W x.S (x.nx+f x.nm+iz x.lf ((m:Int) - (((x.ag.map (· + f x.nm)).take m).length:Int))) (x.lf.map (· - iz x.lf ((m:Int) - (((x.ag.map (· + f x.nm)).take m).length:Int)))) ((x.ag.map (· + f x.nm)).drop ((x.ag.map (· + f x.nm)).take m).length) _ _ _ _,(x.ag.map (· + f x.nm)).take m++rgI (x.nx+f x.nm) (iz x.lf ((m:Int) - (((x.ag.map (· + f x.nm)).take m).length:Int))).toNat)=_
  rw[← List.map_take,List.length_map,← List.map_drop,O2]
  generalize iz x.lf ((m:Int) - ((x.ag.take m).length:Int))=c
  refine Prod.ext ?_ ?_
  · show Ss.mk _ _ _ _ _ _ _ _ _ _ _=Ss.mk _ _ _ _ _ _ _ _ _ _ _
    congr 1
    show x.nx+f x.nm+c=x.nx+c+f x.nm
    omega
  · exact (List.map_append).symm
theorem Rc (f:Str→Int)(g:Int)(s:Sn)(x:Ss)(u:Int):(x.mv f).bt g s u=mvB f (x.bt g s u):=by
  have h:(x.mv f).hd=x.hd:=by unfold Ss.hd Ss.mv;simp
  unfold Ss.bt
  rw[Nm,Ls,h]
  show (if x.du=some 0 then _ else _)=_
  split
  · rfl
  · rfl
theorem lB (f:Str→Int)(p:Pn)(st:St'):p.bz (st.mv f)=(p.bz st).map (mvB f):=by
  unfold Pn.bz
  show List.zipWith _ p.ss (st.ss.map (Ss.mv f))=_
  rw[List.zipWith_map_right,List.map_zipWith]
  congr 1
  funext s k
  rw[PQ]
  exact Rc f p.g s k _
theorem Pj (f:Str→Int)(w:Wy)(a b:List Lt)(y:Lt):bY w (a.map (Lt.mv f),b.map (Lt.mv f)) (y.mv f)=((bY w (a,b) y).1.map (Lt.mv f),(bY w (a,b) y).2.map (Lt.mv f)):=by
  unfold bY
  simp only[List.length_map]
  split
  · simp
  · unfold oA
    split
    · simp
    · by_cases h:(a.length:Int) < ‹Int› <;> simp[h,Lt.mv]
theorem MX (f:Str→Int)(w:Wy):∀ (ys a b:List Lt),(ys.map (Lt.mv f)).foldl (bY w) (a.map (Lt.mv f),b.map (Lt.mv f))=((ys.foldl (bY w) (a,b)).1.map (Lt.mv f),(ys.foldl (bY w) (a,b)).2.map (Lt.mv f))
  | [],_,_=>rfl
  | y::r,a,b=>by
    rw[List.map_cons,List.foldl_cons,Pj,List.foldl_cons]
    exact MX f w r _ _
theorem Ec {α β:Type}(f:α→β):∀ (l:List α) (i:Nat),(l.map f).eraseIdx i=(l.eraseIdx i).map f
  | [],_=>rfl
  | _::_,0=>rfl
  | a::r,i+1=>congrArg (f a::·) (Ec f r i)
theorem MT {α β:Type}{f g:α→Option β}:∀ {l:List α},(∀ x∈l,f x=g x)→l.filterMap f=l.filterMap g
  | [],_=>rfl
  | a::r,h=>by
    rw[List.filterMap_cons,List.filterMap_cons,h a (List.mem_cons_self ..),MT fun x hx=>h x (List.mem_cons_of_mem _ hx)]
theorem Nl (f:Str→Int)(n:Str)(st:List Lt):at1 n (st.map (Lt.mv f))=at1 n st:=by
  unfold at1
  rw[List.findIdx_map]
  rfl
theorem RZ (f:Str→Int)(st:List Lt):(st.map (Lt.mv f)).map Lt.nm=st.map Lt.nm:=by rw[List.map_map];rfl
theorem vU (f:Str→Int)(ws:List Str)(p:Int):∀ (m:Nat) (st out:List Lt) (l:Str),dg ws p m (st.map (Lt.mv f)) (out.map (Lt.mv f)) l=((dg ws p m st out l).1.map (Lt.mv f),(dg ws p m st out l).2.1.map (Lt.mv f),(dg ws p m st out l).2.2)
  | 0,_,_,_=>rfl
  | m+1,st,out,l=>by
    unfold dg
    rw[List.length_map,List.length_map,RZ]
    split
    · split
      · rename_i n _
        rw[Nl,List.getElem?_map]
        cases h:st[at1 n st]? with
        | none=>rfl
        | some x=>
          have:=vU f ws p m (st.eraseIdx (at1 n st)) (out++[x]) n
          rw[List.map_append,← Ec] at this
          exact this
      · rfl
    · rfl
theorem Cw (f:Str→Int)(w:Wy)(ws:List Str)(st:List Lt)(l:Str):cP w ws (st.map (Lt.mv f)) l=((cP w ws st l).1.map (Lt.mv f),(cP w ws st l).2.1.map (Lt.mv f),(cP w ws st l).2.2):=by
  unfold cP
  split
  · rw[List.length_map]
    exact vU f ws w.pc st.length st [] l
  · rw[← List.map_take,← List.map_drop]
def Wt.mv (f:Str→Int)(x:Wt):Wt:=⟨x.ca.map (Lt.mv f),x.lo.map (Lt.mv f),x.ou.map (Lt.mv f),x.st.map (Lt.mv f),x.la⟩
theorem L7 (f:Str→Int)(w:Wy)(ns:List Str)(k:Ws)(se:List (Str×Lt)):pass w ns (k.mv f) (se.map (mvS f))=(pass w ns k se).mv f:=by
  have e:((se.map (mvS f)).filter fun x=>decide (x.1=w.nm)).map (·.2)=((se.filter fun x=>decide (x.1=w.nm)).map (·.2)).map (Lt.mv f):=by
    rw[List.filter_map,List.map_map,List.map_map]
    rfl
  unfold pass
  rw[e]
  simp only[Ws.mv,← List.map_append,tk]
  have t:=MX f w (k.cm++(se.filter fun x=>decide (x.1=w.nm)).map (·.2)) k.st []
  rw[List.map_nil] at t
  rw[t]
  simp only[Cw]
  rfl
theorem IH (f:Str→Int)(ss:List Sn)(bs:List (Ss×List Int))(h:∀ y∈List.zip ss bs,y.2.1.nm=y.1.nm):lL ss ((bs.map (mvB f)).map (·.2))=(lL ss (bs.map (·.2))).map (mvS f):=by
  have e1:eZ ((bs.map (mvB f)).map (·.2))=eZ (bs.map (·.2)):=by
    unfold eZ
    rw[List.map_map,List.map_map,List.map_map]
    congr 1
    refine List.map_congr_left fun b hb=>?_
    show (b.2.map _).length=b.2.length
    rw[List.length_map]
  unfold lL
  rw[e1,List.map_flatMap]
  congr 1
  funext t
  rw[List.map_map,List.zip_map_right,List.zip_map_right,List.filterMap_map,List.filterMap_map,List.map_filterMap]
  refine MT fun y hy=>?_
  show ((y.2.2.map (· + f y.2.1.nm))[t]?).map _=((y.2.2[t]?).map _).map _
  rw[List.getElem?_map,Option.map_map,Option.map_map]
  rw[h y hy]
  rfl
theorem oK (f:Str→Int)(p:Pn)(st:St')(h:∀ y∈List.zip p.ss (p.bz st),y.2.1.nm=y.1.nm):p.aU (st.mv f)=(p.aU st).map (mvS f):=by
  unfold Pn.aU
  rw[lB]
  exact IH f p.ss (p.bz st) h
theorem kR (f:Str→Int)(p:Pn)(st:St')(h:∀ y∈List.zip p.ss (p.bz st),y.2.1.nm=y.1.nm):p.cI (st.mv f)=(p.cI st).map (Wt.mv f):=by
  unfold Pn.cI
  rw[oK f p st h]
  show List.zipWith _ p.ws (st.ws.map (Ws.mv f))=_
  rw[List.zipWith_map_right,List.map_zipWith]
  congr 1
  funext w k
  exact L7 f w p.sn k _
theorem BE (f:Str→Int)(g:Wt→List Lt)(h:∀ x:Wt,g (x.mv f)=(g x).map (Lt.mv f))(l:List Wt):(l.map (Wt.mv f)).flatMap g=(l.flatMap g).map (Lt.mv f):=by
  rw[List.flatMap_map,List.map_flatMap]
  congr 1
  funext x
  exact h x
theorem vx (f:Str→Int)(p:Pn)(st:St')(h:∀ y∈List.zip p.ss (p.bz st),y.2.1.nm=y.1.nm):p.bG (st.mv f)=(p.bG st).map (Lt.mv f)∧p.out (st.mv f)=(p.out st).map (Lt.mv f)∧p.taken (st.mv f)=(p.taken st).map (Lt.mv f):=by
  have o:p.out (st.mv f)=(p.out st).map (Lt.mv f):=by
    unfold Pn.out
    rw[kR f p st h]
    exact BE f Wt.ou (fun _=>rfl) _
  refine ⟨?_,o,?_⟩
  · unfold Pn.bG
    rw[kR f p st h]
    exact BE f Wt.lo (fun _=>rfl) _
  · unfold Pn.taken
    rw[o,List.filter_map]
    rfl
theorem IM (f:Str→Int)(s:Sn)(x:Ss)(lo ta:List Lt)(h:x.nm=s.nm):ky s (x.mv f) (lo.map (Lt.mv f)) (ta.map (Lt.mv f))=(ky s x lo ta).mv f:=by
  unfold ky
  simp only[zA,List.map_map,List.length_map]
  have e:(own s.nm lo).map (Lt.nu ∘ Lt.mv f)=((own s.nm lo).map Lt.nu).map (· + f x.nm):=by
    rw[List.map_map]
    refine List.map_congr_left fun l hl=>?_
    have:l.nm=s.nm:=by simpa using (List.mem_filter.mp hl).2
    show l.nu+f l.nm=l.nu+f x.nm
    rw[this,h]
  rw[e]
  show Ss.mk _ _ _ _ _ _ _ (iA (x.lo.map (· + f x.nm)++_)) _ _ _=_
  rw[← List.map_append,wc]
  rfl
theorem JC (f:Str→Int)(p:Pn)(st:St')(h:∀ y∈List.zip p.ss (p.bz st),y.2.1.nm=y.1.nm):p.step (st.mv f)=(p.step st).mv f:=by
  obtain ⟨e1,e2,e3⟩:=vx f p st h
  unfold Pn.step
  show St'.mk _ _=St'.mk _ _
  congr 1
  · rw[e2,kR f p st h,List.zipWith_map_right,List.map_zipWith]
    congr 1
    funext w x
    unfold Ah Ws.mv Wt.mv
    simp only[List.filter_map,List.map_map]
    rfl
  · rw[e1,e3,lB f p st]
    show _=(List.zipWith (fun s b=>ky s b.1 (p.bG st) (p.taken st)) p.ss (p.bz st)).map (Ss.mv f)
    rw[c8,c8,List.zip_map_right,List.map_map,List.map_map]
    refine List.map_congr_left fun y hy=>?_
    exact IM f y.1 y.2.1 _ _ (h y hy)
abbrev Ev.mv (f:Str→Int)(x:Ev):Ev:=⟨x.wd,x.nm,x.nu+f x.nm,x.wy⟩
theorem Hh (f:Str→Int)(p:Pn)(st:St')(h:∀ y∈List.zip p.ss (p.bz st),y.2.1.nm=y.1.nm):p.evs (st.mv f)=(p.evs st).map (Ev.mv f):=by
  unfold Pn.evs
  rw[oK f p st h,kR f p st h,List.map_append,List.map_map,List.map_map,List.zipWith_map_right,List.map_flatten,List.map_zipWith]
  congr 1
  congr 1
  congr 1
  funext w x
  unfold evs
  rw[List.map_append,List.map_map,List.map_map]
  congr 1
  · show ((x.ca.map (Lt.mv f)).zipIdx.map _)=_
    rw[List.zipIdx_map,List.map_map]
    refine List.map_congr_left fun y hy=>?_
    simp[Wt.mv,Lt.mv,Ev.mv]
  · show (x.ou.map (Lt.mv f)).map _=_
    rw[List.map_map]
    rfl
theorem Ss.Ok.mv {g:Int}{R:RN}{x:Ss}(f:Str→Int)(h:x.Ok g R)(a:-4000000000000000000≤x.nx+f x.nm∧x.nx+f x.nm≤4000000000000000000):(x.mv f).Ok g R:=by
  have e:(x.mv f).hd=x.hd:=by unfold Ss.hd Ss.mv;simp
  exact ⟨h.n,h.w0,h.w1,h.s0,h.s1,by rw[e];exact h.h,a.1,a.2,by unfold Ss.mv;simp only[List.length_map];exact h.a,h.l⟩
theorem ua {f:Str→Int}{ls:List Lt}{P:Lt→Prop}(k:∀ l:Lt,P l→P (l.mv f))(h:∀ l∈ls,P l):∀ l∈ls.map (Lt.mv f),P l:=fun l hl=>by
  obtain ⟨y,hy,rfl⟩:=List.mem_map.mp hl
  exact k y (h y hy)
theorem RE {f:Str→Int}{p:Pn}{st:St'}(h:∀ y∈List.zip p.ss (p.bz st),y.2.1.nm=y.1.nm)(R:yb p st)(b:∀ x∈st.ss,-4000000000000000000≤x.nx+f x.nm∧x.nx+f x.nm≤4000000000000000000):yb p (st.mv f):=by
  obtain ⟨e1,e2,e3⟩:=vx f p st h
  have wm:∀ {P:Ws→Prop},(∀ w∈st.ws,P (w.mv f))→∀ w∈(st.mv f).ws,P w:=fun k w hw=>by
    obtain ⟨y,hy,rfl⟩:=List.mem_map.mp (show w∈st.ws.map (Ws.mv f) from hw)
    exact k y hy
  have ap:∀ w:Ws,(w.mv f).cm++(w.mv f).st=(w.cm++w.st).map (Lt.mv f):=fun w=>by rw[List.map_append];rfl
  refine ⟨R.g,R.sd,R.sl,R.wl,R.sn,R.rl,R.wy,wm fun w hw=>⟨?_,?_⟩,fun y hy=>?_,fun x hx=>?_,fun x hx=>?_,?_,wm fun w hw=>⟨?_,?_⟩,fun x hx=>?_,?_,?_,?_,?_,?_,fun y hy=>?_⟩
  · rw[ap]
    exact ua (fun _=>id) (R.ws w hw).n
  · unfold Ws.mv;simp only[List.length_map];exact (R.ws w hw).l
  · obtain ⟨s,k⟩:=y
    rw[show (st.mv f).ss=st.ss.map (Ss.mv f) from rfl,List.zip_map_right] at hy
    obtain ⟨z,hz,e⟩:=List.mem_map.mp hy
    cases e
    exact (R.ss z hz).mv f (b z.2 (List.of_mem_zip (a:=z.1) (b:=z.2) hz).2)
  · rw[lB] at hx
    obtain ⟨z,hz,rfl⟩:=List.mem_map.mp hx
    show (z.2.map _).length≤_
    rw[List.length_map]
    exact R.nb z hz
  · rw[oK f p st h] at hx
    obtain ⟨z,hz,rfl⟩:=List.mem_map.mp hx
    exact R.se z hz
  · rw[oK f p st h,List.length_map];exact R.sz
  · rw[ap]
    exact ua (fun _=>id) (R.wz w hw).1
  · unfold Ws.mv;simp only[List.length_map];exact (R.wz w hw).2
  · rw[kR f p st h] at hx
    obtain ⟨z,hz,rfl⟩:=List.mem_map.mp hx
    unfold Wt.mv
    simp only[List.length_map]
    exact R.go z hz
  · rw[e2];exact ua (fun _=>id) R.ou
  · rw[e1];exact ua (fun _=>id) R.lo
  · rw[e2,List.length_map];exact R.oz
  · rw[e1,List.length_map];exact R.lz
  · rw[Hh f p st h,List.length_map];exact R.ez
  · rw[lB,List.zip_map_right] at hy
    obtain ⟨z,hz,rfl⟩:=List.mem_map.mp hy
    show (z.2.1.lo.map _).length+_ < 64
    rw[e1,zA,List.length_map,List.length_map]
    exact R.lt z hz
theorem HZ:∀ s∈[Str.ofString "sent", Str.ofString "in", Str.ofString "lost", Str.ofString "taken", Str.ofString "out"],PyData.strOk s=true:=by decide +kernel
theorem My {p:Pn}{st:St'}(R:yb p st):∀ e∈p.evs st,PyData.strOk e.wd=true∧e.nm∈p.sn∧PyData.strOk e.wy=true:=by
  intro e he
  unfold Pn.evs at he
  rcases List.mem_append.mp he with h | h
  · obtain ⟨x,hx,rfl⟩:=List.mem_map.mp h
    have:=R.se x hx
    exact ⟨HZ _ (by simp),this.2,this.1⟩
  · rw[c8] at h
    obtain ⟨l,hl,he'⟩:=List.mem_flatten.mp h
    obtain ⟨⟨w,x⟩,hy,rfl⟩:=List.mem_map.mp hl
    have hw:=(R.wy w (List.of_mem_zip hy).1).1
    have hx:=(List.of_mem_zip hy).2
    rcases List.mem_append.mp he' with h | h
    · obtain ⟨z,hz,rfl⟩:=List.mem_map.mp h
      have hz1:z.1∈x.ca:=List.fst_mem_of_mem_zipIdx hz
      refine ⟨HZ _ (by split<;>simp),?_,hw⟩
      unfold Pn.cI at hx
      rw[c8] at hx
      obtain ⟨⟨w',k⟩,hk,rfl⟩:=List.mem_map.mp hx
      rcases List.mem_append.mp (show z.1∈k.cm++((p.aU st).filter fun x=>decide (x.1=w'.nm)).map (·.2) from hz1) with h | h
      · exact (R.wz k (List.of_mem_zip hk).2).1 _ (List.mem_append_left _ h)
      · obtain ⟨s,hs,e⟩:=List.mem_map.mp h
        rw[← e]
        exact (R.se s (List.mem_filter.mp hs).1).2
    · obtain ⟨l,hl,rfl⟩:=List.mem_map.mp h
      exact ⟨HZ _ (by split<;>simp),(R.ou l (List.mem_flatMap.mpr ⟨x,hx,hl⟩)).1,hw⟩
theorem Qj {p:Pn}{st:St'}(R:yb p st)(f:Str→Int):pl 5 (.ls (evD ((p.evs st).map (Ev.mv f))))=true:=by
  have e:pls 4 (evD ((p.evs st).map (Ev.mv f)))=true:=lU fun d hd=>by
    obtain ⟨y,hy,rfl⟩:=List.mem_map.mp hd
    obtain ⟨x,hx,rfl⟩:=List.mem_map.mp hy
    obtain ⟨a,b,c⟩:=My R x hx
    have b:=R.sn _ b
    simp[Ev.toD,pl,pls,a,b,c]
  have z:=R.ez
  simp only[pl,List.length_map,e]
  rw[decide_eq_true (by omega)];rfl
theorem dQ.nx {p:Pn}{m:Int}{n:Nat}{st:St'}(I:dQ p m n st):∀ x∈st.ss,0≤x.nx∧x.nx≤60*n:=by
  intro x hx
  obtain ⟨i,hi,e⟩:=List.getElem_of_mem hx
  have h1:i < p.ss.length:=by rw[← I.ls];exact hi
  have:(p.ss[i],st.ss[i])∈List.zip p.ss st.ss:=by
    rw[← List.getElem_zip (h:=by simp;omega)];exact List.getElem_mem ..
  have h:=I.ss _ this
  rw[← e]
  exact ⟨h.n0,h.n1⟩
section
open PySem PySem.Spec PyProof.Rows L2
end
section
open PySem PySem.Spec PyProof.Rows L2
section
variable {X:Cx} {a b c d:Expr} {ta tb tc td:TE} {Ta Tb Tc Td:ETr} {pos:Pos} {o1 o2 o3:CmpOp} {r1 r2 r3:L2.R2} {R1 R2 R3:DR2}
end
end
section
open PySem PySem.Spec PyProof.Rows L2
section
variable {X:Cx} {tg a b:Expr} {Ta Tb:ETr} {pos:Pos}
end
end
section
open PySem PySem.Spec PyProof.Rows L2
def Bv:ETr:=fun ρ μ Q=>∀ p,μ p=none→Q (.obj p) (up μ p (.dct []))
theorem GC {X:Cx}{pos:Pos}:LE X (.Dict [] [] pos) Bv:=JD
theorem EB (ρ:ST)(μ:Mu)(Q:DK):Bv ρ μ Q = ∀ p,μ p=none→Q (.obj p) (up μ p (.dct [])):=propext Iff.rfl
end
section
open PySem PySem.Spec PyProof.Rows L2
section
variable {X:Cx} {o i:Expr} {apos cpos:Pos}
end
end
section
open PySem PySem.Spec PyProof PyProof.Rows L2
section
variable {X:Cx} {o:Expr} {apos cpos pos p:Pos} {x:Str}
end
end
section
open PySem PySem.Spec PyProof.Rows L2
end
section
open PySem PySem.Spec PyProof.Rows L2
section
variable {X:Cx} {i o:Expr} {pos:Pos} {Ti To:ETr}
theorem KD (hu:X.A.units+64 < cLine)(hi:LE X i Ti)(ho:LE X o To)(hm:behindInMarks .NotIn o=false:=by rfl):LT X (.Compare i [.NotIn] [o] pos) (TB (Kh true Ti To)):=by
  obtain ⟨ti,pi,si⟩:=hi.ex
  obtain ⟨to,po,so⟩:=ho.ex
  exact ⟨_,Nk (Dn (hu1 hu) pi po) hm,Eg (yN si so)⟩
end
end
end L3
namespace Kk
local macro_rules | `(tactic| walk_at "ln")=>`(tactic| (intro ds μ Q h;split at h;rfl;exact h.elim))
open PySem L3
def TK:=Jn @EB <| @Qh
local macro_rules | `(tactic| walk_at "go")=>`(tactic| try simp only[↓TK,CI,↓xq,↓xi,↓vW,↓wu,↓xo,↓vR,↓j2,↓iZ,cE,bW,cF,cz,cB,cy,cO,cT,bV,cw,cx,cC,cG,cW,cD,cU,cA,cN,cu,cX,iR,tM,tW,fK,List.map_cons,List.map_nil,List.replicate,List.cons_append,List.nil_append,lk,D1,Aq,D3,CD,j9,gI,sX,nz,sY,sI,mH,mJ,j5,jV,j4,jZ,true_and,and_true,and_self,Bool.not_true,Bool.not_false,decide_true,decide_false,Bool.or_true,Bool.or_false,Bool.true_or,Bool.false_or,Bool.and_false,Bool.false_and,Bool.and_true,Bool.true_and,Int.reduceToNat,Int.reducePow,Int.reduceNeg,Int.reduceSub,Int.reduceAdd,Int.reduceMul,Int.reduceEq,Int.reduceLT,Int.reduceLE,Int.reduceBEq,iH,gs,gr,gu,gj,gq,gn,gi,if_true,if_false,Bool.false_eq_true,reduceCtorEq,decide_eq_true_eq])
local macro_rules | `(tactic| walk_at "ok")=>`(tactic| (simp only[L3.jf,L3.MulOk,L3.S64,L3.iV,L3.xr] at *;omega))
local macro_rules | `(tactic| walk_at "ini")=>`(tactic| simp only[ini,List.map,List.length,List.replicate,Nat.reduceSub,Nat.reduceAdd,Nat.sub_self,List.cons_append,List.nil_append,List.append_nil])
local macro_rules | `(tactic| walk_at "pot")=>`(tactic| try simp only[Eh,Lj,J3,La,GH,LH,Me,LL,EL,true_and,sH])
local macro_rules | `(tactic| walk_at "gp")=>`(tactic| (walk_at "go";walk_at "pot";walk_at "go";walk_at "pot";walk_at "go";walk_at "pot";walk_at "go"))
theorem Gs (x:Lt)(lo hi:Option Int)(μ:Mu)(Q:DK):rSl x.toD lo hi μ Q=Q (.tup (cutD [.str x.nm,.int x.nu,.int x.ag,.int x.hp,.int x.mr] lo hi)) μ:=propext Iff.rfl
theorem MB (a b c d e:D):cutD [a,b,c,d,e] none (some 1)=[a]:=rfl
theorem GK (a b c d e:D):cutD [a,b,c,d,e] (some 2) none=[c,d,e]:=rfl
def QR (tab:List (L2.Key×D))(f:Str→Int)(ls:List Lt):Prop:=∀ l∈ls,bo tab (.inr l.nm)=some (.int (f l.nm))
def bA:FSp:=fun ds μ Q=>match ds with
  | [.tup xs,.obj q]=>∃ (ls:List Lt) (f:Str→Int) (tab:List (L2.Key×D)),(xs=ltD ls∧ls.length≤100000∧μ q=some (.dct tab)∧QR tab f ls)∧Q (.tup (ltD (ls.map (Lt.lw f)))) μ
  | _=>False
theorem kb:∀ ds μ Q,bA ds μ Q→ds.length=2:=by
  unfold bA
  walk_at "ln"
def gR:STr:=aD (aN (iW (ar)) (aw 2)) (aD (gK (cQ (ah 0)) (aw 3) (aD (aN (ak iC (ak L3.rIx (ah 3) (TC (.int 1))) (dU (ah 1) (ak L3.rIx (ah 3) (TC (.int 0))))) (aw 4)) (dW (iT (ah 2) (ak aT (ak aT (TSl (ah 3) (ONo) (gh (TC (.int 1)))) (aX (af (ah 4) (ar)))) (TSl (ah 3) (gh (ak aT (TC (.int 1)) (TC (.int 1)))) (ONo))))))) (aY (av a6 (af (ah 2) (ar)))))
theorem kn:∀ ds μ Q,bA ds μ Q→gR { nx:=fun _ μ'=>RT Q .non μ',rt:=RT Q } (ini 5 ds) μ:=by
  intro ds μ Q h
  unfold bA at h
  split at h
  case h_2=>exact h.elim
  rename_i xs q
  walk_at "ini"
  unfold gR
  walk_at "go"
  obtain ⟨ls,f,tab,⟨rfl,hl,eq,T⟩,k⟩:=h
  intro p hp
  have pq:p≠q:=fun z=>by subst z;rw[eq] at hp;cases hp
  walk_at "go"
  refine bK (fun r ρ μ'=>∃ (dn rs:List Lt) (v3 v4:Option D),r=ltD rs∧dn++rs=ls∧ρ=[some (.tup (ltD ls)),some (.obj q),some (.obj p),v3,v4]∧μ'=up μ p (.lst (ltD (dn.map (Lt.lw f))))) ?_ ?_ _ _ _ ⟨[],ls,_,_,rfl,rfl,rfl,rfl⟩
  · rintro ρ μ' ⟨dn,rs,v3,v4,er,es,rfl,rfl⟩
    cases rs with
    | cons _ _=>cases er
    | nil=>
    rw[List.append_nil] at es
    subst es
    walk_at "go"
    refine ⟨μ,fun a o h=>?_,k⟩
    rw[aK (fun z=>by subst z;rw[hp] at h;cases h)]
    exact h
  · rintro d r ρ μ' N ⟨dn,rs,v3,v4,er,es,rfl,rfl⟩ hN
    cases rs with
    | nil=>cases er
    | cons l rs=>
    cases er
    have hx:l∈ls:=by rw[← es];simp
    have dl:dn.length+(rs.length+1)=ls.length:=by rw[← es];simp
    walk_at "go"
    refine iI (by rw[aK (Ne.symm pq)];exact eq) ?_
    rw[T l hx]
    walk_at "go"
    simp only[↓Gs,MB,GK]
    walk_at "go"
    try simp only[↓Gs,MB,GK]
    walk_at "go"
    refine (show 1+1≤1000000∧2+3≤1000000∧(ltD (dn.map (Lt.lw f))).length < 1000000∧_ from ⟨by decide,by decide,by rw[List.length_map,List.length_map];omega,hN _ _ ⟨dn++[l],rs,_,_,rfl,by rw[← es];simp,rfl,?_⟩⟩)
    rw[List.map_append]
    simp[ltD,Lt.lw,Lt.toD]
def bM:FSp:=fun ds μ Q=>match ds with
  | [d]=>∃ (g:Int) (x:Ss),(d=x.toD g∧x.ag.length≤100000∧x.lo.length≤100000)∧Q (x.lk.toD g) μ
  | _=>False
theorem oO (g:Int)(x:Ss):cutD [.str x.nm,cZ x.du,fb x.W g,fb x.S g,.int x.nx,cZ x.lf,.tup (c6 x.ag),.tup (c6 x.lo),.int x.gd,.int x.mk',.int x.wt] (some 8) none=[.int x.gd,.int x.mk',.int x.wt]:=rfl
theorem kE:∀ ds μ Q,bM ds μ Q→ds.length=1:=by
  unfold bM
  walk_at "ln"
def iq:STr:=aD (aN (av a6 (af (bL (cQ (ak L3.rIx (ah 0) (TC (.int 6)))) (aw 0) (dM) (ak iC (ah 0) (ak L3.rIx (ah 1) (TC (.int 4)))) 1 [0]) (ar))) (aw 1)) (aD (aN (av a6 (af (bL (cQ (ak L3.rIx (ah 0) (TC (.int 7)))) (aw 0) (dM) (ak iC (ah 0) (ak L3.rIx (ah 1) (TC (.int 4)))) 1 [0]) (ar))) (aw 2)) (aY (ak aT (ak aT (TSl (ah 0) (ONo) (gh (TC (.int 4)))) (aX (af (TC (.int 0)) (af (ak L3.rIx (ah 0) (TC (.int 5))) (af (ah 1) (af (ah 2) (ar))))))) (TSl (ah 0) (gh (TC (.int 8))) (ONo)))))
theorem kT:∀ ds μ Q,bM ds μ Q→iq { nx:=fun _ μ'=>RT Q .non μ',rt:=RT Q } (ini 3 ds) μ:=by
  intro ds μ Q h
  unfold bM at h
  split at h
  case h_2=>exact h.elim
  rename_i d
  walk_at "ini"
  unfold iq
  walk_at "go"
  obtain ⟨g,x,⟨rfl,h1,h2⟩,k⟩:=h
  walk_at "go"
  refine bf x.ag .int (fun i=>.int (i - x.nx)) rfl (by omega) (fun i hi μ' _ N m=>?_) ?_
  · walk_at "go"
    exact m
  walk_at "go"
  refine bf x.lo .int (fun i=>.int (i - x.nx)) rfl (by omega) (fun i hi μ' _ N m=>?_) ?_
  · walk_at "go"
    exact m
  walk_at "go"
  simp only[↓rZ,lu,oO]
  walk_at "go"
  try simp only[↓rZ,lu,oO]
  walk_at "go"
  refine (show 4+4≤1000000∧8+3≤1000000∧_ from ⟨by decide,by decide,_,.refl _,?_⟩)
  unfold Ss.toD Ss.lk at k
  simp only[List.map_map] at k
  exact k
def eK:FSp:=fun ds μ Q=>match ds with
  | [d]=>∃ (g:Int) (st:St'),(d=st.toD g∧StL st)∧Q (st.lk.toD g) μ
  | _=>False
theorem wb:∀ ds μ Q,eK ds μ Q→ds.length=1:=by
  unfold eK
  walk_at "ln"
def sG:STr:=aD (aN (av xP (af (bL (cQ (ak L3.rIx (ah 0) (TC (.int 1)))) (aw 0) (dM) (aX (af (ak L3.rIx (ah 0) (TC (.int 0))) (af (ak L3.rIx (ah 0) (TC (.int 4))) (ar)))) 1 []) (ar))) (aw 1)) (aD (aN (iW (ar)) (aw 2)) (aD (gK (cQ (ak L3.rIx (ah 0) (TC (.int 0)))) (aw 3) (dW (iT (ah 2) (aX (af (av bA (af (ak L3.rIx (ah 3) (TC (.int 0))) (af (ah 1) (ar)))) (af (av bA (af (ak L3.rIx (ah 3) (TC (.int 1))) (af (ah 1) (ar)))) (af (ak L3.rIx (ah 3) (TC (.int 2))) (ar)))))))) (aY (aX (af (av a6 (af (ah 2) (ar))) (af (av a6 (af (bL (cQ (ak L3.rIx (ah 0) (TC (.int 1)))) (aw 0) (dM) (av bM (af (ah 0) (ar))) 1 []) (ar))) (ar)))))))
theorem An:∀ ds μ Q,eK ds μ Q→sG { nx:=fun _ μ'=>RT Q .non μ',rt:=RT Q } (ini 4 ds) μ:=by
  intro ds μ Q h
  unfold eK at h
  split at h
  case h_2=>exact h.elim
  rename_i d
  walk_at "ini"
  unfold sG
  walk_at "go"
  obtain ⟨g,st,⟨rfl,S⟩,k⟩:=h
  have z1:=S.z1
  walk_at "go"
  refine bf st.ss (Ss.toD g) (fun x=>.tup [.str x.nm,.int x.nx]) rfl (by omega) (fun x hx μ' _ N m=>?_) ?_
  · walk_at "go"
    exact m
  walk_at "go"
  refine ⟨st.ss.map fun x=>(.inr x.nm,.int x.nx),by rw[List.map_map];rfl,by rw[List.length_map];omega,fun q hq=>?_⟩
  have em:i7 [] (st.ss.map fun x=>((.inr x.nm,.int x.nx):L2.Key×D))=st.ss.map fun x=>(.inr x.nm,.int x.nx):=by
    refine (l6 _ [] ?_).trans (List.nil_append _)
    rw[List.nil_append,List.map_map]
    exact List.pairwise_map.mpr ((List.pairwise_map.mp S.nd).imp fun h e=>h (by injection e))
  rw[em]
  walk_at "go"
  intro p hp
  have pq:p≠q:=fun z=>by subst z;rw[aB] at hp;cases hp
  walk_at "go"
  refine bK (fun r ρ μ'=>∃ (dn rs:List Ws) (v3:Option D),r=wsD rs∧dn++rs=st.ws∧ρ=[some (st.toD g),some (.obj q),some (.obj p),v3]∧μ'=up (up μ q (.dct (st.ss.map fun x=>(.inr x.nm,.int x.nx)))) p (.lst (wsD (dn.map (Ws.lw (nxF st.ss)))))) ?_ ?_ _ _ _ ⟨[],st.ws,_,rfl,rfl,rfl,rfl⟩
  · rintro ρ μ' ⟨dn,rs,v3,er,es,rfl,rfl⟩
    cases rs with
    | cons _ _=>cases er
    | nil=>
    rw[List.append_nil] at es
    subst es
    walk_at "go"
    refine bf st.ss (Ss.toD g) (fun x=>x.lk.toD g) rfl (by omega) (fun x hx μ' _ N m=>?_) ?_
    · walk_at "go"
      have z:=S.z3 x hx
      exact ⟨g,x,⟨rfl,by omega,by omega⟩,m⟩
    walk_at "go"
    refine ⟨μ,fun a o h=>?_,?_⟩
    · have h1:a≠q:=fun z=>by subst z;rw[hq] at h;cases h
      have h2:a≠p:=fun z=>by subst z;rw[aK h1,h] at hp;cases hp
      rw[aK h2,aK h1];exact h
    · unfold St'.toD St'.lk at k
      simp only[wsD,ssD,List.map_map] at k ⊢
      exact k
  · rintro d r ρ μ' N ⟨dn,rs,v3,er,es,rfl,rfl⟩ hN
    cases rs with
    | nil=>cases er
    | cons w rs=>
    cases er
    have hw:w∈st.ws:=by rw[← es];simp
    have z:=S.z2 w hw
    have dl:dn.length+(rs.length+1)=st.ws.length:=by rw[← es];simp
    have T:QR (st.ss.map fun x=>(.inr x.nm,.int x.nx)) (nxF st.ss) (w.cm++w.st):=fun l hl=>ya _ _ (S.lt w hw l hl)
    have eq:∀ o:MO,up (up μ q (.dct (st.ss.map fun x=>(.inr x.nm,.int x.nx)))) p o q=some (.dct (st.ss.map fun x=>(.inr x.nm,.int x.nx))):=fun o=>by rw[aK (Ne.symm pq),aB]
    walk_at "go"
    refine ⟨w.cm,nxF st.ss,_,⟨rfl,by omega,eq _,fun l hl=>T l (List.mem_append_left _ hl)⟩,?_⟩
    walk_at "go"
    refine ⟨w.st,nxF st.ss,_,⟨rfl,by omega,eq _,fun l hl=>T l (List.mem_append_right _ hl)⟩,?_⟩
    walk_at "go"
    refine ⟨by simp;omega,hN _ _ ⟨dn++[w],rs,_,rfl,by rw[← es];simp,rfl,?_⟩⟩
    simp[wsD,Ws.lw,Ws.toD]
def me:FSp:=fun ds μ Q=>match ds with
  | [d,.int n]=>∃ (p:Pn) (m:Int) (j:Nat),(d=p.toD∧p.Ok m∧n=j∧j≤1000)∧Q (.tup [(p.run j).toD p.g,.ls (p.rows j)]) μ
  | _=>False
theorem JP:∀ ds μ Q,me ds μ Q→ds.length=2:=by
  unfold me
  walk_at "ln"
def Mw:STr:=aD (aN (av L3.iE (af (ah 0) (ar))) (aw 2)) (aD (aN (iW (ar)) (aw 3)) (aD (gK (gf (ah 1)) (aw 4) (aD (aN (av L3.dh (af (ah 0) (af (ah 2) (ar)))) (aw 5)) (aD (aN (ak L3.rIx (ah 5) (TC (.int 0))) (aw 2)) (dW (iT (ah 3) (ak L3.rIx (ah 5) (TC (.int 1)))))))) (aY (aX (af (ah 2) (af (tU (ah 3)) (ar)))))))
theorem Pc:∀ ds μ Q,me ds μ Q→Mw { nx:=fun _ μ'=>RT Q .non μ',rt:=RT Q } (ini 6 ds) μ:=by
  intro ds μ Q h
  unfold me at h
  split at h
  case h_2=>exact h.elim
  rename_i d n
  walk_at "ini"
  unfold Mw
  walk_at "go"
  obtain ⟨p,m,j,⟨rfl,K,rfl,hj⟩,k⟩:=h
  have w1:=K.w1
  have s1:=K.s1
  refine ⟨p,⟨rfl,fun x hx=>(K.s x hx).k,K.g,by omega,by omega⟩,?_⟩
  walk_at "go"
  intro q hq
  walk_at "go"
  refine ⟨⟨by omega,by omega⟩,?_⟩
  rw[Int.toNat_natCast]
  refine bK (fun r ρ μ'=>∃ (i:Nat) (v4 v5:Option D),i+r.length=j∧ρ=[some p.toD,some (.int j),some ((p.run i).toD p.g),some (.obj q),v4,v5]∧μ'=up μ q (.lst (p.rows i))) ?_ ?_ _ _ _ ⟨0,_,_,by rw[eO];omega,rfl,rfl⟩
  · rintro ρ μ' ⟨i,v4,v5,e,rfl,rfl⟩
    have e:i=j:=by simpa using e
    subst e
    walk_at "go"
    rw[pK hq]
    exact ⟨_,.refl _,k⟩
  · rintro d r ρ μ' N ⟨i,v4,v5,e,rfl,rfl⟩ hN
    rw[List.length_cons] at e
    have I:=p.j6 K i (by omega)
    walk_at "go"
    refine ⟨p,p.run i,⟨⟨rfl,rfl⟩,I.rd (by omega)⟩,?_⟩
    walk_at "go"
    refine ⟨by unfold Pn.rows;simp;omega,hN _ _ ⟨i+1,_,_,by omega,rfl,?_⟩⟩
    unfold Pn.rows
    rw[List.range_succ,List.map_append]
    rfl
def cj:FSp:=fun ds μ Q=>match ds with
  | [.int a,.int t]=>(0≤t∧t≤1000000000000000)∧∀ k,0≤k→k < 2147483587→Q (.int k) μ
  | _=>False
theorem uw:∀ ds μ Q,cj ds μ Q→ds.length=2:=by
  unfold cj
  walk_at "ln"
def o8:STr:=aD (aN (ak kU (ak hV (ak aT (ak aT (ak kU (ah 0) (TC (.int 2147483647))) (ak hV (ak hV (TC (.int 7919)) (ah 1)) (ah 1))) (TC (.int 11))) (TC (.int 48271))) (TC (.int 2147483629))) (aw 2)) (aY (ak kU (ak hV (ah 2) (ah 2)) (TC (.int 2147483587))))
theorem wU:∀ ds μ Q,cj ds μ Q→o8 { nx:=fun _ μ'=>RT Q .non μ',rt:=RT Q } (ini 3 ds) μ:=by
  intro ds μ Q h
  unfold cj at h
  split at h
  case h_2=>exact h.elim
  rename_i a t
  walk_at "ini"
  unfold o8
  walk_at "go"
  obtain ⟨⟨t0,t1⟩,k⟩:=h
  refine ⟨by decide,.inl (.inl (by unfold S64;decide)),.inl (.inr (by unfold S64;omega)),.inl (.inr (by unfold S64;decide)),by decide,?_⟩
  have g0:=fm0 (a:=((a.fmod 2147483647+7919*t*t+11)*48271)) (n:=2147483629) (by decide)
  have g1:=fm1 (a:=((a.fmod 2147483647+7919*t*t+11)*48271)) (n:=2147483629) (by decide)
  refine ⟨.inl (.inr (by unfold S64;omega)),by decide,?_⟩
  exact ⟨_,.refl _,k _ (fm0 (by decide)) (fm1 (by decide))⟩
def eT:FSp:=fun ds μ Q=>match ds with
  | [.ls xs]=>∃ ns:List Int,(xs=ns.map .int∧ns.length≤63)∧∀ b c μ',Pq μ' b c 0→Q (.obj b) μ'
  | _=>False
theorem u5:∀ ds μ Q,eT ds μ Q→ds.length=1:=by
  unfold eT
  walk_at "ln"
def rA:STr:=aY (HX [.inr (Str.ofString "cells"),.inr (Str.ofString "turn"),.inr (Str.ofString "left"),.inr (Str.ofString "used"),.inr (Str.ofString "spent")] (af (av jE (af (ah 0) (ar))) (af (TC (.int 0)) (af (TC (.int 0)) (af (TC (.int 0)) (af (Bv) (ar)))))))
theorem yG:∀ ds μ Q,eT ds μ Q→rA { nx:=fun _ μ'=>RT Q .non μ',rt:=RT Q } (ini 1 ds) μ:=by
  intro ds μ Q h
  unfold eT at h
  split at h
  case h_2=>exact h.elim
  rename_i xs
  walk_at "ini"
  unfold rA
  walk_at "go"
  obtain ⟨ns,⟨rfl,hl⟩,k⟩:=h
  intro b hb
  walk_at "go"
  intro c hc
  have bc:b≠c:=fun z=>by subst z;rw[aB] at hc;cases hc
  walk_at "go"
  refine iI (by rw[aK bc];exact aB) ⟨rfl,?_⟩
  exact ⟨_,.refl _,k b c _ ⟨bc,ns,0,0,0,[],aB,by rw[aK (Ne.symm bc)];exact aB,⟨by decide,by decide⟩,List.nodup_nil,(fun _ h=>nomatch h),hl⟩⟩
theorem NH {p:Prop} [Decidable p] {A B:Prop}(h1:¬ p→A)(h2:p→B):kIf (!decide p) A B:=QP h1 h2
def ay:FSp:=fun ds μ Q=>match ds with
  | [.obj b,.int m]=>∃ (c:Addr) (n:Nat),(Pq μ b c n∧n≤1000000000∧0 < m∧m < 1000000000000000000000000000000)∧∀ k μ',0≤k→k < m→i5 b c (n+1) μ μ'→Q (.int k) μ'
  | _=>False
theorem tq {μ:Mu}{b c:Addr}{m:Int}{n:Nat}{Q:DK}(hB:Pq μ b c n)(hn:n≤1000000000)(h0:0 < m)(h1:m < 1000000000000000000000000000000)(h:∀ k μ',0≤k→k < m→i5 b c (n+1) μ μ'→Q (.int k) μ'):dz ay [.obj b,.int m] μ Q:=⟨c,n,⟨hB,hn,h0,h1⟩,h⟩
theorem rR:∀ ds μ Q,ay ds μ Q→ds.length=2:=by
  unfold ay
  walk_at "ln"
def gH:STr:=aD (aN (aX (af (TC (.int 0)) (af (TC (.int 0)) (ar)))) (fA [3,4])) (aD (c7 (TB (ak rGt (av eL (af (dU (ah 0) (TC (.str "cells"))) (ar))) (TC (.int 0)))) (aD (aN (ak kU (dU (ah 0) (TC (.str "turn"))) (av eL (af (dU (ah 0) (TC (.str "cells"))) (ar)))) (aw 4)) (aN (ak L3.rIx (dU (ah 0) (TC (.str "cells"))) (ah 4)) (aw 3))) (bH)) (aD (c7 (w4 (TB (ak rGe (ah 3) (ak Cz (TC (.int 10)) (TC (.int 18))))) (TB (Kh true (ah 4) (dU (ah 0) (TC (.str "spent")))))) (aD (kJ (dU (ah 0) (TC (.str "spent"))) (ah 4) (TC (.bl true))) (aD (kJ (ah 0) (TC (.str "left")) (ak mL (ah 3) (ah 1))) (aD (kJ (ah 0) (TC (.str "used")) (TC (.int 1))) (aY (ak kU (ah 3) (ah 1)))))) (bH)) (aY (ak kU (ak mL (av cj (af (av cj (af (ah 3) (af (dU (ah 0) (TC (.str "turn"))) (ar)))) (af (ak aT (dU (ah 0) (TC (.str "turn"))) (TC (.int 5))) (ar)))) (TC (.int 7))) (ah 1)))))
def nk:STr:=aD (kJ (ah 0) (TC (.str "turn")) (ak aT (dU (ah 0) (TC (.str "turn"))) (TC (.int 1)))) (aD (c7 (w4 (TB (ak rGt (dU (ah 0) (TC (.str "left"))) (TC (.int 0)))) (TB (ak rLt (dU (ah 0) (TC (.str "used"))) (TC (.int 60))))) (aD (aN (ak kU (dU (ah 0) (TC (.str "left"))) (ah 1)) (aw 2)) (aD (kJ (ah 0) (TC (.str "left")) (ak mL (dU (ah 0) (TC (.str "left"))) (ah 1))) (aD (kJ (ah 0) (TC (.str "used")) (ak aT (dU (ah 0) (TC (.str "used"))) (TC (.int 1)))) (aY (ah 2))))) (bH)) (gH))
theorem uC:∀ ds μ Q,ay ds μ Q→nk { nx:=fun _ μ'=>RT Q .non μ',rt:=RT Q } (ini 5 ds) μ:=by
  intro ds μ Q h
  unfold ay at h
  split at h
  case h_2=>exact h.elim
  rename_i b m
  walk_at "ini"
  unfold nk
  walk_at "go"
  obtain ⟨c,n,⟨hB,hn,m0,m1⟩,k⟩:=h
  obtain ⟨ne,cs,t,l,u,is,e1,e2,⟨t0,t1⟩,nd,hi,cl⟩:=hB
  have dv:jf m:=⟨by omega,by unfold iV;omega⟩
  refine iI e1 ?_
  walk_at "pot"
  walk_at "go"
  refine iI e1 ?_
  walk_at "gp"
  have ne':=Ne.symm ne
  have rest:gH { nx:=fun x μ'=>RT Q D.non μ',rt:=RT Q } [some (D.obj b),some (D.int m),none,none,none] (up μ b (MO.dct (ke cs (t+1) l u c))):=by
    have hE2:up μ b (MO.dct (ke cs (t+1) l u c)) c=some (.dct (spD is)):=by rw[aK ne'];exact e2
    have mixfin:∀ (a:Int) (v4:Option D),dz cj [.int a,.int (t+1)] (up μ b (MO.dct (ke cs (t+1) l u c))) fun x μ1=>kD μ1 b fun kvs=>kO (bo kvs (Sum.inr (Str.ofString "turn"))) fun d=>aT d (D.int 5) μ1 fun x_1 μ1=>dz cj [x,x_1] μ1 fun x μ1=>mL x (D.int 7) μ1 fun x μ1=>L3.kU x (D.int m) μ1 (RT Q):=fun a v4=>by
      refine ⟨⟨by omega,by omega⟩,fun k1 k10 k11=>?_⟩
      refine iI aB ?_
      walk_at "gp"
      refine ⟨⟨by omega,by omega⟩,fun k2 k20 k21=>?_⟩
      walk_at "go"
      refine ⟨⟨by decide,by unfold iV;decide⟩,by omega,?_⟩
      exact ⟨_,.refl _,k _ _ (fm0 m0) (fm1 m0) ⟨⟨ne,cs,t+1,l,u,is,aB,hE2,⟨by omega,by omega⟩,nd,hi,cl⟩,fun a h1 _=>aK h1⟩⟩
    unfold gH
    walk_at "gp"
    rw[List.length_map]
    refine kif (fun h=>?_) fun h=>?_
    · have L0:0 < (cs.length:Int):=h
      have j0:=fm0 (a:=t+1) L0
      have j1:=fm1 (a:=t+1) L0
      refine ⟨by omega,?_⟩
      obtain ⟨_,ea,a,rfl⟩:=dq (xs:=cs.map D.int) (P:=fun d=>∃ a:Int,d=.int a) (fun d hd=>by obtain ⟨a,_,rfl⟩:=List.mem_map.mp hd;exact ⟨a,rfl⟩) j0 (by rw[List.length_map];exact j1)
      refine eW ea ⟨⟨by decide,by decide,by decide⟩,?_⟩
      generalize hj:(t+1).fmod (cs.length:Int)=j at *
      obtain ⟨i,rfl⟩:∃ i:Nat,j=(i:Int):=⟨j.toNat,by omega⟩
      walk_at "go"
      refine kif (fun h2=>?_) fun h2=>?_
      · walk_at "gp"
        refine iI hE2 ?_
        rw[Ce]
        refine NH (fun h3=>?_) fun h3=>?_
        · walk_at "gp"
          have il:=MU _ is nd hi
          refine iI hE2 ⟨by unfold spD;rw[List.length_map];omega,dv,?_⟩
          rw[NC h3]
          refine iI (by rw[aK ne];exact aB) ⟨EL _ _ _ _ _,?_⟩
          walk_at "gp"
          refine ⟨by omega,?_⟩
          refine ⟨_,.refl _,k _ _ (fm0 m0) (fm1 m0) ⟨⟨ne,cs,t+1,_,_,is++[i],aB,by rw[aK ne'];exact aB,⟨by omega,by omega⟩,?_,fun x hx=>?_,cl⟩,fun a h1 h2=>by rw[aK h1,aK h2,aK h1]⟩⟩
          · exact List.nodup_append.mpr ⟨nd,by simp,fun x hx y hy=>by rw[List.mem_singleton.mp hy];exact fun z=>h3 (z ▸ hx)⟩
          · rcases List.mem_append.mp hx with z | z
            · exact hi x z
            · rw[List.mem_singleton.mp z];omega
        · walk_at "gp"
          exact mixfin a none
      · walk_at "gp"
        exact mixfin a none
    · walk_at "gp"
      refine ⟨⟨by decide,by decide,by decide⟩,?_⟩
      walk_at "gp"
      exact mixfin 0 none
  refine kif (fun h=>kif (fun h'=>?_) fun h'=>rest) fun h=>rest
  walk_at "gp"
  refine ⟨by omega,dv,?_⟩
  walk_at "gp"
  exact ⟨_,.refl _,k _ _ (fm0 m0) (fm1 m0) ⟨⟨ne,cs,t+1,_,_,is,aB,by rw[aK ne'];exact e2,⟨by omega,by omega⟩,nd,hi,cl⟩,fun a h1 _=>aK h1⟩⟩
theorem Kb {a c:Int}(h:a≤c):(a.fdiv (Int.gcd a 2))*((2:Int).fdiv (Int.gcd c 2))≤(c.fdiv (Int.gcd c 2))*((2:Int).fdiv (Int.gcd a 2)):=by
  obtain ⟨g,p,q,g0,ea,eb,e1,e2,q0,qb,gg⟩:=l8 (a:=a) (b:=2) (by decide)
  obtain ⟨g',p',q',g0',ea',eb',e1',e2',q0',qb',gg'⟩:=l8 (a:=c) (b:=2) (by decide)
  rw[e1,e2,e1',e2']
  have gg:0 < g*g':=Int.mul_pos g0 g0'
  refine Int.le_of_mul_le_mul_left (a:=g*g') ?_ gg
  have h1:g*g'*(p*q')=a*2:=by rw[ea,eb'];ac_rfl
  have h2:g*g'*(p'*q)=c*2:=by rw[ea',eb];ac_rfl
  rw[h1,h2];omega
def Tv (d:D):Prop:=∃ x y,d=fr x y∧FrA 0 60 x y
def TY (d:D):Prop:=∃ x y,d=fr x y∧FrA 0 60 x y∧y < x
def Tw (d:D):Prop:=∃ x y,d=fr x y∧FrA 0 1 x y∧x < y
def Ui (d:D):Prop:=∃ x y,d=fr x y∧FrA 0 1 x y
theorem fra {lo hi p q:Int}(h1:0 < q)(h2:q≤10000002)(h3:Int.gcd p q=1)(h4:lo*q < p)(h5:p≤hi*q):FrA lo hi p q:=⟨⟨h1,h2,h3,by omega,h5⟩,h4⟩
def bI:FSp:=fun ds μ Q=>match ds with
  | [.obj b,.int m]=>∃ (c:Addr) (n:Nat),(Pq μ b c n∧n≤100000000∧1≤m∧m≤50)∧∀ (R:RN) μ',R.Ok→R.r≤(m+1)*R.s→i5 b c (n+20) μ μ'→Q R.toD μ'
  | _=>False
theorem rW:∀ ds μ Q,bI ds μ Q→ds.length=2:=by
  unfold bI
  walk_at "ln"
def jO:STr:=aD (aN (ak L3.rIx (ig (af (TC (.str "still")) (af (TC (.str "step")) (af (TC (.str "swell")) (af (TC (.str "heed")) (af (TC (.str "calm")) (ar))))))) (av ay (af (ah 0) (af (TC (.int 5)) (ar))))) (aw 5)) (aD (c7 (TB (ak rEq (ah 5) (TC (.str "still")))) (aY (aX (af (ah 5) (af (ah 4) (ar))))) (bH)) (aD (aN (ak L3.rIx (ig (af (aX (af (TC (.int 1)) (af (TC (.int 1)) (ar)))) (af (aX (af (TC (.int 1)) (af (TC (.int 2)) (ar)))) (af (aX (af (TC (.int 2)) (af (TC (.int 1)) (ar)))) (af (aX (af (TC (.int 3)) (af (TC (.int 2)) (ar)))) (af (aX (af (TC (.int 1)) (af (TC (.int 3)) (ar)))) (ar))))))) (av ay (af (ah 0) (af (TC (.int 5)) (ar))))) (aw 6)) (aD (c7 (TB (ak rEq (ah 5) (TC (.str "swell")))) (aN (ak L3.rIx (ig (af (aX (af (TC (.int 2)) (af (TC (.int 1)) (ar)))) (af (aX (af (TC (.int 3)) (af (TC (.int 2)) (ar)))) (af (aX (af (TC (.int 4)) (af (TC (.int 3)) (ar)))) (af (aX (af (TC (.int 9)) (af (TC (.int 8)) (ar)))) (ar)))))) (av ay (af (ah 0) (af (TC (.int 4)) (ar))))) (aw 6)) (bH)) (aD (c7 (TB (ak rEq (ah 5) (TC (.str "calm")))) (aD (aN (av ay (af (ah 0) (af (TC (.int 3)) (ar)))) (aw 7)) (aY (aX (af (ah 5) (af (ah 4) (af (ah 6) (af (ah 7) (af (ak aT (ah 7) (av ay (af (ah 0) (af (TC (.int 4)) (ar))))) (af (ah 3) (ar)))))))))) (bH)) (aD (c7 (TB (ak rEq (ah 5) (TC (.str "heed")))) (aY (aX (af (ah 5) (af (ah 4) (af (ah 6) (af (ak L3.rIx (ig (af (aX (af (TC (.int 1)) (af (TC (.int 1)) (ar)))) (af (aX (af (TC (.int 1)) (af (TC (.int 2)) (ar)))) (af (aX (af (TC (.int 1)) (af (TC (.int 4)) (ar)))) (af (aX (af (TC (.int 2)) (af (TC (.int 3)) (ar)))) (ar)))))) (av ay (af (ah 0) (af (TC (.int 4)) (ar))))) (af (ah 3) (ar)))))))) (bH)) (aY (aX (af (ah 5) (af (ah 4) (af (ah 6) (af (ak L3.rIx (ig (af (aX (af (TC (.int 1)) (af (TC (.int 2)) (ar)))) (af (aX (af (TC (.int 1)) (af (TC (.int 3)) (ar)))) (af (aX (af (TC (.int 2)) (af (TC (.int 3)) (ar)))) (af (aX (af (TC (.int 3)) (af (TC (.int 4)) (ar)))) (af (aX (af (TC (.int 7)) (af (TC (.int 8)) (ar)))) (ar))))))) (av ay (af (ah 0) (af (TC (.int 5)) (ar))))) (af (ah 3) (ar)))))))))))))
def m8:STr:=aD (aN (ak aT (TC (.int 1)) (av ay (af (ah 0) (af (ah 1) (ar))))) (aw 2)) (aD (aN (av L3.fF (af (ak aT (ak hV (TC (.int 2)) (ah 2)) (av ay (af (ah 0) (af (TC (.int 2)) (ar))))) (af (TC (.int 2)) (ar)))) (aw 3)) (aD (aN (av L3.fF (af (ak aT (TC (.int 2)) (av ay (af (ah 0) (af (ak iC (ak hV (TC (.int 2)) (ah 2)) (TC (.int 1))) (ar))))) (af (TC (.int 2)) (ar)))) (aw 4)) (jO)))
theorem uN:∀ ds μ Q,bI ds μ Q→m8 { nx:=fun _ μ'=>RT Q .non μ',rt:=RT Q } (ini 8 ds) μ:=by
  intro ds μ Q h
  unfold bI at h
  split at h
  case h_2=>exact h.elim
  rename_i b m
  walk_at "ini"
  unfold m8
  walk_at "go"
  obtain ⟨c,n,⟨hB,hn,m0,m1⟩,k⟩:=h
  refine tq hB (by omega) (by omega) (by omega) fun hi μ1 hi0 hi1 B1=>?_
  walk_at "go"
  refine ⟨.inl (.inr (by unfold S64;omega)),?_⟩
  refine tq B1.p (by omega) (by decide) (by decide) fun e μ2 e0 e1 B2=>?_
  walk_at "go"
  refine ⟨⟨by omega,by decide,by unfold iV;decide⟩,?_⟩
  walk_at "go"
  refine ⟨.inl (.inr (by unfold S64;omega)),?_⟩
  refine tq B2.p (by omega) (by omega) (by omega) fun w μ3 w0 w1 B3=>?_
  walk_at "go"
  refine ⟨⟨by omega,by decide,by unfold iV;decide⟩,?_⟩
  have FT:=MN (lo:=1) (hi:=m+1) (a:=2*(1+hi)+e) (b:=2) (by decide) (by decide) (by omega) (by omega)
  have FW:=MN (lo:=1) (hi:=m+1) (a:=2+w) (b:=2) (by decide) (by decide) (by omega) (by omega)
  have wt:=Kb (a:=2+w) (c:=2*(1+hi)+e) (by omega)
  generalize (2*(1+hi)+e).fdiv (Int.gcd (2*(1+hi)+e) 2)=r at *
  generalize (2:Int).fdiv (Int.gcd (2*(1+hi)+e) 2)=s at *
  generalize (2+w).fdiv (Int.gcd (2+w) 2)=p at *
  generalize (2:Int).fdiv (Int.gcd (2+w) 2)=q at *
  have F1:FrB 1 60 p q:=MW FW (by omega)
  have F2:FrB 1 60 r s:=MW FT (by omega)
  have rs:r≤(m+1)*s:=FT.le
  have ps:p≤(m+1)*q:=FW.le
  have P13:=B1.trans (B2.trans B3)
  unfold jO
  walk_at "go"
  refine tq B3.p (by omega) (by decide) (by decide) fun k1 μ4 k10 k11 B4=>?_
  have al:∀ d∈([.str "still", .str "step", .str "swell", .str "heed", .str "calm"]:List D),∃ w:Wd,d=.str w.str:=bh ⟨.gF,rfl⟩ (bh ⟨.step,rfl⟩ (bh ⟨.jB,rfl⟩ (bh ⟨.kY,rfl⟩ (bh ⟨.calm,rfl⟩ fI))))
  obtain ⟨_,ew,wd,rfl⟩:=dq al k10 k11
  walk_at "go"
  refine eW ew ?_
  walk_at "go"
  simp only[DP,Dz,HY,FC,Ng]
  walk_at "go"
  have P14:=P13.trans B4
  have h15:∀ (A B:Prop),wd≠.gF→B→kIf (decide (wd=.gF)) A B:=fun A B h hB=>by rw[decide_eq_false h];exact hB
  have upl:∀ d∈([.tup [.int 1,.int 1],.tup [.int 1,.int 2],.tup [.int 2,.int 1],.tup [.int 3,.int 2],.tup [.int 1,.int 3]]:List D),Tv d:=by
    repeat' (first | exact fI | refine bh ⟨_,_,rfl,fra (by decide) (by decide) (by decide) (by decide) (by decide)⟩ ?_)
  have swl:∀ d∈([.tup [.int 2,.int 1],.tup [.int 3,.int 2],.tup [.int 4,.int 3],.tup [.int 9,.int 8]]:List D),TY d:=by
    repeat' (first | exact fI | refine bh ⟨_,_,rfl,fra (by decide) (by decide) (by decide) (by decide) (by decide),by decide⟩ ?_)
  have dnl:∀ d∈([.tup [.int 1,.int 2],.tup [.int 1,.int 3],.tup [.int 2,.int 3],.tup [.int 3,.int 4],.tup [.int 7,.int 8]]:List D),Tw d:=by
    repeat' (first | exact fI | refine bh ⟨_,_,rfl,fra (by decide) (by decide) (by decide) (by decide) (by decide),by decide⟩ ?_)
  have gnl:∀ d∈([.tup [.int 1,.int 1],.tup [.int 1,.int 2],.tup [.int 1,.int 4],.tup [.int 2,.int 3]]:List D),Ui d:=by
    repeat' (first | exact fI | refine bh ⟨_,_,rfl,fra (by decide) (by decide) (by decide) (by decide) (by decide)⟩ ?_)
  cases wd with
  | gF=>
    simp only[reduceCtorEq,decide_true,decide_false]
    walk_at "go"
    have R:RN.Ok ⟨.gF,p,q,1,1,1,1,0,0,p,q⟩:=⟨F1,F1,Int.le_refl _,E2 (by decide) (by decide),nofun,E2 (by decide) (by decide),(fun z=>by rcases z with z | z<;>cases z),Int.le_refl 0,Int.le_refl 0,(show (0:Int)≤60 by decide),fun _=>⟨rfl,rfl⟩⟩
    exact ⟨_,.refl _,k _ μ4 R ps (P14.mono (by omega))⟩
  | step=>
    simp only[reduceCtorEq,decide_true,decide_false]
    walk_at "go"
    refine tq B4.p (by omega) (by decide) (by decide) fun k2 μ5 k20 k21 B5=>?_
    obtain ⟨_,eu,x,y,rfl,U⟩:=dq upl k20 k21
    walk_at "go"
    refine eW eu ?_
    walk_at "go"
    refine tq B5.p (by omega) (by decide) (by decide) fun k3 μ6 k30 k31 B6=>?_
    obtain ⟨_,ed,a,b',rfl,G,ab⟩:=dq dnl k30 k31
    walk_at "go"
    refine eW ed ?_
    have R:RN.Ok ⟨.step,p,q,x,y,a,b',0,0,r,s⟩:=⟨F1,F2,wt,U,nofun,G,fun _=>ab,Int.le_refl 0,Int.le_refl 0,(show (0:Int)≤60 by decide),nofun⟩
    exact ⟨_,.refl _,k _ μ6 R rs ((P14.trans (B5.trans B6)).mono (by omega))⟩
  | jB=>
    simp only[reduceCtorEq,decide_true,decide_false]
    walk_at "go"
    refine tq B4.p (by omega) (by decide) (by decide) fun k2 μ5 k20 k21 B5=>?_
    obtain ⟨_,eu,_,_,rfl,_⟩:=dq upl k20 k21
    walk_at "go"
    refine eW eu ?_
    walk_at "go"
    refine tq B5.p (by omega) (by decide) (by decide) fun k4 μ6 k40 k41 B6=>?_
    obtain ⟨_,eu',x,y,rfl,U,xy⟩:=dq swl k40 k41
    walk_at "go"
    refine eW eu' ?_
    walk_at "go"
    refine tq B6.p (by omega) (by decide) (by decide) fun k3 μ7 k30 k31 B7=>?_
    obtain ⟨_,ed,a,b',rfl,G,ab⟩:=dq dnl k30 k31
    walk_at "go"
    refine eW ed ?_
    have R:RN.Ok ⟨.jB,p,q,x,y,a,b',0,0,r,s⟩:=⟨F1,F2,wt,U,fun _=>xy,G,fun _=>ab,Int.le_refl 0,Int.le_refl 0,(show (0:Int)≤60 by decide),nofun⟩
    exact ⟨_,.refl _,k _ μ7 R rs ((P14.trans (B5.trans (B6.trans B7))).mono (by omega))⟩
  | kY=>
    simp only[reduceCtorEq,decide_true,decide_false]
    walk_at "go"
    refine tq B4.p (by omega) (by decide) (by decide) fun k2 μ5 k20 k21 B5=>?_
    obtain ⟨_,eu,x,y,rfl,U⟩:=dq upl k20 k21
    walk_at "go"
    refine eW eu ?_
    walk_at "go"
    refine tq B5.p (by omega) (by decide) (by decide) fun k3 μ6 k30 k31 B6=>?_
    obtain ⟨_,ed,a,b',rfl,G⟩:=dq gnl k30 k31
    walk_at "go"
    refine eW ed ?_
    have R:RN.Ok ⟨.kY,p,q,x,y,a,b',0,0,r,s⟩:=⟨F1,F2,wt,U,nofun,G,(fun z=>by rcases z with z | z<;>cases z),Int.le_refl 0,Int.le_refl 0,(show (0:Int)≤60 by decide),nofun⟩
    exact ⟨_,.refl _,k _ μ6 R rs ((P14.trans (B5.trans B6)).mono (by omega))⟩
  | calm=>
    simp only[reduceCtorEq,decide_true,decide_false]
    walk_at "go"
    refine tq B4.p (by omega) (by decide) (by decide) fun k2 μ5 k20 k21 B5=>?_
    obtain ⟨_,eu,x,y,rfl,U⟩:=dq upl k20 k21
    walk_at "go"
    refine eW eu ?_
    walk_at "go"
    refine tq B5.p (by omega) (by decide) (by decide) fun z μ6 z0 z1 B6=>?_
    walk_at "go"
    refine tq B6.p (by omega) (by decide) (by decide) fun z2 μ7 z20 z21 B7=>?_
    walk_at "go"
    have R:RN.Ok ⟨.calm,p,q,x,y,1,1,z,z+z2,r,s⟩:=⟨F1,F2,wt,U,nofun,E2 (by decide) (by decide),(fun z=>by rcases z with z | z<;>cases z),z0,(by show z≤z+z2;omega),(by show z+z2≤60;omega),nofun⟩
    exact ⟨_,.refl _,k _ μ7 R rs ((P14.trans (B5.trans (B6.trans B7))).mono (by omega))⟩
def wN:List Str:=[Str.ofString "moor", Str.ofString "b", Str.ofString "zzzzzzzz", Str.ofString "a", Str.ofString "fen", Str.ofString "ab"]
def wAt (t i:Nat):Str:=wN.getD ((t+i) % 6) (Str.ofString "")
theorem O0:∀ (t:Fin 6) (k:Fin 7),((List.range k.val).map (wAt t.val)).Nodup:=by decide +kernel
theorem OO:∀ j:Fin 6,PyData.strOk (wN.getD j.val (Str.ofString ""))=true:=by decide +kernel
def dJ:FSp:=fun ds μ Q=>match ds with
  | [.obj b,.int m]=>∃ (c:Addr) (n:Nat),(Pq μ b c n∧n≤100000000∧0≤m∧m≤6)∧∀ (ws:List Wy) μ',(ws.length:Int)=m→(ws.map Wy.nm).Nodup→(∀ w∈ws,w.Ok)→i5 b c (n+100) μ μ'→Q (.tup (wyD ws)) μ'
  | _=>False
theorem rF:∀ ds μ Q,dJ ds μ Q→ds.length=2:=by
  unfold dJ
  walk_at "ln"
def nc:STr:=aD (aN (ig (af (TC (.str "moor")) (af (TC (.str "b")) (af (TC (.str "zzzzzzzz")) (af (TC (.str "a")) (af (TC (.str "fen")) (af (TC (.str "ab")) (ar)))))))) (aw 2)) (aD (aN (av ay (af (ah 0) (af (TC (.int 6)) (ar)))) (aw 3)) (aD (aN (iW (ar)) (aw 4)) (aD (gK (gf (ah 1)) (aw 5) (aD (aN (ak L3.rIx (ah 2) (ak kU (ak aT (ah 3) (ah 5)) (TC (.int 6)))) (aw 6)) (aD (xE 7 8 (af (ak aT (TC (.int 1)) (av ay (af (ah 0) (af (TC (.int 4)) (ar))))) (af (ak aT (TC (.int 1)) (av ay (af (ah 0) (af (TC (.int 9)) (ar))))) (ar)))) (aD (aN (ak L3.rIx (ig (af (TC .non) (af (av ay (af (ah 0) (af (TC (.int 6)) (ar)))) (ar)))) (av ay (af (ah 0) (af (TC (.int 2)) (ar))))) (aw 9)) (dW (iT (ah 4) (aX (af (ah 6) (af (ah 7) (af (ah 8) (af (ah 9) (af (ak L3.rIx (ig (af (TC (.str "line")) (af (TC (.str "turns")) (ar)))) (av ay (af (ah 0) (af (TC (.int 2)) (ar))))) (ar))))))))))))) (aY (av a6 (af (ah 4) (ar)))))))
theorem uI:∀ ds μ Q,dJ ds μ Q→nc { nx:=fun _ μ'=>RT Q .non μ',rt:=RT Q } (ini 10 ds) μ:=by
  intro ds μ Q h
  unfold dJ at h
  split at h
  case h_2=>exact h.elim
  rename_i b m
  walk_at "ini"
  unfold nc
  walk_at "go"
  obtain ⟨c,n,⟨hB,hn,m0,m1⟩,k⟩:=h
  refine tq hB (by omega) (by decide) (by decide) fun t μ1 t0 t1 B1=>?_
  walk_at "go"
  obtain ⟨t,rfl⟩:∃ i:Nat,t=(i:Int):=⟨t.toNat,by omega⟩
  intro p hp
  have np:=B1.p.nb hp
  walk_at "go"
  refine ⟨⟨by omega,by omega⟩,?_⟩
  refine bK (fun r ρ μ'=>∃ (i:Nat) (ws:List Wy) (v5 v6 v7 v8 v9:Option D),r=cL (i:Int) (m.toNat - i)∧i≤m.toNat∧ws.map Wy.nm=(List.range i).map (wAt t)∧(∀ w∈ws,w.Ok)∧ρ=[some (.obj b),some (.int m),some (.ls (wN.map .str)),some (.int t),some (.obj p),v5,v6,v7,v8,v9]∧Pq μ' b c (n+1+5*i)∧(∀ a,a≠b→a≠c→a≠p→μ' a=μ a)∧μ' p=some (.lst (wyD ws))) ?_ ?_ _ _ _ ⟨0,[],_,_,_,_,_,by rw[Nat.sub_zero];rfl,Nat.zero_le _,rfl,(fun _ h=>nomatch h),rfl,B1.p.up np,fun a h1 h2 h3=>by rw[aK h3,B1.o a h1 h2],aB⟩
  · rintro ρ μ' ⟨i,ws,v5,v6,v7,v8,v9,er,hi,en,hw,rfl,P',fr',ep⟩
    have e:i=m.toNat:=by
      have:=congrArg List.length er
      rw[eO] at this
      have:m.toNat - i=0:=this.symm
      omega
    subst e
    have wl:ws.length=m.toNat:=by have:=congrArg List.length en;simpa using this
    have hp':μ p=none:=by rw[← B1.o p np.1 np.2];exact hp
    walk_at "go"
    refine a9 ep (EE hp' np (P'.mono (by omega)) fr' fun μ2 B2=>k ws μ2 (by omega) ?_ hw B2)
    rw[en]
    exact O0 ⟨t,by omega⟩ ⟨m.toNat,by omega⟩
  · rintro d r ρ μ' N ⟨i,ws,v5,v6,v7,v8,v9,er,hi,en,hw,rfl,P',fr',ep⟩ hN
    obtain ⟨j,ej⟩:∃ j,m.toNat - i=j+1:=by
      cases h:m.toNat - i with
      | zero=>rw[h] at er;cases er
      | succ j=>exact ⟨j,rfl⟩
    rw[ej] at er
    have er':d::r=.int (i:Int)::cL ((i+1:Nat):Int) j:=by
      rw[er]
      unfold cL
      rw[List.range_succ_eq_map,List.map_cons];rw[List.map_map]
      congr 1
      refine List.map_congr_left fun x hx=>?_
      show D.int ((i:Int)+((x+1:Nat):Int))=D.int (((i+1:Nat):Int)+(x:Int))
      congr 1
      omega
    injection er' with e1 e2
    subst e1
    subst e2
    have wl:ws.length=i:=by have:=congrArg List.length en;simpa using this
    walk_at "go"
    have g0:=fm0 (a:=(t:Int)+(i:Int)) (n:=6) (by decide)
    have g1:=fm1 (a:=(t:Int)+(i:Int)) (n:=6) (by decide)
    have gm:((t:Int)+(i:Int)).fmod 6=(((t+i) % 6:Nat):Int):=by
      rw[Int.fmod_eq_emod_of_nonneg _ (by decide)];omega
    refine ⟨by decide,?_⟩
    have ix:(t+i) % 6 < (wN.map D.str).length:=Nat.mod_lt _ (by decide)
    have ea:atD (wN.map D.str) (((t:Int)+(i:Int)).fmod 6)=some (.str (wAt t i)):=by
      rw[gm]
      unfold atD L2.atI
      rw[BD,if_pos ix]
      have hw6:(t+i) % 6 < wN.length:=Nat.mod_lt _ (by decide)
      show (wN.map D.str)[(t+i) % 6]? = some (.str (wAt t i))
      rw[List.getElem?_map,List.getElem?_eq_getElem hw6]
      unfold wAt
      rw[List.getD_eq_getElem?_getD,List.getElem?_eq_getElem hw6]
      rfl
    refine (show kO (atD (wN.map D.str) _) _ from eW ea ?_)
    walk_at "go"
    refine tq P' (by omega) (by decide) (by decide) fun pc μ2 pc0 pc1 C2=>?_
    walk_at "go"
    refine tq C2.p (by omega) (by decide) (by decide) fun rm μ3 rm0 rm1 C3=>?_
    walk_at "go"
    refine tq C3.p (by omega) (by decide) (by decide) fun mk μ4 mk0 mk1 C4=>?_
    walk_at "go"
    refine tq C4.p (by omega) (by decide) (by decide) fun k5 μ5 k50 k51 C5=>?_
    obtain ⟨_,e3,o,rfl,ho⟩:=dq (xs:=[.non,.int mk]) (P:=fun d=>∃ o:Option Int,d=cZ o∧∀ i,o=some i→0≤i∧i≤60) (bh ⟨none,rfl,nofun⟩ (bh ⟨some _,rfl,fun i e=>by cases e;omega⟩ fI)) k50 k51
    walk_at "go"
    refine eW e3 ?_
    walk_at "go"
    have C25:=C2.trans (C3.trans (C4.trans C5))
    have ep5:μ5 p=some (.lst (wyD ws)):=by rw[C25.o p np.1 np.2];exact ep
    refine a9 ep5 ?_
    refine tq C5.p (by omega) (by decide) (by decide) fun k6 μ6 k60 k61 C6=>?_
    obtain ⟨_,e4,tn,rfl⟩:=dq (xs:=[.str "line", .str "turns"]) (P:=fun d=>∃ t:Bool,d=.str (vc t)) (bh ⟨false,rfl⟩ (bh ⟨true,rfl⟩ fI)) k60 k61
    walk_at "go"
    refine eW e4 ?_
    have ep6:μ6 p=some (.lst (wyD ws)):=by rw[C6.o p np.1 np.2];exact ep5
    refine a9 ep6 ⟨by rw[List.length_map];omega,hN _ _ ⟨i+1,ws++[⟨wAt t i,1+pc,1+rm,o,tn⟩],_,_,_,_,_,by rw[show m.toNat - (i+1)=j by omega],by omega,?_,?_,rfl,(C6.p.up np).mono (by omega),fun a h1 h2 h3=>by rw[aK h3,C6.o a h1 h2,C25.o a h1 h2,fr' a h1 h2 h3],?_⟩⟩
    · rw[List.map_append,en,List.range_succ,List.map_append];rfl
    · intro x hx
      rcases List.mem_append.mp hx with z | z
      · exact hw x z
      · have:x=⟨wAt t i,1+pc,1+rm,o,tn⟩:=by simpa using z
        subst this
        exact ⟨OO ⟨(t+i) % 6,Nat.mod_lt _ (by decide)⟩,by show 1≤1+pc;omega,by show 1+pc≤20;omega,by show 1≤1+rm;omega,by show 1+rm≤60;omega,ho⟩
    · rw[aB];simp[wyD,Wy.toD]
def dI:FSp:=fun ds μ Q=>match ds with
  | [.obj b,.tup xs]=>∃ (c:Addr) (n:Nat) (ws:List Wy),(Pq μ b c n∧n≤100000000∧xs=wyD ws∧(0 < ws.length∧ws.length≤6)∧∀ w∈ws,w.Ok)∧∀ (rd:List Str) μ',rd≠[]→rd.Sublist (ws.map Wy.nm)→i5 b c (n+10) μ μ'→Q (.tup (rd.map .str)) μ'
  | _=>False
theorem rH:∀ ds μ Q,dI ds μ Q→ds.length=2:=by
  unfold dI
  walk_at "ln"
def nI:STr:=aD (aN (bL (cQ (ah 1)) (aw 0) (TB (ak rEq (av ay (af (ah 1) (af (TC (.int 2)) (ar)))) (TC (.int 0)))) (ak L3.rIx (ah 0) (TC (.int 0))) 1 [0]) (aw 2)) (aD (c7 (TB (ak rEq (ah 2) (ig (ar)))) (aN (ig (af (ak L3.rIx (ak L3.rIx (ah 1) (av ay (af (ah 0) (af (av eL (af (ah 1) (ar))) (ar))))) (TC (.int 0))) (ar))) (aw 2)) (bH)) (aY (av a6 (af (ah 2) (ar)))))
theorem tT:∀ ds μ Q,dI ds μ Q→nI { nx:=fun _ μ'=>RT Q .non μ',rt:=RT Q } (ini 3 ds) μ:=by
  intro ds μ Q h
  unfold dI at h
  split at h
  case h_2=>exact h.elim
  rename_i b xs
  walk_at "ini"
  unfold nI
  walk_at "go"
  obtain ⟨c,n,ws,⟨hB,hn,rfl,⟨w0,w1⟩,hw⟩,k⟩:=h
  refine Ln hB (fun r zs j=>∃ (rd:List Str) (a e:List Wy),zs=rd.map .str∧r=wyD e∧a++e=ws∧rd.Sublist (a.map Wy.nm)∧j=n+a.length) ⟨[],[],ws,rfl,rfl,rfl,List.Sublist.refl _,rfl⟩ (by simp;omega) ?_ ?_
  · rintro d r zs μ' j P' _ ⟨rd,a,e,rfl,er,ea,hs,ej⟩ N hN
    cases e with
    | nil=>cases er
    | cons x e=>
    cases er
    have al:a.length+(e.length+1)=ws.length:=by rw[← ea];simp
    walk_at "go"
    refine tq P' (by omega) (by decide) (by decide) fun k1 μ2 k10 k11 P2=>?_
    walk_at "go"
    refine kif (fun _=>hN (some (.str x.nm)) μ2 _ ⟨rd++[x.nm],a++[x],e,by simp,rfl,by simp[ea],?_,?_⟩ P2) fun _=>hN none μ2 _ ⟨rd,a++[x],e,by simp,rfl,by simp[ea],?_,?_⟩ P2
    · rw[List.map_append];exact sub_snoc hs _
    · have:=@List.length_append _ rd [x.nm];simp;omega
    · rw[List.map_append];exact hs.trans (List.sublist_append_left _ _)
    · simp[List.length_append];omega
  · rintro zs μ1 j ⟨rd,a,e,rfl,er,ea,hs,ej⟩ P1
    have:e=[]:=by cases e with | nil=>rfl | cons=>cases er
    subst this
    rw[List.append_nil] at ea
    subst ea
    have ok:okD 40 (.ls (rd.map .str))=true:=by
      show cS 39 (rd.map .str)=true
      have all:∀ z∈rd,PyData.strOk z=true:=fun z hz=>by
        obtain ⟨w,h1,rfl⟩:=List.mem_map.mp (hs.subset hz)
        exact (hw w h1).n
      clear hs
      induction rd with
      | nil=>rfl
      | cons z r ih=>
        show (PyData.strOk z&&cS 39 (r.map .str))=true
        rw[all z List.mem_cons_self,ih fun y hy=>all y (List.mem_cons_of_mem _ hy)];rfl
    walk_at "go"
    refine ⟨ok,?_⟩
    cases rd with
    | nil=>
      refine (show kIf true _ _ from ?_)
      walk_at "go"
      rw[List.length_map]
      refine tq P1.p (by omega) (by omega) (by omega) fun k2 μ2 k20 k21 P2=>?_
      have hc:k2.toNat < a.length:=by omega
      walk_at "go"
      rw[Kr k20,List.getElem?_map,List.getElem?_eq_getElem hc]
      simp only[Option.map_some]
      walk_at "go"
      exact ⟨_,.refl _,k [a[k2.toNat].nm] μ2 (by simp) (List.singleton_sublist.mpr (List.mem_map.mpr ⟨_,List.getElem_mem hc,rfl⟩)) ((P1.trans P2).mono (by omega))⟩
    | cons z r=>
      refine (show kIf false _ _ from ?_)
      walk_at "go"
      exact ⟨_,.refl _,k (z::r) μ1 (by simp) hs (P1.mono (by omega))⟩
def sN:List Str:=[Str.ofString "a", Str.ofString "ab", Str.ofString "b", Str.ofString "moor", Str.ofString "q", Str.ofString "sun", Str.ofString "zz", Str.ofString "zzzzzzzz"]
theorem NO:sN.Pairwise fun a b=>ltS a b=true:=by decide +kernel
theorem R4:∀ x∈sN,PyData.strOk x=true:=by decide +kernel
def dR:FSp:=fun ds μ Q=>match ds with
  | [.obj b]=>∃ (c:Addr) (n:Nat),(Pq μ b c n∧n≤10000000)∧∀ (p:Pn) μ',p.Ok 7→i5 b c (n+1000) μ μ'→Q p.toD μ'
  | _=>False
theorem rL:∀ ds μ Q,dR ds μ Q→ds.length=1:=by
  unfold dR
  walk_at "ln"
def nD:STr:=aD (aN (ak rEq (av ay (af (ah 0) (af (TC (.int 8)) (ar)))) (TC (.int 3))) (aw 1)) (aD (aN (av dJ (af (ah 0) (af (jt (TB (ah 1)) (ak aT (TC (.int 5)) (av ay (af (ah 0) (af (TC (.int 2)) (ar))))) (ak aT (TC (.int 1)) (av ay (af (ah 0) (af (TC (.int 3)) (ar)))))) (ar)))) (aw 2)) (aD (aN (jt (TB (ah 1)) (ak aT (TC (.int 7)) (av ay (af (ah 0) (af (TC (.int 2)) (ar))))) (ak L3.rIx (ig (af (TC (.int 1)) (af (TC (.int 2)) (af (TC (.int 1)) (af (TC (.int 3)) (af (TC (.int 2)) (af (TC (.int 0)) (ar)))))))) (av ay (af (ah 0) (af (TC (.int 6)) (ar)))))) (aw 3)) (aD (aN (ig (af (TC (.str "a")) (af (TC (.str "ab")) (af (TC (.str "b")) (af (TC (.str "moor")) (af (TC (.str "q")) (af (TC (.str "sun")) (af (TC (.str "zz")) (af (TC (.str "zzzzzzzz")) (ar)))))))))) (aw 4)) (aD (aN (ak L3.rIx (ig (af (TSl (ah 4) (ONo) (gh (ah 3))) (af (TSl (ah 4) (gh (ak iC (TC (.int 8)) (ah 3))) (ONo)) (ar)))) (av ay (af (ah 0) (af (TC (.int 2)) (ar))))) (aw 4)) (aD (aN (iW (ar)) (aw 5)) (aD (gK (cQ (ah 4)) (aw 6) (aD (aN (ak L3.rIx (ig (af (TC (.int 0)) (af (TC (.int 0)) (af (av ay (af (ah 0) (af (TC (.int 4)) (ar)))) (af (av ay (af (ah 0) (af (TC (.int 9)) (ar)))) (ar)))))) (av ay (af (ah 0) (af (TC (.int 4)) (ar))))) (aw 7)) (aD (aN (ak L3.rIx (ig (af (TC .non) (af (TC .non) (af (TC .non) (af (av ay (af (ah 0) (af (TC (.int 15)) (ar)))) (ar)))))) (av ay (af (ah 0) (af (TC (.int 4)) (ar))))) (aw 8)) (aD (aN (av bI (af (ah 0) (af (jt (TB (ah 1)) (TC (.int 3)) (TC (.int 6))) (ar)))) (aw 9)) (dW (iT (ah 5) (aX (af (ah 6) (af (av dI (af (ah 0) (af (ah 2) (ar)))) (af (ak aT (TC (.int 1)) (av ay (af (ah 0) (af (TC (.int 5)) (ar))))) (af (ah 7) (af (ah 8) (af (ah 9) (ar)))))))))))))) (aY (aX (af (ak aT (TC (.int 1)) (av ay (af (ah 0) (af (TC (.int 3)) (ar))))) (af (ah 2) (af (av a6 (af (ah 5) (ar))) (ar))))))))))))
theorem uv:∀ ds μ Q,dR ds μ Q→nD { nx:=fun _ μ'=>RT Q .non μ',rt:=RT Q } (ini 10 ds) μ:=by
  intro ds μ Q h
  unfold dR at h
  split at h
  case h_2=>exact h.elim
  rename_i b
  walk_at "ini"
  unfold nD
  walk_at "go"
  obtain ⟨c,n,⟨hB,hn⟩,k⟩:=h
  refine tq hB (by omega) (by decide) (by decide) fun w μ1 w0 w1 B1=>?_
  walk_at "go"
  generalize hwd:decide (w=3)=wide
  have h1:∀ K:DK,(∀ (x:Int) μ',1≤x→x≤6→i5 b c (n+2) μ μ'→K (.int x) μ')→kIf wide (dz ay [.obj b,.int 2] μ1 fun y μ2=>aT (.int 5) y μ2 K) (dz ay [.obj b,.int 3] μ1 fun y μ2=>aT (.int 1) y μ2 K):=fun K hK=>by
    cases wide with
    | true=>
      refine (show dz ay [.obj b,.int 2] μ1 _ from tq B1.p (by omega) (by decide) (by decide) fun x μ2 x0 x1 B2=>?_)
      exact hK _ μ2 (by omega) (by omega) (B1.trans B2)
    | false=>
      refine (show dz ay [.obj b,.int 3] μ1 _ from tq B1.p (by omega) (by decide) (by decide) fun x μ2 x0 x1 B2=>?_)
      exact hK _ μ2 (by omega) (by omega) (B1.trans B2)
  refine h1 _ fun nw μ2 nw0 nw1 B2=>?_
  refine ⟨c,n+2,⟨B2.p,by omega,by omega,by omega⟩,fun ws μ3 wl wd hw B3=>?_⟩
  walk_at "go"
  have h2:∀ K:DK,(∀ (x:Nat) μ',x≤8→i5 b c (n+103) μ μ'→K (.int x) μ')→kIf wide (dz ay [.obj b,.int 2] μ3 fun y μ2=>aT (.int 7) y μ2 K) (dz ay [.obj b,.int 6] μ3 fun y μ2=>L3.rIx (.ls [.int 1,.int 2,.int 1,.int 3,.int 2,.int 0]) y μ2 K):=fun K hK=>by
    have B23:=B2.trans B3
    cases wide with
    | true=>
      refine (show dz ay [.obj b,.int 2] μ3 _ from tq B3.p (by omega) (by decide) (by decide) fun x μ4 x0 x1 B4=>?_)
      obtain ⟨j,ej⟩:∃ j:Nat,7+x=(j:Int):=⟨(7+x).toNat,by omega⟩
      show K (.int (7+x)) μ4
      rw[ej]
      exact hK j μ4 (by omega) (B23.trans B4)
    | false=>
      refine (show dz ay [.obj b,.int 6] μ3 _ from tq B3.p (by omega) (by decide) (by decide) fun x μ4 x0 x1 B4=>?_)
      obtain ⟨_,e1,i,rfl,i0,i1⟩:=dq (xs:=[.int 1,.int 2,.int 1,.int 3,.int 2,.int 0]) (P:=IsI 0 8) (by repeat' (first | exact fI | refine bh ⟨_,rfl,by decide,by decide⟩ ?_)) x0 x1
      obtain ⟨j,rfl⟩:∃ j:Nat,i=(j:Int):=⟨i.toNat,by omega⟩
      walk_at "go"
      refine eW e1 ?_
      exact hK j μ4 (by omega) (B23.trans B4)
  refine h2 _ fun mn μ4 mn8 B4=>?_
  walk_at "go"
  refine tq B4.p (by omega) (by decide) (by decide) fun s1 μ5 s10 s11 B5=>?_
  have SV:∀ d∈([.ls (cutD (sN.map D.str) none (some (mn:Int))),.ls (cutD (sN.map D.str) (some (8 - (mn:Int))) none)]:List D),∃ ns:List Str,d=.ls (ns.map .str)∧ns.Sublist sN∧ns.length≤8:=by
    refine bh ⟨sN.take mn,by rw[uY,List.map_take],List.take_sublist _ _,by rw[List.length_take];omega⟩ (bh ⟨sN.drop (8 - mn),?_,List.drop_sublist _ _,by rw[List.length_drop];simp[sN]⟩ fI)
    rw[show (8:Int) - (mn:Int)=((8 - mn:Nat):Int) by omega,lZ,List.map_drop]
  obtain ⟨_,e2,sn,rfl,ssb,sl⟩:=dq SV s10 s11
  walk_at "go"
  refine (show kO (atD [.ls (cutD (sN.map D.str) none (some (mn:Int))),.ls (cutD (sN.map D.str) (some (8 - (mn:Int))) none)] s1) _ from eW e2 ?_)
  intro p hp
  have np:=B5.p.nb hp
  walk_at "go"
  have B15:=B4.trans B5
  have hp':μ p=none:=by rw[← B15.o p np.1 np.2];exact hp
  refine bK (fun r ρ μ'=>∃ (xs:List Sn) (rs:List Str) (v6 v7 v8 v9:Option D),r=rs.map .str∧xs.map Sn.nm++rs=sn∧(∀ x∈xs,x.Ok (ws.map Wy.nm) 7)∧ρ=[some (.obj b),some (.bl wide),some (.tup (wyD ws)),some (.int mn),some (.ls (sn.map .str)),some (.obj p),v6,v7,v8,v9]∧Pq μ' b c (n+104+50*xs.length)∧(∀ a,a≠b→a≠c→a≠p→μ' a=μ a)∧μ' p=some (.lst (snD xs))) ?_ ?_ _ _ _ ⟨[],sn,_,_,_,_,rfl,rfl,(fun _ h=>nomatch h),rfl,B5.p.up np,fun a h1 h2 h3=>by rw[aK h3,B15.o a h1 h2],aB⟩
  · rintro ρ μ' ⟨xs,rs,v6,v7,v8,v9,er,es,hx,rfl,P',fr',ep⟩
    have:rs=[]:=by cases rs with | nil=>rfl | cons=>cases er
    subst this
    rw[List.append_nil] at es
    have xl:xs.length=sn.length:=by rw[← es,List.length_map]
    walk_at "go"
    refine tq P' (by omega) (by decide) (by decide) fun gg μ6 gg0 gg1 C6=>?_
    walk_at "go"
    have ep6:μ6 p=some (.lst (snD xs)):=by rw[C6.o p np.1 np.2];exact ep
    refine a9 ep6 (EE hp' np (C6.p.mono (by omega)) (fun a h1 h2 h3=>by rw[C6.o a h1 h2,fr' a h1 h2 h3]) fun μ2 B2'=>k ⟨1+gg,ws,xs⟩ μ2 ?_ B2')
    refine ⟨⟨by show 1≤1+gg;omega,by show 1+gg≤60;omega⟩,by show 0 < ws.length;omega,by show ws.length≤6;omega,wd,hw,by show xs.length≤8;omega,?_,hx⟩
    show (xs.map Sn.nm).Pairwise _
    rw[es]
    exact NO.sublist ssb
  · rintro d r ρ μ' N ⟨xs,rs,v6,v7,v8,v9,er,es,hx,rfl,P',fr',ep⟩ hN
    cases rs with
    | nil=>cases er
    | cons z rs=>
    cases er
    have hz:z∈sn:=by rw[← es];simp
    have xl:xs.length+(rs.length+1)=sn.length:=by rw[← es];simp
    walk_at "go"
    refine tq P' (by omega) (by decide) (by decide) fun a1 μ6 a10 a11 C6=>?_
    walk_at "go"
    refine tq C6.p (by omega) (by decide) (by decide) fun a2 μ7 a20 a21 C7=>?_
    walk_at "go"
    refine tq C7.p (by omega) (by decide) (by decide) fun a3 μ8 a30 a31 C8=>?_
    obtain ⟨_,e3,bg,rfl,bg0,bg1⟩:=dq (xs:=[.int 0,.int 0,.int a1,.int a2]) (P:=IsI 0 1000000) (bh ⟨_,rfl,by decide,by decide⟩ (bh ⟨_,rfl,by decide,by decide⟩ (bh ⟨_,rfl,by omega,by omega⟩ (bh ⟨_,rfl,by omega,by omega⟩ fI)))) a30 a31
    walk_at "go"
    refine eW e3 ?_
    walk_at "go"
    refine tq C8.p (by omega) (by decide) (by decide) fun a4 μ9 a40 a41 C9=>?_
    walk_at "go"
    refine tq C9.p (by omega) (by decide) (by decide) fun a5 μ10 a50 a51 C10=>?_
    obtain ⟨_,e4,o,rfl,ho⟩:=dq (xs:=[.non,.non,.non,.int a4]) (P:=fun d=>∃ o:Option Int,d=cZ o∧∀ i,o=some i→0≤i∧i≤1000000) (bh ⟨none,rfl,nofun⟩ (bh ⟨none,rfl,nofun⟩ (bh ⟨none,rfl,nofun⟩ (bh ⟨some _,rfl,fun i e=>by cases e;omega⟩ fI)))) a50 a51
    walk_at "go"
    refine eW e4 ?_
    have C1:=C6.trans (C7.trans (C8.trans (C9.trans C10)))
    have hr:∀ K:DK,(∀ (R:RN) μ',R.Ok→R.r≤7*R.s→i5 b c (n+104+50*xs.length+5+20) μ10 μ'→K R.toD μ')→kIf wide (dz bI [.obj b,.int 3] μ10 K) (dz bI [.obj b,.int 6] μ10 K):=fun K hK=>by
      cases wide with
      | true=>
        refine (show dz bI [.obj b,.int 3] μ10 K from ⟨c,_,⟨C10.p,by omega,by decide,by decide⟩,fun R μ' R1 R2 C=>hK R μ' R1 ?_ C⟩)
        have:=R1.t.q0
        omega
      | false=>exact (show dz bI [.obj b,.int 6] μ10 K from ⟨c,_,⟨C10.p,by omega,by decide,by decide⟩,fun R μ' R1 R2 C=>hK R μ' R1 R2 C⟩)
    walk_at "go"
    refine hr _ fun R μ11 R1 R2 C11=>?_
    have D11:=C1.trans C11
    have ep11:μ11 p=some (.lst (snD xs)):=by rw[D11.o p np.1 np.2];exact ep
    refine a9 ep11 ?_
    refine ⟨c,_,ws,⟨C11.p,by omega,rfl,⟨by omega,by omega⟩,hw⟩,fun rd μ12 rd0 rds C12=>?_⟩
    refine tq C12.p (by omega) (by decide) (by decide) fun bt μ13 bt0 bt1 C13=>?_
    walk_at "go"
    have D13:=D11.trans (C12.trans C13)
    have ep13:μ13 p=some (.lst (snD xs)):=by rw[D13.o p np.1 np.2];exact ep
    refine a9 ep13 ⟨by rw[List.length_map];omega,hN _ _ ⟨xs++[⟨z,rd,1+bt,bg,o,R⟩],rs,_,_,_,_,rfl,by rw[← es];simp,?_,rfl,(C13.p.up np).mono (by rw[List.length_append];simp;omega),fun a h1 h2 h3=>by rw[aK h3,D13.o a h1 h2,fr' a h1 h2 h3],?_⟩⟩
    · intro x hx'
      rcases List.mem_append.mp hx' with h | h
      · exact hx x h
      · rw[List.mem_singleton.mp h]
        exact ⟨R4 z (ssb.subset hz),rd0,rds,by show 1≤1+bt;omega,by show 1+bt≤8;omega,bg0,bg1,ho,R1,R2⟩
    · rw[aB];simp[snD,Sn.toD]
abbrev df:Nat→FSp:=L3.j7
abbrev fk:FSp:=L3.BK
def jT (sp_self:FSp):STr:=aD (c7 (TB (av (Co ["tuple", "list"]) (af (ah 1) (af (aX (af (TC (.ty "tuple")) (af (TC (.ty "list")) (ar)))) (ar))))) (aD (c7 (TOr (TB (ak rNe (TUn (gG "tuple") (ah 0)) (TUn (gG "tuple") (ah 1)))) (TB (ak rNe (TUn (gG "list") (ah 0)) (TUn (gG "list") (ah 1))))) (aY (TC (.bl false))) (bH)) (aY (kg (ak rEq (av eL (af (ah 0) (ar))) (av eL (af (ah 1) (ar)))) (av Lq (af (bL (k9 (af (ah 0) (af (ah 1) (ar)))) (fA [0,1]) (dM) (av sp_self (af (ah 0) (af (ah 1) (ar)))) 2 []) (ar)))))) (bH)) (aD (c7 (TB (ak rIs (ah 1) (TC .non))) (aY (ak rIs (ah 0) (TC .non))) (bH)) (aD (c7 (TB (TUn (gG "str") (ah 1))) (aY (kg (TUn (gG "str") (ah 0)) (ak rEq (ah 0) (ah 1)))) (bH)) (aD (c7 (TOr (TB (TUn (gG "bool") (ah 1))) (TB (TUn (gG "bool") (ah 0)))) (aY (kg (TUn (gG "bool") (ah 1)) (kg (TUn (gG "bool") (ah 0)) (ak rEq (ah 0) (ah 1))))) (bH)) (aY (kg (TUn (gG "int") (ah 0)) (ak rEq (ah 0) (ah 1)))))))
theorem oq:∀ n ds μ Q,df n ds μ Q→ds.length=2:=L3.AG
theorem pU (n:Nat):∀ ds μ Q,df (n+1) ds μ Q→jT (df n) { nx:=fun _ μ'=>RT Q .non μ',rt:=RT Q } (ini 2 ds) μ:=by
  intro ds μ Q h
  have h2:∃ x,ds=[x,x]∧pl n x=true∧Q (.bl true) μ:=by
    have h:jo n ds μ Q:=h
    unfold jo at h
    split at h
    · obtain ⟨⟨rfl,hp⟩,k⟩:=h;exact ⟨_,rfl,hp,k⟩
    · exact h.elim
  obtain ⟨x,rfl,hp,k⟩:=h2
  clear h
  walk_at "ini"
  unfold jT
  have fin:RT Q (.bl true) μ:=⟨_,.refl _,k⟩
  cases x with
  | non=>
    walk_at "go"
    refine ⟨by decide,?_⟩
    show kIf false _ _
    walk_at "go"
    exact fin
  | int i=>
    walk_at "go"
    refine ⟨by decide,?_⟩
    show kIf false _ _
    walk_at "go"
    show kIf false _ _
    walk_at "go"
    exact fin
  | str s=>
    walk_at "go"
    refine ⟨by decide,?_⟩
    show kIf false _ _
    walk_at "go"
    have hs:PyData.strOk s=true:=by cases n<;>simpa[pl] using hp
    show PyData.strOk s=true∧RT Q (.bl true) μ
    exact ⟨hs,fin⟩
  | tup ds=>
    cases n with
    | zero=>simp[pl] at hp
    | succ n=>
    simp only[pl,Bool.and_eq_true,decide_eq_true_eq] at hp
    walk_at "go"
    refine ⟨by decide,?_⟩
    show kIf true _ _
    walk_at "go"
    show kIf false _ (kIf false _ _)
    walk_at "go"
    exact Cq hp.1 hp.2 fin
  | ls ds=>
    cases n with
    | zero=>simp[pl] at hp
    | succ n=>
    simp only[pl,Bool.and_eq_true,decide_eq_true_eq] at hp
    walk_at "go"
    refine ⟨by decide,?_⟩
    show kIf true _ _
    walk_at "go"
    show kIf false _ (kIf false _ _)
    walk_at "go"
    exact Cq hp.1 hp.2 fin
  | _=>cases n<;>simp[pl] at hp
theorem N3 (i0 i1 i2:Nat)(x:Ws)(ρ:ST)(μ:Mu)(k:ST→Mu→Prop):fA [i0,i1,i2] x.toD ρ μ k=fA [i0,i1,i2] (.tup [.tup (ltD x.cm),.tup (ltD x.st),.str x.la]) ρ μ k:=propext Iff.rfl
def cv:FSp:=fun ds μ Q=>match ds with
  | [d,.obj q]=>∃ (g:Int) (st:St') (f:Str→Int) (tab:List (L2.Key×D)),(d=st.toD g∧StL st∧μ q=some (.dct tab)∧∀ n∈st.ss.map Ss.nm,bo tab (.inr n)=some (.int (f n)))∧Q ((st.mv f).toD g) μ
  | _=>False
theorem pk:∀ ds μ Q,cv ds μ Q→ds.length=2:=by
  unfold cv
  walk_at "ln"
def lG:STr:=aD (aN (iW (ar)) (aw 2)) (aD (gK (cQ (ak L3.rIx (ah 0) (TC (.int 0)))) (fA [3,4,5]) (aD (aN (iW (ar)) (aw 6)) (aD (gK (cQ (aX (af (ah 3) (af (ah 4) (ar))))) (aw 7) (dW (iT (ah 6) (av a6 (af (bL (cQ (ah 7)) (aw 0) (dM) (ak aT (aX (af (ak L3.rIx (ah 0) (TC (.int 0))) (af (ak aT (ak L3.rIx (ah 0) (TC (.int 1))) (dU (ah 1) (ak L3.rIx (ah 0) (TC (.int 0))))) (ar)))) (TSl (ah 0) (gh (TC (.int 2))) (ONo))) 1 [1]) (ar)))))) (dW (iT (ah 2) (aX (af (ak L3.rIx (ah 6) (TC (.int 0))) (af (ak L3.rIx (ah 6) (TC (.int 1))) (af (ah 5) (ar)))))))))) (aD (aN (iW (ar)) (aw 8)) (aD (gK (cQ (ak L3.rIx (ah 0) (TC (.int 1)))) (aw 9) (aD (aN (dU (ah 1) (ak L3.rIx (ah 9) (TC (.int 0)))) (aw 10)) (aD (aN (av a6 (af (bL (cQ (ak L3.rIx (ah 9) (TC (.int 6)))) (aw 0) (dM) (ak aT (ah 0) (ah 1)) 1 [10]) (ar))) (aw 11)) (aD (aN (av a6 (af (bL (cQ (ak L3.rIx (ah 9) (TC (.int 7)))) (aw 0) (dM) (ak aT (ah 0) (ah 1)) 1 [10]) (ar))) (aw 12)) (dW (iT (ah 8) (ak aT (ak aT (TSl (ah 9) (ONo) (gh (TC (.int 4)))) (aX (af (ak aT (ak L3.rIx (ah 9) (TC (.int 4))) (ah 10)) (af (ak L3.rIx (ah 9) (TC (.int 5))) (af (ah 11) (af (ah 12) (ar))))))) (TSl (ah 9) (gh (TC (.int 8))) (ONo))))))))) (aY (aX (af (av a6 (af (ah 2) (ar))) (af (av a6 (af (ah 8) (ar))) (ar))))))))
theorem rQ:∀ ds μ Q,cv ds μ Q→lG { nx:=fun _ μ'=>RT Q .non μ',rt:=RT Q } (ini 13 ds) μ:=by
  intro ds μ Q h
  unfold cv at h
  split at h
  case h_2=>exact h.elim
  rename_i d q
  walk_at "ini"
  unfold lG
  walk_at "go"
  obtain ⟨g,st,f,tab,⟨rfl,S,eq,T⟩,k⟩:=h
  have z1:=S.z1
  intro p hp
  have pq:p≠q:=fun z=>by subst z;rw[eq] at hp;cases hp
  walk_at "go"
  refine bK (fun r ρ μ'=>∃ (dn rs:List Ws) (v3 v4 v5 v6 v7:Option D),r=wsD rs∧dn++rs=st.ws∧ρ=[some (st.toD g),some (.obj q),some (.obj p),v3,v4,v5,v6,v7,none,none,none,none,none]∧Sub μ μ'∧μ' p=some (.lst (wsD (dn.map (Ws.mv f))))) ?_ ?_ _ _ _ ⟨[],st.ws,_,_,_,_,_,rfl,rfl,rfl,Sub.new hp,aB⟩
  · rintro ρ μ1 ⟨dn,rs,v3,v4,v5,v6,v7,er,es,rfl,sb,ep⟩
    cases rs with
    | cons _ _=>cases er
    | nil=>
    rw[List.append_nil] at es
    subst es
    walk_at "go"
    intro s hs
    have sp:s≠p:=fun z=>by subst z;rw[ep] at hs;cases hs
    walk_at "go"
    refine bK (fun r ρ μ'=>∃ (dn' rs':List Ss) (v9 v10 v11 v12:Option D),r=ssD g rs'∧dn'++rs'=st.ss∧ρ=[some (st.toD g),some (.obj q),some (.obj p),v3,v4,v5,v6,v7,some (.obj s),v9,v10,v11,v12]∧μ'=up μ1 s (.lst (ssD g (dn'.map (Ss.mv f))))) ?_ ?_ _ _ _ ⟨[],st.ss,_,_,_,_,rfl,rfl,rfl,rfl⟩
    · rintro ρ μ' ⟨dn',rs',v9,v10,v11,v12,er,es,rfl,rfl⟩
      cases rs' with
      | cons _ _=>cases er
      | nil=>
      rw[List.append_nil] at es
      subst es
      walk_at "go"
      refine a9 (by rw[aK (Ne.symm sp)];exact ep) ?_
      walk_at "go"
      refine ⟨μ,fun a o h=>?_,?_⟩
      · have h0:=sb a o h
        rw[aK (fun z=>by subst z;rw[hs] at h0;cases h0)];exact h0
      · unfold St'.toD St'.mv at k
        exact k
    · rintro d r ρ μ' N ⟨dn',rs',v9,v10,v11,v12,er,es,rfl,rfl⟩ hN
      cases rs' with
      | nil=>cases er
      | cons x rs'=>
      cases er
      have hx:x∈st.ss:=by rw[← es];simp
      have z:=S.z3 x hx
      have dl:dn'.length+(rs'.length+1)=st.ss.length:=by rw[← es];simp
      have qs:q≠s:=fun z=>by subst z;have:=sb q _ eq;rw[hs] at this;cases this
      walk_at "go"
      refine iI (by rw[aK qs];exact sb q _ eq) ?_
      rw[T x.nm (List.mem_map.mpr ⟨x,hx,rfl⟩)]
      walk_at "go"
      refine bf x.ag .int (fun i=>.int (i+f x.nm)) rfl (by omega) (fun i hi μ' _ N m=>?_) ?_
      · walk_at "go"
        exact m
      walk_at "go"
      refine bf x.lo .int (fun i=>.int (i+f x.nm)) rfl (by omega) (fun i hi μ' _ N m=>?_) ?_
      · walk_at "go"
        exact m
      walk_at "go"
      simp only[↓rZ,lu,oO]
      walk_at "go"
      try simp only[↓rZ,lu,oO]
      walk_at "go"
      refine (show 4+4≤1000000∧8+3≤1000000∧(ssD g (dn'.map (Ss.mv f))).length < 1000000∧_ from ⟨by decide,by decide,by rw[List.length_map,List.length_map];omega,hN _ _ ⟨dn'++[x],rs',_,_,_,_,rfl,by rw[← es];simp,rfl,?_⟩⟩)
      rw[List.map_append]
      simp[ssD,Ss.toD,Ss.mv]
      rfl
  · rintro d r ρ μ1 N ⟨dn,rs,v3,v4,v5,v6,v7,er,es,rfl,sb,ep⟩ hN
    cases rs with
    | nil=>cases er
    | cons w rs=>
    cases er
    have hw:w∈st.ws:=by rw[← es];simp
    have z:=S.z2 w hw
    have dl:dn.length+(rs.length+1)=st.ws.length:=by rw[← es];simp
    have one:∀ (ls:List Lt),(∀ l∈ls,l∈w.cm++w.st)→ls.length≤10000→∀ (μ2:Mu) (K:DK) (v0:Option D),μ2 q=some (.dct tab)→K (.ls ((ls.map (Lt.mv f)).map Lt.toD)) μ2→qP (aw 0) dM (ak aT (aX (af (ak L3.rIx (ah 0) (TC (.int 0))) (af (ak aT (ak L3.rIx (ah 0) (TC (.int 1))) (dU (ah 1) (ak L3.rIx (ah 0) (TC (.int 0))))) ar))) (TSl (ah 0) (gh (TC (.int 2))) ONo)) [none,some (.obj q)] (ltD ls) μ2 K:=by
      intro ls hl ll μ2 K v0 eq2 hK
      refine bf ls Lt.toD (fun l=>(l.mv f).toD) rfl (by omega) (fun l hl' μ3 sb3 N m=>?_) ?_
      · walk_at "go"
        refine iI (sb3 q _ eq2) ?_
        rw[T l.nm (S.lt w hw l (hl l hl'))]
        walk_at "go"
        simp only[↓Gs,GK]
        walk_at "go"
        refine (show 2+3≤1000000∧_ from ⟨by decide,m⟩)
      · rw[List.map_map] at hK
        exact hK
    rw[N3]
    walk_at "go"
    intro r hr
    have rp:r≠p:=fun z=>by subst z;rw[ep] at hr;cases hr
    have rq:r≠q:=fun z=>by subst z;have:=sb r _ eq;rw[hr] at this;cases this
    have eq':∀ ob:MO,up μ1 r ob q=some (.dct tab):=fun ob=>by rw[aK (Ne.symm rq)];exact sb q _ eq
    have ep':∀ ob:MO,up μ1 r ob p=some (.lst (wsD (dn.map (Ws.mv f)))):=fun ob=>by rw[aK (Ne.symm rp)];exact ep
    walk_at "go"
    simp only[forR]
    walk_at "go"
    refine one w.cm (fun l h=>List.mem_append_left _ h) z.1 _ _ none (eq' _) ?_
    walk_at "go"
    refine ⟨by simp,?_⟩
    refine one w.st (fun l h=>List.mem_append_right _ h) z.2 _ _ none (eq' _) ?_
    walk_at "go"
    refine ⟨by simp,?_⟩
    refine a9 (ep' _) ?_
    walk_at "go"
    refine a9 (ep' _) ⟨by rw[List.length_map,List.length_map];omega,hN _ _ ⟨dn++[w],rs,_,_,_,_,_,rfl,by rw[← es];simp,rfl,fun a o h=>?_,?_⟩⟩
    · have h0:=sb a o h
      have h1:a≠r:=fun z=>by subst z;rw[hr] at h0;cases h0
      have h2:a≠p:=fun z=>by subst z;rw[hp] at h;cases h
      rw[aK h2,aK h1];exact h0
    · rw[aB,List.map_append]
      simp[wsD,Ws.toD,Ws.mv]
abbrev fJ:FSp:=L3.fJ
theorem uu:∀ ds μ Q,fJ ds μ Q→ds.length=1:=L3.uu
def FY:STr:=aD (aN (av eT (af (ah 0) (ar))) (aw 1)) (aD (aN (av dR (af (ah 1) (ar))) (aw 2)) (aD (aN (ak L3.rIx (av me (af (ah 2) (af (av ay (af (ah 1) (af (TC (.int 31)) (ar)))) (ar)))) (TC (.int 0))) (aw 3)) (aD (aN (Bv) (aw 4)) (aD (gK (cQ (ak L3.rIx (ah 3) (TC (.int 1)))) (aw 5) (aD (aN (ig (af (av ay (af (ah 1) (af (TC (.int 9)) (ar)))) (af (ak iC (TC (.int 0)) (ak L3.rIx (ah 5) (TC (.int 4)))) (af (ak hV (av ay (af (ah 1) (af (ak Cz (TC (.int 10)) (TC (.int 9))) (ar)))) (ak Cz (TC (.int 10)) (TC (.int 9)))) (ar))))) (aw 6)) (kJ (ah 4) (ak L3.rIx (ah 5) (TC (.int 0))) (ak L3.rIx (ah 6) (av ay (af (ah 1) (af (TC (.int 3)) (ar)))))))) (aD (aN (av cv (af (ah 3) (af (ah 4) (ar)))) (aw 7)) (aD (gK (gf (TC (.int 10))) (aw 8) (aD (aN (av L3.dh (af (ah 2) (af (ah 3) (ar)))) (fA [3,9])) (aD (aN (av L3.dh (af (ah 2) (af (ah 7) (ar)))) (fA [7,10])) (aD (aN (bL (cQ (ah 9)) (aw 0) (dM) (aX (af (ak L3.rIx (ah 0) (TC (.int 0))) (af (ak L3.rIx (ah 0) (TC (.int 1))) (af (ak aT (ak L3.rIx (ah 0) (TC (.int 2))) (dU (ah 1) (ak L3.rIx (ah 0) (TC (.int 1))))) (af (ak L3.rIx (ah 0) (TC (.int 3))) (ar)))))) 1 [4]) (aw 11)) (aD (c7 (TOr (yt (TB (av fk (af (ah 10) (af (ah 11) (ar)))))) (yt (TB (av fk (af (ah 7) (af (av cv (af (ah 3) (af (ah 4) (ar)))) (ar))))))) (aY (TC (.bl false))) (bH)) (c7 (yt (TB (av fk (af (av eK (af (ah 7) (ar))) (af (av eK (af (ah 3) (ar))) (ar)))))) (aY (TC (.bl false))) (bH))))))) (aY (TC (.bl true)))))))))
theorem Nd:∀ ds μ Q,fJ ds μ Q→FY { nx:=fun _ μ'=>RT Q .non μ',rt:=RT Q } (ini 12 ds) μ:=by
  intro ds μ Q h
  unfold fJ L3.fJ at h
  split at h
  case h_2=>exact h.elim
  obtain ⟨⟨ns,rfl,hn⟩,k⟩:=h
  walk_at "ini"
  unfold FY
  walk_at "go"
  refine ⟨ns,⟨rfl,hn⟩,fun b c μ1 hB=>?_⟩
  walk_at "go"
  refine ⟨c,0,⟨hB,by decide⟩,fun p μ2 K B2=>?_⟩
  walk_at "go"
  have s1:=K.s1
  refine tq B2.p (by omega) (by decide) (by decide) fun t μ3 t0 t1 B3=>?_
  obtain ⟨t,rfl⟩:∃ j:Nat,t=(j:Int):=⟨t.toNat,by omega⟩
  refine ⟨p,7,t,⟨rfl,K,rfl,by omega⟩,?_⟩
  have I:=p.j6 K t (by omega)
  have X:=I.nx
  have IL:=I.ls
  have INM:=I.nm
  obtain ⟨st,est⟩:∃ st,p.run t=st:=⟨_,rfl⟩
  rw[est] at X IL INM ⊢
  walk_at "go"
  intro q hq
  have nq:=B3.p.nb hq
  walk_at "go"
  refine bK (fun r ρ μ'=>∃ (dn rs:List Ss) (tab:List (L2.Key×D)) (f:Str→Int) (v5 v6:Option D),r=ssD p.g rs∧dn++rs=st.ss∧ρ=[some (.ls (ns.map .int)),some (.obj b),some p.toD,some (st.toD p.g),some (.obj q),v5,v6,none,none,none,none,none]∧Pq μ' b c (1000+100+4*dn.length)∧μ' q=some (.dct tab)∧tab.length≤dn.length∧∀ x∈dn,bo tab (.inr x.nm)=some (.int (f x.nm))∧-1000000≤f x.nm∧f x.nm≤1000000000000000000) ?_ ?_ _ _ _ ⟨[],st.ss,[],(fun _=>0),_,_,rfl,rfl,rfl,(B3.p.up nq).mono (by omega),aB,Nat.le_refl _,fun _ h=>nomatch h⟩
  · rintro ρ μ4 ⟨dn,rs,tab,f,w5,w6,er,es,rfl,P4,eq,_,T0⟩
    cases rs with
    | cons _ _=>cases er
    | nil=>
    rw[List.append_nil] at es
    subst es
    have T:∀ n∈p.sn,bo tab (.inr n)=some (.int (f n))∧-1000000≤f n∧f n≤1000000000000000000:=fun n hn=>by
      rw[← INM] at hn
      obtain ⟨x,hx,rfl⟩:=List.mem_map.mp hn
      exact T0 x hx
    have all:∀ i:Nat,i≤100→StL (p.run (t+i))∧(∀ n∈(p.run (t+i)).ss.map Ss.nm,bo tab (.inr n)=some (.int (f n)))∧yb p (p.run (t+i))∧(∀ y∈List.zip p.ss (p.bz (p.run (t+i))),y.2.1.nm=y.1.nm)∧yb p ((p.run (t+i)).mv f):=fun i hi=>by
      have I:=p.j6 K (t+i) (by omega)
      have R:=I.rd (by omega)
      have nm:∀ y∈List.zip p.ss (p.bz (p.run (t+i))),y.2.1.nm=y.1.nm:=fun y hy=>(I.cons (by omega) (s:=y.1) (b:=y.2) hy).1
      refine ⟨Jz K (by omega),fun n hn=>?_,R,nm,RE nm R fun x hx=>?_⟩
      · rw[I.nm] at hn
        exact (T n hn).1
      · have h1:=I.nx x hx
        have h2:=(T x.nm (by rw[← I.nm];exact List.mem_map.mpr ⟨x,hx,rfl⟩)).2
        omega
    walk_at "go"
    refine ⟨p.g,st,f,tab,⟨rfl,by rw[← est];exact (all 0 (by omega)).1,eq,by rw[← est];exact (all 0 (by omega)).2.1⟩,?_⟩
    walk_at "go"
    refine bK (fun r ρ μ'=>∃ (i:Nat) (v8 v9 v10 v11:Option D),i+r.length=10∧ρ=[some (.ls (ns.map .int)),some (.obj b),some p.toD,some ((p.run (t+i)).toD p.g),some (.obj q),w5,w6,some (((p.run (t+i)).mv f).toD p.g),v8,v9,v10,v11]∧μ'=μ4) ?_ ?_ _ _ _ ⟨0,_,_,_,_,rfl,by rw[← est];rfl,rfl⟩
    · rintro ρ μ' ⟨i,v8,v9,v10,v11,_,rfl,rfl⟩
      walk_at "go"
      exact ⟨_,.refl _,k _⟩
    · rintro d r ρ μ' N ⟨i,v8,v9,v10,v11,hi,rfl,rfl⟩ hN
      rw[List.length_cons] at hi
      obtain ⟨S,_,R,nm,R'⟩:=all i (by omega)
      obtain ⟨S1,T1,_⟩:=all (i+1) (by omega)
      have ez:=R.ez
      walk_at "go"
      refine ⟨p,p.run (t+i),⟨⟨rfl,rfl⟩,R⟩,?_⟩
      walk_at "go"
      refine ⟨p,(p.run (t+i)).mv f,⟨⟨rfl,rfl⟩,R'⟩,?_⟩
      rw[JC f p _ nm,Hh f p _ nm]
      walk_at "go"
      refine bf (p.evs (p.run (t+i))) Ev.toD (fun e=>(e.mv f).toD) rfl (by omega) (fun e he μ' sb N m=>?_) ?_
      · walk_at "go"
        refine iI (sb q _ eq) ?_
        rw[(T e.nm (My R e he).2.1).1]
        walk_at "go"
        exact m
      walk_at "go"
      have em:(evD ((p.evs (p.run (t+i))).map (Ev.mv f)))=(p.evs (p.run (t+i))).map (fun e=>(e.mv f).toD):=List.map_map
      refine uP (by rw[em]) (by rw[← em];exact Qj R f) ?_
      walk_at "go"
      refine ⟨p.g,p.run (t+(i+1)),f,tab,⟨rfl,S1,eq,T1⟩,?_⟩
      refine uP rfl (Mo (S1.mv f) p.g) ?_
      walk_at "go"
      refine ⟨p.g,(p.run (t+(i+1))).mv f,⟨rfl,S1.mv f⟩,?_⟩
      walk_at "go"
      refine ⟨p.g,p.run (t+(i+1)),⟨rfl,S1⟩,?_⟩
      rw[Rx f S1]
      refine uP rfl (Mo S1.lk p.g) ?_
      walk_at "go"
      exact hN _ _ ⟨i+1,_,_,_,_,by omega,rfl,rfl⟩
  · rintro d' r' ρ μ4 N' ⟨dn,rs,tab,f,w5,w6,er,es,rfl,P4,eq,tl,T⟩ hN'
    cases rs with
    | nil=>cases er
    | cons x rs=>
    cases er
    have dl:dn.length+(rs.length+1)=st.ss.length:=by rw[← es];simp
    have hx:=X x (by rw[← es];simp)
    walk_at "go"
    refine tq P4 (by omega) (by decide) (by decide) fun a1 μ5 a10 a11 C5=>?_
    walk_at "go"
    refine ⟨⟨by decide,by decide,by decide⟩,?_⟩
    refine tq C5.p (by omega) (by decide) (by decide) fun a3 μ7 a30 a31 C7=>?_
    walk_at "go"
    refine ⟨⟨by decide,by decide,by decide⟩,.inl (.inr (by unfold S64;decide)),?_⟩
    walk_at "go"
    refine tq C7.p (by omega) (by decide) (by decide) fun a4 μ8 a40 a41 C8=>?_
    obtain ⟨_,e4,j,rfl,j0,j1⟩:=dq (xs:=[.int a1,.int (0 - x.nx),.int (a3*1000000000)]) (P:=fun d=>∃ j:Int,d=.int j∧-1000000≤j∧j≤1000000000000000000) (bh ⟨_,rfl,by omega,by omega⟩ (bh ⟨_,rfl,by omega,by omega⟩ (bh ⟨_,rfl,by omega,by omega⟩ fI))) a40 a41
    walk_at "go"
    refine eW e4 ?_
    have C:=C5.trans (C7.trans C8)
    have eq8:μ8 q=some (.dct tab):=by rw[C.o q nq.1 nq.2];exact eq
    have tl':=KY tab (.inr x.nm) (.int j)
    refine iI eq8 ⟨by omega,hN' _ _ ⟨dn++[x],rs,_,(fun n=>if n=x.nm then j else f n),_,_,rfl,by rw[← es];simp,rfl,(C8.p.up nq).mono (by rw[List.length_append];simp;omega),aB,by rw[List.length_append];simp;omega,fun y hy=>?_⟩⟩
    rw[CW]
    show _=some (D.int (if y.nm=x.nm then j else f y.nm))∧-1000000≤(if y.nm=x.nm then j else f y.nm)∧(if y.nm=x.nm then j else f y.nm)≤1000000000000000000
    by_cases e:y.nm=x.nm
    · rw[if_pos (by rw[e]),if_pos e];exact ⟨rfl,j0,j1⟩
    · rw[if_neg (fun z=>e (by injection z)),if_neg e]
      rcases List.mem_append.mp hy with h | h
      · exact T y h
      · exact absurd (by rw[List.mem_singleton.mp h]) e
theorem mw (ns:List Int)(h:ns.length≤63)(μ:Mu):fJ [.ls (ns.map .int)] μ (fun d _=>d=.bl true):=L3.mw ns h μ
end Kk
namespace Kk
open PySem L2 L3
theorem Rq {α:Type}{us:List α}(h:us.length=1):∃ x0,us=[x0]:=match us,h with | [x0],_=>⟨x0,rfl⟩
theorem QB {α:Type}{us:List α}(h:us.length=2):∃ x0 x1,us=[x0,x1]:=match us,h with | [x0,x1],_=>⟨x0,x1,rfl⟩
theorem Sa {α:Type}{us:List α}(h:us.length=3):∃ x0 x1 x2,us=[x0,x1,x2]:=match us,h with | [x0,x1,x2],_=>⟨x0,x1,x2,rfl⟩
theorem QZ {α:Type}{us:List α}(h:us.length=4):∃ x0 x1 x2 x3,us=[x0,x1,x2,x3]:=match us,h with | [x0,x1,x2,x3],_=>⟨x0,x1,x2,x3,rfl⟩
theorem Qn {α:Type}{us:List α}(h:us.length=5):∃ x0 x1 x2 x3 x4,us=[x0,x1,x2,x3,x4]:=match us,h with | [x0,x1,x2,x3,x4],_=>⟨x0,x1,x2,x3,x4,rfl⟩
def top (i:Nat):Stmt:=PySem.Challenge.pw_swellways_k43_like_goes_on.main.body.getD i (.Pass ⟨0,0,0,0⟩)
abbrev nE:Stmt:=top 33
abbrev Gf:Stmt:=top 34
abbrev Fn:Stmt:=top 35
abbrev BB:Stmt:=top 36
abbrev Cr:Stmt:=top 37
abbrev FE:Stmt:=top 38
abbrev p7:Stmt:=top 39
abbrev wQ:Stmt:=top 40
abbrev xU:Stmt:=top 45
abbrev o4:Stmt:=top 46
abbrev sW:Stmt:=top 47
abbrev jl:Stmt:=top 48
abbrev nr:Stmt:=top 49
abbrev A6:Stmt:=top 50
abbrev Gu:Stmt:=top 51
abbrev pX:Stmt:=top 52
abbrev lT:Stmt:=top 54
abbrev pA:Stmt:=top 55
abbrev gL:Stmt:=top 56
abbrev gA:Stmt:=top 57
abbrev r6:Stmt:=top 58
abbrev jJ:Stmt:=top 60
abbrev oU:Stmt:=top 61
abbrev jy:Stmt:=top 62
abbrev pO:Stmt:=top 63
abbrev qB:Stmt:=top 64
abbrev vT:Stmt:=top 65
abbrev fW:Stmt:=top 66
abbrev qw:Stmt:=top 67
abbrev lJ:Stmt:=top 68
abbrev nR:Stmt:=top 69
abbrev Gn:Stmt:=top 70
abbrev gZ:Stmt:=top 71
abbrev nC:Stmt:=top 72
abbrev cJ:Stmt:=top 73
abbrev cM:Stmt:=top 74
abbrev gT:Stmt:=top 76
abbrev dr:Stmt:=top 77
abbrev j8:Stmt:=top 78
abbrev MZ:Stmt:=top 80
abbrev qc:Stmt:=top 82
abbrev oV:Stmt:=top 83
abbrev nA:Stmt:=top 84
abbrev mZ:Stmt:=top 85
abbrev mW:Stmt:=top 86
abbrev nS:Stmt:=top 87
abbrev jr:Stmt:=top 88
abbrev mV:Stmt:=top 89
abbrev jM:Stmt:=top 90
abbrev fj:Stmt:=top 91
abbrev HC:Stmt:=top 92
set_option genInjectivity false in
set_option genSizeOfSpec false in
structure Adr where
  m7:Addr
  xp:FuncData
  Im:Addr
  OL:FuncData
  EK:Addr
  OU:FuncData
  Cg:Addr
  LX:FuncData
  Cb:Addr
  JA:FuncData
  EA:Addr
  Pd:FuncData
  pE:Addr
  Af:FuncData
  xV:Addr
  HB:FuncData
  wG:Addr
  E4:FuncData
  qe:Addr
  zK:FuncData
  tw:Addr
  D5:FuncData
  jH:Addr
  qh:FuncData
  mQ:Addr
  vz:FuncData
  BF:Addr
  Lx:FuncData
  E3:Addr
  Pk:FuncData
  qg:Addr
  yZ:FuncData
  lK:Addr
  u9:FuncData
  qF:Addr
  zF:FuncData
  nG:Addr
  wq:FuncData
  jF:Addr
  qC:FuncData
  su:Addr
  Dg:FuncData
  jK:Addr
  qt:FuncData
  Bl:Addr
  Jq:FuncData
  nH:Addr
  yn:FuncData
  pT:Addr
  zy:FuncData
  qU:Addr
  zR:FuncData
  yk:Addr
  Fz:FuncData
  jh:Addr
  nV:FuncData
  wL:Addr
  GF:FuncData
  kX:Addr
  uj:FuncData
  nF:Addr
  wW:FuncData
  Hw:Addr
  Ob:FuncData
  nJ:Addr
  vy:FuncData
  mM:Addr
  wB:FuncData
  jx:Addr
  rn:FuncData
  tu:Addr
  DB:FuncData
  gW:Addr
  lg:FuncData
  iD:Addr
  lY:FuncData
  sj:Addr
  DE:FuncData
  MS:Addr
  QC:FuncData
  pW:Addr
  Aw:FuncData
  qy:Addr
  zr:FuncData
  mU:Addr
  vf:FuncData
  nv:Addr
  vv:FuncData
  mT:Addr
  w8:FuncData
  nP:Addr
  yo:FuncData
  nQ:Addr
  vF:FuncData
  mS:Addr
  yu:FuncData
  gO:Addr
  hE:FuncData
  lF:Addr
  uR:FuncData
  Iv:Addr
  ML:FuncData
structure Txt (Pm:Params) (K:PySem.W.Frag) (mg:Str→Option Value) (t:Adr):Prop where
  yd:mg "common_of" = some (.ref t.m7)
  wF:Fun K "common_of" "common_of" nE t.m7 t.xp
  N9:mg "part" = some (.ref t.Im)
  Qc:Fun K "part" "part" Gf t.Im t.OL
  Nt:mg "plus" = some (.ref t.EK)
  NR:Fun K "plus" "plus" Fn t.EK t.OU
  Jo:mg "minus" = some (.ref t.Cg)
  J2:Fun K "minus" "minus" BB t.Cg t.LX
  Ke:mg "times" = some (.ref t.Cb)
  J5:Fun K "times" "times" Cr t.Cb t.JA
  NM:mg "less" = some (.ref t.EA)
  Oi:Fun K "less" "less" FE t.EA t.Pd
  AY:mg "floor_of" = some (.ref t.pE)
  Ak:Fun K "floor_of" "floor_of" p7 t.pE t.Af
  E6:mg "cut_by" = some (.ref t.xV)
  GY:Fun K "cut_by" "cut_by" wQ t.xV t.HB
  He:mg "top_of" = some (.ref t.wG)
  G3:Fun K "top_of" "top_of" xU t.wG t.E4
  AI:mg "begun_by" = some (.ref t.qe)
  yY:Fun K "begun_by" "begun_by" o4 t.qe t.zK
  DQ:mg "is_idle" = some (.ref t.tw)
  DV:Fun K "is_idle" "is_idle" sW t.tw t.D5
  qx:mg "share_behind" = some (.ref t.jH)
  o6:Fun K "share_behind" "share_behind" jl t.jH t.qh
  xN:mg "factor_of" = some (.ref t.mQ)
  ve:Fun K "factor_of" "factor_of" nr t.mQ t.vz
  JG:mg "moved" = some (.ref t.BF)
  Jf:Fun K "moved" "moved" A6 t.BF t.Lx
  O4:mg "held" = some (.ref t.E3)
  OY:Fun K "held" "held" Gu t.E3 t.Pk
  Ax:mg "heard_by" = some (.ref t.qg)
  zL:Fun K "heard_by" "heard_by" pX t.qg t.yZ
  tG:mg "put_behind" = some (.ref t.lK)
  tO:Fun K "put_behind" "put_behind" lT t.lK t.u9
  zS:mg "taken_in" = some (.ref t.qF)
  zW:Fun K "taken_in" "taken_in" pA t.qF t.zF
  vD:mg "next_name" = some (.ref t.nG)
  xA:Fun K "next_name" "next_name" gL t.nG t.wq
  oZ:mg "out_by_turns" = some (.ref t.jF)
  qY:Fun K "out_by_turns" "out_by_turns" gA t.jF t.qC
  CN:mg "let_out" = some (.ref t.su)
  Dv:Fun K "let_out" "let_out" r6 t.su t.Dg
  qH:mg "begun_sender" = some (.ref t.jK)
  qf:Fun K "begun_sender" "begun_sender" jJ t.jK t.qt
  K5:mg "begun" = some (.ref t.Bl)
  KU:Fun K "begun" "begun" oU t.Bl t.Jq
  vo:mg "under_way" = some (.ref t.nH)
  xk:Fun K "under_way" "under_way" jy t.nH t.yn
  yJ:mg "new_ones" = some (.ref t.pT)
  yR:Fun K "new_ones" "new_ones" pO t.pT t.zy
  yT:mg "sent_off" = some (.ref t.qU)
  y9:Fun K "sent_off" "sent_off" qB t.qU t.zR
  EU:mg "beaten" = some (.ref t.yk)
  HV:Fun K "beaten" "beaten" vT t.yk t.Fz
  ow:mg "sent_in_order" = some (.ref t.jh)
  oB:Fun K "sent_in_order" "sent_in_order" fW t.jh t.nV
  Gr:mg "passed" = some (.ref t.wL)
  Iz:Fun K "passed" "passed" qw t.wL t.GF
  uZ:mg "way_behind" = some (.ref t.kX)
  tY:Fun K "way_behind" "way_behind" lJ t.kX t.uj
  xh:mg "events_of" = some (.ref t.nF)
  xt:Fun K "events_of" "events_of" nR t.nF t.wW
  P6:mg "aged" = some (.ref t.Hw)
  OI:Fun K "aged" "aged" Gn t.Hw t.Ob
  vQ:mg "way_after" = some (.ref t.nJ)
  wo:Fun K "way_after" "way_after" gZ t.nJ t.vy
  vL:mg "due_after" = some (.ref t.mM)
  xX:Fun K "due_after" "due_after" nC t.mM t.wB
  pj:mg "sender_after" = some (.ref t.jx)
  qk:Fun K "sender_after" "sender_after" cJ t.jx t.rn
  Ea:mg "stepped" = some (.ref t.tu)
  D4:Fun K "stepped" "stepped" cM t.tu t.DB
  lS:mg "letters_lowered" = some (.ref t.gW)
  lR:Fun K "letters_lowered" "letters_lowered" gT t.gW t.lg
  lV:mg "sender_lowered" = some (.ref t.iD)
  mI:Fun K "sender_lowered" "sender_lowered" dr t.iD t.lY
  CU:mg "like_of" = some (.ref t.sj)
  DN:Fun K "like_of" "like_of" j8 t.sj t.DE
  Rf:mg "run" = some (.ref t.MS)
  QY:Fun K "run" "run" MZ t.MS t.QC
  zk:mg "_law_mix" = some (.ref t.pW)
  AZ:Fun K "_law_mix" "_law_mix" qc t.pW t.Aw
  yL:mg "_law_pot" = some (.ref t.qy)
  AN:Fun K "_law_pot" "_law_pot" oV t.qy t.zr
  xD:mg "_law_take" = some (.ref t.mU)
  vX:Fun K "_law_take" "_law_take" nA t.mU t.vf
  xH:mg "_law_part" = some (.ref t.nv)
  vh:Fun K "_law_part" "_law_part" mZ t.nv t.vv
  vN:mg "_law_rule" = some (.ref t.mT)
  xQ:Fun K "_law_rule" "_law_rule" mW t.mT t.w8
  vg:mg "_law_ways" = some (.ref t.nP)
  xf:Fun K "_law_ways" "_law_ways" nS t.nP t.yo
  wX:mg "_law_road" = some (.ref t.nQ)
  xb:Fun K "_law_road" "_law_road" jr t.nQ t.vF
  vA:mg "_law_plan" = some (.ref t.mS)
  yp:Fun K "_law_plan" "_law_plan" mV t.mS t.yu
  nh:mg "_law_same" = some (.ref t.gO)
  de:Fun K "_law_same" "_law_same" jM t.gO t.hE
  va:mg "_law_moved" = some (.ref t.lF)
  uq:Fun K "_law_moved" "_law_moved" fj t.lF t.uR
  RM:mg "law" = some (.ref t.Iv)
  Cu:Fun K "law" "law" HC t.Iv t.ML
  MH:mg "abs" = none
  Sd:mg "all" = none
  uE:mg "bool" = none
  FJ:mg "dict" = none
  wD:mg "enumerate" = none
  RC:mg "int" = none
  bx:mg "isinstance" = none
  ef:mg "len" = none
  mK:mg "list" = none
  Bi:mg "max" = none
  Se:mg "min" = none
  lN:mg "range" = none
  wH:mg "sorted" = none
  MQ:mg "str" = none
  RR:mg "sum" = none
  aW:mg "tuple" = none
  qV:mg "zip" = none
  oI:GV K mg "AGAIN" (.int 6)
  M1:GV K mg "AGE" (.int 2)
  PX:GV K mg "BEAT" (.int 2)
  Ko:GV K mg "BEGIN" (.int 3)
  qT:GV K mg "COMING" (.int 0)
  GL:GV K mg "DUE" (.int 1)
  AV:GV K mg "GOOD" (.int 8)
  Ft:GV K mg "GRID" (.int 0)
  Fg:GV K mg "HALF" (.tup [.int 1,.int 2])
  Bh:GV K mg "HOP" (.int 3)
  jR:GV K mg "IS_MARKED" (.int 4)
  F9:GV K mg "LAST" (.int 2)
  mB:GV K mg "LEFT" (.int 5)
  mx:GV K mg "LOST" (.int 7)
  PR:GV K mg "MANY" (.int 4)
  Et:GV K mg "MARK" (.int 3)
  vJ:GV K mg "MARKED" (.int 9)
  bQ:GV K mg "NAME" (.int 0)
  km:GV K mg "NEXT" (.int 4)
  Eb:GV K mg "NOUGHT" (.tup [.int 0,.int 1])
  fQ:GV K mg "NUMBER" (.int 1)
  Ed:GV K mg "ONE" (.tup [.int 1,.int 1])
  Ad:GV K mg "PACE" (.int 1)
  IF:GV K mg "ROAD" (.int 1)
  OV:GV K mg "ROOM" (.int 2)
  GO:GV K mg "RULE" (.int 5)
  tm:GV K mg "SENDERS" (.int 2)
  K4:GV K mg "SHARE" (.int 3)
  Of:GV K mg "SORT" (.int 4)
  kz:GV K mg "STANDING" (.int 1)
  fX:GV K mg "STATE_SENDERS" (.int 1)
  iY:GV K mg "STATE_WAYS" (.int 0)
  Ie:GV K mg "WAIT" (.int 10)
  uT:GV K mg "WAYS" (.int 1)
  wA:GV K mg "WINDOW" (.int 2)
local macro_rules | `(tactic| walk_at "sc")=>`(tactic| exact ⟨rfl,rfl,rfl,by decide +kernel,rfl,by decide +kernel,by decide +kernel⟩)
local macro_rules | `(tactic| walk_at "b1")=>`(tactic| (rename_i hl;obtain ⟨x0,e⟩:=Rq hl;subst e;rfl))
local macro_rules | `(tactic| walk_at "b2")=>`(tactic| (rename_i hl;obtain ⟨x0,x1,e⟩:=QB hl;subst e;rfl))
local macro_rules | `(tactic| walk_at "b3")=>`(tactic| (rename_i hl;obtain ⟨x0,x1,x2,e⟩:=Sa hl;subst e;rfl))
local macro_rules | `(tactic| walk_at "b4")=>`(tactic| (rename_i hl;obtain ⟨x0,x1,x2,x3,e⟩:=QZ hl;subst e;rfl))
local macro_rules | `(tactic| walk_at "b5")=>`(tactic| (rename_i hl;obtain ⟨x0,x1,x2,x3,x4,e⟩:=Qn hl;subst e;rfl))
section
variable {P:Program} {w:World} {K:PySem.W.Frag} {mg:Str→Option Value} {base:Heap} {t:Adr}
theorem dH:aI ["one", "other", "divisor", "rest", "behind"] ["one", "other"] (au nE):=by walk_at "sc"
theorem yh (T:Txt w.params K mg t):aR P w K mg base 1 "common_of" ["one", "other"] L3.dG:=aL T.yd T.wF dH L3.rV L3.ur (fun _ _ _ _ _ _ _ _=>by walk_at "b2") fun _ _ _ _ _ _ hr hu=>
  aj (aA 2 dH.nd (aV vG BG rfl T.MH rfl (aa (ae 0) (ai)))) (aj (aA 3 dH.nd (aV vG BG rfl T.MH rfl (aa (ae 1) (ai)))) (aj (ri PassesOwn.never (mP (ae 3) (le_int)) (aj (aA 4 dH.nd (ie (ae 2) (ae 3))) (aj (aA 2 dH.nd (ae 3)) (ax (aA 3 dH.nd (ae 4)))))) (ax (aG (ae 2)))))
theorem uh:aI ["top", "bottom", "divisor"] ["top", "bottom"] (au Gf):=by walk_at "sc"
theorem pf (T:Txt w.params K mg t):aR P w K mg base 2 "part" ["top", "bottom"] L3.fM:=aL T.N9 T.Qc uh L3.II L3.IU (fun _ _ _ _ _ _ _ _=>by walk_at "b2") fun _ _ _ _ _ _ hr hu=>
  aj (aA 2 uh.nd (ao (yh T) hr rfl (aa (ae 0) (aa (ae 1) (ai))))) (aj (bT (nj (ae 1) (le_int)) (ax (aA 2 uh.nd (le_neg (ae 2)))) (aZ)) (ax (aG (aH (aa (iL (ae 0) (ae 2)) (aa (iL (ae 1) (ae 2)) (ai)))))))
theorem IY:aI ["one", "other"] ["one", "other"] (au Fn):=by walk_at "sc"
theorem EH (T:Txt w.params K mg t):aR P w K mg base 3 "plus" ["one", "other"] L3.gX:=aL T.Nt T.NR IY L3.G8 L3.JI (fun _ _ _ _ _ _ _ _=>by walk_at "b2") fun _ _ _ _ _ _ hr hu=>
  ax (aG (ao (pf T) hr rfl (aa (aJ (le_mul (aq (ae 0) (le_int)) (aq (ae 1) (le_int))) (le_mul (aq (ae 1) (le_int)) (aq (ae 0) (le_int)))) (aa (le_mul (aq (ae 0) (le_int)) (aq (ae 1) (le_int))) (ai)))))
theorem HI:aI ["one", "other"] ["one", "other"] (au BB):=by walk_at "sc"
theorem tH (T:Txt w.params K mg t):aR P w K mg base 3 "minus" ["one", "other"] L3.fP:=aL T.Jo T.J2 HI L3.D7 L3.G4 (fun _ _ _ _ _ _ _ _=>by walk_at "b2") fun _ _ _ _ _ _ hr hu=>
  ax (aG (ao (pf T) hr rfl (aa (dY (le_mul (aq (ae 0) (le_int)) (aq (ae 1) (le_int))) (le_mul (aq (ae 1) (le_int)) (aq (ae 0) (le_int)))) (aa (le_mul (aq (ae 0) (le_int)) (aq (ae 1) (le_int))) (ai)))))
theorem FG:aI ["one", "other"] ["one", "other"] (au Cr):=by walk_at "sc"
theorem uB (T:Txt w.params K mg t):aR P w K mg base 3 "times" ["one", "other"] L3.fS:=aL T.Ke T.J5 FG L3.DT L3.G5 (fun _ _ _ _ _ _ _ _=>by walk_at "b2") fun _ _ _ _ _ _ hr hu=>
  ax (aG (ao (pf T) hr rfl (aa (le_mul (aq (ae 0) (le_int)) (aq (ae 1) (le_int))) (aa (le_mul (aq (ae 0) (le_int)) (aq (ae 1) (le_int))) (ai)))))
theorem Kj:aI ["one", "other"] ["one", "other"] (au FE):=by walk_at "sc"
theorem G0 (T:Txt w.params K mg t):aR P w K mg base 1 "less" ["one", "other"] L3.iM:=aL T.NM T.Oi Kj L3.Gw L3.IT (fun _ _ _ _ _ _ _ _=>by walk_at "b2") fun _ _ _ _ _ _ hr hu=>
  ax (aG (Q3 (le_mul (aq (ae 0) (le_int)) (aq (ae 1) (le_int))) (le_mul (aq (ae 1) (le_int)) (aq (ae 0) (le_int)))))
theorem vE:aI ["one"] ["one"] (au p7):=by walk_at "sc"
theorem zZ (T:Txt w.params K mg t):aR P w K mg base 1 "floor_of" ["one"] L3.eR:=aL T.AY T.Ak vE L3.tJ L3.yF (fun _ _ _ _ _ _ _ _=>by walk_at "b1") fun _ _ _ _ _ _ hr hu=>
  ax (aG (iL (aq (ae 0) (le_int)) (aq (ae 0) (le_int))))
theorem CJ:aI ["one", "grid"] ["one", "grid"] (au wQ):=by walk_at "sc"
theorem lI (T:Txt w.params K mg t):aR P w K mg base 3 "cut_by" ["one", "grid"] L3.dN:=aL T.E6 T.GY CJ L3.zX L3.DJ (fun _ _ _ _ _ _ _ _=>by walk_at "b2") fun _ _ _ _ _ _ hr hu=>
  ax (aG (ao (pf T) hr rfl (aa (iL (le_mul (aq (ae 0) (le_int)) (ae 1)) (aq (ae 0) (le_int))) (aa (ae 1) (ai)))))
theorem CP:aI ["rule"] ["rule"] (au xU):=by walk_at "sc"
theorem wV (T:Txt w.params K mg t):aR P w K mg base 1 "top_of" ["rule"] L3.fD:=aL T.He T.G3 CP L3.zB L3.D2 (fun _ _ _ _ _ _ _ _=>by walk_at "b1") fun _ _ _ _ _ _ hr hu=>
  ax (aG (aq (ae 0) (dY (aV a8 bJ rfl T.ef rfl (aa (ae 0) (ai))) (le_int))))
theorem vd:aI ["rule", "grid"] ["rule", "grid"] (au o4):=by walk_at "sc"
theorem Aa (T:Txt w.params K mg t):aR P w K mg base 4 "begun_by" ["rule", "grid"] L3.eV:=aL T.AI T.yY vd L3.ub L3.yy (fun _ _ _ _ _ _ _ _=>by walk_at "b2") fun _ _ _ _ _ _ hr hu=>
  ax (aG (aH (aa (ao (lI T) hr rfl (aa (aq (ae 0) (le_int)) (aa (ae 1) (ai)))) (aa (aC rfl T.Eb) (ai)))))
theorem Ac:aI ["rule", "heard"] ["rule", "heard"] (au sW):=by walk_at "sc"
theorem CL (T:Txt w.params K mg t):aR P w K mg base 1 "is_idle" ["rule", "heard"] L3.fE:=aL T.DQ T.DV Ac L3.vq L3.zu (fun _ _ _ _ _ _ _ _=>by walk_at "b2") fun _ _ _ _ _ _ hr hu=>
  ax (aG (RV (le_eq hu (aq (ae 0) (le_int)) (le_str)) (qu (le_eq hu (aJ (aJ (aq (ae 1) (le_int)) (aq (ae 1) (le_int))) (aq (ae 1) (le_int))) (le_int)))))
theorem fV:aI ["rule", "grid", "share", "heard", "bad", "nearer"] ["rule", "grid", "share", "heard"] (au jl):=by walk_at "sc"
theorem q4 (T:Txt w.params K mg t):aR P w K mg base 4 "share_behind" ["rule", "grid", "share", "heard"] L3.b6:=aL T.qx T.o6 fV L3.my L3.oh (fun _ _ _ _ _ _ _ _=>by walk_at "b4") fun _ _ _ _ _ _ hr hu=>
  aj (bT (yE hu (aq (ae 0) (le_int)) (le_str)) (ax (aG (ae 2))) (aZ)) (aj (aA 4 fV.nd (aJ (aq (ae 3) (le_int)) (aq (ae 3) (le_int)))) (aj (aA 5 fV.nd (ao (uB T) hr rfl (aa (aq (ae 0) (le_int)) (aa (ao (tH T) hr rfl (aa (ao (pf T) hr rfl (aa (ae 4) (aa (aJ (aq (ae 3) (le_int)) (ae 4)) (ai)))) (aa (ae 2) (ai)))) (ai))))) (ax (aG (ao (lI T) hr rfl (aa (ao (EH T) hr rfl (aa (ae 2) (aa (ae 5) (ai)))) (aa (ae 1) (ai))))))))
theorem ui:aI ["rule", "share", "heard"] ["rule", "share", "heard"] (au nr):=by walk_at "sc"
theorem vM (T:Txt w.params K mg t):aR P w K mg base 4 "factor_of" ["rule", "share", "heard"] L3.dD:=aL T.xN T.ve ui L3.rN L3.tS (fun _ _ _ _ _ _ _ _=>by walk_at "b3") fun _ _ _ _ _ _ hr hu=>
  aj (bT (lt_eq hu (aq (ae 0) (le_int)) (le_str)) (ax (aG (fU (mP (aq (ae 2) (le_int)) (le_int)) (aC rfl T.Fg) (c9)))) (aZ)) (aj (bT (lt_eq hu (aJ (aq (ae 2) (le_int)) (aq (ae 2) (le_int))) (le_int)) (ax (aG (fU (lt_eq hu (aq (ae 0) (le_int)) (le_str)) (aq (ae 0) (le_int)) (c9)))) (aZ)) (aj (bT (lt_eq hu (aq (ae 0) (le_int)) (le_str)) (ax (aG (ao (tH T) hr rfl (aa (aC rfl T.Ed) (aa (ao (uB T) hr rfl (aa (aC rfl T.Fg) (aa (ae 1) (ai)))) (ai)))))) (aZ)) (ax (aG (aq (ae 0) (le_int))))))
theorem FI:aI ["rule", "window", "heard"] ["rule", "window", "heard"] (au A6):=by walk_at "sc"
theorem JS (T:Txt w.params K mg t):aR P w K mg base 4 "moved" ["rule", "window", "heard"] L3.ir:=aL T.JG T.Jf FI L3.DG L3.Fc (fun _ _ _ _ _ _ _ _=>by walk_at "b3") fun _ _ _ _ _ _ hr hu=>
  aj (bT (LW.lt (wZ (yE hu (aq (ae 0) (le_int)) (le_str)) (qS (nj (aq (ae 2) (le_int)) (aq (ae 0) (le_int)))))) (ax (aG (ao (EH T) hr rfl (aa (ae 1) (aa (aq (ae 0) (le_int)) (ai)))))) (aZ)) (aj (bT (mP (aq (ae 2) (le_int)) (aq (ae 0) (le_int))) (ax (aG (ao (tH T) hr rfl (aa (ae 1) (aa (aq (ae 0) (le_int)) (ai)))))) (aZ)) (ax (aG (ae 1))))
theorem Ma:aI ["rule", "grid", "window"] ["rule", "grid", "window"] (au Gu):=by walk_at "sc"
theorem HD (T:Txt w.params K mg t):aR P w K mg base 4 "held" ["rule", "grid", "window"] L3.iS:=aL T.O4 T.OY Ma L3.ES L3.IZ (fun _ _ _ _ _ _ _ _=>by walk_at "b3") fun _ _ _ _ _ _ hr hu=>
  aj (bT (fG (ao (G0 T) hr rfl (aa (ae 2) (aa (aC rfl T.Ed) (ai))))) (ax (aG (aC rfl T.Ed))) (aZ)) (aj (bT (fG (ao (G0 T) hr rfl (aa (ao (wV T) hr rfl (aa (ae 0) (ai))) (aa (ae 2) (ai))))) (ax (aG (ao (lI T) hr rfl (aa (ao (wV T) hr rfl (aa (ae 0) (ai))) (aa (ae 1) (ai)))))) (aZ)) (ax (aG (ao (lI T) hr rfl (aa (ae 2) (aa (ae 1) (ai)))))))
theorem jm:aI ["rule", "grid", "window", "share", "heard", "nearer", "factor"] ["rule", "grid", "window", "share", "heard"] (au pX):=by walk_at "sc"
theorem yQ (T:Txt w.params K mg t):aR P w K mg base 5 "heard_by" ["rule", "grid", "window", "share", "heard"] L3.eQ:=aL T.Ax T.zL jm L3.tL L3.yB (fun _ _ _ _ _ _ _ _=>by walk_at "b5") fun _ _ _ _ _ _ hr hu=>
  aj (bT (fG (ao (CL T) hr rfl (aa (ae 0) (aa (ae 4) (ai))))) (ax (aG (aH (aa (ae 2) (aa (ae 3) (ai)))))) (aZ)) (aj (aA 5 jm.nd (ao (q4 T) hr rfl (aa (ae 0) (aa (ae 1) (aa (ae 3) (aa (ae 4) (ai))))))) (aj (aA 6 jm.nd (ao (vM T) hr rfl (aa (ae 0) (aa (ae 5) (aa (ae 4) (ai)))))) (aj (bT (nK (ae 6) (c9)) (ax (aG (aH (aa (ao (HD T) hr rfl (aa (ae 0) (aa (ae 1) (aa (ao (JS T) hr rfl (aa (ae 0) (aa (ae 2) (aa (ae 4) (ai))))) (ai))))) (aa (ae 5) (ai)))))) (aZ)) (ax (aG (aH (aa (ao (HD T) hr rfl (aa (ae 0) (aa (ae 1) (aa (ao (uB T) hr rfl (aa (ae 2) (aa (ae 6) (ai)))) (ai))))) (aa (ae 5) (ai)))))))))
theorem rT:aI ["way", "letter", "ahead"] ["way", "letter", "ahead"] (au lT):=by walk_at "sc"
theorem tF (T:Txt w.params K mg t):aR P w K mg base 1 "put_behind" ["way", "letter", "ahead"] L3.c5:=aL T.tG T.tO rT L3.rj L3.rD (fun _ _ _ _ _ _ _ _=>by walk_at "b3") fun _ _ _ _ _ _ hr hu=>
  aj (bT (LW.lt (wZ (nK (aq (ae 0) (aC rfl T.Et)) (c9)) (qS (nj (ae 2) (aq (ae 0) (aC rfl T.Et)))))) (ax (aG (ae 1))) (aZ)) (ax (aG (aJ (fO (ae 1) (fZ) (da (aC rfl T.jR))) (aH (aa (le_int) (ai))))))
theorem g9:aI ["way", "standing", "letters", "stands", "lost", "letter"] ["way", "standing", "letters"] (au pA):=by walk_at "sc"
theorem zm (T:Txt w.params K mg t):aR P w K mg base 2 "taken_in" ["way", "standing", "letters"] L3.eP:=aL T.zS T.zW g9 L3.u7 L3.vm (fun _ _ _ _ _ _ _ _=>by walk_at "b3") fun _ _ _ _ _ _ hr hu=>
  aj (aA 3 g9.nd (aM iP sU rfl T.mK rfl (aa (ae 1) (ai)))) (aj (aA 4 g9.nd (fm (ai))) (aj (di PassesOwn.never rfl (br (ae 2)) (dB 5 g9.nd) (ax (bT (Mz (aV a8 bJ rfl T.ef rfl (aa (ae 3) (ai))) (aq (ae 0) (aC rfl T.OV))) (ax (cf (le_app (ae 4) (ae 5)))) (ax (cf (le_app (ae 3) (ao (tF T) hr rfl (aa (ae 0) (aa (ae 5) (aa (aV a8 bJ rfl T.ef rfl (aa (ae 3) (ai))) (ai))))))))))) (ax (aG (aH (aa (aM aE aQ rfl T.aW rfl (aa (ae 3) (ai))) (aa (aM aE aQ rfl T.aW rfl (aa (ae 4) (ai))) (ai))))))))
theorem je:aI ["names", "owners", "last", "there", "behind"] ["names", "owners", "last"] (au gL):=by walk_at "sc"
theorem xx (T:Txt w.params K mg t):aR P w K mg base 1 "next_name" ["names", "owners", "last"] L3.dP:=aL T.vD T.xA je L3.rG L3.ud (fun _ _ _ _ _ _ _ _=>by walk_at "b3") fun _ _ _ _ _ _ hr hu=>
  aj (fz (fsc:=au gL) 3 je.nd ["names", "owners", "last", "there", "behind"] ["name", "owners"] 1 [1] rfl rfl (br (ae 0)) (fun cl C s₀ H₀ ex=>⟨a7 0 (show (["name", "owners"]:List Str).Nodup from by decide +kernel),gv (Pf hu (ae 0) (ae 1)),ae 0⟩) rfl rfl (by decide +kernel)) (aj (fz (fsc:=au gL) 4 je.nd ["names", "owners", "last", "there", "behind"] ["name", "last"] 1 [2] rfl rfl (br (ae 3)) (fun cl C s₀ H₀ ex=>⟨a7 0 (show (["name", "last"]:List Str).Nodup from by decide +kernel),gv (Pz (ae 0) (ae 1)),ae 0⟩) rfl rfl (by decide +kernel)) (ax (aG (fU (mP (aV a8 bJ rfl T.ef rfl (aa (ae 4) (ai))) (le_int)) (aq (ae 4) (le_int)) (aq (ae 3) (le_int))))))
theorem b7:aI ["way", "names", "standing", "last", "stands", "out", "name", "owners"] ["way", "names", "standing", "last"] (au gA):=by walk_at "sc"
theorem o5 (T:Txt w.params K mg t):aR P w K mg base 2 "out_by_turns" ["way", "names", "standing", "last"] L3.b8:=aL T.oZ T.qY b7 L3.mF L3.oj (fun _ _ _ _ _ _ _ _=>by walk_at "b4") fun _ _ _ _ _ _ hr hu=>
  aj (aA 4 b7.nd (aM iP sU rfl T.mK rfl (aa (ae 2) (ai)))) (aj (aA 5 b7.nd (fm (ai))) (aj (aA 6 b7.nd (ae 3)) (aj (ri PassesOwn.never (LW.lt (AQ (mP (aV a8 bJ rfl T.ef rfl (aa (ae 4) (ai))) (le_int)) (uX (nj (aV a8 bJ rfl T.ef rfl (aa (ae 5) (ai))) (aq (ae 0) (aC rfl T.Ad)))))) (aj (mf (fsc:=au gA) 7 b7.nd ["way", "names", "standing", "last", "stands", "out", "name", "owners"] ["letter"] 1 [] rfl rfl (ae 4) (fun cl C s₀ H₀ ex=>⟨a7 0 (show (["letter"]:List Str).Nodup from by decide +kernel),bC,aq (ae 0) (aC rfl T.bQ)⟩) rfl rfl (by decide +kernel)) (aj (aA 6 b7.nd (ao (xx T) hr rfl (aa (ae 1) (aa (ae 7) (aa (ae 6) (ai)))))) (ax (cf (le_app (ae 5) (Pu (ae 4) (Gi hu (ae 7) (ae 6))))))))) (ax (aG (aH (aa (aM aE aQ rfl T.aW rfl (aa (ae 5) (ai))) (aa (aM aE aQ rfl T.aW rfl (aa (ae 4) (ai))) (aa (ae 6) (ai))))))))))
theorem yM:aI ["way", "names", "standing", "last"] ["way", "names", "standing", "last"] (au r6):=by walk_at "sc"
theorem DD (T:Txt w.params K mg t):aR P w K mg base 3 "let_out" ["way", "names", "standing", "last"] L3.fL:=aL T.CN T.Dv yM L3.xS L3.zQ (fun _ _ _ _ _ _ _ _=>by walk_at "b4") fun _ _ _ _ _ _ hr hu=>
  aj (bT (lt_eq hu (aq (ae 0) (aC rfl T.Of)) (le_str)) (ax (aG (ao (o5 T) hr rfl (aa (ae 0) (aa (ae 1) (aa (ae 2) (aa (ae 3) (ai)))))))) (aZ)) (ax (aG (aH (aa (aM aE aQ rfl T.aW rfl (aa (fO (ae 2) (fZ) (da (aq (ae 0) (aC rfl T.Ad)))) (ai))) (aa (aM aE aQ rfl T.aW rfl (aa (fO (ae 2) (da (aq (ae 0) (aC rfl T.Ad))) (fZ)) (ai))) (aa (le_str) (ai)))))))
theorem ji:aI ["grid", "sender", "first"] ["grid", "sender"] (au jJ):=by walk_at "sc"
theorem qM (T:Txt w.params K mg t):aR P w K mg base 5 "begun_sender" ["grid", "sender"] L3.b5:=aL T.qH T.qf ji L3.l9 L3.nX (fun _ _ _ _ _ _ _ _=>by walk_at "b2") fun _ _ _ _ _ _ hr hu=>
  aj (aA 2 ji.nd (ao (Aa T) hr rfl (aa (aq (ae 1) (aC rfl T.GO)) (aa (ae 0) (ai))))) (ax (aG (aH (aa (aq (ae 1) (aC rfl T.bQ)) (aa (aq (ae 1) (aC rfl T.Ko)) (aa (aq (ae 2) (le_int)) (aa (aq (ae 2) (le_int)) (aa (le_int) (aa (aq (ae 1) (aC rfl T.PR)) (aa (aH (ai)) (aa (aH (ai)) (aa (le_int) (aa (le_int) (aa (le_int) (ai)))))))))))))))
theorem xI:aI ["plan", "ways"] ["plan"] (au oU):=by walk_at "sc"
theorem LM (T:Txt w.params K mg t):aR P w K mg base 6 "begun" ["plan"] L3.iE:=aL T.K5 T.KU xI L3.CV L3.FP (fun _ _ _ _ _ _ _ _=>by walk_at "b1") fun _ _ _ _ _ _ hr hu=>
  aj (aA 1 xI.nd (aM aE aQ rfl T.aW rfl (aa (bD (fsc:=au oU) ["plan", "ways"] ["way"] 1 [] rfl rfl (br (aq (ae 0) (aC rfl T.uT))) (fun cl C s₀ H₀ ex=>⟨a7 0 (show (["way"]:List Str).Nodup from by decide +kernel),bC,aH (aa (aH (ai)) (aa (aH (ai)) (aa (le_str) (ai))))⟩) rfl rfl (by decide +kernel)) (ai)))) (ax (aG (aH (aa (ae 1) (aa (aM aE aQ rfl T.aW rfl (aa (bD (fsc:=au oU) ["plan", "ways"] ["sender", "plan"] 1 [0] rfl rfl (br (aq (ae 0) (aC rfl T.tm))) (fun cl C s₀ H₀ ex=>⟨a7 0 (show (["sender", "plan"]:List Str).Nodup from by decide +kernel),bC,ao (qM T) hr rfl (aa (aq (ae 1) (aC rfl T.Ft)) (aa (ae 0) (ai)))⟩) rfl rfl (by decide +kernel)) (ai))) (ai))))))
theorem gc:aI ["state", "name", "count", "way"] ["state", "name"] (au jy):=by walk_at "sc"
theorem xK (T:Txt w.params K mg t):aR P w K mg base 1 "under_way" ["state", "name"] L3.dS:=aL T.vo T.xk gc L3.rP L3.t7 (fun _ _ _ _ _ _ _ _=>by walk_at "b2") fun _ _ _ _ _ _ hr hu=>
  aj (aA 2 gc.nd (le_int)) (aj (di PassesOwn.never rfl (br (aq (ae 0) (aC rfl T.iY))) (dB 3 gc.nd) (ax (Ds 2 gc.nd (aV a8 bJ rfl T.ef rfl (aa (bD (fsc:=au jy) ["state", "name", "count", "way"] ["letter", "name"] 1 [1] rfl rfl (br (aJ (aq (ae 3) (aC rfl T.qT)) (aq (ae 3) (aC rfl T.kz)))) (fun cl C s₀ H₀ ex=>⟨a7 0 (show (["letter", "name"]:List Str).Nodup from by decide +kernel),gv (lt_eq hu (aq (ae 0) (aC rfl T.bQ)) (ae 1)),ae 0⟩) rfl rfl (by decide +kernel)) (ai)))))) (ax (aG (ae 2))))
theorem vi:aI ["kept", "places"] ["kept", "places"] (au pO):=by walk_at "sc"
theorem zO (T:Txt w.params K mg t):aR P w K mg base 1 "new_ones" ["kept", "places"] L3.eX:=aL T.yJ T.yR vi L3.ue L3.xM (fun _ _ _ _ _ _ _ _=>by walk_at "b2") fun _ _ _ _ _ _ hr hu=>
  ax (aG (fU (nK (aq (ae 0) (aC rfl T.mB)) (c9)) (ae 1) (aV (CH rfl) IA rfl T.Se rfl (aa (ae 1) (aa (aq (ae 0) (aC rfl T.mB)) (ai))))))
theorem eU:aI ["kept", "places", "old", "count", "first", "left", "filled"] ["kept", "places"] (au qB):=by walk_at "sc"
theorem Ap (T:Txt w.params K mg t):aR P w K mg base 2 "sent_off" ["kept", "places"] L3.eS:=aL T.yT T.y9 eU L3.tN L3.vC (fun _ _ _ _ _ _ _ _=>by walk_at "b2") fun _ _ _ _ _ _ hr hu=>
  aj (aA 2 eU.nd (fO (aq (ae 0) (aC rfl T.oI)) (fZ) (da (ae 1)))) (aj (aA 3 eU.nd (ao (zO T) hr rfl (aa (ae 0) (aa (dY (ae 1) (aV a8 bJ rfl T.ef rfl (aa (ae 2) (ai)))) (ai))))) (aj (aA 4 eU.nd (aq (ae 0) (aC rfl T.km))) (aj (aA 5 eU.nd (fU (nK (aq (ae 0) (aC rfl T.mB)) (c9)) (c9) (dY (aq (ae 0) (aC rfl T.mB)) (ae 3)))) (aj (aA 6 eU.nd (aJ (aJ (fO (ae 0) (fZ) (da (aC rfl T.km))) (aH (aa (aJ (ae 4) (ae 3)) (aa (ae 5) (aa (fO (aq (ae 0) (aC rfl T.oI)) (da (aV a8 bJ rfl T.ef rfl (aa (ae 2) (ai)))) (fZ)) (ai)))))) (fO (ae 0) (da (aC rfl T.mx)) (fZ)))) (ax (aG (aH (aa (ae 6) (aa (aJ (ae 2) (KH rfl rfl T.aW rfl T.lN (ae 4) (aJ (ae 4) (ae 3)))) (ai))))))))))
theorem iB:aI ["grid", "sender", "kept", "state", "heard", "told", "again", "ready"] ["grid", "sender", "kept", "state"] (au vT):=by walk_at "sc"
theorem IC (T:Txt w.params K mg t):aR P w K mg base 6 "beaten" ["grid", "sender", "kept", "state"] L3.gy:=aL T.EU T.HV iB L3.zT L3.CK (fun _ _ _ _ _ _ _ _=>by walk_at "b4") fun _ _ _ _ _ _ hr hu=>
  aj (bT (yE hu (aq (ae 2) (aC rfl T.GL)) (le_int)) (ax (aG (aH (aa (ae 2) (aa (aH (ai)) (ai)))))) (aZ)) (aj (aA 4 iB.nd (aH (aa (aq (ae 2) (aC rfl T.AV)) (aa (aq (ae 2) (aC rfl T.vJ)) (aa (aV a8 bJ rfl T.ef rfl (aa (aq (ae 2) (aC rfl T.mx)) (ai))) (aa (aq (ae 2) (aC rfl T.Ie)) (ai))))))) (aj (aA 5 iB.nd (ao (yQ T) hr rfl (aa (aq (ae 1) (aC rfl T.GO)) (aa (ae 0) (aa (aq (ae 2) (aC rfl T.wA)) (aa (aq (ae 2) (aC rfl T.K4)) (aa (ae 4) (ai)))))))) (aj (aA 6 iB.nd (aM aE aQ rfl T.aW rfl (aa (vY rfl T.wH rfl (aa (aJ (aq (ae 2) (aC rfl T.oI)) (aq (ae 2) (aC rfl T.mx))) (ai))) (ai)))) (aj (aA 7 iB.nd (aH (aa (aq (ae 2) (aC rfl T.bQ)) (aa (aq (ae 2) (aC rfl T.GL)) (aa (aq (ae 5) (le_int)) (aa (aq (ae 5) (le_int)) (aa (aq (ae 2) (aC rfl T.km)) (aa (aq (ae 2) (aC rfl T.mB)) (aa (ae 6) (aa (aH (ai)) (aa (le_int) (aa (le_int) (aa (le_int) (ai)))))))))))))) (ax (aG (ao (Ap T) hr rfl (aa (ae 7) (aa (aV (sE rfl) xC rfl T.Bi rfl (aa (le_int) (aa (dY (ao (zZ T) hr rfl (aa (aq (ae 5) (le_int)) (ai))) (ao (xK T) hr rfl (aa (ae 3) (aa (aq (ae 2) (aC rfl T.bQ)) (ai))))) (ai)))) (ai))))))))))
theorem cK:aI ["senders", "numbers", "sent", "turn", "sender", "own"] ["senders", "numbers"] (au fW):=by walk_at "sc"
theorem nZ (T:Txt w.params K mg t):aR P w K mg base 1 "sent_in_order" ["senders", "numbers"] L3.bU:=aL T.ow T.oB cK L3.lj L3.md (fun _ _ _ _ _ _ _ _=>by walk_at "b2") fun _ _ _ _ _ _ hr hu=>
  aj (aA 2 cK.nd (fm (ai))) (aj (di PassesOwn.never rfl (jY rfl T.lN (Bn rfl rfl T.Bi (bD (fsc:=au fW) ["senders", "numbers", "sent", "turn", "sender", "own"] ["own"] 1 [] rfl rfl (br (ae 1)) (fun cl C s₀ H₀ ex=>⟨a7 0 (show (["own"]:List Str).Nodup from by decide +kernel),bC,aV a8 bJ rfl T.ef rfl (aa (ae 0) (ai))⟩) rfl rfl (by decide +kernel)) (le_int))) (dB 3 cK.nd) (ax (di PassesOwn.never rfl (jd rfl T.qV (aa (ae 0) (aa (ae 1) (ai)))) (kr rfl (bX 4 cK.nd (bX 5 cK.nd (iO)))) (ax (bT (nj (ae 3) (aV a8 bJ rfl T.ef rfl (aa (ae 5) (ai)))) (ax (cf (le_app (ae 2) (aH (aa (aq (aq (ae 4) (aC rfl T.IF)) (le_int)) (aa (aH (aa (aq (ae 4) (aC rfl T.bQ)) (aa (aq (ae 5) (ae 3)) (aa (le_int) (aa (le_int) (aa (le_int) (ai))))))) (ai))))))) (aZ)))))) (ax (aG (uD (ae 2)))))
theorem jW:aI ["way", "names", "kept", "sent", "came", "held", "told"] ["way", "names", "kept", "sent"] (au qw):=by walk_at "sc"
theorem Ha (T:Txt w.params K mg t):aR P w K mg base 4 "passed" ["way", "names", "kept", "sent"] L3.gx:=aL T.Gr T.Iz jW L3.AR L3.DF (fun _ _ _ _ _ _ _ _=>by walk_at "b4") fun _ _ _ _ _ _ hr hu=>
  aj (aA 4 jW.nd (aJ (aq (ae 2) (aC rfl T.qT)) (aM aE aQ rfl T.aW rfl (aa (bD (fsc:=au qw) ["way", "names", "kept", "sent", "came", "held", "told"] ["first", "letter", "way"] 2 [0] rfl rfl (br (ae 3)) (fun cl C s₀ H₀ ex=>⟨gU rfl (bF 0 (show (["first", "letter", "way"]:List Str).Nodup from by decide +kernel) (bF 1 (show (["first", "letter", "way"]:List Str).Nodup from by decide +kernel) (fN))),gv (lt_eq hu (ae 0) (aq (ae 2) (aC rfl T.bQ))),ae 1⟩) rfl rfl (by decide +kernel)) (ai))))) (aj (aA 5 jW.nd (ao (zm T) hr rfl (aa (ae 0) (aa (aq (ae 2) (aC rfl T.kz)) (aa (ae 4) (ai)))))) (aj (aA 6 jW.nd (ao (DD T) hr rfl (aa (ae 0) (aa (ae 1) (aa (aq (ae 5) (le_int)) (aa (aq (ae 2) (aC rfl T.F9)) (ai))))))) (ax (aG (aH (aa (ae 4) (aa (aq (ae 5) (le_int)) (aa (aq (ae 6) (le_int)) (aa (aq (ae 6) (le_int)) (aa (aq (ae 6) (le_int)) (ai)))))))))))
theorem kl:aI ["roads", "letter", "road"] ["roads", "letter"] (au lJ):=by walk_at "sc"
theorem iU (T:Txt w.params K mg t):aR P w K mg base 1 "way_behind" ["roads", "letter"] L3.bS:=aL T.uZ T.tY kl L3.qN L3.rK (fun _ _ _ _ _ _ _ _=>by walk_at "b2") fun _ _ _ _ _ _ hr hu=>
  aj (aA 2 kl.nd (bR hu (ae 0) (aq (ae 1) (aC rfl T.bQ)))) (ax (aG (fU (nj (aJ (aq (ae 1) (aC rfl T.Bh)) (le_int)) (aV a8 bJ rfl T.ef rfl (aa (ae 2) (ai)))) (aq (ae 2) (aJ (aq (ae 1) (aC rfl T.Bh)) (le_int))) (c9))))
theorem cV:aI ["way", "roads", "went", "events", "place", "letter", "word"] ["way", "roads", "went"] (au nR):=by walk_at "sc"
theorem vB (T:Txt w.params K mg t):aR P w K mg base 2 "events_of" ["way", "roads", "went"] L3.dO:=aL T.xh T.xt cV L3.rM L3.tV (fun _ _ _ _ _ _ _ _=>by walk_at "b3") fun _ _ _ _ _ _ hr hu=>
  aj (aA 3 cV.nd (fm (ai))) (aj (di PassesOwn.never rfl (K0 rfl T.wD (aa (aq (ae 2) (le_int)) (ai))) (kr rfl (bX 4 cV.nd (bX 5 cV.nd (iO)))) (aj (aA 6 cV.nd (fU (nj (ae 4) (dY (aV a8 bJ rfl T.ef rfl (aa (aq (ae 2) (le_int)) (ai))) (aV a8 bJ rfl T.ef rfl (aa (aq (ae 2) (le_int)) (ai))))) (le_str) (le_str))) (ax (cf (le_app (ae 3) (aH (aa (ae 6) (aa (aq (ae 5) (aC rfl T.bQ)) (aa (aq (ae 5) (aC rfl T.fQ)) (aa (aq (ae 0) (aC rfl T.bQ)) (ai))))))))))) (aj (di PassesOwn.never rfl (br (aq (ae 2) (le_int))) (dB 5 cV.nd) (aj (aA 6 cV.nd (fU (nK (ao (iU T) hr rfl (aa (ae 1) (aa (ae 5) (ai)))) (c9)) (le_str) (le_str))) (ax (cf (le_app (ae 3) (aH (aa (ae 6) (aa (aq (ae 5) (aC rfl T.bQ)) (aa (aq (ae 5) (aC rfl T.fQ)) (aa (aq (ae 0) (aC rfl T.bQ)) (ai))))))))))) (ax (aG (uD (ae 3))))))
theorem KG:aI ["letter", "hops"] ["letter", "hops"] (au Gn):=by walk_at "sc"
theorem Ew (T:Txt w.params K mg t):aR P w K mg base 1 "aged" ["letter", "hops"] L3.i4:=aL T.P6 T.OI KG L3.Ef L3.Lp (fun _ _ _ _ _ _ _ _=>by walk_at "b2") fun _ _ _ _ _ _ hr hu=>
  ax (aG (aH (aa (aq (ae 0) (aC rfl T.bQ)) (aa (aq (ae 0) (aC rfl T.fQ)) (aa (aJ (aq (ae 0) (aC rfl T.M1)) (le_int)) (aa (aJ (aq (ae 0) (aC rfl T.Bh)) (ae 1)) (aa (aq (ae 0) (aC rfl T.jR)) (ai))))))))
theorem lA:aI ["way", "roads", "went", "out", "coming"] ["way", "roads", "went", "out"] (au gZ):=by walk_at "sc"
theorem xc (T:Txt w.params K mg t):aR P w K mg base 2 "way_after" ["way", "roads", "went", "out"] L3.dA:=aL T.vQ T.wo lA L3.rO L3.uJ (fun _ _ _ _ _ _ _ _=>by walk_at "b4") fun _ _ _ _ _ _ hr hu=>
  aj (mf (fsc:=au gZ) 4 lA.nd ["way", "roads", "went", "out", "coming"] ["letter", "roads", "way"] 1 [1,0] rfl rfl (ae 3) (fun cl C s₀ H₀ ex=>⟨a7 0 (show (["letter", "roads", "way"]:List Str).Nodup from by decide +kernel),gv (lt_eq hu (ao (iU T) hr rfl (aa (ae 1) (aa (ae 0) (ai)))) (aq (ae 2) (aC rfl T.bQ))),ao (Ew T) hr rfl (aa (ae 0) (aa (le_int) (ai)))⟩) rfl rfl (by decide +kernel)) (ax (aG (aH (aa (aM aE aQ rfl T.aW rfl (aa (ae 4) (ai))) (aa (aM aE aQ rfl T.aW rfl (aa (bD (fsc:=au gZ) ["way", "roads", "went", "out", "coming"] ["letter"] 1 [] rfl rfl (br (aq (ae 2) (le_int))) (fun cl C s₀ H₀ ex=>⟨a7 0 (show (["letter"]:List Str).Nodup from by decide +kernel),bC,ao (Ew T) hr rfl (aa (ae 0) (aa (le_int) (ai)))⟩) rfl rfl (by decide +kernel)) (ai))) (aa (aq (ae 2) (le_int)) (ai)))))))
theorem ug:aI ["sender", "due"] ["sender", "due"] (au nC):=by walk_at "sc"
theorem xJ (T:Txt w.params K mg t):aR P w K mg base 1 "due_after" ["sender", "due"] L3.dE:=aL T.vL T.xX ug L3.rE L3.uL (fun _ _ _ _ _ _ _ _=>by walk_at "b2") fun _ _ _ _ _ _ hr hu=>
  aj (bT (nK (ae 1) (c9)) (ax (aG (c9))) (aZ)) (ax (aG (fU (lt_eq hu (ae 1) (le_int)) (dY (aq (ae 0) (aC rfl T.PX)) (le_int)) (dY (ae 1) (le_int)))))
theorem bN:aI ["sender", "kept", "lost", "taken", "numbers", "own", "marked", "wait", "heard", "start"] ["sender", "kept", "lost", "taken"] (au cJ):=by walk_at "sc"
theorem qZ (T:Txt w.params K mg t):aR P w K mg base 2 "sender_after" ["sender", "kept", "lost", "taken"] L3.bZ:=aL T.pj T.qk bN L3.lW L3.oa (fun _ _ _ _ _ _ _ _=>by walk_at "b4") fun _ _ _ _ _ _ hr hu=>
  aj (mf (fsc:=au cJ) 4 bN.nd ["sender", "kept", "lost", "taken", "numbers", "own", "marked", "wait", "heard", "start"] ["letter", "sender"] 1 [0] rfl rfl (ae 2) (fun cl C s₀ H₀ ex=>⟨a7 0 (show (["letter", "sender"]:List Str).Nodup from by decide +kernel),gv (lt_eq hu (aq (ae 0) (aC rfl T.bQ)) (aq (ae 1) (aC rfl T.bQ))),aq (ae 0) (aC rfl T.fQ)⟩) rfl rfl (by decide +kernel)) (aj (fz (fsc:=au cJ) 5 bN.nd ["sender", "kept", "lost", "taken", "numbers", "own", "marked", "wait", "heard", "start"] ["letter", "sender"] 1 [0] rfl rfl (br (ae 3)) (fun cl C s₀ H₀ ex=>⟨a7 0 (show (["letter", "sender"]:List Str).Nodup from by decide +kernel),gv (lt_eq hu (aq (ae 0) (aC rfl T.bQ)) (aq (ae 1) (aC rfl T.bQ))),ae 0⟩) rfl rfl (by decide +kernel)) (aj (aA 6 bN.nd (aV (DZ rfl) EM rfl T.RR rfl (aa (bD (fsc:=au cJ) ["sender", "kept", "lost", "taken", "numbers", "own", "marked", "wait", "heard", "start"] ["letter"] 1 [] rfl rfl (br (ae 5)) (fun cl C s₀ H₀ ex=>⟨a7 0 (show (["letter"]:List Str).Nodup from by decide +kernel),bC,aq (ae 0) (aC rfl T.jR)⟩) rfl rfl (by decide +kernel)) (ai)))) (aj (aA 7 bN.nd (Bn rfl rfl T.Bi (bD (fsc:=au cJ) ["sender", "kept", "lost", "taken", "numbers", "own", "marked", "wait", "heard", "start"] ["letter"] 1 [] rfl rfl (br (ae 5)) (fun cl C s₀ H₀ ex=>⟨a7 0 (show (["letter"]:List Str).Nodup from by decide +kernel),bC,dY (aq (ae 0) (aC rfl T.M1)) (aq (ae 0) (aC rfl T.Bh))⟩) rfl rfl (by decide +kernel)) (le_int))) (aj (aA 8 bN.nd (aH (aa (dY (aJ (aq (ae 1) (aC rfl T.AV)) (aV a8 bJ rfl T.ef rfl (aa (ae 5) (ai)))) (ae 6)) (aa (aJ (aq (ae 1) (aC rfl T.vJ)) (ae 6)) (aa (aV (sE rfl) xC rfl T.Bi rfl (aa (aq (ae 1) (aC rfl T.Ie)) (aa (ae 7) (ai)))) (ai)))))) (aj (aA 9 bN.nd (aH (aa (aq (ae 1) (aC rfl T.bQ)) (aa (ao (xJ T) hr rfl (aa (ae 0) (aa (aq (ae 1) (aC rfl T.GL)) (ai)))) (ai))))) (ax (aG (aJ (aJ (aJ (ae 9) (fO (ae 1) (da (aC rfl T.wA)) (da (aC rfl T.mx)))) (aH (aa (aM aE aQ rfl T.aW rfl (aa (vY rfl T.wH rfl (aa (aJ (aq (ae 1) (aC rfl T.mx)) (aM aE aQ rfl T.aW rfl (aa (ae 4) (ai)))) (ai))) (ai))) (ai)))) (ae 8)))))))))
theorem bB:aI ["plan", "state", "senders", "names", "roads", "beats", "sent", "went", "events", "lost", "out", "way", "told", "taken", "ways", "after"] ["plan", "state"] (au cM):=by walk_at "sc"
theorem ml (T:Txt w.params K mg t):aR P w K mg base 7 "stepped" ["plan", "state"] L3.dh:=aL T.Ea T.D4 bB L3.vH L3.zH (fun _ _ _ _ _ _ _ _=>by walk_at "b2") fun _ _ _ _ _ _ hr hu=>
  aj (aA 2 bB.nd (aq (ae 0) (aC rfl T.tm))) (aj (aA 3 bB.nd (aM aE aQ rfl T.aW rfl (aa (bD (fsc:=au cM) ["plan", "state", "senders", "names", "roads", "beats", "sent", "went", "events", "lost", "out", "way", "told", "taken", "ways", "after"] ["sender"] 1 [] rfl rfl (br (ae 2)) (fun cl C s₀ H₀ ex=>⟨a7 0 (show (["sender"]:List Str).Nodup from by decide +kernel),bC,aq (ae 0) (aC rfl T.bQ)⟩) rfl rfl (by decide +kernel)) (ai)))) (aj (aA 4 bB.nd (aM (pI rfl) wg rfl T.FJ rfl (aa (bD (fsc:=au cM) ["plan", "state", "senders", "names", "roads", "beats", "sent", "went", "events", "lost", "out", "way", "told", "taken", "ways", "after"] ["sender"] 1 [] rfl rfl (br (ae 2)) (fun cl C s₀ H₀ ex=>⟨a7 0 (show (["sender"]:List Str).Nodup from by decide +kernel),bC,aH (aa (aq (ae 0) (aC rfl T.bQ)) (aa (aq (ae 0) (aC rfl T.IF)) (ai)))⟩) rfl rfl (by decide +kernel)) (ai)))) (aj (fz (fsc:=au cM) 5 bB.nd ["plan", "state", "senders", "names", "roads", "beats", "sent", "went", "events", "lost", "out", "way", "told", "taken", "ways", "after"] ["sender", "kept", "state", "plan"] 2 [1,0] rfl rfl (jd rfl T.qV (aa (ae 2) (aa (aq (ae 1) (aC rfl T.fX)) (ai)))) (fun cl C s₀ H₀ ex=>⟨gU rfl (bF 0 (show (["sender", "kept", "state", "plan"]:List Str).Nodup from by decide +kernel) (bF 1 (show (["sender", "kept", "state", "plan"]:List Str).Nodup from by decide +kernel) (fN))),bC,ao (IC T) hr rfl (aa (aq (ae 3) (aC rfl T.Ft)) (aa (ae 0) (aa (ae 1) (aa (ae 2) (ai)))))⟩) rfl rfl (by decide +kernel)) (aj (aA 6 bB.nd (ao (nZ T) hr rfl (aa (ae 2) (aa (bD (fsc:=au cM) ["plan", "state", "senders", "names", "roads", "beats", "sent", "went", "events", "lost", "out", "way", "told", "taken", "ways", "after"] ["kept", "numbers"] 2 [] rfl rfl (br (ae 5)) (fun cl C s₀ H₀ ex=>⟨gU rfl (bF 0 (show (["kept", "numbers"]:List Str).Nodup from by decide +kernel) (bF 1 (show (["kept", "numbers"]:List Str).Nodup from by decide +kernel) (fN))),bC,ae 1⟩) rfl rfl (by decide +kernel)) (ai))))) (aj (fz (fsc:=au cM) 7 bB.nd ["plan", "state", "senders", "names", "roads", "beats", "sent", "went", "events", "lost", "out", "way", "told", "taken", "ways", "after"] ["way", "kept", "names", "sent"] 2 [3,6] rfl rfl (jd rfl T.qV (aa (aq (ae 0) (aC rfl T.uT)) (aa (aq (ae 1) (aC rfl T.iY)) (ai)))) (fun cl C s₀ H₀ ex=>⟨gU rfl (bF 0 (show (["way", "kept", "names", "sent"]:List Str).Nodup from by decide +kernel) (bF 1 (show (["way", "kept", "names", "sent"]:List Str).Nodup from by decide +kernel) (fN))),bC,ao (Ha T) hr rfl (aa (ae 0) (aa (ae 2) (aa (ae 1) (aa (ae 3) (ai)))))⟩) rfl rfl (by decide +kernel)) (aj (Hv (fsc:=au cM) 8 bB.nd ["plan", "state", "senders", "names", "roads", "beats", "sent", "went", "events", "lost", "out", "way", "told", "taken", "ways", "after"] ["first", "letter"] 2 [] rfl rfl (br (ae 6)) (fun cl C s₀ H₀ ex=>⟨gU rfl (bF 0 (show (["first", "letter"]:List Str).Nodup from by decide +kernel) (bF 1 (show (["first", "letter"]:List Str).Nodup from by decide +kernel) (fN))),bC,aH (aa (le_str) (aa (aq (ae 1) (aC rfl T.bQ)) (aa (aq (ae 1) (aC rfl T.fQ)) (aa (ae 0) (ai)))))⟩) rfl rfl (by decide +kernel)) (aj (aA 9 bB.nd (fm (ai))) (aj (aA 10 bB.nd (fm (ai))) (aj (di PassesOwn.never rfl (jd rfl T.qV (aa (aq (ae 0) (aC rfl T.uT)) (aa (ae 7) (ai)))) (kr rfl (bX 11 bB.nd (bX 12 bB.nd (iO)))) (aj (cf (u4 (ae 8) (ao (vB T) hr rfl (aa (ae 11) (aa (ae 4) (aa (ae 12) (ai))))))) (aj (cf (u4 (ae 9) (aq (ae 12) (le_int)))) (ax (cf (u4 (ae 10) (aq (ae 12) (le_int)))))))) (aj (aA 13 bB.nd (D8 (fsc:=au cM) ["plan", "state", "senders", "names", "roads", "beats", "sent", "went", "events", "lost", "out", "way", "told", "taken", "ways", "after"] ["letter", "roads"] 1 [4] rfl rfl (ae 10) (fun cl C s₀ H₀ ex=>⟨a7 0 (show (["letter", "roads"]:List Str).Nodup from by decide +kernel),gv (nK (ao (iU T) hr rfl (aa (ae 1) (aa (ae 0) (ai)))) (c9)),ae 0⟩) rfl rfl (by decide +kernel))) (aj (fz (fsc:=au cM) 14 bB.nd ["plan", "state", "senders", "names", "roads", "beats", "sent", "went", "events", "lost", "out", "way", "told", "taken", "ways", "after"] ["way", "told", "roads", "out"] 2 [4,10] rfl rfl (jd rfl T.qV (aa (aq (ae 0) (aC rfl T.uT)) (aa (ae 7) (ai)))) (fun cl C s₀ H₀ ex=>⟨gU rfl (bF 0 (show (["way", "told", "roads", "out"]:List Str).Nodup from by decide +kernel) (bF 1 (show (["way", "told", "roads", "out"]:List Str).Nodup from by decide +kernel) (fN))),bC,ao (xc T) hr rfl (aa (ae 0) (aa (ae 2) (aa (ae 1) (aa (ae 3) (ai)))))⟩) rfl rfl (by decide +kernel)) (aj (fz (fsc:=au cM) 15 bB.nd ["plan", "state", "senders", "names", "roads", "beats", "sent", "went", "events", "lost", "out", "way", "told", "taken", "ways", "after"] ["sender", "beat", "lost", "taken"] 2 [9,13] rfl rfl (jd rfl T.qV (aa (ae 2) (aa (ae 5) (ai)))) (fun cl C s₀ H₀ ex=>⟨gU rfl (bF 0 (show (["sender", "beat", "lost", "taken"]:List Str).Nodup from by decide +kernel) (bF 1 (show (["sender", "beat", "lost", "taken"]:List Str).Nodup from by decide +kernel) (fN))),bC,ao (qZ T) hr rfl (aa (ae 0) (aa (aq (ae 1) (le_int)) (aa (ae 2) (aa (ae 3) (ai)))))⟩) rfl rfl (by decide +kernel)) (ax (aG (aH (aa (aH (aa (aM aE aQ rfl T.aW rfl (aa (ae 14) (ai))) (aa (aM aE aQ rfl T.aW rfl (aa (ae 15) (ai))) (ai)))) (aa (uD (ae 8)) (ai))))))))))))))))))
theorem cR:aI ["letters", "firsts", "lowered", "letter", "number"] ["letters", "firsts"] (au gT):=by walk_at "sc"
theorem gM (T:Txt w.params K mg t):aR P w K mg base 1 "letters_lowered" ["letters", "firsts"] bA:=aL T.lS T.lR cR kb kn (fun _ _ _ _ _ _ _ _=>by walk_at "b2") fun _ _ _ _ _ _ hr hu=>
  aj (aA 2 cR.nd (fm (ai))) (aj (di PassesOwn.never rfl (br (ae 0)) (dB 3 cR.nd) (aj (aA 4 cR.nd (dY (aq (ae 3) (aC rfl T.fQ)) (bR hu (ae 1) (aq (ae 3) (aC rfl T.bQ))))) (ax (cf (le_app (ae 2) (aJ (aJ (fO (ae 3) (fZ) (da (aC rfl T.fQ))) (aH (aa (ae 4) (ai)))) (fO (ae 3) (da (aJ (aC rfl T.fQ) (le_int))) (fZ)))))))) (ax (aG (aM aE aQ rfl T.aW rfl (aa (ae 2) (ai))))))
theorem fu:aI ["kept", "again", "lost"] ["kept"] (au dr):=by walk_at "sc"
theorem mj (T:Txt w.params K mg t):aR P w K mg base 1 "sender_lowered" ["kept"] bM:=aL T.lV T.mI fu kE kT (fun _ _ _ _ _ _ _ _=>by walk_at "b1") fun _ _ _ _ _ _ hr hu=>
  aj (aA 1 fu.nd (aM aE aQ rfl T.aW rfl (aa (bD (fsc:=au dr) ["kept", "again", "lost"] ["number", "kept"] 1 [0] rfl rfl (br (aq (ae 0) (aC rfl T.oI))) (fun cl C s₀ H₀ ex=>⟨a7 0 (show (["number", "kept"]:List Str).Nodup from by decide +kernel),bC,dY (ae 0) (aq (ae 1) (aC rfl T.km))⟩) rfl rfl (by decide +kernel)) (ai)))) (aj (aA 2 fu.nd (aM aE aQ rfl T.aW rfl (aa (bD (fsc:=au dr) ["kept", "again", "lost"] ["number", "kept"] 1 [0] rfl rfl (br (aq (ae 0) (aC rfl T.mx))) (fun cl C s₀ H₀ ex=>⟨a7 0 (show (["number", "kept"]:List Str).Nodup from by decide +kernel),bC,dY (ae 0) (aq (ae 1) (aC rfl T.km))⟩) rfl rfl (by decide +kernel)) (ai)))) (ax (aG (aJ (aJ (fO (ae 0) (fZ) (da (aC rfl T.km))) (aH (aa (le_int) (aa (aq (ae 0) (aC rfl T.mB)) (aa (ae 1) (aa (ae 2) (ai))))))) (fO (ae 0) (da (aC rfl T.AV)) (fZ))))))
theorem ja:aI ["state", "firsts", "ways", "kept"] ["state"] (au j8):=by walk_at "sc"
theorem sP (T:Txt w.params K mg t):aR P w K mg base 2 "like_of" ["state"] eK:=aL T.CU T.DN ja wb An (fun _ _ _ _ _ _ _ _=>by walk_at "b1") fun _ _ _ _ _ _ hr hu=>
  aj (aA 1 ja.nd (aM (pI rfl) wg rfl T.FJ rfl (aa (bD (fsc:=au j8) ["state", "firsts", "ways", "kept"] ["kept"] 1 [] rfl rfl (br (aq (ae 0) (aC rfl T.fX))) (fun cl C s₀ H₀ ex=>⟨a7 0 (show (["kept"]:List Str).Nodup from by decide +kernel),bC,aH (aa (aq (ae 0) (aC rfl T.bQ)) (aa (aq (ae 0) (aC rfl T.km)) (ai)))⟩) rfl rfl (by decide +kernel)) (ai)))) (aj (aA 2 ja.nd (fm (ai))) (aj (di PassesOwn.never rfl (br (aq (ae 0) (aC rfl T.iY))) (dB 3 ja.nd) (ax (cf (le_app (ae 2) (aH (aa (ao (gM T) hr rfl (aa (aq (ae 3) (aC rfl T.qT)) (aa (ae 1) (ai)))) (aa (ao (gM T) hr rfl (aa (aq (ae 3) (aC rfl T.kz)) (aa (ae 1) (ai)))) (aa (aq (ae 3) (aC rfl T.F9)) (ai))))))))) (ax (aG (aH (aa (aM aE aQ rfl T.aW rfl (aa (ae 2) (ai))) (aa (aM aE aQ rfl T.aW rfl (aa (bD (fsc:=au j8) ["state", "firsts", "ways", "kept"] ["kept"] 1 [] rfl rfl (br (aq (ae 0) (aC rfl T.fX))) (fun cl C s₀ H₀ ex=>⟨a7 0 (show (["kept"]:List Str).Nodup from by decide +kernel),bC,ao (mj T) hr rfl (aa (ae 0) (ai))⟩) rfl rfl (by decide +kernel)) (ai))) (ai))))))))
theorem l7:aI ["plan", "many", "state", "rows", "turn", "told"] ["plan", "many"] (au MZ):=by walk_at "sc"
theorem Sg (T:Txt w.params K mg t):aR P w K mg base 8 "run" ["plan", "many"] me:=aL T.Rf T.QY l7 JP Pc (fun _ _ _ _ _ _ _ _=>by walk_at "b2") fun _ _ _ _ _ _ hr hu=>
  aj (aA 2 l7.nd (ao (LM T) hr rfl (aa (ae 0) (ai)))) (aj (aA 3 l7.nd (fm (ai))) (aj (di PassesOwn.never rfl (jY rfl T.lN (ae 1)) (dB 4 l7.nd) (aj (aA 5 l7.nd (ao (ml T) hr rfl (aa (ae 0) (aa (ae 2) (ai))))) (aj (aA 2 l7.nd (aq (ae 5) (le_int))) (ax (cf (le_app (ae 3) (aq (ae 5) (le_int)))))))) (ax (aG (aH (aa (ae 2) (aa (uD (ae 3)) (ai))))))))
theorem nN:aI ["_law_number", "_law_turn", "_law_one"] ["_law_number", "_law_turn"] (au qc):=by walk_at "sc"
theorem rf (T:Txt w.params K mg t):aR P w K mg base 1 "_law_mix" ["_law_number", "_law_turn"] cj:=aL T.zk T.AZ nN uw wU (fun _ _ _ _ _ _ _ _=>by walk_at "b2") fun _ _ _ _ _ _ hr hu=>
  aj (aA 2 nN.nd (ie (le_mul (aJ (aJ (ie (ae 0) (le_int)) (le_mul (le_mul (le_int) (ae 1)) (ae 1))) (le_int)) (le_int)) (le_int))) (ax (aG (ie (le_mul (ae 2) (ae 2)) (le_int))))
theorem vP:aI ["_law_cells"] ["_law_cells"] (au oV):=by walk_at "sc"
theorem zU (T:Txt w.params K mg t):aR P w K mg base 1 "_law_pot" ["_law_cells"] eT:=aL T.yL T.AN vP u5 yG (fun _ _ _ _ _ _ _ _=>by walk_at "b1") fun _ _ _ _ _ _ hr hu=>
  ax (aG (Ja (lC (HU rfl rfl T.mK rfl (aa (ae 0) (ai))) (lC (le_int) (lC (le_int) (lC (le_int) (lC (GC) (Kw))))))))
theorem dF:aI ["_law_pot_here", "_law_many", "_law_digit", "_law_cell", "_law_at"] ["_law_pot_here", "_law_many"] (au nA):=by walk_at "sc"
theorem aF (T:Txt w.params K mg t):aR P w K mg base 2 "_law_take" ["_law_pot_here", "_law_many"] ay:=aL T.xD T.vX dF rR uC (fun _ _ _ _ _ _ _ _=>by walk_at "b2") fun _ _ _ _ _ _ hr hu=>
  aj (jc hu (ae 0) (le_str) (aJ (bR hu (ae 0) (le_str)) (le_int))) (aj (bT (LW.lt (AQ (mP (bR hu (ae 0) (le_str)) (le_int)) (uX (nj (bR hu (ae 0) (le_str)) (le_int))))) (aj (aA 2 dF.nd (ie (bR hu (ae 0) (le_str)) (ae 1))) (aj (jc hu (ae 0) (le_str) (iL (bR hu (ae 0) (le_str)) (ae 1))) (aj (jc hu (ae 0) (le_str) (aJ (bR hu (ae 0) (le_str)) (le_int))) (ax (aG (ae 2)))))) (aZ)) (aj (AK (aH (aa (le_int) (aa (le_int) (ai)))) (kr rfl (bX 3 dF.nd (bX 4 dF.nd (iO))))) (aj (bT (mP (aV a8 bJ rfl T.ef rfl (aa (bR hu (ae 0) (le_str)) (ai))) (le_int)) (aj (aA 4 dF.nd (ie (bR hu (ae 0) (le_str)) (aV a8 bJ rfl T.ef rfl (aa (bR hu (ae 0) (le_str)) (ai))))) (ax (aA 3 dF.nd (aq (bR hu (ae 0) (le_str)) (ae 4))))) (aZ)) (aj (bT (LW.lt (AQ (Mz (ae 3) (le_pow (le_int) (le_int))) (uX (KD hu (ae 4) (bR hu (ae 0) (le_str)))))) (aj (jc hu (bR hu (ae 0) (le_str)) (ae 4) (wK)) (aj (jc hu (ae 0) (le_str) (iL (ae 3) (ae 1))) (aj (jc hu (ae 0) (le_str) (le_int)) (ax (aG (ie (ae 3) (ae 1))))))) (aZ)) (ax (aG (ie (iL (ao (rf T) hr rfl (aa (ao (rf T) hr rfl (aa (ae 3) (aa (bR hu (ae 0) (le_str)) (ai)))) (aa (aJ (bR hu (ae 0) (le_str)) (le_int)) (ai)))) (le_int)) (ae 1))))))))
theorem iQ:aI ["_law_top", "_law_bottom", "_law_one", "_law_other"] ["_law_top", "_law_bottom"] (au mZ):=by walk_at "sc"
theorem m4 (T:Txt w.params K mg t):aR P w K mg base 1 "_law_part" ["_law_top", "_law_bottom"] L3.fF:=aL T.xH T.vh iQ L3.AD L3.CS (fun _ _ _ _ _ _ _ _=>by walk_at "b2") fun _ _ _ _ _ _ hr hu=>
  aj (A0 2 3 rfl iQ.nd (aa (ae 0) (aa (ae 1) (ai)))) (aj (ri PassesOwn.never (mP (ae 3) (le_int)) (ax (A0 2 3 rfl iQ.nd (aa (ae 3) (aa (ie (ae 2) (ae 3)) (ai)))))) (ax (aG (aH (aa (iL (ae 0) (ae 2)) (aa (iL (ae 1) (ae 2)) (ai)))))))
theorem b9:aI ["_law_pot_here", "_law_most_top", "_law_high", "_law_top", "_law_window", "_law_word", "_law_up", "_law_low"] ["_law_pot_here", "_law_most_top"] (au mW):=by walk_at "sc"
theorem xF (T:Txt w.params K mg t):aR P w K mg base 3 "_law_rule" ["_law_pot_here", "_law_most_top"] bI:=aL T.vN T.xQ b9 rW uN (fun _ _ _ _ _ _ _ _=>by walk_at "b2") fun _ _ _ _ _ _ hr hu=>
  aj (aA 2 b9.nd (aJ (le_int) (ao (aF T) hr rfl (aa (ae 0) (aa (ae 1) (ai)))))) (aj (aA 3 b9.nd (ao (m4 T) hr rfl (aa (aJ (le_mul (le_int) (ae 2)) (ao (aF T) hr rfl (aa (ae 0) (aa (le_int) (ai))))) (aa (le_int) (ai))))) (aj (aA 4 b9.nd (ao (m4 T) hr rfl (aa (aJ (le_int) (ao (aF T) hr rfl (aa (ae 0) (aa (dY (le_mul (le_int) (ae 2)) (le_int)) (ai))))) (aa (le_int) (ai))))) (aj (aA 5 b9.nd (aq (dZ (aa (le_str) (aa (le_str) (aa (le_str) (aa (le_str) (aa (le_str) (ai))))))) (ao (aF T) hr rfl (aa (ae 0) (aa (le_int) (ai)))))) (aj (bT (lt_eq hu (ae 5) (le_str)) (ax (aG (aH (aa (ae 5) (aa (ae 4) (ai)))))) (aZ)) (aj (aA 6 b9.nd (aq (dZ (aa (aH (aa (le_int) (aa (le_int) (ai)))) (aa (aH (aa (le_int) (aa (le_int) (ai)))) (aa (aH (aa (le_int) (aa (le_int) (ai)))) (aa (aH (aa (le_int) (aa (le_int) (ai)))) (aa (aH (aa (le_int) (aa (le_int) (ai)))) (ai))))))) (ao (aF T) hr rfl (aa (ae 0) (aa (le_int) (ai)))))) (aj (bT (lt_eq hu (ae 5) (le_str)) (ax (aA 6 b9.nd (aq (dZ (aa (aH (aa (le_int) (aa (le_int) (ai)))) (aa (aH (aa (le_int) (aa (le_int) (ai)))) (aa (aH (aa (le_int) (aa (le_int) (ai)))) (aa (aH (aa (le_int) (aa (le_int) (ai)))) (ai)))))) (ao (aF T) hr rfl (aa (ae 0) (aa (le_int) (ai))))))) (aZ)) (aj (bT (lt_eq hu (ae 5) (le_str)) (aj (aA 7 b9.nd (ao (aF T) hr rfl (aa (ae 0) (aa (le_int) (ai))))) (ax (aG (aH (aa (ae 5) (aa (ae 4) (aa (ae 6) (aa (ae 7) (aa (aJ (ae 7) (ao (aF T) hr rfl (aa (ae 0) (aa (le_int) (ai))))) (aa (ae 3) (ai))))))))))) (aZ)) (aj (bT (lt_eq hu (ae 5) (le_str)) (ax (aG (aH (aa (ae 5) (aa (ae 4) (aa (ae 6) (aa (aq (dZ (aa (aH (aa (le_int) (aa (le_int) (ai)))) (aa (aH (aa (le_int) (aa (le_int) (ai)))) (aa (aH (aa (le_int) (aa (le_int) (ai)))) (aa (aH (aa (le_int) (aa (le_int) (ai)))) (ai)))))) (ao (aF T) hr rfl (aa (ae 0) (aa (le_int) (ai))))) (aa (ae 3) (ai))))))))) (aZ)) (ax (aG (aH (aa (ae 5) (aa (ae 4) (aa (ae 6) (aa (aq (dZ (aa (aH (aa (le_int) (aa (le_int) (ai)))) (aa (aH (aa (le_int) (aa (le_int) (ai)))) (aa (aH (aa (le_int) (aa (le_int) (ai)))) (aa (aH (aa (le_int) (aa (le_int) (ai)))) (aa (aH (aa (le_int) (aa (le_int) (ai)))) (ai))))))) (ao (aF T) hr rfl (aa (ae 0) (aa (le_int) (ai))))) (aa (ae 3) (ai)))))))))))))))))
theorem cc:aI ["_law_pot_here", "_law_many", "_law_names", "_law_turn", "_law_ways_here", "_law_k", "_law_name", "_law_pace", "_law_room", "_law_mark"] ["_law_pot_here", "_law_many"] (au nS):=by walk_at "sc"
theorem wj (T:Txt w.params K mg t):aR P w K mg base 3 "_law_ways" ["_law_pot_here", "_law_many"] dJ:=aL T.vg T.xf cc rF uI (fun _ _ _ _ _ _ _ _=>by walk_at "b2") fun _ _ _ _ _ _ hr hu=>
  aj (aA 2 cc.nd (dZ (aa (le_str) (aa (le_str) (aa (le_str) (aa (le_str) (aa (le_str) (aa (le_str) (ai))))))))) (aj (aA 3 cc.nd (ao (aF T) hr rfl (aa (ae 0) (aa (le_int) (ai))))) (aj (aA 4 cc.nd (fm (ai))) (aj (di PassesOwn.never rfl (jY rfl T.lN (ae 1)) (dB 5 cc.nd) (aj (aA 6 cc.nd (aq (ae 2) (ie (aJ (ae 3) (ae 5)) (le_int)))) (aj (A0 7 8 rfl cc.nd (aa (aJ (le_int) (ao (aF T) hr rfl (aa (ae 0) (aa (le_int) (ai))))) (aa (aJ (le_int) (ao (aF T) hr rfl (aa (ae 0) (aa (le_int) (ai))))) (ai)))) (aj (aA 9 cc.nd (aq (dZ (aa (c9) (aa (ao (aF T) hr rfl (aa (ae 0) (aa (le_int) (ai)))) (ai)))) (ao (aF T) hr rfl (aa (ae 0) (aa (le_int) (ai)))))) (ax (cf (le_app (ae 4) (aH (aa (ae 6) (aa (ae 7) (aa (ae 8) (aa (ae 9) (aa (aq (dZ (aa (le_str) (aa (le_str) (ai)))) (ao (aF T) hr rfl (aa (ae 0) (aa (le_int) (ai))))) (ai)))))))))))))) (ax (aG (aM aE aQ rfl T.aW rfl (aa (ae 4) (ai))))))))
theorem i6:aI ["_law_pot_here", "_law_ways_here", "_law_road_here"] ["_law_pot_here", "_law_ways_here"] (au jr):=by walk_at "sc"
theorem vn (T:Txt w.params K mg t):aR P w K mg base 3 "_law_road" ["_law_pot_here", "_law_ways_here"] dI:=aL T.wX T.xb i6 rH tT (fun _ _ _ _ _ _ _ _=>by walk_at "b2") fun _ _ _ _ _ _ hr hu=>
  aj (fz (fsc:=au jr) 2 i6.nd ["_law_pot_here", "_law_ways_here", "_law_road_here"] ["_law_way", "_law_pot_here"] 1 [0] rfl rfl (br (ae 1)) (fun cl C s₀ H₀ ex=>⟨a7 0 (show (["_law_way", "_law_pot_here"]:List Str).Nodup from by decide +kernel),gv (lt_eq hu (ao (aF T) hr rfl (aa (ae 1) (aa (le_int) (ai)))) (le_int)),aq (ae 0) (le_int)⟩) rfl rfl (by decide +kernel)) (aj (bT (lt_eq hu (ae 2) (dZ (ai))) (ax (aA 2 i6.nd (dZ (aa (aq (aq (ae 1) (ao (aF T) hr rfl (aa (ae 0) (aa (aV a8 bJ rfl T.ef rfl (aa (ae 1) (ai))) (ai))))) (le_int)) (ai))))) (aZ)) (ax (aG (aM aE aQ rfl T.aW rfl (aa (ae 2) (ai))))))
theorem bE:aI ["_law_pot_here", "_law_wide", "_law_ways_here", "_law_many", "_law_names", "_law_senders", "_law_name", "_law_begin", "_law_left", "_law_rule_here"] ["_law_pot_here"] (au mV):=by walk_at "sc"
theorem yf (T:Txt w.params K mg t):aR P w K mg base 4 "_law_plan" ["_law_pot_here"] dR:=aL T.vA T.yp bE rL uv (fun _ _ _ _ _ _ _ _=>by walk_at "b1") fun _ _ _ _ _ _ hr hu=>
  aj (aA 1 bE.nd (le_eq hu (ao (aF T) hr rfl (aa (ae 0) (aa (le_int) (ai)))) (le_int))) (aj (aA 2 bE.nd (ao (wj T) hr rfl (aa (ae 0) (aa (fU (fG (ae 1)) (aJ (le_int) (ao (aF T) hr rfl (aa (ae 0) (aa (le_int) (ai))))) (aJ (le_int) (ao (aF T) hr rfl (aa (ae 0) (aa (le_int) (ai)))))) (ai))))) (aj (aA 3 bE.nd (fU (fG (ae 1)) (aJ (le_int) (ao (aF T) hr rfl (aa (ae 0) (aa (le_int) (ai))))) (aq (dZ (aa (le_int) (aa (le_int) (aa (le_int) (aa (le_int) (aa (le_int) (aa (le_int) (ai)))))))) (ao (aF T) hr rfl (aa (ae 0) (aa (le_int) (ai))))))) (aj (aA 4 bE.nd (dZ (aa (le_str) (aa (le_str) (aa (le_str) (aa (le_str) (aa (le_str) (aa (le_str) (aa (le_str) (aa (le_str) (ai))))))))))) (aj (aA 4 bE.nd (aq (dZ (aa (fO (ae 4) (fZ) (da (ae 3))) (aa (fO (ae 4) (da (dY (le_int) (ae 3))) (fZ)) (ai)))) (ao (aF T) hr rfl (aa (ae 0) (aa (le_int) (ai)))))) (aj (aA 5 bE.nd (fm (ai))) (aj (di PassesOwn.never rfl (br (ae 4)) (dB 6 bE.nd) (aj (aA 7 bE.nd (aq (dZ (aa (le_int) (aa (le_int) (aa (ao (aF T) hr rfl (aa (ae 0) (aa (le_int) (ai)))) (aa (ao (aF T) hr rfl (aa (ae 0) (aa (le_int) (ai)))) (ai)))))) (ao (aF T) hr rfl (aa (ae 0) (aa (le_int) (ai)))))) (aj (aA 8 bE.nd (aq (dZ (aa (c9) (aa (c9) (aa (c9) (aa (ao (aF T) hr rfl (aa (ae 0) (aa (le_int) (ai)))) (ai)))))) (ao (aF T) hr rfl (aa (ae 0) (aa (le_int) (ai)))))) (aj (aA 9 bE.nd (ao (xF T) hr rfl (aa (ae 0) (aa (fU (fG (ae 1)) (le_int) (le_int)) (ai))))) (ax (cf (le_app (ae 5) (aH (aa (ae 6) (aa (ao (vn T) hr rfl (aa (ae 0) (aa (ae 2) (ai)))) (aa (aJ (le_int) (ao (aF T) hr rfl (aa (ae 0) (aa (le_int) (ai))))) (aa (ae 7) (aa (ae 8) (aa (ae 9) (ai))))))))))))))) (ax (aG (aH (aa (aJ (le_int) (ao (aF T) hr rfl (aa (ae 0) (aa (le_int) (ai))))) (aa (ae 2) (aa (aM aE aQ rfl T.aW rfl (aa (ae 5) (ai))) (ai)))))))))))))
theorem kW:aI ["_law_one", "_law_due"] ["_law_one", "_law_due"] (au jM):=by walk_at "sc"
theorem mN {Pm:Params}(T:Txt Pm K mg t):Binds K t.hE ["_law_one", "_law_due"] []:=T.de.binds fun _ _ _ _ _ _ _ _=>by walk_at "b2"
theorem kf (T:Txt w.params K mg t):∀ n:Nat,ik P w K mg base CX0 (1+n) t.gO t.hE ["_law_one", "_law_due"] (lift K (df n))
  | 0=>RK T.de kW
  | n+1=>by
    refine FO (k:=1+n) (T:=jT (df n)) T.de kW (oq (n+1)) (fun cdv A outer s H E hr=>?_) (pU n)
    have hu:=hr.units
    exact aj (bT (fG (aV C0 (Ff _) rfl T.bx rfl (aa (ae 1) (aa (aH (aa (Mt rfl T.aW rfl) (aa (Mt rfl T.mK rfl) (ai)))) (ai))))) (aj (bT (LW.lt (wZ (yE hu (gB rfl T.bx rfl (ae 0) rfl T.aW rfl) (gB rfl T.bx rfl (ae 1) rfl T.aW rfl)) (qS (yE hu (gB rfl T.bx rfl (ae 0) rfl T.mK rfl) (gB rfl T.bx rfl (ae 1) rfl T.mK rfl))))) (ax (aG (wK))) (aZ)) (ax (aG (pY (le_eq hu (aV a8 bJ rfl T.ef rfl (aa (ae 0) (ai))) (aV a8 bJ rfl T.ef rfl (aa (ae 1) (ai)))) (qu (aV (DH rfl) JQ rfl T.Sd rfl (aa (bD (fsc:=au jM) ["_law_one", "_law_due"] ["_law_mine", "_law_its"] 2 [] rfl rfl (jd rfl T.qV (aa (ae 0) (aa (ae 1) (ai)))) (fun cl C s₀ H₀ ex=>⟨gU rfl (bF 0 (show (["_law_mine", "_law_its"]:List Str).Nodup from by decide +kernel) (bF 1 (show (["_law_mine", "_law_its"]:List Str).Nodup from by decide +kernel) (fN))),bC,BL (kf T n) (hr.mono (by omega)) rfl T.nh T.de.kp (mN T) (aa (ae 0) (aa (ae 1) (ai)))⟩) rfl rfl (by decide +kernel)) (ai)))))))) (aZ)) (aj (bT (nK (ae 1) (c9)) (ax (aG (Q7 (ae 0) (c9)))) (aZ)) (aj (bT (fG (gB rfl T.bx rfl (ae 1) rfl T.MQ rfl)) (ax (aG (pY (gB rfl T.bx rfl (ae 0) rfl T.MQ rfl) (qu (le_eq hu (ae 0) (ae 1)))))) (aZ)) (aj (bT (LW.lt (wZ (fG (gB rfl T.bx rfl (ae 1) rfl T.uE rfl)) (qS (fG (gB rfl T.bx rfl (ae 0) rfl T.uE rfl))))) (ax (aG (pY (gB rfl T.bx rfl (ae 1) rfl T.uE rfl) (pY (gB rfl T.bx rfl (ae 0) rfl T.uE rfl) (qu (le_eq hu (ae 0) (ae 1))))))) (aZ)) (ax (aG (pY (gB rfl T.bx rfl (ae 0) rfl T.RC rfl) (qu (le_eq hu (ae 0) (ae 1)))))))))
theorem de (T:Txt w.params K mg t):ik P w K mg base CX0 7 t.gO t.hE ["_law_one", "_law_due"] (lift K fk):=kf T 6
theorem js (T:Txt w.params K mg t):aR P w K mg base 7 "_law_same" ["_law_one", "_law_due"] fk:=⟨_,_,de T,T.nh,T.de.kp,mN T⟩
theorem bj:aI ["_law_state", "_law_shifts", "_law_ways_here", "_law_coming", "_law_standing", "_law_last", "_law_rows", "_law_letters", "_law_senders", "_law_sender", "_law_by", "_law_resent", "_law_gone"] ["_law_state", "_law_shifts"] (au fj):=by walk_at "sc"
theorem kH (T:Txt w.params K mg t):aR P w K mg base 1 "_law_moved" ["_law_state", "_law_shifts"] cv:=aL T.va T.uq bj pk rQ (fun _ _ _ _ _ _ _ _=>by walk_at "b2") fun _ _ _ _ _ _ hr hu=>
  aj (aA 2 bj.nd (fm (ai))) (aj (di PassesOwn.never rfl (br (aq (ae 0) (le_int))) (kr rfl (bX 3 bj.nd (bX 4 bj.nd (bX 5 bj.nd (iO))))) (aj (aA 6 bj.nd (fm (ai))) (aj (di PassesOwn.never rfl (br (aH (aa (ae 3) (aa (ae 4) (ai))))) (dB 7 bj.nd) (ax (cf (le_app (ae 6) (aM aE aQ rfl T.aW rfl (aa (bD (fsc:=au fj) ["_law_state", "_law_shifts", "_law_ways_here", "_law_coming", "_law_standing", "_law_last", "_law_rows", "_law_letters", "_law_senders", "_law_sender", "_law_by", "_law_resent", "_law_gone"] ["_law_row", "_law_shifts"] 1 [1] rfl rfl (br (ae 7)) (fun cl C s₀ H₀ ex=>⟨a7 0 (show (["_law_row", "_law_shifts"]:List Str).Nodup from by decide +kernel),bC,aJ (aH (aa (aq (ae 0) (le_int)) (aa (aJ (aq (ae 0) (le_int)) (bR hu (ae 1) (aq (ae 0) (le_int)))) (ai)))) (fO (ae 0) (da (le_int)) (fZ))⟩) rfl rfl (by decide +kernel)) (ai))))))) (ax (cf (le_app (ae 2) (aH (aa (aq (ae 6) (le_int)) (aa (aq (ae 6) (le_int)) (aa (ae 5) (ai))))))))))) (aj (aA 8 bj.nd (fm (ai))) (aj (di PassesOwn.never rfl (br (aq (ae 0) (le_int))) (dB 9 bj.nd) (aj (aA 10 bj.nd (bR hu (ae 1) (aq (ae 9) (le_int)))) (aj (aA 11 bj.nd (aM aE aQ rfl T.aW rfl (aa (bD (fsc:=au fj) ["_law_state", "_law_shifts", "_law_ways_here", "_law_coming", "_law_standing", "_law_last", "_law_rows", "_law_letters", "_law_senders", "_law_sender", "_law_by", "_law_resent", "_law_gone"] ["_law_number", "_law_by"] 1 [10] rfl rfl (br (aq (ae 9) (le_int))) (fun cl C s₀ H₀ ex=>⟨a7 0 (show (["_law_number", "_law_by"]:List Str).Nodup from by decide +kernel),bC,aJ (ae 0) (ae 1)⟩) rfl rfl (by decide +kernel)) (ai)))) (aj (aA 12 bj.nd (aM aE aQ rfl T.aW rfl (aa (bD (fsc:=au fj) ["_law_state", "_law_shifts", "_law_ways_here", "_law_coming", "_law_standing", "_law_last", "_law_rows", "_law_letters", "_law_senders", "_law_sender", "_law_by", "_law_resent", "_law_gone"] ["_law_number", "_law_by"] 1 [10] rfl rfl (br (aq (ae 9) (le_int))) (fun cl C s₀ H₀ ex=>⟨a7 0 (show (["_law_number", "_law_by"]:List Str).Nodup from by decide +kernel),bC,aJ (ae 0) (ae 1)⟩) rfl rfl (by decide +kernel)) (ai)))) (ax (cf (le_app (ae 8) (aJ (aJ (fO (ae 9) (fZ) (da (le_int))) (aH (aa (aJ (aq (ae 9) (le_int)) (ae 10)) (aa (aq (ae 9) (le_int)) (aa (ae 11) (aa (ae 12) (ai))))))) (fO (ae 9) (da (le_int)) (fZ)))))))))) (ax (aG (aH (aa (aM aE aQ rfl T.aW rfl (aa (ae 2) (ai))) (aa (aM aE aQ rfl T.aW rfl (aa (ae 8) (ai))) (ai)))))))))
theorem fg:aI ["_law_script", "_law_pot_here", "_law_plan_here", "_law_state", "_law_shifts", "_law_sender", "_law_some", "_law_moved_here", "_law_turn", "_law_events", "_law_others", "_law_due"] ["_law_script"] (au HC):=by walk_at "sc"
theorem Cu (T:Txt w.params K mg t):ik P w K mg base CX0 9 t.Iv t.ML ["_law_script"] (lift K fJ):=by
  refine FO (T:=FY) T.Cu fg uu (fun cdv A outer s H E hr=>?_) Nd
  have hu:=hr.units
  exact aj (aA 1 fg.nd (ao (zU T) hr rfl (aa (ae 0) (ai)))) (aj (aA 2 fg.nd (ao (yf T) hr rfl (aa (ae 1) (ai)))) (aj (aA 3 fg.nd (aq (ao (Sg T) hr rfl (aa (ae 2) (aa (ao (aF T) hr rfl (aa (ae 1) (aa (le_int) (ai)))) (ai)))) (le_int))) (aj (aA 4 fg.nd (GC)) (aj (di PassesOwn.never rfl (br (aq (ae 3) (le_int))) (dB 5 fg.nd) (aj (aA 6 fg.nd (dZ (aa (ao (aF T) hr rfl (aa (ae 1) (aa (le_int) (ai)))) (aa (dY (le_int) (aq (ae 5) (le_int))) (aa (le_mul (ao (aF T) hr rfl (aa (ae 1) (aa (le_pow (le_int) (le_int)) (ai)))) (le_pow (le_int) (le_int))) (ai)))))) (ax (jc hu (ae 4) (aq (ae 5) (le_int)) (aq (ae 6) (ao (aF T) hr rfl (aa (ae 1) (aa (le_int) (ai))))))))) (aj (aA 7 fg.nd (ao (kH T) hr rfl (aa (ae 3) (aa (ae 4) (ai))))) (aj (di PassesOwn.never rfl (jY rfl T.lN (le_int)) (dB 8 fg.nd) (aj (AK (ao (ml T) hr rfl (aa (ae 2) (aa (ae 3) (ai)))) (kr rfl (bX 3 fg.nd (bX 9 fg.nd (iO))))) (aj (AK (ao (ml T) hr rfl (aa (ae 2) (aa (ae 7) (ai)))) (kr rfl (bX 7 fg.nd (bX 10 fg.nd (iO))))) (aj (fz (fsc:=au HC) 11 fg.nd ["_law_script", "_law_pot_here", "_law_plan_here", "_law_state", "_law_shifts", "_law_sender", "_law_some", "_law_moved_here", "_law_turn", "_law_events", "_law_others", "_law_due"] ["_law_event", "_law_shifts"] 1 [4] rfl rfl (br (ae 9)) (fun cl C s₀ H₀ ex=>⟨a7 0 (show (["_law_event", "_law_shifts"]:List Str).Nodup from by decide +kernel),bC,aH (aa (aq (ae 0) (le_int)) (aa (aq (ae 0) (le_int)) (aa (aJ (aq (ae 0) (le_int)) (bR hu (ae 1) (aq (ae 0) (le_int)))) (aa (aq (ae 0) (le_int)) (ai)))))⟩) rfl rfl (by decide +kernel)) (aj (bT (LW.lt (wZ (yO (fG (ao (js T) hr rfl (aa (ae 10) (aa (ae 11) (ai)))))) (qS (yO (fG (ao (js T) hr rfl (aa (ae 7) (aa (ao (kH T) hr rfl (aa (ae 3) (aa (ae 4) (ai)))) (ai))))))))) (ax (aG (wK))) (aZ)) (ax (bT (yO (fG (ao (js T) hr rfl (aa (ao (sP T) hr rfl (aa (ae 7) (ai))) (aa (ao (sP T) hr rfl (aa (ae 3) (ai))) (ai)))))) (ax (aG (wK))) (aZ)))))))) (ax (aG (wK)))))))))
end
theorem all_mk {l:PySem.W.OpenLaw}{w:World}{K:PySem.W.Frag}{mg:Str→Option Value}{fa:Addr}{t:Adr}(hfa:mg "law" = some (.ref fa))(T:Txt w.params K mg t):∃ fd:FuncData,(∀ (s:Shared) (v:Value),BindsTo s fd ⟨[v],[]⟩ [("_law_script", v)])∧∀ base:Heap,K.In base→base.Ns mainGlobals mg→ik l.prog w K mg base CX0 9 fa fd ["_law_script"] (lift K fJ):=by
  have e:=hfa.symm.trans T.RM
  injection e with e
  injection e with e
  subst e
  obtain ⟨oc,od,kV,dc,pm,an,cd,ct,sl,ed,_,_⟩:=T.Cu.ex
  exact ⟨_,fun s v=>.of_eq (by rw[ed];rfl),fun base _ _=>Cu T⟩
end Kk
namespace PySem.W.Fast
def tw822805983572061018:=0
def tw1261509872973664736:=0
def tw16232232253716324864:=0
def tw14988301211031924384:=0
def tw15170408124339291904:=0
def tw3724318779710371648:=0
def tw13607177652557940640:=0
def tw10475852604153784577:=0
def tw13593034818034610657:=0
def tw9330111767035539586:=0
def tw11489204608464525506:=0
def tw12964511237202084674:=0
def tw17363405540613009507:=0
def tw6213809912112420099:=0
def tw10865793237595597187:=0
def tw18204292176597991043:=0
def tw14014193797343210307:=0
def tw11036933510230534148:=0
def tw16507894586888894852:=0
def tw1248705858183784836:=0
def tw4865189461786548740:=0
def tw5633308674160906437:=0
def tw13138574544278991173:=0
def tw8289031002701155845:=0
def tw2260064545520591878:=0
def tw14537968487563450470:=0
def tw2996239375312255622:=0
def tw9210729315264527174:=0
def tw391625143596802918:=0
def tw12101021922640397286:=0
def tw13734990420313661543:=0
def tw12268293132866038087:=0
def tw11102549480005352775:=0
def tw11650938507151751623:=0
def tw11827458195077769735:=0
def tw6181764564785287943:=0
def tw1938522014871711208:=0
def tw11882631738981685832:=0
def tw18422639504363664008:=0
def tw7849189469037903528:=0
def tw1025921214907274120:=0
def tw2835446042566161577:=0
def tw2574297545699393001:=0
def tw16960134765925496393:=0
def tw17857302493026004681:=0
def tw4122596310166995978:=0
def tw570344487402722570:=0
def tw15946785726234767658:=0
def tw15545570179290326314:=0
def tw10863008245805186506:=0
def tw17974112495166943690:=0
def tw13337315801162211050:=0
def tw17317942135949531946:=0
def tw15897990417139684234:=0
def tw11866231994304167787:=0
def tw15793727744849606539:=0
def tw12773748295663032299:=0
def tw8104538268983524331:=0
def tw2797705060945705068:=0
def tw3665221185688071308:=0
def tw9004331113017761964:=0
def tw6623524790719014253:=0
def tw10664257365399930573:=0
def tw12018991149467289453:=0
def tw3611568420019600269:=0
def tw10238553593407106254:=0
def tw1431325326583623886:=0
def tw4558867605536993134:=0
def tw6950346013552650543:=0
def tw8763948268821450063:=0
def tw11703977171654111791:=0
def tw8314013216381621039:=0
def tw1253472830385867824:=0
def tw8058785560436414832:=0
def tw4866725982743816688:=0
def tw13201332480385011312:=0
def tw12049476791486019504:=0
def tw13073061018549239409:=0
def tw3546198163087833809:=0
def tw11879533345289304785:=0
def tw17038374001021612275:=0
def tw222511632538680947:=0
def tw8118070688858795667:=0
def tw6426546574029196979:=0
def tw7332564099781505843:=0
def tw16190036719043955508:=0
def tw14314752557691548564:=0
def tw12380390119782307861:=0
def tw17450720107517342837:=0
def tw10544267559269193941:=0
def tw12751293476858349941:=0
def tw2458135270875948501:=0
def tw9989654273655135861:=0
def tw10589537818605671125:=0
def tw15940332845391227637:=0
def tw16743623159481616181:=0
def tw6147003970142413110:=0
def tw12441072846686802646:=0
def tw16708236397445332982:=0
def tw4550695665181399159:=0
def tw1993715007115813015:=0
def tw8944133576994056471:=0
def tw16070433697976961719:=0
def tw4465462070401610872:=0
def tw17265181453098759576:=0
def tw4364954988862091289:=0
def tw5177449266797547577:=0
def tw1081670762733332729:=0
def tw14965540225389411769:=0
def tw12371930297558647289:=0
def tw11447116268696580410:=0
def tw13764785078154106394:=0
def tw13783081593663003226:=0
def tw7790101019790132890:=0
def tw16566969912753668986:=0
def tw1817811522270556251:=0
def tw5399427643793644731:=0
def tw2471607276486080827:=0
def tw4326872931695338907:=0
def tw391247737816318491:=0
def tw1436958902075009915:=0
def tw4826750140601398171:=0
def tw7213128424232580124:=0
def tw8745706427880515644:=0
def tw14060487396359351708:=0
def tw17231094787782655388:=0
def tw11864579808220396988:=0
def tw9035733311277547964:=0
def tw3173792531157680349:=0
def tw7363579328180642077:=0
def tw15557722000381618621:=0
def tw7887092213538884125:=0
def tw6382838044984849438:=0
def tw5474293633422162974:=0
def tw2146372700785294462:=0
def tw2675707290576606782:=0
def tw13499997017301010174:=0
def tw2969444826897498910:=0
def tw13255520353937134494:=0
def tw6165563172911580255:=0
def tw6693217908212639359:=0
def tw1433819816546936703:=0
def tw15597988427819723743:=0
end PySem.W.Fast
open PySem PySem.W PyProof.Rows L2 L3
set_option maxRecDepth 100000 in
set_option maxHeartbeats 0 in
theorem PySem.Challenge.cw_swellways_k43_like_goes_on_holds : PySem.Challenge.rw_swellways_k43_like_goes_on.Holds := by
  w_on;o_law;k_head;(case hw=>w_witness2)
  k_fill
  refine L3.RW (l:=PySem.Challenge.rw_swellways_k43_like_goes_on) (k:=9) (sp:=Kk.fJ) (x := "_law_script") rfl rfl ⟨rfl,by decide,by decide⟩ (fun w h Y=>PySem.W.kIn_of Y) Kk.mw ?F
  case F=>
    intro w mg fa h KX G hmg
    refine' Kk.all_mk (t:=⟨_,_,_,_,_,_,_,_,_,_,_,_,_,_,_,_,_,_,_,_,_,_,_,_,_,_,_,_,_,_,_,_,_,_,_,_,_,_,_,_,_,_,_,_,_,_,_,_,_,_,_,_,_,_,_,_,_,_,_,_,_,_,_,_,_,_,_,_,_,_,_,_,_,_,_,_,_,_,_,_,_,_,_,_,_,_,_,_,_,_,_,_,_,_,_,_,_,_,_,_,_,_⟩) hmg ⟨mg_of KX G ?_,aS ?_ ?_ ?_,mg_of KX G ?_,aS ?_ ?_ ?_,mg_of KX G ?_,aS ?_ ?_ ?_,mg_of KX G ?_,aS ?_ ?_ ?_,mg_of KX G ?_,aS ?_ ?_ ?_,mg_of KX G ?_,aS ?_ ?_ ?_,mg_of KX G ?_,aS ?_ ?_ ?_,mg_of KX G ?_,aS ?_ ?_ ?_,mg_of KX G ?_,aS ?_ ?_ ?_,mg_of KX G ?_,aS ?_ ?_ ?_,mg_of KX G ?_,aS ?_ ?_ ?_,mg_of KX G ?_,aS ?_ ?_ ?_,mg_of KX G ?_,aS ?_ ?_ ?_,mg_of KX G ?_,aS ?_ ?_ ?_,mg_of KX G ?_,aS ?_ ?_ ?_,mg_of KX G ?_,aS ?_ ?_ ?_,mg_of KX G ?_,aS ?_ ?_ ?_,mg_of KX G ?_,aS ?_ ?_ ?_,mg_of KX G ?_,aS ?_ ?_ ?_,mg_of KX G ?_,aS ?_ ?_ ?_,mg_of KX G ?_,aS ?_ ?_ ?_,mg_of KX G ?_,aS ?_ ?_ ?_,mg_of KX G ?_,aS ?_ ?_ ?_,mg_of KX G ?_,aS ?_ ?_ ?_,mg_of KX G ?_,aS ?_ ?_ ?_,mg_of KX G ?_,aS ?_ ?_ ?_,mg_of KX G ?_,aS ?_ ?_ ?_,mg_of KX G ?_,aS ?_ ?_ ?_,mg_of KX G ?_,aS ?_ ?_ ?_,mg_of KX G ?_,aS ?_ ?_ ?_,mg_of KX G ?_,aS ?_ ?_ ?_,mg_of KX G ?_,aS ?_ ?_ ?_,mg_of KX G ?_,aS ?_ ?_ ?_,mg_of KX G ?_,aS ?_ ?_ ?_,mg_of KX G ?_,aS ?_ ?_ ?_,mg_of KX G ?_,aS ?_ ?_ ?_,mg_of KX G ?_,aS ?_ ?_ ?_,mg_of KX G ?_,aS ?_ ?_ ?_,mg_of KX G ?_,aS ?_ ?_ ?_,mg_of KX G ?_,aS ?_ ?_ ?_,mg_of KX G ?_,aS ?_ ?_ ?_,mg_of KX G ?_,aS ?_ ?_ ?_,mg_of KX G ?_,aS ?_ ?_ ?_,mg_of KX G ?_,aS ?_ ?_ ?_,mg_of KX G ?_,aS ?_ ?_ ?_,mg_of KX G ?_,aS ?_ ?_ ?_,mg_of KX G ?_,aS ?_ ?_ ?_,mg_of KX G ?_,aS ?_ ?_ ?_,mg_of KX G ?_,aS ?_ ?_ ?_,mg_of KX G ?_,aS ?_ ?_ ?_,mg_of KX G ?_,aS ?_ ?_ ?_,mg_none_of KX G ?_,mg_none_of KX G ?_,mg_none_of KX G ?_,mg_none_of KX G ?_,mg_none_of KX G ?_,mg_none_of KX G ?_,mg_none_of KX G ?_,mg_none_of KX G ?_,mg_none_of KX G ?_,mg_none_of KX G ?_,mg_none_of KX G ?_,mg_none_of KX G ?_,mg_none_of KX G ?_,mg_none_of KX G ?_,mg_none_of KX G ?_,mg_none_of KX G ?_,mg_none_of KX G ?_,bw KX G ?_,bw KX G ?_,bw KX G ?_,bw KX G ?_,bw KX G ?_,bw KX G ?_,bw KX G ?_,bw KX G ?_,zN (its:=#[.int 1 _,.int 2 _]) (xs:=[V.int 1,V.int 2]) KX G ?_ ?_ ?_ ?_ ?_ (show 2≤sizeLine by decide) (.cons ⟨_,rfl⟩ (.cons ⟨_,rfl⟩ (.nil))) (fun _=>.cons (.int _) (.cons (.int _) (.nil))),bw KX G ?_,bw KX G ?_,bw KX G ?_,bw KX G ?_,bw KX G ?_,bw KX G ?_,bw KX G ?_,bw KX G ?_,bw KX G ?_,bw KX G ?_,zN (its:=#[.int 0 _,.int 1 _]) (xs:=[V.int 0,V.int 1]) KX G ?_ ?_ ?_ ?_ ?_ (show 2≤sizeLine by decide) (.cons ⟨_,rfl⟩ (.cons ⟨_,rfl⟩ (.nil))) (fun _=>.cons (.int _) (.cons (.int _) (.nil))),bw KX G ?_,zN (its:=#[.int 1 _,.int 1 _]) (xs:=[V.int 1,V.int 1]) KX G ?_ ?_ ?_ ?_ ?_ (show 2≤sizeLine by decide) (.cons ⟨_,rfl⟩ (.cons ⟨_,rfl⟩ (.nil))) (fun _=>.cons (.int _) (.cons (.int _) (.nil))),bw KX G ?_,bw KX G ?_,bw KX G ?_,bw KX G ?_,bw KX G ?_,bw KX G ?_,bw KX G ?_,bw KX G ?_,bw KX G ?_,bw KX G ?_,bw KX G ?_,bw KX G ?_,bw KX G ?_⟩
    all_goals try first | k_is | rfl
