import PyProof.Rows.All
import Wide.All
import OpenK.AllK
import Wide.FinOn
import Lean
import PyProof.EqAt
import PyProof.EqKinds
import PyProof.TupleCall
import PyProof.P3Eq
import PyProof.NeKinds
import PyProof.NeData
import PyProof.ZipIter
import PyProof.EnumMake
import PyProof.EnumFor
import OpenK.KTop
import PyProof.IsRules
import PyProof.AttrMissHeap
import PyProof.DictUpdate
import KE.KDictOf
import PyProof.Rows.SortStr
import PyProof.FString5
import PyProof.StrOps
import PyProof.ListRange
import PyProof.TupleOfGen
import PyProof.Rows.SumAny
import PyProof.Rows.CallKwBuiltin
import PyProof.StrLoop
import PyProof.StrWalks
import PyProof.StrOps2
import PyProof.SliceStr2
import PyProof.StrBlockI
import PyProof.StrLaws
import PyProof.StrBlock
import PyProof.StrBlockL
import PyProof.StrCalls2
import KE.KStrOpen
import KE.KDictList
import PyProof.DictValues
import PyProof.DictTruth
import PySem.Challenge.RW_swellways_k37_whole_begins_and_ends
set_option Elab.async false
set_option linter.all false
set_option maxRecDepth 100000
set_option maxHeartbeats 4000000
namespace L2
open PySem PySem.Spec PyProof.Rows
abbrev Key:=Sum Int Str
def sA:Key→Value→Bool
  | .inl k,v=>Value.isInt k v
  | .inr x,v=>Value.isStrOf x v
def S5 (w:World):Key→Int
  | .inl k=>hashInt k
  | .inr x=>hashStr w x
theorem cf:∀ {k:Key} {v:Value},sA k v=true→(∃ i t,k=Sum.inl i∧v=Value.int i t)∨(∃ x t,k=Sum.inr x∧v=Value.str x t)
  | .inl i,v,h=>by
    obtain ⟨t,e⟩:=Value.isInt_shape (k:=i) (v:=v) h
    exact .inl ⟨i,t,rfl,e⟩
  | .inr x,v,h=>by
    obtain ⟨t,e⟩:=Value.isStrOf_shape (x:=x) (v:=v) h
    exact .inr ⟨x,t,rfl,e⟩
theorem DI (i:Int)(t:Tok):sA (.inl i) (.int i t)=true:=by simp[sA,Value.isInt]
theorem CM (x:Str)(t:Tok):sA (.inr x) (.str x t)=true:=by simp[sA,Value.isStrOf]
theorem Nh (a b:Int):decide ((Sum.inl a:Key)=Sum.inl b)=(a == b):=by
  by_cases e:a=b
  · subst e;simp
  · have h:¬ (Sum.inl a:Key)=Sum.inl b:=fun q=>e (Sum.inl.inj q)
    rw[decide_eq_false h]
    exact (beq_eq_false_iff_ne.mpr e).symm
theorem OI (a b:Str):decide ((Sum.inr a:Key)=Sum.inr b)=decide (a=b):=by
  by_cases e:a=b
  · subst e;simp
  · have h:¬ (Sum.inr a:Key)=Sum.inr b:=fun q=>e (Sum.inr.inj q)
    rw[decide_eq_false h,decide_eq_false e]
theorem OW (a:Int)(b:Str):decide ((Sum.inl a:Key)=Sum.inr b)=false:=decide_eq_false (fun q=>nomatch q)
theorem NA (a:Str)(b:Int):decide ((Sum.inr a:Key)=Sum.inl b)=false:=decide_eq_false (fun q=>nomatch q)
def ck (prog:Program)(w:World):PySem.KeyKind prog w Key where
  is:=sA
  hash:=S5 w
  inj:=fun v a b ha hb=>by
    rcases cf ha with ⟨i,t,rfl,rfl⟩ | ⟨x,t,rfl,rfl⟩
    · rcases cf hb with ⟨j,u,rfl,e⟩ | ⟨y,u,rfl,e⟩
      · injection e with e1 _;rw[e1]
      · exact nomatch e
    · rcases cf hb with ⟨j,u,rfl,e⟩ | ⟨y,u,rfl,e⟩
      · exact nomatch e
      · injection e with e1 _;rw[e1]
  byValue:=fun k v h=>by
    rcases cf h with ⟨i,t,rfl,rfl⟩ | ⟨x,t,rfl,rfl⟩ <;> rfl
  pyHash:=fun hv h=>by
    rcases cf hv with ⟨i,t,rfl,rfl⟩ | ⟨x,t,rfl,rfl⟩
    · exact wpAny_pyHash_int h
    · exact wpAny_pyHash_str h
  eqBool:=fun hu hv h=>by
    rcases cf hu with ⟨i,t,rfl,rfl⟩ | ⟨x,t,rfl,rfl⟩
    · rcases cf hv with ⟨j,u,rfl,rfl⟩ | ⟨y,u,rfl,rfl⟩
      · rw[Nh] at h;exact wpAny_eqBool_int h
      · rw[OW] at h;exact SeqAt.EqAt.int_str i t y u _ _ _ _ h
    · rcases cf hv with ⟨j,u,rfl,rfl⟩ | ⟨y,u,rfl,rfl⟩
      · rw[NA] at h;exact SeqAt.EqAt.str_int x t j u _ _ _ _ h
      · rw[OI] at h;exact wpAny_eqBool_str h
  «strs»:=fun k x t v h=>by
    rcases cf h with ⟨i,u,rfl,e⟩ | ⟨y,u,rfl,e⟩
    · exact nomatch e
    · injection e with e1 _
      subst e1
      cases v<;>rfl
theorem wG (prog:Program)(w:World)(i:Int)(t:Tok):(ck prog w).is (.inl i) (.int i t)=true:=DI i t
theorem wq (prog:Program)(w:World)(x:Str)(t:Tok):(ck prog w).is (.inr x) (.str x t)=true:=CM x t
end L2
namespace L2
open PySem PySem.Spec PyProof.Rows
inductive V where
  | non | bl (b:Bool) | int (i:Int) | str (x:Str) | byt (b:Array UInt8) | flt (b:UInt64) | ref (a:Addr) | ty (n:String)
  deriving DecidableEq
def RelV:V→Value→Prop
  | .non,u=>u=Value.none
  | .bl b,u=>u=Value.bool b
  | .int i,u=>∃ t,u=Value.int i t
  | .str x,u=>∃ t,u=Value.str x t
  | .byt b,u=>∃ t,u=Value.bytes b t
  | .flt b,u=>∃ t,u=Value.float b t
  | .ref a,u=>u=Value.ref a
  | .ty n,u=>u=Value.type n
abbrev Vals:List V→List Value→Prop:=Paired RelV
theorem Vals.length {xs:List V}{us:List Value}(r:Vals xs us):xs.length=us.length:=Paired.length r
theorem Vals.get:∀ {xs:List V} {us:List Value} {i:Nat} {x:V},Vals xs us→xs[i]? = some x→∃ u,us[i]? = some u∧RelV x u
  | _,_,_,_,.nil,e=>by simp at e
  | _,_,0,_,.cons r _,e=>by simp at e;subst e;exact ⟨_,rfl,r⟩
  | _,_,i+1,x,.cons _ t,e=>by
    obtain ⟨u,h1,h2⟩:=Vals.get (i:=i) (x:=x) t (by simpa using e)
    exact ⟨u,by simpa using h1,h2⟩
theorem Vals.set {x:V}{u:Value}(r:RelV x u):∀ {xs:List V} {us:List Value} (i:Nat),Vals xs us→Vals (xs.set i x) (us.set i u)
  | _,_,_,.nil=>.nil
  | _,_,0,.cons _ t=>.cons r t
  | _,_,i+1,.cons q t=>.cons q (Vals.set r i t)
theorem Vals.append:∀ {xs ys:List V} {us ws:List Value},Vals xs us→Vals ys ws→Vals (xs++ys) (us++ws)
  | _,_,_,_,.nil,s=>s
  | _,_,_,_,.cons r t,s=>.cons r (Vals.append t s)
theorem Vals.take:∀ {xs:List V} {us:List Value} (n:Nat),Vals xs us→Vals (xs.take n) (us.take n)
  | _,_,0,_=>.nil
  | _,_,_+1,.nil=>.nil
  | _,_,n+1,.cons r t=>.cons r (Vals.take n t)
theorem Vals.drop:∀ {xs:List V} {us:List Value} (n:Nat),Vals xs us→Vals (xs.drop n) (us.drop n)
  | _,_,0,r=>r
  | _,_,_+1,.nil=>.nil
  | _,_,n+1,.cons _ t=>Vals.drop n t
theorem Vals.none_of:∀ {xs:List V} {us:List Value} {i:Nat},Vals xs us→xs[i]? = none→us[i]? = none:=fun {xs us i} r e=>by
  have h1:=r.length
  have h2:xs.length≤i:=List.getElem?_eq_none_iff.mp e
  exact List.getElem?_eq_none_iff.mpr (by omega)
def lS:Option V→Option Value→Prop
  | some v,some u=>RelV v u
  | none,none=>True
  | _,_=>False
def KV {κ:Type}:List (κ×V)→List (κ×Value)→Prop:=Paired fun (p:κ×V) (q:κ×Value)=>p.1=q.1∧RelV p.2 q.2
def kV:Key→V
  | .inl i=>.int i
  | .inr x=>.str x
inductive HO where
    | lst (xs:List V)
    | tup (xs:List V)
    | dK (kvs:List (Key×V)) | dT (kvs:List (List Key×V))
    | set (S:Int→Bool) (n:Nat)
    | ins (C dx:Addr) (fs:List (Str×V))
    | own (x:Addr)
    | xd (fs:List (Str×V))
    | met (f x:Addr)
    | rng (lo hi:Int)
    | frz (o:Obj) (u:HO)
    | tbl (ps:Array Value)
    | ext (φ:Heap→Prop)
abbrev Hp:=Addr→Option HO
def upd (H:Hp)(a:Addr)(o:HO):Hp:=fun b=>if b=a then some o else H b
theorem aL {H:Hp}{a:Addr}{o:HO}:upd H a o a=some o:=by unfold upd;rw[if_pos rfl]
theorem aM {H:Hp}{a b:Addr}{o:HO}(h:b≠a):upd H a o b=H b:=by unfold upd;rw[if_neg h]
theorem u6 {H:Hp}{a:Addr}{o u:HO}:upd (upd H a o) a u=upd H a u:=by
  funext b;unfold upd;split<;>rfl
theorem Q6 {H:Hp}{a b:Addr}{o u:HO}(h:H a=some o)(h':H b=some u)(d:o≠u):a≠b:=by
  intro e;subst e;rw[h] at h';exact d (Option.some.inj h')
theorem ba {H:Hp}{a b:Addr}{o:HO}(h:H a=some o)(h':H b=none):a≠b:=by
  intro e;subst e;rw[h] at h';cases h'
def uK (h:Heap)(a:Addr)(items:Array Value):Prop:=∃ n,h.get? a=some { cls:=.type "tuple", data:=.seq items n }
theorem uK.tup {h:Heap}{a:Addr}{items:Array Value}(p:uK h a items):IsTup h a items:=by obtain ⟨n,e⟩:=p;exact ⟨_,e,rfl,n,rfl⟩
theorem uK.new (h:Heap)(items:Array Value):uK (h.push { cls:=.type "tuple", data:=.seq items }) h.objs.size items:=⟨_,Heap.get?_push_size _ rfl⟩
section
variable (P:Program) (w:World)
def dA (H:Hp)(h:Heap)(a:Addr):HO→Prop
  | .lst xs=>xs.length≤sizeLine∧∃ (its:List Value) (n:Nat),Vals xs its∧h.get? a=some { cls:=.type "list", data:=.seq its.toArray n }
  | .tup xs=>xs.length≤sizeLine∧∃ its:List Value,Vals xs its∧uK h a its.toArray
  | .dK kvs=>kvs.length≤sizeLine∧(a == sysModules)=false∧∃ vs,KV kvs vs∧h.DictOf (ck P w) a vs
  | .dT kvs=>kvs.length≤sizeLine∧(a == sysModules)=false∧∃ xs:List (List Key×Addr×Value),
      Paired (fun (p:List Key×V) (q:List Key×Addr×Value)=>p.1=q.1∧H q.2.1=some (.tup (p.1.map kV))∧RelV p.2 q.2.2) kvs xs∧
      ∃ o es ep,h.get? a=some o∧o.ExactDict∧o.data=.dict es ep∧es.toList=xs.map (entryOfKey (tupleKind (ck P w)))∧(xs.map (·.1)).Nodup
  | .set S n=>h.SetOf (intKind P w) a S n
  | .ins C dx fs=>H dx=some (.own a)∧fs.length≤1000∧dx≠a∧h.get? a=some (PySem.W.instObj C dx)∧
      ∃ mA,h.Ns1 dx mA∧(∀ f,lS (fs.lookup f) (mA f))∧PySem.Within mA (fs.map (·.1))
  | .own _=>∃ o,h.get? a=some o
  | .xd fs=>∃ mA,h.Ns1 a mA∧∀ f,lS (fs.lookup f) (mA f)
  | .rng lo hi=>∃ t u v,h.get? a=some { cls:=.type "range", data:=.fields #[.int lo t,.int hi u,.int 1 v] }
  | .frz o u=>h.get? a=some o∧dA H h a u
  | .tbl ps=>h.get? a=some { cls:=.none,data:=.fields ps }
  | .met f x=>h.get? a=some (PySem.W.methodObj (.ref f) (.ref x))
  | .ext φ=>φ h∧(∃ o,h.get? a=some o)∧∀ h1 h2:Heap,φ h1→(∀ o,h1.get? a=some o→h2.get? a=some o)→φ h2
def HOk (H:Hp)(h:Heap):Prop:=∀ a o,H a=some o→dA P w H h a o
end
section
variable {P:Program} {w:World} {H H':Hp} {h h':Heap} {a:Addr} {o:HO}
theorem dA.lt (x:dA P w H h a o):a < h.objs.size:=by
  cases o with
  | lst xs=>obtain ⟨_,_,_,_,e⟩:=x;exact Heap.lt_size e
  | tup xs=>obtain ⟨_,_,_,p⟩:=x;exact p.tup.lt
  | dK kvs=>obtain ⟨_,_,_,_,o,_,_,e,_⟩:=x;exact Heap.lt_size e
  | dT kvs=>obtain ⟨_,_,_,_,o,_,_,e,_⟩:=x;exact Heap.lt_size e
  | set S n=>obtain ⟨o,_,_,_,e,_⟩:=x;exact Heap.lt_size e
  | ins C dx fs=>obtain ⟨_,_,_,e,_⟩:=x;exact Heap.lt_size e
  | own y=>obtain ⟨_,e⟩:=x;exact Heap.lt_size e
  | xd fs=>obtain ⟨_,⟨_,_,_,e,_⟩,_⟩:=x;exact Heap.lt_size e
  | rng lo hi=>obtain ⟨_,_,_,e⟩:=x;exact Heap.lt_size e
  | frz ob u=>obtain ⟨e,_⟩:=x;exact Heap.lt_size e
  | tbl ps=>exact Heap.lt_size (show h.get? a=some _ from x)
  | met f y=>exact Heap.lt_size (show h.get? a=some _ from x)
  | ext φ=>obtain ⟨_,⟨_,e⟩,_⟩:=x;exact Heap.lt_size e
theorem Paired.MK {α β:Type}{F G:α→β→Prop}:∀ {l₁:List α} {l₂:List β},Paired F l₁ l₂→(∀ a b,F a b→G a b)→Paired G l₁ l₂
  | _,_,.nil,_=>.nil
  | _,_,.cons r t,f=>.cons (f _ _ r) (Paired.MK t f)
theorem dA.ly (x:dA P w H h a o)(k:∀ b u,(b=a∨H b=some (.own a))→h.get? b=some u→h'.get? b=some u)
    (ho:∀ b,H b=some (.own a)→H' b=some (.own a)) (ht:∀ b xs,H b=some (.tup xs)→H' b=some (.tup xs)):dA P w H' h' a o:=by
  induction o with
  | lst xs=>obtain ⟨z,its,n,r,e⟩:=x;exact ⟨z,its,n,r,k _ _ (.inl rfl) e⟩
  | tup xs=>obtain ⟨z,its,r,m,e⟩:=x;exact ⟨z,its,r,m,k _ _ (.inl rfl) e⟩
  | dK kvs=>obtain ⟨z,y,vs,r,ob,es,ep,e,c⟩:=x;exact ⟨z,y,vs,r,ob,es,ep,k _ _ (.inl rfl) e,c⟩
  | dT kvs=>
    obtain ⟨z,y,xs,r,ob,es,ep,e,c⟩:=x
    exact ⟨z,y,xs,Paired.MK r fun p q z=>⟨z.1,ht _ _ z.2.1,z.2.2⟩,ob,es,ep,k _ _ (.inl rfl) e,c⟩
  | set S n=>obtain ⟨ob,es,ep,t,e,c⟩:=x;exact ⟨ob,es,ep,t,k _ _ (.inl rfl) e,c⟩
  | ins C dx fs=>
    obtain ⟨d,z,ne,e,mA,⟨od,es,ep,e2,c⟩,r⟩:=x
    exact ⟨ho _ d,z,ne,k _ _ (.inl rfl) e,mA,⟨od,es,ep,k _ _ (.inr d) e2,c⟩,r⟩
  | own y=>obtain ⟨ob,e⟩:=x;exact ⟨ob,k _ _ (.inl rfl) e⟩
  | xd fs=>obtain ⟨mA,⟨od,es,ep,e,c⟩,r⟩:=x;exact ⟨mA,⟨od,es,ep,k _ _ (.inl rfl) e,c⟩,r⟩
  | rng lo hi=>obtain ⟨t,u,v,e⟩:=x;exact ⟨t,u,v,k _ _ (.inl rfl) e⟩
  | frz ob u ih=>obtain ⟨e,q⟩:=x;exact ⟨k _ _ (.inl rfl) e,ih q⟩
  | tbl ps=>
    have e:h.get? a=some { cls:=.none,data:=.fields ps }:=x
    show h'.get? a=some { cls:=.none,data:=.fields ps }
    exact k a _ (.inl rfl) e
  | met f y=>
    have e:h.get? a=some (PySem.W.methodObj (.ref f) (.ref y)):=x
    show h'.get? a=some (PySem.W.methodObj (.ref f) (.ref y))
    exact k a _ (.inl rfl) e
  | ext φ=>obtain ⟨p,⟨o,e⟩,st⟩:=x;exact ⟨st _ _ p fun o q=>k _ _ (.inl rfl) q,⟨o,k _ _ (.inl rfl) e⟩,st⟩
theorem HOk.lt (x:HOk P w H h)(e:H a=some o):a < h.objs.size:=(x a o e).lt
theorem HOk.fresh (x:HOk P w H h)(e:h.objs.size≤a):H a=none:=by
  cases q:H a with
  | none=>rfl
  | some u=>exact absurd (Nat.lt_of_lt_of_le (x.lt q) e) (Nat.lt_irrefl _)
theorem HOk.kept (x:HOk P w H h)(k:∀ b u,h.get? b=some u→h'.get? b=some u):HOk P w H h':=fun a o e=>
  (x a o e).ly (fun b u _ q=>k b u q) (fun _ q=>q) fun _ _ q=>q
theorem HOk.laid (x:HOk P w H h)(k:∀ b u,h.get? b=some u→h'.get? b=some u)(hp:h.objs.size≤a)(new:dA P w (upd H a o) h' a o):HOk P w (upd H a o) h':=fun b u e=>by
  have hn:=x.fresh hp
  by_cases hb:b=a
  · subst hb;rw[aL] at e;cases e;exact new
  · rw[aM hb] at e
    exact (x b u e).ly (fun c v _ q=>k c v q) (fun c q=>by rw[aM (ba q hn)];exact q) fun c xs q=>by rw[aM (ba q hn)];exact q
end
def Rd (H:Hp)(a:Addr)(u:HO):Prop:=H a=some u∨∃ o,H a=some (.frz o u)
theorem Rd.of {H:Hp}{a:Addr}{u:HO}(h:H a=some u):Rd H a u:=.inl h
theorem Rd.ok {P:Program}{w:World}{H:Hp}{h:Heap}{a:Addr}{u:HO}(r:Rd H a u)(x:HOk P w H h):dA P w H h a u:=by
  rcases r with r | ⟨o,r⟩
  · exact x a u r
  · obtain ⟨_,q⟩:=x a _ r
    exact q
def Mut:Option HO→Prop
  | some (.lst _)=>True
  | some (.dK _)=>True
  | some (.dT _)=>True
  | some (.set _ _)=>True
  | some (.ins _ _ _)=>True
  | some (.ext _)=>True
  | _=>False
section
variable {P:Program} {w:World} {H:Hp} {h h':Heap} {x e:Addr} {o':HO}
theorem HOk.write (ok:HOk P w H h)(mu:Mut (H x))(he:e=x∨H e=some (.own x))(k:∀ b u,b≠e→h.get? b=some u→h'.get? b=some u)(heo:∃ u,h'.get? e=some u)
    (new:dA P w (upd H x o') h' x o'):HOk P w (upd H x o') h':=fun b u q=>by
  have QV:∀ c y,H c=some (.own y)→c≠x:=fun c y r z=>by subst z;rw[r] at mu;exact mu
  have RK:∀ c xs,H c=some (.tup xs)→c≠x:=fun c xs r z=>by subst z;rw[r] at mu;exact mu
  by_cases hb:b=x
  · subst hb;rw[aL] at q;cases q;exact new
  · rw[aM hb] at q
    by_cases hbe:b=e
    · have q':H b=some (.own x):=by
        rcases he with z | z
        · exact absurd (hbe.trans z) hb
        · rw[hbe];exact z
      rw[q] at q';cases q'
      obtain ⟨v,hv⟩:=heo
      exact ⟨v,by rw[hbe];exact hv⟩
    · refine (ok b u q).ly (fun c v hc r=>k c v ?_ r) (fun c r=>by rw[aM (QV c b r)];exact r) fun c xs r=>by rw[aM (RK c xs r)];exact r
      rcases hc with rfl | hc
      · exact hbe
      · rintro rfl
        rcases he with z | z
        · exact QV c b hc z
        · rw[hc] at z;cases z;exact hb rfl
end
structure Un (fs ex:List Addr) (H H':Hp) (h h':Heap):Prop where
  keep:∀ b o,h.get? b=some o→H b=none→b ∉ fs→b ∉ ex→h'.get? b=some o
  slot:∀ b o,h.get? b=some o→H b=none→b∈fs→b ∉ ex→∃ sl,h'.get? b=some { o with slots:=sl }
  free:∀ b o,h.get? b=some o→H b=none→b ∉ ex→H' b=none
  there:∀ b o,h.get? b=some o→b ∉ ex→∃ o',h'.get? b=some o'
  nQ:∀ b xs,H b=some (.tup xs)→H' b=some (.tup xs)
  mF:∀ b o u,H b=some (.frz o u)→H' b=some (.frz o u)
  oj:∀ b ps,H b=some (.tbl ps)→∃ more,H' b=some (.tbl (ps++more))
section
variable {fs fs' ex ex':List Addr} {H H1 H2:Hp} {h h1 h2 h':Heap} {a x e:Addr} {o:HO}
theorem Un.any (u:Un fs ex H H1 h h1){b:Addr}{ob:Obj}(q:h.get? b=some ob)(n:H b=none)(hx:b ∉ ex):∃ sl,h1.get? b=some { ob with slots:=sl }:=by
  by_cases hb:b∈fs
  · exact u.slot b ob q n hb hx
  · exact ⟨ob.slots,u.keep b ob q n hb hx⟩
theorem Un.trans (a:Un fs ex H H1 h h1)(b:Un fs ex H1 H2 h1 h2):Un fs ex H H2 h h2 where
  keep:=fun c ob q n hc hx=>b.keep c ob (a.keep c ob q n hc hx) (a.free c ob q n hx) hc hx
  slot:=fun c ob q n hc hx=>by
    obtain ⟨sl,e1⟩:=a.slot c ob q n hc hx
    obtain ⟨sl',e2⟩:=b.slot c _ e1 (a.free c ob q n hx) hc hx
    exact ⟨sl',e2⟩
  free:=fun c ob q n hx=>by
    obtain ⟨o',e1⟩:=a.there c ob q hx
    exact b.free c o' e1 (a.free c ob q n hx) hx
  there:=fun c ob q hx=>by
    obtain ⟨o',e1⟩:=a.there c ob q hx
    exact b.there c o' e1 hx
  nQ:=fun c xs q=>b.nQ c xs (a.nQ c xs q)
  mF:=fun c ob xs q=>b.mF c ob xs (a.mF c ob xs q)
  oj:=fun c ps q=>by
    obtain ⟨m1,e1⟩:=a.oj c ps q
    obtain ⟨m2,e2⟩:=b.oj c _ e1
    exact ⟨m1++m2,by rw[e2,Array.append_assoc]⟩
theorem Un.kept (k:∀ b u,h.get? b=some u→h'.get? b=some u):Un fs ex H H h h':=
  ⟨fun b ob q _ _ _=>k b ob q,fun b ob q _ _ _=>⟨ob.slots,k b ob q⟩,fun _ _ _ n _=>n,fun b ob q _=>⟨ob,k b ob q⟩,fun _ _ q=>q,fun _ _ _ q=>q,fun _ ps q=>⟨#[],by rw[q];simp⟩⟩
theorem Un.refl:Un fs ex H H h h:=Un.kept fun _ _ q=>q
theorem Un.laid (k:∀ b u,h.get? b=some u→h'.get? b=some u)(hp:h.objs.size≤a)(hn:H a=none):Un fs ex H (upd H a o) h h' where
  keep:=fun b u q _ _ _=>k b u q
  slot:=fun b u q _ _ _=>⟨u.slots,k b u q⟩
  free:=fun b u q n _=>by rw[aM (Nat.ne_of_lt (Nat.lt_of_lt_of_le (Heap.lt_size q) hp))];exact n
  there:=fun b u q _=>⟨u,k b u q⟩
  nQ:=fun b xs q=>by rw[aM (ba q hn)];exact q
  mF:=fun b u xs q=>by rw[aM (ba q hn)];exact q
  oj:=fun b ps q=>⟨#[],by rw[aM (ba q hn),q];simp⟩
theorem Un.write (mu:Mut (H x))(he:e=x∨H e=some (.own x))(k:∀ b u,b≠e→h.get? b=some u→h'.get? b=some u)(heo:∃ u,h'.get? e=some u):Un fs ex H (upd H x o) h h':=by
  have hx:∀ b,H b=none→b≠x:=fun b n z=>by subst z;rw[n] at mu;exact mu
  have hb:∀ b,H b=none→b≠e:=fun b n z=>by
    subst z
    rcases he with r | r
    · exact hx b n r
    · rw[n] at r;cases r
  have hm:∀ b u,H b=some u→¬ Mut (some u)→b≠x:=fun b u q nm z=>by subst z;rw[q] at mu;exact nm mu
  refine ⟨fun b u q n _ _=>k b u (hb b n) q,fun b u q n _ _=>⟨u.slots,k b u (hb b n) q⟩,fun b u q n _=>by rw[aM (hx b n)];exact n,fun b u q _=>?_,
    fun b xs q=>by rw[aM (hm b _ q fun z=>z)];exact q,fun b u xs q=>by rw[aM (hm b _ q fun z=>z)];exact q,fun b ps q=>⟨#[],by rw[aM (hm b _ q fun z=>z),q];simp⟩⟩
  by_cases hbe:b=e
  · subst hbe;exact heo
  · exact ⟨u,k b u hbe q⟩
theorem Un.mono (u:Un fs ex H H1 h h1)(hs:∀ b∈fs,b∈fs')(hx:∀ b∈ex,b∈ex'):Un fs' ex' H H1 h h1:=
  ⟨fun b ob q n hb he=>u.keep b ob q n (fun z=>hb (hs b z)) fun z=>he (hx b z),fun _ _ q n _ he=>u.any q n fun z=>he (hx _ z),fun b ob q n he=>u.free b ob q n fun z=>he (hx b z),fun b ob q he=>u.there b ob q fun z=>he (hx b z),u.nQ,u.mF,u.oj⟩
end
def trk (h:Heap)(H:Hp):List Addr:=(List.range h.objs.size).filter fun a=>(H a).isSome
def uP (h:Heap)(H:Hp):Heap:=PySem.W.hideAll h (trk h H)
theorem CY (h:Heap)(H:Hp):(uP h H).objs.size=h.objs.size:=PySem.W.hideAll_size _ _
theorem GA {h:Heap}{H:Hp}{b:Addr}{o:Obj}(e:h.get? b=some o)(n:H b=none):(uP h H).get? b=some o:=
  PySem.W.hideAll_get _ e fun hm=>by
    have q:(H b).isSome=true:=(List.mem_filter.mp hm).2
    rw[n] at q;simp at q
theorem JV {h:Heap}{H:Hp}{b:Addr}{o:Obj}(e:(uP h H).get? b=some o):h.get? b=some o∧H b=none:=by
  have e':h.get? b=some o:=PySem.W.of_hideAll (trk h H) e
  refine ⟨e',?_⟩
  cases q:H b with
  | none=>rfl
  | some x=>
    have hm:b∈trk h H:=List.mem_filter.mpr ⟨List.mem_range.mpr (Heap.lt_size e'),by simp[q]⟩
    have z:(uP h H).get? b=none:=PySem.W.hideAll_none (trk h H) hm
    rw[z] at e;cases e
def Iv (g h:Heap)(L:Addr):List (Addr×Obj):=(List.range h.objs.size).filterMap fun a=>if a=L∨(g.get? a).isSome=true then none else (h.get? a).map fun o=>(a,o)
def rest (g h:Heap)(L d:Addr):List (Addr×Obj):=(Iv g h L).filter fun p=>decide (p.1≠d)
end L2
namespace L2
open PySem PySem.Spec PyProof.Rows
structure Mod (K:PySem.W.Frag) (mg:Str→Option Value) (base:Heap):Prop where
  kin:K.In base
  glob:base.Ns mainGlobals mg
  blt:∃ mb,base.Ns builtinsNs mb∧∀ x:Str,x ≠ "__name__" → mb x=bootBuiltins x
  nolimit:base.NoLimit
structure Cx where
  prog:Program
  w:World
  K:PySem.W.Frag
  mg:Str→Option Value
  base:Heap
  A:Around
  N:List Str
  s₀:Shared
  H₀:Hp
  env:Env
  outer:List Env
  stack:List Env
  ex:List Addr
  fn:Str→Bool
  calm:Bool
  pn:List (Addr×Obj)
  xe:Value→Shared→Prop
def frs (l:List Env):List Addr:=l.filterMap (·.frame)
abbrev Cx.fs (X:Cx):List Addr:=frs X.outer
def Vis (sc:Scope)(x:Str):Prop:=sc.names.lookup x=some .local∨sc.names.lookup x=some .cell∨sc.names.lookup x=some .free
def Loc (sc:Scope)(x:Str):Prop:=sc.names.lookup x=some .local∨sc.names.lookup x=some .cell
def Look (env:Env)(h:Heap)(m:Str→Option Value)(x:Str)(u:Value):Prop:=
  (env.kindOf x=some .local∧m x=some u)∨((env.kindOf x=some .cell∨env.kindOf x=some .free)∧∃ c,env.cells.lookup x=some c∧h.IsCell c (some u))
structure Cx.Ok (X:Cx):Prop where
  mod:Mod X.K X.mg X.base
  kind:X.env.scope.kind=.function
  glob:X.env.globals=mainGlobals
  blt:X.env.builtins=builtinsNs
  above:X.s₀.heap.objs.size≤X.env.locals
  inj:∀ x y c,X.env.cells.lookup x=some c→X.env.cells.lookup y=some c→x=y
  has:∀ x,(X.env.kindOf x=some .cell∨X.env.kindOf x=some .free)→∃ c,X.env.cells.lookup x=some c
  cab:∀ x c,X.fn x=true→X.env.cells.lookup x=some c→X.s₀.heap.objs.size≤c
  hd:X.calm=true→X.A.handled=none
  frames:X.A.frames=some X.stack
  stk:X.stack=X.outer∨(X.stack=X.env::X.outer∧X.env.frame=some X.env.locals)
  exf:∀ b∈X.ex,b≠X.env.locals∧∀ x c,X.env.cells.lookup x=some c→c≠b
  bs:∀ b o,X.base.get? b=some o→X.s₀.heap.get? b=some o∧X.H₀ b=none
  bsz:X.base.objs.size≤X.s₀.heap.objs.size
  Hx:∀ b o,X.base.get? b=some o→b ∉ X.ex
  DP:∀ b∈X.ex,b ∉ X.fs
  oi:X.s₀.heap.FunFrames X.base X.outer
  frf:∀ b∈X.fs,X.H₀ b=none
structure Inv (X:Cx) (pins:List (Addr×Obj)) (σ:List (Option V)) (H:Hp) (s:Shared):Prop where
  ok:X.Ok
  os:s.os=X.s₀.os
  bare:AllBare s.gens
  base:Un X.fs X.ex X.H₀ H X.s₀.heap s.heap
  loc:∃ m,s.heap.Ns X.env.locals m∧∀ (i:Nat) (x:Str) (v:V),X.N[i]? = some x→σ[i]? = some (some v)→Vis X.env.scope x→∃ u,RelV v u∧Look X.env s.heap m x u
  cell:∀ x c,X.env.cells.lookup x=some c→∃ v,s.heap.IsCell c v
  free:H X.env.locals=none
  jM:∀ x c,X.env.cells.lookup x=some c→H c=none
  pin:∀ p∈X.pn++pins,s.heap.get? p.1=some p.2∧H p.1=none∧p.1≠X.env.locals∧p.1 ∉ X.fs∧∀ v,p.2.data≠.cell v
  hok:HOk X.prog X.w H s.heap
  len:σ.length=X.N.length
section
variable {X:Cx} {pins:List (Addr×Obj)} {σ:List (Option V)} {H H':Hp} {s:Shared} {h':Heap}
theorem Cx.Ok.RV (ok:X.Ok){b:Addr}{o:Obj}(e:X.base.get? b=some o):b ∉ X.fs:=fun hb=>by
  have:=(ok.oi.mem hb).1
  rw[e] at this;cases this
theorem Inv.bs (I:Inv X pins σ H s):∀ b o,X.base.get? b=some o→s.heap.get? b=some o∧H b=none:=fun b o e=>
  ⟨I.base.keep b o (I.ok.bs b o e).1 (I.ok.bs b o e).2 (I.ok.RV e) (I.ok.Hx b o e),I.base.free b o (I.ok.bs b o e).1 (I.ok.bs b o e).2 (I.ok.Hx b o e)⟩
theorem Inv.bk (I:Inv X pins σ H s):∀ b o,X.base.get? b=some o→s.heap.get? b=some o:=fun b o e=>(I.bs b o e).1
theorem Inv.mod (I:Inv X pins σ H s):Mod X.K X.mg X.base:=I.ok.mod
theorem Inv.kIn (I:Inv X pins σ H s):X.K.In s.heap:=I.ok.mod.kin.keeps I.bk
theorem Inv.nolimit (I:Inv X pins σ H s):s.heap.NoLimit:=I.ok.mod.nolimit.keeps I.bk
theorem Inv.fr (I:Inv X pins σ H s):∃ m,Fr X.base X.env.locals s.heap m:=
  let ⟨m,hn,_⟩:=I.loc
  ⟨m,hn,I.bk,Nat.le_trans I.ok.bsz I.ok.above⟩
theorem Inv.lt (I:Inv X pins σ H s):X.env.locals < s.heap.objs.size:=let ⟨_,hn,_⟩:=I.loc;hn.lt
theorem Inv.sz (I:Inv X pins σ H s):X.s₀.heap.objs.size≤s.heap.objs.size:=Nat.le_trans I.ok.above (Nat.le_of_lt I.lt)
theorem Inv.S4 (I:Inv X pins σ H s){a:Addr}(h:s.heap.objs.size≤a):a ∉ X.fs:=fun hb=>by
  obtain ⟨_,o,ho,_⟩:=I.ok.oi.mem hb
  exact absurd (Nat.lt_of_lt_of_le (Heap.lt_size ho) (Nat.le_trans I.sz h)) (Nat.lt_irrefl _)
theorem Inv.cne (I:Inv X pins σ H s):∀ x c,X.env.cells.lookup x=some c→c≠X.env.locals:=fun x c e z=>by
  obtain ⟨v,o,ho,hd⟩:=I.cell x c e
  obtain ⟨m,⟨o',es,ep,ho',hd',_⟩,_⟩:=I.loc
  rw[z,ho'] at ho;cases ho;rw[hd'] at hd;cases hd
theorem Inv.oi (I:Inv X pins σ H s):s.heap.FunFrames X.base X.outer:=by
  have all:∀ (l:List Env),(∀ b∈frs l,b∈X.fs)→X.s₀.heap.FunFrames X.base l→s.heap.FunFrames X.base l:=by
    intro l
    induction l with
    | nil=>intro _ _;trivial
    | cons env r ih=>
      intro hs hl
      obtain ⟨hk,⟨L,o,hf,hn,ho,hd⟩,hr⟩:=hl
      have hL:L∈X.fs:=hs L (by unfold frs;rw[List.filterMap_cons,hf];exact List.mem_cons_self)
      obtain ⟨sl,e⟩:=I.base.slot L o ho (I.ok.frf L hL) hL fun z=>I.ok.DP L z hL
      exact ⟨hk,⟨L,_,hf,hn,e,hd⟩,ih (fun b hb=>hs b (by unfold frs;rw[List.filterMap_cons,hf];exact List.mem_cons_of_mem _ hb)) hr⟩
  exact all X.outer (fun _ hb=>hb) I.ok.oi
theorem Inv.stack (I:Inv X pins σ H s):s.heap.FunFrames X.base X.stack:=by
  rcases I.ok.stk with e | ⟨e,hf⟩
  · rw[e];exact I.oi
  · rw[e]
    obtain ⟨m,hn,_⟩:=I.loc
    refine .cons (by rw[I.ok.kind];decide) hf hn ?_ I.oi
    exact Heap.get?_none_of_le (Nat.le_trans I.ok.bsz I.ok.above)
theorem Inv.yn (I:Inv X pins σ H s):∀ b∈frs X.stack,b∈X.env.locals::X.fs:=fun b hb=>by
  rcases I.ok.stk with e | ⟨e,hf⟩
  · rw[e] at hb;exact List.mem_cons_of_mem _ hb
  · rw[e] at hb
    unfold frs at hb
    rw[List.filterMap_cons,hf] at hb
    exact hb
theorem Inv.Ca (I:Inv X pins σ H s):∀ b∈frs X.stack,H b=none:=fun b hb=>by
  rcases List.mem_cons.mp (I.yn b hb) with e | hb
  · rw[e];exact I.free
  · obtain ⟨_,o,ho,_⟩:=I.ok.oi.mem hb
    exact I.base.free b o ho (I.ok.frf b hb) fun z=>I.ok.DP b z hb
theorem Inv.step {g':Array GenState}{t':Nat}{d':Drawn}{ch:List Addr}(I:Inv X pins σ H s)
    (hch:∀ b∈ch,(b∈X.ex∨X.s₀.heap.objs.size≤b)∧b≠X.env.locals∧(∀ x c,X.env.cells.lookup x=some c→c≠b)∧∀ p∈X.pn++pins,p.1≠b)
    (keep:∀ b o,b≠X.env.locals→b ∉ X.fs→b ∉ ch→s.heap.get? b=some o→H b=none→h'.get? b=some o)
    (slot:∀ b o,b≠X.env.locals→b∈X.fs→b ∉ ch→s.heap.get? b=some o→H b=none→∃ sl,h'.get? b=some { o with slots:=sl }) (free:∀ b o,b ∉ ch→s.heap.get? b=some o→H b=none→H' b=none)
    (there:∀ b o,b ∉ ch→s.heap.get? b=some o→∃ o',h'.get? b=some o')
    (nQ:∀ b xs,H b=some (.tup xs)→H' b=some (.tup xs)) (mF:∀ b o u,H b=some (.frz o u)→H' b=some (.frz o u)) (oj:∀ b ps,H b=some (.tbl ps)→∃ more,H' b=some (.tbl (ps++more)))
    (ns:∀ m,s.heap.Ns X.env.locals m→h'.Ns X.env.locals m) (hok:HOk X.prog X.w H' h') (hg:AllBare g') :
    Inv X pins σ H' { s with heap:=h',gens:=g',drawn:=d',toks:=t' }:=by
  have neL:∀ b o,X.s₀.heap.get? b=some o→b≠X.env.locals:=fun b o e=>Nat.ne_of_lt (Nat.lt_of_lt_of_le (Heap.lt_size e) I.ok.above)
  have neC:∀ b o,X.s₀.heap.get? b=some o→b ∉ X.ex→b ∉ ch:=fun b o e hx hb=>by
    rcases (hch b hb).1 with z | z
    · exact hx z
    · exact absurd (Nat.lt_of_lt_of_le (Heap.lt_size e) z) (Nat.lt_irrefl _)
  have cellK:∀ x c,X.env.cells.lookup x=some c→∀ v,s.heap.IsCell c v→h'.IsCell c v:=fun x c e v ⟨o,ho,hd⟩=>by
    have nch:c ∉ ch:=fun z=>(hch c z).2.2.1 x c e rfl
    by_cases hc:c∈X.fs
    · obtain ⟨sl,q⟩:=slot c o (I.cne x c e) hc nch ho (I.jM x c e)
      exact ⟨_,q,hd⟩
    · exact ⟨o,keep c o (I.cne x c e) hc nch ho (I.jM x c e),hd⟩
  refine ⟨I.ok,I.os,hg,⟨fun b o e n hb hx=>?_,fun b o e n hb hx=>?_,fun b o e n hx=>?_,fun b o e hx=>?_,fun b xs e=>nQ b xs (I.base.nQ b xs e),fun b o xs e=>mF b o xs (I.base.mF b o xs e),fun b ps e=>?_⟩,?_,fun x c e=>?_,?_,fun x c e=>?_,fun p hp=>?_,hok,I.len⟩
  · exact keep b o (neL b o e) hb (neC b o e hx) (I.base.keep b o e n hb hx) (I.base.free b o e n hx)
  · obtain ⟨sl,e1⟩:=I.base.slot b o e n hb hx
    obtain ⟨sl',e2⟩:=slot b _ (neL b o e) hb (neC b o e hx) e1 (I.base.free b o e n hx)
    exact ⟨sl',e2⟩
  · obtain ⟨o',e1⟩:=I.base.there b o e hx
    exact free b o' (neC b o e hx) e1 (I.base.free b o e n hx)
  · obtain ⟨o',e1⟩:=I.base.there b o e hx
    exact there b o' (neC b o e hx) e1
  · obtain ⟨m1,e1⟩:=I.base.oj b ps e
    obtain ⟨m2,e2⟩:=oj b _ e1
    exact ⟨m1++m2,by rw[e2,Array.append_assoc]⟩
  · obtain ⟨m,hn,hl⟩:=I.loc
    refine ⟨m,ns m hn,fun i x v e1 e2 e3=>?_⟩
    obtain ⟨u,r,l⟩:=hl i x v e1 e2 e3
    refine ⟨u,r,?_⟩
    rcases l with l | ⟨k,c,e,z⟩
    · exact .inl l
    · exact .inr ⟨k,c,e,cellK x c e _ z⟩
  · obtain ⟨v,z⟩:=I.cell x c e
    exact ⟨v,cellK x c e v z⟩
  · obtain ⟨m,⟨o,_,_,ho,_⟩,_⟩:=I.loc
    exact free _ o (fun z=>(hch _ z).2.1 rfl) ho I.free
  · obtain ⟨v,o,ho,hd⟩:=I.cell x c e
    exact free c o (fun z=>(hch c z).2.2.1 x c e rfl) ho (I.jM x c e)
  · obtain ⟨e,n,ne,nf,d⟩:=I.pin p hp
    have nch:p.1 ∉ ch:=fun z=>(hch p.1 z).2.2.2 p hp rfl
    exact ⟨keep p.1 p.2 ne nf nch e n,free p.1 p.2 nch e n,ne,nf,d⟩
theorem Inv.un {t':Nat}(I:Inv X pins σ H s)(u:Un X.fs [] H H' s.heap h')(hok:HOk X.prog X.w H' h'):Inv X pins σ H' { s with heap:=h',toks:=t' }:=by
  obtain ⟨m,⟨o,es,ep,ho,r⟩,_⟩:=id I.loc
  obtain ⟨sl,hL⟩:=u.any ho I.free (by simp)
  exact I.step (g':=s.gens) (d':=s.drawn) (ch:=[]) (fun _ z=>nomatch z) (fun b o _ hb _ e n=>u.keep b o e n hb (by simp)) (fun b o _ hb _ e n=>u.slot b o e n hb (by simp)) (fun b o _ e n=>u.free b o e n (by simp)) (fun b o _ e=>u.there b o e (by simp)) u.nQ u.mF u.oj (fun m' hm=>by
    obtain ⟨o',es',ep',ho',r'⟩:=hm
    rw[ho] at ho';cases ho'
    exact ⟨_,es',ep',hL,r'⟩) hok I.bare
theorem Inv.call {g':Array GenState}{t':Nat}{d':Drawn}{ch:List Addr}(I:Inv X pins σ H s)(u:Un (frs X.stack) ch H H' s.heap h')(hok:HOk X.prog X.w H' h')(hg:AllBare g')
    (hch:∀ b∈ch,(b∈X.ex∨X.s₀.heap.objs.size≤b)∧b≠X.env.locals∧(∀ x c,X.env.cells.lookup x=some c→c≠b)∧∀ p∈X.pn++pins,p.1≠b) :
    Inv X pins σ H' { s with heap:=h',gens:=g',drawn:=d',toks:=t' }:=by
  obtain ⟨m,⟨o,es,ep,ho,r⟩,_⟩:=id I.loc
  obtain ⟨sl,hL⟩:=u.any ho I.free fun z=>(hch _ z).2.1 rfl
  exact I.step (ch:=ch) hch (fun b o hL hb hc e n=>u.keep b o e n (fun z=>(List.mem_cons.mp (I.yn b z)).elim hL hb) hc) (fun b o _ _ hc e n=>u.any e n hc) (fun b o hc e n=>u.free b o e n hc) (fun b o hc e=>u.there b o e hc) u.nQ u.mF u.oj (fun m' hm=>by
    obtain ⟨o',es',ep',ho',r'⟩:=hm
    rw[ho] at ho';cases ho'
    exact ⟨_,es',ep',hL,r'⟩) hok hg
theorem Inv.turned {t':Nat}{it:Addr}(I:Inv X pins σ H s)(k:∀ b o,b≠it→s.heap.get? b=some o→h'.get? b=some o)(hn:H it=none)(hL:it≠X.env.locals)
    (h1:it∈X.ex∨X.s₀.heap.objs.size≤it) (h2:∀ x c,X.env.cells.lookup x=some c→c≠it) (h3:∀ p∈X.pn++pins,p.1≠it):Inv X pins σ H { s with heap:=h',toks:=t' }:=by
  have nit:∀ b u,H b=some u→b≠it:=fun b u e z=>by rw[z,hn] at e;cases e
  refine I.step (g':=s.gens) (d':=s.drawn) (ch:=[it]) (fun b hb=>?_) (fun b o _ _ hc e _=>k b o (fun z=>hc (by simp[z])) e) (fun b o _ _ hc e _=>⟨o.slots,k b o (fun z=>hc (by simp[z])) e⟩) (fun _ _ _ _ n=>n)
    (fun b o hc e=>⟨o,k b o (fun z=>hc (by simp[z])) e⟩) (fun _ _ e=>e) (fun _ _ _ e=>e) (fun b ps e=>⟨#[],by rw[e];simp⟩) (fun m hm=>?_) (fun b u e=>?_) I.bare
  · have e:b=it:=by simpa using hb
    subst e
    exact ⟨h1,hL,h2,h3⟩
  · obtain ⟨o,es,ep,ho,r⟩:=hm
    exact ⟨o,es,ep,k _ o (Ne.symm hL) ho,r⟩
  · refine (I.hok b u e).ly (fun c v hc q=>k c v ?_ q) (fun _ q=>q) fun _ _ q=>q
    rcases hc with z | z
    · rw[z];exact nit b u e
    · exact nit c _ z
theorem Inv.tok (I:Inv X pins σ H s)(t:Nat):Inv X pins σ H { s with toks:=t }:=I.un (h':=s.heap) (t':=t) Un.refl I.hok
theorem Inv.kept {t':Nat}(I:Inv X pins σ H s)(k:∀ b u,s.heap.get? b=some u→h'.get? b=some u):Inv X pins σ H { s with heap:=h',toks:=t' }:=I.un (Un.kept k) (I.hok.kept k)
theorem Inv.laid {a:Addr}{o:HO}{t':Nat}(I:Inv X pins σ H s)(k:∀ b u,s.heap.get? b=some u→h'.get? b=some u)(hp:s.heap.objs.size≤a)(new:dA X.prog X.w (upd H a o) h' a o) :
    Inv X pins σ (upd H a o) { s with heap:=h',toks:=t' }:=I.un (Un.laid k hp (I.hok.fresh hp)) (I.hok.laid k hp new)
theorem Inv.write {x e:Addr}{o:HO}{t':Nat}(I:Inv X pins σ H s)(mu:Mut (H x))(he:e=x∨H e=some (.own x))(k:∀ b u,b≠e→s.heap.get? b=some u→h'.get? b=some u)(heo:∃ u,h'.get? e=some u)
    (new:dA X.prog X.w (upd H x o) h' x o):Inv X pins σ (upd H x o) { s with heap:=h',toks:=t' }:=I.un (Un.write mu he k heo) (I.hok.write mu he k heo new)
theorem Inv.weak {σ':List (Option V)}(I:Inv X pins σ H s)(hl:σ'.length=σ.length)(w:∀ (i:Nat) v,σ'[i]? = some (some v)→σ[i]? = some (some v)):Inv X pins σ' H s:=
  ⟨I.ok,I.os,I.bare,I.base,let ⟨m,hn,hl'⟩:=I.loc;⟨m,hn,fun i x v e1 e2 e3=>hl' i x v e1 (w i v e2) e3⟩,I.cell,I.free,I.jM,I.pin,I.hok,hl.trans I.len⟩
theorem Inv.AY {pins':List (Addr×Obj)}(I:Inv X pins σ H s)(h:∀ p∈pins',s.heap.get? p.1=some p.2∧H p.1=none∧p.1≠X.env.locals∧p.1 ∉ X.fs∧∀ v,p.2.data≠.cell v):Inv X pins' σ H s:=
  ⟨I.ok,I.os,I.bare,I.base,I.loc,I.cell,I.free,I.jM,fun p hp=>(List.mem_append.mp hp).elim (fun z=>I.pin p (List.mem_append_left _ z)) (h p),I.hok,I.len⟩
theorem vU {N:List Str}(hN:N.Nodup){i j:Nat}{x:Str}(a:N[i]? = some x)(b:N[j]? = some x):i=j:=by
  obtain ⟨h1,e1⟩:=List.getElem?_eq_some_iff.mp a
  obtain ⟨h2,e2⟩:=List.getElem?_eq_some_iff.mp b
  exact (List.getElem_inj hN).mp (e1.trans e2.symm)
theorem Dm {M:Model}{A:Around}{E:Value→Shared→Prop}{i:Nat}{x:Str}{v:V}{u:Value}{Q:Unit→Shared→Prop}(I:Inv X pins σ H s)(hN:X.N.Nodup)(hi:X.N[i]? = some x)(hx:Loc X.env.scope x)(r:RelV v u)
    (h:∀ s',Inv X pins (σ.set i (some v)) H s'→(∃ a,Heap.SameBut a s.heap s'.heap∧(a=X.env.locals∨X.env.cells.lookup x=some a))→Q () s') (hf:X.fn x=true∨X.env.scope.names.lookup x=some .local:=by first | exact .inl rfl | exact .inr rfl | assumption):wpAny M A (storeName X.env x u) Q E s:=by
  obtain ⟨m,hn,hl⟩:=id I.loc
  have S8:(X.env.scope.kind == .class || (X.env.scope.kind == .module&&X.env.locals != X.env.globals))=false:=by rw[I.ok.kind];rfl
  have hiσ:i < σ.length:=by rw[I.len];exact (List.getElem?_eq_some_iff.mp hi).1
  have cne:=I.cne
  have tracked:∀ {a:Addr} {h':Heap},(∃ o,s.heap.get? a=some o∧H a=none)→Heap.SameBut a s.heap h'→HOk X.prog X.w H h':=fun {a h'} ha hs b ob e=>by
    obtain ⟨_,_,hfree⟩:=ha
    refine (I.hok b ob e).ly (fun c w' hc q=>(hs.2 c ?_).trans q) (fun _ q=>q) fun _ _ q=>q
    rintro rfl
    rcases hc with rfl | hc
    · rw[hfree] at e;cases e
    · rw[hfree] at hc;cases hc
  rcases hx with hk | hk
  · refine wpAny_storeName_local hk hn (fun h' hn' hs=>?_) S8
    obtain ⟨oL,_,_,hoL,_⟩:=id hn
    refine h _ ⟨I.ok,I.os,I.bare,⟨fun b o e n hb hx=>?_,fun b o e n hb hx=>?_,I.base.free,fun b o e hx=>?_,I.base.nQ,I.base.mF,I.base.oj⟩,⟨_,hn',fun j y v' e1 e2 e3=>?_⟩,fun y c e=>?_,I.free,I.jM,fun p hp=>?_,tracked ⟨oL,hoL,I.free⟩ hs,by simpa using I.len⟩ ⟨_,hs,.inl rfl⟩
    · exact (hs.2 b (Nat.ne_of_lt (Nat.lt_of_lt_of_le (Heap.lt_size e) I.ok.above))).trans (I.base.keep b o e n hb hx)
    · obtain ⟨sl,e1⟩:=I.base.slot b o e n hb hx
      exact ⟨sl,(hs.2 b (Nat.ne_of_lt (Nat.lt_of_lt_of_le (Heap.lt_size e) I.ok.above))).trans e1⟩
    · obtain ⟨o',e1⟩:=I.base.there b o e hx
      exact ⟨o',(hs.2 b (Nat.ne_of_lt (Nat.lt_of_lt_of_le (Heap.lt_size e) I.ok.above))).trans e1⟩
    · by_cases hj:j=i
      · subst hj
        rw[hi] at e1;cases e1
        rw[List.getElem?_set_self hiσ] at e2
        cases e2
        exact ⟨u,r,.inl ⟨hk,by simp⟩⟩
      · rw[List.getElem?_set_ne (Ne.symm hj)] at e2
        obtain ⟨u',r',q⟩:=hl j y v' e1 e2 e3
        refine ⟨u',r',?_⟩
        rcases q with ⟨k,e⟩ | ⟨k,c,e,z⟩
        · refine .inl ⟨k,?_⟩
          have:y≠x:=fun e=>hj (vU hN e1 (e ▸ hi))
          simp[this,e]
        · exact .inr ⟨k,c,e,z.sameBut hs (cne y c e)⟩
    · obtain ⟨w',z⟩:=I.cell y c e
      exact ⟨w',z.sameBut hs (cne y c e)⟩
    · obtain ⟨e,n,ne,nf,d⟩:=I.pin p hp
      exact ⟨(hs.2 p.1 ne).trans e,n,ne,nf,d⟩
  · have hfn:X.fn x=true:=by
      rcases hf with z | z
      · exact z
      · rw[z] at hk;cases hk
    obtain ⟨c,hc⟩:=I.ok.has x (.inl hk)
    obtain ⟨w',z⟩:=I.cell x c hc
    refine wpAny_storeName_cell I.ok.kind hk hc z (fun h' hc' hs=>?_)
    obtain ⟨oc,hoc,hocd⟩:=id z
    refine h { s with heap:=h' } ⟨I.ok,I.os,I.bare,⟨fun b o e n hb hx=>?_,fun b o e n hb hx=>?_,I.base.free,fun b o e hx=>?_,I.base.nQ,I.base.mF,I.base.oj⟩,⟨m,hn.sameBut hs (Ne.symm (cne x c hc)),fun j y v' e1 e2 e3=>?_⟩,fun y c' e=>?_,I.free,I.jM,fun p hp=>?_,tracked ⟨oc,hoc,I.jM x c hc⟩ hs,by simpa using I.len⟩ ⟨c,hs,.inr hc⟩
    · exact (hs.2 b (Nat.ne_of_lt (Nat.lt_of_lt_of_le (Heap.lt_size e) (I.ok.cab x c hfn hc)))).trans (I.base.keep b o e n hb hx)
    · obtain ⟨sl,e1⟩:=I.base.slot b o e n hb hx
      exact ⟨sl,(hs.2 b (Nat.ne_of_lt (Nat.lt_of_lt_of_le (Heap.lt_size e) (I.ok.cab x c hfn hc)))).trans e1⟩
    · obtain ⟨o',e1⟩:=I.base.there b o e hx
      exact ⟨o',(hs.2 b (Nat.ne_of_lt (Nat.lt_of_lt_of_le (Heap.lt_size e) (I.ok.cab x c hfn hc)))).trans e1⟩
    · by_cases hj:j=i
      · subst hj
        rw[hi] at e1;cases e1
        rw[List.getElem?_set_self hiσ] at e2
        cases e2
        exact ⟨u,r,.inr ⟨.inl hk,c,hc,hc'⟩⟩
      · rw[List.getElem?_set_ne (Ne.symm hj)] at e2
        obtain ⟨u',r',q⟩:=hl j y v' e1 e2 e3
        refine ⟨u',r',?_⟩
        rcases q with q | ⟨k,c',e,z'⟩
        · exact .inl q
        · refine .inr ⟨k,c',e,z'.sameBut hs ?_⟩
          rintro rfl
          exact hj (vU hN e1 (I.ok.inj _ _ _ e hc ▸ hi))
    · by_cases hcc:c'=c
      · subst hcc;exact ⟨_,hc'⟩
      · obtain ⟨w2,z2⟩:=I.cell y c' e
        exact ⟨w2,z2.sameBut hs hcc⟩
    · obtain ⟨e,n,ne,nf,d⟩:=I.pin p hp
      refine ⟨(hs.2 p.1 ?_).trans e,n,ne,nf,d⟩
      intro q
      rw[q,hoc] at e
      have q':oc=p.2:=Option.some.inj e
      exact d w' (by rw[← q'];exact hocd)
theorem ji {M:Model}{A:Around}{E:Value→Shared→Prop}{i:Nat}{x:Str}{v:V}{u:Value}{Q:Unit→Shared→Prop}(I:Inv X pins σ H s)(hN:X.N.Nodup)(hi:X.N[i]? = some x)(hx:Loc X.env.scope x)(r:RelV v u)
    (h:∀ s',Inv X pins (σ.set i (some v)) H s'→Q () s') (hf:X.fn x=true∨X.env.scope.names.lookup x=some .local:=by first | exact .inl rfl | exact .inr rfl | assumption):wpAny M A (storeName X.env x u) Q E s:=
  Dm I hN hi hx r (fun s' I' _=>h s' I') hf
theorem Inv.Mg {s':Shared}{ch:List Addr}(I:Inv X pins σ H s)(ho:s'.os=s.os)(u:Un (frs X.stack) ch H H' s.heap s'.heap)(hok:HOk X.prog X.w H' s'.heap)(hg:AllBare s'.gens)
    (hch:∀ b∈ch,(b∈X.ex∨X.s₀.heap.objs.size≤b)∧b≠X.env.locals∧(∀ x c,X.env.cells.lookup x=some c→c≠b)∧∀ p∈X.pn++pins,p.1≠b):Inv X pins σ H' s':=by
  obtain ⟨h',g',d',t',o'⟩:=s'
  have e:o'=s.os:=ho
  subst e
  exact I.call (g':=g') (t':=t') (d':=d') u hok hg hch
end
abbrev XK:=Value→Option Addr→Hp→Prop
abbrev St:=List (Option V)
abbrev VK:=V→Hp→Prop
abbrev TE:=St→Hp→VK→Prop
abbrev TT:=St→Hp→(Bool→Hp→Prop)→Prop
abbrev TA:=St→Hp→(List V→Hp→Prop)→Prop
structure Ends where
  nx:St→Hp→Prop
  rt:VK
  bk:St→Hp→Prop:=fun _ _=>False
  ct:St→Hp→Prop:=fun _ _=>False
abbrev TS:=Ends→St→Hp→Prop
def EP (X:Cx)(pins:List (Addr×Obj))(σ:St)(Q:VK)(u:Value)(s':Shared):Prop:=∃ v H',Inv X pins σ H' s'∧RelV v u∧Q v H'
def TP (X:Cx)(pins:List (Addr×Obj))(σ:St)(Q:Bool→Hp→Prop)(b:Bool)(s':Shared):Prop:=∃ H',Inv X pins σ H' s'∧Q b H'
def AP (X:Cx)(pins:List (Addr×Obj))(σ:St)(Q:List V→Hp→Prop)(us:List Value)(s':Shared):Prop:=∃ vs H',Inv X pins σ H' s'∧Vals vs us∧Q vs H'
def SP (X:Cx)(pins:List (Addr×Obj))(D:Ends)(f:Flow)(s':Shared):Prop:=
  match f with
  | .next=>∃ σ' H',Inv X pins σ' H' s'∧D.nx σ' H'
  | .brk=>∃ σ' H',Inv X pins σ' H' s'∧D.bk σ' H'
  | .cont=>∃ σ' H',Inv X pins σ' H' s'∧D.ct σ' H'
  | .ret u=>∃ v σ' H',Inv X pins σ' H' s'∧RelV v u∧D.rt v H'
def PE (X:Cx)(e:Expr)(t:TE):Prop:=
  ∀ (pins:List (Addr×Obj)) (s:Shared) (σ:St) (H:Hp) (Q:VK),Inv X pins σ H s→t σ H Q→wpAny (model X.prog X.w) X.A (eval e X.env) (EP X pins σ Q) X.xe s
def PT (X:Cx)(e:Expr)(t:TT):Prop:=
  ∀ (pins:List (Addr×Obj)) (s:Shared) (σ:St) (H:Hp) (Q:Bool→Hp→Prop),Inv X pins σ H s→t σ H Q→wpAny (model X.prog X.w) X.A (isTrue e X.env (eval e X.env)) (TP X pins σ Q) X.xe s
def PW (X:Cx)(e:Expr)(t:TT):Prop:=
  ∀ (whole:Sem Value) (pins:List (Addr×Obj)) (s:Shared) (σ:St) (H:Hp) (Q:Bool→Hp→Prop),Inv X pins σ H s→t σ H Q→wpAny (model X.prog X.w) X.A (isTrue e X.env whole) (TP X pins σ Q) X.xe s
theorem PW.pt {X:Cx}{e:Expr}{t:TT}(h:PW X e t):PT X e t:=h _
def PA (X:Cx)(es:List Expr)(t:TA):Prop:=
  ∀ (pos:Pos) (pins:List (Addr×Obj)) (s:Shared) (σ:St) (H:Hp) (Q:List V→Hp→Prop),Inv X pins σ H s→t σ H Q→wpAny (model X.prog X.w) X.A (spliced (backTo pos (starEach es X.env))) (AP X pins σ Q) X.xe s
def PS (X:Cx)(st:Stmt)(t:TS):Prop:=
  ∀ (pins:List (Addr×Obj)) (s:Shared) (σ:St) (H:Hp) (D:Ends),Inv X pins σ H s→t D σ H→wpAny (model X.prog X.w) X.A (exec st X.env) (SP X pins D) X.xe s
def PSs (X:Cx)(st:List Stmt)(t:TS):Prop:=
  ∀ (pins:List (Addr×Obj)) (s:Shared) (σ:St) (H:Hp) (D:Ends),Inv X pins σ H s→t D σ H→wpAny (model X.prog X.w) X.A (execs st X.env) (SP X pins D) X.xe s
theorem thn {α:Type}{t:Sem α}{Q Q':α→Shared→Prop}{M:Model}{A:Around}{E:Value→Shared→Prop}{s:Shared}(h:wpAny M A t Q E s)(hQ:∀ a s,Q a s→Q' a s):wpAny M A t Q' E s:=wpAny_mono h hQ fun _ _ x=>x
end L2
namespace L2
open PySem PySem.Spec PyProof.Rows
section
variable {X:Cx}
def Qq (i:Nat):TE:=fun σ H Q=>∃ v,σ[i]? = some (some v)∧Q v H
def tC (v:V):TE:=fun _ H Q=>Q v H
theorem ET {i:Nat}{x:Str}{pos:Pos}(hN:X.N[i]? = some x)(hv:Vis X.env.scope x)(hd:(x == ("__debug__" : Str))=false:=by decide)(hcd:(x == ("__classdict__" : Str))=false:=by decide):PE X (.Name x pos) (Qq i):=by
  intro pins s σ H Q I h
  obtain ⟨v,e,h⟩:=h
  obtain ⟨m,hn,hl⟩:=I.loc
  obtain ⟨u,r,l⟩:=hl i x v hN e hv
  have fin:EP X pins σ Q u s:=⟨v,H,I,r,h⟩
  rcases l with ⟨hk,hm⟩ | ⟨hk,c,hc,hcell⟩
  · exact wpAny_Name (wpAny_loadName_local I.ok.kind hk hn hm fin) hd
  · rcases hk with hk | hk
    · exact wpAny_Name (wpAny_loadName_cell I.ok.kind hk hc hcell fin) hd
    · exact wpAny_Name (wpAny_loadName_free I.ok.kind hk hc hcell fin hcd) hd
theorem Px {i j pos}:PE X (.Constant (.int i) j pos) (tC (.int i)):=fun _ _ _ H _ I h=>wpAny_Constant_int ⟨.int i,H,I.tok _,⟨_,rfl⟩,h⟩
theorem Py {b j pos}:PE X (.Constant (.bool b) j pos) (tC (.bl b)):=fun _ _ _ H _ I h=>Constant_bool ⟨.bl b,H,I,rfl,h⟩
theorem Nq {j pos}:PE X (.Constant .none j pos) (tC .non):=fun _ _ _ H _ I h=>Constant_none ⟨.non,H,I,rfl,h⟩
theorem HY {x j pos}:PE X (.Constant (.str x) j pos) (tC (.str x)):=fun _ _ _ H _ I h=>Calls.Constant_str ⟨.str x,H,I.tok _,⟨_,rfl⟩,h⟩
def Gl (X:Cx)(x:Str):Prop:=X.env.kindOf x=some .globalImplicit
theorem BZ {E:Value→Shared→Prop}{pins:List (Addr×Obj)}{s:Shared}{σ:St}{H:Hp}{x:Str}{u:Value}{pos:Pos}{Q:Value→Shared→Prop}(I:Inv X pins σ H s)(hg:Gl X x)(hm:X.mg x=some u)(h:Q u s)
    (hd:(x == ("__debug__" : Str))=false:=by decide):wpAny (model X.prog X.w) X.A (eval (.Name x pos) X.env) Q E s:=
  Calls.Name_function_global I.ok.kind hg (Calls.loadGlobal_global (by rw[I.ok.glob];exact I.mod.glob.keeps I.bk) hm h) hd
theorem jT {E:Value→Shared→Prop}{pins:List (Addr×Obj)}{s:Shared}{σ:St}{H:Hp}{x:Str}{u:Value}{pos:Pos}{Q:Value→Shared→Prop}(I:Inv X pins σ H s)(hg:Gl X x)(hm:X.mg x=none)(hv:bootBuiltins x=some u)(h:Q u s)
    (hn:x ≠ "__name__" := by decide) (hd:(x == ("__debug__" : Str))=false:=by decide):wpAny (model X.prog X.w) X.A (eval (.Name x pos) X.env) Q E s:=by
  obtain ⟨mb,h1,h2⟩:=I.mod.blt
  exact Calls.Name_function_global I.ok.kind hg (Calls.loadGlobal_builtin (by rw[I.ok.glob];exact I.mod.glob.keeps I.bk) hm (by rw[I.ok.blt];exact h1.keeps I.bk) ((h2 x hn).trans hv) h) hd
theorem J1 {x:Str}{v:V}{u:Value}{pos:Pos}(hg:Gl X x)(hm:X.mg x=some u)(r:RelV v u)(hd:(x == ("__debug__" : Str))=false:=by decide):PE X (.Name x pos) (tC v):=
  fun _ _ _ H _ I h=>BZ I hg hm ⟨v,H,I,r,h⟩ hd
variable {a b:Expr} {ta tb:TE} {pos:Pos}
def tB (t:TE):TT:=fun σ H Q=>t σ H fun x H1=>∃ c,x=.bl c∧Q c H1
theorem Pg {e:Expr}{t:TE}(h:PE X e t)(he:∀ whole,isTrue e X.env whole=(do let v ← whole;standAt e.pos;holding [v] (truthy v)):=by intro _;rfl):PT X e (tB t):=by
  intro pins s σ H Q I hw
  refine isTrue_plain (thn (h pins s σ H _ I hw) fun v s1 ⟨x,H1,I1,r1,q1⟩=>?_) (he _)
  obtain ⟨d,rfl,q⟩:=q1
  cases r1
  exact wpAny_truthy_bool ⟨H1,I1,q⟩
variable {tA tB':TT} {rest:List Expr}
def RQ (t u:TT):TT:=fun σ H Q=>t σ H fun c H1=>if c=true then u σ H1 Q else Q false H1
def tOr (t u:TT):TT:=fun σ H Q=>t σ H fun c H1=>if c=true then Q true H1 else u σ H1 Q
theorem pw_and1 (ha:PT X a tA):PW X (.BoolOp .And [a] pos) tA:=by
  intro wh pins s σ H Q I h
  refine isTrue_and (thn (ha pins s σ H Q I h) fun c s1 e=>?_)
  cases c with
  | true=>exact isTrue_and_nil e
  | false=>exact e
theorem pw_or1 (ha:PT X a tA):PW X (.BoolOp .Or [a] pos) tA:=by
  intro wh pins s σ H Q I h
  refine isTrue_or (thn (ha pins s σ H Q I h) fun c s1 e=>?_)
  cases c with
  | false=>exact isTrue_or_nil e
  | true=>exact e
theorem pw_and (ha:PT X a tA)(hb:PW X (.BoolOp .And (b::rest) pos) tB'):PW X (.BoolOp .And (a::b::rest) pos) (RQ tA tB'):=by
  intro wh pins s σ H Q I h
  refine isTrue_and (thn (ha pins s σ H _ I h) fun c s1 ⟨H1,I1,q1⟩=>?_)
  cases c with
  | true=>exact hb wh pins s1 σ H1 Q I1 q1
  | false=>exact ⟨H1,I1,q1⟩
theorem pw_or (ha:PT X a tA)(hb:PW X (.BoolOp .Or (b::rest) pos) tB'):PW X (.BoolOp .Or (a::b::rest) pos) (tOr tA tB'):=by
  intro wh pins s σ H Q I h
  refine isTrue_or (thn (ha pins s σ H _ I h) fun c s1 ⟨H1,I1,q1⟩=>?_)
  cases c with
  | true=>exact ⟨H1,I1,q1⟩
  | false=>exact hb wh pins s1 σ H1 Q I1 q1
def RM (ta tb:TE):TE:=fun σ H Q=>ta σ H fun x H1=>∃ c,x=.bl c∧if c=true then Q (.bl true) H1 else tb σ H1 Q
theorem Nt {op}{t:TE}(h:PE X a t):PE X (.BoolOp op [a] pos) t:=fun pins s σ H Q I hw=>BoolOp_one (h pins s σ H Q I hw)
theorem Rf (ha:PE X a ta)(hb:PE X (.BoolOp .Or (b::rest) pos) tb):PE X (.BoolOp .Or (a::b::rest) pos) (RM ta tb):=by
  intro pins s σ H Q I h
  refine BoolOp_or (thn (ha pins s σ H _ I h) fun v s1 ⟨x,H1,I1,r1,q1⟩=>?_)
  obtain ⟨c,rfl,q1⟩:=q1
  cases r1
  refine wpAny_truthy_bool ?_
  cases c with
  | false=>exact hb pins s1 σ H1 Q I1 q1
  | true=>exact ⟨.bl true,H1,I1,rfl,q1⟩
def tIf (t:TT)(ta tb:TE):TE:=fun σ H Q=>t σ H fun c H1=>if c=true then ta σ H1 Q else tb σ H1 Q
theorem FC {c:Expr}(hc:PT X c tA)(ha:PE X a ta)(hb:PE X b tb):PE X (.IfExp c a b pos) (tIf tA ta tb):=by
  intro pins s σ H Q I h
  refine wpAny_IfExp (thn (hc pins s σ H _ I h) fun d s1 ⟨H1,I1,q1⟩=>?_)
  cases d with
  | true=>exact ha pins s1 σ H1 Q I1 q1
  | false=>exact hb pins s1 σ H1 Q I1 q1
end
end L2
namespace L2
open PySem PySem.Spec PyProof.Rows
def SqL (K:PySem.W.Frag)(H:Hp)(a:Addr)(xs:List V):Prop:=
  Rd H a (.lst xs)∨
    ∃ (o:Obj) (its:Array Value) (n:Nat),K.lookup a=some o∧o.cls=.type "list" ∧ o.dict=none∧o.data=.seq its n∧its.size≤sizeLine∧Vals xs its.toList
def SqT (K:PySem.W.Frag)(H:Hp)(a:Addr)(xs:List V):Prop:=
  Rd H a (.tup xs)∨
    ∃ (o:Obj) (its:Array Value) (n:Nat),K.lookup a=some o∧o.cls=.type "tuple" ∧ o.dict=none∧o.data=.seq its n∧its.size≤sizeLine∧Vals xs its.toList
def RS:Value→Option V
  | .none=>some .non
  | .bool b=>some (.bl b)
  | .int i _=>some (.int i)
  | .str x _=>some (.str x)
  | .bytes b _=>some (.byt b)
  | .float b _=>some (.flt b)
  | .ref a=>some (.ref a)
  | .type n=>some (.ty n)
  | _=>none
theorem RelV.abs {x:V}{u:Value}(r:RelV x u):RS u=some x:=by
  cases x with
  | non=>cases r;rfl
  | bl _=>cases r;rfl
  | int _=>obtain ⟨t,rfl⟩:=r;rfl
  | str _=>obtain ⟨t,rfl⟩:=r;rfl
  | byt _=>obtain ⟨t,rfl⟩:=r;rfl
  | flt _=>obtain ⟨t,rfl⟩:=r;rfl
  | ref _=>cases r;rfl
  | ty _=>cases r;rfl
theorem RelV.inj {x y:V}{u:Value}(r:RelV x u)(q:RelV y u):x=y:=Option.some.inj (r.abs.symm.trans q.abs)
theorem Vals.inj:∀ {xs ys:List V} {us:List Value},Vals xs us→Vals ys us→xs=ys
  | _,_,_,.nil,.nil=>rfl
  | _,_,_,.cons r t,.cons r' t'=>by rw[r.inj r',Vals.inj t t']
section
variable {X:Cx} {pins:List (Addr×Obj)} {σ:St} {H:Hp} {s:Shared} {a:Addr} {xs ys:List V}
theorem SqL.of {K:PySem.W.Frag}(h:H a=some (.lst xs)):SqL K H a xs:=.inl (.inl h)
theorem SqT.of {K:PySem.W.Frag}(h:H a=some (.tup xs)):SqT K H a xs:=.inl (.inl h)
theorem Inv.list (I:Inv X pins σ H s)(h:SqL X.K H a xs):∃ its:List Value,Vals xs its∧PlainL s.heap a its.toArray∧xs.length≤sizeLine:=by
  rcases h with h | ⟨o,its,n,hk,hc,hd,hs,hz,r⟩
  · obtain ⟨z,its,n,r,e⟩:=h.ok I.hok
    exact ⟨its,r,⟨_,n,e,rfl,rfl,rfl⟩,z⟩
  · refine ⟨its.toList,r,⟨o,n,I.kIn a o hk,hc,hd,by simpa using hs⟩,?_⟩
    have e:=r.length
    simp only[Array.length_toList] at e
    omega
theorem Inv.tuple (I:Inv X pins σ H s)(h:SqT X.K H a xs):∃ its:List Value,Vals xs its∧IsTup s.heap a its.toArray∧xs.length≤sizeLine:=by
  rcases h with h | ⟨o,its,n,hk,hc,hdn,hs,hz,r⟩
  · obtain ⟨z,its,r,p⟩:=h.ok I.hok
    exact ⟨its,r,p.tup,z⟩
  · refine ⟨its.toList,r,⟨o,I.kIn a o hk,hc,n,by simpa using hs⟩,?_⟩
    have e:=r.length
    simp only[Array.length_toList] at e
    omega
theorem Inv.xT (I:Inv X pins σ H s)(h:SqL X.K H a xs)(h':SqL X.K H a ys):xs=ys:=by
  obtain ⟨its,r,⟨o,n,e,_,_,d⟩,_⟩:=I.list h
  obtain ⟨its',r',⟨o',n',e',_,_,d'⟩,_⟩:=I.list h'
  rw[e] at e';cases e'
  rw[d] at d'
  injection d' with d1 _
  have:its=its':=by simpa using congrArg Array.toList d1
  subst this
  exact r.inj r'
theorem Inv.sP (I:Inv X pins σ H s)(h:SqT X.K H a xs)(h':SqT X.K H a ys):xs=ys:=by
  obtain ⟨its,r,⟨o,e,_,n,d⟩,_⟩:=I.tuple h
  obtain ⟨its',r',⟨o',e',_,n',d'⟩,_⟩:=I.tuple h'
  rw[e] at e';cases e'
  rw[d] at d'
  injection d' with d1 _
  have:its=its':=by simpa using congrArg Array.toList d1
  subst this
  exact r.inj r'
end
abbrev Cx.nY (X:Cx)(E:Value→Shared→Prop):Cx:={ X with xe:=E }
abbrev Cx.nox (X:Cx):Cx:=X.nY fun _ _=>False
theorem Cx.Ok.nY {X:Cx}(ok:X.Ok)(E:Value→Shared→Prop):(X.nY E).Ok:=
  ⟨ok.mod,ok.kind,ok.glob,ok.blt,ok.above,ok.inj,ok.has,ok.cab,ok.hd,ok.frames,ok.stk,ok.exf,ok.bs,ok.bsz,ok.Hx,ok.DP,ok.oi,ok.frf⟩
theorem Cx.Ok.g9 {X:Cx}{E:Value→Shared→Prop}(ok:(X.nY E).Ok):X.Ok:=
  ⟨ok.mod,ok.kind,ok.glob,ok.blt,ok.above,ok.inj,ok.has,ok.cab,ok.hd,ok.frames,ok.stk,ok.exf,ok.bs,ok.bsz,ok.Hx,ok.DP,ok.oi,ok.frf⟩
section
variable {X:Cx} {pins:List (Addr×Obj)} {σ:St} {H:Hp} {s:Shared} {E:Value→Shared→Prop}
theorem Inv.nY (I:Inv X pins σ H s)(E:Value→Shared→Prop):Inv (X.nY E) pins σ H s:=⟨I.ok.nY E,I.os,I.bare,I.base,I.loc,I.cell,I.free,I.jM,I.pin,I.hok,I.len⟩
theorem Inv.g9 (I:Inv (X.nY E) pins σ H s):Inv X pins σ H s:=⟨I.ok.g9,I.os,I.bare,I.base,I.loc,I.cell,I.free,I.jM,I.pin,I.hok,I.len⟩
theorem SP.g9 {D:Ends}{f:Flow}{s':Shared}(h:SP (X.nY E) pins D f s'):SP X pins D f s':=by
  cases f with
  | next=>obtain ⟨σ',H',I,q⟩:=h;exact ⟨σ',H',I.g9,q⟩
  | brk=>obtain ⟨σ',H',I,q⟩:=h;exact ⟨σ',H',I.g9,q⟩
  | cont=>obtain ⟨σ',H',I,q⟩:=h;exact ⟨σ',H',I.g9,q⟩
  | ret u=>obtain ⟨v,σ',H',I,r,q⟩:=h;exact ⟨v,σ',H',I.g9,r,q⟩
theorem PE.nox {e:Expr}{t:TE}(h:PE X.nox e t):PE X e t:=fun pins s σ H Q I hw=>
  wpAny_mono (h pins s σ H Q (I.nY _) hw) (fun _ _ ⟨v,H',I',r,q⟩=>⟨v,H',I'.g9,r,q⟩) fun _ _ z=>False.elim z
theorem PT.nox {e:Expr}{t:TT}(h:PT X.nox e t):PT X e t:=fun pins s σ H Q I hw=>
  wpAny_mono (h pins s σ H Q (I.nY _) hw) (fun _ _ ⟨H',I',q⟩=>⟨H',I'.g9,q⟩) fun _ _ z=>False.elim z
theorem PSs.nox {st:List Stmt}{t:TS}(h:PSs X.nox st t):PSs X st t:=fun pins s σ H D I hw=>
  wpAny_mono (h pins s σ H D (I.nY _) hw) (fun _ _ q=>q.g9) fun _ _ z=>False.elim z
end
section
variable {X:Cx} {st:Stmt} {rest:List Stmt} {t u:TS} {e:Expr} {te:TE} {pos:Pos}
def RF:TS:=fun D σ H=>D.nx σ H
def SR (t u:TS):TS:=fun D σ H=>t { D with nx:=u D } σ H
theorem Jt:PSs X [] RF:=fun _ _ σ H _ I h=>wpAny_execs_nil ⟨σ,H,I,h⟩
theorem FP (h1:PS X st t)(h2:PSs X rest u):PSs X (st::rest) (SR t u):=by
  intro pins s σ H D I h
  refine wpAny_execs_cons (thn (h1 pins s σ H { D with nx:=u D } I h) fun f s1 q=>?_)
  cases f with
  | next=>
    obtain ⟨σ',H',I',q⟩:=q
    exact h2 pins s1 σ' H' D I' q
  | ret v=>exact q
  | brk=>exact q
  | cont=>exact q
theorem K7 (h1:PS X st t):PSs X [st] t:=by
  intro pins s σ H D I h
  refine wpAny_execs_cons (thn (h1 pins s σ H D I h) fun f s1 q=>?_)
  cases f with
  | next=>exact wpAny_execs_nil q
  | ret v=>exact q
  | brk=>exact q
  | cont=>exact q
theorem Inv.quiet {pins:List (Addr×Obj)}{σ:St}{H:Hp}{s:Shared}(I:Inv X pins σ H s):interactive X.env=false:=by simp[interactive,I.ok.kind]
def PH (te:TE):TS:=fun D σ H=>te σ H fun _ H1=>D.nx σ H1
theorem Ip (he:PE X e te)(hs:swapsWith e none pos.line X.env=pure false:=by rfl):PS X (.Expr e pos) (PH te):=by
  intro pins s σ H D I h
  exact wpAny_Expr_any (thn (he pins s σ H _ I h) fun v s1 ⟨x,H1,I1,r1,q1⟩=>⟨σ,H1,I1,q1⟩) I.quiet hs
def Su (te:TE):TS:=fun D σ H=>te σ H D.rt
theorem Nk (he:PE X e te):PS X (.Return (some e) pos) (Su te):=by
  intro pins s σ H D I h
  exact wpAny_Return_some (thn (he pins s σ H _ I h) fun v s1 ⟨x,H1,I1,r1,q1⟩=>⟨x,σ,H1,I1,r1,q1⟩)
def Sv (c:TT)(t u:TS):TS:=fun D σ H=>c σ H fun b H1=>if b=true then t D σ H1 else u D σ H1
theorem PU {c:Expr}{a b:List Stmt}{tc:TT}(hc:PT X c tc)(ha:PSs X a t)(hb:PSs X b u):PS X (.If c a b pos) (Sv tc t u):=by
  intro pins s σ H D I h
  refine wpAny_If (thn (hc pins s σ H _ I h) fun d s1 ⟨H1,I1,q1⟩=>?_)
  cases d with
  | true=>exact ha pins s1 σ H1 D I1 q1
  | false=>exact hb pins s1 σ H1 D I1 q1
end
abbrev TG:=V→St→Hp→(St→Hp→Prop)→Prop
abbrev TGs:=List V→St→Hp→(St→Hp→Prop)→Prop
def PG (X:Cx)(target:Expr)(t:TG):Prop:=
  ∀ (pins:List (Addr×Obj)) (s:Shared) (σ:St) (H:Hp) (v:V) (u:Value) (Q:St→Hp→Prop),Inv X pins σ H s→RelV v u→t v σ H Q→
    wpAny (model X.prog X.w) X.A (assign target X.env u) (fun _ s'=>∃ σ' H',Inv X pins σ' H' s'∧Q σ' H') X.xe s
def PGs (X:Cx)(ts:List Expr)(t:TGs):Prop:=
  ∀ (pins:List (Addr×Obj)) (s:Shared) (σ:St) (H:Hp) (vs:List V) (us:List Value) (Q:St→Hp→Prop),Inv X pins σ H s→Vals vs us→t vs σ H Q→
    wpAny (model X.prog X.w) X.A (assignInOrder ((assignEach ts X.env).map (·.2)) us) (fun _ s'=>∃ σ' H',Inv X pins σ' H' s'∧Q σ' H') X.xe s
abbrev TIp:=V→V→Hp→VK→Prop
def PIp (X:Cx)(op:Operator)(t:TIp):Prop:=
  ∀ (pins:List (Addr×Obj)) (s:Shared) (σ:St) (H:Hp) (x y:V) (v u:Value) (Q:VK),Inv X pins σ H s→RelV x v→RelV y u→t x y H Q→
    wpAny (model X.prog X.w) X.A (inplaceOp op v u) (EP X pins σ Q) X.xe s
section
variable {X:Cx} {pos:Pos}
def lZ (i:Nat):TG:=fun v σ H Q=>Q (σ.set i (some v)) H
theorem iL {i:Nat}{x:Str}(hN:X.N.Nodup)(hi:X.N[i]? = some x)(hx:Loc X.env.scope x)(hf:X.fn x=true∨X.env.scope.names.lookup x=some .local:=by first | exact .inl rfl | exact .inr rfl | assumption):PG X (.Name x pos) (lZ i):=by
  intro pins s σ H v u Q I r h
  exact wpAny_assign_Name (ji I hN hi hx r (fun s' I'=>⟨_,H,I',h⟩) hf)
def SA:TGs:=fun vs σ H Q=>vs=[]∧Q σ H
def PX (t:TG)(u:TGs):TGs:=fun vs σ H Q=>∃ v r,vs=v::r∧t v σ H fun σ' H'=>u r σ' H' Q
theorem BB:PGs X [] SA:=by
  intro pins s σ H vs us Q I r h
  obtain ⟨e,h⟩:=h
  subst e
  cases r
  exact assignInOrder_nil ⟨σ,H,I,h⟩
theorem wF {e:Expr}{es:List Expr}{t:TG}{u:TGs}(h1:PG X e t)(h2:PGs X es u)
    (hs:(assignEach (e::es) X.env).map (·.2)=assign e X.env::(assignEach es X.env).map (·.2):=by rfl):PGs X (e::es) (PX t u):=by
  intro pins s σ H vs us Q I r h
  obtain ⟨v,vr,e1,h⟩:=h
  subst e1
  cases r with
  | cons r rr=>
    rw[hs]
    refine assignInOrder_cons (thn (h1 pins s σ H _ _ _ I r h) fun _ s1 ⟨σ1,H1,I1,q1⟩=>?_)
    exact h2 pins s1 σ1 H1 _ _ Q I1 rr q1
def R7 (K:PySem.W.Frag)(n:Nat)(t:TGs):TG:=fun v σ H Q=>∃ a xs,v=.ref a∧SqT K H a xs∧xs.length=n∧t xs σ H Q
theorem FD {es:List Expr}{k:Nat}{t:TGs}{n:Nat}(hc:X.calm=true)(h:PGs X es t)
    (hn:(assignEach es X.env).length=n:=by rfl) (hst:(assignEach es X.env).findIdx? (·.1)=none:=by rfl):PG X (.Tuple es k pos) (R7 X.K n t):=by
  intro pins s σ H v u Q I r hw
  obtain ⟨a,xs,e1,hq,hl,hw⟩:=hw
  subst e1
  cases r
  obtain ⟨its,rv,ht,hz⟩:=I.tuple hq
  refine assign_Tuple_tuple (I.ok.hd hc) ht (by simp[hn,← hl,rv.length]) hst fun h' hx=>?_
  have I1:Inv X pins σ H { s with heap:=h' }:=I.kept (t':=s.toks) fun b o e=>hx b o (Nat.ne_of_lt (Heap.lt_size e)) e
  exact h pins _ σ H xs _ Q I1 (by simpa using rv) hw
def F9 (te:TE)(g:TG):TS:=fun D σ H=>te σ H fun x H1=>g x σ H1 D.nx
theorem OE {tg e:Expr}{te:TE}{g:TG}(he:PE X e te)(hg:PG X tg g)(hs:swapsWithSole [tg] e pos.line X.env=pure false:=by rfl)(hw:swappedStores [tg] e X.env=pure none:=by rfl)
    (h1:(assignEach [tg] X.env).map (·.2)=[assign tg X.env]:=by rfl):PS X (.Assign [tg] e pos) (F9 te g):=by
  intro pins s σ H D I h
  refine wpAny_Assign_stores (thn (he pins s σ H _ I h) fun v s1 ⟨x,H1,I1,r1,q1⟩=>?_) hs hw
  rw[h1]
  exact thn (hg pins s1 σ H1 x v _ I1 r1 q1) fun _ s2 q=>q
theorem O8 {i:Nat}{x:Str}{e:Expr}{te:TE}{pos':Pos}(hN:X.N.Nodup)(hi:X.N[i]? = some x)(hx:Loc X.env.scope x)(he:PE X e te)(hs:swapsWith e (some (.Name x pos')) pos.line X.env=pure false:=by rfl)(hf:X.fn x=true∨X.env.scope.names.lookup x=some .local:=by first | exact .inl rfl | exact .inr rfl | assumption) :
    PS X (.Assign [.Name x pos'] e pos) (F9 te (lZ i)):=by
  intro pins s σ H D I h
  refine wpAny_Assign_Name (thn (he pins s σ H _ I h) fun v s1 ⟨y,H1,I1,r1,q1⟩=>?_) hs
  exact ji I1 hN hi hx r1 (fun s2 I2=>⟨_,H1,I2,q1⟩) hf
def Sh (i j:Nat)(ta:TA):TS:=fun D σ H=>ta σ H fun vs H1=>∃ v w,vs=[v,w]∧D.nx ((σ.set i (some v)).set j (some w)) H1
theorem MG {i j:Nat}{x y:Str}{a b:Expr}{ta:TA}{px py pt:Pos}{kt k2 pt2}(hc:X.calm=true)(hN:X.N.Nodup)(hi:X.N[i]? = some x)(hj:X.N[j]? = some y)(hij:i≠j)
    (hx:X.env.scope.names.lookup x=some .local) (hy:X.env.scope.names.lookup y=some .local) (ha:PA X [a,b] ta)
    (hw:swappedStores [.Tuple [.Name x px,.Name y py] kt pt] (.Tuple [a,b] k2 pt2) X.env=pure (some [x,y]))
    (hs:swapsWithSole [.Tuple [.Name x px,.Name y py] kt pt] (.Tuple [a,b] k2 pt2) pos.line X.env=pure false:=by rfl) :
    PS X (.Assign [.Tuple [.Name x px,.Name y py] kt pt] (.Tuple [a,b] k2 pt2) pos) (Sh i j ta):=by
  intro pins s σ H D I h
  rw[exec_Assign_arm]
  refine wpAny_bind (wpAny_standAt ?_)
  rw[hs]
  refine wpAny_bind (wpAny_pure ?_)
  rw[if_neg (by decide)]
  refine wpAny_bind (Tuple_ (thn (ha _ pins s σ H _ I h) fun us s1 ⟨vs,H1,I1,r1,q1⟩=>?_))
  obtain ⟨v,w,e1,q1⟩:=q1
  subst e1
  obtain ⟨u1,u2,rfl,rv,rw'⟩:∃ u1 u2,us=[u1,u2]∧RelV v u1∧RelV w u2:=by
    cases r1 with
    | cons p q=>
      cases q with
      | cons p' q'=>
        cases q'
        exact ⟨_,_,rfl,p,p'⟩
  refine wpAny_newObj_type ?_ (by show 2≤sizeLine;decide)
  have I2:Inv X pins σ H1 { s1 with heap:=s1.heap.push { cls:=.type "tuple", data:=.seq [u1,u2].toArray } }:=I1.kept (t':=s1.toks) fun b o e=>Heap.get?_push_of_some _ e
  rw[hw]
  refine wpAny_bind (wpAny_pure ?_)
  show wpAny (model X.prog X.w) X.A (do rule "assign.swapped-stores";let items ← unpackItems (.ref s1.heap.objs.size) 2 none;assignInOrder [fun v=>bindName X.env y v,fun v=>bindName X.env x v] items.reverse;pure Flow.next) _ _ _
  refine wpAny_bind (wpAny_rule (wpAny_bind (unpackItems_tuple (items:=#[u1,u2]) (I.ok.hd hc) (IsTup.new s1.heap _) fun h' hx'=>?_)))
  have I3:=I2.kept (h':=h') (t':=s1.toks) fun b o e=>hx' b o (Nat.ne_of_lt (Heap.lt_size e)) e
  show wpAny _ _ (assignInOrder [fun v=>bindName X.env y v,fun v=>bindName X.env x v] [u2,u1] >>= fun _=>pure Flow.next) _ _ _
  refine wpAny_bind (assignInOrder_cons (wpAny_bindName (ji I3 hN hj (.inl hy) rw' (fun s2 I4=>?_) (.inr hy))))
  refine assignInOrder_cons (wpAny_bindName (ji I4 hN hi (.inl hx) rv (fun s3 I5=>assignInOrder_nil (wpAny_pure ?_)) (.inr hx)))
  rw[List.set_comm _ _ (Ne.symm hij)] at I5
  exact ⟨_,H1,I5,q1⟩
def PB (i:Nat)(te:TE)(ti:TIp):TS:=fun D σ H=>∃ x,σ[i]? = some (some x)∧te σ H fun y H1=>ti x y H1 fun z H2=>D.nx (σ.set i (some z)) H2
theorem Pj {i:Nat}{x:Str}{e:Expr}{te:TE}{op:Operator}{ti:TIp}{pos':Pos}(hN:X.N.Nodup)(hi:X.N[i]? = some x)(hx:Loc X.env.scope x)(he:PE X e te)(ho:PIp X op ti)(hf:X.fn x=true∨X.env.scope.names.lookup x=some .local:=by first | exact .inl rfl | exact .inr rfl | assumption) :
    PS X (.AugAssign (.Name x pos') op e pos) (PB i te ti):=by
  intro pins s σ H D I h
  obtain ⟨v,e1,h⟩:=h
  obtain ⟨m,hn,hl⟩:=I.loc
  have vis:Vis X.env.scope x:=by rcases hx with k | k;exact .inl k;exact .inr (.inl k)
  obtain ⟨u,r,l⟩:=hl i x v hi e1 vis
  refine wpAny_AugAssign_Name ?_
  have go:wpAny (model X.prog X.w) X.A (eval e X.env) (fun w s₂=>wpAny (model X.prog X.w) X.A (inplaceOp op u w) (fun r s₃=>wpAny (model X.prog X.w) X.A (storeName X.env x r) (fun _=>SP X pins D .next) X.xe s₃) X.xe s₂) X.xe s:=by
    refine thn (he pins s σ H _ I h) fun w s1 ⟨y,H1,I1,r1,q1⟩=>?_
    refine thn (ho pins s1 σ H1 v y u w _ I1 r r1 q1) fun z s2 ⟨zv,H2,I2,r2,q2⟩=>?_
    exact ji I2 hN hi hx r2 (fun s3 I3=>⟨_,H2,I3,q2⟩) hf
  rcases l with ⟨hk,hm⟩ | ⟨hk,c,hc,hcell⟩
  · exact wpAny_loadName_local I.ok.kind hk hn hm go
  · rcases hk with hk | hk
    · exact wpAny_loadName_cell I.ok.kind hk hc hcell go
    · rcases hx with k | k
      · have:X.env.scope.names.lookup x=some .free:=hk
        rw[k] at this;cases this
      · have:X.env.scope.names.lookup x=some .free:=hk
        rw[k] at this;cases this
def ipI (f:Int→Int→Int):TIp:=fun x y H Q=>∃ i j,x=.int i∧y=.int j∧Q (.int (f i j)) H
theorem OT:PIp X .Add (ipI fun i j=>i+j):=by
  intro pins s σ H x y v u Q I r1 r2 h
  obtain ⟨i,j,e1,e2,q⟩:=h
  subst e1;subst e2
  obtain ⟨t,rfl⟩:=r1
  obtain ⟨t',rfl⟩:=r2
  exact iadd_int ⟨.int _,H,I.tok _,⟨_,rfl⟩,q⟩
end
section
variable {X:Cx} {pos:Pos}
def OG (c:TT)(tb:TS):TS:=fun D σ H=>∃ W:Nat→St→Hp→Prop,(∃ m,W m σ H)∧∀ m σ H,W m σ H→
  c σ H fun b H1=>if b=true then ∃ N:St→Hp→Prop,(∀ σ' H',N σ' H'→∃ m',m' < m∧W m' σ' H')∧tb { D with nx:=N,ct:=N,bk:=D.nx } σ H1 else D.nx σ H1
theorem Fm {c:Expr}{body:List Stmt}{tc:TT}{tb:TS}(hp:PassesOwn (model X.prog X.w) X.A X.env X.xe)(hc:PT X c tc)(hb:PSs X body tb):PS X (.While c body [] pos) (OG tc tb):=by
  intro pins s σ H D I h
  obtain ⟨W,⟨m0,w0⟩,turn⟩:=h
  refine wpAny_While (codeAny_whileLoop (fun n s'=>∃ σ' H',Inv X pins σ' H' s'∧W n σ' H') ?_ m0 ⟨σ,H,I,w0⟩)
  rintro n s1 ⟨σ1,H1,I1,w1⟩
  refine wpAny_passesOwn hp (thn (hc pins s1 σ1 H1 _ I1 (turn n σ1 H1 w1)) fun b s2 ⟨H2,I2,q2⟩=>?_)
  cases b with
  | true=>
    obtain ⟨N,hN,q2⟩:=q2
    rw[if_pos rfl]
    refine wpAny_passesOwn hp (thn (hb pins s2 σ1 H2 _ I2 q2) fun f s3 q3=>?_)
    cases f with
    | next=>
      obtain ⟨σ3,H3,I3,n3⟩:=q3
      obtain ⟨m',hm,w3⟩:=hN σ3 H3 n3
      exact ⟨m',hm,σ3,H3,I3,w3⟩
    | cont=>
      obtain ⟨σ3,H3,I3,n3⟩:=q3
      obtain ⟨m',hm,w3⟩:=hN σ3 H3 n3
      exact ⟨m',hm,σ3,H3,I3,w3⟩
    | brk=>exact q3
    | ret v=>exact q3
  | false=>
    rw[if_neg Bool.false_ne_true]
    exact wpAny_execs_nil ⟨σ1,H2,I2,q2⟩
end
structure It where
  go:Nat→Hp→Prop
  yld:Nat→Hp→V→Hp→Prop
  stop:Nat→Hp→Prop
def pP (X:Cx)(pins:List (Addr×Obj))(H:Hp)(b:Addr):Prop:=
  H b=none∧b≠X.env.locals∧b ∉ X.fs∧(b∈X.ex∨X.s₀.heap.objs.size≤b)∧(∀ x c,X.env.cells.lookup x=some c→c≠b)∧∀ p∈X.pn++pins,p.1≠b
theorem Inv.C6 {X:Cx}{pins:List (Addr×Obj)}{σ:St}{H H':Hp}{s:Shared}{b:Addr}(I:Inv X pins σ H s)(hb:s.heap.objs.size≤b)(hn:H' b=none):pP X pins H' b:=by
  refine ⟨hn,Nat.ne_of_gt (Nat.lt_of_lt_of_le I.lt hb),I.S4 hb,.inr (Nat.le_trans I.sz hb),fun x c e z=>?_,fun p hp z=>?_⟩
  · obtain ⟨v,q⟩:=I.cell x c e
    exact absurd (Nat.lt_of_lt_of_le q.lt (by rw[z];exact hb)) (Nat.lt_irrefl _)
  · exact absurd (Nat.lt_of_lt_of_le (Heap.lt_size (I.pin p hp).1) (by rw[z];exact hb)) (Nat.lt_irrefl _)
structure Turn (P:Program) (w:World) (K:PySem.W.Frag) (tg:Expr) (J:It) (fp:List Addr) (it:Addr) (tn:Nat→Heap→Prop):Prop where
  mem:it∈fp
  obj:∀ i h,tn i h→∀ b∈fp,∃ o,h.get? b=some o∧∀ v,o.data≠.cell v
  keep:∀ i h h',tn i h→(∀ b∈fp,∀ o,h.get? b=some o→h'.get? b=some o)→tn i h'
  item:∀ (X:Cx),X.prog=P→X.w=w→X.K=K→X.calm=true→∀ (i:Nat) (pins:List (Addr×Obj)) (s:Shared) (σ:St) (H:Hp) (E:Value→Shared→Prop),Inv X pins σ H s→(∀ b∈fp,pP X pins H b)→tn i s.heap→J.go i H→
    wpAny (model P w) X.A (pyNext (.ref it)) (fun r s1=>∃ u,r=some u∧
      wpAny (model P w) X.A (letOwnedTupleGo tg (.ref it) u) (fun _ s2=>∃ x H',Inv X pins σ H' s2∧RelV x u∧J.yld i H x H'∧tn (i+1) s2.heap∧∀ b∈fp,H' b=none) E s1) E s
  done:∀ (X:Cx),X.prog=P→X.w=w→X.K=K→X.calm=true→∀ (i:Nat) (pins:List (Addr×Obj)) (s:Shared) (σ:St) (H:Hp) (E:Value→Shared→Prop),Inv X pins σ H s→(∀ b∈fp,pP X pins H b)→tn i s.heap→J.stop i H→
    wpAny (model P w) X.A (pyNext (.ref it)) (fun r s1=>r=none∧Inv X pins σ H s1) E s
  self:∀ (A:Around) (i:Nat) (s:Shared) (Q:Value→Shared→Prop) (E:Value→Shared→Prop),tn i s.heap→Q (.ref it) s→wpAny (model P w) A (pyIter (.ref it)) Q E s
abbrev TI:=St→Hp→(It→Hp→Prop)→Prop
def PIE (X:Cx)(pins:List (Addr×Obj))(σ:St)(tg:Expr)(R:It→Hp→Prop)(itv:Value)(s2:Shared):Prop:=
  ∃ (it:Addr) (fp:List Addr) (tn:Nat→Heap→Prop) (J:It) (H':Hp),itv=.ref it∧Inv X pins σ H' s2∧Turn X.prog X.w X.K tg J fp it tn∧tn 0 s2.heap∧(∀ b∈fp,pP X pins H' b)∧R J H'
def PI (X:Cx)(tg iter:Expr)(wi:TI):Prop:=
  ∀ (pins:List (Addr×Obj)) (s:Shared) (σ:St) (H:Hp) (R:It→Hp→Prop),Inv X pins σ H s→wi σ H R→
    wpAny (model X.prog X.w) X.A (eval iter X.env) (fun v s1=>wpAny (model X.prog X.w) X.A (pyIter v) (PIE X pins σ tg R) X.xe s1) X.xe s
theorem Ek {M:Model}{A:Around}{E:Value→Shared→Prop}{s:Shared}{tg:Expr}{it:Addr}{u:Value}{o:Obj}{n:String}{vs:Array Value}{Q:Unit→Shared→Prop}(ho:s.heap.get? it=some o)(hc:o.cls=.type n)(hd:o.data=.fields vs)
    (hn:["enumerate", "zip", "dict_itemiterator", "dict_reverseitemiterator", "odict_iterator", "itertools.zip_longest", "itertools.pairwise"].contains n=false) (hQ:Q () s):wpAny M A (letOwnedTupleGo tg (.ref it) u) Q E s:=by
  unfold letOwnedTupleGo
  cases tg<;>first
    | exact wpAny_pure hQ
    | (cases u<;>first
        | exact wpAny_pure hQ
        | (refine wpAny_bind (wpAny_load ho ?_)
           rw[hc,hd]
           show wpAny M A (if (["enumerate", "zip", "dict_itemiterator", "dict_reverseitemiterator", "odict_iterator", "itertools.zip_longest", "itertools.pairwise"].contains n&&vs[0]? == some (rawInt _))=true then _ else _) Q E s
           rw[if_neg (by intro h;rw[hn,Bool.false_and] at h;cases h)]
           exact wpAny_pure hQ))
def Itl (K:PySem.W.Frag)(a:Addr):It:=
  ⟨fun i H=>∃ xs x,SqL K H a xs∧xs[i]? = some x,fun i H x H'=>H'=H∧∀ xs,SqL K H a xs→xs[i]? = some x,fun i H=>∃ xs,SqL K H a xs∧xs.length≤i⟩
def Itt (K:PySem.W.Frag)(a:Addr):It:=
  ⟨fun i H=>∃ xs x,SqT K H a xs∧xs[i]? = some x,fun i H x H'=>H'=H∧∀ xs,SqT K H a xs→xs[i]? = some x,fun i H=>∃ xs,SqT K H a xs∧xs.length≤i⟩
def Itr (lo:Int)(n:Nat):It:=⟨fun i _=>i < n,fun i H x H'=>H'=H∧x=.int (lo+i),fun i _=>n≤i⟩
theorem sC {P:Program}{w:World}{K:PySem.W.Frag}{tg:Expr}(a it:Addr):Turn P w K tg (Itl K a) [it] it (fun i h=>h.IsListIter it a i) where
  mem:=by simp
  obj:=fun i h st b hb=>by
    have e:b=it:=by simpa using hb
    subst e
    obtain ⟨o,e,c,d⟩:=st
    exact ⟨o,e,fun v z=>by rw[d] at z;cases z⟩
  keep:=fun i h h' st k=>st.at fun o e=>k it (by simp) o e
  item:=by
    intro X hP hw hK hc i pins s σ H E I hf st hg
    subst hP hw hK
    obtain ⟨xs,x,hq,hx⟩:=hg
    obtain ⟨its,rv,p,hz⟩:=I.list hq
    obtain ⟨u,hu,ru⟩:=rv.get hx
    obtain ⟨f0,f1,f2,f3,f4,f5⟩:=hf it (by simp)
    refine wpAny_pyNext_list_item st p.isList (x:=u) (by simpa using hu) fun h' st' sb=>?_
    have I1:Inv X pins σ H { s with heap:=h' }:=I.turned (t':=s.toks) (fun b o hb e=>(sb.2 b hb).trans e) f0 f1 f3 f4 f5
    obtain ⟨o,e,c,d⟩:=id st'
    exact ⟨u,rfl,Ek (s:={ s with heap:=h' }) e c d (by decide) ⟨x,H,I1,ru,⟨rfl,fun ys hy=>by rw[I.xT hy hq];exact hx⟩,st',fun b hb=>(hf b hb).1⟩⟩
  done:=by
    intro X hP hw hK hc i pins s σ H E I hf st hg
    subst hP hw hK
    obtain ⟨xs,hq,hx⟩:=hg
    obtain ⟨its,rv,p,hz⟩:=I.list hq
    obtain ⟨f0,f1,f2,f3,f4,f5⟩:=hf it (by simp)
    have hl:=rv.length
    exact wpAny_pyNext_list_end (I.ok.hd hc) st p.isList (by simp;omega) fun h' eb=>⟨rfl,I.turned (t':=s.toks) (fun b o hb e=>eb b o hb e) f0 f1 f3 f4 f5⟩
  self:=fun _ _ _ _ _ st h=>wpAny_pyIter_listiter st h
theorem zD {P:Program}{w:World}{K:PySem.W.Frag}{tg:Expr}(a it:Addr):Turn P w K tg (Itt K a) [it] it (fun i h=>h.IsTupleIter it a i) where
  mem:=by simp
  obj:=fun i h st b hb=>by
    have e:b=it:=by simpa using hb
    subst e
    obtain ⟨o,e,c,d⟩:=st
    exact ⟨o,e,fun v z=>by rw[d] at z;cases z⟩
  keep:=fun i h h' st k=>st.at fun o e=>k it (by simp) o e
  item:=by
    intro X hP hw hK hc i pins s σ H E I hf st hg
    subst hP hw hK
    obtain ⟨xs,x,hq,hx⟩:=hg
    obtain ⟨its,rv,p,hz⟩:=I.tuple hq
    obtain ⟨u,hu,ru⟩:=rv.get hx
    obtain ⟨f0,f1,f2,f3,f4,f5⟩:=hf it (by simp)
    refine wpAny_pyNext_tuple_item st (show s.heap.IsTuple a its.toArray from p) (x:=u) (by simpa using hu) fun h' st' sb=>?_
    have I1:Inv X pins σ H { s with heap:=h' }:=I.turned (t':=s.toks) (fun b o hb e=>(sb.2 b hb).trans e) f0 f1 f3 f4 f5
    obtain ⟨o,e,c,d⟩:=id st'
    exact ⟨u,rfl,Ek (s:={ s with heap:=h' }) e c d (by decide) ⟨x,H,I1,ru,⟨rfl,fun ys hy=>by rw[I.sP hy hq];exact hx⟩,st',fun b hb=>(hf b hb).1⟩⟩
  done:=by
    intro X hP hw hK hc i pins s σ H E I hf st hg
    subst hP hw hK
    obtain ⟨xs,hq,hx⟩:=hg
    obtain ⟨its,rv,p,hz⟩:=I.tuple hq
    obtain ⟨f0,f1,f2,f3,f4,f5⟩:=hf it (by simp)
    have hl:=rv.length
    exact wpAny_pyNext_tuple_end (I.ok.hd hc) st (show s.heap.IsTuple a its.toArray from p) (by simp;omega) fun h' eb=>⟨rfl,I.turned (t':=s.toks) (fun b o hb e=>eb b o hb e) f0 f1 f3 f4 f5⟩
  self:=fun _ _ _ _ _ st h=>wpAny_pyIter_tupleiter st h
theorem zT {P:Program}{w:World}{K:PySem.W.Frag}{tg:Expr}(it:Addr)(lo:Int)(n:Nat):Turn P w K tg (Itr lo n) [it] it (fun i h=>IsRangeIter h it (lo+(i:Nat)*1) ((n:Int) - (i:Nat)) 1) where
  mem:=by simp
  obj:=fun i h st b hb=>by
    have e:b=it:=by simpa using hb
    subst e
    exact ⟨_,st,fun v z=>by
      have z':Data.fields _=Data.cell v:=z
      cases z'⟩
  keep:=fun i h h' st k=>k it (by simp) _ st
  item:=by
    intro X hP hw hK hc i pins s σ H E I hf st hg
    subst hP hw hK
    obtain ⟨f0,f1,f2,f3,f4,f5⟩:=hf it (by simp)
    have W:=Walks.range (prog:=X.prog) (w:=X.w) (I.ok.hd hc) it lo 1 n
    refine W.item i s _ _ hg st fun v h' tk hv st' kk=>?_
    obtain ⟨t,rfl⟩:=hv
    have I1:Inv X pins σ H { s with heap:=h',toks:=tk }:=I.turned (fun b o hb e=>kk b o (by simpa using hb) e) f0 f1 f3 f4 f5
    refine ⟨_,rfl,Ek (s:={ s with heap:=h',toks:=tk }) (n := "range_iterator") st' rfl rfl (by decide) ⟨.int (lo+i),H,I1,⟨t,?_⟩,⟨rfl,rfl⟩,st',fun b hb=>(hf b hb).1⟩⟩
    rw[Int.mul_one]
  done:=by
    intro X hP hw hK hc i pins s σ H E I hf st hg
    subst hP hw hK
    obtain ⟨f0,f1,f2,f3,f4,f5⟩:=hf it (by simp)
    exact wpAny_pyNext_range_end (I.ok.hd hc) st (by have:n≤i:=hg;omega) fun h' eb=>⟨rfl,I.turned (t':=s.toks) (fun b o hb e=>eb b o hb e) f0 f1 f3 f4 f5⟩
  self:=fun _ _ _ _ _ st h=>wpAny_pyIter_rangeiter st h
end L2
namespace L2
open PySem PySem.Spec PyProof.Rows
section
variable {X:Cx} {tg:Expr}
def L5 (K:PySem.W.Frag)(tl:TE):TI:=fun σ H R=>tl σ H fun x H1=>∃ a,x=.ref a∧(∃ xs,SqL K H1 a xs)∧R (Itl K a) H1
theorem By {l:Expr}{tl:TE}(hl:PE X l tl):PI X tg l (L5 X.K tl):=by
  intro pins s σ H R I h
  refine thn (hl pins s σ H _ I h) fun v s1 ⟨x,H1,I1,r1,q1⟩=>?_
  obtain ⟨a,e,⟨xs,hq⟩,q⟩:=q1
  subst e
  cases r1
  obtain ⟨its,rv,p,hz⟩:=I1.list hq
  refine wpAny_pyIter_list p.isList ?_
  refine ⟨s1.heap.objs.size,[s1.heap.objs.size],_,_,H1,rfl,I1.kept (t':=s1.toks) fun b o e=>Heap.get?_push_of_some _ e,sC a _,⟨_,Heap.get?_push_size _ rfl,rfl,rfl⟩,fun b hb=>?_,q⟩
  have e:b=s1.heap.objs.size:=by simpa using hb
  subst e
  exact I1.C6 (Nat.le_refl _) (I1.hok.fresh (Nat.le_refl _))
theorem Fi {pins:List (Addr×Obj)}{σ:St}{H:Hp}{s:Shared}{R:It→Hp→Prop}{E:Value→Shared→Prop}{lo hi:Int}{t u v:Tok}{tk:Nat}(I:Inv X pins σ H s)(h1:-(2 ^ 62)≤lo)(h2:lo < 2 ^ 62)(h3:-(2 ^ 62)≤hi)(h4:hi < 2 ^ 62)
    (q:R (Itr lo (hi - lo).toNat) H):wpAny (model X.prog X.w) X.A (pyIter (.ref s.heap.objs.size)) (PIE X pins σ tg R) E { s with heap:=s.heap.push { cls:=.type "range", data:=.fields #[.int lo t,.int hi u,.int 1 v] },toks:=tk }:=by
  refine wpAny_pyIter_range (IsRange.new ..) (small_one h1 h2 h3 h4) ?_
  have I1:Inv X pins σ H { s with heap:=s.heap.push { cls:=.type "range", data:=.fields #[.int lo t,.int hi u,.int 1 v] },toks:=tk }:=I.kept fun b o e=>Heap.get?_push_of_some _ e
  refine ⟨(s.heap.push { cls:=.type "range", data:=.fields #[.int lo t,.int hi u,.int 1 v] }).objs.size,[(s.heap.push { cls:=.type "range", data:=.fields #[.int lo t,.int hi u,.int 1 v] }).objs.size],_,_,H,rfl,
    I1.kept (t':=tk) fun b o e=>Heap.get?_push_of_some _ e,zT _ lo (hi - lo).toNat,?_,fun b hb=>?_,q⟩
  · have e1:lo+((0:Nat):Int)*1=lo:=by simp
    have e2:(((hi - lo).toNat:Nat):Int) - ((0:Nat):Int)=Builtin.Range.rangeSize lo hi 1:=by rw[rangeSize_one];split<;>omega
    show IsRangeIter _ _ (lo+((0:Nat):Int)*1) ((((hi - lo).toNat:Nat):Int) - ((0:Nat):Int)) 1
    rw[e1,e2]
    exact Heap.get?_push_size _ rfl
  · have e:b=(s.heap.push { cls:=.type "range", data:=.fields #[.int lo t,.int hi u,.int 1 v] }).objs.size:=by simpa using hb
    subst e
    exact I1.C6 (Nat.le_refl _) (I1.hok.fresh (Nat.le_refl _))
def Qp (ta:TA):TI:=fun σ H R=>ta σ H fun vs H1=>∃ j:Int,vs=[.int j]∧-(2 ^ 62)≤j∧j < 2 ^ 62∧R (Itr 0 j.toNat) H1
theorem DB {a:Expr}{ta:TA}{p pos:Pos}(hg:Gl X "range")(hm:X.mg "range" = none)(ha:PA X [a] ta)(hs:starEach [a] X.env=[(false,eval a X.env)]:=by rfl):PI X tg (.Call (.Name "range" p) [a] [] pos) (Qp ta):=by
  intro pins s σ H R I h
  refine Call_ (jT I hg hm boot_range (PyProof.Rows.callWith_type1 (thn (ha pos pins s σ H _ I h) fun us s1 ⟨vs,H1,I1,r1,q1⟩=>?_) hs rfl))
  obtain ⟨j,e,q1,q2,q⟩:=q1
  subst e
  cases r1 with
  | cons r rr=>
    cases rr
    obtain ⟨t,rfl⟩:=r
    exact call_range_1 (Fi I1 (by omega) (by omega) q1 q2 (by simpa using q))
def Tn (wi:TI)(g:TG)(tb:TS):TS:=fun D σ H=>wi σ H fun J H1=>∃ W:Nat→Nat→St→Hp→Prop,(∃ m,W 0 m σ H1)∧∀ i m σ H,W i m σ H→
  (J.stop i H∧D.nx σ H)∨(J.go i H∧∃ N:St→Hp→Prop,(∀ σ' H',N σ' H'→∃ m',m' < m∧W (i+1) m' σ' H')∧∀ x H',J.yld i H x H'→g x σ H' fun σ2 H2=>tb { D with nx:=N,ct:=N,bk:=D.nx } σ2 H2)
def pN (fp:List Addr)(h:Heap):List (Addr×Obj):=fp.filterMap fun b=>(h.get? b).map fun o=>(b,o)
theorem gx {fp:List Addr}{h:Heap}{b:Addr}{o:Obj}(hb:b∈fp)(e:h.get? b=some o):(b,o)∈pN fp h:=List.mem_filterMap.mpr ⟨b,hb,by rw[e];rfl⟩
theorem Cj {fp:List Addr}{h:Heap}{p:Addr×Obj}(hp:p∈pN fp h):p.1∈fp∧h.get? p.1=some p.2:=by
  obtain ⟨b,hb,e⟩:=List.mem_filterMap.mp hp
  cases q:h.get? b with
  | none=>rw[q] at e;cases e
  | some o=>
    rw[q] at e
    have e':(b,o)=p:=Option.some.inj e
    subst e'
    exact ⟨hb,q⟩
theorem Inv.pinned {pins:List (Addr×Obj)}{σ:St}{H:Hp}{s:Shared}{fp:List Addr}(I:Inv X pins σ H s)(hf:∀ b∈fp,pP X pins H b)(ho:∀ b∈fp,∃ o,s.heap.get? b=some o∧∀ v,o.data≠.cell v):Inv X (pins++pN fp s.heap) σ H s:=
  I.AY fun p hp=>(List.mem_append.mp hp).elim (fun z=>I.pin p (List.mem_append_right _ z)) fun z=>by
    obtain ⟨hb,e⟩:=Cj z
    obtain ⟨f0,f1,f2,_⟩:=hf p.1 hb
    obtain ⟨o,e',d⟩:=ho p.1 hb
    rw[e] at e';cases e'
    exact ⟨e,f0,f1,f2,d⟩
theorem Inv.jj {pins pl:List (Addr×Obj)}{σ:St}{H:Hp}{s:Shared}(I:Inv X (pins++pl) σ H s):Inv X pins σ H s:=I.AY fun p hp=>I.pin p (List.mem_append_right _ (List.mem_append_left _ hp))
theorem N0 {iter:Expr}{body:List Stmt}{wi:TI}{g:TG}{tb:TS}{pos:Pos}(hp:PassesOwn (model X.prog X.w) X.A X.env X.xe)(hc:X.calm=true)(hi:PI X tg iter wi)(hg:PG X tg g)(hb:PSs X body tb)
    (hs:∀ x,foldedSetIterable iter X.env x=pure x:=by intro _;rfl):PS X (.For tg iter body [] pos) (Tn wi g tb):=by
  intro pins s σ H D I h
  refine wpAny_For (thn (hi pins s σ H _ I h) fun v s1 h1=>thn h1 fun itv s2 h2=>?_) hs
  obtain ⟨it,fp,tn,J,H2,e,I2,T,st2,f2,W,⟨m0,w0⟩,turn⟩:=h2
  subst e
  -- what stays true of the iterator's objects through the loop
  have yZ:∀ {H':Hp},(∀ b∈fp,H' b=none)→∀ b∈fp,pP X pins H' b:=fun hn b hb=>⟨hn b hb,(f2 b hb).2⟩
  refine codeAny_forLoop_any (fun n s'=>∃ i σ' H',Inv X pins σ' H' s'∧tn i s'.heap∧(∀ b∈fp,H' b=none)∧W i n σ' H') ?_ m0 ⟨0,σ,H2,I2,st2,fun b hb=>(f2 b hb).1,w0⟩
  rintro n s3 ⟨i,σ3,H3,I3,st3,fr3,w3⟩
  rcases turn i n σ3 H3 w3 with ⟨stop,qn⟩ | ⟨go,N,hN,step⟩
  · refine wpAny_passesOwn hp (thn (T.done X rfl rfl rfl hc i pins s3 σ3 H3 X.xe I3 (yZ fr3) st3 stop) fun r s4 ⟨hr,I4⟩=>?_)
    subst hr
    exact wpAny_execs_nil ⟨σ3,H3,I4,qn⟩
  · refine wpAny_passesOwn hp (thn (T.item X rfl rfl rfl hc i pins s3 σ3 H3 X.xe I3 (yZ fr3) st3 go) fun r s4 ⟨u,hr,h4⟩=>?_)
    subst hr
    refine wpAny_passesOwn hp (thn h4 fun _ s5 ⟨x,H5,I5,r5,y5,st5,fr5⟩=>?_)
    have I5':=I5.pinned (yZ fr5) (T.obj _ _ st5)
    refine wpAny_passesOwn hp (thn (hg _ s5 σ3 H5 x u _ I5' r5 (step x H5 y5)) fun _ s6 ⟨σ6,H6,I6,q6⟩=>?_)
    refine wpAny_passesOwn hp (thn (hb _ s6 σ6 H6 _ I6 q6) fun f s7 q7=>?_)
    have again:∀ {σ7:St} {H7:Hp},Inv X (pins++pN fp s5.heap) σ7 H7 s7→N σ7 H7→∃ m,m < n∧∃ i σ' H',Inv X pins σ' H' s7∧tn i s7.heap∧(∀ b∈fp,H' b=none)∧W i m σ' H':=fun {σ7 H7} I7 n7=>by
      obtain ⟨m',hm,w7⟩:=hN σ7 H7 n7
      refine ⟨m',hm,i+1,σ7,H7,I7.jj,T.keep _ _ _ st5 fun b hb o e=>(I7.pin (b,o) (List.mem_append_right _ (List.mem_append_right _ (gx hb e)))).1,fun b hb=>?_,w7⟩
      obtain ⟨o,e,d⟩:=T.obj _ _ st5 b hb
      exact (I7.pin (b,o) (List.mem_append_right _ (List.mem_append_right _ (gx hb e)))).2.1
    cases f with
    | next=>obtain ⟨σ7,H7,I7,n7⟩:=q7;exact again I7 n7
    | cont=>obtain ⟨σ7,H7,I7,n7⟩:=q7;exact again I7 n7
    | brk=>obtain ⟨σ7,H7,I7,q7⟩:=q7;exact ⟨σ7,H7,I7.jj,q7⟩
    | ret v=>obtain ⟨x7,σ7,H7,I7,r7,q7⟩:=q7;exact ⟨x7,σ7,H7,I7.jj,r7,q7⟩
end
end L2
namespace L2
open PySem PySem.Spec PyProof.Rows
abbrev R2:=V→V→Hp→VK→Prop
def OpR (X:Cx)(f:Value→Value→Sem Value)(r:R2):Prop:=
  ∀ (pins:List (Addr×Obj)) (s:Shared) (σ:St) (H:Hp) (x y:V) (v u:Value) (Q:VK),Inv X pins σ H s→RelV x v→RelV y u→r x y H Q→
    wpAny (model X.prog X.w) X.A (f v u) (EP X pins σ Q) X.xe s
def UnR (X:Cx)(f:Value→Sem Value)(r:V→Hp→VK→Prop):Prop:=
  ∀ (pins:List (Addr×Obj)) (s:Shared) (σ:St) (H:Hp) (x:V) (v:Value) (Q:VK),Inv X pins σ H s→RelV x v→r x H Q→
    wpAny (model X.prog X.w) X.A (f v) (EP X pins σ Q) X.xe s
def cH (X:Cx)(f:Value)(r:List V→Hp→VK→Prop):Prop:=
  ∀ (pins:List (Addr×Obj)) (s:Shared) (σ:St) (H:Hp) (xs:List V) (us:List Value) (Q:VK),Inv X pins σ H s→Vals xs us→r xs H Q→
    wpAny (model X.prog X.w) X.A (call f us) (EP X pins σ Q) X.xe s
def tOp (r:R2)(ta tb:TE):TE:=fun σ H Q=>ta σ H fun x H1=>tb σ H1 fun y H2=>r x y H2 Q
def tUn (r:V→Hp→VK→Prop)(ta:TE):TE:=fun σ H Q=>ta σ H fun x H1=>r x H1 Q
def rI (C:Int→Int→Prop)(g:Int→Int→V):R2:=fun x y H Q=>∃ i j,x=.int i∧y=.int j∧C i j∧Q (g i j) H
def rI0 (g:Int→Int→V):R2:=fun x y H Q=>∃ i j,x=.int i∧y=.int j∧Q (g i j) H
def rU (g:Int→V):V→Hp→VK→Prop:=fun x H Q=>∃ i,x=.int i∧Q (g i) H
section
variable {X:Cx} {a b c:Expr} {ta tb tc:TE} {pos:Pos}
theorem Oc (ha:PE X a ta)(hb:PE X b tb){pins:List (Addr×Obj)}{s:Shared}{σ:St}{H:Hp}{R:V→V→Hp→Prop}(I:Inv X pins σ H s)
    (h:ta σ H fun x H1=>tb σ H1 fun y H2=>R x y H2) {Q:Value→Shared→Prop} {f:Value→Value→Sem Value}
    (hf:∀ v u s2 x y H2,Inv X pins σ H2 s2→RelV x v→RelV y u→R x y H2→wpAny (model X.prog X.w) X.A (f v u) Q X.xe s2) :
    wpAny (model X.prog X.w) X.A (eval a X.env) (fun v s₁=>wpAny (model X.prog X.w) X.A (eval b X.env) (fun u s₂=>wpAny (model X.prog X.w) X.A (f v u) Q X.xe s₂) X.xe s₁) X.xe s:=by
  refine thn (ha pins s σ H _ I h) fun v s1 ⟨x,H1,I1,r1,q1⟩=>?_
  refine thn (hb pins s1 σ H1 _ I1 q1) fun u s2 ⟨y,H2,I2,r2,q2⟩=>?_
  exact hf v u s2 x y H2 I2 r1 r2 q2
theorem L0 {op:Operator}{r:R2}(ho:OpR X (binaryOp op) r)(ha:PE X a ta)(hb:PE X b tb):PE X (.BinOp a op b pos) (tOp r ta tb):=by
  intro pins s σ H Q I h
  exact wpAny_BinOp (Oc ha hb I h fun v u s2 x y H2 I2 rx ry q=>ho pins s2 σ H2 x y v u Q I2 rx ry q)
theorem Qz {op:UnaryOp}{r:V→Hp→VK→Prop}(ho:UnR X (unaryOp op) r)(ha:PE X a ta):PE X (.UnaryOp op a pos) (tUn r ta):=by
  intro pins s σ H Q I h
  exact UnaryOp_ (thn (ha pins s σ H _ I h) fun v s1 ⟨x,H1,I1,r1,q1⟩=>ho pins s1 σ H1 x v Q I1 r1 q1)
theorem opI {f:Value→Value→Sem Value}{C:Int→Int→Prop}{g:Int→Int→Int}
    (rule:∀ (i j:Int) (t u:Tok) (s:Shared) (Q:Value→Shared→Prop) (E:Value→Shared→Prop),C i j→Q (.int (g i j) s.toks) { s with toks:=s.toks+1 }→wpAny (model X.prog X.w) X.A (f (.int i t) (.int j u)) Q E s) :
    OpR X f (rI C fun i j=>.int (g i j)):=by
  intro pins s σ H x y v u Q I rx ry h
  obtain ⟨i,j,rfl,rfl,hc,q⟩:=h
  obtain ⟨t,rfl⟩:=rx
  obtain ⟨t',rfl⟩:=ry
  exact rule i j t t' s _ _ hc ⟨.int (g i j),H,I.tok _,⟨_,rfl⟩,q⟩
theorem Rn {f:Value→Value→Sem Value}{g:Int→Int→Int}
    (rule:∀ (i j:Int) (t u:Tok) (s:Shared) (Q:Value→Shared→Prop) (E:Value→Shared→Prop),Q (.int (g i j) s.toks) { s with toks:=s.toks+1 }→wpAny (model X.prog X.w) X.A (f (.int i t) (.int j u)) Q E s) :
    OpR X f (rI0 fun i j=>.int (g i j)):=by
  intro pins s σ H x y v u Q I rx ry h
  obtain ⟨i,j,rfl,rfl,q⟩:=h
  obtain ⟨t,rfl⟩:=rx
  obtain ⟨t',rfl⟩:=ry
  exact rule i j t t' s _ _ ⟨.int (g i j),H,I.tok _,⟨_,rfl⟩,q⟩
theorem KL {f:Value→Value→Sem Value}{g:Int→Int→Bool}
    (rule:∀ (i j:Int) (t u:Tok) (s:Shared) (Q:Value→Shared→Prop) (E:Value→Shared→Prop),Q (.bool (g i j)) s→wpAny (model X.prog X.w) X.A (f (.int i t) (.int j u)) Q E s) :
    OpR X f (rI0 fun i j=>.bl (g i j)):=by
  intro pins s σ H x y v u Q I rx ry h
  obtain ⟨i,j,rfl,rfl,q⟩:=h
  obtain ⟨t,rfl⟩:=rx
  obtain ⟨t',rfl⟩:=ry
  exact rule i j t t' s _ _ ⟨.bl (g i j),H,I,rfl,q⟩
def S6 (i j:Int):Prop:=0≤j∧j≤1000000∧i.natAbs < 2 ^ 64
def RA (i j:Int):Prop:=(-(2 ^ 64) < i∧i < 2 ^ 64)∨(-(2 ^ 64) < j∧j < 2 ^ 64)
theorem RA.ok {i j:Int}(h:RA i j):IntMulOk i j:=by
  rcases h with ⟨h1,h2⟩ | ⟨h1,h2⟩
  · exact .of_left (intBits_le_64 h1 h2)
  · exact .of_right (intBits_le_64 h1 h2)
theorem NC:OpR X (binaryOp .Add) (rI0 fun i j=>.int (i+j)):=Rn fun _ _ _ _ _ _ _ q=>add_int q
theorem Nf:OpR X (binaryOp .Sub) (rI0 fun i j=>.int (i - j)):=Rn fun _ _ _ _ _ _ _ q=>sub_int q
theorem Kl:OpR X (binaryOp .Mod) (rI (fun _ j=>j≠0) fun i j=>.int (i.fmod j)):=opI fun _ _ _ _ _ _ _ hc q=>mod_int' hc q
theorem MQ:OpR X (binaryOp .Pow) (rI S6 fun i j=>.int (i ^ j.toNat)):=opI fun _ _ _ _ _ _ _ hc q=>pow_int_small hc.1 hc.2.1 hc.2.2 q
theorem unI {f:Value→Sem Value}{g:Int→Int}
    (rule:∀ (i:Int) (t:Tok) (s:Shared) (Q:Value→Shared→Prop) (E:Value→Shared→Prop),Q (.int (g i) s.toks) { s with toks:=s.toks+1 }→wpAny (model X.prog X.w) X.A (f (.int i t)) Q E s) :
    UnR X f (rU fun i=>.int (g i)):=by
  intro pins s σ H x v Q I rx h
  obtain ⟨i,rfl,q⟩:=h
  obtain ⟨t,rfl⟩:=rx
  exact rule i t s _ _ ⟨.int (g i),H,I.tok _,⟨_,rfl⟩,q⟩
theorem Ox:UnR X (unaryOp .USub) (rU fun i=>.int (-i)):=unI fun _ _ _ _ _ q=>neg_int q
end
def QF:V→V→Bool
  | .non,.non=>true | .non,.int _=>true | .int _,.non=>true | .non,.bl _=>true | .bl _,.non=>true | .non,.str _=>true | .str _,.non=>true
  | .int _,.int _=>true | .bl _,.bl _=>true | .str _,.str _=>true | .byt _,.byt _=>true
  | .int _,.str _=>true | .str _,.int _=>true | .bl _,.str _=>true | .str _,.bl _=>true
  | _,_=>false
def rEq:R2:=fun x y H Q=>QF x y=true∧Q (.bl (decide (x=y))) H
def rNe:R2:=fun x y H Q=>QF x y=true∧Q (.bl (!decide (x=y))) H
section
variable {X:Cx} {a b c:Expr} {ta tb tc:TE} {pos:Pos}
theorem FF {pins:List (Addr×Obj)}{σ:St}{H:Hp}{s:Shared}{Q:VK}{k k':Bool}(I:Inv X pins σ H s)(q:Q (.bl k) H)(e:k=k'):EP X pins σ Q (.bool k') s:=by
  subst e
  exact ⟨.bl k,H,I,rfl,q⟩
theorem Mb:OpR X (compareOp .Lt) (rI0 fun i j=>.bl (decide (i < j))):=KL fun _ _ _ _ _ _ _ q=>lt_int q
theorem RH:OpR X (compareOp .LtE) (rI0 fun i j=>.bl (decide (i≤j))):=KL fun _ _ _ _ _ _ _ q=>le_int q
theorem Ro:OpR X (compareOp .Gt) (rI0 fun i j=>.bl (decide (j < i))):=KL fun _ _ _ _ _ _ _ q=>gt_int q
theorem LY:OpR X (compareOp .GtE) (rI0 fun i j=>.bl (decide (j≤i))):=KL fun _ _ _ _ _ _ _ q=>ge_int q
theorem GK:OpR X (compareOp .Is) (fun x y H Q=>y=.non∧Q (.bl (decide (x=.non))) H):=by
  intro pins s σ H x y v u Q I rx ry h
  obtain ⟨rfl,q⟩:=h
  cases ry
  refine is_none_gen (FF I q ?_)
  cases x<;>first
    | (cases rx;rfl)
    | (obtain ⟨t,rfl⟩:=rx;rfl)
theorem Jo:OpR X (compareOp .IsNot) (fun x y H Q=>y=.non∧Q (.bl (!decide (x=.non))) H):=by
  intro pins s σ H x y v u Q I rx ry h
  obtain ⟨rfl,q⟩:=h
  cases ry
  refine isnot_none_gen (FF I q ?_)
  cases x<;>first
    | (cases rx;rfl)
    | (obtain ⟨t,rfl⟩:=rx;rfl)
theorem OpR.or {f:Value→Value→Sem Value}{r r':R2}(h:OpR X f r)(h':OpR X f r'):OpR X f (fun x y H Q=>r x y H Q∨r' x y H Q):=by
  intro pins s σ H x y v u Q I rx ry q
  rcases q with q | q
  · exact h pins s σ H x y v u Q I rx ry q
  · exact h' pins s σ H x y v u Q I rx ry q
theorem fz (b:Expr){op:CmpOp}(h:op≠.In:=by decide)(h2:op≠.NotIn:=by decide):behindInMarks op b=false:=by
  have e1:(op == CmpOp.In)=false:=by cases op<;>first | rfl | exact absurd rfl h
  have e2:(op == CmpOp.NotIn)=false:=by cases op<;>first | rfl | exact absurd rfl h2
  cases b<;>simp[behindInMarks,e1,e2]
theorem Kr {op:CmpOp}{r:R2}(ho:OpR X (compareOp op) r)(ha:PE X a ta)(hb:PE X b tb)(hm:behindInMarks op b=false):PE X (.Compare a [op] [b] pos) (tOp r ta tb):=by
  intro pins s σ H Q I h
  exact wpAny_Compare1 (Oc ha hb I h fun v u s2 x y H2 I2 rx ry q=>ho pins s2 σ H2 x y v u Q I2 rx ry q) hm
def Mc (t:TE):TT:=fun σ H Q=>t σ H fun x H'=>∃ k,x=.bl k∧Q k H'
theorem KW {op:CmpOp}{r:R2}(ho:OpR X (compareOp op) r)(ha:PE X a ta)(hb:PE X b tb)(hm:behindInMarks op b=false):PT X (.Compare a [op] [b] pos) (Mc (tOp r ta tb)):=by
  intro pins s σ H Q I h
  refine wpAny_isTrue_Compare1 (thn (ha pins s σ H _ I h) fun v s1 ⟨x,H1,I1,r1,q1⟩=>thn (hb pins s1 σ H1 _ I1 q1) fun u s2 ⟨y,H2,I2,r2,q2⟩=>
    thn (ho pins s2 σ H2 x y v u _ I2 r1 r2 q2) fun c s3 ⟨z,H3,I3,r3,k,e,q3⟩=>?_) hm
  subst e
  cases r3
  exact wpAny_truthy_bool ⟨H3,I3,q3⟩
theorem pI:(sizeLine:Nat) < 2 ^ 63:=by rw[sizeLine_eq];decide
theorem zO:OpR X (binaryOp .Add) (fun x y H Q=>∃ i j,x=.str i∧y=.str j∧i.length+j.length≤sizeLine∧Q (.str (i++j)) H):=by
  intro pins s σ H x y v u Q I rx ry h
  obtain ⟨i,j,rfl,rfl,hz,q⟩:=h
  obtain ⟨t,rfl⟩:=rx
  obtain ⟨t',rfl⟩:=ry
  exact add_str (fun t' tk=>⟨.str (i++j),H,I.tok _,⟨_,rfl⟩,q⟩) hz
theorem vals1 {x:V}{us:List Value}(r:Vals [x] us):∃ u,us=[u]∧RelV x u:=by
  cases r with
  | cons r1 r2=>cases r2;exact ⟨_,rfl,r1⟩
theorem vals2 {x y:V}{us:List Value}(r:Vals [x,y] us):∃ u w',us=[u,w']∧RelV x u∧RelV y w':=by
  cases r with
  | cons r1 r2=>
    cases r2 with
    | cons r3 r4=>cases r4;exact ⟨_,_,rfl,r1,r3⟩
theorem oW:cH X (.builtin "abs") (fun xs H Q=>∃ i,xs=[.int i]∧Q (.int (if i < 0 then -i else i)) H):=by
  intro pins s σ H xs us Q I r h
  obtain ⟨i,rfl,q⟩:=h
  obtain ⟨u,rfl,t,rfl⟩:=vals1 r
  exact call_abs_int fun u tk=>⟨.int (if i < 0 then -i else i),H,I.tok _,⟨_,rfl⟩,q⟩
theorem sG (hc:X.calm=true):cH X (.builtin "max") (fun xs H Q=>∃ i j,xs=[.int i,.int j]∧Q (.int (if j > i then j else i)) H):=by
  intro pins s σ H xs us Q I r h
  obtain ⟨i,j,rfl,q⟩:=h
  obtain ⟨u,w',rfl,⟨t,rfl⟩,⟨t',rfl⟩⟩:=vals2 r
  refine max_two_ints (I.ok.hd hc) fun h' tk k=>⟨_,H,I.kept k,?_,q⟩
  by_cases hj:j > i
  · rw[if_pos hj,if_pos hj];exact ⟨_,rfl⟩
  · rw[if_neg hj,if_neg hj];exact ⟨_,rfl⟩
theorem De (hc:X.calm=true):cH X (.builtin "min") (fun xs H Q=>∃ i j,xs=[.int i,.int j]∧Q (.int (if j < i then j else i)) H):=by
  intro pins s σ H xs us Q I r h
  obtain ⟨i,j,rfl,q⟩:=h
  obtain ⟨u,w',rfl,⟨t,rfl⟩,⟨t',rfl⟩⟩:=vals2 r
  refine min_two_ints (I.ok.hd hc) fun h' tk k=>⟨_,H,I.kept k,?_,q⟩
  by_cases hj:j < i
  · rw[if_pos hj,if_pos hj];exact ⟨_,rfl⟩
  · rw[if_neg hj,if_neg hj];exact ⟨_,rfl⟩
theorem CV:cH X (.type "int") (fun xs H Q=>(∃ i,xs=[.int i]∧Q (.int i) H)∨∃ k,xs=[.bl k]∧Q (.int (if k then 1 else 0)) H):=by
  intro pins s σ H xs us Q I r h
  rcases h with ⟨i,rfl,q⟩ | ⟨k,rfl,q⟩
  · obtain ⟨u,rfl,t,rfl⟩:=vals1 r
    exact call_int_int ⟨.int i,H,I,⟨_,rfl⟩,q⟩
  · obtain ⟨u,rfl,r1⟩:=vals1 r
    cases r1
    exact call_int_bool ⟨.int (if k then 1 else 0),H,I.tok _,⟨_,rfl⟩,q⟩
end
end L2
namespace L2
open PySem PySem.Spec PyProof.Rows
structure Q1 (h:Heap) (x dx C:Addr) (mA:Str→Option Value):Prop where
  obj:h.get? x=some (PySem.W.instObj C dx)
  ns:h.Ns1 dx mA
  ne:dx≠x
theorem Dq {h:Heap}{dx:Addr}{mA:Str→Option Value}(n:h.Ns1 dx mA):∃ od,h.get? dx=some od∧∀ name,PySem.W.lookIn name od=some (mA name):=by
  obtain ⟨o,es,ep,ho,hd,hk,_,hm⟩:=n
  refine ⟨o,ho,fun name=>?_⟩
  have e:=hm name
  unfold nsFind findBy at e
  rw[← Array.find?_toList] at e
  unfold PySem.W.lookIn
  rw[hd]
  dsimp only
  split
  · rename_i y q
    rw[q] at e
    exact congrArg some e
  · rename_i q
    rw[q] at e
    have a:es.toList.any (·.refKey)=false:=by
      rw[List.any_eq_false]
      intro y hy
      obtain ⟨z,t,hkey⟩:=hk y (Array.mem_toList_iff.mp hy)
      simp[DictEntry.refKey,hkey]
    have a':¬ es.toList.any (·.refKey)=true:=by rw[a];exact Bool.false_ne_true
    rw[if_neg a']
    exact congrArg some e
theorem Q1.look {h:Heap}{x dx C:Addr}{mA:Str→Option Value}(I:Q1 h x dx C mA):∃ od,PySem.W.InstAt h x (PySem.W.instObj C dx) C (some od)∧∀ name,PySem.W.lookIn name od=some (mA name):=
  let ⟨od,ho,hl⟩:=Dq I.ns
  ⟨od,⟨I.obj,rfl,rfl,ho⟩,hl⟩
section
variable {prog:Program} {w:World} {A:Around} {E:Value→Shared→Prop} {s:Shared} {K:PySem.W.Frag} {x dx C f:Addr} {mA:Str→Option Value} {name:Str} {v:Value}
end
theorem lS.some_of {v:V}{o:Option Value}(r:lS (some v) o):∃ u,o=some u∧RelV v u:=by
  cases o with
  | none=>exact (show False from r).elim
  | some u=>exact ⟨u,rfl,r⟩
theorem lS.none_of {o:Option Value}(r:lS none o):o=none:=by
  cases o with
  | none=>rfl
  | some u=>exact (show False from r).elim
section
variable {P:Program} {w:World} {H H':Hp} {h h':Heap} {a C dx:Addr} {fs fs':List (Str×V)}
end
structure Cls (K:PySem.W.Frag) (C:Addr):Prop where
  pg:PySem.W.plainGet K C Str.empty=true
  hd:PySem.W.hasDictIn K C=true
  po:PySem.W.plainOver K C=true
  sa:PySem.W.findIn K (.ref C) "__setattr__" = some (some (.builtin "object.__setattr__"))
theorem Cls.get {K:PySem.W.Frag}{C:Addr}(c:Cls K C)(f:Str):PySem.W.plainGet K C f=true:=c.pg
section
variable {X:Cx} {pins:List (Addr×Obj)} {σ:St} {H:Hp} {s:Shared} {a C dx:Addr} {fs:List (Str×V)} {f:Str} {v:V} {A:Around} {E:Value→Shared→Prop}
theorem Inv.made (I:Inv X pins σ H s):Inv X pins σ (upd (upd H s.heap.objs.size (.own (s.heap.objs.size+1))) (s.heap.objs.size+1) (.ins C s.heap.objs.size []))
    { s with heap:=(s.heap.push PySem.W.emptyDict).push (PySem.W.instObj C s.heap.objs.size) }:=by
  have e1:(s.heap.push PySem.W.emptyDict).get? s.heap.objs.size=some PySem.W.emptyDict:=Heap.get?_push_size s.heap rfl
  have e2:((s.heap.push PySem.W.emptyDict).push (PySem.W.instObj C s.heap.objs.size)).get? (s.heap.objs.size+1)=some (PySem.W.instObj C s.heap.objs.size):=by
    have:=Heap.get?_push_size (s.heap.push PySem.W.emptyDict) (o:=PySem.W.instObj C s.heap.objs.size) rfl
    rwa [Heap.size_push] at this
  have e3:(s.heap.push PySem.W.emptyDict).Ns s.heap.objs.size (fun _=>none):=⟨PySem.W.emptyDict,#[],_,e1,rfl,(fun e he=>absurd he (by simp)),fun _=>rfl⟩
  have I1:=I.laid (a:=s.heap.objs.size) (o:=.own (s.heap.objs.size+1)) (h':=s.heap.push PySem.W.emptyDict) (t':=s.toks) (fun b u q=>Heap.get?_push_of_some _ q) (Nat.le_refl _) ⟨_,e1⟩
  refine I1.laid (a:=s.heap.objs.size+1) (o:=.ins C s.heap.objs.size []) (t':=s.toks) (fun b u q=>Heap.get?_push_of_some _ q) (Nat.le_of_eq (Heap.size_push _ _)) ?_
  have ne:s.heap.objs.size≠s.heap.objs.size+1:=Nat.ne_of_lt (Nat.lt_succ_self _)
  refine ⟨by rw[aM ne,aL],Nat.zero_le _,ne,e2,fun _=>none,(Heap.Ns1.of_empty e3).at fun o q=>Heap.get?_push_of_some _ q,fun _=>True.intro,fun y hy=>absurd rfl hy⟩
end
def Ra (X:Cx)(op:Operator)(rd:V→V→Hp→VK→Prop):Prop:=
  ∀ (pins:List (Addr×Obj)) (s:Shared) (σ:St) (H:Hp) (x y:V) (u v:Value) (Q:VK),Inv X pins σ H s→RelV x u→RelV y v→rd x y H Q→wpAny (model X.prog X.w) X.A (inplaceOp op u v) (EP X pins σ Q) X.xe s
section
variable {X:Cx} {o e value:Expr} {f:Str} {pos pos' tpos:Pos} {ta tv:TE}
def RD:V→V→Hp→VK→Prop:=fun x y H Q=>∃ i j,x=.int i∧y=.int j∧Q (.int (i+j)) H
def kj:V→V→Hp→VK→Prop:=fun x y H Q=>∃ i j,x=.int i∧y=.int j∧Q (.int (i - j)) H
theorem MX:Ra X .Add RD:=by
  rintro pins s σ H x y u v Q I rx ry ⟨i,j,rfl,rfl,q⟩
  obtain ⟨t,rfl⟩:=(show ∃ t,u=Value.int i t from rx)
  obtain ⟨t',rfl⟩:=(show ∃ t',v=Value.int j t' from ry)
  exact PyProof.Rows.iadd_int ⟨.int (i+j),H,I.tok _,⟨_,rfl⟩,q⟩
end
section
variable {X:Cx} {pins:List (Addr×Obj)} {σ:St} {H:Hp} {s:Shared} {A:Around} {E:Value→Shared→Prop} {Q:Value→Shared→Prop} {c:Value} {b:Bool}
end
end L2
namespace L2
open PySem PySem.Spec PyProof.Rows
structure fH (k:Nat) (A:Around):Prop where
  hd:A.handled=none
  dp:A.depth+3*k+5 < recursionLimit
  un:A.units+16*k+200 < cLine
theorem fH.mono {j k:Nat}{A:Around}(r:fH k A)(h:j≤k):fH j A:=⟨r.hd,by have:=r.dp;omega,by have:=r.un;omega⟩
theorem fH.deeper {k:Nat}{A:Around}(r:fH (k+1) A)(env:Env):fH k (A.deeper env):=
  ⟨r.hd,by have:=r.dp;show A.depth+1+3*k+5 < _;omega,by have:=r.un;show A.units+3+16*k+200 < _;omega⟩
theorem fH.in1 {k:Nat}{A:Around}(r:fH (k+1) A):fH k A.in1:=
  ⟨r.hd,by have:=r.dp;show A.depth+3*k+5 < _;omega,by have:=r.un;show A.units+1+16*k+200 < _;omega⟩
theorem fH.depth {k:Nat}{A:Around}(r:fH k A):A.depth < recursionLimit:=by have:=r.dp;omega
theorem fH.units {k:Nat}{A:Around}(r:fH k A):A.units+64 < cLine:=by have:=r.un;omega
def RB:TA:=fun _ H Q=>Q [] H
def LZ (ta:TE)(tr:TA):TA:=fun σ H Q=>ta σ H fun x H1=>tr σ H1 fun xs H2=>Q (x::xs) H2
section
variable {X:Cx} {e:Expr} {es:List Expr} {te:TE} {t:TA} {pos:Pos}
theorem jl:PA X [] RB:=fun _ _ _ _ H Q I h=>Calls.spliced_nil ⟨[],H,I,.nil,h⟩
theorem fS (ha:PE X e te)(hr:PA X es t)(hs:starEach (e::es) X.env=(false,eval e X.env)::starEach es X.env:=by rfl):PA X (e::es) (LZ te t):=by
  intro pos pins s σ H Q I h
  rw[hs]
  show wpAny _ _ (spliced ((false,eval e X.env)::backTo pos (starEach es X.env))) _ _ s
  refine Calls.spliced_cons (thn (ha pins s σ H _ I h) fun u s1 ⟨x,H1,I1,r1,q1⟩=>?_)
  exact thn (hr pos pins s1 σ H1 _ I1 q1) fun us s2 ⟨xs,H2,I2,r2,q2⟩=>⟨x::xs,H2,I2,.cons r1 r2,q2⟩
def SM (t:TA):TE:=fun σ H Q=>t σ H fun xs H1=>xs.length≤sizeLine∧∀ p,H1 p=none→Q (.ref p) (upd H1 p (.tup xs))
def R9 (t:TA):TE:=fun σ H Q=>t σ H fun xs H1=>xs.length≤sizeLine∧∀ p,H1 p=none→Q (.ref p) (upd H1 p (.lst xs))
theorem MS {x1}(h:PA X es t):PE X (.Tuple es x1 pos) (SM t):=by
  intro pins s σ H Q I hq
  refine wpAny_Tuple_spliced (thn (h pos pins s σ H _ I hq) fun us s1 ⟨xs,H1,I1,r,z,q⟩=>⟨by rw[← r.length];exact z,?_⟩)
  have hf:H1 s1.heap.objs.size=none:=I1.hok.fresh (Nat.le_refl _)
  refine ⟨.ref s1.heap.objs.size,upd H1 s1.heap.objs.size (.tup xs),I1.laid (t':=s1.toks) (fun b u e=>Heap.get?_push_of_some _ e) (Nat.le_refl _) ?_,rfl,q _ hf⟩
  exact ⟨z,us,r,⟨_,Heap.get?_push_size _ rfl⟩⟩
theorem GF (h:PA X es t):PE X (.List es pos) (R9 t):=by
  intro pins s σ H Q I hq
  refine wpAny_List_spliced (thn (h pos pins s σ H _ I hq) fun us s1 ⟨xs,H1,I1,r,z,q⟩=>⟨by rw[← r.length];exact z,?_⟩)
  have hf:H1 s1.heap.objs.size=none:=I1.hok.fresh (Nat.le_refl _)
  refine ⟨.ref s1.heap.objs.size,upd H1 s1.heap.objs.size (.lst xs),I1.laid (t':=s1.toks) (fun b u e=>Heap.get?_push_of_some _ e) (Nat.le_refl _) ?_,rfl,q _ hf⟩
  exact ⟨z,us,0,r,Heap.get?_push_size _ rfl⟩
end
abbrev Sp:=List V→Hp→VK→XK→Prop
abbrev CXT:=List Env→Hp→Shared→XK→Value→Shared→Prop
structure yV (P:Program) (w:World) (K:PySem.W.Frag) (mg:Str→Option Value) (base:Heap) (A:Around) (outer:List Env) (s:Shared) (H:Hp):Prop where
  frames:A.frames=some outer
  mod:Mod K mg base
  bs:∀ b o,base.get? b=some o→s.heap.get? b=some o∧H b=none
  bsz:base.objs.size≤s.heap.objs.size
  oi:s.heap.FunFrames base outer
  frf:∀ b∈frs outer,H b=none
  hok:HOk P w H s.heap
  bare:AllBare s.gens
def CE (outer:List Env)(P:Program)(w:World)(H:Hp)(s:Shared)(Q:VK)(u:Value)(s':Shared):Prop:=
  ∃ v H',s'.os=s.os∧AllBare s'.gens∧Un (frs outer) [] H H' s.heap s'.heap∧HOk P w H' s'.heap∧RelV v u∧Q v H'
def CR (CX:CXT)(outer:List Env)(P:Program)(w:World)(H:Hp)(s:Shared)(Q:VK)(E:XK)(r:Result)(s':Shared):Prop:=
  match r with
  | .ok (.ret u)=>CE outer P w H s Q u s'
  | .ok _=>False
  | .error e=>CX outer H s E e s'
structure je (P:Program) (w:World) (K:PySem.W.Frag) (mg:Str→Option Value) (base:Heap) (CX:CXT) (k:Nat) (f:Addr) (fd:FuncData) (ps:List Str) (sp:Sp):Prop where
  len:∀ vs H Q E,sp vs H Q E→vs.length=ps.length
  run:∀ (A:Around) (outer:List Env) (s:Shared) (H:Hp) (args:Args) (us:List Value) (vs:List V) (Q:VK) (E:XK),fH k A→yV P w K mg base A outer s H→BindsTo s fd args (ps.zip us)→Vals vs us→sp vs H Q E→
    codeAny (model P w) A (.call (.ref f) args) (CR CX outer P w H s Q E) s
theorem je.mono {P:Program}{w:World}{K:PySem.W.Frag}{mg:Str→Option Value}{base:Heap}{CX:CXT}{j k:Nat}{f:Addr}{fd:FuncData}{ps:List Str}{sp:Sp}(F:je P w K mg base CX j f fd ps sp)(h:j≤k) :
    je P w K mg base CX k f fd ps sp:=⟨F.len,fun A outer s H args us vs Q E hr=>F.run A outer s H args us vs Q E (hr.mono h)⟩
theorem je.imp {P:Program}{w:World}{K:PySem.W.Frag}{mg:Str→Option Value}{base:Heap}{CX:CXT}{k:Nat}{f:Addr}{fd:FuncData}{ps:List Str}{sp sp':Sp}(F:je P w K mg base CX k f fd ps sp)
    (h:∀ vs H Q E,sp' vs H Q E→sp vs H Q E):je P w K mg base CX k f fd ps sp':=
  ⟨fun vs H Q E q=>F.len vs H Q E (h _ _ _ _ q),fun A outer s H args us vs Q E hr he hb hv hs=>F.run A outer s H args us vs Q E hr he hb hv (h _ _ _ _ hs)⟩
theorem yV.in1 {P:Program}{w:World}{K:PySem.W.Frag}{mg:Str→Option Value}{base:Heap}{A:Around}{outer:List Env}{s:Shared}{H:Hp}(e:yV P w K mg base A outer s H) :
    yV P w K mg base A.in1 outer s H:=⟨e.frames,e.mod,e.bs,e.bsz,e.oi,e.frf,e.hok,e.bare⟩
section
variable {X:Cx} {pins:List (Addr×Obj)} {σ:St} {H:Hp} {s s':Shared}
theorem Inv.R8 (I:Inv X pins σ H s):yV X.prog X.w X.K X.mg X.base X.A X.stack s H:=
  ⟨I.ok.frames,I.ok.mod,I.bs,Nat.le_trans I.ok.bsz I.sz,I.stack,I.Ca,I.hok,I.bare⟩
theorem Inv.after {Q:VK}{u:Value}(I:Inv X pins σ H s)(h:CE X.stack X.prog X.w H s Q u s'):EP X pins σ Q u s':=by
  obtain ⟨v,H',os,bare,un,hok,r,q⟩:=h
  obtain ⟨hh,g,d,t,os'⟩:=s'
  obtain rfl:os'=s.os:=os
  exact ⟨v,H',I.call (h':=hh) (g':=g) (d':=d) (t':=t) (ch:=[]) un hok bare (fun b z=>absurd z (by simp)),r,q⟩
end
def PF (sp:Sp)(dvs:List V)(E:XK)(t:TA):TE:=fun σ H Q=>t σ H fun vs H1=>sp (vs++dvs) H1 Q E
def Binds (K:PySem.W.Frag)(fd:FuncData)(ps:List Str)(ds:List Value):Prop:=
  ∀ (s:Shared) (us:List Value),K.In s.heap→(us++ds).length=ps.length→BindsTo s fd ⟨us,[]⟩ (ps.zip (us++ds))
theorem Binds.all {K:PySem.W.Frag}{fd:FuncData}{ps:List Str}(h:∀ us:List Value,us.length=ps.length→bindArgs fd ⟨us,[]⟩=pure (ps.zip us)):Binds K fd ps []:=fun s us _ hl=>by
  rw[List.append_nil] at hl ⊢
  exact .of_eq (h us hl)
def Passes (CX:CXT)(X:Cx)(E:XK):Prop:=∀ (pins:List (Addr×Obj)) (σ:St) (H:Hp) (s:Shared) (e:Value) (s':Shared),Inv X pins σ H s→CX X.stack H s E e s'→X.xe e s'
section
variable {X:Cx} {CX:CXT} {k:Nat} {f C:Addr} {fd:FuncData} {ps:List Str} {sp:Sp} {dvs:List V} {ds:List Value} {E:XK} {x m:Str} {p pos apos:Pos} {e o:Expr} {es:List Expr} {ta:TE} {t:TA}
theorem ML {pins:List (Addr×Obj)}{σ:St}{H:Hp}{s:Shared}{Q:VK}{us:List Value}{vs:List V}(F:je X.prog X.w X.K X.mg X.base CX k f fd ps sp)(hr:fH k X.A)(hb:Binds X.K fd ps ds)(hd:Vals dvs ds)(hx:Passes CX X E)
    (I:Inv X pins σ H s) (r:Vals vs us) (h:sp (vs++dvs) H Q E):wpAny (model X.prog X.w) X.A (call (.ref f) us) (EP X pins σ Q) X.xe s:=by
  have r2:Vals (vs++dvs) (us++ds):=r.append hd
  have hl:(us++ds).length=ps.length:=by rw[← r2.length];exact F.len _ _ _ _ h
  refine wpAny_call (codeAny_mono (F.run X.A X.stack s H ⟨us,[]⟩ (us++ds) (vs++dvs) Q E hr I.R8 (hb s us I.kIn hl) r2 h) fun r s' hq=>?_)
  cases r with
  | error e=>exact hx pins σ H s e s' I hq
  | ok fl=>
    cases fl with
    | ret u=>exact I.after hq
    | next=>exact False.elim hq
    | brk=>exact False.elim hq
    | cont=>exact False.elim hq
theorem Jw (F:je X.prog X.w X.K X.mg X.base CX k f fd ps sp)(hr:fH k X.A)(hg:Gl X x)(hm:X.mg x=some (.ref f))(hk:PySem.W.keepIn X.K (.ref f)=true)(hb:Binds X.K fd ps ds)(hd:Vals dvs ds)(hx:Passes CX X E)
    (ha:PA X (e::es) t) (hdb:(x == ("__debug__" : Str))=false:=by decide) (he:starEach (e::es) X.env=(false,eval e X.env)::starEach es X.env:=by rfl) (hpl:(backTo pos (starEach es X.env)).any (·.1)=false:=by rfl) :
    PE X (.Call (.Name x p) (e::es) [] pos) (PF sp dvs E t):=by
  intro pins s σ H Q I h
  refine wpAny_Call_Name_kw (BZ I hg hm ?_ hdb)
  refine PySem.W.callWith_K (h₀:=X.base) I.ok.mod.kin hk (thn (ha pos pins s σ H _ I h) fun us s1 ⟨vs,H1,I1,r,q⟩=>⟨I1.kIn,?_⟩) he hpl
  exact ML F hr hb hd hx I1 r q
end
def PK (X:Cx)(kws:List Keyword)(t:TA):Prop:=
  ∀ (pos:Pos) (pins:List (Addr×Obj)) (s:Shared) (σ:St) (H:Hp) (Q:List V→Hp→Prop),Inv X pins σ H s→t σ H Q→wpAny (model X.prog X.w) X.A (evalAll ((backToKw pos (keywordEach kws X.env)).map (·.2))) (AP X pins σ Q) X.xe s
section
variable {X:Cx} {CX:CXT} {k:Nat} {f C:Addr} {fd:FuncData} {ps ks:List Str} {sp:Sp} {E:XK} {x m:Str} {p pos apos kpos:Pos} {e o:Expr} {es:List Expr} {kws:List Keyword} {te ta:TE} {t tk:TA} {nm:Option Str}
theorem MC:PK X [] RB:=fun _ _ _ _ H Q I h=>wpAny_evalAll_nil ⟨[],H,I,.nil,h⟩
theorem JE (ha:PE X e te)(hr:PK X kws t):PK X (⟨nm,e,kpos⟩::kws) (LZ te t):=by
  intro pos pins s σ H Q I h
  show wpAny _ _ (evalAll ((do let v ← eval e X.env;standAt pos;pure v)::(backToKw pos (keywordEach kws X.env)).map (·.2))) _ _ s
  refine wpAny_evalAll_cons (wpAny_bind (thn (ha pins s σ H _ I h) fun u s1 ⟨x,H1,I1,r1,q1⟩=>wpAny_bind (wpAny_standAt (wpAny_pure ?_))))
  exact thn (hr pos pins s1 σ H1 _ I1 q1) fun us s2 ⟨xs,H2,I2,r2,q2⟩=>⟨x::xs,H2,I2,.cons r1 r2,q2⟩
variable {g:List Value→List Value→List Value} {gV:List V→List V→List V}
end
structure aI (N P:List Str) (sc:Scope):Prop where
  kind:sc.kind=.function
  co:sc.isCoroutine=false
  gen:sc.isGenerator=false
  nd:N.Nodup
  pre:N.take P.length=P
  par:∀ x∈P,sc.names.lookup x=some .local∨sc.names.lookup x=some .cell
  Pa:∀ y∈sc.names,y.2≠.free
theorem sZ {kindOf:Str→Option NameKind}{x:Str}:∀ {binds:List (Str×Value)} {m:Str→Option Value},(∀ v,(x,v) ∉ binds)→bindL kindOf binds m x=m x
  | [],_,_=>rfl
  | (n,v)::r,m,h=>by
    unfold bindL
    rw[sZ fun w hw=>h w (List.mem_cons_of_mem _ hw)]
    split
    · have:x≠n:=by rintro rfl;exact h v List.mem_cons_self
      simp[this]
    · rfl
theorem sy {kindOf:Str→Option NameKind}{x:Str}:∀ {binds:List (Str×Value)} {m:Str→Option Value},(∀ v,(x,v) ∉ binds)→bindC kindOf binds m x=m x
  | [],_,_=>rfl
  | (n,v)::r,m,h=>by
    unfold bindC
    rw[sy fun w hw=>h w (List.mem_cons_of_mem _ hw)]
    split
    · rfl
    · have:x≠n:=by rintro rfl;exact h v List.mem_cons_self
      simp[this]
theorem sD {kindOf:Str→Option NameKind}{x:Str}{v:Value}:∀ {P:List Str} {vs:List Value} {i:Nat} {m:Str→Option Value},P.Nodup→P[i]? = some x→vs[i]? = some v→kindOf x=some .local→
    bindL kindOf (P.zip vs) m x=some v
  | [],_,_,_,_,h,_,_=>by simp at h
  | _::_,[],_,_,_,_,h,_=>by simp at h
  | p::P,w::vs,0,m,nd,h1,h2,hk=>by
    simp at h1 h2;subst h1;subst h2
    show bindL kindOf ((p,w)::P.zip vs) m p=_
    unfold bindL
    rw[sZ fun v hv=>(List.nodup_cons.mp nd).1 (List.of_mem_zip hv).1,if_pos hk]
    simp
  | p::P,w::vs,i+1,m,nd,h1,h2,hk=>by
    show bindL kindOf ((p,w)::P.zip vs) m x=_
    unfold bindL
    exact sD (i:=i) (List.nodup_cons.mp nd).2 (by simpa using h1) (by simpa using h2) hk
theorem sU {kindOf:Str→Option NameKind}{x:Str}{v:Value}:∀ {P:List Str} {vs:List Value} {i:Nat} {m:Str→Option Value},P.Nodup→P[i]? = some x→vs[i]? = some v→kindOf x≠some .local→
    bindC kindOf (P.zip vs) m x=some v
  | [],_,_,_,_,h,_,_=>by simp at h
  | _::_,[],_,_,_,_,h,_=>by simp at h
  | p::P,w::vs,0,m,nd,h1,h2,hk=>by
    simp at h1 h2;subst h1;subst h2
    show bindC kindOf ((p,w)::P.zip vs) m p=_
    unfold bindC
    rw[sy fun v hv=>(List.nodup_cons.mp nd).1 (List.of_mem_zip hv).1,if_neg hk]
    simp
  | p::P,w::vs,i+1,m,nd,h1,h2,hk=>by
    show bindC kindOf ((p,w)::P.zip vs) m x=_
    unfold bindC
    exact sU (i:=i) (List.nodup_cons.mp nd).2 (by simpa using h1) (by simpa using h2) hk
def start (N:List Str)(vs:List V):St:=vs.map some++List.replicate (N.length - vs.length) none
def xo (CX:CXT)(P:Program)(w:World)(K:PySem.W.Frag)(mg:Str→Option Value)(base:Heap)(N:List Str)(qual:Str)(scope:Scope)(f:Addr)(cd:Value)(A:Around)(outer:List Env)(s:Shared)(H:Hp)(E:XK):Cx where
  prog:=P
  w:=w
  K:=K
  mg:=mg
  base:=base
  A:=A.deeper (envOfC qual scope s.heap.objs.size f cd)
  N:=N
  s₀:=s
  H₀:=H
  env:=envOfC qual scope s.heap.objs.size f cd
  outer:=outer
  stack:=envOfC qual scope s.heap.objs.size f cd::outer
  ex:=[]
  calm:=true
  fn:=fun _=>true
  pn:=[]
  xe:=fun e s'=>wpAny (model P w) (A.deeper (envOfC qual scope s.heap.objs.size f cd)) (leaving (envOfC qual scope s.heap.objs.size f cd) e) (fun _ s''=>CX outer H s E e s'') (fun e' s''=>CX outer H s E e' s'') s'
theorem xg {sc:Scope}{n:Nat}{x:Str}(h:sc.names.lookup x=some .cell):∃ c,(cellsFrom n sc.names []).lookup x=some c:=by
  have q:=PySem.W.cellsFrom_some sc.names n [] (.inl h)
  exact Option.isSome_iff_exists.mp q
theorem DF {CX:CXT}{P:Program}{w:World}{K:PySem.W.Frag}{mg:Str→Option Value}{base:Heap}{N ps:List Str}{qual:Str}{scope:Scope}{f:Addr}{cd:Value}{A:Around}{outer:List Env}{s s1:Shared}{H:Hp}{E:XK}{us:List Value}{vs:List V}
    (S:aI N ps scope) (hd:A.handled=none) (e0:yV P w K mg base A outer s H) (hl:vs.length=ps.length) (r:Vals vs us)
    (x:InCallC s s.heap.objs.size (bindL (envOfC qual scope s.heap.objs.size f cd).kindOf (ps.zip us) fun _=>none) (cellsFrom (s.heap.objs.size+1) scope.names []) (bindC (envOfC qual scope s.heap.objs.size f cd).kindOf (ps.zip us) fun _=>none) s1) :
    Inv (xo CX P w K mg base N qual scope f cd A outer s H E) [] (start N vs) H s1:=by
  have hpl:ps.length≤N.length:=by have:=congrArg List.length S.pre;rw[List.length_take] at this;omega
  obtain ⟨h1,tk,rfl,hk⟩:=x.done
  have noA:∀ b:Addr,b ∉ (xo CX P w K mg base N qual scope f cd A outer s H E).ex:=fun b z=>absurd (show b∈([]:List Addr) from z) (by simp)
  refine ⟨⟨e0.mod,S.kind,rfl,rfl,Nat.le_refl _,fun y z c h1 h2=>?_,fun y hy=>?_,fun y c _ h=>?_,fun _=>hd,Around.frames_deeper e0.frames,.inr ⟨rfl,rfl⟩,fun b z=>absurd z (noA b),e0.bs,e0.bsz,fun b _ _=>noA b,fun b z=>absurd z (noA b),e0.oi,e0.frf⟩,
    rfl,e0.bare,Un.kept hk,⟨_,x.toInCall.ns,fun i y v h1 h2 h3=>?_⟩,fun y c h=>⟨_,x.cell y c h⟩,e0.hok.fresh (Nat.le_refl _),fun y c h=>?_,fun p hp=>absurd (show p∈([]:List (Addr×Obj)) from hp) (by simp),e0.hok.kept hk,?_⟩
  · exact name_of_addr x.apart (PySem.mem_of_lookup h1) (PySem.mem_of_lookup h2)
  · have hy:scope.names.lookup y=some .cell∨scope.names.lookup y=some .free:=hy
    rcases hy with hy | hy
    · exact xg hy
    · exact absurd rfl (S.Pa _ (PySem.mem_of_lookup hy))
  · exact Nat.le_of_lt (x.above y c (PySem.mem_of_lookup h))
  · have hi:i < vs.length:=by
      unfold start at h2
      by_cases hi:i < vs.length
      · exact hi
      · rw[List.getElem?_append_right (by simpa using hi)] at h2
        rw[List.getElem?_replicate] at h2
        split at h2<;>cases h2
    have ha:vs[i]? = some v:=by
      unfold start at h2
      rw[List.getElem?_append_left (by simpa using hi),List.getElem?_map] at h2
      cases e:vs[i]? with
      | none=>rw[e] at h2;cases h2
      | some a=>rw[e] at h2;cases h2;rfl
    obtain ⟨u,hu,rv⟩:=r.get ha
    have hp:ps[i]? = some y:=by
      rw[← S.pre,List.getElem?_take_of_lt (by omega)];exact h1
    have ndP:ps.Nodup:=by rw[← S.pre];exact S.nd.sublist (List.take_sublist _ _)
    refine ⟨u,rv,?_⟩
    rcases S.par y (List.mem_of_getElem? hp) with k | k
    · exact .inl ⟨k,sD ndP hp hu k⟩
    · obtain ⟨c,e⟩:=xg (n:=s.heap.objs.size+1) k
      refine .inr ⟨.inl k,c,e,?_⟩
      have q:=x.cell y c e
      rw[sU ndP hp hu (by show scope.names.lookup y≠_;rw[k];decide)] at q
      exact q
  · exact e0.hok.fresh (Nat.le_of_lt (x.above y c (PySem.mem_of_lookup h)))
  · unfold start
    show _=N.length
    rw[List.length_append,List.length_map,List.length_replicate]
    omega
theorem Rk {CX:CXT}{P:Program}{w:World}{K:PySem.W.Frag}{mg:Str→Option Value}{base:Heap}{k:Nat}{f:Addr}{name qual:Str}{params:Arguments}{body:List Stmt}{scope:Scope}{dV kV doc pm cdv ct oc:Value}{an od:Option Addr}
    {osl:Array (Option Value)} {N ps:List Str} {sp:Sp} (lk:K.lookup f=some ⟨oc,od,.func (PySem.W.fnOf name qual params body scope dV kV doc pm an cdv ct),osl⟩) (hcd:PySem.W.codeIn K cdv qual=true) (S:aI N ps scope)
    (len:∀ vs H Q E,sp vs H Q E→vs.length=ps.length)
    (hbody:∀ (A:Around) (outer:List Env) (s:Shared) (H:Hp) (vs:List V) (Q:VK) (E:XK),fH k (A.deeper (envOfC qual scope s.heap.objs.size f cdv))→sp vs H Q E→
      ∃ t,PSs (xo CX P w K mg base N qual scope f cdv A outer s H E) body t∧t { nx:=fun _ H'=>Q .non H',rt:=Q } (start N vs) H) :
    je P w K mg base CX (k+1) f (PySem.W.fnOf name qual params body scope dV kV doc pm an cdv ct) ps sp:=by
  refine ⟨len,fun A outer s H args us vs Q E hr e0 hb r hsp=>?_⟩
  have hl:=len _ _ _ _ hsp
  have KX:K.In s.heap:=e0.mod.kin.keeps fun b o e=>(e0.bs b o e).1
  have lim:s.heap.NoLimit:=e0.mod.nolimit.keeps fun b o e=>(e0.bs b o e).1
  have gn:∀ y∈ps.zip us,scope.names.lookup y.1=some .local∨(scope.names.lookup y.1=some .cell∧((cellsFrom (s.heap.objs.size+1) scope.names []).lookup y.1).isSome=true):=fun ⟨n,v⟩ hy=>by
    rcases S.par n (List.of_mem_zip hy).1 with q | q
    · exact .inl q
    · exact .inr ⟨q,PySem.W.cellsFrom_some _ _ _ (.inl q)⟩
  refine codeAny_call_function hr.depth (KX _ _ lk) rfl S.co S.gen rfl (PySem.W.codeRec_of KX hcd) (hb _ _ _ _ ?_)
  refine wpAny_newFunctionEnv_cells S.kind gn fun env he s1 x=>?_
  subst he
  refine ⟨lim.keeps x.toInCall.keep,codeAny_func ?_⟩
  obtain ⟨t,ht,hq⟩:=hbody A outer s H vs Q E (hr.deeper _) hsp
  have I:Inv (xo CX P w K mg base N qual scope f cdv A outer s H E) [] (start N vs) H s1:=DF S hr.hd e0 hl r x
  refine wpAny_mono (ht [] s1 (start N vs) H _ I hq) (fun fl s' hs=>?_) fun e s' hs=>hs
  have fin:∀ {σ':St} {H':Hp} {v:V} {u:Value},Inv (xo CX P w K mg base N qual scope f cdv A outer s H E) [] σ' H' s'→RelV v u→Q v H'→CE outer P w H s Q u s':=
    fun {σ' H' v u} J rv q=>⟨v,H',J.os,J.bare,J.base,J.hok,rv,q⟩
  cases fl with
  | ret u=>
    obtain ⟨v,σ',H',J,rv,q⟩:=hs
    exact fin J rv q
  | next=>
    obtain ⟨σ',H',J,q⟩:=hs
    exact fin (v:=V.non) (u:=Value.none) J rfl q
  | brk=>
    obtain ⟨_,_,_,q⟩:=hs
    exact False.elim q
  | cont=>
    obtain ⟨_,_,_,q⟩:=hs
    exact False.elim q
end L2
namespace L2
open PySem PySem.Spec PyProof.Rows
section
variable {X:Cx} {x:Str} {p pos:Pos} {e:Expr} {es:List Expr} {t:TA} {id T:String} {r:List V→Hp→VK→Prop}
def tCB (r:List V→Hp→VK→Prop)(t:TA):TE:=fun σ H Q=>t σ H fun vs H1=>r vs H1 Q
theorem pO (hc:cH X (.builtin id) r)(hg:Gl X x)(hm:X.mg x=none)(hv:bootBuiltins x=some (.builtin id))(ha:PA X (e::es) t)(hn:x ≠ "__name__" := by decide)(hdb:(x == ("__debug__" : Str))=false:=by decide)
    (he:starEach (e::es) X.env=(false,eval e X.env)::starEach es X.env:=by rfl) (hpl:(backTo pos (starEach es X.env)).any (·.1)=false:=by rfl):PE X (.Call (.Name x p) (e::es) [] pos) (tCB r t):=by
  intro pins s σ H Q I h
  refine wpAny_Call_Name_kw (jT I hg hm hv ?_ hn hdb)
  exact PyProof.Rows.callWith_builtin1 (thn (ha pos pins s σ H _ I h) fun us s1 ⟨vs,H1,I1,r1,q1⟩=>hc pins s1 σ H1 vs us Q I1 r1 q1) he hpl
theorem sM (hc:cH X (.type T) r)(hg:Gl X x)(hm:X.mg x=none)(hv:bootBuiltins x=some (.type T))(ha:PA X (e::es) t)(hn:x ≠ "__name__" := by decide)(hdb:(x == ("__debug__" : Str))=false:=by decide)
    (he:starEach (e::es) X.env=(false,eval e X.env)::starEach es X.env:=by rfl) (hpl:(backTo pos (starEach es X.env)).any (·.1)=false:=by rfl):PE X (.Call (.Name x p) (e::es) [] pos) (tCB r t):=by
  intro pins s σ H Q I h
  refine wpAny_Call_Name_kw (jT I hg hm hv ?_ hn hdb)
  exact PyProof.Rows.callWith_type1 (thn (ha pos pins s σ H _ I h) fun us s1 ⟨vs,H1,I1,r1,q1⟩=>hc pins s1 σ H1 vs us Q I1 r1 q1) he hpl
end
end L2
namespace HT
open PySem PyProof.Rows
section
open PySem.SeqAt
open PySem.AutoSeq1 (wpAny_loadPart')
open PySem.MeetsSeq PySem.MeetsSeq2 PySem.MeetsSeq3
end
section
variable {prog:Program} {w:World} {A:Around} {E:Value→Shared→Prop} {s:Shared}
theorem IE {t b:Addr}{vs ws:List Value}{Q:Value→Shared→Prop}(ht:IsTup s.heap t vs.toArray)(hb:IsTup s.heap b ws.toArray)(hv:vs≠[])
    (h1:ws=[]→Q (.ref t) s) (h2:ws≠[]→Q (.ref s.heap.objs.size) { s with heap:=s.heap.push { cls:=.type "tuple", data:=.seq (vs++ws).toArray } })
    (hsz:vs.length+ws.length≤sizeLine):wpAny (model prog w) A (binaryOp .Add (.ref t) (.ref b)) Q E s:=by
  obtain ⟨⟨cls,dd,data,sl⟩,ho,hc,n,hd⟩:=id ht
  obtain ⟨⟨cls2,dd2,data2,sl2⟩,ho2,hc2,n2,hd2⟩:=id hb
  simp only at hc hd hc2 hd2
  subst hc hd hc2 hd2
  have e:vs.toArray++ws.toArray=(vs++ws).toArray:=by simp
  by_cases hw:ws=[]
  · exact concat_meets ⟨_,ho,rfl⟩ ⟨_,ho2,rfl⟩ noFill_tuple_add seq_tuple_add PySem.F.slot_tuple_add PySem.F.entry_tuple_add (PySem.F.args_tuple_add_2 _ _)
      (tuple_addW1 t b vs.toArray ws.toArray n n2 dd dd2 sl sl2 (by simpa using hv) (by simp[hw])) ⟨ho,ho2,h1 hw⟩
  · refine concat_meets ⟨_,ho,rfl⟩ ⟨_,ho2,rfl⟩ noFill_tuple_add seq_tuple_add PySem.F.slot_tuple_add PySem.F.entry_tuple_add (PySem.F.args_tuple_add_2 _ _)
      (tuple_addW2 t b vs.toArray ws.toArray n n2 dd dd2 sl sl2 (by simpa using hv) (by simpa using hw) (by rw[List.size_toArray,List.size_toArray];exact hsz)) ⟨ho,ho2,?_⟩
    rw[e]
    exact h2 hw
def sIx (n d:Nat):Option Int→Nat
  | none=>d
  | some v=>if v < 0 then (v+(n:Int)).toNat else min v.toNat n
theorem xD (n d:Nat):sIx n d none=d:=rfl
theorem BY (n d k:Nat):sIx n d (some (k:Int))=min k n:=by
  show (if (k:Int) < 0 then ((k:Int)+(n:Int)).toNat else min (k:Int).toNat n)=min k n
  rw[if_neg (by omega),Int.toNat_natCast]
theorem O9 (n d:Nat)(hd:d≤n)(o:Option Int):sIx n d o≤n:=by
  cases o with
  | none=>exact hd
  | some v=>
    show (if v < 0 then (v+(n:Int)).toNat else min v.toNat n)≤n
    by_cases hv:v < 0
    · rw[if_pos hv];omega
    · rw[if_neg hv];exact Nat.min_le_right _ _
theorem A3 (v:Int)(n d:Nat):(if v < 0 then max (v+(n:Int)) 0 else min v (n:Int))=((sIx n d (some v):Nat):Int):=by
  show (if v < 0 then max (v+(n:Int)) 0 else min v (n:Int))=(((if v < 0 then (v+(n:Int)).toNat else min v.toNat n):Nat):Int)
  by_cases hv:v < 0
  · simp only[if_pos hv];omega
  · simp only[if_neg hv];omega
theorem AG (lo hi:Option Int)(n:Nat):Builtin.Slice.sliceAdjust lo hi 1 (n:Int)=(((sIx n 0 lo:Nat):Int),((sIx n n hi:Nat):Int)):=by
  have h1:¬ ((1:Int) < 0):=by omega
  unfold Builtin.Slice.sliceAdjust
  simp only[h1,if_false]
  refine Prod.ext ?_ ?_
  · cases lo with
    | none=>rfl
    | some v=>exact A3 v n 0
  · cases hi with
    | none=>rfl
    | some v=>exact A3 v n n
theorem An (i j:Nat):Builtin.Slice.slicePlaces (i:Int) (j:Int) 1=j - i:=by
  unfold Builtin.Slice.slicePlaces
  have h1:(1:Int) > 0:=by omega
  simp only[h1,if_true,Int.ediv_one]
  split<;>omega
theorem o7 {v:Value}{o:Option Int}{Q:Option Int→Shared→Prop}(p:IsPart v o)(h:Q o s):wpAny (model prog w) A (Builtin.Slice.slicePartIndex v) Q E s:=by
  cases p with
  | none=>exact slicePart_none h
  | int i t=>exact slicePart_int h
theorem iu {sl:Addr}{vl vu:Value}{lo hi:Option Int}{n:Nat}{Q:Int×Int×Nat→Shared→Prop}(hs:s.heap.IsSliceOf sl vl vu .none)(pl:IsPart vl lo)(pu:IsPart vu hi)
    (h:Q (((sIx n 0 lo:Nat):Int),1,sIx n n hi - sIx n 0 lo) s):wpAny (model prog w) A (Builtin.Slice.sliceApplied (.ref sl) (pure (n:Int))) Q E s:=by
  obtain ⟨os,hos,hcs,hds⟩:=id hs
  unfold Builtin.Slice.sliceApplied Builtin.Slice.sliceFields
  refine wpAny_bind (wpAny_bind (wpAny_field hos hds (x:=vl) rfl (wpAny_bind (wpAny_field hos hds (x:=vu) rfl (wpAny_bind (wpAny_field hos hds (x:=.none) rfl (wpAny_pure ?_)))))))
  refine wpAny_bind (slicePart_none ?_)
  show wpAny _ _ (if ((1:Int) == 0)=true then _ else _) _ _ s
  rw[if_neg (by decide)]
  refine wpAny_bind (o7 pl (wpAny_bind (o7 pu (wpAny_bind (wpAny_pure ?_)))))
  show wpAny _ _ (match Builtin.Slice.sliceAdjust lo hi 1 (n:Int) with | (lo,hi)=>pure (lo,(1:Int),Builtin.Slice.slicePlaces lo hi 1)) _ _ s
  rw[AG lo hi n]
  show wpAny _ _ (pure (((sIx n 0 lo:Nat):Int),(1:Int),Builtin.Slice.slicePlaces ((sIx n 0 lo:Nat):Int) ((sIx n n hi:Nat):Int) 1)) _ _ s
  rw[An]
  exact wpAny_pure h
theorem DY (xs:Array Value)(i k:Nat):((List.range k).filterMap fun (m:Nat)=>xs[((i:Int)+(m:Int)*1).toNat]?).toArray=((xs.toList.drop i).take k).toArray:=by
  have e:(fun (m:Nat)=>xs[((i:Int)+(m:Int)*1).toNat]?)=fun m=>xs[i+m]?:=by
    funext m
    have:((i:Int)+(m:Int)*1).toNat=i+m:=by omega
    rw[this]
  rw[e]
  have:=pick_run xs i k
  rw[List.filterMap_map] at this
  have e2:((fun x=>xs[x]?) ∘ fun x=>i+x)=fun m=>xs[i+m]?:=rfl
  rw[e2] at this
  rw[this]
theorem lD {t sl:Addr}{items:Array Value}{vl vu:Value}{lo hi:Option Int}{Q:Value→Shared→Prop}(ht:IsTup s.heap t items)(hs:s.heap.IsSliceOf sl vl vu .none)(pl:IsPart vl lo)(pu:IsPart vu hi)
    (hw:¬ (sIx items.size 0 lo=0∧sIx items.size items.size hi=items.size))
    (h:Q (.ref s.heap.objs.size) { s with heap:=s.heap.push { cls:=.type "tuple", data:=.seq ((items.toList.drop (sIx items.size 0 lo)).take (sIx items.size items.size hi - sIx items.size 0 lo)).toArray } })
    (hsz:items.size≤sizeLine):wpAny (model prog w) A (getItem (.ref t) (.ref sl)) Q E s:=by
  have BU:sizeOk (.seq ((items.toList.drop (sIx items.size 0 lo)).take (sIx items.size items.size hi - sIx items.size 0 lo)).toArray):=by
    show ((items.toList.drop (sIx items.size 0 lo)).take (sIx items.size items.size hi - sIx items.size 0 lo)).toArray.size≤sizeLine
    rw[List.size_toArray,List.length_take,List.length_drop,Array.length_toList]
    omega
  have hj:sIx items.size items.size hi≤items.size:=O9 _ _ (Nat.le_refl _) hi
  obtain ⟨os,hos,hcs,hds⟩:=id hs
  have hTs:s.TypeIs (.ref sl) "slice" := ⟨os,hos,hcs⟩
  unfold getItem
  try with_reducible refine wpAny_holding ?_
  first | refine wpAny_bind (wpAny_pure ?_) | skip
  refine wpAny_bind (wpAny_sequenceKey ht.typeIs (by decide) ?_)
  refine wpAny_bind (wpAny_callSpecial?_slot (name:=Str.ofString "__getitem__") ht.typeIs PyProof.Rows.slot_tuple_getitem
    (wpAny_call_entry PyProof.Rows.slot_tuple_getitem ht.typeIs entry_tuple_getitem ?_ (args_tuple_getitem _ _)))
  show wpAny _ _ (Builtin.Tuple.tupleItemsOf (.ref t) >>= _) _ _ s
  refine wpAny_bind (tupleItemsOf_ ht ?_)
  refine wpAny_bind (wpAny_typeOf hTs ?_)
  rw[if_pos (by decide)]
  refine wpAny_bind (iu hs pl pu ?_)
  have hno:¬ ((((sIx items.size 0 lo:Nat):Int) == 0&&(1:Int) == 1&&(sIx items.size items.size hi - sIx items.size 0 lo) == items.size)=true):=by
    intro q
    rw[Bool.and_eq_true,Bool.and_eq_true] at q
    have q1:((sIx items.size 0 lo:Nat):Int)=0:=eq_of_beq q.1.1
    have q2:sIx items.size items.size hi - sIx items.size 0 lo=items.size:=eq_of_beq q.2
    exact hw ⟨by omega,by omega⟩
  show wpAny _ _ (if (((sIx items.size 0 lo:Nat):Int) == 0&&(1:Int) == 1&&(sIx items.size items.size hi - sIx items.size 0 lo) == items.size)=true then _ else _) _ _ s
  rw[if_neg hno,DY]
  first
    | exact wpAny_bind (m:=Builtin.Tuple.tupleExact _) (wpAny_newObj_type (wpAny_pure ⟨_,rfl,wpAny_pure h⟩) BU)
    | exact wpAny_bind (m:=Builtin.Tuple.tupleExact _) (wpAny_newObj_type (wpAny_bind (wpAny_pure (wpAny_pure ⟨_,rfl,wpAny_pure h⟩))) BU)
    | exact wpAny_bind (wpAny_bind (m:=Builtin.Tuple.tupleExact _) (wpAny_newObj_type (wpAny_pure (wpAny_pure ⟨_,rfl,wpAny_pure h⟩)) BU))
    | exact wpAny_bind (wpAny_bind (m:=Builtin.Tuple.tupleExact _) (wpAny_newObj_type (wpAny_pure ⟨_,rfl,wpAny_pure h⟩) BU))
end
end HT
namespace L2
open PySem PySem.Spec PyProof.Rows
abbrev TO:=St→Hp→(Option Int→Hp→Prop)→Prop
def PO (X:Cx)(e:Option Expr)(t:TO):Prop:=
  ∀ (pins:List (Addr×Obj)) (s:Shared) (σ:St) (H:Hp) (Q:Option Int→Hp→Prop),Inv X pins σ H s→t σ H Q→
    wpAny (model X.prog X.w) X.A (evalPart e X.env) (fun u s'=>∃ o H',Inv X pins σ H' s'∧IsPart u o∧Q o H') X.xe s
def Ks:TO:=fun _ H Q=>Q none H
def PZ (t:TE):TO:=fun σ H Q=>t σ H fun x H1=>∃ i,x=.int i∧Q (some i) H1
theorem intsAre_of {ns:List Int}:∀ {us:List Value},Vals (ns.map V.int) us→IntsAre us ns:=by
  induction ns with
  | nil=>intro us r;rw[List.map_nil] at r;cases r;exact .nil
  | cons n ns ih=>
    intro us r
    rw[List.map_cons] at r
    cases r with
    | cons r1 r2=>
      obtain ⟨t,e⟩:=r1
      subst e
      exact .cons n t (ih r2)
section
variable {X:Cx} {e:Expr} {te:TE} {lo hi:Option Expr} {tl th:TO} {pos p2:Pos}
theorem Ka:PO X none Ks:=by
  intro pins s σ H Q I h
  rw[evalPart_none]
  exact wpAny_pure ⟨none,H,I,.none,h⟩
theorem Js (h:PE X e te):PO X (some e) (PZ te):=by
  intro pins s σ H Q I hw
  rw[evalPart_some]
  refine thn (h pins s σ H _ I hw) fun u s1 ⟨x,H1,I1,r1,q1⟩=>?_
  obtain ⟨i,rfl,q⟩:=q1
  obtain ⟨t,rfl⟩:=r1
  exact ⟨some i,H1,I1,.int i t,q⟩
def SlR (X:Cx)(r:V→Option Int→Option Int→Hp→VK→Prop):Prop:=
  ∀ (pins:List (Addr×Obj)) (s:Shared) (σ:St) (H:Hp) (x:V) (v vl vu:Value) (lo hi:Option Int) (sl:Addr) (Q:VK),Inv X pins σ H s→RelV x v→s.heap.IsSliceOf sl vl vu .none→IsPart vl lo→IsPart vu hi→r x lo hi H Q→
    ∃ T id,typeLookup (.type T) "__getitem__" = pure (some (.builtin id))∧s.TypeIs v T∧wpAny (model X.prog X.w) X.A (getItem v (.ref sl)) (EP X pins σ Q) X.xe s
theorem SlR.or {r r':V→Option Int→Option Int→Hp→VK→Prop}(h:SlR X r)(h':SlR X r'):SlR X (fun x lo hi H Q=>r x lo hi H Q∨r' x lo hi H Q):=by
  intro pins s σ H x v vl vu lo hi sl Q I rx hs pl pu q
  rcases q with q | q
  · exact h pins s σ H x v vl vu lo hi sl Q I rx hs pl pu q
  · exact h' pins s σ H x v vl vu lo hi sl Q I rx hs pl pu q
def tSl (r:V→Option Int→Option Int→Hp→VK→Prop)(te:TE)(tl th:TO):TE:=fun σ H Q=>te σ H fun x H1=>tl σ H1 fun l H2=>th σ H2 fun u H3=>r x l u H3 Q
theorem Gz {r:V→Option Int→Option Int→Hp→VK→Prop}(hr:SlR X r)(he:PE X e te)(hl:PO X lo tl)(hu:PO X hi th):PE X (.Subscript e (.Slice lo hi none p2) pos) (tSl r te tl th):=by
  intro pins s σ H Q I h
  refine Subscript_ (thn (he pins s σ H _ I h) fun v s1 ⟨x,H1,I1,r1,q1⟩=>?_)
  refine wpAny_Slice (thn (hl pins s1 σ H1 _ I1 q1) fun vl s2 ⟨l,H2,I2,pl,q2⟩=>thn (hu pins s2 σ H2 _ I2 q2) fun vu s3 ⟨u,H3,I3,pu,q3⟩=>?_)
  rw[evalPart_none]
  refine wpAny_pure ?_
  have I4:Inv X pins σ H3 { s3 with heap:=s3.heap.push { cls:=.type "slice", data:=.fields #[vl,vu,.none] } }:=I3.kept (t':=s3.toks) fun b ob q=>Heap.get?_push_of_some _ q
  obtain ⟨T,id,hT,ht,hg⟩:=hr pins { s3 with heap:=s3.heap.push { cls:=.type "slice", data:=.fields #[vl,vu,.none] } } σ H3 x v vl vu l u s3.heap.objs.size Q I4 r1 (Heap.IsSliceOf.new ..) pl pu q3
  show wpAny (model X.prog X.w) X.A (subscriptTail e (.Slice lo hi none p2) v (.ref s3.heap.objs.size)) (EP X pins σ Q) X.xe { s3 with heap:=s3.heap.push { cls:=.type "slice", data:=.fields #[vl,vu,.none] } }
  exact tail_any (ops:=[.ref s3.heap.objs.size,v]) ht hT hg (by with_unfolding_all rfl)
def vV (xs:List V)(lo hi:Option Int):List V:=(xs.drop (HT.sIx xs.length 0 lo)).take (HT.sIx xs.length xs.length hi - HT.sIx xs.length 0 lo)
theorem nI (xs:List V)(lo hi:Option Int):(vV xs lo hi).length≤xs.length:=by
  unfold vV
  rw[List.length_take,List.length_drop]
  omega
def SK (K:PySem.W.Frag):V→Option Int→Option Int→Hp→VK→Prop:=fun x lo hi H Q=>∃ a xs,x=.ref a∧SqT K H a xs∧
  ¬ (HT.sIx xs.length 0 lo=0∧HT.sIx xs.length xs.length hi=xs.length)∧∀ p,H p=none→Q (.ref p) (upd H p (.tup (vV xs lo hi)))
theorem MP:SlR X (SK X.K):=by
  intro pins s σ H x v vl vu lo hi sl Q I rx hs pl pu h
  obtain ⟨a,xs,rfl,hx,hw,q⟩:=h
  cases rx
  obtain ⟨its,r,ht,hz⟩:=I.tuple hx
  have hlen:its.toArray.size=xs.length:=by rw[List.size_toArray];exact r.length.symm
  refine ⟨"tuple", _,PyProof.Rows.slot_tuple_getitem.lookup,ht.typeIs,?_⟩
  refine HT.lD ht hs pl pu (by rw[hlen];exact hw) ?_ (by rw[hlen];exact hz)
  rw[hlen]
  refine ⟨.ref s.heap.objs.size,_,I.laid (t':=s.toks) (o:=.tup (vV xs lo hi)) (fun b ob q=>Heap.get?_push_of_some _ q) (Nat.le_refl _) ?_,rfl,q _ (I.hok.fresh (Nat.le_refl _))⟩
  exact ⟨Nat.le_trans (nI xs lo hi) hz,_,(r.drop (HT.sIx xs.length 0 lo)).take (HT.sIx xs.length xs.length hi - HT.sIx xs.length 0 lo),uK.new _ _⟩
def Mk (K:PySem.W.Frag):R2:=fun x y H Q=>∃ a b xs ys,x=.ref a∧y=.ref b∧SqT K H a xs∧SqT K H b ys∧xs≠[]∧xs.length+ys.length≤sizeLine∧
  (ys=[]→Q (.ref a) H)∧(ys≠[]→∀ p,H p=none→Q (.ref p) (upd H p (.tup (xs++ys))))
theorem Vals.uz {xs:List V}{us:List Value}(r:Vals xs us):us=[]↔xs=[]:=by
  cases r with
  | nil=>simp
  | cons _ _=>simp
theorem K4:OpR X (binaryOp .Add) (Mk X.K):=by
  intro pins s σ H x y v u Q I rx ry h
  obtain ⟨a,b,xs,ys,rfl,rfl,ha,hb,hx,hz,q1,q2⟩:=h
  cases rx
  cases ry
  obtain ⟨its,r1,p1,_⟩:=I.tuple ha
  obtain ⟨its2,r2,p2,_⟩:=I.tuple hb
  refine HT.IE p1 p2 (fun z=>hx (r1.uz.mp z)) (fun z=>⟨.ref a,H,I,rfl,q1 (r2.uz.mp z)⟩) (fun z=>?_) (by rw[← r1.length,← r2.length];exact hz)
  refine ⟨.ref s.heap.objs.size,_,I.laid (t':=s.toks) (o:=.tup (xs++ys)) (fun b ob q=>Heap.get?_push_of_some _ q) (Nat.le_refl _) ?_,rfl,q2 (fun w=>z (r2.uz.mpr w)) _ (I.hok.fresh (Nat.le_refl _))⟩
  exact ⟨by rw[List.length_append];exact hz,_,r1.append r2,uK.new _ _⟩
end
end L2
namespace L2
open PySem PySem.Spec PyProof.Rows
def ixN (n:Nat)(i:Int):Option Nat:=if 0≤i then (if i < n then some i.toNat else none) else if -(n:Int)≤i then some (i+n).toNat else none
def atI {α:Type}(xs:List α)(i:Int):Option α:=(ixN xs.length i).bind fun j=>xs[j]?
theorem KI {n:Nat}{i:Int}{j:Nat}(h:ixN n i=some j):seqIndex? i n=some j∧j < n∧-(n:Int)≤i∧i < n:=by
  unfold ixN at h
  by_cases h0:0≤i
  · rw[if_pos h0] at h
    by_cases h1:i < n
    · rw[if_pos h1] at h
      have e:i.toNat=j:=Option.some.inj h
      exact ⟨by rw[seqIndex_of h0 h1,e],by omega,by omega,h1⟩
    · rw[if_neg h1] at h;cases h
  · rw[if_neg h0] at h
    by_cases h1:-(n:Int)≤i
    · rw[if_pos h1] at h
      have e:(i+n).toNat=j:=Option.some.inj h
      exact ⟨by rw[seqIndex_neg (by omega) h1,e],by omega,h1,by omega⟩
    · rw[if_neg h1] at h;cases h
theorem tT {α:Type}{xs:List α}{i:Int}{v:α}(h:atI xs i=some v):∃ j,seqIndex? i xs.length=some j∧xs[j]? = some v∧j < xs.length∧-(xs.length:Int)≤i∧i < xs.length:=by
  unfold atI at h
  cases e:ixN xs.length i with
  | none=>rw[e] at h;cases h
  | some j=>
    rw[e] at h
    obtain ⟨h1,h2,h3,h4⟩:=KI e
    exact ⟨j,h1,h,h2,h3,h4⟩
def Bg (b:Expr):Prop:=∀ o i,subscripted b false o i=operate [o,i] (getItem o i)
def IxR (X:Cx)(r:R2):Prop:=
  ∀ (value slice:Expr) (pins:List (Addr×Obj)) (s:Shared) (σ:St) (H:Hp) (x y:V) (v u:Value) (Q:VK),Inv X pins σ H s→RelV x v→RelV y u→r x y H Q→
    subscripted slice false v u=operate [v,u] (getItem v u)→wpAny (model X.prog X.w) X.A (subscriptTail value slice v u) (EP X pins σ Q) X.xe s
def MtR (X:Cx)(id:String)(r:V→List V→Hp→VK→Prop):Prop:=
  ∀ (pins:List (Addr×Obj)) (s:Shared) (σ:St) (H:Hp) (x:V) (xs:List V) (v:Value) (us:List Value) (Q:VK),Inv X pins σ H s→RelV x v→Vals xs us→r x xs H Q→
    wpAny (model X.prog X.w) X.A (call (.builtin id) (v::us)) (EP X pins σ Q) X.xe s
section
variable {X:Cx} {a b:Expr} {ta tb:TE} {pos:Pos}
theorem IxR.or {r r':R2}(h:IxR X r)(h':IxR X r'):IxR X (fun x y H Q=>r x y H Q∨r' x y H Q):=by
  intro value slice pins s σ H x y v u Q I rx ry q hs
  rcases q with q | q
  · exact h value slice pins s σ H x y v u Q I rx ry q hs
  · exact h' value slice pins s σ H x y v u Q I rx ry q hs
theorem MtR.or {id:String}{r r':V→List V→Hp→VK→Prop}(h:MtR X id r)(h':MtR X id r'):MtR X id (fun x xs H Q=>r x xs H Q∨r' x xs H Q):=by
  intro pins s σ H x xs v us Q I rx rs q
  rcases q with q | q
  · exact h pins s σ H x xs v us Q I rx rs q
  · exact h' pins s σ H x xs v us Q I rx rs q
theorem RI {r:R2}(hr:IxR X r)(ha:PE X a ta)(hb:PE X b tb)(hs:Bg b):PE X (.Subscript a b pos) (tOp r ta tb):=by
  intro pins s σ H Q I h
  exact Subscript_ (Oc ha hb I h fun v u s2 x y H2 I2 rx ry q=>hr a b pins s2 σ H2 x y v u Q I2 rx ry q (hs _ _))
def Q4 (K:PySem.W.Frag):R2:=fun x y H Q=>∃ p xs i v,x=.ref p∧y=.int i∧SqL K H p xs∧atI xs i=some v∧Q v H
def PC (K:PySem.W.Frag):R2:=fun x y H Q=>∃ p xs i v,x=.ref p∧y=.int i∧SqT K H p xs∧atI xs i=some v∧Q v H
def QH:R2:=fun x y H Q=>∃ z i c,x=.str z∧y=.int i∧z.length≤sizeLine∧atI z.cps.toList i=some c∧Q (.str ⟨#[c]⟩) H
theorem Lm:IxR X (Q4 X.K):=by
  intro value slice pins s σ H x y v u Q I rx ry h hs
  obtain ⟨p,xs,i,z,rfl,rfl,hq,he,q⟩:=h
  cases rx
  obtain ⟨t,rfl⟩:=ry
  obtain ⟨its,r,pl,hz⟩:=I.list hq
  obtain ⟨j,h1,h2,h3,h4,h5⟩:=tT he
  obtain ⟨w,ew,rw'⟩:=r.get h2
  have hl:=r.length
  have hn:=pI
  have fin:EP X pins σ Q w s:=⟨z,H,I,rw',q⟩
  by_cases h0:0≤i
  · have hj:i.toNat=j:=by
      rw[seqIndex_of h0 h5] at h1
      exact Option.some.inj h1
    exact item_listR pl.isList h0 (by omega) (by rw[hj];simpa using ew) fin hs
  · have hj:(i+(its.toArray.size:Int)).toNat=j:=by
      rw[seqIndex_neg (by omega) h4] at h1
      rw[List.size_toArray,← hl]
      exact Option.some.inj h1
    exact subscriptTail_builtinR (x:=w) pl.isList.typeIs slot_list_getitem.lookup
      (wpAny_getItem_list_neg (Q:=fun r s'=>r=w∧EP X pins σ Q r s') pl.isList (by omega) (by rw[List.size_toArray]<;>omega) (by omega) (by rw[hj];simpa using ew) ⟨rfl,fin⟩) hs
theorem Mv:IxR X (PC X.K):=by
  intro value slice pins s σ H x y v u Q I rx ry h hs
  obtain ⟨p,xs,i,z,rfl,rfl,hq,he,q⟩:=h
  cases rx
  obtain ⟨t,rfl⟩:=ry
  obtain ⟨its,r,pl,hz⟩:=I.tuple hq
  obtain ⟨j,h1,h2,h3,h4,h5⟩:=tT he
  obtain ⟨w,ew,rw'⟩:=r.get h2
  have hl:=r.length
  have hn:=pI
  have fin:EP X pins σ Q w s:=⟨z,H,I,rw',q⟩
  exact subscriptTail_builtinR (x:=w) pl.typeIs slot_tuple_getitem.lookup
    (getItem_tuple (j:=j) (Q:=fun r s'=>r=w∧EP X pins σ Q r s') pl (by omega) (by omega) (by rw[List.size_toArray,← hl];exact h1) (by simpa using ew) ⟨rfl,fin⟩) hs
theorem Pw:IxR X QH:=by
  intro value slice pins s σ H x y v u Q I rx ry h hs
  obtain ⟨z,i,c,rfl,rfl,hz,he,q⟩:=h
  obtain ⟨t,rfl⟩:=rx
  obtain ⟨t',rfl⟩:=ry
  obtain ⟨j,h1,h2,h3,h4,h5⟩:=tT he
  have hl:z.cps.toList.length=z.length:=by simp[Str.length]
  rw[hl] at h1 h4 h5
  have hn:=pI
  exact tail_any (typeIs_str s z t) slot_str_getitem.lookup (getItem_str (c:=c) (by
    have e1:decide (i < -(2 ^ 63:Int))=false:=decide_eq_false (by omega)
    have e2:decide (i ≥ 2 ^ 63)=false:=decide_eq_false (by omega)
    rw[e1,e2,Bool.or_false]) (by rw[h1];simpa using h2) ⟨.str ⟨#[c]⟩,H,I.tok _,⟨_,rfl⟩,q⟩) hs
def rIx (K:PySem.W.Frag):R2:=fun x y H Q=>Q4 K x y H Q∨PC K x y H Q∨QH x y H Q
theorem Ou:IxR X (rIx X.K):=Lm.or (Mv.or Pw)
theorem Inv.lst {pins:List (Addr×Obj)}{σ:St}{H:Hp}{s:Shared}{p:Addr}{xs:List V}(I:Inv X pins σ H s)(h:H p=some (.lst xs)) :
    ∃ (its:List Value) (n:Nat),Vals xs its∧s.heap.get? p=some { cls:=.type "list", data:=.seq its.toArray n }∧xs.length≤sizeLine:=by
  obtain ⟨z,its,n,r,e⟩:=I.hok p _ h
  exact ⟨its,n,r,e,z⟩
theorem tQ (lo hi:Option Int)(n:Nat):(sliceBounds lo hi none n).1=((HT.sIx n 0 lo:Nat):Int)∧(sliceBounds lo hi none n).2.1=((HT.sIx n n hi:Nat):Int)∧(sliceBounds lo hi none n).2.2=1:=by
  refine ⟨?_,?_,rfl⟩
  · cases lo with
    | none=>simp[sliceBounds,HT.sIx]
    | some i=>
      simp only[sliceBounds,HT.sIx,Option.getD_none,show (1:Int) > 0 by decide,if_true]
      by_cases h:i < 0
      · simp only[h,if_true]<;>omega
      · simp only[h,if_false]<;>omega
  · cases hi with
    | none=>simp[sliceBounds,HT.sIx]
    | some i=>
      simp only[sliceBounds,HT.sIx,Option.getD_none,show (1:Int) > 0 by decide,if_true]
      by_cases h:i < 0
      · simp only[h,if_true]<;>omega
      · simp only[h,if_false]<;>omega
theorem rX (its:List Value)(lo hi:Option Int):slicePick its.toArray lo hi none=((its.drop (HT.sIx its.length 0 lo)).take (HT.sIx its.length its.length hi - HT.sIx its.length 0 lo)).toArray:=by
  obtain ⟨h1,h2,h3⟩:=tQ lo hi its.toArray.size
  unfold slicePick
  rw[h1,h2,h3]
  simp only[sliceRange_one,pick_run,List.size_toArray]<;>rfl
def RY (K:PySem.W.Frag):V→Option Int→Option Int→Hp→VK→Prop:=fun x lo hi H Q=>∃ a xs,x=.ref a∧SqL K H a xs∧∀ p,H p=none→Q (.ref p) (upd H p (.lst (vV xs lo hi)))
theorem Iz:SlR X (RY X.K):=by
  intro pins s σ H x v vl vu lo hi sl Q I rx hs pl pu h
  obtain ⟨a,xs,rfl,hx,q⟩:=h
  cases rx
  obtain ⟨its,r,ht,hz⟩:=I.list hx
  have hlen:=r.length
  refine ⟨"list", _,slot_list_getitem.lookup,ht.isList.typeIs,?_⟩
  refine wpAny_getItem_list_slice ht.isList hs pl pu .none (by simp) ?_ (by rw[List.size_toArray]<;>omega)
  rw[rX,← hlen]
  refine ⟨.ref s.heap.objs.size,_,I.laid (t':=s.toks) (o:=.lst (vV xs lo hi)) (fun b ob q=>Heap.get?_push_of_some _ q) (Nat.le_refl _) ?_,rfl,q _ (I.hok.fresh (Nat.le_refl _))⟩
  exact ⟨Nat.le_trans (nI xs lo hi) hz,_,0,(r.drop (HT.sIx xs.length 0 lo)).take (HT.sIx xs.length xs.length hi - HT.sIx xs.length 0 lo),Heap.get?_push_size _ rfl⟩
def LQ:V→Bool
  | .non=>true
  | .bl _=>true
  | .int _=>true
  | .str _=>true
  | _=>false
def eqV:V→V→Bool
  | .non,.non=>true
  | .bl a,.bl b=>a == b
  | .bl a,.int b=>(if a then 1 else 0) == b
  | .int a,.bl b=>a == (if b then 1 else 0)
  | .int a,.int b=>a == b
  | .str a,.str b=>a == b
  | _,_=>false
def inV (x:V)(xs:List V):Bool:=xs.any fun y=>eqV y x
def rIn (K:PySem.W.Frag)(neg:Bool):R2:=fun x y H Q=>∃ p xs,y=.ref p∧(SqL K H p xs∨SqT K H p xs)∧LQ x=true∧xs.all LQ=true∧Q (.bl (if neg then !inV x xs else inV x xs)) H
theorem uQ:cH X (.builtin "len") (fun xs H Q=>∃ p ys,xs=[.ref p]∧(SqL X.K H p ys∨SqT X.K H p ys)∧Q (.int ys.length) H):=by
  intro pins s σ H xs us Q I r h
  obtain ⟨p,ys,rfl,hq,q⟩:=h
  obtain ⟨u,rfl,rx⟩:=vals1 r
  cases rx
  have hn:=pI
  rcases hq with hq | hq
  · obtain ⟨its,r',pl,hz⟩:=I.list hq
    have hlen:=r'.length
    exact Calls.call_len_list pl.isList (by simp only[List.size_toArray]<;>omega) ⟨.int ys.length,H,I.tok _,⟨s.toks+1,by rw[List.size_toArray,hlen]⟩,q⟩
  · obtain ⟨its,r',pl,hz⟩:=I.tuple hq
    have hlen:=r'.length
    exact len_tuple pl (by simp only[List.size_toArray]<;>omega) ⟨.int ys.length,H,I.tok _,⟨s.toks+1,by rw[List.size_toArray,hlen]⟩,q⟩
theorem ua:cH X (.builtin "len") (fun xs H Q=>∃ z,xs=[.str z]∧z.length≤sizeLine∧Q (.int z.length) H):=by
  intro pins s σ H xs us Q I r h
  obtain ⟨z,rfl,hz,q⟩:=h
  obtain ⟨u,rfl,t,rfl⟩:=vals1 r
  have hn:=pI
  exact len_str (by omega) ⟨.int z.length,H,I.tok _,⟨_,rfl⟩,q⟩
theorem cH.or {f:Value}{r r':List V→Hp→VK→Prop}(h:cH X f r)(h':cH X f r'):cH X f (fun xs H Q=>r xs H Q∨r' xs H Q):=by
  intro pins s σ H xs us Q I rs q
  rcases q with q | q
  · exact h pins s σ H xs us Q I rs q
  · exact h' pins s σ H xs us Q I rs q
theorem iN:cH X (.type "list") (fun xs H Q=>∃ p ys,xs=[.ref p]∧(SqL X.K H p ys∨SqT X.K H p ys)∧∀ l,H l=none→Q (.ref l) (upd H l (.lst ys))):=by
  intro pins s σ H xs us Q I r h
  obtain ⟨p,ys,rfl,hq,q⟩:=h
  obtain ⟨u,rfl,rx⟩:=vals1 r
  cases rx
  have fin:∀ (its:List Value),Vals ys its→ys.length≤sizeLine→∀ (h':Heap) (c':Nat),(∀ b o',s.heap.get? b=some o'→h'.get? b=some o')→
      h'.get? s.heap.objs.size=some { cls:=.type "list", dict:=none,data:=.seq its.toArray c',slots:=#[] }→EP X pins σ Q (.ref s.heap.objs.size) { s with heap:=h' }:=fun its r' hz h' c' kp e=>
    ⟨.ref s.heap.objs.size,_,I.laid (t':=s.toks) kp (Nat.le_refl _) (show dA X.prog X.w _ h' _ (.lst ys) from ⟨hz,its,c',r',e⟩),rfl,q _ (I.hok.fresh (Nat.le_refl _))⟩
  rcases hq with hq | hq
  · obtain ⟨its,r',pl,hz⟩:=I.list hq
    have hlen:=r'.length
    obtain ⟨o,ho,hc,n,hd⟩:=pl.isList
    exact call_list_seq p (.inl rfl) ho hc hd (fun h' c' kp e=>fin its r' hz h' c' kp e) (by simp only[List.size_toArray]<;>omega)
  · obtain ⟨its,r',pl,hz⟩:=I.tuple hq
    have hlen:=r'.length
    obtain ⟨o,ho,hc,n,hd⟩:=pl
    exact call_list_seq p (.inr rfl) ho hc hd (fun h' c' kp e=>fin its r' hz h' c' kp e) (by simp only[List.size_toArray]<;>omega)
theorem aO:cH X (.type "tuple") (fun xs H Q=>∃ p ys,xs=[.ref p]∧((SqL X.K H p ys∧∀ l,H l=none→Q (.ref l) (upd H l (.tup ys)))∨(SqT X.K H p ys∧Q (.ref p) H))):=by
  intro pins s σ H xs us Q I r h
  obtain ⟨p,ys,rfl,h⟩:=h
  obtain ⟨u,rfl,rx⟩:=vals1 r
  cases rx
  rcases h with ⟨hq,q⟩ | ⟨hq,q⟩
  · obtain ⟨its,r',pl,hz⟩:=I.list hq
    have hlen:=r'.length
    refine call_tuple_list pl.isList (fun h' kp=>?_) (by simp only[List.size_toArray]<;>omega)
    have I1:Inv X pins σ H { s with heap:=h' }:=I.kept (t':=s.toks) kp
    have I2:Inv X pins σ (upd H h'.objs.size (.tup ys)) { s with heap:=h'.push { cls:=.type "tuple", data:=.seq its.toArray } }:=
      I1.laid (t':=s.toks) (fun b o e=>Heap.get?_push_of_some _ e) (Nat.le_refl _) (show dA X.prog X.w _ _ _ (.tup ys) from ⟨hz,its,r',uK.new _ _⟩)
    exact ⟨.ref h'.objs.size,_,I2,rfl,q _ (I1.hok.fresh (Nat.le_refl _))⟩
  · obtain ⟨its,r',pl,hz⟩:=I.tuple hq
    exact call_tuple_same pl ⟨.ref p,H,I,rfl,q⟩
def tyV (K:PySem.W.Frag)(T:String)(x:V)(H:Hp):Prop:=match x with
  | .str _=>T = "str"
  | .int _=>T = "int"
  | .ref p=>(T = "list" ∧ ∃ xs,SqL K H p xs)∨(T = "tuple" ∧ ∃ o,K.lookup p=some o∧o.cls=.type "tuple" ∧ o.dict=none)∨
      (T = "dict" ∧ ((∃ kvs,H p=some (.dK kvs))∨∃ kvs,H p=some (.dT kvs)))∨(T = "set" ∧ ∃ S n,H p=some (.set S n))
  | _=>False
theorem Pk {pins:List (Addr×Obj)}{σ:St}{H:Hp}{s:Shared}{T:String}{x:V}{v:Value}(I:Inv X pins σ H s)(r:RelV x v)(ty:tyV X.K T x H) :
    s.TypeIs v T∧∀ a,v=.ref a→∃ ob,s.heap.get? a=some ob∧ob.dict=none:=by
  cases x with
  | str z=>
    obtain ⟨t,rfl⟩:=r
    cases (show T = "str" from ty)
    exact ⟨typeIs_str s z t,fun _ e=>nomatch e⟩
  | int i=>
    obtain ⟨t,rfl⟩:=r
    cases (show T = "int" from ty)
    exact ⟨typeIs_int s i t,fun _ e=>nomatch e⟩
  | ref p=>
    cases r
    rcases ty with ⟨rfl,xs,hq⟩ | ⟨rfl,o,hk,hc,hd⟩ | ⟨rfl,hk⟩ | ⟨rfl,S,n,hk⟩
    · obtain ⟨its,_,pl,_⟩:=I.list hq
      refine ⟨pl.isList.typeIs,fun a e=>?_⟩
      cases e
      obtain ⟨o,n,e,c,hd,_⟩:=pl
      exact ⟨o,e,hd⟩
    · refine ⟨⟨o,I.kIn p o hk,hc⟩,fun a e=>?_⟩
      cases e
      exact ⟨o,I.kIn _ o hk,hd⟩
    · have z:∃ o,s.heap.get? p=some o∧o.ExactDict:=by
        rcases hk with ⟨kvs,hk⟩ | ⟨kvs,hk⟩
        · obtain ⟨_,_,_,_,o,_,_,e,ex,_⟩:=I.hok p _ hk
          exact ⟨o,e,ex⟩
        · obtain ⟨_,_,_,_,o,_,_,e,ex,_⟩:=I.hok p _ hk
          exact ⟨o,e,ex⟩
      obtain ⟨o,e,ex⟩:=z
      refine ⟨⟨o,e,ex.1⟩,fun a e2=>?_⟩
      cases e2
      exact ⟨o,e,ex.2.1⟩
    · obtain ⟨o,_,_,_,e,ex,_⟩:=I.hok p _ hk
      refine ⟨⟨o,e,ex.1⟩,fun a e2=>?_⟩
      cases e2
      exact ⟨o,e,ex.2.1⟩
  | _=>exact False.elim ty
def tBM (K:PySem.W.Frag)(T:String)(r:V→List V→Hp→VK→Prop)(to:TE)(t:TA):TE:=fun σ H Q=>to σ H fun x H1=>tyV K T x H1∧t σ H1 fun xs H2=>r x xs H2 Q
variable {o e:Expr} {es:List Expr} {to:TE} {t:TA} {name:Str} {apos cpos:Pos} {T id:String} {r:V→List V→Hp→VK→Prop}
theorem BA (pa:PlainAttrs T)(slot:Slot T name id)(hty:typeOf (.builtin id)=pure (.type "method_descriptor"))(hm:MtR X id r)(ho:PE X o to)(ha:PA X (e::es) t)
    (hbase:attributeBase o name X.env (eval o X.env)=eval o X.env:=by rfl)
    (hfew:((backTo cpos (starEach (e::es) X.env)).all (fun x=>!x.1)&&(backToKw cpos (keywordEach [] X.env)).all (fun x=>x.1.isSome)
      && decide ((e::es).length+([]:List Keyword).length+(if ([]:List Keyword).isEmpty then 0 else 1) < 30))=true:=by rfl)
    (hline:(apos.endLine == cpos.line)=true:=by rfl) (hs:starEach (e::es) X.env=(false,eval e X.env)::starEach es X.env:=by rfl) (hplain:(backTo cpos (starEach es X.env)).any (·.1)=false:=by rfl) :
    PE X (.Call (.Attribute o name apos) (e::es) [] cpos) (tBM X.K T r to t):=by
  intro pins s σ H Q I h
  refine wpAny_Call_method_late hbase hfew hline rfl (thn (ho pins s σ H _ I h) fun v s1 ⟨x,H1,I1,r1,ty,q1⟩=>?_)
  obtain ⟨h1,h2⟩:=Pk I1 r1 ty
  refine ⟨T,id,pa,slot,hty,h1,h2,?_⟩
  have hA:=ha cpos pins s1 σ H1 _ I1 q1
  rw[hs] at hA ⊢
  refine Calls.callWith_builtin (by show (false || (backTo cpos (starEach es X.env)).any (·.1))=false;rw[hplain]<;>rfl) (Calls.evalArgs_plain ?_)
  exact thn hA fun us s2 ⟨vs,H2,I2,r2,q2⟩=>hm pins s2 σ H2 x vs v us Q I2 r1 r2 q2
end
end L2
namespace L2
open PySem PySem.Spec PyProof.Rows
def MtM (X:Cx)(id:String)(r:V→List V→Hp→VK→Prop):Prop:=
  ∀ (pins:List (Addr×Obj)) (s:Shared) (σ:St) (H:Hp) (x:V) (xs:List V) (v:Value) (us:List Value) (Q:VK),Inv X pins σ H s→RelV x v→Vals xs us→r x xs H Q→
    wpAny (model X.prog X.w) X.A (call (.builtin id) (v::us)) (EP X pins σ Q) X.xe s
theorem Vals.one:∀ {x:V} {us:List Value},Vals [x] us→∃ u,us=[u]∧RelV x u
  | _,_,.cons r .nil=>⟨_,rfl,r⟩
theorem Vals.zero:∀ {us:List Value},Vals [] us→us=[]
  | _,.nil=>rfl
theorem Vals.eraseIdx:∀ {xs:List V} {us:List Value} (i:Nat),Vals xs us→Vals (xs.eraseIdx i) (us.eraseIdx i)
  | _,_,_,.nil=>.nil
  | _,_,0,.cons _ t=>t
  | _,_,i+1,.cons r t=>.cons r (Vals.eraseIdx i t)
theorem Vals.reverse {xs:List V}{us:List Value}(h:Vals xs us):Vals xs.reverse us.reverse:=by
  induction h with
  | nil=>exact .nil
  | cons r t ih=>rw[List.reverse_cons,List.reverse_cons];exact Vals.append ih (.cons r .nil)
theorem Vals.rep {xs:List V}{us:List Value}(h:Vals xs us):∀ k:Nat,Vals (List.replicate k xs).flatten (List.replicate k us).flatten
  | 0=>.nil
  | k+1=>by
    rw[List.replicate_succ,List.replicate_succ,List.flatten_cons,List.flatten_cons]
    exact Vals.append h (Vals.rep h k)
theorem sW {α:Type}:∀ (l:List α) (i:Nat),(l.eraseIdx i).length≤l.length
  | [],_=>Nat.le_refl _
  | _::_,0=>Nat.le_succ _
  | _::r,i+1=>Nat.succ_le_succ (sW r i)
section
variable {X:Cx} {pins:List (Addr×Obj)} {σ:St} {H:Hp} {s:Shared} {l b:Addr} {xs ys zs:List V}
theorem Inv.Iq {its its':List Value}{n:Nat}{f:Array Value→Array Value}{t':Nat}(I:Inv X pins σ H s)(hH:H l=some (.lst xs))
    (e:s.heap.get? l=some { cls:=.type "list", data:=.seq its.toArray n }) (hf:f its.toArray=its'.toArray) (hv:Vals ys its') (hz:ys.length≤sizeLine) :
    Inv X pins σ (upd H l (.lst ys)) { s with heap:=s.heap.update l (Obj.mapSeq f),toks:=t' }:=by
  have q:=PySem.IsL.update e f
  rw[hf] at q
  refine I.write (x:=l) (e:=l) (by rw[hH];exact trivial) (.inl rfl) (fun b' u hb hu=>(Heap.get?_update_other s.heap (Obj.mapSeq f) (Ne.symm hb)).trans hu) ⟨_,q⟩ ?_
  exact ⟨hz,its',_,hv,q⟩
theorem Inv.RW {its:List Value}{t':Nat}(I:Inv X pins σ H s)(hv:Vals ys its)(hz:ys.length≤sizeLine) :
    Inv X pins σ (upd H s.heap.objs.size (.lst ys)) { s with heap:=s.heap.push { cls:=.type "list", data:=.seq its.toArray },toks:=t' }:=
  I.laid (fun _ _ q=>Heap.get?_push_of_some _ q) (Nat.le_refl _) ⟨hz,its,0,hv,Heap.get?_push_size _ rfl⟩
theorem Inv.fresh (I:Inv X pins σ H s):H s.heap.objs.size=none:=I.hok.fresh (Nat.le_refl _)
theorem Inv.Ly (I:Inv X pins σ H s)(hH:H l=some (.lst xs)):xs.length≤sizeLine∧∃ (its:List Value) (n:Nat),Vals xs its∧xs.length=its.length∧s.heap.get? l=some { cls:=.type "list", data:=.seq its.toArray n }:=by
  obtain ⟨z,its,n,r,e⟩:=I.hok l _ hH
  exact ⟨z,its,n,r,r.length,e⟩
theorem xW {n:Nat}(h:n≤sizeLine):Builtin.List.listTooLong n=false:=by
  unfold Builtin.List.listTooLong
  exact decide_eq_false (by omega)
end
section
variable {X:Cx}
def J5:V→List V→Hp→VK→Prop:=fun x vs H Q=>∃ l xs y,x=.ref l∧vs=[y]∧H l=some (.lst xs)∧xs.length < sizeLine∧Q .non (upd H l (.lst (xs++[y])))
theorem sY:MtM X "list.append" J5:=by
  intro pins s σ H x vs v us Q I rx rv h
  obtain ⟨l,xs,y,rfl,rfl,hH,hz,q⟩:=h
  cases rx
  obtain ⟨u,rfl,ru⟩:=rv.one
  obtain ⟨z,its,n,r,hl,e⟩:=I.Ly hH
  refine call_meets F.slot_list_append ⟨_,e,rfl⟩ F.entry_list_append (F.args_list_append_2 _ _) (PySem.list_append l its.toArray n u (by rw[List.size_toArray];omega)) ⟨e,?_⟩
  refine ⟨.non,_,I.Iq (its':=its++[u]) hH e (by simp) (r.append (.cons ru .nil)) ?_,rfl,q⟩
  rw[List.length_append,List.length_singleton]
  omega
def Pc:V→List V→Hp→VK→Prop:=fun x vs H Q=>∃ l xs i k y,x=.ref l∧vs=[.int i]∧H l=some (.lst xs)∧-(2 ^ 63)≤i∧i < 2 ^ 63∧seqIndex? i xs.length=some k∧xs[k]? = some y∧Q y (upd H l (.lst (xs.eraseIdx k)))
theorem HM:MtM X "list.pop" Pc:=by
  intro pins s σ H x vs v us Q I rx rv h
  obtain ⟨l,xs,i,k,y,rfl,rfl,hH,h1,h2,hk,hy,q⟩:=h
  cases rx
  obtain ⟨u,rfl,ru⟩:=rv.one
  obtain ⟨t,rfl⟩:=ru
  obtain ⟨z,its,n,r,hl,e⟩:=I.Ly hH
  obtain ⟨w,hw,rw'⟩:=r.get hy
  refine call_meets F.slot_list_pop ⟨_,e,rfl⟩ F.entry_list_pop (F.args_list_pop_2 _ _)
    (MeetsSeq.list_pop_at l its.toArray n i t k w (fitsIndex_both h1 h2) (by rw[List.size_toArray,← hl];exact hk) (by rw[← Array.getElem?_toList];exact hw) (by rw[List.size_toArray];omega)) ⟨e,?_⟩
  refine ⟨y,_,I.Iq (its':=its.eraseIdx k) hH e ?_ (r.eraseIdx k) ?_,rw',q⟩
  · show its.toArray.eraseIdxIfInBounds k=(its.eraseIdx k).toArray
    rw[List.eraseIdxIfInBounds_toArray]
  · have:=sW xs k
    omega
end
section
variable {prog:Program} {w:World} {A:Around} {E:Value→Shared→Prop} {s:Shared}
end
section
variable {X:Cx}
end
end L2
namespace Att
open PySem PySem.W PySem.Calls PyProof.Rows
theorem nW {P:Params}{h:Heap}:∀ (ns:List Int) (vs:List Value),WellAll P h vs (ns.map WData.int)→IntsAre vs ns:=by
  intro ns
  induction ns with
  | nil=>
    intro vs w
    rw[List.map_nil] at w
    cases w
    exact .nil
  | cons n ns ih=>
    intro vs w
    rw[List.map_cons] at w
    cases w with
    | cons a b=>
      cases a
      exact .cons _ _ (ih _ b)
theorem Cr {l:OpenLaw}{n:Nat}(hn:l.most=some n){P:Params}{h:Heap}{args:List WData}{vals:List Value}
    (hpre:l.row.toRowW.claim.pre args=true) (hwl:WellAll P h vals args) :
    ∃ a vs ns,vals=[Value.ref a]∧args=[WData.list (ns.map WData.int)]∧h.get? a=some { cls:=.type "list", data:=.seq vs.toArray }∧IntsAre vs ns∧ns.length≤n:=by
  have hsh:WShape.hasAll [] args [.list .int]=true:=(pre_splitW hpre).1
  have hc:l.pre.holds [] { args:=args }=true:=(pre_splitW hpre).2
  obtain ⟨d,r,rfl,h1,h2⟩:=hasAllW_cons hsh
  obtain rfl:=hasAllW_nil h2
  obtain ⟨xs,rfl,h3⟩:=hasW_list h1
  obtain ⟨ns,rfl⟩:=items_int h3
  have hlen:ns.length≤n:=by
    unfold OpenLaw.pre at hc
    have h4:(WTm.not (.lt (.lit (.int (n:Int))) (.len (.arg 0)))).holds [] { args:=[.list (ns.map .int)] }=true:=by
      have h4:=(holds_andW hc).1
      rw[hn] at h4
      exact h4
    have h5:=condW_of h4 (w_not (w_lt w_lit (w_len_list (w_arg rfl))))
    rw[List.length_map] at h5
    refine Nat.le_of_not_lt fun q=>?_
    have q':(n:Int) < ((ns.length:Nat):Int):=by omega
    first
      | (rw[decide_eq_true q'] at h5;exact absurd h5 (by decide))
      | (simp at h5;omega)
  cases hwl with
  | cons w1 w2=>
    cases w2
    cases w1 with
    | list ho hall=>exact ⟨_,_,ns,rfl,rfl,ho,nW ns _ hall,hlen⟩
theorem Dr (l:OpenLaw)(args:List WData):l.row.toRowW.claim.post args (.bool true) args=true:=
  postW_of (r:=l.row.toRowW) (X:=(true == true))
    (show WShape.has [] (.bool true) .bool=true by first | rfl | decide | simp[WShape.has,WShape.arms,WShape.armsAll])
    (show (WTm.eq .res (.lit (.bool true))).value [] { args:=args,res:=some (.bool true),after:=args }=some (.bool (true == true)) from w_eq_bool (w_res rfl) w_lit) rfl
theorem wR {l:OpenLaw}{n:Nat}{q:Program}{loose:List Str}{XP:(Str→Option Value)→Heap→Prop}{YP:World→Heap→Prop}{d:DefRec}
    (hn:l.most=some n) (hdf:d.params.defaults=[])
    (call:∀ (w:World) (s₀ s₁:Shared) (mg mb:Str→Option Value) (fa:Addr) (o:Obj) (pm cd doc:Value) (a:Addr) (vs:List Value) (ns:List Int),
      Ground q loose [] XP w s₀ mg mb s₁.heap→YP w s₁.heap→
      s₁.heap.get? fa=some o→o.data=.func (docDef d.name d.params d.body d.scope pm cd doc)→s₁.heap.CodeRec cd d.name→mg d.name=some (.ref fa)→
      s₁.heap.get? a=some { cls:=.type "list", data:=.seq vs.toArray }→IntsAre vs ns→ns.length≤n→s₁.gens = #[]→
      codeAny (model l.prog w) callerA (.call (.ref fa) ⟨[.ref a],[]⟩) (fun r s'=>r=.ok (.ret (.bool true))∧OldK s₁.heap s'.heap∧s'.os=s₁.os∧AllBare s'.gens) s₁) :
    WalkO q loose XP YP l.row.toRowW d [] (fun f vs=>PySem.call f vs):=by
  intro w s₀ s₁ mg mb G Y fa o pm cd doc dV kV ho hd hcd hD hmg hg args vals as hpre hlay hrd hwl hlo
  obtain rfl:dV=.none:=Dflts.none hD hdf
  obtain rfl:kV=.none:=Dflts.noKw hD
  obtain ⟨a,vs,ns,rfl,rfl,hobj,hints,hlen⟩:=Cr hn hpre hwl
  refine enter_call (codeAny_mono (call w s₀ s₁ mg mb fa o pm cd doc a vs ns G Y ho (fd_plain hd) hcd hmg hobj hints hlen hg) fun r s' hq=>?_)
  obtain ⟨rfl,h2,h3,h4⟩:=hq
  exact ⟨.inl ⟨.bool true,.bool true,[],rfl,fun _=>rfl,.bool true,Dr l _,fun _=>⟨List.Pairwise.nil,fun _ hm=>(nomatch hm)⟩⟩,h2,h3,h4⟩
section
variable {prog:Program} {w:World} {A:Around} {E:Value→Shared→Prop} {s:Shared} {K:Frag}
end
end Att
namespace L2
open PySem PySem.Spec PyProof.Rows
theorem sR:∀ {vs:List Value} {ns:List Int},IntsAre vs ns→Vals (ns.map V.int) vs
  | _,_,.nil=>.nil
  | _,_,.cons n t h=>.cons ⟨t,rfl⟩ (sR h)
def JJ (H:Hp):Prop:=∀ b,H b=none∨∃ o xs,H b=some (.frz o (.lst xs))
theorem E8 {P:Program}{w:World}{K:PySem.W.Frag}{mg mb:Str→Option Value}{CX:CXT}{k:Nat}{fa a:Addr}{fd:FuncData}{x:Str}{sp:Sp}{s₁:Shared}{vs:List Value}{ns:List Int}
    (KX:K.In s₁.heap) (hns:s₁.heap.Ns mainGlobals mg) (hb:s₁.heap.Ns builtinsNs mb) (hbb:∀ x:Str,x ≠ "__name__" → mb x=bootBuiltins x) (hlim:s₁.heap.NoLimit) (hg:s₁.gens = #[])
    (ha:s₁.heap.get? a=some { cls:=.type "list", data:=.seq vs.toArray }) (hi:IntsAre vs ns) (hl:ns.length≤sizeLine) (hr:fH k callerA)
    (F:∀ base:Heap,K.In base→base.Ns mainGlobals mg→je P w K mg base CX k fa fd [x] sp) (hbind:∀ (s:Shared) (u:Value),BindsTo s fd ⟨[u],[]⟩ [(x,u)])
    (hsp:∀ H:Hp,JJ H→SqL K H a (ns.map V.int)→sp [.ref a] H (fun v _=>v=.bl true) fun _ _ _=>False)
    (hCX:∀ H e s',CX [] H s₁ (fun _ _ _=>False) e s'→False) :
    codeAny (model P w) callerA (.call (.ref fa) ⟨[.ref a],[]⟩) (fun r s'=>r=.ok (.ret (.bool true))∧OldK s₁.heap s'.heap∧s'.os=s₁.os∧AllBare s'.gens) s₁:=by
  have rv:=sR hi
  have Tf:=hi.length
  -- from an abstract heap in which nothing but the script may be tracked
  have core:∀ H:Hp,JJ H→SqL K H a (ns.map V.int)→HOk P w H s₁.heap→(∀ b,H b≠none→b=a)→(H a≠none→K.lookup a=none)→
      codeAny (model P w) callerA (.call (.ref fa) ⟨[.ref a],[]⟩) (fun r s'=>r=.ok (.ret (.bool true))∧OldK s₁.heap s'.heap∧s'.os=s₁.os∧AllBare s'.gens) s₁:=by
    intro H hO hS hok hA hK
    have base_of:∀ {b:Addr} {o:Obj},s₁.heap.get? b=some o→H b=none→(uP s₁.heap H).get? b=some o:=fun e n=>GA e n
    have noA:∀ {b:Addr} {o:Obj} {es:Array DictEntry} {ep:Nat},s₁.heap.get? b=some o→o.data=.dict es ep→H b=none:=fun {b o es ep} e d=>by
      cases q:H b with
      | none=>rfl
      | some u=>
        have e':b=a:=hA b (by rw[q];simp)
        subst e'
        rw[ha] at e;cases e
        have d':Data.seq vs.toArray _=Data.dict es ep:=d
        cases d'
    have nsK:∀ {b:Addr} {m:Str→Option Value},s₁.heap.Ns b m→(uP s₁.heap H).Ns b m:=fun {b m} ⟨o,es,ep,e,d,r⟩=>⟨o,es,ep,base_of e (noA e d),d,r⟩
    have hKb:K.In (uP s₁.heap H):=fun b o e=>base_of (KX b o e) (by
      cases q:H b with
      | none=>rfl
      | some u=>
        have e':b=a:=hA b (by rw[q];simp)
        subst e'
        rw[hK (by rw[q];simp)] at e;cases e)
    have hM:Mod K mg (uP s₁.heap H):=⟨hKb,nsK hns,⟨mb,nsK hb,hbb⟩,let ⟨mc,h1,h2⟩:=hlim;⟨mc,nsK h1,h2⟩⟩
    have e0:yV P w K mg (uP s₁.heap H) callerA [] s₁ H:=⟨rfl,hM,fun b o e=>JV e,Nat.le_of_eq (CY _ _),trivial,fun b hb=>absurd (show b∈([]:List Addr) from hb) (by simp),hok,.of_eq hg⟩
    refine codeAny_mono ((F _ hKb (nsK hns)).run callerA [] s₁ H ⟨[.ref a],[]⟩ [.ref a] [.ref a] _ _ hr e0 (hbind s₁ (.ref a)) (.cons rfl .nil) (hsp H hO hS)) fun r s' h=>?_
    cases r with
    | error e=>exact (hCX H e s' h).elim
    | ok fl=>
      cases fl with
      | next=>exact False.elim h
      | brk=>exact False.elim h
      | cont=>exact False.elim h
      | ret u=>
        obtain ⟨v,H',os,bare,un,hok',r',q⟩:=h
        have q':v=.bl true:=q
        subst q'
        obtain rfl:u=Value.bool true:=r'
        refine ⟨rfl,OldK.of_keep fun b o e=>?_,os,bare⟩
        cases q:H b with
        | none=>exact un.keep b o e q (by intro z;exact absurd (show b∈([]:List Addr) from z) (by simp)) (by simp)
        | some u=>
          rcases hO b with z | ⟨ob,xs,z⟩
          · rw[q] at z;cases z
          · have z2:=un.mF b ob _ z
            obtain ⟨e1,_⟩:=hok b _ z
            obtain ⟨e2,_⟩:=hok' b _ z2
            rw[e] at e1;cases e1
            exact e2
  cases hk:K.lookup a with
  | some o=>
    -- the script is one of the module's own objects
    have e:=KX a o hk
    rw[ha] at e
    cases e
    refine core (fun _=>none) (fun _=>.inl rfl) (.inr ⟨_,vs.toArray,_,hk,rfl,rfl,rfl,by rw[List.size_toArray,Tf];exact hl,by simpa using rv⟩) (fun b u z=>by have z':(none:Option HO)=some u:=z;cases z') (fun b z=>absurd rfl z) fun z=>absurd rfl z
  | none=>
    refine core (fun b=>if b=a then some (.frz { cls:=.type "list", data:=.seq vs.toArray } (.lst (ns.map V.int))) else none) (fun b=>?_) (.inl (.inr ⟨{ cls:=.type "list", data:=.seq vs.toArray },if_pos rfl⟩)) (fun b u z=>?_) (fun b z=>?_) fun _=>hk
    · by_cases hb:b=a
      · exact .inr ⟨_,_,if_pos hb⟩
      · exact .inl (if_neg hb)
    · by_cases hb:b=a
      · have z':=(if_pos hb).symm.trans z
        cases z'
        subst hb
        exact ⟨ha,by rw[List.length_map];exact hl,vs,_,rv,ha⟩
      · have z':=(if_neg hb).symm.trans z
        cases z'
    · by_cases hb:b=a
      · exact hb
      · exact absurd (if_neg hb) z
end L2
namespace L2
open PySem PySem.Spec PyProof.Rows
theorem Jf {l:PySem.W.OpenLaw}{n k:Nat}{q:Program}{loose:List Str}{XP:(Str→Option Value)→Heap→Prop}{YP:World→Heap→Prop}{d:DefRec}{K:Params→PySem.W.Frag}{CX:World→CXT}{sp:World→Sp}{x:Str}
    (hn:l.most=some n) (hn2:n≤sizeLine) (hdf:d.params.defaults=[]) (hr:fH k callerA)
    (hY:∀ (w:World) (h:Heap),YP w h→(K w.params).In h)
    (F:∀ (w:World) (mg:Str→Option Value) (fa:Addr) (h:Heap),(K w.params).In h→h.Ns mainGlobals mg→mg d.name=some (.ref fa)→
      ∃ fd:FuncData,(∀ (s:Shared) (u:Value),BindsTo s fd ⟨[u],[]⟩ [(x,u)])∧
        ∀ base:Heap,(K w.params).In base→base.Ns mainGlobals mg→je l.prog w (K w.params) mg base (CX w) k fa fd [x] (sp w))
    (hsp:∀ (w:World) (H:Hp) (a:Addr) (ns:List Int),ns.length≤n→JJ H→SqL (K w.params) H a (ns.map V.int)→sp w [.ref a] H (fun v _=>v=.bl true) fun _ _ _=>False)
    (hCX:∀ (w:World) (H:Hp) (s:Shared) (e:Value) (s':Shared),CX w [] H s (fun _ _ _=>False) e s'→False) :
    PySem.W.WalkO q loose XP YP l.row.toRowW d [] (fun f vs=>PySem.call f vs):=by
  refine Att.wR hn hdf fun w s₀ s₁ mg mb fa o pm cd doc a vs ns G Y ho hd hcd hmg hobj hints hlen hg=>?_
  have KX:=hY w _ Y
  obtain ⟨fd,hb,hF⟩:=F w mg fa _ KX G.T.g hmg
  exact E8 KX G.T.g G.T.b G.T.builtins G.T.nolimit hg hobj hints (Nat.le_trans hlen hn2) hr hF hb (fun H hO hS=>hsp w H a ns hlen hO hS) fun H e s'=>hCX w H s₁ e s'
end L2
namespace L2
open PySem PySem.Spec PyProof.Rows
def lP (s:Stmt):Arguments:=match s with
  | .FunctionDef _ a _ _ _ _ _ _ _ _=>a
  | _=>{ posonlyargs:=[],args:=[],vararg:=none,kwonlyargs:=[],kw_defaults:=[],kwarg:=none,defaults:=[] }
def gI (s:Stmt):List Stmt:=match s with
  | .FunctionDef _ _ b _ _ _ _ _ _ _=>b
  | _=>[]
def av (s:Stmt):Scope:=match s with
  | .FunctionDef _ _ _ _ _ _ sc _ _ _=>sc
  | _=>{ kind:=.function,names:=[],isGenerator:=false,isCoroutine:=false }
abbrev CX0:CXT:=fun _ _ _ _ _ _=>False
abbrev E0:XK:=fun _ _ _=>False
theorem QG {X:Cx}:Passes CX0 X E0:=fun _ _ _ _ _ _ _ h=>h.elim
structure Fun (K:PySem.W.Frag) (x qual:Str) (st:Stmt) (f:Addr) (fd:FuncData):Prop where
  ex:∃ (oc:Value) (od:Option Addr) (kV doc pm:Value) (an:Option Addr) (cdv ct:Value) (osl:Array (Option Value)),
    fd=PySem.W.fnOf x qual (lP st) (gI st) (av st) .none kV doc pm an cdv ct∧K.lookup f=some ⟨oc,od,.func fd,osl⟩∧PySem.W.codeIn K cdv qual=true
  kp:PySem.W.keepIn K (.ref f)=true
section
variable {P:Program} {w:World} {K:PySem.W.Frag} {mg:Str→Option Value} {base:Heap}
theorem Fun.ok {x qual:Str}{st:Stmt}{f:Addr}{fd:FuncData}{N ps:List Str}{k:Nat}{sp:Sp}(F:Fun K x qual st f fd)(S:aI N ps (av st))(len:∀ vs H Q E,sp vs H Q E→vs.length=ps.length)
    (hbody:∀ (cdv:Value) (A:Around) (outer:List Env) (s:Shared) (H:Hp) (vs:List V) (Q:VK) (E:XK),fH k (A.deeper (envOfC qual (av st) s.heap.objs.size f cdv))→sp vs H Q E→
      ∃ t,PSs (xo CX0 P w K mg base N qual (av st) f cdv A outer s H E).nox (gI st) t∧t { nx:=fun _ H'=>Q .non H',rt:=Q } (start N vs) H):je P w K mg base CX0 (k+1) f fd ps sp:=by
  obtain ⟨oc,od,kV,doc,pm,an,cdv,ct,osl,rfl,lk,hcd⟩:=F.ex
  refine Rk lk hcd S len fun A outer s H vs Q E hr hsp=>?_
  obtain ⟨t,h,q⟩:=hbody cdv A outer s H vs Q E hr hsp
  exact ⟨t,h.nox,q⟩
theorem Fun.binds {x qual:Str}{st:Stmt}{f:Addr}{fd:FuncData}{ps:List Str}(F:Fun K x qual st f fd)
    (h:∀ (kV doc pm:Value) (an:Option Addr) (cdv ct:Value) (us:List Value),us.length=ps.length→bindArgs (PySem.W.fnOf x qual (lP st) (gI st) (av st) .none kV doc pm an cdv ct) ⟨us,[]⟩=pure (ps.zip us)):Binds K fd ps []:=by
  obtain ⟨oc,od,kV,doc,pm,an,cdv,ct,osl,rfl,lk,hcd⟩:=F.ex
  exact .all (h kV doc pm an cdv ct)
theorem aS {x qual:Str}{st:Stmt}{f:Addr}{oc:Value}{od an:Option Addr}{osl:Array (Option Value)}{kV doc pm cdv ct:Value}(l:K.lookup f=some ⟨oc,od,.func (PySem.W.fnOf x qual (lP st) (gI st) (av st) .none kV doc pm an cdv ct),osl⟩)
    (c:PySem.W.codeIn K cdv qual=true) (k:PySem.W.keepIn K (.ref f)=true):Fun K x qual st f (PySem.W.fnOf x qual (lP st) (gI st) (av st) .none kV doc pm an cdv ct):=⟨⟨oc,od,kV,doc,pm,an,cdv,ct,osl,rfl,l,c⟩,k⟩
end
section
variable {X:Cx}
theorem pv (i:Nat){x:Str}{pos:Pos}(hN:X.N[i]? = some x:=by rfl)(hv:Vis X.env.scope x:=by first | exact Or.inl rfl | exact Or.inr (Or.inl rfl) | exact Or.inr (Or.inr rfl))(hd:(x == ("__debug__" : Str))=false:=by decide)
    (hcd:(x == ("__classdict__" : Str))=false:=by decide):PE X (.Name x pos) (Qq i):=ET hN hv hd hcd
end
theorem rn {A B:Prop}(h:B):if false=true then A else B:=by
  rw[if_neg Bool.false_ne_true]
  exact h
theorem ri {A B:Prop}(h:A):if true=true then A else B:=by
  rw[if_pos rfl]
  exact h
def rF (H H':Hp):Prop:=∀ b o,H b=some o→H' b=some o
theorem rF.refl (H:Hp):rF H H:=fun _ _ h=>h
theorem rF.trans {H H1 H2:Hp}(a:rF H H1)(b:rF H1 H2):rF H H2:=fun c o h=>b c o (a c o h)
theorem rF.free {H H':Hp}(e:rF H H'){l:Addr}(h:H' l=Option.none):H l=Option.none:=by
  cases q:H l with
  | none=>rfl
  | some o=>
    rw[e l o q] at h
    cases h
theorem rF.seq {K:PySem.W.Frag}{H H':Hp}{a:Addr}{xs:List V}(e:rF H H')(h:SqL K H a xs):SqL K H' a xs:=by
  rcases h with (h | ⟨o,h⟩) | h
  · exact .inl (.inl (e _ _ h))
  · exact .inl (.inr ⟨o,e _ _ h⟩)
  · exact .inr h
end L2
namespace L2
open PySem PySem.Spec PyProof.Rows
section
variable {κ:Type} [DecidableEq κ]
def gU (kvs:List (κ×V))(k:κ):Option V:=(kvs.find? fun kv=>decide (kv.1=k)).map (·.2)
def putK (kvs:List (κ×V))(k:κ)(v:V):List (κ×V):=
  if (kvs.any fun kv=>decide (kv.1=k))=true then kvs.map (fun kv=>if kv.1=k then (kv.1,v) else kv) else kvs++[(k,v)]
def Me (kvs:List (κ×V))(k:κ):List (κ×V):=kvs.filter fun kv=>decide (kv.1≠k)
theorem lq {p:κ×V}{r:List (κ×V)}{k:κ}(e:p.1=k):gU (p::r) k=some p.2:=by simp[gU,List.find?_cons,e]
theorem lX {p:κ×V}{r:List (κ×V)}{k:κ}(e:¬ p.1=k):gU (p::r) k=gU r k:=by simp[gU,List.find?_cons,e]
theorem oY (k:κ):∀ kvs:List (κ×V),(kvs.any fun kv=>decide (kv.1=k))=(gU kvs k).isSome
  | []=>rfl
  | p::r=>by
    rw[List.any_cons]
    by_cases e:p.1=k
    · simp only[lq e,decide_eq_true e,Bool.true_or,Option.isSome_some]
    · rw[lX e,decide_eq_false e,Bool.false_or];exact oY k r
theorem jK (kvs:List (κ×V))(k:κ)(v:V):(putK kvs k v).length≤kvs.length+1:=by
  unfold putK
  split
  · rw[List.length_map];omega
  · rw[List.length_append,List.length_cons,List.length_nil];omega
theorem Ed {kvs:List (κ×V)}{k:κ}(v:V)(h:gU kvs k=none):putK kvs k v=kvs++[(k,v)]:=by
  unfold putK
  rw[oY,h]
  exact if_neg (by decide)
theorem lS.C4 {o:Option V}{u:Option Value}(r:lS o u):o.isSome=u.isSome:=by
  cases o with
  | none=>cases u with
    | none=>rfl
    | some _=>exact (show False from r).elim
  | some _=>cases u with
    | none=>exact (show False from r).elim
    | some _=>rfl
theorem lS.getD {o:Option V}{u:Option Value}{d:V}{d':Value}(r:lS o u)(rd:RelV d d'):RelV (o.getD d) (u.getD d'):=by
  cases o with
  | none=>cases u with
    | none=>exact rd
    | some _=>exact (show False from r).elim
  | some _=>cases u with
    | none=>exact (show False from r).elim
    | some _=>exact r
theorem KV.val {kvs:List (κ×V)}{vs:List (κ×Value)}(r:KV kvs vs)(k:κ):lS (gU kvs k) (valueAt vs k):=by
  unfold KV at r
  induction r with
  | nil=>exact True.intro
  | @cons p q ps qs h t ih=>
    obtain ⟨h1,h2⟩:=h
    by_cases e:p.1=k
    · have e':q.1=k:=h1.symm.trans e
      have b:valueAt (q::qs) k=some q.2:=by simp[valueAt,List.find?_cons,e']
      rw[lq e,b];exact h2
    · have e':¬ q.1=k:=fun z=>e (h1.trans z)
      have b:valueAt (q::qs) k=valueAt qs k:=by simp[valueAt,List.find?_cons,e']
      rw[lX e,b];exact ih
theorem KV.any {kvs:List (κ×V)}{vs:List (κ×Value)}(r:KV kvs vs)(k:κ):(kvs.any fun kv=>decide (kv.1=k))=vs.any fun kv=>decide (kv.1=k):=by
  unfold KV at r
  induction r with
  | nil=>rfl
  | cons h t ih=>rw[List.any_cons,List.any_cons,ih,h.1]
theorem KV.M8 {kvs:List (κ×V)}{vs:List (κ×Value)}(r:KV kvs vs)(k:κ){y:V}{u:Value}(ry:RelV y u) :
    KV (kvs.map fun kv=>if kv.1=k then (kv.1,y) else kv) (vs.map fun kv=>if kv.1=k then (kv.1,u) else kv):=by
  unfold KV at r ⊢
  induction r with
  | nil=>exact .nil
  | @cons p q ps qs h t ih=>
    rw[List.map_cons,List.map_cons]
    refine .cons ?_ ih
    obtain ⟨h1,h2⟩:=h
    by_cases e:p.1=k
    · rw[if_pos e,if_pos (h1.symm.trans e)];exact ⟨h1,ry⟩
    · rw[if_neg e,if_neg (fun z=>e (h1.trans z))];exact ⟨h1,h2⟩
theorem KV.put {kvs:List (κ×V)}{vs:List (κ×Value)}(r:KV kvs vs)(k:κ){y:V}{u:Value}(ry:RelV y u):KV (putK kvs k y) (stored vs k u):=by
  unfold putK stored
  rw[r.any k]
  by_cases e:(vs.any fun kv=>decide (kv.1=k))=true
  · rw[if_pos e,if_pos e];exact r.M8 k ry
  · rw[if_neg e,if_neg e];exact Paired.snoc r ⟨rfl,ry⟩
theorem KV.drop {kvs:List (κ×V)}{vs:List (κ×Value)}(r:KV kvs vs)(k:κ):KV (Me kvs k) (without vs k):=by
  unfold KV at r ⊢
  unfold Me without
  induction r with
  | nil=>exact .nil
  | @cons p q ps qs h t ih=>
    obtain ⟨h1,h2⟩:=h
    rw[List.filter_cons,List.filter_cons]
    by_cases e:p.1=k
    · have a:¬ decide (p.1≠k)=true:=by simp[e]
      have b:¬ decide (q.1≠k)=true:=by simp[h1.symm.trans e]
      rw[if_neg a,if_neg b];exact ih
    · have e':¬ q.1=k:=fun z=>e (h1.trans z)
      have a:decide (p.1≠k)=true:=by simp[e]
      have b:decide (q.1≠k)=true:=by simp[e']
      rw[if_pos a,if_pos b];exact .cons ⟨h1,h2⟩ ih
theorem KV.keys {kvs:List (κ×V)}{vs:List (κ×Value)}(r:KV kvs vs):kvs.map (·.1)=vs.map (·.1):=by
  unfold KV at r
  induction r with
  | nil=>rfl
  | cons h t ih=>rw[List.map_cons,List.map_cons,ih,h.1]
theorem KV.length {kvs:List (κ×V)}{vs:List (κ×Value)}(r:KV kvs vs):kvs.length=vs.length:=Paired.length r
end
theorem wa {P:Program}{w:World}{k:Key}{u:Value}(r:RelV (kV k) u):(ck P w).is k u=true:=by
  cases k with
  | inl i=>obtain ⟨t,e⟩:=(show ∃ t,u=Value.int i t from r);subst e;exact wG P w i t
  | inr x=>obtain ⟨t,e⟩:=(show ∃ t,u=Value.str x t from r);subst e;exact wq P w x t
theorem sN {P:Program}{w:World}:∀ {ks:List Key} {us:List Value},Vals (ks.map kV) us→ItemsAre (ck P w) ks us
  | [],_,r=>by rw[List.map_nil] at r;cases r;exact .nil
  | k::ks,_,r=>by
    rw[List.map_cons] at r
    cases r with
    | cons h t=>exact .cons (wa h) (sN t)
abbrev KT (H:Hp):List (List Key×V)→List (List Key×Addr×Value)→Prop:=Paired fun p q=>p.1=q.1∧H q.2.1=some (.tup (p.1.map kV))∧RelV p.2 q.2.2
theorem KT.val {H:Hp}{kvs:List (List Key×V)}{xs:List (List Key×Addr×Value)}(r:KT H kvs xs)(k:List Key):lS (gU kvs k) ((atKey xs k).map (·.2)):=by
  induction r with
  | nil=>exact True.intro
  | @cons p q ps qs h t ih=>
    obtain ⟨h1,_,h2⟩:=h
    by_cases e:p.1=k
    · have e':q.1=k:=h1.symm.trans e
      have b:atKey (q::qs) k=some q.2:=by simp[atKey,List.find?_cons,e']
      rw[lq e,b];exact h2
    · have e':¬ q.1=k:=fun z=>e (h1.trans z)
      have b:atKey (q::qs) k=atKey qs k:=by simp[atKey,List.find?_cons,e']
      rw[lX e,b];exact ih
theorem KT.M8 {H:Hp}{kvs:List (List Key×V)}{xs:List (List Key×Addr×Value)}(r:KT H kvs xs)(k:List Key){y:V}{u:Value}(ry:RelV y u) :
    KT H (kvs.map fun kv=>if kv.1=k then (kv.1,y) else kv) (xs.map (putAt k u)):=by
  induction r with
  | nil=>exact .nil
  | @cons p q ps qs h t ih=>
    rw[List.map_cons,List.map_cons]
    refine .cons ?_ ih
    obtain ⟨h1,h2,h3⟩:=h
    unfold putAt
    by_cases e:p.1=k
    · rw[if_pos e,if_pos (h1.symm.trans e)];exact ⟨h1,h2,ry⟩
    · rw[if_neg e,if_neg (fun z=>e (h1.trans z))];exact ⟨h1,h2,h3⟩
theorem KT.put {H:Hp}{kvs:List (List Key×V)}{xs:List (List Key×Addr×Value)}(r:KT H kvs xs)(k:List Key){b:Addr}{y:V}{u:Value}(hb:H b=some (.tup (k.map kV)))(ry:RelV y u) :
    KT H (putK kvs k y) (storedH xs k b u):=by
  have e:(kvs.any fun kv=>decide (kv.1=k))=(atKey xs k).isSome:=by
    rw[oY,(r.val k).C4,Option.isSome_map]
  unfold putK storedH
  rw[e]
  by_cases q:(atKey xs k).isSome=true
  · rw[if_pos q,if_pos q];exact r.M8 k ry
  · rw[if_neg q,if_neg q];exact Paired.snoc r ⟨rfl,hb,ry⟩
theorem KT.keeps {H H':Hp}{kvs:List (List Key×V)}{xs:List (List Key×Addr×Value)}(r:KT H kvs xs)(ht:∀ b ys,H b=some (.tup ys)→H' b=some (.tup ys)):KT H' kvs xs:=
  Paired.MK r fun _ _ z=>⟨z.1,ht _ _ z.2.1,z.2.2⟩
section
variable {P:Program} {w:World} {H:Hp} {h:Heap} {a:Addr}
theorem LK {u:HO}(ok:HOk P w H h)(e:Rd H a u):dA P w H h a u:=e.ok ok
theorem Fo {kvs:List (Key×V)}(ok:HOk P w H h)(e:Rd H a (.dK kvs)):kvs.length≤sizeLine∧(a == sysModules)=false∧∃ vs,KV kvs vs∧h.DictOf (ck P w) a vs:=
  show dA P w H h a (.dK kvs) from LK ok e
theorem L8 {kvs:List (Key×V)}(ok:HOk P w H h)(e:H a=some (.dK kvs)):kvs.length≤sizeLine∧(a == sysModules)=false∧∃ vs,KV kvs vs∧h.DictOf (ck P w) a vs:=Fo ok (.inl e)
theorem yS {ks:List Key}(ok:HOk P w H h)(e:H a=some (.tup (ks.map kV))):(tupleKind (ck P w)).is h ks a:=by
  obtain ⟨_,its,r,n,h1⟩:=(show dA P w H h a (.tup (ks.map kV)) from ok a _ e)
  exact ⟨_,its.toArray,n,h1,rfl,rfl,by simpa using sN r⟩
theorem GY {kvs:List (List Key×V)}(ok:HOk P w H h)(e:Rd H a (.dT kvs)):kvs.length≤sizeLine∧(a == sysModules)=false∧
    ∃ xs,KT H kvs xs∧h.DictOfH (tupleKind (ck P w)) a xs:=by
  obtain ⟨z,y,xs,r,o,es,ep,h1,h2,h3,h4,h5⟩:=(show dA P w H h a (.dT kvs) from LK ok e)
  refine ⟨z,y,xs,r,o,es,ep,h1,h2,h3,h4,fun x hx=>?_,h5⟩
  have all:∀ {l:List (List Key×V)} {m:List (List Key×Addr×Value)},KT H l m→∀ x∈m,(tupleKind (ck P w)).is h x.1 x.2.1:=by
    intro l m q
    induction q with
    | nil=>intro x hx;exact nomatch hx
    | @cons p q ps qs hq t ih=>
      intro x hx
      rcases List.mem_cons.mp hx with e | hx
      · subst e
        exact yS ok (by rw[← hq.1];exact hq.2.1)
      · exact ih x hx
  exact all r x hx
theorem Qi {kvs:List (List Key×V)}(ok:HOk P w H h)(e:H a=some (.dT kvs)):kvs.length≤sizeLine∧(a == sysModules)=false∧
    ∃ xs,KT H kvs xs∧h.DictOfH (tupleKind (ck P w)) a xs:=GY ok (.inl e)
end
def rT (H:Hp)(a:Addr)(y:V)(r:Option V):Prop:=
  (∃ kvs k,Rd H a (.dK kvs)∧y=kV k∧r=gU kvs k)∨∃ kvs k b,Rd H a (.dT kvs)∧y=.ref b∧H b=some (.tup (k.map kV))∧r=gU kvs k
def uO (H:Hp)(a:Addr)(y v:V)(H':Hp):Prop:=
  (∃ kvs k,H a=some (.dK kvs)∧y=kV k∧kvs.length < sizeLine∧H'=upd H a (.dK (putK kvs k v)))∨
  ∃ kvs k b,H a=some (.dT kvs)∧y=.ref b∧H b=some (.tup (k.map kV))∧kvs.length < sizeLine∧H'=upd H a (.dT (putK kvs k v))
theorem rT.k {H:Hp}{a:Addr}{kvs:List (Key×V)}{k:Key}(e:H a=some (.dK kvs)):rT H a (kV k) (gU kvs k):=.inl ⟨kvs,k,.inl e,rfl,rfl⟩
theorem rT.t {H:Hp}{a b:Addr}{kvs:List (List Key×V)}{k:List Key}(e:H a=some (.dT kvs))(eb:H b=some (.tup (k.map kV))):rT H a (.ref b) (gU kvs k):=.inr ⟨kvs,k,b,.inl e,rfl,eb,rfl⟩
theorem uO.k {H:Hp}{a:Addr}{kvs:List (Key×V)}{k:Key}{v:V}(e:H a=some (.dK kvs))(hl:kvs.length < sizeLine):uO H a (kV k) v (upd H a (.dK (putK kvs k v))):=.inl ⟨kvs,k,e,rfl,hl,rfl⟩
theorem uO.t {H:Hp}{a b:Addr}{kvs:List (List Key×V)}{k:List Key}{v:V}(e:H a=some (.dT kvs))(eb:H b=some (.tup (k.map kV)))(hl:kvs.length < sizeLine) :
    uO H a (.ref b) v (upd H a (.dT (putK kvs k v))):=.inr ⟨kvs,k,b,e,rfl,eb,hl,rfl⟩
section
variable {X:Cx} {pins:List (Addr×Obj)} {σ:St} {H:Hp} {s:Shared} {a:Addr} {y v:V} {u r:Value} {o:Option V} {A:Around} {E:Value→Shared→Prop}
theorem Inv.big (I:Inv X pins σ H s):sysModules < s.heap.objs.size:=by
  have h:mainGlobals < s.heap.objs.size:=(I.mod.glob.keeps I.bk).lt
  exact Nat.lt_trans (by decide) h
theorem sx {Q:Value→Shared→Prop}(hu:A.units+1 < cLine)(I:Inv X pins σ H s)(g:rT H a y (some v))(ry:RelV y u)(h:∀ w' s',Inv X pins σ H s'→RelV v w'→Q w' s') :
    wpAny (model X.prog X.w) A (getItem (.ref a) u) Q E s:=by
  rcases g with ⟨kvs,k,e,ey,l⟩ | ⟨kvs,k,b,e,ey,eb,l⟩
  · subst ey
    obtain ⟨z,hd,vs,rel,dd⟩:=Fo I.hok e
    obtain ⟨w',hw,rw'⟩:=lS.some_of (v:=v) (o:=valueAt vs k) (by rw[l];exact rel.val k)
    exact wpAny_getItem_of (wa ry) dd.mapOf hw (h w' _ (I.tok _) rw')
  · subst ey
    cases (show u=Value.ref b from ry)
    obtain ⟨z,hd,xs,rel,dd⟩:=GY I.hok e
    obtain ⟨w',hw,rw'⟩:=lS.some_of (v:=v) (o:=(atKey xs k).map (·.2)) (by rw[l];exact rel.val k)
    obtain ⟨p,hp,hp2⟩:=Option.map_eq_some_iff.mp hw
    refine wpAny_getItem_heap (tupleKind_room_in1 hu) (yS I.hok eb) dd hp ?_
    rw[hp2]
    exact h w' _ (I.tok _) rw'
theorem ue {h':Heap}{t':Nat}{ob:HO}(I:Inv X pins σ H s)(mu:Mut (H a))(hs:Heap.SameBut a s.heap h')(he:∃ q,h'.get? a=some q)(new:dA X.prog X.w (upd H a ob) h' a ob) :
    Inv X pins σ (upd H a ob) { s with heap:=h',toks:=t' }:=
  I.write (x:=a) (e:=a) mu (.inl rfl) (fun b q hb z=>(hs.2 b hb).trans z) he new
theorem yX {P:Program}{w:World}{H':Hp}{h':Heap}{kvs:List (Key×V)}{vs:List (Key×Value)}(z:kvs.length≤sizeLine)(hd:(a == sysModules)=false)(rel:KV kvs vs)(dd:h'.DictOf (ck P w) a vs) :
    dA P w H' h' a (.dK kvs):=⟨z,hd,vs,rel,dd⟩
theorem r9 {H':Hp}{Q:Unit→Shared→Prop}(hu:A.units+1 < cLine)(I:Inv X pins σ H s)(g:uO H a y v H')(ry:RelV y u)(rv:RelV v r)(h:∀ s',Inv X pins σ H' s'→Q () s') :
    wpAny (model X.prog X.w) A (setItem (.ref a) u r) Q E s:=by
  rcases g with ⟨kvs,k,e,ey,l,eH⟩ | ⟨kvs,k,b,e,ey,eb,l,eH⟩
  · subst ey eH
    obtain ⟨z,hd,vs,rel,dd⟩:=L8 I.hok e
    have hz:vs.length≤sizeLine:=by rw[← rel.length];exact z
    have hl:(putK kvs k v).length≤sizeLine:=by have:=jK kvs k v;omega
    refine wpAny_setItem_pairs (hsz:=hz) (wa ry) dd fun h' dd' hs=>h _ ?_
    have he:∃ q,h'.get? a=some q:=let ⟨q,_,_,hq,_⟩:=dd';⟨q,hq⟩
    exact ue I (by rw[e];exact True.intro) hs he (yX hl hd (rel.put k rv) dd')
  · subst ey eH
    cases (show u=Value.ref b from ry)
    obtain ⟨z,hd,xs,rel,dd⟩:=Qi I.hok e
    have hz:xs.length≤sizeLine:=by rw[← Paired.length rel];exact z
    have hl:(putK kvs k v).length≤sizeLine:=by have:=jK kvs k v;omega
    refine wpAny_setItem_heap (hsz:=hz) (tupleKind_room_in1 hu) (yS I.hok eb) dd fun h' dd' hs=>h _ ?_
    obtain ⟨q,es,ep,hq,h2,h3,h4,_,h5⟩:=dd'
    refine ue I (by rw[e];exact True.intro) hs ⟨q,hq⟩ ⟨hl,hd,_,(rel.put k eb rv).keeps fun c ys ec=>?_,q,es,ep,hq,h2,h3,h4,h5⟩
    rw[aM (Q6 ec e (fun z=>nomatch z))]
    exact ec
end
section
variable {X:Cx} {pins:List (Addr×Obj)} {σ:St} {H:Hp} {s:Shared} {a:Addr} {kvs:List (Key×V)} {k:Key} {u:Value} {A:Around} {E:Value→Shared→Prop}
end
def Pl (i:Expr):Prop:=∀ ov iv,subscripted i false ov iv=operate [ov,iv] (getItem ov iv)
theorem Kc {prog:Program}{w:World}{A:Around}{E:Value→Shared→Prop}{s:Shared}{env:Env}{value slice:Expr}{pos:Pos}{T id:String}{Q:Value→Shared→Prop}
    (hl:typeLookup (.type T) "__getitem__" = pure (some (.builtin id))) (hs:Pl slice)
    (h:wpAny (model prog w) A (eval value env) (fun o s₁=>wpAny (model prog w) A (eval slice env) (fun i s₂=>s₂.TypeIs o T∧wpAny (model prog w) A (getItem o i) Q E s₂) E s₁) E s) :
    wpAny (model prog w) A (eval (.Subscript value slice pos) env) Q E s:=by
  refine Subscript_ (wpAny_mono h (fun o s₁ h₁=>wpAny_mono h₁ (fun i s₂ h₂=>?_) fun _ _ x=>x) fun _ _ x=>x)
  obtain ⟨hT,h₂⟩:=h₂
  unfold subscriptTail
  refine wpAny_bind ?_
  rw[getitemInPython_of_ne hT.not_modules]
  refine wpAny_bind (wpAny_specialOf hT hl ?_)
  have fin:wpAny (model prog w) A (subscripted slice false o i) (fun r s₃=>wpAny (model prog w) A (letTemporaryGo value o r >>= fun _=>pure r) Q E s₃) E s₂:=by
    rw[hs o i]
    exact wpAny_operating (wpAny_mono h₂ (fun r s₃ h₃=>wpAny_bind (wpAny_letTemporaryGo (wpAny_pure h₃))) fun _ _ x=>x)
  first
    | exact wpAny_pure (wpAny_bind fin)
    | exact wpAny_bind (wpAny_pure (wpAny_bind fin))
    | exact wpAny_bind fin
theorem wO {X:Cx}{pins:List (Addr×Obj)}{σ:St}{H:Hp}{s:Shared}{a:Addr}{y:V}{o:Option V}(I:Inv X pins σ H s)(g:rT H a y o):s.TypeIs (.ref a) "dict" := by
  rcases g with ⟨kvs,k,e,_,_⟩ | ⟨kvs,k,b,e,_,_,_⟩
  · obtain ⟨_,_,vs,_,dd⟩:=Fo I.hok e
    exact dd.typeIs
  · obtain ⟨_,_,xs,_,dd⟩:=GY I.hok e
    exact dd.typeIs
def Qh (td ty:TE):TE:=fun σ H Q=>td σ H fun x H1=>ty σ H1 fun y H2=>∃ a v,x=.ref a∧rT H2 a y (some v)∧Q v H2
def Qd (td ty tv:TE):TS:=fun D σ H=>tv σ H fun v H1=>td σ H1 fun x H2=>ty σ H2 fun y H3=>∃ a H4,x=.ref a∧uO H3 a y v H4∧D.nx σ H4
def Mr (td ty tv:TE)(rd:V→V→Hp→VK→Prop):TS:=fun D σ H=>td σ H fun x H1=>ty σ H1 fun y H2=>∃ a v,x=.ref a∧rT H2 a y (some v)∧
  tv σ H2 fun y2 H3=>rd v y2 H3 fun z H4=>∃ H5,uO H4 a y z H5∧D.nx σ H5
section
variable {X:Cx} {o i e value:Expr} {pos pos' tpos:Pos} {td ty tv:TE}
theorem Jr (hu:X.A.units+1 < cLine)(ho:PE X o td)(hi:PE X i ty)(hs:Pl i):PE X (.Subscript o i pos) (Qh td ty):=by
  intro pins s σ H Q I h
  refine Kc PySem.F.slot_dict_getitem.lookup hs (thn (ho pins s σ H _ I h) fun u s1 ⟨x,H1,I1,rx,q1⟩=>thn (hi pins s1 σ H1 _ I1 q1) fun iv s2 ⟨y,H2,I2,ry,a,v,ex,g,q2⟩=>?_)
  subst ex
  obtain rfl:u=Value.ref a:=rx
  exact ⟨wO I2 g,sx hu I2 g ry fun w' s3 I3 rw'=>⟨v,H2,I3,rw',q2⟩⟩
theorem JK (hu:X.A.units+1 < cLine)(ho:PE X o td)(hi:PE X i ty)(hv:PE X value tv)(hs:swapsWith value (some (.Subscript o i pos')) pos.line X.env=pure false) :
    PS X (.Assign [.Subscript o i pos'] value pos) (Qd td ty tv):=by
  intro pins s σ H D I h
  refine wpAny_Assign_Subscript (thn (hv pins s σ H _ I h) fun r s1 ⟨v,H1,I1,rv,q1⟩=>thn (ho pins s1 σ H1 _ I1 q1) fun u s2 ⟨x,H2,I2,rx,q2⟩=>thn (hi pins s2 σ H2 _ I2 q2) fun iv s3 ⟨y,H3,I3,ry,a,H4,ex,g,q3⟩=>?_) hs
  subst ex
  obtain rfl:u=Value.ref a:=rx
  exact r9 hu I3 g ry rv fun s4 I4=>⟨σ,H4,I4,q3⟩
theorem Jx {op:Operator}{rd:V→V→Hp→VK→Prop}(hu:X.A.units+1 < cLine)(ho:PE X o td)(hi:PE X i ty)(hv:PE X value tv)(hop:Ra X op rd)
    (ha:∀ ov iv new,augStore i ov iv new=(do holding [new,ov,iv] (setItem ov iv new);release [new,ov,iv] [];pure .next)):PS X (.AugAssign (.Subscript o i tpos) op value pos) (Mr td ty tv rd):=by
  intro pins s σ H D I h
  refine wpAny_AugAssign_SubscriptAny (thn (ho pins s σ H _ I h) fun u s1 ⟨x,H1,I1,rx,q1⟩=>thn (hi pins s1 σ H1 _ I1 q1) fun iv s2 ⟨y,H2,I2,ry,a,v,ex,g,q2⟩=>?_) ha
  subst ex
  obtain rfl:u=Value.ref a:=rx
  refine sx hu I2 g ry fun w' s3 I3 rw'=>thn (hv pins s3 σ H2 _ I3 q2) fun w2 s4 ⟨y2,H3,I4,ry2,q3⟩=>thn (hop pins s4 σ H3 v y2 w' w2 _ I4 rw' ry2 q3) fun w3 s5 ⟨z,H4,I5,rz,H5,g5,q4⟩=>?_
  exact r9 hu I5 g5 ry rz fun s6 I6=>⟨σ,H5,I6,q4⟩
end
theorem xl {P:Program}{w:World}{H:Hp}(h:Heap)(hb:sysModules < h.objs.size):dA P w H (h.push { cls:=.type "dict", data:=.dict #[] }) h.objs.size (.dK []):=
  ⟨Nat.zero_le _,beq_eq_false_iff_ne.mpr (Ne.symm (Nat.ne_of_lt hb)),[],.nil,Heap.DictOf.new h⟩
def OC:TE:=fun _ H Q=>∀ p,H p=none→Q (.ref p) (upd H p (.dK []))
section
variable {X:Cx} {pos:Pos}
theorem GU:PE X (.Dict [] [] pos) OC:=fun pins s σ H Q I h=>
  wpAny_Dict_empty ⟨.ref s.heap.objs.size,_,I.laid (a:=s.heap.objs.size) (o:=.dK []) (t':=s.toks) (fun _ _ q=>Heap.get?_push_of_some _ q) (Nat.le_refl _) (xl s.heap I.big),rfl,h _ (I.hok.fresh (Nat.le_refl _))⟩
end
def tL:List (TE×TE)→St→Hp→(List (V×V)→Hp→Prop)→Prop
  | [],_,H,Q=>Q [] H
  | (tk,tv)::r,σ,H,Q=>tk σ H fun x H1=>tv σ H1 fun y H2=>tL r σ H2 fun ps H3=>Q ((x,y)::ps) H3
abbrev VV:List (V×V)→List (Value×Value)→Prop:=Paired fun p q=>RelV p.1 q.1∧RelV p.2 q.2
def PPs (X:Cx)(pos:Pos)(keys:List (Option Expr))(values:List Expr)(trs:List (TE×TE)):Prop:=
  ∀ (pins:List (Addr×Obj)) (s:Shared) (σ:St) (H:Hp) (Q:List (V×V)→Hp→Prop),Inv X pins σ H s→tL trs σ H Q→
    wpAny (model X.prog X.w) X.A (evalPairs (pairTrees keys values X.env pos)) (fun vs s'=>∃ ps H',Inv X pins σ H' s'∧VV ps vs∧Q ps H') X.xe s
theorem Jv {X:Cx}{pos:Pos}:PPs X pos [] [] []:=fun pins s σ H Q I h=>pairTrees_nil_walk ⟨[],H,I,.nil,h⟩
theorem FW {X:Cx}{pos:Pos}{k v:Expr}{ks:List (Option Expr)}{vs:List Expr}{tk tv:TE}{trs:List (TE×TE)}(hk:PE X k tk)(hv:PE X v tv)(hr:PPs X pos ks vs trs) :
    PPs X pos (some k::ks) (v::vs) ((tk,tv)::trs):=fun pins s σ H Q I h=>
  pairTrees_cons_walk (thn (hk pins s σ H _ I h) fun u s1 ⟨x,H1,I1,rx,q1⟩=>thn (hv pins s1 σ H1 _ I1 q1) fun w2 s2 ⟨y,H2,I2,ry,q2⟩=>
    thn (hr pins s2 σ H2 _ I2 q2) fun ws s3 ⟨ps,H3,I3,rel,q3⟩=>⟨(x,y)::ps,H3,I3,.cons ⟨rx,ry⟩ rel,q3⟩)
def d7 (kvs more:List (Key×V)):List (Key×V):=more.foldl (fun acc kv=>putK acc kv.1 kv.2) kvs
theorem KV.merge:∀ {more:List (Key×V)} {rs:List (Key×Value)} {kvs:List (Key×V)} {vs:List (Key×Value)},KV more rs→KV kvs vs→KV (d7 kvs more) (merged vs rs):=by
  intro more rs kvs vs r
  unfold KV at r
  induction r generalizing kvs vs with
  | nil=>intro q;exact q
  | @cons p q ps qs h t ih=>
    intro r0
    have e:KV (putK kvs p.1 p.2) (stored vs q.1 q.2):=by
      have:=r0.put p.1 h.2
      rw[← h.1];exact this
    exact ih e
theorem gZ:∀ (more kvs:List (Key×V)),(d7 kvs more).length≤kvs.length+more.length
  | [],kvs=>by show kvs.length≤kvs.length+0;omega
  | p::r,kvs=>by
    have h1:=gZ r (putK kvs p.1 p.2)
    have h2:=jK kvs p.1 p.2
    show (d7 (putK kvs p.1 p.2) r).length≤_
    rw[List.length_cons];omega
theorem oQ {P:Program}{w:World}:∀ {kvs:List (Key×V)} {ws:List (Value×Value)},VV (kvs.map fun kv=>(kV kv.1,kv.2)) ws→∃ rs,Carries (ck P w) ws rs∧KV kvs rs
  | [],_,r=>by rw[List.map_nil] at r;cases r;exact ⟨[],True.intro,.nil⟩
  | p::kvs,_,r=>by
    rw[List.map_cons] at r
    cases r with
    | @cons a b as bs h t=>
      obtain ⟨rs,c,q⟩:=oQ (P:=P) (w:=w) t
      obtain ⟨b1,b2⟩:=b
      exact ⟨(p.1,b2)::rs,⟨wa h.1,rfl,c⟩,.cons ⟨rfl,h.2⟩ q⟩
def QW (trs:List (TE×TE)):TE:=fun σ H Q=>∀ p,H p=none→tL trs σ (upd H p (.dK [])) fun ps H2=>H2 p=some (.dK [])∧∃ kvs:List (Key×V),ps=kvs.map (fun kv=>(kV kv.1,kv.2))∧kvs.length≤15∧Q (.ref p) (upd H2 p (.dK (d7 [] kvs)))
theorem Ke {X:Cx}{pos:Pos}{keys:List (Option Expr)}{values:List Expr}{trs:List (TE×TE)}(h:PPs X pos keys values trs)(hall:keys.all (·.isSome)=true)(hl:keys.length=values.length)(h0:keys≠[])
    (h15:keys.length≤15):PE X (.Dict keys values pos) (QW trs):=by
  intro pins s σ H Q I q
  have hn:=I.hok.fresh (Nat.le_refl s.heap.objs.size)
  have I1:=I.laid (a:=s.heap.objs.size) (o:=.dK []) (h':=s.heap.push { cls:=.type "dict", data:=.dict #[] }) (t':=s.toks) (fun _ _ q=>Heap.get?_push_of_some _ q) (Nat.le_refl _) (xl s.heap I.big)
  refine wpAny_Dict_walk (knd:=ck X.prog X.w) hall hl h0 h15 (thn (h pins _ σ _ _ I1 (q _ hn)) fun ws s2 ⟨ps,H2,I2,rel,e,kvs,ep,lk,q2⟩=>?_)
  subst ep
  obtain ⟨rs,c,rk⟩:=oQ (P:=X.prog) (w:=X.w) rel
  obtain ⟨z,hd,vs0,r0,dd⟩:=L8 I2.hok e
  cases r0
  refine ⟨rs,c,dd,fun h' dd' hs=>⟨.ref s.heap.objs.size,_,?_,rfl,q2⟩⟩
  have hz:(d7 [] kvs).length≤sizeLine:=by
    have h1:=gZ kvs []
    rw[List.length_nil] at h1
    rw[sizeLine_eq];omega
  have he:∃ q,h'.get? s.heap.objs.size=some q:=let ⟨q,_,_,hq,_⟩:=dd';⟨q,hq⟩
  exact ue I2 (by rw[e];exact True.intro) hs he (yX hz hd (rk.merge .nil) dd')
section
variable {X:Cx} {pins:List (Addr×Obj)} {σ:St} {H:Hp} {s:Shared} {a:Addr} {y d:V} {u r:Value} {o:Option V} {A:Around} {E:Value→Shared→Prop}
end
section
variable {X:Cx} {o e f:Expr} {apos cpos:Pos} {td ty tx:TE}
end
section
variable {X:Cx} {pins:List (Addr×Obj)} {σ:St} {H:Hp} {s:Shared} {a:Addr} {kvs:List (Key×V)} {A:Around} {E:Value→Shared→Prop}
end
section
variable {X:Cx} {pins:List (Addr×Obj)} {σ:St} {H:Hp} {s:Shared} {a:Addr} {y:V} {u:Value} {A:Around} {E:Value→Shared→Prop}
end
end L2
namespace L3
open PySem
local macro_rules | `(tactic| walk_at "ln")=>`(tactic| (intro ds μ Q h;split at h;rfl;exact h.elim))
theorem Jn {p q:Prop}(a:p)(b:q):p∧q:=⟨a,b⟩
inductive D where
  | non | bl (b:Bool) | int (i:Int) | str (x:Str) | ty (n:String) | tup (ds:List D) | ls (ds:List D) | obj (a:Addr)
inductive MO where
  | lst (ds:List D)
  | dct (kvs:List (L2.Key×D))
  | dcT (kvs:List (List L2.Key×D))
abbrev Mu:=Addr→Option MO
def up (μ:Mu)(a:Addr)(o:MO):Mu:=fun b=>if b=a then some o else μ b
theorem aH {μ:Mu}{a:Addr}{o:MO}:up μ a o a=some o:=by unfold up;rw[if_pos rfl]
theorem aU {μ:Mu}{a b:Addr}{o:MO}(h:b≠a):up μ a o b=μ b:=by unfold up;rw[if_neg h]
theorem iq {μ:Mu}{a:Addr}{o u:MO}:up (up μ a o) a u=up μ a u:=by
  funext b;unfold up;split<;>rfl
abbrev ST:=List (Option D)
abbrev DK:=D→Mu→Prop
abbrev ETr:=ST→Mu→DK→Prop
abbrev TTr:=ST→Mu→(Bool→Mu→Prop)→Prop
abbrev ATr:=ST→Mu→(List D→Mu→Prop)→Prop
abbrev DR:=D→Mu→DK→Prop
abbrev DR2:=D→D→Mu→DK→Prop
abbrev FSp:=List D→Mu→DK→Prop
structure En where
  nx:ST→Mu→Prop
  rt:DK
  bk:ST→Mu→Prop:=fun _ _=>False
  ct:ST→Mu→Prop:=fun _ _=>False
abbrev STr:=En→ST→Mu→Prop
abbrev GTr:=D→ST→Mu→(ST→Mu→Prop)→Prop
def kIf (c:Bool)(A B:Prop):Prop:=match c with
  | true=>A
  | false=>B
def kB (x:D)(f:Bool→Prop):Prop:=match x with
  | .bl c=>f c
  | _=>False
def kI (x:D)(f:Int→Prop):Prop:=match x with
  | .int c=>f c
  | _=>False
def kO (x:Option D)(f:D→Prop):Prop:=match x with
  | some d=>f d
  | none=>False
def kS (x:D)(f:List D→Prop):Prop:=match x with
  | .tup ds=>f ds
  | .ls ds=>f ds
  | _=>False
def k2 (ds:List D)(f:D→D→Prop):Prop:=match ds with
  | [v,w]=>f v w
  | _=>False
def kL (μ:Mu)(a:Addr)(f:List D→Prop):Prop:=match μ a with
  | some (.lst ds)=>f ds
  | _=>False
def kD (μ:Mu)(a:Addr)(f:List (L2.Key×D)→Prop):Prop:=match μ a with
  | some (.dct ds)=>f ds
  | _=>False
def kN (x:Option Nat)(f:Nat→Prop):Prop:=match x with
  | some d=>f d
  | none=>False
def lk:ST→Nat→Option D
  | [],_=>none
  | o::_,0=>o
  | _::r,n+1=>lk r n
def ah (i:Nat):ETr:=fun ρ μ Q=>kO (lk ρ i) fun d=>Q d μ
def TC (d:D):ETr:=fun _ μ Q=>Q d μ
def aj (r:DR2)(a b:ETr):ETr:=fun ρ μ Q=>a ρ μ fun x μ1=>b ρ μ1 fun y μ2=>r x y μ2 Q
def TUn (r:DR)(a:ETr):ETr:=fun ρ μ Q=>a ρ μ fun x μ1=>r x μ1 Q
def S64 (i:Int):Prop:=-18446744073709551616 < i∧i < 18446744073709551616
def gE (i:Int):Prop:=-115792089237316195423570985008687907853269984665640564039457584007913129639936 < i∧i < 115792089237316195423570985008687907853269984665640564039457584007913129639936
def MulOk (i j:Int):Prop:=(S64 i∨S64 j)∨(gE i∧gE j)
def js (j:Int):Prop:=j≠0∧gE j
def qD (i j:Int):Prop:=0≤j∧j≤1000000∧i.natAbs < 18446744073709551616
def RD:DR2:=fun x y μ Q=>match x,y with
  | .int i,.int j=>Q (.int (i+j)) μ
  | .tup a,.tup b=>(a≠[]∧a.length+b.length≤1000000)∧Q (.tup (a++b)) μ
  | _,_=>False
def kj:DR2:=fun x y μ Q=>match x,y with
  | .int i,.int j=>Q (.int (i - j)) μ
  | _,_=>False
def eO:DR2:=fun x y μ Q=>match x,y with
  | .int i,.int j=>MulOk i j∧Q (.int (i*j)) μ
  | _,_=>False
def l6:DR2:=fun x y μ Q=>match x,y with
  | .int i,.int j=>js j∧Q (.int (i.fdiv j)) μ
  | _,_=>False
def kE:DR2:=fun x y μ Q=>match x,y with
  | .int i,.int j=>j≠0∧Q (.int (i.fmod j)) μ
  | _,_=>False
def CU:DR2:=fun x y μ Q=>match x,y with
  | .int i,.int j=>qD i j∧Q (.int (i ^ j.toNat)) μ
  | _,_=>False
def Jm:DR:=fun x μ Q=>match x with
  | .int i=>Q (.int (-i)) μ
  | _=>False
def D1 (p:Int→Int→Bool):DR2:=fun x y μ Q=>match x,y with
  | .int i,.int j=>Q (.bl (p i j)) μ
  | _,_=>False
def rLt:DR2:=D1 fun i j=>decide (i < j)
def rLe:DR2:=D1 fun i j=>decide (i≤j)
def rGt:DR2:=D1 fun i j=>decide (j < i)
def rGe:DR2:=D1 fun i j=>decide (j≤i)
mutual
def eqD:D→D→Bool
  | .non,.non=>true
  | .bl a,.bl b=>a == b
  | .int a,.int b=>decide (a=b)
  | .bl a,.int b=>decide ((if a then 1 else 0:Int)=b)
  | .int a,.bl b=>decide (a=(if b then 1 else 0:Int))
  | .str a,.str b=>decide (a=b)
  | .tup a,.tup b=>rP a b
  | .ls a,.ls b=>rP a b
  | _,_=>false
def rP:List D→List D→Bool
  | [],[]=>true
  | a::r,b::s=>eqD a b&&rP r s
  | _,_=>false
end
mutual
def okD:Nat→D→Bool
  | _,.non=>true
  | _,.bl _=>true
  | _,.int _=>true
  | _,.str x=>PyData.strOk x
  | n+1,.tup ds=>dB n ds
  | n+1,.ls ds=>dB n ds
  | _,_=>false
def dB:Nat→List D→Bool
  | _,[]=>true
  | n,d::ds=>okD n d&&dB n ds
end
def rEq:DR2:=fun x y μ Q=>(okD 40 x=true∧okD 40 y=true)∧Q (.bl (eqD x y)) μ
def rNe:DR2:=fun x y μ Q=>(okD 40 x=true∧okD 40 y=true)∧Q (.bl (!eqD x y)) μ
def rIs:DR2:=fun x y μ Q=>match y with
  | .non=>(match x with
    | .non=>Q (.bl true) μ
    | _=>Q (.bl false) μ)
  | _=>False
def iU:DR2:=fun x y μ Q=>match y with
  | .non=>(match x with
    | .non=>Q (.bl false) μ
    | _=>Q (.bl true) μ)
  | _=>False
def HB (a b:ETr):ETr:=fun ρ μ Q=>a ρ μ fun x μ1=>kB x fun c=>kIf c (b ρ μ1 Q) (Q (.bl false) μ1)
def zP (a b:ETr):ETr:=fun ρ μ Q=>a ρ μ fun x μ1=>kB x fun c=>kIf c (Q (.bl true) μ1) (b ρ μ1 Q)
def DQ (a:ETr):ETr:=fun ρ μ Q=>a ρ μ fun x μ1=>kB x fun c=>Q (.bl (!c)) μ1
def TB (t:ETr):TTr:=fun ρ μ Q=>t ρ μ fun x μ1=>kB x fun c=>Q c μ1
def pH (t u:TTr):TTr:=fun ρ μ Q=>t ρ μ fun c μ1=>kIf c (u ρ μ1 Q) (Q false μ1)
def TOr (t u:TTr):TTr:=fun ρ μ Q=>t ρ μ fun c μ1=>kIf c (Q true μ1) (u ρ μ1 Q)
def OB (t:TTr):TTr:=fun ρ μ Q=>t ρ μ fun c μ1=>Q (!c) μ1
def lR (c:TTr)(a b:ETr):ETr:=fun ρ μ Q=>c ρ μ fun k μ1=>kIf k (a ρ μ1 Q) (b ρ μ1 Q)
def yq (r r':DR2)(a b c:ETr):ETr:=fun ρ μ Q=>a ρ μ fun x μ1=>b ρ μ1 fun y μ2=>r x y μ2 fun z μ3=>kB z fun k=>kIf k (c ρ μ3 fun y' μ4=>r' y y' μ4 Q) (Q (.bl false) μ3)
def ar:ATr:=fun _ μ Q=>Q [] μ
def af (a:ETr)(r:ATr):ATr:=fun ρ μ Q=>a ρ μ fun x μ1=>r ρ μ1 fun xs μ2=>Q (x::xs) μ2
def bw (t:ATr):ETr:=fun ρ μ Q=>t ρ μ fun ds μ1=>ds.length≤1000000∧Q (.tup ds) μ1
def fX (t:ATr):ETr:=fun ρ μ Q=>t ρ μ fun ds μ1=>ds.length≤1000000∧Q (.ls ds) μ1
def me (t:ATr):ETr:=fun ρ μ Q=>t ρ μ fun ds μ1=>ds.length≤1000000∧∀ p,μ1 p=none→Q (.obj p) (up μ1 p (.lst ds))
def aq (sp:FSp)(t:ATr):ETr:=fun ρ μ Q=>t ρ μ fun ds μ1=>sp ds μ1 Q
def atD (ds:List D)(i:Int):Option D:=L2.atI ds i
def rIx:DR2:=fun x y μ Q=>match x,y with
  | .tup ds,.int i=>kO (atD ds i) fun d=>Q d μ
  | .ls ds,.int i=>kO (atD ds i) fun d=>Q d μ
  | .obj a,.int i=>kL μ a fun ds=>kO (atD ds i) fun d=>Q d μ
  | _,_=>False
def vz:FSp:=fun ds μ Q=>match ds with
  | [.int i]=>Q (.int (if i < 0 then -i else i)) μ
  | _=>False
def tu:FSp:=fun ds μ Q=>match ds with
  | [.int i,.int j]=>Q (.int (if j > i then j else i)) μ
  | _=>False
def sS:FSp:=fun ds μ Q=>match ds with
  | [.int i,.int j]=>Q (.int (if j < i then j else i)) μ
  | _=>False
def zR:FSp:=fun ds μ Q=>match ds with
  | [.int i]=>Q (.int i) μ
  | [.bl k]=>Q (.int (if k then 1 else 0)) μ
  | _=>False
def dZ:FSp:=fun ds μ Q=>match ds with
  | [.tup xs]=>Q (.int xs.length) μ
  | [.ls xs]=>Q (.int xs.length) μ
  | [.str x]=>x.length≤1000000∧Q (.int x.length) μ
  | [.obj a]=>kL μ a fun xs=>Q (.int xs.length) μ
  | _=>False
def tyD:D→Option String
  | .non=>some "NoneType"
  | .bl _=>some "bool"
  | .int _=>some "int"
  | .str _=>some "str"
  | .tup _=>some "tuple"
  | .ls _=>some "list"
  | _=>none
def kW (t c:String):Bool:=t == c || (t == "bool" && c == "int")
def DD (c:String):DR:=fun x μ Q=>match tyD x with
  | some t=>Q (.bl (kW t c)) μ
  | none=>False
def bx:STr:=fun E ρ μ=>E.nx ρ μ
def aB (t u:STr):STr:=fun E ρ μ=>t { E with nx:=u E } ρ μ
def Ah:STr:=fun E ρ μ=>E.bk ρ μ
def GP:STr:=fun E ρ μ=>E.ct ρ μ
def fN (e:ETr):STr:=fun E ρ μ=>e ρ μ fun _ μ1=>E.nx ρ μ1
def aY (e:ETr):STr:=fun E ρ μ=>e ρ μ E.rt
def Fl:STr:=fun E _ μ=>E.rt .non μ
def bY (c:TTr)(t u:STr):STr:=fun E ρ μ=>c ρ μ fun b μ1=>kIf b (t E ρ μ1) (u E ρ μ1)
def aw (i:Nat):GTr:=fun d ρ μ k=>k (ρ.set i (some d)) μ
def aP (e:ETr)(g:GTr):STr:=fun E ρ μ=>e ρ μ fun d μ1=>g d ρ μ1 E.nx
def qh (i j:Nat)(a:ATr):STr:=fun E ρ μ=>a ρ μ fun ds μ1=>k2 ds fun v w=>E.nx ((ρ.set i (some v)).set j (some w)) μ1
def Qs (x z y:D)(μ:Mu)(f:Mu→Prop):Prop:=match x,z with
  | .obj a,.int n=>kL μ a fun ds=>kN (L2.ixN ds.length n) fun j=>f (up μ a (.lst (ds.set j y)))
  | _,_=>False
def AD (o k e:ETr):STr:=fun E ρ μ=>e ρ μ fun y μ1=>o ρ μ1 fun x μ2=>k ρ μ2 fun z μ3=>Qs x z y μ3 fun μ4=>E.nx ρ μ4
def um (c:TTr)(b:STr):STr:=fun E ρ μ=>∃ (P:ST→Mu→Prop) (m:ST→Mu→Nat),P ρ μ∧∀ ρ μ,P ρ μ→
  c ρ μ fun k μ1=>kIf k (b { E with nx:=fun ρ' μ'=>P ρ' μ'∧m ρ' μ' < m ρ μ,ct:=fun ρ' μ'=>P ρ' μ'∧m ρ' μ' < m ρ μ,bk:=E.nx } ρ μ1) (E.nx ρ μ1)
def forR (g:GTr)(b:STr)(E:En):List D→ST→Mu→Prop
  | [],ρ,μ=>E.nx ρ μ
  | d::r,ρ,μ=>g d ρ μ fun ρ1 μ1=>b { E with nx:=forR g b E r,ct:=forR g b E r,bk:=E.nx } ρ1 μ1
def kg (it:ATr)(g:GTr)(b:STr):STr:=fun E ρ μ=>it ρ μ fun ds μ1=>forR g b E ds ρ μ1
def cx (lo:Int)(n:Nat):List D:=(List.range n).map fun i=>.int (lo+(i:Nat))
def gG (a:ETr):ATr:=fun ρ μ Q=>a ρ μ fun x μ1=>kI x fun j=>(-4611686018427387904≤j∧j < 4611686018427387904)∧Q (cx 0 j.toNat) μ1
def eL (a:ETr):ATr:=fun ρ μ Q=>a ρ μ fun x μ1=>kS x fun ds=>Q ds μ1
def dn (μ:Mu)(a:Addr):Mu:=fun b=>if b=a then none else μ b
theorem qt {μ:Mu}{a:Addr}{o:MO}(h:μ a=none):dn (up μ a o) a=μ:=by
  funext b
  unfold dn up
  by_cases hb:b=a
  · subst hb;simp[h]
  · simp[hb]
def fu (ρ:ST)(n:Nat)(caps:List Nat):ST:=List.replicate n none++caps.map (lk ρ)
def fM (p:Addr)(G:GTr)(tt:TTr)(te:ETr)(ρc:ST)(K:Mu→Prop):List D→Mu→Prop
  | [],μ=>K μ
  | d::r,μ=>G d ρc μ fun ρ1 μ1=>tt ρ1 μ1 fun b μ2=>kIf b (te ρ1 μ2 fun y μ3=>kL μ3 p fun zs=>zs.length < 1000000∧fM p G tt te ρc K r (up μ3 p (.lst (zs++[y])))) (fM p G tt te ρc K r μ2)
def bW (it:ATr)(G:GTr)(tt:TTr)(te:ETr)(n:Nat)(caps:List Nat):ETr:=fun ρ μ Q=>it ρ μ fun ds μ1=>∀ p,μ1 p=none→
  fM p G tt te (fu ρ n caps) (fun μ'=>kL μ' p fun zs=>Q (.ls zs) (dn μ' p)) ds (up μ1 p (.lst []))
def fo:TTr:=fun _ μ Q=>Q true μ
def MD:FSp:=fun ds μ Q=>match ds with
  | [.ls xs]=>∃ bs:List Bool,xs=bs.map .bl∧Q (.bl (bs.all id)) μ
  | _=>False
theorem cX {g:GTr}{b:STr}{E:En}(P:List D→ST→Mu→Prop)(hnil:∀ ρ μ,P [] ρ μ→E.nx ρ μ)
    (hcons:∀ d r ρ μ (N:ST→Mu→Prop),P (d::r) ρ μ→(∀ ρ' μ',P r ρ' μ'→N ρ' μ')→g d ρ μ fun ρ1 μ1=>b { E with nx:=N,ct:=N,bk:=E.nx } ρ1 μ1) :
    ∀ (ds:List D) (ρ:ST) (μ:Mu),P ds ρ μ→forR g b E ds ρ μ
  | [],ρ,μ,h=>hnil ρ μ h
  | d::r,ρ,μ,h=>hcons d r ρ μ _ h fun ρ' μ' q=>cX P hnil hcons r ρ' μ' q
section
open PySem PySem.Spec PyProof.Rows L2
def SqF (K:PySem.W.Frag)(H:Hp)(a:Addr)(xs:List V):Prop:=
  (∃ o,H a=some (.frz o (.lst xs)))∨
    ∃ (o:Obj) (its:Array Value) (n:Nat),K.lookup a=some o∧o.cls=.type "list" ∧ o.dict=none∧o.data=.seq its n∧its.size≤sizeLine∧Vals xs its.toList
theorem SqF.sq {K:PySem.W.Frag}{H:Hp}{a:Addr}{xs:List V}(h:SqF K H a xs):SqL K H a xs:=by
  rcases h with h | h
  · exact .inl (.inr h)
  · exact .inr h
mutual
inductive Dp (K:PySem.W.Frag) (H:Hp):V→D→Prop
  | non:Dp K H .non .non
  | bl (b:Bool):Dp K H (.bl b) (.bl b)
  | int (n:Int):Dp K H (.int n) (.int n)
  | str (z:Str):Dp K H (.str z) (.str z)
  | ty (n:String):Dp K H (.ty n) (.ty n)
  | tup {a:Addr} {xs:List V} {ds:List D}:SqT K H a xs→DpL K H xs ds→Dp K H (.ref a) (.tup ds)
  | ls {a:Addr} {xs:List V} {ds:List D}:SqF K H a xs→DpL K H xs ds→Dp K H (.ref a) (.ls ds)
  | obj (a:Addr):Dp K H (.ref a) (.obj a)
inductive DpL (K:PySem.W.Frag) (H:Hp):List V→List D→Prop
  | nil:DpL K H [] []
  | cons {v:V} {d:D} {vs:List V} {ds:List D}:Dp K H v d→DpL K H vs ds→DpL K H (v::vs) (d::ds)
end
structure Tk (H H':Hp):Prop where
  tup:∀ a xs,H a=some (.tup xs)→H' a=some (.tup xs)
  frz:∀ a o u,H a=some (.frz o u)→H' a=some (.frz o u)
theorem Tk.refl (H:Hp):Tk H H:=⟨fun _ _ h=>h,fun _ _ _ h=>h⟩
theorem Tk.trans {H H1 H2:Hp}(a:Tk H H1)(b:Tk H1 H2):Tk H H2:=⟨fun c xs h=>b.tup c xs (a.tup c xs h),fun c o u h=>b.frz c o u (a.frz c o u h)⟩
theorem Tk.upd {H:Hp}{a:Addr}{o:HO}(h1:∀ xs,H a≠some (.tup xs))(h2:∀ o u,H a≠some (.frz o u)):Tk H (L2.upd H a o):=
  ⟨fun b xs h=>by rw[aM (fun z=>by subst z;exact h1 _ h)];exact h,fun b o u h=>by rw[aM (fun z=>by subst z;exact h2 _ _ h)];exact h⟩
theorem Tk.new {H:Hp}{a:Addr}{o:HO}(h:H a=none):Tk H (L2.upd H a o):=.upd (fun _ e=>by rw[h] at e;cases e) fun _ _ e=>by rw[h] at e;cases e
theorem Tk.sqT {K:PySem.W.Frag}{H H':Hp}{a:Addr}{xs:List V}(t:Tk H H')(h:SqT K H a xs):SqT K H' a xs:=by
  rcases h with (h | ⟨o,h⟩) | h
  · exact .inl (.inl (t.tup _ _ h))
  · exact .inl (.inr ⟨o,t.frz _ _ _ h⟩)
  · exact .inr h
theorem Tk.sqF {K:PySem.W.Frag}{H H':Hp}{a:Addr}{xs:List V}(t:Tk H H')(h:SqF K H a xs):SqF K H' a xs:=by
  rcases h with ⟨o,h⟩ | h
  · exact .inl ⟨o,t.frz _ _ _ h⟩
  · exact .inr h
mutual
theorem Dp.mono {K:PySem.W.Frag}{H H':Hp}(t:Tk H H'):∀ {v:V} {d:D},Dp K H v d→Dp K H' v d
  | _,_,.non=>.non
  | _,_,.bl b=>.bl b
  | _,_,.int i=>.int i
  | _,_,.str x=>.str x
  | _,_,.ty n=>.ty n
  | _,_,.tup h l=>.tup (t.sqT h) (DpL.mono t l)
  | _,_,.ls h l=>.ls (t.sqF h) (DpL.mono t l)
  | _,_,.obj a=>.obj a
theorem DpL.mono {K:PySem.W.Frag}{H H':Hp}(t:Tk H H'):∀ {vs:List V} {ds:List D},DpL K H vs ds→DpL K H' vs ds
  | _,_,.nil=>.nil
  | _,_,.cons h l=>.cons (Dp.mono t h) (DpL.mono t l)
end
theorem DpL.length {K:PySem.W.Frag}{H:Hp}:∀ {vs:List V} {ds:List D},DpL K H vs ds→vs.length=ds.length
  | _,_,.nil=>rfl
  | _,_,.cons _ l=>by rw[List.length_cons,List.length_cons,DpL.length l]
theorem DpL.get {K:PySem.W.Frag}{H:Hp}:∀ {vs:List V} {ds:List D} {i:Nat} {d:D},DpL K H vs ds→ds[i]? = some d→∃ v,vs[i]? = some v∧Dp K H v d
  | _,_,_,_,.nil,e=>by simp at e
  | _,_,0,_,.cons h _,e=>by simp at e;subst e;exact ⟨_,rfl,h⟩
  | _,_,i+1,d,.cons _ l,e=>by
    obtain ⟨v,e1,h⟩:=DpL.get (i:=i) (d:=d) l (by simpa using e)
    exact ⟨v,by simpa using e1,h⟩
theorem DpL.get' {K:PySem.W.Frag}{H:Hp}:∀ {vs:List V} {ds:List D} {i:Nat} {v:V},DpL K H vs ds→vs[i]? = some v→∃ d,ds[i]? = some d∧Dp K H v d
  | _,_,_,_,.nil,e=>by simp at e
  | _,_,0,_,.cons h _,e=>by simp at e;subst e;exact ⟨_,rfl,h⟩
  | _,_,i+1,d,.cons _ l,e=>by
    obtain ⟨v,e1,h⟩:=DpL.get' (i:=i) (v:=d) l (by simpa using e)
    exact ⟨v,by simpa using e1,h⟩
theorem DpL.set {K:PySem.W.Frag}{H:Hp}{v:V}{d:D}(h:Dp K H v d):∀ {vs:List V} {ds:List D} (i:Nat),DpL K H vs ds→DpL K H (vs.set i v) (ds.set i d)
  | _,_,_,.nil=>.nil
  | _,_,0,.cons _ l=>.cons h l
  | _,_,i+1,.cons q l=>.cons q (DpL.set h i l)
theorem DpL.append {K:PySem.W.Frag}{H:Hp}:∀ {vs ws:List V} {ds es:List D},DpL K H vs ds→DpL K H ws es→DpL K H (vs++ws) (ds++es)
  | _,_,_,_,.nil,s=>s
  | _,_,_,_,.cons h l,s=>.cons h (DpL.append l s)
theorem DpL.at {K:PySem.W.Frag}{H:Hp}{vs:List V}{ds:List D}{i:Int}{d:D}(l:DpL K H vs ds)(e:atD ds i=some d):∃ v,atI vs i=some v∧Dp K H v d:=by
  unfold atD atI at e
  unfold atI
  rw[l.length]
  cases q:ixN ds.length i with
  | none=>rw[q] at e;cases e
  | some j=>
    rw[q] at e
    exact l.get e
def DpK {κ:Type}(K:PySem.W.Frag)(H:Hp)(xs:List (κ×V))(kvs:List (κ×D)):Prop:=xs.map (·.1)=kvs.map (·.1)∧DpL K H (xs.map (·.2)) (kvs.map (·.2))
theorem DpK.mono {κ:Type}{K:PySem.W.Frag}{H H':Hp}(t:Tk H H'){xs:List (κ×V)}{kvs:List (κ×D)}(h:DpK K H xs kvs):DpK K H' xs kvs:=⟨h.1,h.2.mono t⟩
def AB (K:PySem.W.Frag)(H:Hp)(a:Addr):MO→Prop
  | .lst ds=>∃ xs,H a=some (.lst xs)∧DpL K H xs ds
  | .dct kvs=>∃ xs,H a=some (.dK xs)∧DpK K H xs kvs
  | .dcT kvs=>∃ xs,H a=some (.dT xs)∧DpK K H xs kvs
theorem AB.go {K:PySem.W.Frag}{H H':Hp}{a:Addr}{o:MO}(h:AB K H a o)(t:Tk H H')(k:∀ u,H a=some u→H' a=some u):AB K H' a o:=by
  cases o<;>(obtain ⟨xs,z,l⟩:=h;exact ⟨xs,k _ z,l.mono t⟩)
theorem AB.ne {K:PySem.W.Frag}{H:Hp}{a q:Addr}{o:MO}{u:HO}(h:AB K H a o)(t:Tk H (L2.upd H q u))(k:a≠q):AB K (L2.upd H q u) a o:=h.go t fun _ e=>by rw[aM k];exact e
def bL (K:PySem.W.Frag)(H:Hp)(μ:Mu):Prop:=∀ a o,μ a=some o→AB K H a o
theorem bL.free {K:PySem.W.Frag}{H:Hp}{μ:Mu}(h:bL K H μ){a:Addr}(e:H a=none):μ a=none:=by
  cases q:μ a with
  | none=>rfl
  | some o=>
    cases o<;>(obtain ⟨xs,z,_⟩:=h a _ q;rw[e] at z;cases z)
theorem bL.keep {K:PySem.W.Frag}{H H':Hp}{μ:Mu}(h:bL K H μ)(t:Tk H H')(k:∀ a u,μ a≠none→H a=some u→H' a=some u):bL K H' μ:=fun a o e=>by
  exact (h a _ e).go t fun u z=>k a u (by rw[e];simp) z
def Sub (μ μ':Mu):Prop:=∀ a o,μ a=some o→μ' a=some o
theorem Sub.refl (μ:Mu):Sub μ μ:=fun _ _ h=>h
theorem Sub.new {μ:Mu}{p:Addr}{o:MO}(h:μ p=none):Sub μ (up μ p o):=fun a u e=>by
  rw[aU (fun z=>by subst z;rw[h] at e;cases e)];exact e
theorem Sub.trans {μ μ1 μ2:Mu}(a:Sub μ μ1)(b:Sub μ1 μ2):Sub μ μ2:=fun c o h=>b c o (a c o h)
theorem bL.sub {K:PySem.W.Frag}{H:Hp}{μ μ':Mu}(h:bL K H μ')(s:Sub μ μ'):bL K H μ:=fun a o e=>h a o (s a o e)
structure Rl (K:PySem.W.Frag) (σ:L2.St) (H:Hp) (ρ:ST) (μ:Mu):Prop where
  len:ρ.length=σ.length
  loc:∀ i d,lk ρ i=some d→∃ v,σ[i]? = some (some v)∧Dp K H v d
  mu:bL K H μ
theorem Rl.go {K:PySem.W.Frag}{σ:L2.St}{H H':Hp}{ρ:ST}{μ μ':Mu}(r:Rl K σ H ρ μ)(t:Tk H H')(m:bL K H' μ'):Rl K σ H' ρ μ':=
  ⟨r.len,fun i d e=>let ⟨v,h1,h2⟩:=r.loc i d e;⟨v,h1,h2.mono t⟩,m⟩
theorem D5:∀ (ρ:ST) (i j:Nat) (d:D),lk (ρ.set i (some d)) j=if i=j∧i < ρ.length then some d else lk ρ j
  | [],i,j,d=>by simp[lk]
  | o::r,0,0,d=>by simp[lk]
  | o::r,0,j+1,d=>by simp[lk]
  | o::r,i+1,0,d=>by simp[lk]
  | o::r,i+1,j+1,d=>by
    show lk (r.set i (some d)) j=_
    rw[D5 r i j d]
    simp[lk]
theorem Rl.set {K:PySem.W.Frag}{σ:L2.St}{H:Hp}{ρ:ST}{μ:Mu}(r:Rl K σ H ρ μ){v:V}{d:D}(h:Dp K H v d)(i:Nat):Rl K (σ.set i (some v)) H (ρ.set i (some d)) μ:=by
  refine ⟨by simp[r.len],fun j e q=>?_,r.mu⟩
  rw[D5] at q
  split at q
  · rename_i hc
    obtain ⟨rfl,hlt⟩:=hc
    cases q
    exact ⟨v,by rw[List.getElem?_set_self (by rw[← r.len];exact hlt)],h⟩
  · rename_i hc
    obtain ⟨u,h1,h2⟩:=r.loc j e q
    by_cases hij:i=j
    · subst hij
      have:¬ i < ρ.length:=fun z=>hc ⟨rfl,z⟩
      have hn:σ[i]? = none:=List.getElem?_eq_none_iff.mpr (by rw[← r.len];omega)
      rw[hn] at h1;cases h1
    · exact ⟨u,by rw[List.getElem?_set_ne hij];exact h1,h2⟩
abbrev jq (K:PySem.W.Frag)(H:Hp)(Q:DK)(Q':VK):Prop:=∀ v H' d μ',Tk H H'→bL K H' μ'→Dp K H' v d→Q d μ'→Q' v H'
def Sim (K:PySem.W.Frag)(t:TE)(T:ETr):Prop:=∀ σ H ρ μ (Q:DK) (Q':VK),Rl K σ H ρ μ→T ρ μ Q→jq K H Q Q'→t σ H Q'
def La (K:PySem.W.Frag)(t:TT)(T:TTr):Prop:=∀ σ H ρ μ (Q:Bool→Mu→Prop) (Q':Bool→Hp→Prop),Rl K σ H ρ μ→T ρ μ Q→(∀ b H' μ',Tk H H'→bL K H' μ'→Q b μ'→Q' b H')→t σ H Q'
def PM (K:PySem.W.Frag)(t:TA)(T:ATr):Prop:=∀ σ H ρ μ (Q:List D→Mu→Prop) (Q':List V→Hp→Prop),Rl K σ H ρ μ→T ρ μ Q→(∀ vs H' ds μ',Tk H H'→bL K H' μ'→DpL K H' vs ds→Q ds μ'→Q' vs H')→t σ H Q'
abbrev xj (K:PySem.W.Frag)(H:Hp)(N:ST→Mu→Prop)(N':L2.St→Hp→Prop):Prop:=∀ σ' H' ρ' μ',Tk H H'→Rl K σ' H' ρ' μ'→N ρ' μ'→N' σ' H'
structure E4 (K:PySem.W.Frag) (H:Hp) (E:En) (E':Ends):Prop where
  nx:xj K H E.nx E'.nx
  rt:jq K H E.rt E'.rt
  bk:xj K H E.bk E'.bk
  ct:xj K H E.ct E'.ct
theorem E4.go {K:PySem.W.Frag}{H H1:Hp}{E:En}{E':Ends}(e:E4 K H E E')(t:Tk H H1):E4 K H1 E E':=
  ⟨fun _ _ _ _ t'=>e.nx _ _ _ _ (t.trans t'),fun _ _ _ _ t'=>e.rt _ _ _ _ (t.trans t'),fun _ _ _ _ t'=>e.bk _ _ _ _ (t.trans t'),fun _ _ _ _ t'=>e.ct _ _ _ _ (t.trans t')⟩
def F0 (K:PySem.W.Frag)(t:TS)(T:STr):Prop:=∀ σ H ρ μ (E:En) (E':Ends),Rl K σ H ρ μ→T E ρ μ→E4 K H E E'→t E' σ H
def Nz (K:PySem.W.Frag)(g:TG)(G:GTr):Prop:=∀ σ H ρ μ v d (k:ST→Mu→Prop) (k':L2.St→Hp→Prop),Rl K σ H ρ μ→Dp K H v d→G d ρ μ k→xj K H k k'→g v σ H k'
structure LE (X:Cx) (e:Expr) (T:ETr):Prop where
  ex:∃ t,PE X e t∧Sim X.K t T
structure LT (X:Cx) (e:Expr) (T:TTr):Prop where
  ex:∃ t,PT X e t∧La X.K t T
structure LW (X:Cx) (e:Expr) (T:TTr):Prop where
  ex:∃ t,PW X e t∧La X.K t T
structure LA (X:Cx) (es:List Expr) (T:ATr):Prop where
  ex:∃ t,PA X es t∧PM X.K t T
structure LS (X:Cx) (st:Stmt) (T:STr):Prop where
  ex:∃ t,PS X st t∧F0 X.K t T
structure LSs (X:Cx) (sts:List Stmt) (T:STr):Prop where
  ex:∃ t,PSs X sts t∧F0 X.K t T
structure LG (X:Cx) (tg:Expr) (G:GTr):Prop where
  ex:∃ g,PG X tg g∧Nz X.K g G
section
variable {X:Cx} {a b c e:Expr} {Ta Tb Tc:ETr} {pos:Pos}
theorem ae (i:Nat){x:Str}(hN:X.N[i]? = some x:=by rfl)(hv:Vis X.env.scope x:=by first | exact Or.inl rfl | exact Or.inr (Or.inl rfl) | exact Or.inr (Or.inr rfl))(hd:(x == ("__debug__" : Str))=false:=by decide)
    (hcd:(x == ("__classdict__" : Str))=false:=by decide):LE X (.Name x pos) (ah i):=
  ⟨_,ET hN hv hd hcd,fun σ H ρ μ Q Q' r h k=>by
    have h:kO (lk ρ i) fun d=>Q d μ:=h
    cases q:lk ρ i with
    | none=>rw[q] at h;exact False.elim h
    | some d=>
      rw[q] at h
      have h:Q d μ:=h
      obtain ⟨v,e1,p⟩:=r.loc i d q
      exact ⟨v,e1,k v H d μ (.refl H) r.mu p h⟩⟩
theorem le_int {i:Int}{j}:LE X (.Constant (.int i) j pos) (TC (.int i)):=⟨_,Px,fun σ H ρ μ Q Q' r h k=>k _ H _ μ (.refl H) r.mu (.int i) h⟩
theorem Bi {b:Bool}{j}:LE X (.Constant (.bool b) j pos) (TC (.bl b)):=⟨_,Py,fun σ H ρ μ Q Q' r h k=>k _ H _ μ (.refl H) r.mu (.bl b) h⟩
theorem cL {j}:LE X (.Constant .none j pos) (TC .non):=⟨_,Nq,fun σ H ρ μ Q Q' r h k=>k _ H _ μ (.refl H) r.mu .non h⟩
theorem le_str {x:Str}{j}:LE X (.Constant (.str x) j pos) (TC (.str x)):=⟨_,HY,fun σ H ρ μ Q Q' r h k=>k _ H _ μ (.refl H) r.mu (.str x) h⟩
def gM (K:PySem.W.Frag)(r:R2)(R:DR2):Prop:=∀ H μ x y dx dy (Q:DK) (Q':VK),bL K H μ→Dp K H x dx→Dp K H y dy→R dx dy μ Q→jq K H Q Q'→r x y H Q'
def Q3 (K:PySem.W.Frag)(r:V→Hp→VK→Prop)(R:DR):Prop:=∀ H μ x dx (Q:DK) (Q':VK),bL K H μ→Dp K H x dx→R dx μ Q→jq K H Q Q'→r x H Q'
theorem jq.go {K:PySem.W.Frag}{H H1:Hp}{Q:DK}{Q':VK}(k:jq K H Q Q')(t:Tk H H1):jq K H1 Q Q':=fun v H' d μ' t'=>k v H' d μ' (t.trans t')
theorem oI {K:PySem.W.Frag}{r:R2}{R:DR2}{ta tb:TE}(hr:gM K r R)(ha:Sim K ta Ta)(hb:Sim K tb Tb):Sim K (tOp r ta tb) (aj R Ta Tb):=fun σ H ρ μ Q Q' rl h k=>
  ha σ H ρ μ _ _ rl h fun x H1 dx μ1 t1 m1 p1 h1=>hb σ H1 ρ μ1 _ _ (rl.go t1 m1) h1 fun y H2 dy μ2 t2 m2 p2 h2=>hr H2 μ2 x y dx dy Q Q' m2 (p1.mono t2) p2 h2 (k.go (t1.trans t2))
theorem p7 {op:Operator}{r:R2}{R:DR2}(ho:OpR X (binaryOp op) r)(hr:gM X.K r R)(ha:LE X a Ta)(hb:LE X b Tb):LE X (.BinOp a op b pos) (aj R Ta Tb):=by
  obtain ⟨ta,pa,sa⟩:=ha.ex
  obtain ⟨tb,pb,sb⟩:=hb.ex
  exact ⟨_,L0 ho pa pb,oI hr sa sb⟩
theorem lA {op:CmpOp}{r:R2}{R:DR2}(ho:OpR X (compareOp op) r)(hr:gM X.K r R)(ha:LE X a Ta)(hb:LE X b Tb)(hm:behindInMarks op b=false):LE X (.Compare a [op] [b] pos) (aj R Ta Tb):=by
  obtain ⟨ta,pa,sa⟩:=ha.ex
  obtain ⟨tb,pb,sb⟩:=hb.ex
  exact ⟨_,Kr ho pa pb hm,oI hr sa sb⟩
theorem N6 {K:PySem.W.Frag}{t:TE}{T:ETr}(h:Sim K t T):La K (Mc t) (TB T):=fun σ H ρ μ Q Q' rl hh k=>
  h σ H ρ μ _ _ rl hh fun v H' d μ' t' m' p' h'=>by
    cases p' with
    | bl c=>exact ⟨c,rfl,k c H' μ' t' m' h'⟩
    | _=>exact False.elim h'
theorem NL {K:PySem.W.Frag}{t:TE}{T:ETr}(h:Sim K t T):La K (tB t) (TB T):=fun σ H ρ μ Q Q' rl hh k=>
  h σ H ρ μ _ _ rl hh fun v H' d μ' t' m' p' h'=>by
    cases p' with
    | bl c=>exact ⟨c,rfl,k c H' μ' t' m' h'⟩
    | _=>exact False.elim h'
theorem gc {op:CmpOp}{r:R2}{R:DR2}(ho:OpR X (compareOp op) r)(hr:gM X.K r R)(ha:LE X a Ta)(hb:LE X b Tb)(hm:behindInMarks op b=false):LT X (.Compare a [op] [b] pos) (TB (aj R Ta Tb)):=by
  obtain ⟨ta,pa,sa⟩:=ha.ex
  obtain ⟨tb,pb,sb⟩:=hb.ex
  exact ⟨_,KW ho pa pb hm,N6 (oI hr sa sb)⟩
theorem OpR.or {f:Value→Value→Sem Value}{r r':R2}(h:OpR X f r)(h':OpR X f r'):OpR X f (fun x y H Q=>r x y H Q∨r' x y H Q):=fun pins s σ H x y v u Q I rx ry q=>by
  rcases q with q | q
  · exact h pins s σ H x y v u Q I rx ry q
  · exact h' pins s σ H x y v u Q I rx ry q
theorem uU {K:PySem.W.Frag}{C:Int→Int→Prop}{g:Int→Int→V}{R:DR2}(f:Int→Int→D)(hg:∀ H i j,Dp K H (g i j) (f i j))(hR:∀ i j μ Q,R (.int i) (.int j) μ Q→C i j∧Q (f i j) μ)
    (hn:∀ dx dy μ Q,R dx dy μ Q→(∃ i,dx=.int i)∧∃ j,dy=.int j):gM K (rI C g) R:=fun H μ x y dx dy Q Q' m px py h k=>by
  obtain ⟨⟨i,rfl⟩,j,rfl⟩:=hn _ _ _ _ h
  cases px;cases py
  obtain ⟨h1,h2⟩:=hR _ _ _ _ h
  exact ⟨i,j,rfl,rfl,h1,k _ H _ μ (.refl H) m (hg H i j) h2⟩
theorem Bv {K:PySem.W.Frag}{g:Int→Int→V}{R:DR2}(f:Int→Int→D)(hg:∀ H i j,Dp K H (g i j) (f i j))(hR:∀ i j μ Q,R (.int i) (.int j) μ Q→Q (f i j) μ)
    (hn:∀ dx dy μ Q,R dx dy μ Q→(∃ i,dx=.int i)∧∃ j,dy=.int j):gM K (rI0 g) R:=fun H μ x y dx dy Q Q' m px py h k=>by
  obtain ⟨⟨i,rfl⟩,j,rfl⟩:=hn _ _ _ _ h
  cases px;cases py
  exact ⟨i,j,rfl,rfl,k _ H _ μ (.refl H) m (hg H i j) (hR _ _ _ _ h)⟩
theorem fL (ha:LE X a Ta)(hb:LE X b Tb):LE X (.BinOp a .Sub b pos) (aj kj Ta Tb):=p7 Nf (Bv (fun i j=>.int (i - j)) (fun _ _ _=>.int _) (fun _ _ _ _ h=>h) (fun dx dy μ Q h=>by cases dx<;>cases dy<;>first | exact ⟨⟨_,rfl⟩,_,rfl⟩ | exact False.elim h)) ha hb
theorem gE.abs {j:Int}(h:gE j):j.natAbs < 2 ^ 256:=by
  have e:(2:Nat) ^ 256=115792089237316195423570985008687907853269984665640564039457584007913129639936:=by decide +kernel
  rw[e]
  obtain ⟨h1,h2⟩:=h
  omega
theorem MulOk.ok {i j:Int}(h:MulOk i j):IntMulOk i j:=by
  rcases h with (⟨h1,h2⟩ | ⟨h1,h2⟩) | ⟨h1,h2⟩
  · exact .of_left (intBits_le_64 h1 h2)
  · exact .of_right (intBits_le_64 h1 h2)
  · exact .of_le (PyProof.Rows.intBits_le h1.abs) (PyProof.Rows.intBits_le h2.abs) (by decide)
theorem Lb:OpR X (binaryOp .Mult) (rI MulOk fun i j=>.int (i*j)):=opI fun _ _ _ _ _ _ _ hc q=>mul_int q hc.ok
theorem js.np {i j:Int}(h:js j):Builtin.divisionGoesByPylong i j=false:=by
  refine PyProof.noPylong_of_log2 ?_
  have h0:j.natAbs≠0:=by have:=h.1;omega
  have:=(Nat.log2_lt h0).mpr h.2.abs
  omega
theorem Ll:OpR X (binaryOp .FloorDiv) (rI (fun _ j=>js j) fun i j=>.int (i.fdiv j)):=opI fun _ _ _ _ _ _ _ hc q=>floordiv_int hc.1 q (.inl hc.np)
theorem jk (ha:LE X a Ta)(hb:LE X b Tb):LE X (.BinOp a .FloorDiv b pos) (aj l6 Ta Tb):=p7 Ll (uU (fun i j=>.int (i.fdiv j)) (fun _ _ _=>.int _) (fun _ _ _ _ h=>⟨h.1,h.2⟩) (fun dx dy μ Q h=>by cases dx<;>cases dy<;>first | exact ⟨⟨_,rfl⟩,_,rfl⟩ | exact False.elim h)) ha hb
theorem le_mul (ha:LE X a Ta)(hb:LE X b Tb):LE X (.BinOp a .Mult b pos) (aj eO Ta Tb):=p7 Lb (uU (fun i j=>.int (i*j)) (fun _ _ _=>.int _) (fun _ _ _ _ h=>⟨h.1,h.2⟩) (fun dx dy μ Q h=>by cases dx<;>cases dy<;>first | exact ⟨⟨_,rfl⟩,_,rfl⟩ | exact False.elim h)) ha hb
theorem gY (ha:LE X a Ta)(hb:LE X b Tb):LE X (.BinOp a .Mod b pos) (aj kE Ta Tb):=p7 Kl (uU (fun i j=>.int (i.fmod j)) (fun _ _ _=>.int _) (fun _ _ _ _ h=>⟨h.1,h.2⟩) (fun dx dy μ Q h=>by cases dx<;>cases dy<;>first | exact ⟨⟨_,rfl⟩,_,rfl⟩ | exact False.elim h)) ha hb
theorem le_pow (ha:LE X a Ta)(hb:LE X b Tb):LE X (.BinOp a .Pow b pos) (aj CU Ta Tb):=p7 MQ (uU (fun i j=>.int (i ^ j.toNat)) (fun _ _ _=>.int _) (fun _ _ _ _ h=>⟨h.1,h.2⟩) (fun dx dy μ Q h=>by cases dx<;>cases dy<;>first | exact ⟨⟨_,rfl⟩,_,rfl⟩ | exact False.elim h)) ha hb
theorem jW {K:PySem.W.Frag}(p:Int→Int→Bool):gM K (rI0 fun i j=>.bl (p i j)) (D1 p):=Bv (fun i j=>.bl (p i j)) (fun _ _ _=>.bl _) (fun _ _ _ _ h=>h) (fun dx dy μ Q h=>by cases dx<;>cases dy<;>first | exact ⟨⟨_,rfl⟩,_,rfl⟩ | exact False.elim h)
theorem QU (ha:LE X a Ta)(hb:LE X b Tb):LE X (.Compare a [.Lt] [b] pos) (aj rLt Ta Tb):=lA Mb (jW _) ha hb (fz _)
theorem QN (ha:LE X a Ta)(hb:LE X b Tb):LE X (.Compare a [.LtE] [b] pos) (aj rLe Ta Tb):=lA RH (jW _) ha hb (fz _)
theorem Qa (ha:LE X a Ta)(hb:LE X b Tb):LE X (.Compare a [.GtE] [b] pos) (aj rGe Ta Tb):=lA LY (jW _) ha hb (fz _)
theorem jJ (ha:LE X a Ta)(hb:LE X b Tb):LT X (.Compare a [.Lt] [b] pos) (TB (aj rLt Ta Tb)):=gc Mb (jW _) ha hb (fz _)
theorem lY (ha:LE X a Ta)(hb:LE X b Tb):LT X (.Compare a [.Gt] [b] pos) (TB (aj rGt Ta Tb)):=gc Ro (jW _) ha hb (fz _)
theorem Gm (ha:LE X a Ta)(hb:LE X b Tb):LT X (.Compare a [.GtE] [b] pos) (TB (aj rGe Ta Tb)):=gc LY (jW _) ha hb (fz _)
theorem Qr {op:UnaryOp}{r:V→Hp→VK→Prop}{R:DR}(ho:UnR X (unaryOp op) r)(hr:Q3 X.K r R)(ha:LE X a Ta):LE X (.UnaryOp op a pos) (TUn R Ta):=by
  obtain ⟨ta,pa,sa⟩:=ha.ex
  exact ⟨_,Qz ho pa,fun σ H ρ μ Q Q' rl h k=>sa σ H ρ μ _ _ rl h fun x H1 dx μ1 t1 m1 p1 h1=>hr H1 μ1 x dx Q Q' m1 p1 h1 (k.go t1)⟩
theorem Ao (ha:LE X a Ta)(he:∀ whole,isTrue a X.env whole=(do let v ← whole;standAt a.pos;holding [v] (truthy v)):=by intro _;rfl):LT X a (TB Ta):=by
  obtain ⟨ta,pa,sa⟩:=ha.ex
  exact ⟨_,Pg pa he,NL sa⟩
variable {tA tB' tC':TTr} {rest:List Expr}
theorem LW.lt (h:LW X a tA):LT X a tA:=by
  obtain ⟨ta,pa,sa⟩:=h.ex
  exact ⟨_,pa.pt,sa⟩
theorem oB (ha:LT X a tA):LW X (.BoolOp .And [a] pos) tA:=by
  obtain ⟨ta,pa,sa⟩:=ha.ex
  exact ⟨_,pw_and1 pa,sa⟩
theorem l7 (ha:LT X a tA):LW X (.BoolOp .Or [a] pos) tA:=by
  obtain ⟨ta,pa,sa⟩:=ha.ex
  exact ⟨_,pw_or1 pa,sa⟩
theorem uA (ha:LT X a tA)(hb:LW X (.BoolOp .And (b::rest) pos) tB'):LW X (.BoolOp .And (a::b::rest) pos) (pH tA tB'):=by
  obtain ⟨ta,pa,sa⟩:=ha.ex
  obtain ⟨tb,pb,sb⟩:=hb.ex
  refine ⟨_,pw_and pa pb,fun σ H ρ μ Q Q' rl h k=>sa σ H ρ μ _ _ rl h fun c H1 μ1 t1 m1 h1=>?_⟩
  cases c with
  | true=>exact ri (sb σ H1 ρ μ1 Q Q' (rl.go t1 m1) h1 fun b H2 μ2 t2=>k b H2 μ2 (t1.trans t2))
  | false=>exact rn (k false H1 μ1 t1 m1 h1)
theorem nr (ha:LT X a tA)(hb:LW X (.BoolOp .Or (b::rest) pos) tB'):LW X (.BoolOp .Or (a::b::rest) pos) (TOr tA tB'):=by
  obtain ⟨ta,pa,sa⟩:=ha.ex
  obtain ⟨tb,pb,sb⟩:=hb.ex
  refine ⟨_,pw_or pa pb,fun σ H ρ μ Q Q' rl h k=>sa σ H ρ μ _ _ rl h fun c H1 μ1 t1 m1 h1=>?_⟩
  cases c with
  | true=>exact ri (k true H1 μ1 t1 m1 h1)
  | false=>exact rn (sb σ H1 ρ μ1 Q Q' (rl.go t1 m1) h1 fun b H2 μ2 t2=>k b H2 μ2 (t1.trans t2))
theorem Ih {op}(h:LE X a Ta):LE X (.BoolOp op [a] pos) Ta:=by
  obtain ⟨ta,pa,sa⟩:=h.ex
  exact ⟨_,Nt pa,sa⟩
theorem Mp (ha:LE X a Ta)(hb:LE X (.BoolOp .Or (b::rest) pos) Tb):LE X (.BoolOp .Or (a::b::rest) pos) (zP Ta Tb):=by
  obtain ⟨ta,pa,sa⟩:=ha.ex
  obtain ⟨tb,pb,sb⟩:=hb.ex
  refine ⟨_,Rf pa pb,fun σ H ρ μ Q Q' rl h k=>sa σ H ρ μ _ _ rl h fun x H1 dx μ1 t1 m1 p1 h1=>?_⟩
  cases p1 with
  | bl c=>
    refine ⟨c,rfl,?_⟩
    cases c with
    | true=>exact ri (k _ H1 _ μ1 t1 m1 (.bl _) h1)
    | false=>exact rn (sb σ H1 ρ μ1 Q Q' (rl.go t1 m1) h1 (k.go t1))
  | _=>exact False.elim h1
theorem iV (hc:LT X c tC')(ha:LE X a Ta)(hb:LE X b Tb):LE X (.IfExp c a b pos) (lR tC' Ta Tb):=by
  obtain ⟨tc,pc,sc⟩:=hc.ex
  obtain ⟨ta,pa,sa⟩:=ha.ex
  obtain ⟨tb,pb,sb⟩:=hb.ex
  refine ⟨_,FC pc pa pb,fun σ H ρ μ Q Q' rl h k=>sc σ H ρ μ _ _ rl h fun q H1 μ1 t1 m1 h1=>?_⟩
  cases q with
  | true=>exact ri (sa σ H1 ρ μ1 Q Q' (rl.go t1 m1) h1 (k.go t1))
  | false=>exact rn (sb σ H1 ρ μ1 Q Q' (rl.go t1 m1) h1 (k.go t1))
variable {es:List Expr} {At:ATr}
theorem ai:LA X [] ar:=⟨_,jl,fun σ H ρ μ Q Q' rl h k=>k [] H [] μ (.refl H) rl.mu .nil h⟩
theorem aa (ha:LE X e Ta)(hr:LA X es At)(hs:starEach (e::es) X.env=(false,eval e X.env)::starEach es X.env:=by rfl):LA X (e::es) (af Ta At):=by
  obtain ⟨ta,pa,sa⟩:=ha.ex
  obtain ⟨tr,pr,sr⟩:=hr.ex
  exact ⟨_,fS pa pr hs,fun σ H ρ μ Q Q' rl h k=>sa σ H ρ μ _ _ rl h fun x H1 dx μ1 t1 m1 p1 h1=>sr σ H1 ρ μ1 _ _ (rl.go t1 m1) h1 fun xs H2 ds μ2 t2 m2 p2 h2=>k _ H2 _ μ2 (t1.trans t2) m2 (.cons (p1.mono t2) p2) h2⟩
theorem c7 {K:PySem.W.Frag}{H:Hp}{μ:Mu}{p:Addr}{o:HO}(m:bL K H μ)(hp:H p=none):bL K (L2.upd H p o) μ:=m.keep (.new hp) fun a' xs' _ e=>by rw[aM (ba e hp)];exact e
theorem big {n:Nat}(h:n≤1000000):n≤sizeLine:=Nat.le_trans h (by decide)
theorem aT {x1}(h:LA X es At):LE X (.Tuple es x1 pos) (bw At):=by
  obtain ⟨ta,pa,sa⟩:=h.ex
  refine ⟨_,MS pa,fun σ H ρ μ Q Q' rl h k=>sa σ H ρ μ _ _ rl h fun xs H1 ds μ1 t1 m1 p1 h1=>⟨by rw[p1.length];exact big h1.1,fun p hp=>?_⟩⟩
  exact k _ _ _ μ1 (t1.trans (.new hp)) (c7 m1 hp) (.tup (SqT.of aL) (p1.mono (.new hp))) h1.2
theorem jL (h:LA X es At):LE X (.List es pos) (me At):=by
  obtain ⟨ta,pa,sa⟩:=h.ex
  refine ⟨_,GF pa,fun σ H ρ μ Q Q' rl h k=>sa σ H ρ μ _ _ rl h fun xs H1 ds μ1 t1 m1 p1 h1=>⟨by rw[p1.length];exact big h1.1,fun p hp=>?_⟩⟩
  refine k _ _ _ (up μ1 p (.lst ds)) (t1.trans (.new hp)) (fun a o e=>?_) (.obj p) (h1.2 p (m1.free hp))
  by_cases ha:a=p
  · subst ha
    rw[aH] at e;cases e
    exact ⟨xs,aL,p1.mono (.new hp)⟩
  · rw[aU ha] at e
    exact c7 m1 hp a o e
def CW (t:TE):TE:=fun σ H Q=>t σ H fun v H1=>∃ a xs,v=.ref a∧H1 a=some (.lst xs)∧∀ o,Q v (L2.upd H1 a (.frz o (.lst xs)))
theorem jI {t:TE}(h:PE X e t):PE X e (CW t):=by
  intro pins s σ H Q I hh
  refine thn (h pins s σ H _ I hh) fun u s1 ⟨v,H1,I1,r,a,xs,ev,ea,q⟩=>?_
  obtain ⟨z,its,n,rv,hg⟩:=(show dA X.prog X.w H1 s1.heap a (.lst xs) from I1.hok a _ ea)
  have nl:∀ b o,H1 b=some o→(∀ ys,o≠.lst ys)→b≠a:=fun b o e1 e2 z=>by subst z;rw[ea] at e1;cases e1;exact e2 _ rfl
  refine ⟨v,_,I1.un (h':=s1.heap) (t':=s1.toks) (H':=L2.upd H1 a (.frz { cls:=.type "list", data:=.seq its.toArray n } (.lst xs))) ⟨fun b o e _ _ _=>e,fun b o e _ _ _=>⟨o.slots,e⟩,fun b o e n _=>?_,fun b o e _=>⟨o,e⟩,fun b ys e=>?_,fun b o u e=>?_,fun b ps e=>⟨#[],?_⟩⟩ (fun b u e=>?_),r,q _⟩
  · rw[aM (fun z=>by subst z;rw[ea] at n;cases n)];exact n
  · rw[aM (nl b _ e (fun _=>nofun))];exact e
  · rw[aM (nl b _ e (fun _=>nofun))];exact e
  · rw[aM (nl b _ e (fun _=>nofun)),e];simp
  · by_cases hb:b=a
    · subst hb
      rw[aL] at e;cases e
      exact ⟨hg,z,its,n,rv,hg⟩
    · rw[aM hb] at e
      refine (I1.hok b u e).ly (fun c w _ q=>q) (fun c q=>?_) fun c ys q=>?_
      · rw[aM (nl c _ q (fun _=>nofun))];exact q
      · rw[aM (nl c _ q (fun _=>nofun))];exact q
theorem eu (h:LA X es At):LE X (.List es pos) (fX At):=by
  obtain ⟨ta,pa,sa⟩:=h.ex
  refine ⟨_,jI (GF pa),fun σ H ρ μ Q Q' rl h k=>sa σ H ρ μ _ _ rl h fun xs H1 ds μ1 t1 m1 p1 h1=>⟨by rw[p1.length];exact big h1.1,fun p hp=>⟨p,xs,rfl,aL,fun o=>?_⟩⟩⟩
  have e:L2.upd (L2.upd H1 p (.lst xs)) p (.frz o (.lst xs))=L2.upd H1 p (.frz o (.lst xs)):=u6
  rw[e]
  exact k _ _ _ μ1 (t1.trans (.new hp)) (c7 m1 hp) (.ls (.inl ⟨o,aL⟩) (p1.mono (.new hp))) h1.2
end
end
section
open PySem PySem.Spec PyProof.Rows L2
mutual
def toP:D→PyData
  | .non=>.none
  | .bl b=>.bool b
  | .int i=>.int i
  | .str x=>.str x
  | .tup ds=>.tuple (lO ds)
  | .ls ds=>.list (lO ds)
  | .ty _=>.none
  | .obj _=>.none
def lO:List D→List PyData
  | []=>[]
  | d::r=>toP d::lO r
end
mutual
theorem iD:∀ (n:Nat) (d:D),okD n d=true→(toP d).canLay0=true∧(toP d).depth≤n
  | n,.non,_=>⟨rfl,Nat.zero_le _⟩
  | n,.bl b,_=>⟨rfl,Nat.zero_le _⟩
  | n,.int i,_=>⟨rfl,Nat.zero_le _⟩
  | n,.str x,h=>⟨by cases n<;>exact h,Nat.zero_le _⟩
  | n+1,.tup ds,h=>by
    obtain ⟨h1,h2⟩:=pV n ds h
    exact ⟨h1,Nat.succ_le_succ h2⟩
  | n+1,.ls ds,h=>by
    obtain ⟨h1,h2⟩:=pV n ds h
    exact ⟨h1,Nat.succ_le_succ h2⟩
  | 0,.tup ds,h=>by cases h
  | 0,.ls ds,h=>by cases h
  | n,.ty _,h=>by cases n<;>cases h
  | n,.obj _,h=>by cases n<;>cases h
theorem pV:∀ (n:Nat) (ds:List D),dB n ds=true→PyData.canLayAll0 (lO ds)=true∧PyData.depthAll (lO ds)≤n
  | n,[],_=>⟨rfl,Nat.zero_le _⟩
  | n,d::r,h=>by
    have h':okD n d=true∧dB n r=true:=by simpa[dB] using h
    obtain ⟨a1,a2⟩:=iD n d h'.1
    obtain ⟨b1,b2⟩:=pV n r h'.2
    refine ⟨?_,?_⟩
    · show (PyData.canLay0 (toP d)&&PyData.canLayAll0 (lO r))=true
      rw[a1,b1];rfl
    · show max (PyData.depth (toP d)) (PyData.depthAll (lO r))≤n
      exact Nat.max_le.mpr ⟨a2,b2⟩
end
theorem str_beq (a b:Str):(a == b)=decide (a=b):=by
  by_cases h:a=b
  · subst h;simp
  · rw[decide_eq_false h];exact beq_eq_false_iff_ne.mpr h
mutual
theorem om:∀ (n m:Nat) (a b:D),okD n a=true→okD m b=true→PyData.eqv (toP a) (toP b)=eqD a b
  | n,m,.non,b,_,hb=>by cases b<;>first | rfl | (cases m<;>cases hb)
  | n,m,.bl x,b,_,hb=>by
    cases b with
    | int y=>simp only[toP,PyData.eqv,eqD];rw[Bool.beq_eq_decide_eq]
    | ty _=>cases m<;>cases hb
    | obj _=>cases m<;>cases hb
    | _=>rfl
  | n,m,.int x,b,_,hb=>by
    cases b with
    | int y=>simp only[toP,PyData.eqv,eqD];rw[Bool.beq_eq_decide_eq]
    | bl y=>simp only[toP,PyData.eqv,eqD];rw[Bool.beq_eq_decide_eq]
    | ty _=>cases m<;>cases hb
    | obj _=>cases m<;>cases hb
    | _=>rfl
  | n,m,.str x,b,_,hb=>by
    cases b with
    | str y=>simp only[toP,PyData.eqv,eqD];exact str_beq x y
    | ty _=>cases m<;>cases hb
    | obj _=>cases m<;>cases hb
    | _=>rfl
  | n+1,m,.tup xs,b,ha,hb=>by
    cases b with
    | tup ys=>
      cases m with
      | zero=>cases hb
      | succ m=>simp only[toP,PyData.eqv,eqD];exact oR n m xs ys ha hb
    | ty _=>cases m<;>cases hb
    | obj _=>cases m<;>cases hb
    | _=>rfl
  | n+1,m,.ls xs,b,ha,hb=>by
    cases b with
    | ls ys=>
      cases m with
      | zero=>cases hb
      | succ m=>simp only[toP,PyData.eqv,eqD];exact oR n m xs ys ha hb
    | ty _=>cases m<;>cases hb
    | obj _=>cases m<;>cases hb
    | _=>rfl
  | 0,_,.tup ds,_,h,_=>by cases h
  | 0,_,.ls ds,_,h,_=>by cases h
  | n,_,.ty _,_,h,_=>by cases n<;>cases h
  | n,_,.obj _,_,h,_=>by cases n<;>cases h
theorem oR:∀ (n m:Nat) (a b:List D),dB n a=true→dB m b=true→PyData.eqvAll (lO a) (lO b)=rP a b
  | _,_,[],[],_,_=>rfl
  | _,_,[],_::_,_,_=>by simp[lO,PyData.eqvAll,rP]
  | _,_,_::_,[],_,_=>by simp[lO,PyData.eqvAll,rP]
  | n,m,a::r,b::s,ha,hb=>by
    have ha':okD n a=true∧dB n r=true:=by simpa[dB] using ha
    have hb':okD m b=true∧dB m s=true:=by simpa[dB] using hb
    show (PyData.eqv (toP a) (toP b)&&PyData.eqvAll (lO r) (lO s))=(eqD a b&&rP r s)
    rw[om n m a b ha'.1 hb'.1,oR n m r s ha'.2 hb'.2]
end
section
variable {X:Cx} {pins:List (Addr×Obj)} {σ:L2.St} {H:Hp} {s:Shared}
mutual
theorem fF (I:Inv X pins σ H s):∀ {n:Nat} {v:V} {d:D} {u:Value},Dp X.K H v d→okD n d=true→RelV v u→∃ as,Reads s.heap u (toP d) as
  | n,_,_,u,.non,_,r=>by cases (show u=Value.none from r);exact ⟨_,.none⟩
  | n,_,_,u,.bl b,_,r=>by cases (show u=Value.bool b from r);exact ⟨_,.bool b⟩
  | n,_,_,u,.int i,_,r=>by obtain ⟨t,e⟩:=(show ∃ t,u=Value.int i t from r);subst e;exact ⟨_,.int i t⟩
  | n,_,_,u,.str x,_,r=>by obtain ⟨t,e⟩:=(show ∃ t,u=Value.str x t from r);subst e;exact ⟨_,.str x t⟩
  | n,_,_,u,.ty _,h,_=>by cases n<;>cases h
  | n+1,_,_,u,@Dp.tup _ _ a xs ds q l,h,r=>by
    cases (show u=Value.ref a from r)
    obtain ⟨its,rv,⟨o,e1,e2,k,e3⟩,_⟩:=I.tuple q
    obtain ⟨as,ra⟩:=jz I (n:=n) l h rv
    exact ⟨_,.tuple e1 e2 e3 (by simpa using ra)⟩
  | n+1,_,_,u,@Dp.ls _ _ a xs ds q l,h,r=>by
    cases (show u=Value.ref a from r)
    obtain ⟨its,rv,⟨o,k,e1,e2,_,e3⟩,_⟩:=I.list q.sq
    obtain ⟨as,ra⟩:=jz I (n:=n) l h rv
    exact ⟨_,.list e1 e2 e3 (by simpa using ra)⟩
  | 0,_,_,u,@Dp.tup _ _ a xs ds q l,h,r=>by cases h
  | 0,_,_,u,@Dp.ls _ _ a xs ds q l,h,r=>by cases h
  | n,_,_,u,.obj _,h,_=>by cases n<;>cases h
theorem jz (I:Inv X pins σ H s):∀ {n:Nat} {vs:List V} {ds:List D} {us:List Value},DpL X.K H vs ds→dB n ds=true→Vals vs us→∃ as,ReadsAll s.heap us (lO ds) as
  | n,_,_,_,.nil,_,.nil=>⟨_,.nil⟩
  | n,_,_,_,@DpL.cons _ _ v d vs ds h l,ho,.cons r rs=>by
    have ho':okD n d=true∧dB n ds=true:=by simpa[dB] using ho
    obtain ⟨as,ra⟩:=fF I h ho'.1 r
    obtain ⟨bs,rb⟩:=jz I l ho'.2 rs
    exact ⟨_,.cons ra rb⟩
end
end
def Jd (K:PySem.W.Frag)(f:Bool→Bool):R2:=fun x y H Q=>∃ dx dy,Dp K H x dx∧Dp K H y dy∧okD 40 dx=true∧okD 40 dy=true∧Q (.bl (f (eqD dx dy))) H
section
variable {X:Cx} {a b c e:Expr} {Ta Tb Tc:ETr} {pos:Pos}
theorem DX (hu:X.A.units+64 < cLine):OpR X (compareOp .Eq) (Jd X.K id):=fun pins s σ H x y v u Q I rx ry ⟨dx,dy,px,py,ox,oy,q⟩=>by
  obtain ⟨as,ra⟩:=fF I px ox rx
  obtain ⟨bs,rb⟩:=fF I py oy ry
  obtain ⟨l1,d1⟩:=iD 40 dx ox
  obtain ⟨l2,d2⟩:=iD 40 dy oy
  exact SeqAt.compareEq_reads ra rb l1 l2 (by have:=Nat.min_le_left (toP dx).depth (toP dy).depth;omega) ⟨.bl _,H,I,rfl,by rw[om 40 40 dx dy ox oy];exact q⟩
theorem O4 (hu:X.A.units+64 < cLine):OpR X (compareOp .NotEq) (Jd X.K not):=fun pins s σ H x y v u Q I rx ry ⟨dx,dy,px,py,ox,oy,q⟩=>by
  obtain ⟨as,ra⟩:=fF I px ox rx
  obtain ⟨bs,rb⟩:=fF I py oy ry
  obtain ⟨l1,d1⟩:=iD 40 dx ox
  obtain ⟨l2,d2⟩:=iD 40 dy oy
  exact SeqAt.compareNe_reads ra rb l1 l2 (by have:=Nat.min_le_left (toP dx).depth (toP dy).depth;omega) ⟨.bl _,H,I,rfl,by rw[om 40 40 dx dy ox oy];exact q⟩
theorem EJ {K:PySem.W.Frag}:gM K (Jd K id) rEq:=fun H μ x y dx dy Q Q' m px py h k=>⟨dx,dy,px,py,h.1.1,h.1.2,k _ H _ μ (.refl H) m (.bl _) h.2⟩
theorem Oq {K:PySem.W.Frag}:gM K (Jd K not) rNe:=fun H μ x y dx dy Q Q' m px py h k=>⟨dx,dy,px,py,h.1.1,h.1.2,k _ H _ μ (.refl H) m (.bl _) h.2⟩
theorem le_eq (hu:X.A.units+64 < cLine)(ha:LE X a Ta)(hb:LE X b Tb):LE X (.Compare a [.Eq] [b] pos) (aj rEq Ta Tb):=lA (DX hu) EJ ha hb (fz _)
theorem lt_eq (hu:X.A.units+64 < cLine)(ha:LE X a Ta)(hb:LE X b Tb):LT X (.Compare a [.Eq] [b] pos) (TB (aj rEq Ta Tb)):=gc (DX hu) EJ ha hb (fz _)
theorem vE (hu:X.A.units+64 < cLine)(ha:LE X a Ta)(hb:LE X b Tb):LT X (.Compare a [.NotEq] [b] pos) (TB (aj rNe Ta Tb)):=gc (O4 hu) Oq ha hb (fz _)
theorem Hk {K:PySem.W.Frag}:gM K (fun x y H Q=>y=.non∧Q (.bl (decide (x=.non))) H) rIs:=fun H μ x y dx dy Q Q' m px py h k=>by
  cases py with
  | non=>
    refine ⟨rfl,?_⟩
    cases px with
    | non=>exact k _ H _ μ (.refl H) m (.bl _) h
    | _=>exact k _ H _ μ (.refl H) m (.bl _) h
  | _=>exact False.elim h
theorem DJ {K:PySem.W.Frag}:gM K (fun x y H Q=>y=.non∧Q (.bl (!decide (x=.non))) H) iU:=fun H μ x y dx dy Q Q' m px py h k=>by
  cases py with
  | non=>
    refine ⟨rfl,?_⟩
    cases px with
    | non=>exact k _ H _ μ (.refl H) m (.bl _) h
    | _=>exact k _ H _ μ (.refl H) m (.bl _) h
  | _=>exact False.elim h
theorem QD (ha:LE X a Ta)(hb:LE X b Tb):LE X (.Compare a [.Is] [b] pos) (aj rIs Ta Tb):=lA GK Hk ha hb (fz _)
theorem nF (ha:LE X a Ta)(hb:LE X b Tb):LT X (.Compare a [.Is] [b] pos) (TB (aj rIs Ta Tb)):=gc GK Hk ha hb (fz _)
theorem xm (ha:LE X a Ta)(hb:LE X b Tb):LT X (.Compare a [.IsNot] [b] pos) (TB (aj iU Ta Tb)):=gc Jo DJ ha hb (fz _)
theorem Jz {K:PySem.W.Frag}:Q3 K (rU fun i=>.int (-i)) Jm:=fun H μ x dx Q Q' m px h k=>by
  cases px with
  | int i=>exact ⟨i,rfl,k _ H _ μ (.refl H) m (.int _) h⟩
  | _=>exact False.elim h
theorem le_neg (ha:LE X a Ta):LE X (.UnaryOp .USub a pos) (TUn Jm Ta):=Qr Ox Jz ha
theorem kT {o:Option D}{f:D→Prop}(h:kO o f):∃ d,o=some d∧f d:=by
  cases o with
  | none=>exact False.elim h
  | some d=>exact ⟨d,rfl,h⟩
theorem bP {μ:Mu}{a:Addr}{f:List D→Prop}(h:kL μ a f):∃ ds,μ a=some (.lst ds)∧f ds:=by
  unfold kL at h
  cases e:μ a with
  | none=>rw[e] at h;exact False.elim h
  | some o=>cases o with
    | lst ds=>rw[e] at h;exact ⟨ds,rfl,h⟩
    | _=>rw[e] at h;exact False.elim h
theorem pS {μ:Mu}{a:Addr}{f:List (Key×D)→Prop}(h:kD μ a f):∃ ds,μ a=some (.dct ds)∧f ds:=by
  unfold kD at h
  cases e:μ a with
  | none=>rw[e] at h;exact False.elim h
  | some o=>cases o with
    | dct ds=>rw[e] at h;exact ⟨ds,rfl,h⟩
    | _=>rw[e] at h;exact False.elim h
theorem GC {o:Option Nat}{f:Nat→Prop}(h:kN o f):∃ d,o=some d∧f d:=by
  cases o with
  | none=>exact False.elim h
  | some d=>exact ⟨d,rfl,h⟩
theorem Nw {K:PySem.W.Frag}:gM K (L2.rIx K) L3.rIx:=fun H μ x y dx dy Q Q' m px py h k=>by
  cases px with
  | @tup a xs ds q l=>
    cases py with
    | int i=>
      obtain ⟨d,e,h'⟩:=kT h
      obtain ⟨v,e1,p⟩:=l.at e
      exact .inr (.inl ⟨a,xs,i,v,rfl,rfl,q,e1,k _ H _ μ (.refl H) m p h'⟩)
    | _=>exact False.elim h
  | @ls a xs ds q l=>
    cases py with
    | int i=>
      obtain ⟨d,e,h'⟩:=kT h
      obtain ⟨v,e1,p⟩:=l.at e
      exact .inl ⟨a,xs,i,v,rfl,rfl,q.sq,e1,k _ H _ μ (.refl H) m p h'⟩
    | _=>exact False.elim h
  | obj a=>
    cases py with
    | int i=>
      obtain ⟨ds,e0,h1⟩:=bP h
      obtain ⟨d,e,h'⟩:=kT h1
      obtain ⟨xs,ex,l⟩:=m a _ e0
      obtain ⟨v,e1,p⟩:=l.at e
      exact .inl ⟨a,xs,i,v,rfl,rfl,SqL.of ex,e1,k _ H _ μ (.refl H) m p h'⟩
    | _=>exact False.elim h
  | _=>cases py<;>exact False.elim h
theorem au (ha:LE X a Ta)(hb:LE X b Tb)(hs:Bg b:=by intro _ _;rfl):LE X (.Subscript a b pos) (aj L3.rIx Ta Tb):=by
  obtain ⟨ta,pa,sa⟩:=ha.ex
  obtain ⟨tb,pb,sb⟩:=hb.ex
  exact ⟨_,RI Ou pa pb hs,oI Nw sa sb⟩
variable {es:List Expr} {At:ATr} {x:Str} {p:Pos} {id T:String}
def kX (K:PySem.W.Frag)(r:List V→Hp→VK→Prop)(R:FSp):Prop:=∀ H μ xs ds (Q:DK) (Q':VK),bL K H μ→DpL K H xs ds→R ds μ Q→jq K H Q Q'→r xs H Q'
theorem sE {K:PySem.W.Frag}{r:List V→Hp→VK→Prop}{R:FSp}{ta:TA}(hr:kX K r R)(ha:PM K ta At):Sim K (tCB r ta) (aq R At):=fun σ H ρ μ Q Q' rl h k=>
  ha σ H ρ μ _ _ rl h fun xs H1 ds μ1 t1 m1 p1 h1=>hr H1 μ1 xs ds Q Q' m1 p1 h1 (k.go t1)
theorem aZ {r:List V→Hp→VK→Prop}{R:FSp}(hc:cH X (.builtin id) r)(hr:kX X.K r R)(hg:Gl X x)(hm:X.mg x=none)(hv:bootBuiltins x=some (.builtin id))(ha:LA X (e::es) At)(hn:x ≠ "__name__" := by decide)(hdb:(x == ("__debug__" : Str))=false:=by decide)
    (h1:starEach (e::es) X.env=(false,eval e X.env)::starEach es X.env:=by rfl) (h2:(backTo pos (starEach es X.env)).any (·.1)=false:=by rfl):LE X (.Call (.Name x p) (e::es) [] pos) (aq R At):=by
  obtain ⟨ta,pa,sa⟩:=ha.ex
  exact ⟨_,pO hc hg hm hv pa hn hdb h1 h2,sE hr sa⟩
theorem aX {r:List V→Hp→VK→Prop}{R:FSp}(hc:cH X (.type T) r)(hr:kX X.K r R)(hg:Gl X x)(hm:X.mg x=none)(hv:bootBuiltins x=some (.type T))(ha:LA X (e::es) At)(hn:x ≠ "__name__" := by decide)(hdb:(x == ("__debug__" : Str))=false:=by decide)
    (h1:starEach (e::es) X.env=(false,eval e X.env)::starEach es X.env:=by rfl) (h2:(backTo pos (starEach es X.env)).any (·.1)=false:=by rfl):LE X (.Call (.Name x p) (e::es) [] pos) (aq R At):=by
  obtain ⟨ta,pa,sa⟩:=ha.ex
  exact ⟨_,sM hc hg hm hv pa hn hdb h1 h2,sE hr sa⟩
theorem tM {K:PySem.W.Frag}:kX K (fun xs H Q=>∃ i,xs=[.int i]∧Q (.int (if i < 0 then -i else i)) H) vz:=fun H μ xs ds Q Q' m p h k=>by
  unfold vz at h
  split at h
  · cases p with | cons p1 p2=>cases p2;cases p1;exact ⟨_,rfl,k _ H _ μ (.refl H) m (.int _) h⟩
  · exact False.elim h
theorem vD {K:PySem.W.Frag}:kX K (fun xs H Q=>∃ i j,xs=[.int i,.int j]∧Q (.int (if j > i then j else i)) H) tu:=fun H μ xs ds Q Q' m p h k=>by
  unfold tu at h
  split at h
  · cases p with | cons p1 p2=>cases p2 with | cons p2 p3=>cases p3;cases p1;cases p2;exact ⟨_,_,rfl,k _ H _ μ (.refl H) m (.int _) h⟩
  · exact False.elim h
theorem Gv {K:PySem.W.Frag}:kX K (fun xs H Q=>∃ i j,xs=[.int i,.int j]∧Q (.int (if j < i then j else i)) H) sS:=fun H μ xs ds Q Q' m p h k=>by
  unfold sS at h
  split at h
  · cases p with | cons p1 p2=>cases p2 with | cons p2 p3=>cases p3;cases p1;cases p2;exact ⟨_,_,rfl,k _ H _ μ (.refl H) m (.int _) h⟩
  · exact False.elim h
theorem K1 {K:PySem.W.Frag}:kX K (fun xs H Q=>(∃ i,xs=[.int i]∧Q (.int i) H)∨∃ k,xs=[.bl k]∧Q (.int (if k then 1 else 0)) H) zR:=fun H μ xs ds Q Q' m p h k=>by
  unfold zR at h
  split at h
  · cases p with | cons p1 p2=>cases p2;cases p1;exact .inl ⟨_,rfl,k _ H _ μ (.refl H) m (.int _) h⟩
  · cases p with | cons p1 p2=>cases p2;cases p1;exact .inr ⟨_,rfl,k _ H _ μ (.refl H) m (.int _) h⟩
  · exact False.elim h
theorem cH.or {f:Value}{r r':List V→Hp→VK→Prop}(h:cH X f r)(h':cH X f r'):cH X f (fun xs H Q=>r xs H Q∨r' xs H Q):=fun pins s σ H xs us Q I rx q=>by
  rcases q with q | q
  · exact h pins s σ H xs us Q I rx q
  · exact h' pins s σ H xs us Q I rx q
theorem bQ {K:PySem.W.Frag}:kX K (fun xs H Q=>(∃ p ys,xs=[.ref p]∧(SqL K H p ys∨SqT K H p ys)∧Q (.int ys.length) H)∨∃ z,xs=[.str z]∧z.length≤sizeLine∧Q (.int z.length) H) dZ:=fun H μ xs ds Q Q' m p h k=>by
  unfold dZ at h
  split at h
  · cases p with | cons p1 p2=>cases p2;cases p1 with | tup q l=>exact .inl ⟨_,_,rfl,.inr q,k _ H _ μ (.refl H) m (by rw[l.length];exact .int _) h⟩
  · cases p with | cons p1 p2=>cases p2;cases p1 with | ls q l=>exact .inl ⟨_,_,rfl,.inl q.sq,k _ H _ μ (.refl H) m (by rw[l.length];exact .int _) h⟩
  · cases p with | cons p1 p2=>cases p2;cases p1;exact .inr ⟨_,rfl,big h.1,k _ H _ μ (.refl H) m (.int _) h.2⟩
  · rename_i a
    cases p with | cons p1 p2=>
    cases p2;cases p1
    obtain ⟨ys,e0,h⟩:=bP h
    obtain ⟨xs,ex,l⟩:=m a _ e0
    exact .inl ⟨_,_,rfl,.inl (SqL.of ex),k _ H _ μ (.refl H) m (by rw[l.length];exact .int _) h⟩
  · exact False.elim h
theorem a9:cH X (.builtin "len") (fun xs H Q=>(∃ p ys,xs=[.ref p]∧(SqL X.K H p ys∨SqT X.K H p ys)∧Q (.int ys.length) H)∨∃ z,xs=[.str z]∧z.length≤sizeLine∧Q (.int z.length) H):=cH.or uQ ua
end
end
section
open PySem PySem.Spec PyProof.Rows L2
section
variable {X:Cx} {a b c e tg o:Expr} {Ta Tb Tc:ETr} {pos:Pos} {es:List Expr} {At:ATr} {x:Str} {p:Pos} {id T:String} {st:Stmt} {rest:List Stmt} {T1 T2:STr} {tA:TTr}
theorem a8:LSs X [] bx:=⟨_,Jt,fun σ H ρ μ E E' rl h k=>k.nx _ _ _ _ (.refl H) rl h⟩
theorem ak (h1:LS X st T1)(h2:LSs X rest T2):LSs X (st::rest) (aB T1 T2):=by
  obtain ⟨t1,p1,s1⟩:=h1.ex
  obtain ⟨t2,p2,s2⟩:=h2.ex
  exact ⟨_,FP p1 p2,fun σ H ρ μ E E' rl h k=>s1 σ H ρ μ _ _ rl h ⟨fun σ' H' ρ' μ' t' r' q=>s2 σ' H' ρ' μ' E E' r' q (k.go t'),k.rt,k.bk,k.ct⟩⟩
theorem ax (h1:LS X st T1):LSs X [st] T1:=by
  obtain ⟨t1,p1,s1⟩:=h1.ex
  exact ⟨_,K7 p1,s1⟩
theorem eZ (he:LE X e Ta)(hs:swapsWith e none pos.line X.env=pure false:=by rfl):LS X (.Expr e pos) (fN Ta):=by
  obtain ⟨ta,pa,sa⟩:=he.ex
  exact ⟨_,Ip pa hs,fun σ H ρ μ E E' rl h k=>sa σ H ρ μ _ _ rl h fun v H' d μ' t' m' p' h'=>k.nx _ _ _ _ t' (rl.go t' m') h'⟩
theorem aF (he:LE X e Ta):LS X (.Return (some e) pos) (aY Ta):=by
  obtain ⟨ta,pa,sa⟩:=he.ex
  exact ⟨_,Nk pa,fun σ H ρ μ E E' rl h k=>sa σ H ρ μ _ _ rl h k.rt⟩
theorem bK {sa sb:List Stmt}(hc:LT X c tA)(ha:LSs X sa T1)(hb:LSs X sb T2):LS X (.If c sa sb pos) (bY tA T1 T2):=by
  obtain ⟨tc,pc,sc⟩:=hc.ex
  obtain ⟨t1,p1,s1⟩:=ha.ex
  obtain ⟨t2,p2,s2⟩:=hb.ex
  refine ⟨_,PU pc p1 p2,fun σ H ρ μ E E' rl h k=>sc σ H ρ μ _ _ rl h fun q H1 μ1 t1' m1 h1=>?_⟩
  cases q with
  | true=>exact ri (s1 σ H1 ρ μ1 E E' (rl.go t1' m1) h1 (k.go t1'))
  | false=>exact rn (s2 σ H1 ρ μ1 E E' (rl.go t1' m1) h1 (k.go t1'))
theorem ix {K:PySem.W.Frag}(i:Nat):Nz K (lZ i) (aw i):=fun σ H ρ μ v d k k' rl p h q=>q _ _ _ _ (.refl H) (rl.set p i) h
theorem ke (i:Nat)(hN:X.N.Nodup)(hi:X.N[i]? = some x:=by rfl)(hx:Loc X.env.scope x:=by first | exact Or.inl rfl | exact Or.inr rfl)(hf:X.fn x=true∨X.env.scope.names.lookup x=some .local:=by first | exact .inl rfl | exact .inr rfl | assumption):LG X (.Name x pos) (aw i):=
  ⟨_,iL hN hi hx hf,ix i⟩
theorem aC (i:Nat){pos':Pos}(hN:X.N.Nodup)(he:LE X e Ta)(hi:X.N[i]? = some x:=by rfl)(hx:Loc X.env.scope x:=by first | exact Or.inl rfl | exact Or.inr rfl)(hs:swapsWith e (some (.Name x pos')) pos.line X.env=pure false:=by rfl)
    (hf:X.fn x=true∨X.env.scope.names.lookup x=some .local:=by first | exact .inl rfl | exact .inr rfl | assumption):LS X (.Assign [.Name x pos'] e pos) (aP Ta (aw i)):=by
  obtain ⟨ta,pa,sa⟩:=he.ex
  exact ⟨_,O8 hN hi hx pa hs hf,fun σ H ρ μ E E' rl h k=>sa σ H ρ μ _ _ rl h fun v H' d μ' t' m' p' h'=>ix i σ H' ρ μ' v d _ _ (rl.go t' m') p' h' (k.go t').nx⟩
theorem uo (i j:Nat){y:Str}{px py pt:Pos}{kt k2 pt2}(hc:X.calm=true)(hN:X.N.Nodup)(ha:LA X [a,b] At)(hi:X.N[i]? = some x:=by rfl)(hj:X.N[j]? = some y:=by rfl)(hij:i≠j:=by decide)
    (hx:X.env.scope.names.lookup x=some .local:=by rfl) (hy:X.env.scope.names.lookup y=some .local:=by rfl)
    (hw:swappedStores [.Tuple [.Name x px,.Name y py] kt pt] (.Tuple [a,b] k2 pt2) X.env=pure (some [x,y]):=by rfl)
    (hs:swapsWithSole [.Tuple [.Name x px,.Name y py] kt pt] (.Tuple [a,b] k2 pt2) pos.line X.env=pure false:=by rfl) :
    LS X (.Assign [.Tuple [.Name x px,.Name y py] kt pt] (.Tuple [a,b] k2 pt2) pos) (qh i j At):=by
  obtain ⟨ta,pa,sa⟩:=ha.ex
  refine ⟨_,MG hc hN hi hj hij hx hy pa hw hs,fun σ H ρ μ E E' rl h k=>sa σ H ρ μ _ _ rl h fun vs H' ds μ' t' m' p' h'=>?_⟩
  unfold L3.k2 at h'
  split at h'
  · rename_i dv dw
    cases p' with | cons p1 p2=>cases p2 with | cons p2 p3=>
    cases p3
    exact ⟨_,_,rfl,k.nx _ _ _ _ t' (((rl.go t' m').set p1 i).set p2 j) h'⟩
  · exact False.elim h'
theorem qN {body:List Stmt}(hp:PassesOwn (model X.prog X.w) X.A X.env X.xe)(hc:LT X c tA)(hb:LSs X body T1):LS X (.While c body [] pos) (um tA T1):=by
  obtain ⟨tc,pc,sc⟩:=hc.ex
  obtain ⟨t1,p1,s1⟩:=hb.ex
  refine ⟨_,Fm hp pc p1,fun σ H ρ μ E E' rl h k=>?_⟩
  obtain ⟨P,m,h0,hs⟩:=h
  refine ⟨fun n σ' H'=>∃ ρ' μ',Tk H H'∧Rl X.K σ' H' ρ' μ'∧P ρ' μ'∧n=m ρ' μ',⟨_,ρ,μ,.refl H,rl,h0,rfl⟩,?_⟩
  rintro n σ1 H1 ⟨ρ1,μ1,t1',rl1,hP,rfl⟩
  refine sc σ1 H1 ρ1 μ1 _ _ rl1 (hs ρ1 μ1 hP) fun q H2 μ2 t2 m2 h2=>?_
  have t12:=t1'.trans t2
  cases q with
  | true=>
    refine ri ⟨fun σ' H'=>∃ ρ' μ',Tk H H'∧Rl X.K σ' H' ρ' μ'∧P ρ' μ'∧m ρ' μ' < m ρ1 μ1,fun σ' H' ⟨ρ',μ',a1,a2,a3,a4⟩=>⟨_,a4,ρ',μ',a1,a2,a3,rfl⟩,?_⟩
    have h2':=h2
    refine s1 σ1 H2 ρ1 μ2 _ _ (rl1.go t2 m2) h2' ⟨fun σ' H' ρ' μ' t' r' q=>⟨ρ',μ',t12.trans t',r',q.1,q.2⟩,(k.go t12).rt,(k.go t12).nx,fun σ' H' ρ' μ' t' r' q=>⟨ρ',μ',t12.trans t',r',q.1,q.2⟩⟩
  | false=>exact rn (k.nx _ _ _ _ t12 (rl1.go t2 m2) h2)
theorem mY (lo:Int)(n:Nat):cx lo (n+1)=.int lo::cx (lo+1) n:=by
  unfold cx
  rw[List.range_succ_eq_map]
  rw[List.map_cons,List.map_map]
  congr 1
  · simp
  · refine List.map_congr_left fun i _=>?_
    show D.int _=D.int _
    congr 1
    show lo+((i+1:Nat):Int)=lo+1+(i:Int)
    omega
end
def lift (K:PySem.W.Frag)(sp:FSp):Sp:=fun vs H Q _=>∃ ds μ QQ,DpL K H vs ds∧bL K H μ∧sp ds μ QQ∧jq K H QQ Q
def RT (Q:DK):DK:=fun d μ'=>∃ μ,Sub μ μ'∧Q d μ
def ini (n:Nat)(ds:List D):ST:=ds.map some++List.replicate (n - ds.length) none
theorem Oz:∀ (ds:List D) (n i:Nat) (d:D),lk (ini n ds) i=some d→ds[i]? = some d:=by
  intro ds
  have rep:∀ m i (d:D),lk (List.replicate m none) i=some d→False:=by
    intro m
    induction m with
    | zero=>intro i d h;cases i<;>cases h
    | succ m ih=>intro i d h;cases i with
      | zero=>cases h
      | succ i=>exact ih i d h
  have gen:∀ (ds:List D) m i d,lk (ds.map some++List.replicate m none) i=some d→ds[i]? = some d:=by
    intro ds
    induction ds with
    | nil=>intro m i d h;exact (rep m i d h).elim
    | cons x r ih=>intro m i d h;cases i with
      | zero=>simpa[lk] using h
      | succ i=>simpa using ih m i d h
  exact fun n i d h=>gen ds _ i d h
section
variable {P:Program} {w:World} {K:PySem.W.Frag} {mg:Str→Option Value} {base:Heap}
theorem Ms {x qual:Str}{st:Stmt}{f:Addr}{fd:FuncData}{N ps:List Str}{k:Nat}{sp:FSp}{T:STr}(F:Fun K x qual st f fd)(S:aI N ps (av st))(len:∀ ds μ Q,sp ds μ Q→ds.length=ps.length)
    (hb:∀ (cdv:Value) (A:Around) (outer:List Env) (s:Shared) (H:Hp) (E:XK),fH k (A.deeper (envOfC qual (av st) s.heap.objs.size f cdv))→
      LSs (xo CX0 P w K mg base N qual (av st) f cdv A outer s H E).nox (gI st) T)
    (hr:∀ ds μ Q,sp ds μ Q→T { nx:=fun _ μ'=>RT Q .non μ',rt:=RT Q } (ini N.length ds) μ):je P w K mg base CX0 (k+1) f fd ps (lift K sp):=by
  refine F.ok S (fun vs H Q E h=>?_) (fun cdv A outer s H vs Q E hroom h=>?_)
  · obtain ⟨ds,μ,QQ,l,m,h1,k⟩:=h
    rw[l.length];exact len ds μ QQ h1
  · obtain ⟨ds,μ,QQ,l,m,h1,k⟩:=h
    obtain ⟨t,pt,stt⟩:=(hb cdv A outer s H E hroom).ex
    have hl:vs.length=ds.length:=l.length
    refine ⟨t,pt,stt (L2.start N vs) H (ini N.length ds) μ _ _ ⟨?_,fun i d e=>?_,m⟩ (hr ds μ QQ h1) ⟨fun σ' H' ρ' μ' t' r' q=>?_,fun v H' d μ' t' m' p' q=>?_,fun _ _ _ _ _ _ q=>q,fun _ _ _ _ _ _ q=>q⟩⟩
    · unfold ini L2.start;simp[hl]
    · have e':=Oz ds _ i d e
      obtain ⟨v,e1,p⟩:=l.get e'
      refine ⟨v,?_,p⟩
      unfold L2.start
      have hi:i < vs.length:=(List.getElem?_eq_some_iff.mp e1).1
      rw[List.getElem?_append_left (by simpa using hi),List.getElem?_map,e1]
      rfl
    · obtain ⟨μ2,s2,q2⟩:=q
      exact k _ _ _ μ2 t' (r'.mu.sub s2) .non q2
    · obtain ⟨μ2,s2,q2⟩:=q
      exact k _ _ _ μ2 t' (m'.sub s2) p' q2
end
section
variable {X:Cx} {k:Nat} {f:Addr} {fd:FuncData} {ps:List Str} {sp:FSp} {x:Str} {p pos:Pos} {e:Expr} {es:List Expr} {At:ATr}
theorem Lv (F:je X.prog X.w X.K X.mg X.base CX0 k f fd ps (lift X.K sp))(hr:fH k X.A)(hg:Gl X x)(hm:X.mg x=some (.ref f))(hk:PySem.W.keepIn X.K (.ref f)=true)(hb:Binds X.K fd ps [])
    (ha:LA X (e::es) At) (hdb:(x == ("__debug__" : Str))=false:=by decide) (he:starEach (e::es) X.env=(false,eval e X.env)::starEach es X.env:=by rfl) (hpl:(backTo pos (starEach es X.env)).any (·.1)=false:=by rfl) :
    LE X (.Call (.Name x p) (e::es) [] pos) (aq sp At):=by
  obtain ⟨ta,pa,sa⟩:=ha.ex
  refine ⟨_,Jw F hr hg hm hk hb .nil QG pa hdb he hpl,fun σ H ρ μ Q Q' rl h k=>sa σ H ρ μ _ _ rl h fun xs H1 ds μ1 t1 m1 p1 h1=>?_⟩
  rw[List.append_nil]
  exact ⟨ds,μ1,Q,p1,m1,h1,k.go t1⟩
end
end
section
open PySem PySem.Spec PyProof.Rows L2
theorem DpL.ints {K:PySem.W.Frag}{H:Hp}:∀ ns:List Int,DpL K H (ns.map V.int) (ns.map D.int)
  | []=>.nil
  | n::r=>.cons (.int n) (DpL.ints r)
theorem SqF.only {K:PySem.W.Frag}{H:Hp}{a:Addr}{xs:List V}(hO:JJ H)(h:SqL K H a xs):SqF K H a xs:=by
  rcases h with (h | h) | h
  · rcases hO a with z | ⟨o,ys,z⟩
    · rw[h] at z;cases z
    · rw[h] at z;cases z
  · exact .inl h
  · exact .inr h
theorem Q9 {l:PySem.W.OpenLaw}{k:Nat}{q:Program}{loose:List Str}{XP:(Str→Option Value)→Heap→Prop}{YP:World→Heap→Prop}{d:DefRec}{K:Params→PySem.W.Frag}{sp:FSp}{x:Str}
    (hn:l.most=some 63) (hdf:d.params.defaults=[]) (hr:fH k callerA) (hY:∀ (w:World) (h:Heap),YP w h→(K w.params).In h)
    (hl:∀ ns:List Int,ns.length≤63→∀ μ,sp [.ls (ns.map .int)] μ (fun d _=>d=.bl true))
    (F:∀ (w:World) (mg:Str→Option Value) (fa:Addr) (h:Heap),(K w.params).In h→h.Ns mainGlobals mg→mg d.name=some (.ref fa)→
      ∃ fd:FuncData,(∀ (s:Shared) (u:Value),BindsTo s fd ⟨[u],[]⟩ [(x,u)])∧∀ base:Heap,(K w.params).In base→base.Ns mainGlobals mg→je l.prog w (K w.params) mg base CX0 k fa fd [x] (lift (K w.params) sp)) :
    PySem.W.WalkO q loose XP YP l.row.toRowW d [] (fun f vs=>PySem.call f vs):=
  L2.Jf (n:=63) (k:=k) (x:=x) (CX:=fun _=>CX0) (sp:=fun w=>lift (K w.params) sp) hn (by decide) hdf hr hY F
    (fun w H a ns hl' hO hS=>⟨[.ls (ns.map .int)],fun _=>none,_,.cons (.ls (.only hO hS) (.ints ns)) .nil,(fun a o e=>by cases e),hl ns hl' _,fun v H' d μ' _ _ p e=>by
      have e':d=.bl true:=e
      subst e'
      cases p;rfl⟩) fun _ _ _ _ _ z=>z
end
section
open PySem PySem.Spec PyProof.Rows L2
structure aQ (P:Program) (w:World) (K:PySem.W.Frag) (mg:Str→Option Value) (base:Heap) (k:Nat) (x:Str) (ps:List Str) (sp:FSp):Prop where
  ex:∃ f fd,je P w K mg base CX0 k f fd ps (lift K sp)∧mg x=some (.ref f)∧PySem.W.keepIn K (.ref f)=true∧Binds K fd ps []
section
variable {P:Program} {w:World} {K:PySem.W.Frag} {mg:Str→Option Value} {base:Heap}
theorem aK {x qual:Str}{st:Stmt}{f:Addr}{fd:FuncData}{N ps:List Str}{k:Nat}{sp:FSp}{T:STr}(m:mg x=some (.ref f))(F:Fun K x qual st f fd)(S:aI N ps (av st))(len:∀ ds μ Q,sp ds μ Q→ds.length=ps.length)
    (hr:∀ ds μ Q,sp ds μ Q→T { nx:=fun _ μ'=>RT Q .non μ',rt:=RT Q } (ini N.length ds) μ)
    (b:∀ (kV doc pm:Value) (an:Option Addr) (cdv ct:Value) (us:List Value),us.length=ps.length→bindArgs (PySem.W.fnOf x qual (lP st) (gI st) (av st) .none kV doc pm an cdv ct) ⟨us,[]⟩=pure (ps.zip us))
    (hb:∀ (cdv:Value) (A:Around) (outer:List Env) (s:Shared) (H:Hp) (E:XK),fH k (A.deeper (envOfC qual (av st) s.heap.objs.size f cdv))→(A.deeper (envOfC qual (av st) s.heap.objs.size f cdv)).units+64 < cLine→
      LSs (xo CX0 P w K mg base N qual (av st) f cdv A outer s H E).nox (gI st) T):aQ P w K mg base (k+1) x ps sp:=
  ⟨f,fd,Ms F S len (fun cdv A outer s H E h=>hb cdv A outer s H E h h.units) hr,m,F.kp,F.binds b⟩
end
theorem ao {X:Cx}{k n:Nat}{x:Str}{ps:List Str}{sp:FSp}{e:Expr}{es:List Expr}{At:ATr}{p pos:Pos}(C:aQ X.prog X.w X.K X.mg X.base k x ps sp)(hr:fH n X.A)(hg:Gl X x)
    (ha:LA X (e::es) At) (hle:k≤n:=by decide) (hdb:(x == ("__debug__" : Str))=false:=by decide) (he:starEach (e::es) X.env=(false,eval e X.env)::starEach es X.env:=by rfl) (hpl:(backTo pos (starEach es X.env)).any (·.1)=false:=by rfl) :
    LE X (.Call (.Name x p) (e::es) [] pos) (aq sp At):=by
  obtain ⟨f,fd,F,m,kp,b⟩:=C.ex
  exact Lv F (hr.mono hle) hg m kp b ha hdb he hpl
end
section
open PySem PySem.Spec PyProof.Rows L2
def a5 (X:Cx)(scope:Scope)(Nc:List Str)(cl:List (Str×Addr))(C:Addr)(s₀:Shared)(H₀:Hp)(ex:List Addr):Cx:=
  { X with env:=compEnvC scope cl C X.env,N:=Nc,s₀:=s₀,H₀:=H₀,outer:=X.stack,ex:=ex,fn:=fun _=>false,pn:=[] }
theorem zZ {scope:Scope}{env:Env}(h:∀ y∈scope.names,y.2=.free→∃ c,env.cells.lookup y.1=some c) :
    ∃ cl,closureFor scope env=pure cl∧(∀ x c,cl.lookup x=some c→env.cells.lookup x=some c)∧∀ y∈scope.names,y.2=.free→∃ c,cl.lookup y.1=some c:=by
  have gen:∀ (ns:List (Str×NameKind)) (cs:List (Str×Addr)),(∀ y∈ns,y.2=.free→∃ c,env.cells.lookup y.1=some c)→(∀ x c,cs.lookup x=some c→env.cells.lookup x=some c)→
      ∃ cl,(forIn ns cs fun x r=>if (x.2 == NameKind.free)=true then do let c ← cellOf env x.1;pure (ForInStep.yield ((x.1,c)::r)) else pure (ForInStep.yield r):Sem _)=pure cl∧(∀ x c,cl.lookup x=some c→env.cells.lookup x=some c)∧
        (∀ x,(cs.lookup x).isSome=true→(cl.lookup x).isSome=true)∧∀ y∈ns,y.2=.free→∃ c,cl.lookup y.1=some c:=by
    intro ns
    induction ns with
    | nil=>intro cs _ h2;exact ⟨cs,rfl,h2,fun _ z=>z,fun _ z=>nomatch z⟩
    | cons y r ih=>
      intro cs h1 h2
      obtain ⟨n,k⟩:=y
      by_cases hk:k=.free
      · subst hk
        obtain ⟨c,hc⟩:=h1 (n,.free) List.mem_cons_self rfl
        have h2':∀ x c',((n,c)::cs).lookup x=some c'→env.cells.lookup x=some c':=fun x c' e=>by
          rw[List.lookup_cons] at e
          split at e
          · rename_i hx
            cases e
            have:x=n:=by simpa using hx
            subst this;exact hc
          · exact h2 x c' e
        obtain ⟨cl,e1,e2,e3,e4⟩:=ih ((n,c)::cs) (fun y hy=>h1 y (List.mem_cons_of_mem _ hy)) h2'
        refine ⟨cl,?_,e2,fun x hx=>e3 x ?_,fun y hy hf=>?_⟩
        · rw[List.forIn_cons]
          have:cellOf env n=pure c:=by unfold cellOf;rw[hc]
          simp only[beq_self_eq_true,if_true,this,pure_bind]
          exact e1
        · rw[List.lookup_cons];split
          · rfl
          · exact hx
        · obtain rfl | hy:=List.mem_cons.mp hy
          · have:(cl.lookup n).isSome=true:=e3 n (by simp[List.lookup_cons])
            exact Option.isSome_iff_exists.mp this
          · exact e4 y hy hf
      · obtain ⟨cl,e1,e2,e3,e4⟩:=ih cs (fun y hy=>h1 y (List.mem_cons_of_mem _ hy)) h2
        refine ⟨cl,?_,e2,e3,fun y hy hf=>?_⟩
        · rw[List.forIn_cons]
          have:(k == NameKind.free)=false:=by simpa using hk
          simp only[this,Bool.false_eq_true,if_false,pure_bind]
          exact e1
        · obtain rfl | hy:=List.mem_cons.mp hy
          · exact absurd hf hk
          · exact e4 y hy hf
  obtain ⟨cl,e1,e2,_,e4⟩:=gen scope.names [] h fun x c e=>by cases e
  refine ⟨cl,?_,e2,e4⟩
  show ((forIn scope.names ([]:List (Str×Addr)) fun x r=>if (x.2 == NameKind.free)=true then do let c ← cellOf env x.1;pure (ForInStep.yield ((x.1,c)::r)) else pure (ForInStep.yield r):Sem _) >>= fun s=>pure s)=pure cl
  rw[e1]
  rfl
def xO (Y:Cx)(ifs:List Expr)(t:TT):Prop:=
  ∀ (pins:List (Addr×Obj)) (s:Shared) (σ:L2.St) (H:Hp) (Q:Bool→Hp→Prop),Inv Y pins σ H s→t σ H Q→
    wpAny (model Y.prog Y.w) Y.A (forIn ifs true fun c r=>if r=true then do let ok ← isTrue c Y.env (eval c Y.env);pure (ForInStep.yield ok) else pure (ForInStep.yield r)) (TP Y pins σ Q) Y.xe s
def So:TT:=fun _ H Q=>Q true H
theorem II {Y:Cx}:xO Y [] So:=fun pins s σ H Q I h=>wpAny_tests_nil ⟨H,I,h⟩
theorem Lk {Y:Cx}{c:Expr}{t:TT}(h:PT Y c t):xO Y [c] t:=fun pins s σ H Q I hh=>wpAny_tests_one (h pins s σ H Q I hh)
def ki (σ:L2.St)(n:Nat)(caps:List Nat):L2.St:=List.replicate n none++caps.map fun i=>(σ[i]?).join
def Wk (σ' σ:L2.St):Prop:=σ'.length=σ.length∧∀ (i:Nat) v,σ'[i]? = some (some v)→σ[i]? = some (some v)
def kl (wi:TI)(g:TG)(tt:TT)(te:TE)(n:Nat)(caps:List Nat):TE:=fun σ H Q=>wi σ H fun J H1=>∀ D,H1 D=none→
  ∃ W:Nat→Nat→List V→Hp→Prop,(∃ m,W 0 m [] (L2.upd H1 D (.lst [])))∧∀ i m ys H2,W i m ys H2→
    (J.stop i H2∧Q (.ref D) H2)∨(J.go i H2∧∃ N:List V→Hp→Prop,(∀ ys' H',N ys' H'→∃ m',m' < m∧W (i+1) m' ys' H')∧
      ∀ x H3,J.yld i H2 x H3→g x (ki σ n caps) H3 fun σ4 H4=>Wk (ki σ n caps) σ4∧tt σ4 H4 fun b H5=>if b=true then te σ4 H5 fun y H6=>∃ zs,H6 D=some (.lst zs)∧zs.length < sizeLine∧N (zs++[y]) (L2.upd H6 D (.lst (zs++[y]))) else N ys H5)
theorem Cc {prog:Program}{w:World}{A:Around}{R:Result→Shared→Prop}{s:Shared}{elt target iter:Expr}{ifs:List Expr}{scope:Scope}{pos:Pos}{it acc:Value}{env:Env}(J:Nat→Shared→Prop)
    (turn:∀ n s,J n s→wpAny (model prog w) A (pyNext it) (fun o t₁=>match o with
      | none=>R (.ok .next) t₁
      | some v=>wpAny (model prog w) A (letOwnedTupleGo target it v) (fun _ t₁=>wpAny (model prog w) A (assign target env v) (fun _ t₂=>
          wpAny (model prog w) A (forIn ifs true fun c r=>
            if r=true then do let ok ← isTrue c env (eval c env);pure (ForInStep.yield ok) else pure (ForInStep.yield r)) (fun ok t₃=>
            if ok=true then wpAny (model prog w) A (eval elt env) (fun x t₄=>
              wpAny (model prog w) A (call (.builtin "list.append") [acc,x]) (fun _ t₅=>∃ m,m < n∧J m t₅) (fun _ _=>False) t₄) (fun _ _=>False) t₃
            else ∃ m,m < n∧J m t₃) (fun _ _=>False) t₂) (fun _ _=>False) t₁) (fun _ _=>False) t₁) (fun _ _=>False) s)
    (n:Nat) (h:J n s):codeAny (model prog w) A (.compLoop (.ListComp elt [⟨target,iter,ifs,0⟩] scope pos) 0 it acc env) R s:=by
  refine codeAny_loop rfl J (fun n s hJ=>?_) n h
  show wpAny _ A ((compTurn (.ListComp elt [⟨target,iter,ifs,0⟩] scope pos) 0 it acc env).onRaise
    (fun x=>do noteFrame x env;theTreesLotGoes x)) _ _ s
  refine wpAny_noted ?_
  rw[compTurn_list]
  refine wpAny_bind (wpAny_standAt (wpAny_bind (wpAny_mono (turn n s hJ) (fun r t₁ g₁=>?_) fun _ _ h'=>h'.elim)))
  cases r with
  | none=>exact wpAny_pure g₁
  | some v=>
    refine wpAny_bind (wpAny_mono g₁ (fun _ t₁' g₁'=>?_) fun _ _ h'=>h'.elim)
    refine wpAny_bind (wpAny_mono g₁' (fun _ t₂ g₂=>wpAny_bind (wpAny_mono g₂ (fun ok t₃ g₃=>?_) fun _ _ h'=>h'.elim)) fun _ _ h'=>h'.elim)
    cases ok with
    | false=>exact wpAny_pure ⟨rfl,g₃⟩
    | true=>
      exact wpAny_bind (wpAny_bind (wpAny_mono g₃ (fun x t₄ g₄=>wpAny_bind (wpAny_mono g₄ (fun _ t₅ g₅=>wpAny_pure (wpAny_pure ⟨rfl,g₅⟩)) fun _ _ h'=>h'.elim)) fun _ _ h'=>h'.elim))
theorem jD {σ:L2.St}{n:Nat}{caps:List Nat}{i:Nat}{v:V}(h:(ki σ n caps)[i]? = some (some v)):∃ j k,i=n+j∧caps[j]? = some k∧σ[k]? = some (some v):=by
  unfold ki at h
  by_cases hi:i < n
  · rw[List.getElem?_append_left (by simpa using hi),List.getElem?_replicate,if_pos hi] at h
    cases h
  · rw[List.getElem?_append_right (by simpa using hi)] at h
    rw[List.length_replicate,List.getElem?_map] at h
    cases e:caps[i - n]? with
    | none=>rw[e] at h;cases h
    | some k=>
      rw[e] at h
      have h':(σ[k]?).join=some v:=Option.some.inj h
      cases e2:σ[k]? with
      | none=>rw[e2] at h';cases h'
      | some o=>
        rw[e2] at h'
        have h'':o=some v:=h'
        subst h''
        exact ⟨i - n,k,by omega,e,e2⟩
theorem fO {env:Env}(hk:env.scope.kind=.function):∀ {names:List (Str×NameKind)} {x:Str},env.kindOf x=some .cell→names.lookup x=some .free→
    (names.map fun (n,k)=>if (k == NameKind.free&&env.scope.kind == .function&&env.kindOf n == some .cell) then (n,NameKind.cell) else (n,k)).lookup x=some .cell
  | [],_,_,h=>by simp at h
  | (n,k)::r,x,hc,h=>by
    have ih:=@fO env hk r x hc
    show List.lookup x ((if (k == NameKind.free&&env.scope.kind == .function&&env.kindOf n == some .cell)=true
      then (n,NameKind.cell) else (n,k))::_)=_
    cases hx:x == n with
    | true=>
      simp only[hx,List.lookup_cons] at h
      cases h
      have e:x=n:=by simpa using hx
      subst e
      simp[List.lookup_cons,hk,hc]
    | false=>
      simp only[hx,List.lookup_cons] at h
      by_cases hcc:(k == NameKind.free&&env.scope.kind == .function&&env.kindOf n == some .cell)=true
      · rw[if_pos hcc];simp only[List.lookup_cons,hx];exact ih h
      · rw[if_neg hcc];simp only[List.lookup_cons,hx];exact ih h
theorem mX {env:Env}:∀ {names:List (Str×NameKind)} {x:Str} {k':NameKind},(∀ y∈names,y.2≠.cell)→(k'=.cell∨k'=.free)→
    (x,k')∈(names.map fun (n,k)=>if (k == NameKind.free&&env.scope.kind == .function&&env.kindOf n == some .cell) then (n,NameKind.cell) else (n,k))→(x,NameKind.free)∈names:=by
  intro names x k' hn hk h
  obtain ⟨⟨n,k⟩,hm,e⟩:=List.mem_map.mp h
  dsimp only at e
  split at e
  · rename_i hc
    cases e
    have:k=.free:=by simp at hc;exact hc.1.1
    subst this;exact hm
  · cases e
    rcases hk with rfl | rfl
    · exact absurd rfl (hn _ hm)
    · exact hm
theorem HQ {X:Cx}{pins:List (Addr×Obj)}{σ:L2.St}{H H5:Hp}{s:Shared}{C:Addr}{h':Heap}(I:Inv X pins σ H s)(f0:H C=none)(fC:pP X pins H5 C)(hs:Heap.SameBut C s.heap h'):Inv X pins σ H { s with heap:=h' }:=by
  have keep:∀ b o',b≠C→s.heap.get? b=some o'→h'.get? b=some o':=fun b o' hb e'=>(hs.2 b hb).trans e'
  refine I.Mg (ch:=[C]) (s':={ s with heap:=h' }) rfl ⟨fun b o' e' _ _ nx=>keep b o' (fun z=>nx (by rw[z];exact List.mem_cons_self)) e',fun b o' e' _ _ nx=>⟨o'.slots,keep b o' (fun z=>nx (by rw[z];exact List.mem_cons_self)) e'⟩,fun b o' _ w _=>w,fun b o' e' nx=>⟨o',keep b o' (fun z=>nx (by rw[z];exact List.mem_cons_self)) e'⟩,fun b ys e'=>e',fun b o' u e'=>e',fun b ps e'=>⟨#[],by simpa using e'⟩⟩ (fun b u e'=>?_) I.bare fun b hb=>?_
  · refine (I.hok b u e').ly (fun c w' hc q=>keep c w' ?_ q) (fun _ q=>q) fun _ _ q=>q
    rintro rfl
    rcases hc with z | z
    · rw[← z,f0] at e';cases e'
    · rw[f0] at z;cases z
  · cases List.mem_singleton.mp hb
    exact ⟨fC.2.2.2.1,fC.2.1,fC.2.2.2.2.1,fC.2.2.2.2.2⟩
theorem wD {X:Cx}{tg iter elt:Expr}{ifs:List Expr}{scope:Scope}{pos:Pos}{wi:TI}{g:TG}{tt:TT}{te:TE}{Nc:List Str}{n:Nat}{caps:List Nat}
    (hxe:X.xe=fun _ _=>False) (hcalm:X.calm=true) (hi:PI X tg iter wi)
    (hbody:∀ (cl:List (Str×Addr)) (C:Addr) (s₀:Shared) (H₀:Hp) (ex:List Addr),PG (a5 X scope Nc cl C s₀ H₀ ex) tg g∧xO (a5 X scope Nc cl C s₀ H₀ ex) ifs tt∧PE (a5 X scope Nc cl C s₀ H₀ ex) elt te)
    (hfree:∀ y∈scope.names,y.2=.free→X.env.kindOf y.1=some .cell) (hcell:∀ y∈scope.names,y.2≠.cell) (gn:scope.kind=.function)
    (hnames:∀ y∈scope.names,y.2=.local→scope.names.lookup y.1=some .local) (hlen:Nc.length=n+caps.length)
    (hcap:∀ (j k:Nat),caps[j]? = some k→∃ x,Nc[n+j]? = some x∧X.N[k]? = some x∧scope.names.lookup x=some .free)
    {use:Option (Value→Sem Unit)} {Qv:Value→Shared→Prop} {pins:List (Addr×Obj)} {s:Shared} {σ:L2.St} {H:Hp} {Q:VK} {ps:Pos} (I:Inv X pins σ H s) (h:kl wi g tt te n caps σ H Q)
    (hfin:∀ (D C:Addr) (s5:Shared) (H5:Hp) (m:Str→Option Value),Inv X pins σ H5 s5→pP X pins H5 C→s5.heap.Ns C m→Q (.ref D) H5→compPost (model X.prog X.w) X.A (fun _ _=>False) use Qv (.ref D) C (.ok .next) s5)
    (hs:∀ x,foldedSetIterable iter X.env x=pure x:=by intro _;rfl) :
    wpAny (model X.prog X.w) X.A (comprehension (.ListComp elt [⟨tg,iter,ifs,0⟩] scope pos) scope X.env ps (newList []) false (eval iter X.env) use) Qv (fun _ _=>False) s:=by
  obtain ⟨cl,hclos,clin,clfree⟩:=zZ (scope:=scope) (env:=X.env) fun y hy hf=>I.ok.has y.1 (.inl (hfree y hy hf))
  refine wpAny_comprehension_free (use:=use) rfl hs hclos gn hnames ?_
  have hi':=hi pins s σ H _ I h
  rw[hxe] at hi'
  refine wpAny_mono hi' (fun xv s1 h1=>wpAny_mono h1 (fun itv s2 h2=>?_) fun _ _ z=>z) fun _ _ z=>z
  obtain ⟨it,fp,tn,J,H1,rfl,I2,T,st2,f2,hh⟩:=h2
  -- the new list
  refine wpAny_newObj_type ?_
  have hD:H1 s2.heap.objs.size=none:=I2.hok.fresh (Nat.le_refl _)
  obtain ⟨W,⟨m0,w0⟩,turn⟩:=hh _ hD
  have I3:Inv X pins σ (L2.upd H1 s2.heap.objs.size (.lst [])) { s2 with heap:=s2.heap.push { cls:=.type "list", dict:=none,data:=.seq ([]:List Value).toArray } }:=
    I2.laid (t':=s2.toks) (fun b u e=>Heap.get?_push_of_some _ e) (Nat.le_refl _) ⟨Nat.zero_le _,[],0,.nil,Heap.get?_push_size _ rfl⟩
  have k3:∀ b u,s2.heap.get? b=some u→(s2.heap.push { cls:=.type "list", dict:=none,data:=.seq ([]:List Value).toArray }).get? b=some u:=fun b u e=>Heap.get?_push_of_some _ e
  have fne:∀ b∈fp,b≠s2.heap.objs.size:=fun b hb=>by
    obtain ⟨o,ho,_⟩:=T.obj 0 _ st2 b hb
    exact Nat.ne_of_lt (Heap.lt_size ho)
  generalize eD:s2.heap.objs.size=D at *
  generalize eh3:s2.heap.push { cls:=.type "list", dict:=none,data:=.seq ([]:List Value).toArray }=h3 at *
  generalize eH3:L2.upd H1 D (.lst [])=H3 at *
  have st3:tn 0 h3:=T.keep 0 _ _ st2 fun b hb o e=>k3 b o e
  have f3:∀ b∈fp,pP X pins H3 b:=fun b hb=>⟨by rw[← eH3,aM (fne b hb)];exact (f2 b hb).1,(f2 b hb).2⟩
  have lt3:∀ b∈fp,b < h3.objs.size:=fun b hb=>by
    obtain ⟨o,ho,_⟩:=T.obj 0 _ st3 b hb
    exact Heap.lt_size ho
  generalize es3:({ s2 with heap:=h3 }:Shared)=s3 at *
  have hs3:s3.heap=h3:=by rw[← es3]
  refine wpAny_newFunctionEnv hcell (fun y hy=>(by cases hy)) (fun h4 hns hsb=>?_) gn
  show codeAny _ _ (.compStart _ 0 (.ref it) (.ref D) (compEnvC scope cl s3.heap.objs.size X.env)) (compPost _ _ _ _ _ (.ref D) s3.heap.objs.size) _
  have k4:∀ b u,s3.heap.get? b=some u→h4.get? b=some u:=fun b u e=>hsb.extBut b u (Nat.ne_of_lt (Heap.lt_size e)) (Heap.get?_push_of_some _ e)
  have okY:(a5 X scope Nc cl s3.heap.objs.size s3 H3 fp).Ok:=by
    refine ⟨I3.ok.mod,gn,I3.ok.glob,I3.ok.blt,Nat.le_refl _,fun x y c e1 e2=>I3.ok.inj x y c (clin _ _ e1) (clin _ _ e2),fun x hx=>?_,fun x c hf=>(by cases hf),I3.ok.hd,I3.ok.frames,.inl rfl,fun b hb=>⟨?_,fun x c e z=>?_⟩,I3.bs,Nat.le_trans I3.ok.bsz I3.sz,fun b o e hb=>?_,fun b hb hz=>?_,I3.stack,I3.Ca⟩
    · have hx':(relabel scope X.env).names.lookup x=some .cell∨(relabel scope X.env).names.lookup x=some .free:=hx
      have hm:(x,NameKind.free)∈scope.names:=by
        rcases hx' with q | q
        · exact mX hcell (.inl rfl) (PySem.mem_of_lookup q)
        · exact mX hcell (.inr rfl) (PySem.mem_of_lookup q)
      exact clfree _ hm rfl
    · show b≠s3.heap.objs.size
      rw[hs3];exact Nat.ne_of_lt (lt3 b hb)
    · exact (f3 b hb).2.2.2.2.1 x c (clin _ _ e) z
    · rcases (f3 b hb).2.2.2.1 with z | z
      · exact I3.ok.Hx b o e z
      · exact absurd (Nat.lt_of_lt_of_le (Heap.lt_size e) (Nat.le_trans I3.ok.bsz z)) (Nat.lt_irrefl _)
    · rcases List.mem_cons.mp (I3.yn b hz) with z | z
      · exact (f3 b hb).2.1 z
      · exact (f3 b hb).2.2.1 z
  have Rv:∀ c v,s3.heap.IsCell c v→h4.IsCell c v:=fun c v ⟨o,ho,hd⟩=>⟨o,k4 c o ho,hd⟩
  have J0:Inv (a5 X scope Nc cl s3.heap.objs.size s3 H3 fp) [] (ki σ n caps) H3 { s3 with heap:=h4,toks:=s3.toks+([]:List (Str×Value)).length }:=by
    refine ⟨okY,rfl,I3.bare,Un.kept k4,⟨_,hns,fun i x v e1 e2 e3=>?_⟩,fun x c e=>?_,I3.hok.fresh (Nat.le_refl _),fun x c e=>I3.jM x c (clin _ _ e),(fun p hp=>(by cases hp)),I3.hok.kept k4,?_⟩
    · obtain ⟨j,k,rfl,ej,ek⟩:=jD e2
      obtain ⟨x',n1,n2,n3⟩:=hcap j k ej
      have e1':Nc[n+j]? = some x:=e1
      rw[n1] at e1';cases e1'
      have hmem:(x,NameKind.free)∈scope.names:=PySem.mem_of_lookup n3
      have hcellx:X.env.kindOf x=some .cell:=hfree _ hmem rfl
      obtain ⟨m,hn,hl⟩:=I3.loc
      obtain ⟨u,ru,lk⟩:=hl k x v n2 ek (.inr (.inl hcellx))
      refine ⟨u,ru,.inr ⟨.inl (fO I3.ok.kind hcellx n3),?_⟩⟩
      rcases lk with ⟨q,_⟩ | ⟨_,c,ec,ic⟩
      · rw[hcellx] at q;cases q
      · obtain ⟨c',ec'⟩:=clfree _ hmem rfl
        have:=clin _ _ ec'
        rw[ec] at this;cases this
        exact ⟨c,ec',Rv _ _ ic⟩
    · obtain ⟨v,q⟩:=I3.cell x c (clin _ _ e)
      exact ⟨v,Rv _ _ q⟩
    · unfold ki
      show _=Nc.length
      rw[List.length_append,List.length_replicate,List.length_map,hlen]
  obtain ⟨pg,pifs,pelt⟩:=hbody cl s3.heap.objs.size s3 H3 fp
  generalize eY:a5 X scope Nc cl s3.heap.objs.size s3 H3 fp=Y at *
  have yP:Y.prog=X.prog:=by rw[← eY];rfl
  have yw:Y.w=X.w:=by rw[← eY];rfl
  have yK:Y.K=X.K:=by rw[← eY];rfl
  have yA:Y.A=X.A:=by rw[← eY];rfl
  have yx:Y.xe=fun _ _=>False:=by rw[← eY];exact hxe
  have yc:Y.calm=true:=by rw[← eY];exact hcalm
  have ye:Y.env=compEnvC scope cl s3.heap.objs.size X.env:=by rw[← eY];rfl
  have yfs:Y.fs=frs X.stack:=by rw[← eY];rfl
  have yex:Y.ex=fp:=by rw[← eY];rfl
  have ys0:Y.s₀=s3:=by rw[← eY];rfl
  have yH0:Y.H₀=H3:=by rw[← eY];rfl
  have ypn:Y.pn=[]:=by rw[← eY];rfl
  have yZ:∀ {H':Hp},(∀ b∈fp,H' b=none)→∀ b∈fp,pP Y [] H' b:=fun hn b hb=>⟨hn b hb,by rw[ye];show b≠s3.heap.objs.size;rw[hs3];exact Nat.ne_of_lt (lt3 b hb),okY.DP b (by rw[yex];exact hb),.inl (by rw[yex];exact hb),
    fun x c e=>by rw[ye] at e;exact (f3 b hb).2.2.2.2.1 x c (clin _ _ e),fun p hp=>by rw[ypn] at hp;exact nomatch hp⟩
  have tn4:∀ t,tn 0 ({ s3 with heap:=h4,toks:=t }:Shared).heap:=fun t=>T.keep 0 _ _ st3 fun b hb o e=>k4 b o (by rw[hs3];exact e)
  -- the end
  have fin:∀ (s5:Shared) (H5:Hp),Inv Y [] (ki σ n caps) H5 s5→Q (.ref D) H5→compPost (model X.prog X.w) X.A (fun _ _=>False) use Qv (.ref D) s3.heap.objs.size (.ok .next) s5:=fun s5 H5 I5 q5=>by
    obtain ⟨m,hn,_⟩:=I5.loc
    rw[ye] at hn
    have un:=I5.base
    rw[yfs,yex,yH0,ys0] at un
    have hfreeC0:=I5.free
    rw[ye] at hfreeC0
    have hfreeC:H5 s3.heap.objs.size=none:=hfreeC0
    have hok5:=I5.hok
    rw[yP,yw] at hok5
    have I5X:Inv X pins σ H5 s5:=I3.Mg (ch:=fp) (s':=s5) (by have:=I5.os;rw[ys0] at this;exact this) un hok5 I5.bare fun b hb=>⟨(f3 b hb).2.2.2.1,(f3 b hb).2.1,(f3 b hb).2.2.2.2.1,(f3 b hb).2.2.2.2.2⟩
    exact hfin _ _ s5 H5 m I5X (I3.C6 (Nat.le_refl _) hfreeC) hn q5
  have loop:codeAny (model X.prog X.w) X.A (.compLoop (.ListComp elt [⟨tg,iter,ifs,0⟩] scope pos) 0 (.ref it) (.ref D) (compEnvC scope cl s3.heap.objs.size X.env)) (compPost (model X.prog X.w) X.A (fun _ _=>False) use Qv (.ref D) s3.heap.objs.size)
      { s3 with heap:=h4,toks:=s3.toks+([]:List (Str×Value)).length }:=by
    refine Cc (fun k s'=>∃ i ys H',Inv Y [] (ki σ n caps) H' s'∧tn i s'.heap∧(∀ b∈fp,H' b=none)∧W i k ys H') ?_ m0 ⟨0,[],H3,J0,tn4 _,fun b hb=>(f3 b hb).1,w0⟩
    rintro k s5 ⟨i,ys,H5,I5,st5,fr5,w5⟩
    rcases turn i k ys H5 w5 with ⟨stop,q⟩ | ⟨go,N,hN,step⟩
    · have d:=T.done Y yP yw yK yc i [] s5 _ H5 (fun _ _=>False) I5 (yZ fr5) st5 stop
      rw[yA] at d
      refine thn d fun r s6 ⟨hr,I6⟩=>?_
      subst hr
      exact fin s6 H5 I6 q
    · have d:=T.item Y yP yw yK yc i [] s5 _ H5 (fun _ _=>False) I5 (yZ fr5) st5 go
      rw[yA] at d
      refine thn d fun r s6 ⟨u,hr,h6⟩=>?_
      subst hr
      refine thn h6 fun _ s7 ⟨x,H7,I7,r7,y7,st7,fr7⟩=>?_
      have I7':=I7.pinned (yZ fr7) (T.obj _ _ st7)
      have a:=pg _ s7 _ H7 x u _ I7' r7 (step x H7 y7)
      rw[yP,yw,yA,yx,ye] at a
      refine thn a fun _ s8 ⟨σ8,H8,I8,wk,q8⟩=>?_
      have b:=pifs _ s8 σ8 H8 _ I8 q8
      rw[yP,yw,yA,yx,ye] at b
      have again:∀ {s9:Shared} {ys9:List V} {H9:Hp},Inv Y ([]++pN fp s7.heap) σ8 H9 s9→N ys9 H9→∃ m,m < k∧∃ i ys H',Inv Y [] (ki σ n caps) H' s9∧tn i s9.heap∧(∀ b∈fp,H' b=none)∧W i m ys H':=fun {s9 ys9 H9} I9 n9=>by
        obtain ⟨m',hm,w9⟩:=hN ys9 H9 n9
        have hp:∀ b∈fp,∀ o,s7.heap.get? b=some o→s9.heap.get? b=some o∧H9 b=none:=fun b hb o e=>
          ⟨(I9.pin (b,o) (List.mem_append_right _ (List.mem_append_right _ (gx hb e)))).1,(I9.pin (b,o) (List.mem_append_right _ (List.mem_append_right _ (gx hb e)))).2.1⟩
        refine ⟨m',hm,i+1,ys9,H9,I9.jj.weak wk.1 wk.2,T.keep _ _ _ st7 fun b hb o e=>(hp b hb o e).1,fun b hb=>?_,w9⟩
        obtain ⟨o,e,_⟩:=T.obj _ _ st7 b hb
        exact (hp b hb o e).2
      refine thn b fun ok s9 ⟨H9,I9,q9⟩=>?_
      cases ok with
      | false=>
        rw[if_neg Bool.false_ne_true] at q9 ⊢
        exact again I9 q9
      | true=>
        rw[if_pos rfl] at q9 ⊢
        have c:=pelt _ s9 σ8 H9 _ I9 q9
        rw[yP,yw,yA,yx,ye] at c
        refine thn c fun v s10 ⟨y,H10,I10,r10,zs,ez,lz,n10⟩=>?_
        have d:=sY (X:=Y) _ s10 σ8 H10 (.ref D) [y] (.ref D) [v] (fun _ H'=>N (zs++[y]) H') I10 rfl (.cons r10 .nil) ⟨D,zs,y,rfl,rfl,ez,lz,n10⟩
        rw[yP,yw,yA,yx] at d
        exact thn d fun _ s11 ⟨_,H11,I11,_,q11⟩=>again I11 q11
  refine codeAny_compStart_list loop ?_
  exact T.self X.A 0 _ _ _ (tn4 _) loop
theorem A2 {X:Cx}{tg iter elt:Expr}{ifs:List Expr}{scope:Scope}{pos:Pos}{wi:TI}{g:TG}{tt:TT}{te:TE}{Nc:List Str}{n:Nat}{caps:List Nat}
    (hxe:X.xe=fun _ _=>False) (hcalm:X.calm=true) (hi:PI X tg iter wi)
    (hbody:∀ (cl:List (Str×Addr)) (C:Addr) (s₀:Shared) (H₀:Hp) (ex:List Addr),PG (a5 X scope Nc cl C s₀ H₀ ex) tg g∧xO (a5 X scope Nc cl C s₀ H₀ ex) ifs tt∧PE (a5 X scope Nc cl C s₀ H₀ ex) elt te)
    (hfree:∀ y∈scope.names,y.2=.free→X.env.kindOf y.1=some .cell) (hcell:∀ y∈scope.names,y.2≠.cell) (gn:scope.kind=.function)
    (hnames:∀ y∈scope.names,y.2=.local→scope.names.lookup y.1=some .local) (hlen:Nc.length=n+caps.length)
    (hcap:∀ (j k:Nat),caps[j]? = some k→∃ x,Nc[n+j]? = some x∧X.N[k]? = some x∧scope.names.lookup x=some .free)
    (hs:∀ x,foldedSetIterable iter X.env x=pure x:=by intro _;rfl) :
    PE X (.ListComp elt [⟨tg,iter,ifs,0⟩] scope pos) (kl wi g tt te n caps):=by
  intro pins s σ H Q I h
  rw[hxe,eval_ListComp]
  exact wD hxe hcalm hi hbody hfree hcell gn hnames hlen hcap (use:=none) I h (fun D C s5 H5 m I5 fC hn q=>⟨m,hn,fun h6 hs6=>⟨.ref D,H5,HQ I5 fC.1 fC hs6,rfl,q⟩⟩) hs
theorem wc {X:Cx}{tg iter elt:Expr}{ifs:List Expr}{scope:Scope}{pos spos py:Pos}{y:Str}{iy:Nat}{wi:TI}{g:TG}{tt:TT}{te:TE}{Nc:List Str}{n:Nat}{caps:List Nat}{Z:TE→TE}
    (hxe:X.xe=fun _ _=>False) (hcalm:X.calm=true) (hi:PI X tg iter wi)
    (hbody:∀ (cl:List (Str×Addr)) (C:Addr) (s₀:Shared) (H₀:Hp) (ex:List Addr),PG (a5 X scope Nc cl C s₀ H₀ ex) tg g∧xO (a5 X scope Nc cl C s₀ H₀ ex) ifs tt∧PE (a5 X scope Nc cl C s₀ H₀ ex) elt te)
    (hfree:∀ y∈scope.names,y.2=.free→X.env.kindOf y.1=some .cell) (hcell:∀ y∈scope.names,y.2≠.cell) (gn:scope.kind=.function)
    (hnames:∀ y∈scope.names,y.2=.local→scope.names.lookup y.1=some .local) (hlen:Nc.length=n+caps.length)
    (hcap:∀ (j k:Nat),caps[j]? = some k→∃ x,Nc[n+j]? = some x∧X.N[k]? = some x∧scope.names.lookup x=some .free)
    (pgy:PG X (.Name y py) (lZ iy))
    (hsw:swapsWith (.ListComp elt [⟨tg,iter,ifs,0⟩] scope pos) (some (.Name y py)) spos.line X.env=pure true)
    (hz:∀ (σ:L2.St) (H:Hp) (Q:VK),Z (kl wi g tt te n caps) σ H Q→∃ Q',kl wi g tt te n caps σ H Q'∧∀ pins D H5 s5,Inv X pins σ H5 s5→Q' (.ref D) H5→∃ H6,(∀ b,H5 b=none→H6 b=none)∧Inv X pins σ H6 s5∧Q (.ref D) H6)
    (hs:∀ x,foldedSetIterable iter X.env x=pure x:=by intro _;rfl) :
    PS X (.Assign [.Name y py] (.ListComp elt [⟨tg,iter,ifs,0⟩] scope pos) spos) (F9 (Z (kl wi g tt te n caps)) (lZ iy)):=by
  intro pins s σ H E' I h
  rw[hxe]
  rewrite [exec_Assign_Name_used _ _ _ _ hsw]
  refine wpAny_bind (wpAny_standAt ?_)
  refine wpAny_bind ?_
  refine (show wpAny _ X.A (do let _ ← comprehension (.ListComp elt [⟨tg,iter,ifs,0⟩] scope pos) scope X.env _ (newList []) false (eval iter X.env) (some (assign (.Name y py) X.env))) _ _ s from ?_)
  obtain ⟨Q',h',hq⟩:=hz σ H _ h
  refine wpAny_bind (wpAny_mono (wD hxe hcalm hi hbody hfree hcell gn hnames hlen hcap (use:=some (assign (.Name y py) X.env)) (Qv:=fun _ s'=>SP X pins E' .next s') I h' (fun D C s5 H5 m I5 fC hn q=>?_) hs) (fun _ s' hq=>wpAny_pure (wpAny_pure hq)) fun _ _ e=>e)
  obtain ⟨H6,fr,I6,q6⟩:=hq pins D H5 s5 I5 q
  have f0:=fr C fC.1
  have fC6:pP X pins H6 C:=⟨f0,fC.2⟩
  obtain ⟨oC,gC,dC⟩:∃ oC,s5.heap.get? C=some oC∧∀ v,oC.data≠.cell v:=by
    obtain ⟨oC,es,ep,ho,hd,_⟩:=hn
    exact ⟨oC,ho,fun v z=>by rw[hd] at z;cases z⟩
  have I5P:=I6.pinned (fp:=[C]) (fun b hb=>by cases List.mem_singleton.mp hb;exact fC6) (fun b hb=>by cases List.mem_singleton.mp hb;exact ⟨oC,gC,dC⟩)
  have as:=pgy _ s5 σ _ (.ref D) (.ref D) E'.nx I5P rfl q6
  rw[hxe] at as
  refine thn as fun _ s6 ⟨σ6,H7,I7,n7⟩=>?_
  obtain ⟨g7,f7,_⟩:=I7.pin (C,oC) (List.mem_append_right _ (List.mem_append_right _ (gx List.mem_cons_self gC)))
  exact ⟨m,hn.at' (fun o' e'=>by have e'':s5.heap.get? C=some o':=e';rw[gC] at e'';cases e'';exact g7),fun h8 hs8=>⟨σ6,H7,HQ I7.jj f7 fC6 hs8,n7⟩⟩
end
section
open PySem PySem.Spec PyProof.Rows L2
structure HG (K:PySem.W.Frag) (J:It) (H1:Hp) (ds:List D):Prop where
  go:∀ i H',Tk H1 H'→i < ds.length→J.go i H'
  yld:∀ i H' x H'',Tk H1 H'→i < ds.length→J.yld i H' x H''→Tk H' H''∧(∃ d,ds[i]? = some d∧Dp K H'' x d)∧∀ μ,bL K H' μ→bL K H'' μ
  stop:∀ i H',Tk H1 H'→ds.length≤i→J.stop i H'
def Oj (K:PySem.W.Frag)(wi:TI)(It':ATr):Prop:=∀ σ H ρ μ (Q:List D→Mu→Prop) (R:It→Hp→Prop),Rl K σ H ρ μ→It' ρ μ Q→(∀ J H1 ds μ1,Tk H H1→bL K H1 μ1→HG K J H1 ds→Q ds μ1→R J H1)→wi σ H R
structure LI (X:Cx) (tg iter:Expr) (It':ATr):Prop where
  ex:∃ wi,PI X tg iter wi∧Oj X.K wi It'
section
variable {X:Cx} {tg a b c e elt iter:Expr} {Ta Tb Te:ETr} {Tt:TTr} {pos:Pos} {It':ATr} {G:GTr}
theorem F5 {K:PySem.W.Frag}{H:Hp}{p:Addr}{xs:List V}{ds:List D}(q:SqT K H p xs)(l:DpL K H xs ds):HG K (Itt K p) H ds where
  go:=fun i H' t hi=>by
    have hl:=l.length
    exact ⟨xs,xs[i],t.sqT q,by simp[show i < xs.length by omega]⟩
  yld:=fun i H' x H'' t hi ⟨e,y⟩=>by
    subst e
    have ex:=y xs (t.sqT q)
    obtain ⟨d,ed,p⟩:=l.get' ex
    exact ⟨.refl _,⟨d,ed,p.mono t⟩,fun _ m=>m⟩
  stop:=fun i H' t hi=>⟨xs,t.sqT q,by rw[l.length];exact hi⟩
theorem JA {K:PySem.W.Frag}{H:Hp}{p:Addr}{xs:List V}{ds:List D}(q:SqF K H p xs)(l:DpL K H xs ds):HG K (Itl K p) H ds where
  go:=fun i H' t hi=>by
    have hl:=l.length
    exact ⟨xs,xs[i],(t.sqF q).sq,by simp[show i < xs.length by omega]⟩
  yld:=fun i H' x H'' t hi ⟨e,y⟩=>by
    subst e
    have ex:=y xs (t.sqF q).sq
    obtain ⟨d,ed,p⟩:=l.get' ex
    exact ⟨.refl _,⟨d,ed,p.mono t⟩,fun _ m=>m⟩
  stop:=fun i H' t hi=>⟨xs,(t.sqF q).sq,by rw[l.length];exact hi⟩
theorem dY (lo:Int)(n:Nat):(cx lo n).length=n:=by unfold cx;simp
theorem Ht {K:PySem.W.Frag}{H:Hp}(lo:Int)(n:Nat):HG K (Itr lo n) H (cx lo n) where
  go:=fun i H' t hi=>by rw[dY] at hi;exact hi
  yld:=fun i H' x H'' t hi ⟨e,y⟩=>by
    rw[dY] at hi
    subst e y
    exact ⟨.refl _,⟨.int (lo+i),by unfold cx;simp[hi],.int _⟩,fun _ m=>m⟩
  stop:=fun i H' t hi=>by rw[dY] at hi;exact hi
def Qf (a:ETr):ATr:=fun ρ μ Q=>a ρ μ fun x μ1=>match x with
  | .tup ds=>Q ds μ1
  | _=>False
def ILs (a:ETr):ATr:=fun ρ μ Q=>a ρ μ fun x μ1=>match x with
  | .ls ds=>Q ds μ1
  | _=>False
theorem mH {rp rpos:Pos}(hg:Gl X "range")(hm:X.mg "range" = none)(ha:LE X a Ta)(hs:starEach [a] X.env=[(false,eval a X.env)]:=by rfl):LI X tg (.Call (.Name "range" rp) [a] [] rpos) (gG Ta):=by
  obtain ⟨ta,pa,sa⟩:=ha.ex
  refine ⟨_,DB hg hm (fS pa jl hs) hs,fun σ H ρ μ Q R rl h k=>sa σ H ρ μ _ _ rl h fun x H1 d μ1 t1 m1 p1 h1=>?_⟩
  cases p1 with
  | int j=>
    obtain ⟨⟨h2,h3⟩,h4⟩:=h1
    exact ⟨j,rfl,by simpa using h2,by simpa using h3,k _ H1 _ μ1 t1 m1 (Ht 0 _) h4⟩
  | _=>exact False.elim h1
theorem Rh {t1:TS}{T1:STr}{g:TG}{E:En}{E':Ends}{K:PySem.W.Frag}{H0 H1:Hp}{J:It}{ds:List D}(sg:Nz K g G)(s1:F0 K t1 T1)(k:E4 K H0 E E')(Y:HG K J H1 ds){σ:L2.St}{ρ:ST}{μ:Mu}(t0:Tk H0 H1)(rl:Rl K σ H1 ρ μ)(h:forR G T1 E ds ρ μ) :
    ∃ W:Nat→Nat→L2.St→Hp→Prop,(∃ m,W 0 m σ H1)∧∀ i m σ H,W i m σ H→
      (J.stop i H∧E'.nx σ H)∨(J.go i H∧∃ N:L2.St→Hp→Prop,(∀ σ' H',N σ' H'→∃ m',m' < m∧W (i+1) m' σ' H')∧∀ x H',J.yld i H x H'→g x σ H' fun σ2 H2=>t1 { E' with nx:=N,ct:=N,bk:=E'.nx } σ2 H2):=by
  refine ⟨fun i m σ' H'=>m=ds.length - i∧i≤ds.length∧Tk H1 H'∧∃ ρ' μ',Rl K σ' H' ρ' μ'∧forR G T1 E (ds.drop i) ρ' μ',⟨ds.length,by simp,Nat.zero_le _,.refl _,ρ,μ,rl,by simpa using h⟩,?_⟩
  rintro i m σ1 H2 ⟨rfl,hi,t12,ρ1,μ1,r1,h1⟩
  by_cases hlt:i < ds.length
  · refine .inr ⟨Y.go i H2 t12 hlt,fun σ' H'=>Tk H1 H'∧∃ ρ' μ',Rl K σ' H' ρ' μ'∧forR G T1 E (ds.drop (i+1)) ρ' μ',fun σ' H' ⟨t',ρ',μ',r',h'⟩=>⟨ds.length - (i+1),by omega,rfl,hlt,t',ρ',μ',r',h'⟩,fun x H3 y=>?_⟩
    obtain ⟨t23,⟨d,ed,pd⟩,mk⟩:=Y.yld i H2 x H3 t12 hlt y
    have e:ds.drop i=d::ds.drop (i+1):=by
      refine (List.drop_eq_getElem_cons hlt).trans ?_
      congr 1
      rw[List.getElem?_eq_getElem hlt] at ed
      exact Option.some.inj ed
    rw[e] at h1
    have t13:=t12.trans t23
    refine sg σ1 H3 ρ1 μ1 _ _ _ _ (r1.go t23 (mk _ r1.mu)) pd h1 fun σ4 H4 ρ4 μ4 t4 r4 h4=>?_
    have t14:=t13.trans t4
    have t04:=t0.trans t14
    exact s1 σ4 H4 ρ4 μ4 _ _ r4 h4 ⟨fun σ' H' ρ' μ' t' r' q=>⟨t14.trans t',ρ',μ',r',q⟩,(k.go t04).rt,(k.go t04).nx,fun σ' H' ρ' μ' t' r' q=>⟨t14.trans t',ρ',μ',r',q⟩⟩
  · have e:i=ds.length:=by omega
    subst e
    rw[List.drop_length] at h1
    exact .inl ⟨Y.stop _ H2 t12 (Nat.le_refl _),k.nx _ _ _ _ (t0.trans t12) r1 h1⟩
theorem gs {body:List Stmt}{T1:STr}(hp:PassesOwn (model X.prog X.w) X.A X.env X.xe)(hc:X.calm=true)(hi:LI X tg iter It')(hG:LG X tg G)(hb:LSs X body T1)(hf:∀ x,foldedSetIterable iter X.env x=pure x:=by intro _;rfl) :
    LS X (.For tg iter body [] pos) (kg It' G T1):=by
  obtain ⟨wi,pi,si⟩:=hi.ex
  obtain ⟨g,pg,sg⟩:=hG.ex
  obtain ⟨t1,p1,s1⟩:=hb.ex
  exact ⟨_,N0 hp hc pi pg p1 hf,fun σ H ρ μ E E' rl h k=>si σ H ρ μ _ _ rl h fun J H1 ds μ1 t1' m1 Y h1=>Rh sg s1 k Y t1' (rl.go t1' m1) h1⟩
def lN (K:PySem.W.Frag)(T:ETr):TE:=fun σ H Q'=>∃ ρ μ Q,Rl K σ H ρ μ∧T ρ μ Q∧jq K H Q Q'
def liftT (K:PySem.W.Frag)(T:TTr):TT:=fun σ H Q'=>∃ ρ μ Q,Rl K σ H ρ μ∧T ρ μ Q∧∀ b H' μ',Tk H H'→bL K H' μ'→Q b μ'→Q' b H'
abbrev Mf (K:PySem.W.Frag)(n:Nat)(σ:L2.St)(H:Hp)(k:ST→Mu→Prop)(k':L2.St→Hp→Prop):Prop:=∀ σ' H' ρ' μ',Tk H H'→Rl K σ' H' ρ' μ'→(σ'.length=σ.length∧∀ j,n≤j→σ'[j]? = σ[j]?)→k ρ' μ'→k' σ' H'
def kY (K:PySem.W.Frag)(n:Nat)(G:GTr):TG:=fun v σ H k'=>∃ ρ μ d k,Rl K σ H ρ μ∧Dp K H v d∧G d ρ μ k∧Mf K n σ H k k'
theorem LE.pe (h:LE X e Te):PE X e (lN X.K Te):=by
  obtain ⟨t,p,s⟩:=h.ex
  exact fun pins st σ H Q I ⟨ρ,μ,Q0,rl,hT,k⟩=>p pins st σ H Q I (s σ H ρ μ Q0 Q rl hT k)
structure wm (X:Cx) (ifs:List Expr) (Tt:TTr):Prop where
  pe:xO X ifs (liftT X.K Tt)
theorem bX:wm X [] fo:=⟨fun pins s σ H Q I ⟨ρ,μ,Q0,rl,hT,k⟩=>II pins s σ H Q I (k true H μ (.refl H) rl.mu hT)⟩
theorem fA (h:LT X c Tt):wm X [c] Tt:=by
  obtain ⟨t,p,s⟩:=h.ex
  exact ⟨fun pins st σ H Q I ⟨ρ,μ,Q0,rl,hT,k⟩=>Lk p pins st σ H Q I (s σ H ρ μ Q0 Q rl hT k)⟩
structure LGc (X:Cx) (n:Nat) (tg:Expr) (G:GTr):Prop where
  pe:PG X tg (kY X.K n G)
theorem bj {x:Str}{n:Nat}(i:Nat)(hN:X.N.Nodup)(hin:i < n:=by decide)(hi:X.N[i]? = some x:=by rfl)(hx:Loc X.env.scope x:=by first | exact Or.inl rfl | exact Or.inr rfl)(hf:X.fn x=true∨X.env.scope.names.lookup x=some .local:=by first | exact .inr rfl | exact .inl rfl | assumption):LGc X n (.Name x pos) (aw i):=
  ⟨fun pins s σ H v u k' I r ⟨ρ,μ,d,k,rl,p,h,post⟩=>iL hN hi hx hf pins s σ H v u k' I r (post _ H _ μ (.refl H) (rl.set p i) ⟨by simp,fun j hj=>by rw[List.getElem?_set_ne (by omega)]⟩ h)⟩
theorem oq {K:PySem.W.Frag}{σ:L2.St}{H:Hp}{ρ:ST}{μ:Mu}(rl:Rl K σ H ρ μ)(n:Nat)(caps:List Nat):Rl K (ki σ n caps) H (fu ρ n caps) μ:=by
  refine ⟨by unfold ki fu;simp,fun i d e=>?_,rl.mu⟩
  have gen:∀ (n i:Nat),lk (List.replicate n none++caps.map (lk ρ)) i=some d→∃ j,i=n+j∧∃ k,caps[j]? = some k∧lk ρ k=some d:=by
    intro n
    induction n with
    | zero=>
      intro i h
      have h':lk (caps.map (lk ρ)) i=some d:=by simpa using h
      have g2:∀ (cs:List Nat) (i:Nat),lk (cs.map (lk ρ)) i=some d→∃ k,cs[i]? = some k∧lk ρ k=some d:=by
        intro cs
        induction cs with
        | nil=>intro i h;cases i<;>cases h
        | cons c r ih=>intro i h;cases i with
          | zero=>exact ⟨c,rfl,h⟩
          | succ i=>simpa using ih i h
      exact ⟨i,by omega,g2 caps i h'⟩
    | succ n ih=>
      intro i h
      cases i with
      | zero=>cases h
      | succ i=>
        obtain ⟨j,rfl,k,h1,h2⟩:=ih i h
        exact ⟨j,by omega,k,h1,h2⟩
  obtain ⟨j,rfl,k,h1,h2⟩:=gen n i e
  obtain ⟨v,h3,h4⟩:=rl.loc k d h2
  refine ⟨v,?_,h4⟩
  unfold ki
  rw[List.getElem?_append_right (by simp)]
  simp[h1,h3]
theorem JT {ifs:List Expr}{scope:Scope}{Nc:List Str}{n:Nat}{caps:List Nat}(hxe:X.xe=fun _ _=>False)(hcalm:X.calm=true)(hi:LI X tg iter It')
    (hbody:∀ (cl:List (Str×Addr)) (C:Addr) (s₀:Shared) (H₀:Hp) (ex:List Addr),LGc (a5 X scope Nc cl C s₀ H₀ ex) n tg G∧wm (a5 X scope Nc cl C s₀ H₀ ex) ifs Tt∧LE (a5 X scope Nc cl C s₀ H₀ ex) elt Te)
    (hfree:∀ y∈scope.names,y.2=.free→X.env.kindOf y.1=some .cell) (hcell:∀ y∈scope.names,y.2≠.cell) (gn:scope.kind=.function)
    (hnames:∀ y∈scope.names,y.2=.local→scope.names.lookup y.1=some .local) (hlen:Nc.length=n+caps.length)
    (hcap:∀ (j k:Nat),caps[j]? = some k→∃ x,Nc[n+j]? = some x∧X.N[k]? = some x∧scope.names.lookup x=some .free)
    (hs:∀ x,foldedSetIterable iter X.env x=pure x:=by intro _;rfl) :
    LE X (.ListComp elt [⟨tg,iter,ifs,0⟩] scope pos) (bW It' G Tt Te n caps):=by
  obtain ⟨wi,pi,si⟩:=hi.ex
  refine ⟨_,jI (A2 (g:=kY X.K n G) (tt:=liftT X.K Tt) (te:=lN X.K Te) hxe hcalm pi (fun cl C s₀ H₀ ex=>let ⟨h1,h2,h3⟩:=hbody cl C s₀ H₀ ex;⟨h1.pe,h2.pe,h3.pe⟩) hfree hcell gn hnames hlen hcap hs),?_⟩
  intro σ H ρ μ Q Q' rl h k
  refine si σ H ρ μ _ _ rl h fun J H1 ds μ1 t1 m1 Y h1 D hD=>?_
  have hp:=h1 D (m1.free hD)
  have tD:Tk H1 (L2.upd H1 D (.lst [])):=.new hD
  have mD:bL X.K (L2.upd H1 D (.lst [])) (up μ1 D (.lst [])):=fun a o e=>by
    by_cases ha:a=D
    · subst ha
      rw[aH] at e;cases e
      exact ⟨[],aL,.nil⟩
    · rw[aU ha] at e
      exact c7 m1 hD a o e
  refine ⟨fun i m ys H2=>m=ds.length - i∧i≤ds.length∧Tk H1 H2∧∃ μ2,bL X.K H2 μ2∧fM D G Tt Te (fu ρ n caps) (fun μ'=>kL μ' D fun zs=>Q (.ls zs) (dn μ' D)) (ds.drop i) μ2,
    ⟨ds.length,by simp,Nat.zero_le _,tD,_,mD,by simpa using hp⟩,?_⟩
  rintro i m ys H2 ⟨rfl,hi,t12,μ2,m2,h2⟩
  by_cases hlt:i < ds.length
  · refine .inr ⟨Y.go i H2 t12 hlt,fun ys' H'=>Tk H1 H'∧∃ μ',bL X.K H' μ'∧fM D G Tt Te (fu ρ n caps) (fun μ'=>kL μ' D fun zs=>Q (.ls zs) (dn μ' D)) (ds.drop (i+1)) μ',fun ys' H' ⟨t',μ',m',h'⟩=>⟨ds.length - (i+1),by omega,rfl,hlt,t',μ',m',h'⟩,fun x H3 y=>?_⟩
    obtain ⟨t23,⟨d,ed,pd⟩,mk⟩:=Y.yld i H2 x H3 t12 hlt y
    have e:ds.drop i=d::ds.drop (i+1):=by
      refine (List.drop_eq_getElem_cons hlt).trans ?_
      congr 1
      rw[List.getElem?_eq_getElem hlt] at ed
      exact Option.some.inj ed
    rw[e] at h2
    have t13:=t12.trans t23
    have r3:Rl X.K (ki σ n caps) H3 (fu ρ n caps) μ2:=oq (rl.go (t1.trans t13) (mk _ m2)) n caps
    refine ⟨_,_,d,_,r3,pd,h2,fun σ4 H4 ρ4 μ4 t4 r4 kp h4=>⟨⟨kp.1.symm,fun j v ej=>?_⟩,_,_,_,r4,h4,fun b H5 μ5 t5 m5 h5=>?_⟩⟩
    · by_cases hj:n≤j
      · rw[kp.2 j hj];exact ej
      · obtain ⟨j',k',e1,_⟩:=jD ej
        omega
    · have t15:=t13.trans (t4.trans t5)
      cases b with
      | false=>exact rn ⟨t15,μ5,m5,h5⟩
      | true=>
        refine ri ⟨_,_,_,r4.go t5 m5,h5,fun v H6 d6 μ6 t6 m6 p6 h6=>?_⟩
        obtain ⟨zs,ez,lz,h7⟩:=bP h6
        obtain ⟨xs,ex,lx⟩:=m6 D _ ez
        have t67:Tk H6 (L2.upd H6 D (.lst (xs++[v]))):=.upd (fun ys z=>by rw[ex] at z;cases z) fun o' u z=>by rw[ex] at z;cases z
        refine ⟨xs,ex,by rw[lx.length];exact Nat.lt_of_lt_of_le lz (by decide),(t15.trans t6).trans t67,up μ6 D (.lst (zs++[d6])),fun a o ea=>?_,h7⟩
        by_cases ha:a=D
        · subst ha
          rw[aH] at ea;cases ea
          exact ⟨_,aL,(lx.append (.cons p6 .nil)).mono t67⟩
        · rw[aU ha] at ea
          exact (m6 a _ ea).ne t67 ha
  · have e:i=ds.length:=by omega
    subst e
    rw[List.drop_length] at h2
    obtain ⟨zs,ez,hq⟩:=bP (show kL μ2 D fun zs=>Q (.ls zs) (dn μ2 D) from h2)
    obtain ⟨xs,ex,lx⟩:=m2 D _ ez
    refine .inl ⟨Y.stop _ H2 t12 (Nat.le_refl _),D,xs,rfl,ex,fun o=>?_⟩
    have t2f:Tk H2 (L2.upd H2 D (.frz o (.lst xs))):=.upd (fun ys z=>by rw[ex] at z;cases z) fun o' u z=>by rw[ex] at z;cases z
    refine k _ _ _ (dn μ2 D) ((t1.trans t12).trans t2f) (fun a o' ea=>?_) (.ls (.inl ⟨o,aL⟩) (lx.mono t2f)) hq
    have ha:a≠D:=fun z=>by subst z;unfold dn at ea;rw[if_pos rfl] at ea;cases ea
    have ea':μ2 a=some o':=by unfold dn at ea;rw[if_neg ha] at ea;exact ea
    exact (m2 a _ ea').ne t2f ha
end
end
section
open PySem PySem.Spec PyProof.Rows L2
def gT (fn:List (Str×NameKind))(XN:List Str)(sc:Scope)(Nc:List Str)(n:Nat)(caps:List Nat):Bool:=
  sc.names.all (fun y=>(y.2 != .free || fn.lookup y.1 == some .cell)&&y.2 != .cell&&(y.2 != .local || sc.names.lookup y.1 == some .local))&&sc.kind == .function&&Nc.length == n+caps.length &&
  (List.range caps.length).all fun j=>match caps[j]? with
    | some k=>(match XN[k]? with
      | some x=>Nc[n+j]? == some x&&sc.names.lookup x == some .free
      | none=>false)
    | none=>false
section
variable {X:Cx} {tg a b c e elt iter:Expr} {Ta Tb Te:ETr} {Tt:TTr} {pos:Pos} {It':ATr} {G:GTr}
theorem bM {ifs:List Expr}{scope fsc:Scope}(XN Nc:List Str)(n:Nat)(caps:List Nat)(hxe:X.xe=fun _ _=>False)(hcalm:X.calm=true)(hi:LI X tg iter It')
    (hbody:∀ (cl:List (Str×Addr)) (C:Addr) (s₀:Shared) (H₀:Hp) (ex:List Addr),LGc (a5 X scope Nc cl C s₀ H₀ ex) n tg G∧wm (a5 X scope Nc cl C s₀ H₀ ex) ifs Tt∧LE (a5 X scope Nc cl C s₀ H₀ ex) elt Te)
    (hsc:X.env.scope=fsc) (hXN:X.N=XN) (hok:gT fsc.names XN scope Nc n caps=true)
    (hs:∀ x,foldedSetIterable iter X.env x=pure x:=by intro _;rfl) :
    LE X (.ListComp elt [⟨tg,iter,ifs,0⟩] scope pos) (bW It' G Tt Te n caps):=by
  unfold gT at hok
  simp only[Bool.and_eq_true,List.all_eq_true] at hok
  obtain ⟨⟨⟨h1,h2⟩,h3⟩,h4⟩:=hok
  refine JT hxe hcalm hi hbody (fun y hy hf=>?_) (fun y hy hf=>?_) (by simpa using h2) (fun y hy hf=>?_) (by simpa using h3) (fun j k hj=>?_) hs
  · have:=(h1 y hy).1.1
    show X.env.scope.names.lookup y.1=_
    rw[hsc]
    simpa[hf] using this
  · have:=(h1 y hy).1.2
    simp[hf] at this
  · have:=(h1 y hy).2
    simpa[hf] using this
  · have hl:j < caps.length:=(List.getElem?_eq_some_iff.mp hj).1
    have:=h4 j (List.mem_range.mpr hl)
    rw[hj] at this
    dsimp only at this
    rw[hXN]
    cases e:XN[k]? with
    | none=>rw[e] at this;cases this
    | some x=>
      rw[e] at this
      dsimp only at this
      rw[Bool.and_eq_true] at this
      exact ⟨x,by simpa using this.1,rfl,by simpa using this.2⟩
end
theorem m7:∀ {bs:List Bool} {us:List Value},Vals (bs.map V.bl) us→LSm.BoolsAre us bs
  | [],_,.nil=>.nil
  | b::r,_,.cons h t=>by
    cases (show _=Value.bool b from h)
    exact .cons b (m7 t)
theorem Cu {X:Cx}(hc:X.calm=true):cH X (.builtin "all") (fun xs H Q=>∃ (p:Addr) (ys:List V) (bs:List Bool),xs=[.ref p]∧SqL X.K H p ys∧ys=bs.map V.bl∧Q (.bl (bs.all id)) H):=fun pins s σ H xs us Q I rx ⟨p,ys,bs,e1,sq,e2,q⟩=>by
  subst e1 e2
  cases rx with | cons r1 r2=>
  cases r2
  cases (show _=Value.ref p from r1)
  obtain ⟨its,rv,pl,_⟩:=I.list sq
  have ils:s.heap.IsList p its.toArray:=by
    obtain ⟨o,n,h1,h2,_,h3⟩:=pl
    exact ⟨o,h1,h2,n,h3⟩
  have bls:=m7 rv
  have hlt:p < s.heap.objs.size:=by obtain ⟨_,e,_⟩:=ils;exact Heap.lt_size e
  refine call_all_walk (wpAny_pyIter_list ils ?_)
  refine ⟨s.heap.objs.size,[s.heap.objs.size,p],[s.heap.objs.size],its.toArray.size,_,_,fun i=>(bs[i]?).getD true,rfl,Walks.list (A:=X.A.in1) (I.ok.hd hc) _ p (Nat.ne_of_lt hlt) its.toArray,
    ⟨⟨_,Heap.get?_push_size _ rfl,rfl,rfl⟩,ils.push _⟩,fun i v s' Q' E' gP gQ=>?_,fun h' tk hk=>?_⟩
  · obtain ⟨b,e,rfl⟩:=bls.get i v (by simpa using gP)
    simp only[e,Option.getD_some] at gQ
    exact wpAny_truthy_bool gQ
  · have e:((List.range its.toArray.size).all fun i=>(bs[i]?).getD true)=bs.all id:=by
      rw[List.size_toArray,bls.length];exact LSm.range_all bs
    rw[e]
    exact ⟨.bl _,H,I.kept (LSm.kept_iter hk),rfl,q⟩
theorem DpL.bools {K:PySem.W.Frag}{H:Hp}:∀ {xs:List V} {bs:List Bool},DpL K H xs (bs.map .bl)→xs=bs.map V.bl
  | _,[],.nil=>rfl
  | _,b::r,.cons h l=>by cases h;rw[DpL.bools l];rfl
theorem Lw {K:PySem.W.Frag}:kX K (fun xs H Q=>∃ (p:Addr) (ys:List V) (bs:List Bool),xs=[.ref p]∧SqL K H p ys∧ys=bs.map V.bl∧Q (.bl (bs.all id)) H) MD:=fun H μ xs ds Q Q' m p h k=>by
  unfold MD at h
  split at h
  · obtain ⟨bs,rfl,h⟩:=h
    cases p with | cons p1 p2=>cases p2;cases p1 with | ls q l=>exact ⟨_,_,bs,rfl,q.sq,l.bools,k _ H _ μ (.refl H) m (.bl _) h⟩
  · exact h.elim
end
section
open PySem PySem.Spec PyProof.Rows L2
def GV (K:PySem.W.Frag)(mg:Str→Option Value)(x:Str)(d:D):Prop:=∃ u v,mg x=some u∧RelV v u∧∀ H,Dp K H v d
theorem aE {X:Cx}{x:Str}{pos:Pos}{d:D}(hg:Gl X x)(h:GV X.K X.mg x d)(hd:(x == ("__debug__" : Str))=false:=by decide):LE X (.Name x pos) (TC d):=by
  obtain ⟨u,v,hm,r,p⟩:=h
  exact ⟨_,J1 hg hm r hd,fun σ H ρ μ Q Q' rl h k=>k v H d μ (.refl H) rl.mu (p H) h⟩
section
variable {K:PySem.W.Frag} {h:Heap} {mg:Str→Option Value} {x:Str}
theorem bh {i:Int}{t:Tok}(X:K.In h)(G:h.Ns mainGlobals mg)(a:PySem.W.nsIn K mainGlobals x=some (some (.int i t))):GV K mg x (.int i):=⟨_,.int i,PySem.W.mg_of X G a,⟨t,rfl⟩,fun _=>.int i⟩
theorem zx {p:Addr}{o:Obj}{its:Array Value}{n:Nat}{xs:List V}{ds:List D}(X:K.In h)(G:h.Ns mainGlobals mg)(a:PySem.W.nsIn K mainGlobals x=some (some (.ref p)))(l:K.lookup p=some o)(c:o.cls=.type "tuple")(dn:o.dict=none)(d:o.data=.seq its n)
    (z:its.size≤sizeLine) (r:Vals xs its.toList) (q:∀ H,DpL K H xs ds):GV K mg x (.tup ds):=⟨_,.ref p,PySem.W.mg_of X G a,rfl,fun H=>.tup (.inr ⟨o,its,n,l,c,dn,d,z,r⟩) (q H)⟩
end
def jt:ST→List Nat→List D→ST
  | ρ,i::is,d::ds=>jt (ρ.set i (some d)) is ds
  | ρ,_,_=>ρ
def eM (is:List Nat):GTr:=fun d ρ μ k=>match d with
  | .tup ds=>ds.length=is.length∧k (jt ρ is ds) μ
  | _=>False
def Qj (K:PySem.W.Frag)(t:TGs)(is:List Nat):Prop:=∀ σ H ρ μ vs ds (k:ST→Mu→Prop) (k':L2.St→Hp→Prop),Rl K σ H ρ μ→DpL K H vs ds→ds.length=is.length→k (jt ρ is ds) μ→xj K H k k'→t vs σ H k'
structure LGs (X:Cx) (es:List Expr) (is:List Nat):Prop where
  ex:∃ t,PGs X es t∧Qj X.K t is
section
variable {X:Cx} {e tg:Expr} {es:List Expr} {is:List Nat} {pos:Pos} {x:Str} {Ta:ETr} {G:GTr}
theorem iH:LGs X [] []:=⟨_,BB,fun σ H ρ μ vs ds k k' rl l hl h q=>by
  cases ds with
  | nil=>cases l;exact ⟨rfl,q _ _ _ _ (.refl H) rl h⟩
  | cons=>cases hl⟩
theorem bu (i:Nat)(hN:X.N.Nodup)(h2:LGs X es is)(hi:X.N[i]? = some x:=by rfl)(hx:Loc X.env.scope x:=by first | exact Or.inl rfl | exact Or.inr rfl)(hf:X.fn x=true∨X.env.scope.names.lookup x=some .local:=by first | exact .inl rfl | exact .inr rfl | assumption)
    (hs:(assignEach (.Name x pos::es) X.env).map (·.2)=assign (.Name x pos) X.env::(assignEach es X.env).map (·.2):=by rfl):LGs X (.Name x pos::es) (i::is):=by
  obtain ⟨t,pt,st⟩:=h2.ex
  refine ⟨_,wF (iL hN hi hx hf) pt hs,fun σ H ρ μ vs ds k k' rl l hl h q=>?_⟩
  cases l with
  | nil=>cases hl
  | @cons v d vs ds p l=>exact ⟨v,vs,rfl,st _ H _ μ vs ds k k' (rl.set p i) l (by simpa using hl) h q⟩
theorem kC {k:Nat}(hc:X.calm=true)(h:LGs X es is)(hn:(assignEach es X.env).length=is.length:=by rfl)(hst:(assignEach es X.env).findIdx? (·.1)=none:=by rfl):LG X (.Tuple es k pos) (eM is):=by
  obtain ⟨t,pt,st⟩:=h.ex
  refine ⟨_,FD hc pt hn hst,fun σ H ρ μ v d k k' rl p h q=>?_⟩
  cases p with
  | @tup a xs ds sq l=>exact ⟨a,xs,rfl,sq,by rw[l.length];exact h.1,st σ H ρ μ xs ds k k' rl l h.1 h.2 q⟩
  | _=>exact False.elim h
theorem G5 (he:LE X e Ta)(hG:LG X tg G)(hs:swapsWithSole [tg] e pos.line X.env=pure false:=by rfl)(hw:swappedStores [tg] e X.env=pure none:=by rfl)
    (h1:(assignEach [tg] X.env).map (·.2)=[assign tg X.env]:=by rfl):LS X (.Assign [tg] e pos) (aP Ta G):=by
  obtain ⟨ta,pa,sa⟩:=he.ex
  obtain ⟨g,pg,sg⟩:=hG.ex
  exact ⟨_,OE pa pg hs hw h1,fun σ H ρ μ E E' rl h k=>sa σ H ρ μ _ _ rl h fun v H' d μ' t' m' p' h'=>sg σ H' ρ μ' v d _ _ (rl.go t' m') p' h' (k.go t').nx⟩
end
end
section
open PySem PySem.Spec PyProof.Rows L2
def ir (tp:Bool)(h:Heap)(it a:Addr)(i:Nat):Prop:=match tp with
  | true=>h.IsTupleIter it a i
  | false=>h.IsListIter it a i
def fT (tp:Bool)(h:Heap)(a:Addr)(xs:Array Value):Prop:=match tp with
  | true=>h.IsTuple a xs
  | false=>h.IsList a xs
theorem ir.at {tp:Bool}{h g:Heap}{it a:Addr}{i:Nat}(x:ir tp h it a i)(k:∀ o,h.get? it=some o→g.get? it=some o):ir tp g it a i:=by
  cases tp with
  | true=>obtain ⟨o,e,r⟩:=x;exact ⟨o,k o e,r⟩
  | false=>obtain ⟨o,e,r⟩:=x;exact ⟨o,k o e,r⟩
theorem fT.at {tp:Bool}{h g:Heap}{a:Addr}{xs:Array Value}(x:fT tp h a xs)(k:∀ o,h.get? a=some o→g.get? a=some o):fT tp g a xs:=by
  cases tp with
  | true=>obtain ⟨o,e,r⟩:=x;exact ⟨o,k o e,r⟩
  | false=>obtain ⟨o,e,r⟩:=x;exact ⟨o,k o e,r⟩
theorem ir.ex {tp:Bool}{h:Heap}{it a:Addr}{i:Nat}(x:ir tp h it a i):∃ o,h.get? it=some o∧∃ vs,o.data=.fields vs:=by
  cases tp with
  | true=>obtain ⟨o,e,_,d⟩:=x;exact ⟨o,e,_,d⟩
  | false=>obtain ⟨o,e,_,d⟩:=x;exact ⟨o,e,_,d⟩
section
variable {prog:Program} {w:World} {A:Around} {E:Value→Shared→Prop} {s:Shared}
theorem ED {it t:Addr}{i:Nat}{xs:Array Value}{x:Value}{Q:Value→Shared→Prop}(hi:s.heap.IsTupleIter it t i)(ht:s.heap.IsTuple t xs)(hx:xs[i]? = some x)
    (k:∀ g,g.IsTupleIter it t (i+1)→Heap.SameBut it s.heap g→Q x { s with heap:=g }):wpAny (model prog w) A (Builtin.SmallTypes.nextOf (.ref it)) Q E s:=by
  obtain ⟨ob,gb,cb,db⟩:=id hi
  obtain ⟨ot,gt,_,nt,dt⟩:=ht
  delta Builtin.SmallTypes.nextOf
  refine wpAny_bind (wpAny_callSpecial?_slot (name:=Str.ofString "__next__") hi.typeIs F.slot_tuple_iterator_next (wpAny_call_entry F.slot_tuple_iterator_next hi.typeIs F.entry_tuple_iterator_next ?_ (F.args_tuple_iterator_next_1 _)))
  refine wpAny_bind (m:=field (.ref it) 0) (wpAny_field gb db (x:=.ref t) rfl ?_)
  refine (show wpAny _ _ (if (Value.ref t == Value.none)=true then _ else _) _ _ s from ?_)
  rw[if_neg (show ¬ ((Value.ref t == Value.none)=true) by intro z;cases z)]
  refine wpAny_bind (m:=field (.ref it) 1) (wpAny_field gb db (x:=.int i 0) rfl ?_)
  refine wpAny_bind (m:=seqItems? (.ref t)) (wpAny_seqItems gt dt ?_)
  simp only[hx,Int.toNat_natCast]
  refine wpAny_bind (wpAny_setField gb db (by simp) (wpAny_pure ⟨x,rfl,wpAny_pure (k _ ⟨_,Heap.get?_update_self _ gb (Obj.isFreed_of_fields (Obj.data_mapFields db _)),(Obj.cls_mapFields ..).trans cb,?_⟩ (Heap.SameBut.update ..))⟩))
  rw[Obj.data_mapFields db];simp[rawInt]
theorem oG {tp:Bool}{it a:Addr}{i:Nat}{xs:Array Value}{x:Value}{Q:Value→Shared→Prop}(hi:ir tp s.heap it a i)(hs:fT tp s.heap a xs)(hx:xs[i]? = some x)
    (k:∀ g,ir tp g it a (i+1)→Heap.SameBut it s.heap g→Q x { s with heap:=g }):wpAny (model prog w) A (Builtin.SmallTypes.nextOf (.ref it)) Q E s:=by
  cases tp with
  | true=>exact ED hi hs hx k
  | false=>exact wpAny_nextOf_list_item hi hs hx k
theorem K8 {it t:Addr}{i:Nat}{xs:Array Value}{Q:Value→Shared→Prop}(hh:A.handled=none)(hi:s.heap.IsTupleIter it t i)(ht:s.heap.IsTuple t xs)(hx:xs[i]? = none)
    (k:∀ g e,Heap.ExtBut it s.heap g→(∃ o,g.get? e=some o∧o.cls=.type "StopIteration")→E (.ref e) { s with heap:=g }):wpAny (model prog w) A (Builtin.SmallTypes.nextOf (.ref it)) Q E s:=by
  obtain ⟨ob,gb,cb,db⟩:=id hi
  obtain ⟨ot,gt,_,nt,dt⟩:=ht
  delta Builtin.SmallTypes.nextOf
  refine wpAny_bind (wpAny_callSpecial?_slot (name:=Str.ofString "__next__") hi.typeIs F.slot_tuple_iterator_next (wpAny_call_entry F.slot_tuple_iterator_next hi.typeIs F.entry_tuple_iterator_next ?_ (F.args_tuple_iterator_next_1 _)))
  refine wpAny_bind (m:=field (.ref it) 0) (wpAny_field gb db (x:=.ref t) rfl ?_)
  refine (show wpAny _ _ (if (Value.ref t == Value.none)=true then _ else _) _ _ s from ?_)
  rw[if_neg (show ¬ ((Value.ref t == Value.none)=true) by intro z;cases z)]
  refine wpAny_bind (m:=field (.ref it) 1) (wpAny_field gb db (x:=.int i 0) rfl ?_)
  refine wpAny_bind (m:=seqItems? (.ref t)) (wpAny_seqItems gt dt ?_)
  simp only[hx,Int.toNat_natCast]
  refine wpAny_bind (wpAny_rule (wpAny_bind (wpAny_setField gb db (by simp) (wpAny_bind (m:=newExc (.type "StopIteration") []) ?_))))
  simp only[newExc,newTuple]
  refine wpAny_bind (wpAny_newObj_type (wpAny_bind (m:=firstArgMember _ _) (wpAny_of_eq (a:=Value.none) (by first | rfl | (simp only[firstArgMember];rfl)) (wpAny_newObj_type ?_ (by size_fits)))) (by size_fits))
  simp only[raiseNew]
  refine wpAny_bind <| wpAny_handled ?_
  rw[(show A.in1.handled=none from hh)]
  exact wpAny_bind (wpAny_pure (wpAny_throw (k _ _ (((Heap.SameBut.update ..).extBut.push _).push _) ⟨_,Heap.get?_push_size _ rfl,rfl⟩)))
theorem yk {tp:Bool}{it a:Addr}{i:Nat}{xs:Array Value}{Q:Value→Shared→Prop}(hh:A.handled=none)(hi:ir tp s.heap it a i)(hs:fT tp s.heap a xs)(hx:xs[i]? = none)
    (k:∀ g e,Heap.ExtBut it s.heap g→(∃ o,g.get? e=some o∧o.cls=.type "StopIteration")→E (.ref e) { s with heap:=g }):wpAny (model prog w) A (Builtin.SmallTypes.nextOf (.ref it)) Q E s:=by
  cases tp with
  | true=>exact K8 hh hi hs hx k
  | false=>exact wpAny_nextOf_list_end hh hi hs hx k
structure Zp (z ti to i j a b:Addr):Prop where
  nd:[z,ti,to,i,j].Nodup
  na:a ∉ [z,to,i,j]
  nb:b ∉ [z,to,i,j]
structure ZAt (ta tb:Bool) (h:Heap) (z ti to i j a b:Addr) (k:Nat):Prop where
  zz:PySem.IsZip h z ti to .none
  zt:PySem.IsPair h ti (.ref i) (.ref j)
  zo:∃ u v,PySem.IsPair h to u v
  zi:ir ta h i a k
  zj:ir tb h j b k
theorem Ce {ta tb:Bool}{z ti to i j a b:Addr}{k:Nat}{xs ys:Array Value}{x y:Value}{Q:Option Value→Shared→Prop}(Z:Zp z ti to i j a b)(S:ZAt ta tb s.heap z ti to i j a b k)(ha:fT ta s.heap a xs)(hb:fT tb s.heap b ys)(hx:xs[k]? = some x)(hy:ys[k]? = some y)
    (q:∀ g,PySem.IsZip g z ti to (rawInt s.heap.objs.size)→PySem.IsPair g ti (.ref i) (.ref j)→PySem.IsPair g to x y→ir ta g i a (k+1)→ir tb g j b (k+1)→PySem.IsPair g s.heap.objs.size x y→
      (∀ c o,c≠z→c≠to→c≠i→c≠j→s.heap.get? c=some o→g.get? c=some o)→Q (some (.ref s.heap.objs.size)) { s with heap:=g }):wpAny (model prog w) A (pyNext (.ref z)) Q E s:=by
  obtain ⟨zz,zt,⟨u,v,zo⟩,zi,zj⟩:=S
  obtain ⟨nd,na,nb⟩:=Z
  simp only[List.nodup_cons,List.mem_cons,List.not_mem_nil,or_false,not_or] at nd na nb
  obtain ⟨⟨n1,n2,n3,n4⟩,⟨n5,n6,n7⟩,⟨n8,n9⟩,n10,_⟩:=nd
  obtain ⟨a1,a2,a3,a4⟩:=na
  obtain ⟨b1,b2,b3,b4⟩:=nb
  have hT:s.TypeIs (.ref z) "zip" := ⟨_,zz,rfl⟩
  unfold pyNext
  refine wpAny_bind (wpAny_attempt (wpAny_callSpecial?_slot (name:=Str.ofString "__next__") hT F.slot_zip_next (wpAny_call_entry F.slot_zip_next hT F.entry_zip_next ?_ (F.args_zip_next_1 _))))
  refine wpAny_bind (m:=field (.ref z) 2) (wpAny_field zz rfl (x:=.bool false) rfl ?_)
  refine wpAny_bind (m:=field (.ref z) 3) (wpAny_field zz rfl (x:=.ref ti) rfl (wpAny_bind (wpAny_seqItems zt rfl (wpAny_bind (m:=Builtin.SmallTypes.ownedTupleIsFree (.ref z)) ?_))))
  delta Builtin.SmallTypes.ownedTupleIsFree
  refine wpAny_bind (wpAny_field zz rfl (x:=.none) rfl (wpAny_pure ?_))
  simp only[if_true]
  refine wpAny_bind (wpAny_rule (wpAny_bind (wpAny_field zz rfl (x:=.ref to) rfl (wpAny_bind (wpAny_setField_rec zz (by simp) fun g1 zz1 k1=>wpAny_bind ?_)))))
  have zz1:PySem.IsZip g1 z ti to .ellipsis:=zz1
  simp only[List.zipIdx_nil,List.zipIdx_cons,List.forIn_nil,List.forIn_cons]
  refine wpAny_bind (wpAny_bind (wpAny_onRaise (wpAny_bind (m:=Builtin.SmallTypes.nextOf (.ref i)) (oG (s:={ s with heap:=g1 }) (zi.at fun o e=>(k1.2 i (Ne.symm n3)).trans e) (ha.at fun o e=>(k1.2 a a1).trans e) hx fun g2 zi2 k2=>wpAny_pure ?_))))
  have zo2:PySem.IsPair g2 to u v:=(k2.2 to n8).trans ((k1.2 to (Ne.symm n2)).trans zo)
  refine wpAny_bind (wpAny_seqItems zo2 rfl (wpAny_bind (PySem.wpAny_updateSeq_pair zo2 fun g3 zo3 k3=>wpAny_bind (wpAny_letGo (wpAny_pure ?_)))))
  have zo3:PySem.IsPair g3 to x v:=zo3
  refine wpAny_bind (wpAny_bind (wpAny_onRaise (wpAny_bind (m:=Builtin.SmallTypes.nextOf (.ref j)) (oG (s:={ s with heap:=g3 }) (zj.at fun o e=>(k3.2 j (Ne.symm n9)).trans ((k2.2 j (Ne.symm n10)).trans ((k1.2 j (Ne.symm n4)).trans e)))
    (hb.at fun o e=>(k3.2 b b2).trans ((k2.2 b b3).trans ((k1.2 b b1).trans e))) hy fun g4 zj4 k4=>wpAny_pure ?_))))
  have zo4:PySem.IsPair g4 to x v:=(k4.2 to n9).trans zo3
  refine wpAny_bind (wpAny_seqItems zo4 rfl (wpAny_bind (PySem.wpAny_updateSeq_pair zo4 fun g5 zo5 k5=>wpAny_bind (wpAny_letGo (wpAny_pure (wpAny_pure ?_))))))
  have zo5:PySem.IsPair g5 to x y:=zo5
  refine wpAny_bind (wpAny_seqItems zo5 rfl (wpAny_bind (wpAny_newTuple (wpAny_bind (m:=Builtin.SmallTypes.ownedTupleHandOut (.ref z) (.ref g5.objs.size)) ?_))))
  have sz:g5.objs.size=s.heap.objs.size:=by rw[k5.1,k4.1,k3.1,k2.1,k1.1]
  have zz5:PySem.IsZip g5 z ti to .ellipsis:=(k5.2 z n2).trans ((k4.2 z n4).trans ((k3.2 z n2).trans ((k2.2 z n3).trans zz1)))
  have zlt:z < g5.objs.size:=Heap.lt_size zz5
  delta Builtin.SmallTypes.ownedTupleHandOut
  have zz6:PySem.IsZip (g5.push { cls:=.type "tuple", data:=.seq #[x,y] }) z ti to .ellipsis:=Heap.get?_push_of_some _ zz5
  refine wpAny_bind (wpAny_setField_rec zz6 (by simp) fun g7 zz7 k7=>?_)
  have zz7:PySem.IsZip g7 z ti to (rawInt g5.objs.size):=zz7
  refine wpAny_setField_rec zz7 (by simp) fun g8 zz8 k8=>wpAny_pure ⟨_,rfl,wpAny_pure ?_⟩
  have up5:∀ c o,c≠z→g5.get? c=some o→g8.get? c=some o:=fun c o c1 e=>(k8.2 c c1).trans ((k7.2 c c1).trans (Heap.get?_push_of_some _ e))
  have QB:PySem.IsPair g8 g5.objs.size x y:=(k8.2 _ (Nat.ne_of_gt zlt)).trans ((k7.2 _ (Nat.ne_of_gt zlt)).trans (Heap.get?_push_size _ rfl))
  have zz8:PySem.IsZip g8 z ti to (rawInt g5.objs.size):=zz8
  rw[sz] at zz8 QB
  have all:∀ c o,c≠z→c≠to→c≠i→c≠j→s.heap.get? c=some o→g8.get? c=some o:=fun c o c1 c2 c3 c4 e=>up5 c o c1 ((k5.2 c c2).trans ((k4.2 c c4).trans ((k3.2 c c2).trans ((k2.2 c c3).trans ((k1.2 c c1).trans e)))))
  have fin:=q g8 zz8 (all ti _ (Ne.symm n1) n5 n6 n7 zt) (up5 to _ (Ne.symm n2) zo5) (zi2.at fun o e=>up5 i o (Ne.symm n3) ((k5.2 i (Ne.symm n8)).trans ((k4.2 i n10).trans ((k3.2 i (Ne.symm n8)).trans e)))) (zj4.at fun o e=>up5 j o (Ne.symm n4) ((k5.2 j (Ne.symm n9)).trans e)) QB all
  rw[← sz] at fin
  exact fin
theorem EE {ta tb:Bool}{z ti to i j a b:Addr}{k:Nat}{xs ys:Array Value}{Q:Option Value→Shared→Prop}(hh:A.handled=none)(Z:Zp z ti to i j a b)(S:ZAt ta tb s.heap z ti to i j a b k)(ha:fT ta s.heap a xs)(hb:fT tb s.heap b ys)(he:xs[k]? = none∨ys[k]? = none)
    (q:∀ g,(∀ c o,c≠z→c≠to→c≠i→c≠j→s.heap.get? c=some o→g.get? c=some o)→Q none { s with heap:=g }):wpAny (model prog w) A (pyNext (.ref z)) Q E s:=by
  obtain ⟨zz,zt,⟨u,v,zo⟩,zi,zj⟩:=S
  obtain ⟨nd,na,nb⟩:=Z
  simp only[List.nodup_cons,List.mem_cons,List.not_mem_nil,or_false,not_or] at nd na nb
  obtain ⟨⟨n1,n2,n3,n4⟩,⟨n5,n6,n7⟩,⟨n8,n9⟩,n10,_⟩:=nd
  obtain ⟨a1,a2,a3,a4⟩:=na
  obtain ⟨b1,b2,b3,b4⟩:=nb
  have hT:s.TypeIs (.ref z) "zip" := ⟨_,zz,rfl⟩
  have stop:∀ g e,(∃ o,g.get? e=some o∧o.cls=.type "StopIteration")→(∀ c o,c≠z→c≠to→c≠i→c≠j→s.heap.get? c=some o→g.get? c=some o)→
      wpAny (model prog w) A (isInstance (.ref e) (.type "StopIteration") >>= fun y=>if y=true then pure none else throw (.ref e)) Q E { s with heap:=g }:=fun g e ⟨o,ho,hc⟩ al=>by
    refine wpAny_bind <| wpAny_isInstance (T := "StopIteration") (b:=true) ⟨o,ho,hc⟩ isSubtype_stop ?_
    exact wpAny_pure (q g al)
  unfold pyNext
  refine wpAny_bind (wpAny_attempt (wpAny_callSpecial?_slot (name:=Str.ofString "__next__") hT F.slot_zip_next (wpAny_call_entry F.slot_zip_next hT F.entry_zip_next ?_ (F.args_zip_next_1 _))))
  refine wpAny_bind (m:=field (.ref z) 2) (wpAny_field zz rfl (x:=.bool false) rfl ?_)
  refine wpAny_bind (m:=field (.ref z) 3) (wpAny_field zz rfl (x:=.ref ti) rfl (wpAny_bind (wpAny_seqItems zt rfl (wpAny_bind (m:=Builtin.SmallTypes.ownedTupleIsFree (.ref z)) ?_))))
  delta Builtin.SmallTypes.ownedTupleIsFree
  refine wpAny_bind (wpAny_field zz rfl (x:=.none) rfl (wpAny_pure ?_))
  simp only[if_true]
  refine wpAny_bind (wpAny_rule (wpAny_bind (wpAny_field zz rfl (x:=.ref to) rfl (wpAny_bind (wpAny_setField_rec zz (by simp) fun g1 zz1 k1=>wpAny_bind ?_)))))
  have zz1:PySem.IsZip g1 z ti to .ellipsis:=zz1
  simp only[List.zipIdx_nil,List.zipIdx_cons,List.forIn_nil,List.forIn_cons]
  have zi1:ir ta g1 i a k:=zi.at fun o e=>(k1.2 i (Ne.symm n3)).trans e
  have ha1:fT ta g1 a xs:=ha.at fun o e=>(k1.2 a a1).trans e
  refine wpAny_bind (wpAny_bind (wpAny_onRaise (wpAny_bind (m:=Builtin.SmallTypes.nextOf (.ref i)) ?_)))
  cases hx:xs[k]? with
  | none=>
    refine yk (s:={ s with heap:=g1 }) hh zi1 ha1 hx fun g2 e k2 he2=>?_
    obtain ⟨oe,ge,ce⟩:=he2
    have zz2:PySem.IsZip g2 z ti to .ellipsis:=k2 z _ n3 zz1
    have ez:e≠z:=fun y=>by subst y;rw[zz2] at ge;cases ge;simp at ce
    refine wpAny_setField_rec zz2 (by simp) fun g3 _ k3=>stop g3 e ⟨oe,(k3.2 e ez).trans ge,ce⟩ fun c o c1 _ c3 _ y=>(k3.2 c c1).trans (k2 c o c3 ((k1.2 c c1).trans y))
  | some x=>
    have hy:ys[k]? = none:=by rcases he with h | h;rw[hx] at h;cases h;exact h
    refine oG (s:={ s with heap:=g1 }) zi1 ha1 hx fun g2 zi2 k2=>wpAny_pure ?_
    have zo2:PySem.IsPair g2 to u v:=(k2.2 to n8).trans ((k1.2 to (Ne.symm n2)).trans zo)
    refine wpAny_bind (wpAny_seqItems zo2 rfl (wpAny_bind (PySem.wpAny_updateSeq_pair zo2 fun g3 zo3 k3=>wpAny_bind (wpAny_letGo (wpAny_pure ?_)))))
    refine wpAny_bind (wpAny_bind (wpAny_onRaise (wpAny_bind (m:=Builtin.SmallTypes.nextOf (.ref j)) (yk (s:={ s with heap:=g3 }) hh (zj.at fun o e=>(k3.2 j (Ne.symm n9)).trans ((k2.2 j (Ne.symm n10)).trans ((k1.2 j (Ne.symm n4)).trans e)))
      (hb.at fun o e=>(k3.2 b b2).trans ((k2.2 b b3).trans ((k1.2 b b1).trans e))) hy fun g4 e k4 he4=>?_))))
    obtain ⟨oe,ge,ce⟩:=he4
    have zz4:PySem.IsZip g4 z ti to .ellipsis:=k4 z _ n4 ((k3.2 z n2).trans ((k2.2 z n3).trans zz1))
    have ez:e≠z:=fun y=>by subst y;rw[zz4] at ge;cases ge;simp at ce
    refine wpAny_setField_rec zz4 (by simp) fun g5 _ k5=>stop g5 e ⟨oe,(k5.2 e ez).trans ge,ce⟩ fun c o c1 c2 c3 c4 y=>(k5.2 c c1).trans (k4 c o c4 ((k3.2 c c2).trans ((k2.2 c c3).trans ((k1.2 c c1).trans y))))
abbrev itO (tp:Bool)(a:Addr):Obj:={ cls:=.type (match tp with | true => "tuple_iterator" | false => "list_iterator"),data:=.fields #[.ref a,.int 0 0] }
theorem JR {tp:Bool}{a:Addr}{xs:Array Value}{Q:Value→Shared→Prop}(h:fT tp s.heap a xs)(q:Q (.ref s.heap.objs.size) { s with heap:=s.heap.push (itO tp a) }):wpAny (model prog w) A (pyIter (.ref a)) Q E s:=by
  cases tp with
  | true=>exact wpAny_pyIter_tuple h q
  | false=>exact wpAny_pyIter_list h q
abbrev zg1 (ta:Bool)(h:Heap)(a:Addr):Heap:=h.push (itO ta a)
abbrev zg2 (ta tb:Bool)(h:Heap)(a b:Addr):Heap:=(zg1 ta h a).push (itO tb b)
abbrev zg3 (ta tb:Bool)(h:Heap)(a b:Addr):Heap:=(zg2 ta tb h a b).push { cls:=.type "tuple", data:=.seq #[.ref h.objs.size,.ref (zg1 ta h a).objs.size] }
abbrev zg4 (ta tb:Bool)(h:Heap)(a b:Addr):Heap:=(zg3 ta tb h a b).push { cls:=.type "tuple", data:=.seq #[.none,.none] }
abbrev zg5 (ta tb:Bool)(h:Heap)(a b:Addr):Heap:=(zg4 ta tb h a b).push { cls:=.type "zip", data:=.fields #[.none,.bool false,.bool false,.ref (zg2 ta tb h a b).objs.size,.ref (zg3 ta tb h a b).objs.size] }
theorem HN (ta tb:Bool)(a b:Addr)(xs ys:Array Value):Meets (Builtin.«zip.__new__» ⟨[.type "zip", .ref a,.ref b],[]⟩) (fun _ R s=>fT ta s.heap a xs∧fT tb s.heap b ys∧R (.ok (.ret (.ref (zg4 ta tb s.heap a b).objs.size))) { s with heap:=zg5 ta tb s.heap a b }):=
  .of_wp fun prog w A R s h=>by
    rcases s with ⟨hp,g,d,tk,os⟩
    obtain ⟨h1,h2,h⟩:=h
    have hs0:=PySem.sub_zip
    have H1:fT ta (Shared.heap ⟨hp,g,d,tk,os⟩) a xs:=h1
    have H2:fT tb (Shared.heap ⟨hp.push (itO ta a),g,d,tk,os⟩) b ys:=fT.at h2 fun o e=>Heap.get?_push_of_some _ e
    wp_walk using JR H1,JR H2
    exact ⟨_,rfl,h⟩
theorem CS {ta tb:Bool}{a b:Addr}{xs ys:Array Value}{Q:Value→Shared→Prop}(h1:fT ta s.heap a xs)(h2:fT tb s.heap b ys)
    (q:∀ g,ZAt ta tb g (s.heap.objs.size+4) (s.heap.objs.size+2) (s.heap.objs.size+3) s.heap.objs.size (s.heap.objs.size+1) a b 0→(∀ c o,s.heap.get? c=some o→g.get? c=some o)→Q (.ref (s.heap.objs.size+4)) { s with heap:=g }) :
    wpAny (model prog w) A (call (.type "zip") [.ref a,.ref b]) Q E s:=by
  refine callType_new F.called_zip (by decide) (F.typeCall_zip_2 _ _) (F.newCall_zip_2 _ _) (fun obj=>F.args_object_init_3 obj _ _) F.entry_zip_new (HN ta tb a b xs ys) ⟨h1,h2,?_⟩
  have s1:(zg1 ta s.heap a).objs.size=s.heap.objs.size+1:=Heap.size_push ..
  have s2:(zg2 ta tb s.heap a b).objs.size=s.heap.objs.size+2:=by rw[Heap.size_push,s1]
  have s3:(zg3 ta tb s.heap a b).objs.size=s.heap.objs.size+3:=by rw[Heap.size_push,s2]
  have s4:(zg4 ta tb s.heap a b).objs.size=s.heap.objs.size+4:=by rw[Heap.size_push,s3]
  have p5:(zg5 ta tb s.heap a b).get? (zg4 ta tb s.heap a b).objs.size=some _:=Heap.get?_push_size _ rfl
  have p4:(zg5 ta tb s.heap a b).get? (zg3 ta tb s.heap a b).objs.size=some _:=Heap.get?_push_of_some _ (Heap.get?_push_size _ rfl)
  have p3:(zg5 ta tb s.heap a b).get? (zg2 ta tb s.heap a b).objs.size=some _:=Heap.get?_push_of_some _ (Heap.get?_push_of_some _ (Heap.get?_push_size _ rfl))
  have p2:(zg5 ta tb s.heap a b).get? (zg1 ta s.heap a).objs.size=some (itO tb b):=Heap.get?_push_of_some _ (Heap.get?_push_of_some _ (Heap.get?_push_of_some _ (Heap.get?_push_size _ rfl)))
  have p1:(zg5 ta tb s.heap a b).get? s.heap.objs.size=some (itO ta a):=Heap.get?_push_of_some _ (Heap.get?_push_of_some _ (Heap.get?_push_of_some _ (Heap.get?_push_of_some _ (Heap.get?_push_size _ rfl))))
  have i1:ir ta (zg5 ta tb s.heap a b) s.heap.objs.size a 0:=by cases ta<;>exact ⟨_,p1,rfl,rfl⟩
  have i2:ir tb (zg5 ta tb s.heap a b) (zg1 ta s.heap a).objs.size b 0:=by cases tb<;>exact ⟨_,p2,rfl,rfl⟩
  show _∧_
  rw[s2,s3,s4] at p5
  rw[s1,s2] at p3
  rw[s3] at p4
  rw[s1] at i2
  rw[s4]
  exact ⟨⟨_,p5,rfl⟩,q _ ⟨p5,p3,⟨_,_,p4⟩,i1,i2⟩ fun c o x=>Heap.get?_push_of_some _ (Heap.get?_push_of_some _ (Heap.get?_push_of_some _ (Heap.get?_push_of_some _ (Heap.get?_push_of_some _ x))))⟩
end
def Sq (tp:Bool)(K:PySem.W.Frag)(H:Hp)(a:Addr)(xs:List V):Prop:=match tp with
  | true=>SqT K H a xs
  | false=>SqF K H a xs
theorem Inv.sq {X:Cx}{pins:List (Addr×Obj)}{σ:L2.St}{H:Hp}{s:Shared}{tp:Bool}{a:Addr}{xs:List V}(I:Inv X pins σ H s)(h:Sq tp X.K H a xs):∃ its:List Value,Vals xs its∧fT tp s.heap a its.toArray:=by
  cases tp with
  | true=>obtain ⟨its,r,p,_⟩:=I.tuple h;exact ⟨its,r,p⟩
  | false=>
    obtain ⟨its,r,⟨o,n,e1,e2,_,e3⟩,_⟩:=I.list (SqF.sq h)
    exact ⟨its,r,o,e1,e2,n,e3⟩
theorem Inv.yH {X:Cx}{pins:List (Addr×Obj)}{σ:L2.St}{H:Hp}{s:Shared}{tp:Bool}{a:Addr}{xs ys:List V}(I:Inv X pins σ H s)(h:Sq tp X.K H a xs)(h':Sq tp X.K H a ys):xs=ys:=by
  cases tp with
  | true=>exact I.sP h h'
  | false=>exact I.xT (SqF.sq h) (SqF.sq h')
def Itz (ta tb:Bool)(K:PySem.W.Frag)(a b:Addr):It:=
  ⟨fun i H=>∃ xs ys x y,Sq ta K H a xs∧Sq tb K H b ys∧xs[i]? = some x∧ys[i]? = some y,
   fun i H v H'=>∃ x y p,(∀ xs,Sq ta K H a xs→xs[i]? = some x)∧(∀ ys,Sq tb K H b ys→ys[i]? = some y)∧v=.ref p∧H p=none∧H'=L2.upd H p (.tup [x,y]),
   fun i H=>∃ xs ys,Sq ta K H a xs∧Sq tb K H b ys∧(xs.length≤i∨ys.length≤i)⟩
theorem F6 {P:Program}{w:World}{K:PySem.W.Frag}{es:List Expr}{ek:Nat}{ep:Pos}{ta tb:Bool}{z ti to i j a b:Addr}(Z:Zp z ti to i j a b) :
    Turn P w K (.Tuple es ek ep) (Itz ta tb K a b) [z,ti,to,i,j] z (fun k h=>ZAt ta tb h z ti to i j a b k) where
  mem:=by simp
  obj:=fun k h S c hc=>by
    obtain ⟨zz,zt,⟨u,v,zo⟩,zi,zj⟩:=S
    simp only[List.mem_cons,List.not_mem_nil,or_false] at hc
    rcases hc with rfl | rfl | rfl | rfl | rfl
    · exact ⟨_,zz,fun v y=>by cases y⟩
    · exact ⟨_,zt,fun v y=>by cases y⟩
    · exact ⟨_,zo,fun v y=>by cases y⟩
    · obtain ⟨o,e,vs,d⟩:=zi.ex;exact ⟨o,e,fun v y=>by rw[d] at y;cases y⟩
    · obtain ⟨o,e,vs,d⟩:=zj.ex;exact ⟨o,e,fun v y=>by rw[d] at y;cases y⟩
  keep:=fun k h g S kp=>by
    obtain ⟨zz,zt,⟨u,v,zo⟩,zi,zj⟩:=S
    exact ⟨kp z (by simp) _ zz,kp ti (by simp) _ zt,⟨u,v,kp to (by simp) _ zo⟩,zi.at fun o e=>kp i (by simp) o e,zj.at fun o e=>kp j (by simp) o e⟩
  item:=by
    intro X hP hw hK hc k pins s σ H E I hf S hg
    subst hP hw hK
    obtain ⟨xs,ys,x,y,qa,qb,ex,ey⟩:=hg
    obtain ⟨ia,ra,sa⟩:=Inv.sq I qa
    obtain ⟨ib,rb,sb⟩:=Inv.sq I qb
    obtain ⟨ux,hux,rx⟩:=ra.get ex
    obtain ⟨uy,huy,ry⟩:=rb.get ey
    refine Ce Z S sa sb (x:=ux) (y:=uy) (by simpa using hux) (by simpa using huy) fun g zz zt zo zi zj new al=>⟨_,rfl,wpAny_letOwnedTupleGo_zip zz fun g2 zz2 k2=>?_⟩
    have nd:=Z.nd
    simp only[List.nodup_cons,List.mem_cons,List.not_mem_nil,or_false,not_or] at nd
    obtain ⟨⟨n1,n2,n3,n4⟩,_⟩:=nd
    have zlt:z < s.heap.objs.size:=Heap.lt_size S.zz
    have fr:H s.heap.objs.size=none:=I.hok.fresh (Nat.le_refl _)
    have new2:PySem.IsPair g2 s.heap.objs.size ux uy:=(k2.2 _ (Nat.ne_of_gt zlt)).trans new
    have all:∀ c o,c ∉ [z,ti,to,i,j]→s.heap.get? c=some o→g2.get? c=some o:=fun c o hc e=>by
      simp only[List.mem_cons,List.not_mem_nil,or_false,not_or] at hc
      exact (k2.2 c hc.1).trans (al c o hc.1 hc.2.2.1 hc.2.2.2.1 hc.2.2.2.2 e)
    have nfp:∀ c u,H c=some u→c ∉ [z,ti,to,i,j]:=fun c u e hc=>by rw[(hf c hc).1] at e;cases e
    refine ⟨.ref s.heap.objs.size,L2.upd H s.heap.objs.size (.tup [x,y]),?_,rfl,⟨x,y,_,fun xs' q=>by rw[Inv.yH I q qa];exact ex,fun ys' q=>by rw[Inv.yH I q qb];exact ey,rfl,fr,rfl⟩,⟨zz2,(k2.2 ti (Ne.symm n1)).trans zt,⟨_,_,(k2.2 to (Ne.symm n2)).trans zo⟩,zi.at fun o e=>(k2.2 i (Ne.symm n3)).trans e,zj.at fun o e=>(k2.2 j (Ne.symm n4)).trans e⟩,fun c hc=>?_⟩
    · refine L2.Inv.step (s:=s) (H:=H) (H':=L2.upd H s.heap.objs.size (.tup [x,y])) (g':=s.gens) (d':=s.drawn) (t':=s.toks) (h':=g2) (ch:=[z,ti,to,i,j]) I (fun c hc=>⟨(hf c hc).2.2.2.1,(hf c hc).2.1,(hf c hc).2.2.2.2.1,(hf c hc).2.2.2.2.2⟩) (fun c o _ _ hc e _=>all c o hc e) (fun c o _ _ hc e _=>⟨o.slots,all c o hc e⟩) (fun c o hc e n=>?_) (fun c o hc e=>⟨o,all c o hc e⟩)
        (fun c xs e=>?_) (fun c o u e=>?_) (fun c ps e=>⟨#[],?_⟩) (fun m hm=>?_) (fun c u e=>?_) I.bare
      · rw[aM (Nat.ne_of_lt (Heap.lt_size e))];exact n
      · rw[aM (ba e fr)];exact e
      · rw[aM (ba e fr)];exact e
      · rw[aM (ba e fr),e];simp
      · obtain ⟨o,es',ep',ho,r⟩:=hm
        exact ⟨o,es',ep',all _ o (fun hc=>(hf _ hc).2.1 rfl) ho,r⟩
      · by_cases hcT:c=s.heap.objs.size
        · subst hcT
          rw[aL] at e;cases e
          exact ⟨by show 2≤sizeLine;decide,[ux,uy],.cons rx (.cons ry .nil),⟨_,new2⟩⟩
        · rw[aM hcT] at e
          refine (I.hok c u e).ly (fun c' v hc' q=>all c' v ?_ q) (fun c' q=>by rw[aM (ba q fr)];exact q) fun c' xs q=>by rw[aM (ba q fr)];exact q
          rcases hc' with rfl | hc'
          · exact nfp _ _ e
          · exact nfp _ _ hc'
    · have hcl:c≠s.heap.objs.size:=by
        obtain ⟨zz,zt,⟨u,v,zo⟩,zi,zj⟩:=S
        simp only[List.mem_cons,List.not_mem_nil,or_false] at hc
        rcases hc with rfl | rfl | rfl | rfl | rfl
        · exact Nat.ne_of_lt (Heap.lt_size zz)
        · exact Nat.ne_of_lt (Heap.lt_size zt)
        · exact Nat.ne_of_lt (Heap.lt_size zo)
        · obtain ⟨o,e,_⟩:=zi.ex;exact Nat.ne_of_lt (Heap.lt_size e)
        · obtain ⟨o,e,_⟩:=zj.ex;exact Nat.ne_of_lt (Heap.lt_size e)
      rw[aM hcl];exact (hf c hc).1
  done:=by
    intro X hP hw hK hc k pins s σ H E I hf S hg
    subst hP hw hK
    obtain ⟨xs,ys,qa,qb,he⟩:=hg
    obtain ⟨ia,ra,sa⟩:=Inv.sq I qa
    obtain ⟨ib,rb,sb⟩:=Inv.sq I qb
    have la:=ra.length
    have lb:=rb.length
    refine EE (I.ok.hd hc) Z S sa sb (he.imp (fun h=>by simp;omega) fun h=>by simp;omega) fun g al=>⟨rfl,?_⟩
    have all:∀ c o,c ∉ [z,ti,to,i,j]→s.heap.get? c=some o→g.get? c=some o:=fun c o hc e=>by
      simp only[List.mem_cons,List.not_mem_nil,or_false,not_or] at hc
      exact al c o hc.1 hc.2.2.1 hc.2.2.2.1 hc.2.2.2.2 e
    have nfp:∀ c u,H c=some u→c ∉ [z,ti,to,i,j]:=fun c u e hc=>by rw[(hf c hc).1] at e;cases e
    refine L2.Inv.step (s:=s) (H:=H) (H':=H) (g':=s.gens) (d':=s.drawn) (t':=s.toks) (h':=g) (ch:=[z,ti,to,i,j]) I (fun c hc=>⟨(hf c hc).2.2.2.1,(hf c hc).2.1,(hf c hc).2.2.2.2.1,(hf c hc).2.2.2.2.2⟩) (fun c o _ _ hc e _=>all c o hc e) (fun c o _ _ hc e _=>⟨o.slots,all c o hc e⟩) (fun c o hc e n=>n) (fun c o hc e=>⟨o,all c o hc e⟩)
      (fun c xs e=>e) (fun c o u e=>e) (fun c ps e=>⟨#[],by rw[e];simp⟩) (fun m hm=>?_) (fun c u e=>?_) I.bare
    · obtain ⟨o,es',ep',ho,r⟩:=hm
      exact ⟨o,es',ep',all _ o (fun hc=>(hf _ hc).2.1 rfl) ho,r⟩
    · refine (I.hok c u e).ly (fun c' v hc' q=>all c' v ?_ q) (fun c' q=>q) fun c' xs q=>q
      rcases hc' with rfl | hc'
      · exact nfp _ _ e
      · exact nfp _ _ hc'
  self:=fun _ _ _ _ _ S h=>wpAny_pyIter_zip S.zz h
theorem Rc (n a b:Nat)(ha:a < n)(hb:b < n):Zp (n+4) (n+2) (n+3) n (n+1) a b:=by
  refine ⟨?_,?_,?_⟩
  · show ([n+4,n+2,n+3,n,n+1]:List Nat).Nodup
    simp only[List.nodup_cons,List.mem_cons,List.not_mem_nil,or_false,not_or,List.nodup_nil,and_true,not_false_eq_true]
    and_intros<;>omega
  · show a ∉ ([n+4,n+3,n,n+1]:List Nat)
    simp only[List.mem_cons,List.not_mem_nil,or_false,not_or]
    omega
  · show b ∉ ([n+4,n+3,n,n+1]:List Nat)
    simp only[List.mem_cons,List.not_mem_nil,or_false,not_or]
    omega
theorem LR (n c:Nat)(h:c∈([n+4,n+2,n+3,n,n+1]:List Nat)):n≤c:=by
  simp only[List.mem_cons,List.not_mem_nil,or_false] at h
  omega
section
variable {X:Cx} {ea eb:Expr} {es:List Expr} {ek:Nat} {ep p pos:Pos}
def kQ (tp:Bool)(x:D)(f:List D→Prop):Prop:=match tp,x with
  | true,.tup ds=>f ds
  | false,.ls ds=>f ds
  | _,_=>False
theorem yT {K:PySem.W.Frag}{H:Hp}{tp:Bool}{v:V}{x:D}{f:List D→Prop}(p:Dp K H v x)(h:kQ tp x f):∃ a xs ds,v=.ref a∧Sq tp K H a xs∧DpL K H xs ds∧f ds:=by
  cases tp with
  | true=>cases p with
    | @tup a xs ds q l=>exact ⟨a,xs,ds,rfl,q,l,h⟩
    | _=>exact False.elim h
  | false=>cases p with
    | @ls a xs ds q l=>exact ⟨a,xs,ds,rfl,q,l,h⟩
    | _=>exact False.elim h
theorem Tk.sq {K:PySem.W.Frag}{H H':Hp}{tp:Bool}{a:Addr}{xs:List V}(t:Tk H H')(h:Sq tp K H a xs):Sq tp K H' a xs:=by
  cases tp with
  | true=>exact t.sqT h
  | false=>exact t.sqF h
end
end
section
open PySem PySem.Spec PyProof.Rows L2
def kObj (x:D)(f:Addr→Prop):Prop:=match x with
  | .obj a=>f a
  | _=>False
theorem iX (a:Addr)(f):kObj (.obj a) f=f a:=rfl
section
variable {X:Cx} {o a b c e:Expr} {To Ta Tb Tc Te T T':ETr} {pos:Pos}
theorem LE.imp (h:LE X e T)(k:∀ ρ μ Q,T' ρ μ Q→T ρ μ Q):LE X e T':=by
  obtain ⟨t,p,s⟩:=h.ex
  exact ⟨t,p,fun σ H ρ μ Q Q' rl hh post=>s σ H ρ μ Q Q' rl (k _ _ _ hh) post⟩
theorem PJ {K:PySem.W.Frag}{H:Hp}{μ:Mu}{q:Addr}{u:HO}(m:bL K H μ)(t:Tk H (L2.upd H q u)):bL K (L2.upd H q u) (dn μ q):=fun z y ez=>by
  have zq:z≠q:=fun w=>by subst w;unfold dn at ez;rw[if_pos rfl] at ez;cases ez
  have ez':μ z=some y:=by unfold dn at ez;rw[if_neg zq] at ez;exact ez
  exact (m z _ ez').ne t zq
theorem ky {H:Hp}{q:Addr}{u:HO}{xs:List V}(ex:H q=some (.lst xs)):Tk H (L2.upd H q u):=
  .upd (fun ys z=>by rw[ex] at z;cases z) fun o' w z=>by rw[ex] at z;cases z
theorem Hq {K:PySem.W.Frag}{H:Hp}{μ:Mu}{q:Addr}{xs ys:List V}{ds:List D}(m:bL K H μ)(ex:H q=some (.lst xs))(l:DpL K H ys ds):bL K (L2.upd H q (.lst ys)) (up μ q (.lst ds)):=fun z y ez=>by
  by_cases zq:z=q
  · subst zq
    rw[aH] at ez;cases ez
    exact ⟨ys,aL,l.mono (ky ex)⟩
  · rw[aU zq] at ez
    exact (m z _ ez).ne (ky ex) zq
theorem zM {K:PySem.W.Frag}{H:Hp}{μ:Mu}{q:Addr}{ys:List V}{ds:List D}(m:bL K H μ)(hq:H q=none)(l:DpL K H ys ds):bL K (L2.upd H q (.lst ys)) (up μ q (.lst ds)):=fun z y ez=>by
  by_cases zq:z=q
  · subst zq
    rw[aH] at ez;cases ez
    exact ⟨ys,aL,l.mono (.new hq)⟩
  · rw[aU zq] at ez
    exact c7 m hq z y ez
def uS (T:ETr):ETr:=fun ρ μ Q=>T ρ μ fun x μ1=>kObj x fun a=>kL μ1 a fun ds=>Q (.ls ds) (dn μ1 a)
theorem u4 (h:LE X e T):LE X e (uS T):=by
  obtain ⟨t,p,s⟩:=h.ex
  refine ⟨_,jI p,fun σ H ρ μ Q Q' rl h k=>s σ H ρ μ _ _ rl h fun v H1 d μ1 t1 m1 p1 h1=>?_⟩
  cases p1 with
  | obj q=>
    obtain ⟨ds,e0,h2⟩:=bP h1
    obtain ⟨xs,ex,l⟩:=m1 q _ e0
    refine ⟨q,xs,rfl,ex,fun u=>?_⟩
    have t2:Tk H1 (L2.upd H1 q (.frz u (.lst xs))):=ky ex
    exact k _ _ _ (dn μ1 q) (t1.trans t2) (PJ m1 t2) (.ls (.inl ⟨u,aL⟩) (l.mono t2)) h2
  | _=>exact False.elim h1
def mf (To Te:ETr):ETr:=fun ρ μ Q=>To ρ μ fun x μ1=>kObj x fun a=>kL μ1 a fun _=>Te ρ μ1 fun y μ2=>kL μ2 a fun ds=>ds.length < 1000000∧Q .non (up μ2 a (.lst (ds++[y])))
theorem le_app {apos cpos:Pos}(ho:LE X o To)(he:LE X e Te)
    (hbase:attributeBase o (Str.ofString "append") X.env (eval o X.env)=eval o X.env:=by rfl)
    (hfew:((backTo cpos (starEach [e] X.env)).all (fun x=>!x.1)&&(backToKw cpos (keywordEach [] X.env)).all (fun x=>x.1.isSome)
      && decide ([e].length+([]:List Keyword).length+(if ([]:List Keyword).isEmpty then 0 else 1) < 30))=true:=by rfl)
    (hline:(apos.endLine == cpos.line)=true:=by rfl) (hs:starEach [e] X.env=(false,eval e X.env)::starEach [] X.env:=by rfl) (hplain:(backTo cpos (starEach [] X.env)).any (·.1)=false:=by rfl) :
    LE X (.Call (.Attribute o (Str.ofString "append") apos) [e] [] cpos) (mf To Te):=by
  obtain ⟨to,po,so⟩:=ho.ex
  obtain ⟨te,pe,se⟩:=he.ex
  refine ⟨_,BA PySem.F.plainAttrs_list PySem.F.slot_list_append PySem.F.type_list_append sY po (fS pe jl hs) hbase hfew hline hs hplain,fun σ H ρ μ Q Q' rl h k=>so σ H ρ μ _ _ rl h fun x H1 dx μ1 t1 m1 p1 h1=>?_⟩
  cases p1 with
  | obj q=>
    obtain ⟨ds0,e0,h2⟩:=bP h1
    obtain ⟨xs0,ex0,_⟩:=m1 q _ e0
    refine ⟨.inl ⟨rfl,_,SqL.of ex0⟩,se σ H1 ρ μ1 _ _ (rl.go t1 m1) h2 fun y H2 dy μ2 t2 m2 p2 h3=>?_⟩
    obtain ⟨ds,e1,lz,h4⟩:=bP h3
    obtain ⟨xs,ex,l⟩:=m2 q _ e1
    exact ⟨q,xs,y,rfl,rfl,ex,by rw[l.length];exact Nat.lt_of_lt_of_le lz (by decide),k _ _ _ _ ((t1.trans t2).trans (ky ex)) (Hq m2 ex (l.append (.cons p2 .nil))) .non h4⟩
  | _=>exact False.elim h1
def bz:FSp:=fun ds μ Q=>match ds with
  | [.tup xs]=>Q (.tup xs) μ
  | [.ls xs]=>Q (.tup xs) μ
  | [.obj a]=>kL μ a fun xs=>Q (.tup xs) μ
  | _=>False
theorem a6 {K:PySem.W.Frag}:kX K (fun xs H Q=>∃ p ys,xs=[.ref p]∧((SqL K H p ys∧∀ l,H l=none→Q (.ref l) (L2.upd H l (.tup ys)))∨(SqT K H p ys∧Q (.ref p) H))) bz:=fun H μ xs ds Q Q' m p h k=>by
  unfold bz at h
  split at h
  · cases p with | cons p1 p2=>cases p2;cases p1 with | tup q l=>exact ⟨_,_,rfl,.inr ⟨q,k _ H _ μ (.refl H) m (.tup q l) h⟩⟩
  · cases p with | cons p1 p2=>cases p2;cases p1 with | ls q l=>exact ⟨_,_,rfl,.inl ⟨q.sq,fun z hz=>k _ _ _ μ (.new hz) (c7 m hz) (.tup (SqT.of aL) (l.mono (.new hz))) h⟩⟩
  · rename_i q
    cases p with | cons p1 p2=>
    cases p2;cases p1
    obtain ⟨ys,e0,h⟩:=bP h
    obtain ⟨xs,ex,l⟩:=m q _ e0
    exact ⟨_,_,rfl,.inl ⟨SqL.of ex,fun z hz=>k _ _ _ μ (.new hz) (c7 m hz) (.tup (SqT.of aL) (l.mono (.new hz))) h⟩⟩
  · exact False.elim h
def jg:FSp:=fun ds μ Q=>match ds with
  | [.tup xs]=>∀ p,μ p=none→Q (.obj p) (up μ p (.lst xs))
  | [.ls xs]=>∀ p,μ p=none→Q (.obj p) (up μ p (.lst xs))
  | [.obj a]=>kL μ a fun xs=>∀ p,μ p=none→Q (.obj p) (up μ p (.lst xs))
  | _=>False
theorem r8 {K:PySem.W.Frag}:kX K (fun xs H Q=>∃ p ys,xs=[.ref p]∧(SqL K H p ys∨SqT K H p ys)∧∀ l,H l=none→Q (.ref l) (L2.upd H l (.lst ys))) jg:=fun H μ xs ds Q Q' m p h k=>by
  unfold jg at h
  split at h
  · cases p with | cons p1 p2=>cases p2;cases p1 with | tup q l=>exact ⟨_,_,rfl,.inr q,fun z hz=>k _ _ _ _ (.new hz) (zM m hz l) (.obj _) (h z (m.free hz))⟩
  · cases p with | cons p1 p2=>cases p2;cases p1 with | ls q l=>exact ⟨_,_,rfl,.inl q.sq,fun z hz=>k _ _ _ _ (.new hz) (zM m hz l) (.obj _) (h z (m.free hz))⟩
  · rename_i q
    cases p with | cons p1 p2=>
    cases p2;cases p1
    obtain ⟨ys,e0,h⟩:=bP h
    obtain ⟨xs,ex,l⟩:=m q _ e0
    exact ⟨_,_,rfl,.inl (SqL.of ex),fun z hz=>k _ _ _ _ (.new hz) (zM m hz l) (.obj _) (h z (m.free hz))⟩
  · exact False.elim h
def jC:FSp:=fun ds μ Q=>match ds with
  | [.tup xs]=>Q (.ls xs) μ
  | [.ls xs]=>Q (.ls xs) μ
  | [.obj a]=>kL μ a fun xs=>Q (.ls xs) μ
  | _=>False
def Om (Q:VK):VK:=fun v H1=>∃ a xs,v=.ref a∧H1 a=some (.lst xs)∧∀ o,Q v (L2.upd H1 a (.frz o (.lst xs)))
theorem gH {K:PySem.W.Frag}{H:Hp}{μ:Mu}{ys:List V}{ds:List D}{Q:DK}{Q':VK}{z:Addr}(m:bL K H μ)(l:DpL K H ys ds)(h:Q (.ls ds) μ)(k:jq K H Q Q')(hz:H z=none):Om Q' (.ref z) (L2.upd H z (.lst ys)):=
  ⟨z,ys,rfl,aL,fun o=>by
    have e:L2.upd (L2.upd H z (.lst ys)) z (.frz o (.lst ys))=L2.upd H z (.frz o (.lst ys)):=u6
    rw[e]
    exact k _ _ _ μ (.new hz) (c7 m hz) (.ls (.inl ⟨o,aL⟩) (l.mono (.new hz))) h⟩
theorem CI {K:PySem.W.Frag}:kX K (fun xs H Q=>∃ p ys,xs=[.ref p]∧(SqL K H p ys∨SqT K H p ys)∧∀ l,H l=none→Om Q (.ref l) (L2.upd H l (.lst ys))) jC:=fun H μ xs ds Q Q' m p h k=>by
  unfold jC at h
  split at h
  · cases p with | cons p1 p2=>cases p2;cases p1 with | tup q l=>exact ⟨_,_,rfl,.inr q,fun z hz=>gH m l h k hz⟩
  · cases p with | cons p1 p2=>cases p2;cases p1 with | ls q l=>exact ⟨_,_,rfl,.inl q.sq,fun z hz=>gH m l h k hz⟩
  · rename_i q
    cases p with | cons p1 p2=>
    cases p2;cases p1
    obtain ⟨ys,e0,h⟩:=bP h
    obtain ⟨xs,ex,l⟩:=m q _ e0
    exact ⟨_,_,rfl,.inl (SqL.of ex),fun z hz=>gH m l h k hz⟩
  · exact False.elim h
theorem Fv {x:Str}{p:Pos}{At:ATr}(hx:x = "list")(hg:Gl X x)(hm:X.mg x=none)(hv:bootBuiltins x=some (.type "list"))(ha:LA X [e] At)(hn:x ≠ "__name__" := by decide)(hdb:(x == ("__debug__" : Str))=false:=by decide)
    (h1:starEach [e] X.env=(false,eval e X.env)::starEach [] X.env:=by rfl) (h2:(backTo pos (starEach [] X.env)).any (·.1)=false:=by rfl):LE X (.Call (.Name x p) [e] [] pos) (aq jC At):=by
  obtain ⟨ta,pa,sa⟩:=ha.ex
  exact ⟨_,jI (sM iN hg hm hv pa hn hdb h1 h2),fun σ H ρ μ Q Q' rl h k=>sa σ H ρ μ _ _ rl h fun xs H1 ds μ1 t1 m1 p1 h1=>CI H1 μ1 xs ds Q Q' m1 p1 h1 (k.go t1)⟩
def iZ:D→Bool
  | .non=>true
  | .bl _=>true
  | .int _=>true
  | .str _=>true
  | _=>false
def inD (x:D)(xs:List D):Bool:=xs.any fun y=>eqD y x
def rIn (neg:Bool):DR2:=fun x y μ Q=>match y with
  | .tup xs=>(iZ x=true∧xs.all iZ=true)∧Q (.bl (if neg then !inD x xs else inD x xs)) μ
  | .ls xs=>(iZ x=true∧xs.all iZ=true)∧Q (.bl (if neg then !inD x xs else inD x xs)) μ
  | .obj a=>kL μ a fun xs=>(iZ x=true∧xs.all iZ=true)∧Q (.bl (if neg then !inD x xs else inD x xs)) μ
  | _=>False
end
end
section
open PySem PySem.Spec PyProof.Rows L2
section
variable {X:Cx} {a b e:Expr} {Ta Tb T:ETr} {pos:Pos}
def Q5 (t:TE):TE:=fun σ H Q=>t σ H fun v H1=>Q v H1∨Om Q v H1
theorem Bu {t:TE}(h:PE X e t):PE X e (Q5 t):=by
  have g:PE X e (fun σ H Q=>∃ P:VK,CW t σ H P∧∀ v H',P v H'→Q v H'):=fun pins s σ H Q I ⟨P,hP,k⟩=>
    thn (jI h pins s σ H P I hP) fun u s1 ⟨v,H1,I1,r,q⟩=>⟨v,H1,I1,r,k _ _ q⟩
  intro pins s σ H Q I hh
  refine thn (h pins s σ H _ I hh) fun u s1 ⟨v,H1,I1,r,q⟩=>?_
  rcases q with q | ⟨c,xs,rfl,ec,q⟩
  · exact ⟨v,H1,I1,r,q⟩
  · have hz:=I1.hok c _ ec
    obtain ⟨z,its,n,rv,hg⟩:=hz
    have nl:∀ d o,H1 d=some o→(∀ ys,o≠.lst ys)→d≠c:=fun d o e1 e2 w=>by subst w;rw[ec] at e1;cases e1;exact e2 _ rfl
    refine ⟨.ref c,_,I1.un (h':=s1.heap) (t':=s1.toks) (H':=L2.upd H1 c (.frz { cls:=.type "list", data:=.seq its.toArray n } (.lst xs))) ⟨fun d o e _ _ _=>e,fun d o e _ _ _=>⟨o.slots,e⟩,fun d o e w _=>?_,fun d o e _=>⟨o,e⟩,fun d ys e=>?_,fun d o u e=>?_,fun d ps e=>⟨#[],?_⟩⟩ (fun d u e=>?_),r,q _⟩
    · rw[aM (fun z=>by subst z;rw[ec] at w;cases w)];exact w
    · rw[aM (nl d _ e (fun _=>nofun))];exact e
    · rw[aM (nl d _ e (fun _=>nofun))];exact e
    · rw[aM (nl d _ e (fun _=>nofun)),e];simp
    · by_cases hd:d=c
      · subst hd
        rw[aL] at e;cases e
        exact ⟨hg,z,its,n,rv,hg⟩
      · rw[aM hd] at e
        refine (I1.hok d u e).ly (fun k w _ q=>q) (fun k q=>?_) fun k ys q=>?_
        · rw[aM (nl k _ q (fun _=>nofun))];exact q
        · rw[aM (nl k _ q (fun _=>nofun))];exact q
def L7 (K:PySem.W.Frag):R2:=fun x y H Q=>∃ p q ys,x=.ref p∧y=.ref q∧SqT K H p []∧SqT K H q ys∧Q (.ref q) H
theorem IJ:OpR X (binaryOp .Add) (L7 X.K):=fun pins s σ H x y v u Q I rx ry ⟨p,q,ys,e1,e2,hp,hq,h⟩=>by
  subst e1 e2
  cases rx
  cases ry
  obtain ⟨its,r1,p1,_⟩:=I.tuple hp
  obtain ⟨its2,r2,p2,_⟩:=I.tuple hq
  cases r1
  obtain ⟨⟨c1,d1,t1,l1⟩,ho,hc,n,hd⟩:=id p1
  obtain ⟨⟨c2,d2,t2,l2⟩,ho2,hc2,n2,hd2⟩:=id p2
  simp only at hc hd hc2 hd2
  subst hc hd hc2 hd2
  exact concat_meets ⟨_,ho,rfl⟩ ⟨_,ho2,rfl⟩ noFill_tuple_add seq_tuple_add PySem.F.slot_tuple_add PySem.F.entry_tuple_add (PySem.F.args_tuple_add_2 _ _)
    (tuple_addW0 p q #[] its2.toArray n n2 d1 d2 l1 l2 rfl) ⟨ho,ho2,⟨.ref q,H,I,rfl,h⟩⟩
def Mi (K:PySem.W.Frag):R2:=fun x y H Q=>∃ p q xs ys,x=.ref p∧y=.ref q∧SqL K H p xs∧SqL K H q ys∧xs.length+ys.length≤sizeLine∧∀ z,H z=none→Q (.ref z) (L2.upd H z (.lst (xs++ys)))
theorem KN:OpR X (binaryOp .Add) (Mi X.K):=fun pins s σ H x y v u Q I rx ry ⟨p,q,xs,ys,e1,e2,hp,hq,hz,h⟩=>by
  subst e1 e2
  cases rx
  cases ry
  obtain ⟨its,r1,p1,_⟩:=I.list hp
  obtain ⟨its2,r2,p2,_⟩:=I.list hq
  obtain ⟨⟨c1,d1,t1,l1⟩,n,ho,hc,hx,hd⟩:=id p1
  obtain ⟨⟨c2,d2,t2,l2⟩,n2,ho2,hc2,hx2,hd2⟩:=id p2
  simp only at hc hd hc2 hd2
  subst hc hd hc2 hd2
  have z1:=r1.length
  have z2:=r2.length
  refine concat_meets ⟨_,ho,rfl⟩ ⟨_,ho2,rfl⟩ PySem.noFill_list_add PySem.seq_list_add PySem.F.slot_list_add PySem.F.entry_list_add (PySem.F.args_list_add_2 _ _)
    (list_addW p q its.toArray its2.toArray n n2 d1 d2 l1 l2 (by rw[List.size_toArray,List.size_toArray];omega)) ⟨ho,ho2,?_⟩
  have ea:its.toArray++its2.toArray=(its++its2).toArray:=by simp
  rw[ea]
  exact ⟨.ref _,_,I.RW (t':=s.toks) (r1.append r2) (by rw[List.length_append];omega),rfl,h _ I.fresh⟩
def aR:DR2:=fun x y μ Q=>match x,y with
  | .int i,.int j=>Q (.int (i+j)) μ
  | .str i,.str j=>i.length+j.length≤1000000∧Q (.str (i++j)) μ
  | .tup a,.tup b=>a.length+b.length≤1000000∧Q (.tup (a++b)) μ
  | .ls a,.ls b=>a.length+b.length≤1000000∧Q (.ls (a++b)) μ
  | _,_=>False
def rPl (K:PySem.W.Frag):R2:=fun x y H Q=>(rI0 fun i j=>.int (i+j)) x y H Q∨(∃ i j,x=.str i∧y=.str j∧i.length+j.length≤sizeLine∧Q (.str (i++j)) H)∨Mk K x y H Q∨L7 K x y H Q∨Mi K x y H Q
theorem JW:OpR X (binaryOp .Add) (rPl X.K):=fun pins s σ H x y v u Q I rx ry h=>by
  rcases h with h | h | h | h | h
  · exact NC pins s σ H x y v u Q I rx ry h
  · exact zO pins s σ H x y v u Q I rx ry h
  · exact K4 pins s σ H x y v u Q I rx ry h
  · exact IJ pins s σ H x y v u Q I rx ry h
  · exact KN pins s σ H x y v u Q I rx ry h
theorem aJ (ha:LE X a Ta)(hb:LE X b Tb):LE X (.BinOp a .Add b pos) (aj aR Ta Tb):=by
  obtain ⟨ta,pa,sa⟩:=ha.ex
  obtain ⟨tb,pb,sb⟩:=hb.ex
  refine ⟨_,Bu (L0 JW pa pb),fun σ H ρ μ Q Q' rl h k=>sa σ H ρ μ _ _ rl h fun x H1 dx μ1 t1 m1 p1 h1=>sb σ H1 ρ μ1 _ _ (rl.go t1 m1) h1 fun y H2 dy μ2 t2 m2 p2 h2=>?_⟩
  have p1:=p1.mono t2
  have k:=k.go (t1.trans t2)
  cases p1 with
  | int i=>
    cases p2 with
    | int j=>exact .inl ⟨i,j,rfl,rfl,.inl (k _ H2 _ μ2 (.refl H2) m2 (.int _) h2)⟩
    | _=>exact False.elim h2
  | str i=>
    cases p2 with
    | str j=>exact .inr (.inl ⟨i,j,rfl,rfl,big h2.1,.inl (k _ H2 _ μ2 (.refl H2) m2 (.str _) h2.2)⟩)
    | _=>exact False.elim h2
  | @tup q xs ds sq l=>
    cases p2 with
    | @tup q' ys es sq' l'=>
      obtain ⟨hz,h3⟩:=h2
      by_cases hx:xs=[]
      · subst hx
        cases l
        exact .inr (.inr (.inr (.inl ⟨q,q',ys,rfl,rfl,sq,sq',.inl (k _ H2 _ μ2 (.refl H2) m2 (.tup sq' l') h3)⟩)))
      · refine .inr (.inr (.inl ⟨q,q',xs,ys,rfl,rfl,sq,sq',hx,by rw[l.length,l'.length];exact big hz,fun hy=>?_,fun _ z hzn=>.inl ?_⟩))
        · subst hy
          cases l'
          rw[List.append_nil] at h3
          exact .inl (k _ H2 _ μ2 (.refl H2) m2 (.tup sq l) h3)
        · exact k _ _ _ μ2 (.new hzn) (c7 m2 hzn) (.tup (SqT.of aL) ((l.append l').mono (.new hzn))) h3
    | _=>exact False.elim h2
  | @ls q xs ds sq l=>
    cases p2 with
    | @ls q' ys es sq' l'=>exact .inr (.inr (.inr (.inr ⟨q,q',xs,ys,rfl,rfl,sq.sq,sq'.sq,by rw[l.length,l'.length];exact big h2.1,fun z hz=>.inr (gH m2 (l.append l') h2.2 k hz)⟩)))
    | _=>exact False.elim h2
  | _=>cases p2<;>exact False.elim h2
abbrev OTr:=ST→Mu→(Option Int→Mu→Prop)→Prop
def ONo:OTr:=fun _ μ Q=>Q none μ
def lH (T:ETr):OTr:=fun ρ μ Q=>T ρ μ fun x μ1=>kI x fun i=>Q (some i) μ1
def R6 (K:PySem.W.Frag)(t:TO)(T:OTr):Prop:=∀ σ H ρ μ (Q:Option Int→Mu→Prop) (Q':Option Int→Hp→Prop),Rl K σ H ρ μ→T ρ μ Q→(∀ i H' μ',Tk H H'→bL K H' μ'→Q i μ'→Q' i H')→t σ H Q'
structure LO (X:Cx) (o:Option Expr) (T:OTr):Prop where
  ex:∃ t,PO X o t∧R6 X.K t T
theorem pZ:LO X none ONo:=⟨_,Ka,fun σ H ρ μ Q Q' rl h k=>k none H μ (.refl H) rl.mu h⟩
theorem iP (h:LE X e T):LO X (some e) (lH T):=by
  obtain ⟨t,p,s⟩:=h.ex
  refine ⟨_,Js p,fun σ H ρ μ Q Q' rl h k=>s σ H ρ μ _ _ rl h fun v H1 d μ1 t1 m1 p1 h1=>?_⟩
  cases p1 with
  | int i=>exact ⟨i,rfl,k _ H1 μ1 t1 m1 h1⟩
  | _=>exact False.elim h1
def cutD {α:Type}(xs:List α)(lo hi:Option Int):List α:=(xs.drop (HT.sIx xs.length 0 lo)).take (HT.sIx xs.length xs.length hi - HT.sIx xs.length 0 lo)
theorem yQ {α:Type}{xs:List α}{lo hi:Option Int}(h:HT.sIx xs.length 0 lo=0∧HT.sIx xs.length xs.length hi=xs.length):cutD xs lo hi=xs:=by
  unfold cutD;rw[h.1,h.2];simp
theorem DpL.take {K:PySem.W.Frag}{H:Hp}:∀ {vs:List V} {ds:List D} (n:Nat),DpL K H vs ds→DpL K H (vs.take n) (ds.take n)
  | _,_,0,_=>.nil
  | _,_,_+1,.nil=>.nil
  | _,_,n+1,.cons h l=>.cons h (DpL.take n l)
theorem DpL.drop {K:PySem.W.Frag}{H:Hp}:∀ {vs:List V} {ds:List D} (n:Nat),DpL K H vs ds→DpL K H (vs.drop n) (ds.drop n)
  | _,_,0,l=>l
  | _,_,_+1,.nil=>.nil
  | _,_,n+1,.cons _ l=>DpL.drop n l
theorem DpL.cut {K:PySem.W.Frag}{H:Hp}{vs:List V}{ds:List D}(lo hi:Option Int)(l:DpL K H vs ds):DpL K H (vV vs lo hi) (cutD ds lo hi):=by
  unfold vV cutD;rw[l.length];exact (l.drop _).take _
theorem xr {prog:Program}{w:World}{A:Around}{E:Value→Shared→Prop}{s:Shared}{t sl:Addr}{items:Array Value}{vl vu:Value}{lo hi:Option Int}{Q:Value→Shared→Prop}(ht:IsTup s.heap t items)(hs:s.heap.IsSliceOf sl vl vu .none)(pl:IsPart vl lo)(pu:IsPart vu hi)
    (hw:HT.sIx items.size 0 lo=0∧HT.sIx items.size items.size hi=items.size) (h:Q (.ref t) s):wpAny (model prog w) A (getItem (.ref t) (.ref sl)) Q E s:=by
  obtain ⟨os,hos,hcs,hds⟩:=id hs
  have hTs:s.TypeIs (.ref sl) "slice" := ⟨os,hos,hcs⟩
  unfold getItem
  try with_reducible refine wpAny_holding ?_
  first | refine wpAny_bind (wpAny_pure ?_) | skip
  refine wpAny_bind (wpAny_sequenceKey ht.typeIs (by decide) ?_)
  refine wpAny_bind (wpAny_callSpecial?_slot (name:=Str.ofString "__getitem__") ht.typeIs PyProof.Rows.slot_tuple_getitem (wpAny_call_entry PyProof.Rows.slot_tuple_getitem ht.typeIs entry_tuple_getitem ?_ (args_tuple_getitem _ _)))
  show wpAny _ _ (Builtin.Tuple.tupleItemsOf (.ref t) >>= _) _ _ s
  refine wpAny_bind (tupleItemsOf_ ht ?_)
  refine wpAny_bind <| wpAny_typeOf hTs ?_
  rw[if_pos (by decide)]
  refine wpAny_bind (HT.iu hs pl pu ?_)
  rw[hw.1,hw.2]
  refine (show wpAny _ _ (if (((0:Nat):Int) == 0&&(1:Int) == 1&&(items.size - 0) == items.size)=true then _ else _) _ _ s from ?_)
  rw[if_pos (by simp)]
  unfold Builtin.Tuple.tupleIsExact
  refine wpAny_bind (wpAny_bind (wpAny_typeOf ht.typeIs (wpAny_pure ?_)))
  rw[if_pos (by decide)]
  first
    | exact wpAny_bind (wpAny_rule (wpAny_bind (wpAny_pure (wpAny_pure ⟨_,rfl,wpAny_pure h⟩))))
    | exact wpAny_bind (wpAny_rule (wpAny_pure ⟨_,rfl,wpAny_pure h⟩))
    | exact wpAny_bind (wpAny_bind (wpAny_rule (wpAny_pure (wpAny_pure ⟨_,rfl,wpAny_pure h⟩))))
def SW (K:PySem.W.Frag):V→Option Int→Option Int→Hp→VK→Prop:=fun x lo hi H Q=>∃ a xs,x=.ref a∧SqT K H a xs∧(HT.sIx xs.length 0 lo=0∧HT.sIx xs.length xs.length hi=xs.length)∧Q (.ref a) H
theorem Gi:SlR X (SW X.K):=fun pins s σ H x v vl vu lo hi sl Q I rx hs pl pu ⟨q,xs,e,hx,hw,h⟩=>by
  subst e
  cases rx
  obtain ⟨its,r,ht,_⟩:=I.tuple hx
  have hlen:its.toArray.size=xs.length:=by rw[List.size_toArray];exact r.length.symm
  exact ⟨"tuple", _,PyProof.Rows.slot_tuple_getitem.lookup,ht.typeIs,xr ht hs pl pu (by rw[hlen];exact hw) ⟨.ref q,H,I,rfl,h⟩⟩
def rSl:D→Option Int→Option Int→Mu→DK→Prop:=fun x lo hi μ Q=>match x with
  | .tup xs=>Q (.tup (cutD xs lo hi)) μ
  | .ls xs=>Q (.ls (cutD xs lo hi)) μ
  | .obj a=>kL μ a fun xs=>Q (.ls (cutD xs lo hi)) μ
  | _=>False
def TSl (a:ETr)(lo hi:OTr):ETr:=fun ρ μ Q=>a ρ μ fun x μ1=>lo ρ μ1 fun l μ2=>hi ρ μ2 fun h μ3=>rSl x l h μ3 Q
theorem nH {lo hi:Option Expr}{Tl Th:OTr}{p2:Pos}(ha:LE X a Ta)(hl:LO X lo Tl)(hh:LO X hi Th):LE X (.Subscript a (.Slice lo hi none p2) pos) (TSl Ta Tl Th):=by
  obtain ⟨ta,pa,sa⟩:=ha.ex
  obtain ⟨tl,pl,sl⟩:=hl.ex
  obtain ⟨th,ph,sh⟩:=hh.ex
  refine ⟨_,Bu (Gz (SlR.or Gi (SlR.or MP Iz)) pa pl ph),fun σ H ρ μ Q Q' rl h k=>sa σ H ρ μ _ _ rl h fun x H1 dx μ1 t1 m1 p1 h1=>sl σ H1 ρ μ1 _ _ (rl.go t1 m1) h1 fun i H2 μ2 t2 m2 h2=>sh σ H2 ρ μ2 _ _ (rl.go (t1.trans t2) m2) h2 fun j H3 μ3 t3 m3 h3=>?_⟩
  have p1:=p1.mono (t2.trans t3)
  have k:=k.go (t1.trans (t2.trans t3))
  cases p1 with
  | @tup q xs ds sq l=>
    by_cases hw:HT.sIx xs.length 0 i=0∧HT.sIx xs.length xs.length j=xs.length
    · refine .inl ⟨q,xs,rfl,sq,hw,.inl (k _ H3 _ μ3 (.refl H3) m3 (.tup sq l) ?_)⟩
      rw[l.length] at hw
      have h3:Q (.tup (cutD ds i j)) μ3:=h3
      rw[yQ hw] at h3;exact h3
    · exact .inr (.inl ⟨q,xs,rfl,sq,hw,fun z hz=>.inl (k _ _ _ μ3 (.new hz) (c7 m3 hz) (.tup (SqT.of aL) ((l.cut i j).mono (.new hz))) h3)⟩)
  | @ls q xs ds sq l=>exact .inr (.inr ⟨q,xs,rfl,sq.sq,fun z hz=>.inr (gH m3 (l.cut i j) h3 k hz)⟩)
  | obj q=>
    obtain ⟨ds,e0,h4⟩:=bP h3
    obtain ⟨xs,ex,l⟩:=m3 q _ e0
    exact .inr (.inr ⟨q,xs,rfl,SqL.of ex,fun z hz=>.inr (gH m3 (l.cut i j) h4 k hz)⟩)
  | _=>exact False.elim h3
theorem A8 {α:Type}(xs:List α)(k:Nat):cutD xs none (some (k:Int))=xs.take k:=by
  unfold cutD
  rw[HT.xD,HT.BY,List.drop_zero,Nat.sub_zero]
  rcases Nat.le_total k xs.length with h | h
  · rw[Nat.min_eq_left h]
  · rw[Nat.min_eq_right h,List.take_length,List.take_of_length_le h]
theorem sv {α:Type}(xs:List α)(k:Nat):cutD xs (some (k:Int)) none=xs.drop k:=by
  unfold cutD
  rw[HT.xD,HT.BY]
  rcases Nat.le_total k xs.length with h | h
  · rw[Nat.min_eq_left h,List.take_of_length_le (by rw[List.length_drop];omega)]
  · rw[Nat.min_eq_right h,List.drop_length,List.drop_of_length_le h];simp
end
end
section
open PySem PySem.Spec PyProof.Rows L2
theorem iz:∀ {us:List Value} {ns:List Int},IntsAre us ns→Vals (ns.map V.int) us
  | _,_,.nil=>.nil
  | _,_,.cons n t h=>.cons ⟨t,rfl⟩ (iz h)
def MI (K:PySem.W.Frag):List V→Hp→VK→Prop:=fun xs H Q=>∃ (p:Addr) (ns:List Int),xs=[.ref p]∧SqL K H p (ns.map V.int)∧ns.length < 64∧∀ ns':List Int,ns'.Perm ns→ns'.Pairwise (·≤·)→∀ z,H z=none→Q (.ref z) (L2.upd H z (.lst (ns'.map V.int)))
theorem zS {X:Cx}:cH X (.builtin "sorted") (MI X.K):=fun pins s σ H xs us Q I rx ⟨p,ns,e1,sq,hl,q⟩=>by
  subst e1
  obtain ⟨u,rfl,ru⟩:=vals1 rx
  cases ru
  obtain ⟨its,rv,pl,hz⟩:=I.list sq
  have hi:IntsAre its ns:=intsAre_of rv
  have hlen:its.length < 64:=by rw[hi.length];exact hl
  refine sorted_ints pl.isList hi hlen fun out ns' a1 a2 a3=>?_
  obtain ⟨n,en⟩:=sortedAll_at s.heap its out
  refine ⟨.ref _,_,I.laid (t':=s.toks) (o:=.lst (ns'.map V.int)) (fun b o e=>sortedAll_old e) (Nat.le_succ _) ?_,rfl,q ns' a2 a3 _ (I.hok.fresh (Nat.le_succ _))⟩
  have z1:ns'.length=ns.length:=a2.length_eq
  exact ⟨by rw[List.length_map,z1];exact Nat.le_of_lt (Nat.lt_of_lt_of_le hl (by decide)),out.toList,n,iz a1,by simpa[seqObj] using en⟩
theorem DpL.ints_of {K:PySem.W.Frag}{H:Hp}:∀ {xs:List V} {ns:List Int},DpL K H xs (ns.map .int)→xs=ns.map V.int
  | _,[],.nil=>rfl
  | _,n::r,.cons h l=>by cases h;rw[DpL.ints_of l];rfl
end
section
open PySem PySem.Spec PyProof.Rows L2
theorem _root_.L2.Inv.frz {X:Cx}{pins:List (Addr×Obj)}{σ:L2.St}{H:Hp}{s:Shared}{c:Addr}{xs:List V}(I1:Inv X pins σ H s)(ec:H c=some (.lst xs)):∃ o,Inv X pins σ (L2.upd H c (.frz o (.lst xs))) s:=by
  obtain ⟨z,its,n,rv,hg⟩:=I1.hok c _ ec
  have nl:∀ d o,H d=some o→(∀ ys,o≠.lst ys)→d≠c:=fun d o e1 e2 w=>by subst w;rw[ec] at e1;cases e1;exact e2 _ rfl
  refine ⟨_,I1.un (h':=s.heap) (t':=s.toks) (H':=L2.upd H c (.frz { cls:=.type "list", data:=.seq its.toArray n } (.lst xs))) ⟨fun d o e _ _ _=>e,fun d o e _ _ _=>⟨o.slots,e⟩,fun d o e w _=>?_,fun d o e _=>⟨o,e⟩,fun d ys e=>?_,fun d o u e=>?_,fun d ps e=>⟨#[],?_⟩⟩ (fun d u e=>?_)⟩
  · rw[aM (fun z=>by subst z;rw[ec] at w;cases w)];exact w
  · rw[aM (nl d _ e (fun _=>nofun))];exact e
  · rw[aM (nl d _ e (fun _=>nofun))];exact e
  · rw[aM (nl d _ e (fun _=>nofun)),e];simp
  · by_cases hd:d=c
    · subst hd
      rw[aL] at e;cases e
      exact ⟨hg,z,its,n,rv,hg⟩
    · rw[aM hd] at e
      refine (I1.hok d u e).ly (fun k w _ q=>q) (fun k q=>?_) fun k ys q=>?_
      · rw[aM (nl k _ q (fun _=>nofun))];exact q
      · rw[aM (nl k _ q (fun _=>nofun))];exact q
theorem A9 {X:Cx}{tg iter elt:Expr}{ifs:List Expr}{scope:Scope}{pos spos py:Pos}{y:Str}{iy:Nat}{wi:TI}{g:TG}{tt:TT}{te:TE}{Nc:List Str}{n:Nat}{caps:List Nat}
    (hxe:X.xe=fun _ _=>False) (hcalm:X.calm=true) (hi:PI X tg iter wi)
    (hbody:∀ (cl:List (Str×Addr)) (C:Addr) (s₀:Shared) (H₀:Hp) (ex:List Addr),PG (a5 X scope Nc cl C s₀ H₀ ex) tg g∧xO (a5 X scope Nc cl C s₀ H₀ ex) ifs tt∧PE (a5 X scope Nc cl C s₀ H₀ ex) elt te)
    (hfree:∀ y∈scope.names,y.2=.free→X.env.kindOf y.1=some .cell) (hcell:∀ y∈scope.names,y.2≠.cell) (gn:scope.kind=.function)
    (hnames:∀ y∈scope.names,y.2=.local→scope.names.lookup y.1=some .local) (hlen:Nc.length=n+caps.length)
    (hcap:∀ (j k:Nat),caps[j]? = some k→∃ x,Nc[n+j]? = some x∧X.N[k]? = some x∧scope.names.lookup x=some .free)
    (pgy:PG X (.Name y py) (lZ iy))
    (hsw:swapsWith (.ListComp elt [⟨tg,iter,ifs,0⟩] scope pos) (some (.Name y py)) spos.line X.env=pure true)
    (hs:∀ x,foldedSetIterable iter X.env x=pure x:=by intro _;rfl) :
    PS X (.Assign [.Name y py] (.ListComp elt [⟨tg,iter,ifs,0⟩] scope pos) spos) (F9 (CW (kl wi g tt te n caps)) (lZ iy)):=
  wc (Z:=CW) hxe hcalm hi hbody hfree hcell gn hnames hlen hcap pgy hsw (fun σ H Q h=>⟨_,h,fun pins D H5 s5 I5 ⟨a,xs,ea,eH,q⟩=>by
    cases ea
    obtain ⟨o,I6⟩:=I5.frz eH
    exact ⟨_,fun b hb=>by rw[aM (fun z=>by rw[z,eH] at hb;cases hb)];exact hb,I6,q o⟩⟩) hs
theorem GD {K:PySem.W.Frag}{wi:TI}{It':ATr}{G:GTr}{Tt:TTr}{Te:ETr}{n:Nat}{caps:List Nat}(si:Oj K wi It'):Sim K (CW (kl wi (kY K n G) (liftT K Tt) (lN K Te) n caps)) (bW It' G Tt Te n caps):=by
  intro σ H ρ μ Q Q' rl h k
  refine si σ H ρ μ _ _ rl h fun J H1 ds μ1 t1 m1 Y h1 D hD=>?_
  have hp:=h1 D (m1.free hD)
  have tD:Tk H1 (L2.upd H1 D (.lst [])):=.new hD
  have mD:bL K (L2.upd H1 D (.lst [])) (up μ1 D (.lst [])):=fun a o e=>by
    by_cases ha:a=D
    · subst ha
      rw[aH] at e;cases e
      exact ⟨[],aL,.nil⟩
    · rw[aU ha] at e
      exact c7 m1 hD a o e
  refine ⟨fun i m ys H2=>m=ds.length - i∧i≤ds.length∧Tk H1 H2∧∃ μ2,bL K H2 μ2∧fM D G Tt Te (fu ρ n caps) (fun μ'=>kL μ' D fun zs=>Q (.ls zs) (dn μ' D)) (ds.drop i) μ2,
    ⟨ds.length,by simp,Nat.zero_le _,tD,_,mD,by simpa using hp⟩,?_⟩
  rintro i m ys H2 ⟨rfl,hi,t12,μ2,m2,h2⟩
  by_cases hlt:i < ds.length
  · refine .inr ⟨Y.go i H2 t12 hlt,fun ys' H'=>Tk H1 H'∧∃ μ',bL K H' μ'∧fM D G Tt Te (fu ρ n caps) (fun μ'=>kL μ' D fun zs=>Q (.ls zs) (dn μ' D)) (ds.drop (i+1)) μ',fun ys' H' ⟨t',μ',m',h'⟩=>⟨ds.length - (i+1),by omega,rfl,hlt,t',μ',m',h'⟩,fun x H3 y=>?_⟩
    obtain ⟨t23,⟨d,ed,pd⟩,mk⟩:=Y.yld i H2 x H3 t12 hlt y
    have e:ds.drop i=d::ds.drop (i+1):=by
      refine (List.drop_eq_getElem_cons hlt).trans ?_
      congr 1
      rw[List.getElem?_eq_getElem hlt] at ed
      exact Option.some.inj ed
    rw[e] at h2
    have t13:=t12.trans t23
    have r3:Rl K (ki σ n caps) H3 (fu ρ n caps) μ2:=oq (rl.go (t1.trans t13) (mk _ m2)) n caps
    refine ⟨_,_,d,_,r3,pd,h2,fun σ4 H4 ρ4 μ4 t4 r4 kp h4=>⟨⟨kp.1.symm,fun j v ej=>?_⟩,_,_,_,r4,h4,fun b H5 μ5 t5 m5 h5=>?_⟩⟩
    · by_cases hj:n≤j
      · rw[kp.2 j hj];exact ej
      · obtain ⟨j',k',e1,_⟩:=jD ej
        omega
    · have t15:=t13.trans (t4.trans t5)
      cases b with
      | false=>exact rn ⟨t15,μ5,m5,h5⟩
      | true=>
        refine ri ⟨_,_,_,r4.go t5 m5,h5,fun v H6 d6 μ6 t6 m6 p6 h6=>?_⟩
        obtain ⟨zs,ez,lz,h7⟩:=bP h6
        obtain ⟨xs,ex,lx⟩:=m6 D _ ez
        have t67:Tk H6 (L2.upd H6 D (.lst (xs++[v]))):=.upd (fun ys z=>by rw[ex] at z;cases z) fun o' u z=>by rw[ex] at z;cases z
        refine ⟨xs,ex,by rw[lx.length];exact Nat.lt_of_lt_of_le lz (by decide),(t15.trans t6).trans t67,up μ6 D (.lst (zs++[d6])),fun a o ea=>?_,h7⟩
        by_cases ha:a=D
        · subst ha
          rw[aH] at ea;cases ea
          exact ⟨_,aL,(lx.append (.cons p6 .nil)).mono t67⟩
        · rw[aU ha] at ea
          exact (m6 a _ ea).ne t67 ha
  · have e:i=ds.length:=by omega
    subst e
    rw[List.drop_length] at h2
    obtain ⟨zs,ez,hq⟩:=bP (show kL μ2 D fun zs=>Q (.ls zs) (dn μ2 D) from h2)
    obtain ⟨xs,ex,lx⟩:=m2 D _ ez
    refine .inl ⟨Y.stop _ H2 t12 (Nat.le_refl _),D,xs,rfl,ex,fun o=>?_⟩
    have t2f:Tk H2 (L2.upd H2 D (.frz o (.lst xs))):=.upd (fun ys z=>by rw[ex] at z;cases z) fun o' u z=>by rw[ex] at z;cases z
    refine k _ _ _ (dn μ2 D) ((t1.trans t12).trans t2f) (fun a o' ea=>?_) (.ls (.inl ⟨o,aL⟩) (lx.mono t2f)) hq
    have ha:a≠D:=fun z=>by subst z;unfold dn at ea;rw[if_pos rfl] at ea;cases ea
    have ea':μ2 a=some o':=by unfold dn at ea;rw[if_neg ha] at ea;exact ea
    exact (m2 a _ ea').ne t2f ha
theorem gu {X:Cx}{tg elt iter:Expr}{Te:ETr}{Tt:TTr}{pos spos py:Pos}{y:Str}{It':ATr}{G:GTr}{ifs:List Expr}{scope fsc:Scope}(iy:Nat)(hN:X.N.Nodup)(XN Nc:List Str)(n:Nat)(caps:List Nat)(hxe:X.xe=fun _ _=>False)(hcalm:X.calm=true)(hi:LI X tg iter It')
    (hbody:∀ (cl:List (Str×Addr)) (C:Addr) (s₀:Shared) (H₀:Hp) (ex:List Addr),LGc (a5 X scope Nc cl C s₀ H₀ ex) n tg G∧wm (a5 X scope Nc cl C s₀ H₀ ex) ifs Tt∧LE (a5 X scope Nc cl C s₀ H₀ ex) elt Te)
    (hsc:X.env.scope=fsc) (hXN:X.N=XN) (hok:gT fsc.names XN scope Nc n caps=true)
    (hiy:X.N[iy]? = some y:=by rfl) (hx:Loc X.env.scope y:=by first | exact Or.inl rfl | exact Or.inr rfl) (hf:X.fn y=true∨X.env.scope.names.lookup y=some .local:=by first | exact .inl rfl | exact .inr rfl | assumption)
    (hsw:swapsWith (.ListComp elt [⟨tg,iter,ifs,0⟩] scope pos) (some (.Name y py)) spos.line X.env=pure true:=by rfl)
    (hs:∀ x,foldedSetIterable iter X.env x=pure x:=by intro _;rfl) :
    LS X (.Assign [.Name y py] (.ListComp elt [⟨tg,iter,ifs,0⟩] scope pos) spos) (aP (bW It' G Tt Te n caps) (aw iy)):=by
  unfold gT at hok
  simp only[Bool.and_eq_true,List.all_eq_true] at hok
  obtain ⟨⟨⟨h1,h2⟩,h3⟩,h4⟩:=hok
  obtain ⟨wi,pi,si⟩:=hi.ex
  refine ⟨_,A9 (g:=kY X.K n G) (tt:=liftT X.K Tt) (te:=lN X.K Te) hxe hcalm pi (fun cl C s₀ H₀ ex=>let ⟨h1,h2,h3⟩:=hbody cl C s₀ H₀ ex;⟨h1.pe,h2.pe,h3.pe⟩) (fun y hy hf=>?_) (fun y hy hf=>?_) (by simpa using h2) (fun y hy hf=>?_) (by simpa using h3) (fun j k hj=>?_) (iL hN hiy hx hf) hsw hs,fun σ H ρ μ E E' rl h k=>GD si σ H ρ μ _ _ rl h fun v H' d μ' t' m' p' h'=>ix iy σ H' ρ μ' v d _ _ (rl.go t' m') p' h' (k.go t').nx⟩
  · have:=(h1 y hy).1.1
    show X.env.scope.names.lookup y.1=_
    rw[hsc]
    simpa[hf] using this
  · have:=(h1 y hy).1.2
    simp[hf] at this
  · have:=(h1 y hy).2
    simpa[hf] using this
  · have hl:j < caps.length:=(List.getElem?_eq_some_iff.mp hj).1
    have:=h4 j (List.mem_range.mpr hl)
    rw[hj] at this
    dsimp only at this
    rw[hXN]
    cases e:XN[k]? with
    | none=>rw[e] at this;cases this
    | some x=>
      rw[e] at this
      dsimp only at this
      rw[Bool.and_eq_true] at this
      exact ⟨x,by simpa using this.1,rfl,by simpa using this.2⟩
end
section
open PySem PySem.Spec PyProof.Rows L2
section
variable {X:Cx} {ea:Expr} {es:List Expr} {ek:Nat} {ep p pos:Pos}
def i7 (ds:List D):List D:=(List.range ds.length).zipWith (fun i d=>.tup [.int (i:Nat),d]) ds
def Qn (t:ATr):ATr:=fun ρ μ Q=>t ρ μ fun vs μ1=>match vs with
  | [.ls ds]=>Q (i7 ds) μ1
  | _=>False
theorem sL (ds:List D)(i:Nat):(i7 ds)[i]? = (ds[i]?).map fun d=>.tup [.int (i:Nat),d]:=by
  unfold i7
  rw[List.getElem?_zipWith]
  by_cases h:i < ds.length
  · rw[List.getElem?_range h,List.getElem?_eq_getElem h];rfl
  · rw[List.getElem?_eq_none_iff.mpr (by simpa using h),List.getElem?_eq_none_iff.mpr (by simpa using h)];rfl
theorem sj (ds:List D):(i7 ds).length=ds.length:=by unfold i7;simp
variable {eb:Expr} {tg:Expr} {Ta Tb:ETr}
end
end
section
open PySem PySem.Spec PyProof PyProof.Rows L2
theorem hE:∀ {us:List Value} {ns:List Int},IntsAre us ns→∃ ps:List (Int×Tok),us=ps.map (fun p=>Value.int p.1 p.2)∧ps.map Prod.fst=ns
  | _,_,.nil=>⟨[],⟨rfl,rfl⟩⟩
  | _,_,.cons n t h=>by
    obtain ⟨ps,e1,e2⟩:=hE h
    exact ⟨(n,t)::ps,by rw[e1];rfl,by rw[← e2];rfl⟩
theorem pU (ps:List (Int×Tok))(i:Nat):numAt ps.toArray i=((ps.map Prod.fst)[i]?).getD 0:=by
  unfold numAt
  simp only[List.getElem?_toArray,List.getElem?_map]
section
variable {X:Cx} {a b:Expr} {Ta Tb:ETr} {pos:Pos}
end
end
theorem uH (i j:Int)(μ Q):aR (.int i) (.int j) μ Q=Q (.int (i+j)) μ:=rfl
theorem uC (i j:Str)(μ Q):aR (.str i) (.str j) μ Q=(i.length+j.length≤1000000∧Q (.str (i++j)) μ):=rfl
theorem tN (a b:List D)(μ Q):aR (.tup a) (.tup b) μ Q=(a.length+b.length≤1000000∧Q (.tup (a++b)) μ):=rfl
theorem uZ (a b:List D)(μ Q):aR (.ls a) (.ls b) μ Q=(a.length+b.length≤1000000∧Q (.ls (a++b)) μ):=rfl
theorem qf (a:List D)(μ Q):bz [.tup a] μ Q=Q (.tup a) μ:=rfl
theorem pj (a:List D)(μ Q):bz [.ls a] μ Q=Q (.tup a) μ:=rfl
theorem pT (a:Addr)(μ Q):bz [.obj a] μ Q=kL μ a fun xs=>Q (.tup xs) μ:=rfl
theorem pR (a:List D)(μ Q):jC [.tup a] μ Q=Q (.ls a) μ:=rfl
theorem qH (a:List D)(μ Q):jC [.ls a] μ Q=Q (.ls a) μ:=rfl
theorem qr (a:Addr)(μ Q):jC [.obj a] μ Q=kL μ a fun xs=>Q (.ls xs) μ:=rfl
theorem qT (a:List D)(μ Q):jg [.tup a] μ Q = ∀ p,μ p=none→Q (.obj p) (up μ p (.lst a)):=rfl
theorem ql (a:List D)(μ Q):jg [.ls a] μ Q = ∀ p,μ p=none→Q (.obj p) (up μ p (.lst a)):=rfl
theorem pX (a:Addr)(μ Q):jg [.obj a] μ Q=kL μ a fun xs=>∀ p,μ p=none→Q (.obj p) (up μ p (.lst xs)):=rfl
theorem Hl (a:List D)(lo hi)(μ Q):rSl (.tup a) lo hi μ Q=Q (.tup (cutD a lo hi)) μ:=rfl
theorem Gp (a:List D)(lo hi)(μ Q):rSl (.ls a) lo hi μ Q=Q (.ls (cutD a lo hi)) μ:=rfl
theorem EA (a:Addr)(lo hi)(μ Q):rSl (.obj a) lo hi μ Q=kL μ a fun xs=>Q (.ls (cutD xs lo hi)) μ:=rfl
theorem Hb (n:Bool)(x:D)(a:List D)(μ Q):L3.rIn n x (.tup a) μ Q=((iZ x=true∧a.all iZ=true)∧Q (.bl (if n then !inD x a else inD x a)) μ):=rfl
theorem Ec (n:Bool)(x:D)(a:List D)(μ Q):L3.rIn n x (.ls a) μ Q=((iZ x=true∧a.all iZ=true)∧Q (.bl (if n then !inD x a else inD x a)) μ):=rfl
theorem EO (n:Bool)(x:D)(a:Addr)(μ Q):L3.rIn n x (.obj a) μ Q=kL μ a fun xs=>(iZ x=true∧xs.all iZ=true)∧Q (.bl (if n then !inD x xs else inD x xs)) μ:=rfl
theorem AI (a:Addr)(μ Q):dZ [.obj a] μ Q=kL μ a fun xs=>Q (.int xs.length) μ:=rfl
theorem zX (x:Str)(μ Q):dZ [.str x] μ Q=(x.length≤1000000∧Q (.int x.length) μ):=rfl
theorem Ho (μ Q):rIs .non .non μ Q=Q (.bl true) μ:=rfl
theorem Eg (i:Int)(μ Q):rIs (.int i) .non μ Q=Q (.bl false) μ:=rfl
theorem GS (i:List D)(μ Q):rIs (.tup i) .non μ Q=Q (.bl false) μ:=rfl
theorem qd (μ Q):iU .non .non μ Q=Q (.bl false) μ:=rfl
theorem qi (i:Int)(μ Q):iU (.int i) .non μ Q=Q (.bl true) μ:=rfl
theorem pB (i:List D)(μ Q):iU (.tup i) .non μ Q=Q (.bl true) μ:=rfl
theorem zU (c:String)(i:List D)(μ Q):DD c (.ls i) μ Q=Q (.bl (kW "list" c)) μ:=rfl
theorem yR (c:String)(i:Str)(μ Q):DD c (.str i) μ Q=Q (.bl (kW "str" c)) μ:=rfl
theorem Ak (c:String)(μ Q):DD c .non μ Q=Q (.bl (kW "NoneType" c)) μ:=rfl
theorem cj (k:Nat)(ds:List D):atD ds (k:Int)=ds[k]?:=by
  unfold atD L2.atI L2.ixN
  rw[if_pos (Int.natCast_nonneg k)]
  by_cases h:k < ds.length
  · rw[if_pos (by omega)];simp
  · rw[if_neg (by omega)];simp;omega
theorem sQ (ds:List D):atD ds 0=ds[0]?:=cj 0 ds
theorem xf (ds:List D):atD ds 1=ds[1]?:=cj 1 ds
theorem A5 (ds:List D):atD ds 2=ds[2]?:=cj 2 ds
theorem B8 (ds:List D):atD ds 3=ds[3]?:=cj 3 ds
theorem Bn (ds:List D):atD ds 4=ds[4]?:=cj 4 ds
theorem Bk (ds:List D):atD ds 5=ds[5]?:=cj 5 ds
theorem Ki (n k:Nat):L2.ixN n (k:Int)=if k < n then some k else none:=by
  unfold L2.ixN
  rw[if_pos (Int.natCast_nonneg k)]
  by_cases h:k < n
  · rw[if_pos (by omega),if_pos h];simp
  · rw[if_neg (by omega),if_neg h]
theorem fU:kW "int" "int" = true:=by decide
theorem fQ:kW "int" "bool" = false:=by decide
theorem fP:kW "bool" "bool" = true:=by decide
theorem fW:kW "bool" "int" = true:=by decide
theorem fY:kW "tuple" "tuple" = true:=by decide
theorem gf:kW "int" "tuple" = false:=by decide
theorem fR:kW "bool" "tuple" = false:=by decide
theorem fm0 {a n:Int}(h:0 < n):0≤a.fmod n:=Int.fmod_nonneg_of_pos a h
theorem fm1 {a n:Int}(h:0 < n):a.fmod n < n:=Int.fmod_lt_of_pos a h
theorem El (A B:Prop):kIf true A B=A:=rfl
theorem Ha (A B:Prop):kIf false A B=B:=rfl
theorem FZ (p:Prop) [Decidable p] (A B:Prop):kIf (decide p) A B=if p then A else B:=by by_cases h:p<;>simp[h,kIf]
theorem Eb (c:Bool)(A B:Prop):kIf (!c) A B=kIf c B A:=by cases c<;>rfl
theorem Fj (c:Bool)(f):kB (.bl c) f=f c:=rfl
theorem Aq (c:Int)(f):kI (.int c) f=f c:=rfl
theorem oo (c:D)(f):kO (some c) f=f c:=rfl
theorem y4 (c:List D)(f):kS (.tup c) f=f c:=rfl
theorem GO (c:List D)(f):kS (.ls c) f=f c:=rfl
theorem Aw (a b:D)(f):k2 [a,b] f=f a b:=rfl
theorem uE (c:Nat)(f):kN (some c) f=f c:=rfl
theorem Bm (μ:Mu)(a:Addr)(ds:List D)(f):kL (up μ a (.lst ds)) a f=f ds:=by unfold kL;rw[aH]
theorem QJ {μ:Mu}{a:Addr}{ds:List D}(h:μ a=some (.lst ds))(f):kL μ a f=f ds:=by unfold kL;rw[h]
theorem pw (a:Addr)(n:Int)(y:D)(μ:Mu)(f):Qs (.obj a) (.int n) y μ f=kL μ a fun ds=>kN (L2.ixN ds.length n) fun j=>f (up μ a (.lst (ds.set j y))):=rfl
theorem Aj (i j:Int)(μ Q):kj (.int i) (.int j) μ Q=Q (.int (i - j)) μ:=rfl
theorem yM (i j:Int)(μ Q):eO (.int i) (.int j) μ Q=(MulOk i j∧Q (.int (i*j)) μ):=rfl
theorem zc (i j:Int)(μ Q):l6 (.int i) (.int j) μ Q=(js j∧Q (.int (i.fdiv j)) μ):=rfl
theorem zJ (i j:Int)(μ Q):kE (.int i) (.int j) μ Q=(j≠0∧Q (.int (i.fmod j)) μ):=rfl
theorem Ar (i j:Int)(μ Q):CU (.int i) (.int j) μ Q=(qD i j∧Q (.int (i ^ j.toNat)) μ):=rfl
theorem zk (i:Int)(μ Q):Jm (.int i) μ Q=Q (.int (-i)) μ:=rfl
theorem FA (i j:Int)(μ Q):rLt (.int i) (.int j) μ Q=Q (.bl (decide (i < j))) μ:=rfl
theorem Ei (i j:Int)(μ Q):rLe (.int i) (.int j) μ Q=Q (.bl (decide (i≤j))) μ:=rfl
theorem Gh (i j:Int)(μ Q):rGt (.int i) (.int j) μ Q=Q (.bl (decide (j < i))) μ:=rfl
theorem Gq (i j:Int)(μ Q):rGe (.int i) (.int j) μ Q=Q (.bl (decide (j≤i))) μ:=rfl
theorem HU (x y:D)(μ Q):L3.rEq x y μ Q=((okD 40 x=true∧okD 40 y=true)∧Q (.bl (eqD x y)) μ):=rfl
theorem Fg (x y:D)(μ Q):L3.rNe x y μ Q=((okD 40 x=true∧okD 40 y=true)∧Q (.bl (!eqD x y)) μ):=rfl
theorem qR (ds:List D)(i:Int)(μ Q):L3.rIx (.tup ds) (.int i) μ Q=kO (atD ds i) fun d=>Q d μ:=rfl
theorem FL (ds:List D)(i:Int)(μ Q):L3.rIx (.ls ds) (.int i) μ Q=kO (atD ds i) fun d=>Q d μ:=rfl
theorem F7 (a:Addr)(i:Int)(μ Q):L3.rIx (.obj a) (.int i) μ Q=kL μ a fun ds=>kO (atD ds i) fun d=>Q d μ:=rfl
theorem zy (c:String)(i:Int)(μ Q):DD c (.int i) μ Q=Q (.bl (kW "int" c)) μ:=rfl
theorem yY (c:String)(i:Bool)(μ Q):DD c (.bl i) μ Q=Q (.bl (kW "bool" c)) μ:=rfl
theorem yC (c:String)(i:List D)(μ Q):DD c (.tup i) μ Q=Q (.bl (kW "tuple" c)) μ:=rfl
theorem yy (i:Int)(μ Q):vz [.int i] μ Q=Q (.int (if i < 0 then -i else i)) μ:=rfl
theorem yr (i j:Int)(μ Q):tu [.int i,.int j] μ Q=Q (.int (if j > i then j else i)) μ:=rfl
theorem yO (i j:Int)(μ Q):sS [.int i,.int j] μ Q=Q (.int (if j < i then j else i)) μ:=rfl
theorem zg (i:Int)(μ Q):zR [.int i] μ Q=Q (.int i) μ:=rfl
theorem zu (i:Bool)(μ Q):zR [.bl i] μ Q=Q (.int (if i then 1 else 0)) μ:=rfl
theorem yU (i:List D)(μ Q):dZ [.tup i] μ Q=Q (.int i.length) μ:=rfl
theorem yF (i:List D)(μ Q):dZ [.ls i] μ Q=Q (.int i.length) μ:=rfl
local macro_rules | `(tactic| walk_at "rd")=>`(tactic| try simp only[ah,TC,aj,TUn,HB,zP,DQ,TB,pH,TOr,OB,lR,yq,ar,af,bw,fX,me,aq,bx,aB,Ah,GP,fN,aY,Fl,bY,aw,aP,qh,AD,kg,gG,eL, 
  El,Ha,FZ,Eb,Fj,Aq,oo,y4,GO,Aw,uE,Bm,pw,uH,uC,tN,uZ,mf,iX,uS,qf,pj,pT,pR,qH,qr,qT,ql,pX,TSl,ONo,lH,Hl,Gp,EA,Hb,Ec,EO,AI,zX,Ho,Eg,GS,qd,qi,pB,zU,yR,Ak,Aj,yM,zc,zJ,Ar,zk,FA,Ei,Gh,Gq,HU,Fg,qR,FL,F7,zy,yY,yC,yy,yr,yO,zg,zu,yU,yF,
  lk,ini,List.map,List.length,List.replicate,List.append,List.set,List.cons_append,List.nil_append,Nat.sub_self,Nat.reduceSub,Nat.reduceAdd,
  sQ,xf,A5,B8,Bn,Bk,List.getElem?_cons_zero,List.getElem?_cons_succ,aH,Nat.reduceLT,Nat.reduceLeDiff,if_true,if_false,true_and,and_true,Bool.not_true,Bool.not_false,Nat.lt_add_one,Nat.zero_lt_succ,Nat.succ_lt_succ_iff,Nat.zero_lt_one,
  decide_eq_true_eq,Bool.false_eq_true,ite_false,ite_true,ne_eq,not_false_eq_true,Int.reduceToNat,Int.reducePow,Int.reduceNeg,Int.reduceSub,Int.reduceAdd,Int.reduceMul,Int.reduceEq,okD,dB,eqD,rP,Bool.and_self,Bool.and_true,Bool.true_and,fU,fQ,fP,fW,fY,gf,fR])
local macro_rules | `(tactic| walk_at "ok")=>`(tactic| (simp only[L3.js,L3.MulOk,L3.S64,L3.gE,L3.qD] at *;omega))
def Box (μ:Mu)(b:Addr):Prop:=∃ g s c:Int,μ b=some (.lst [.int g,.int s,.int c])∧0≤s∧s < 2147483647
structure qy (b:Addr) (μ μ':Mu):Prop where
  box:Box μ' b
  oth:∀ a,a≠b→μ' a=μ a
theorem qy.trans {b:Addr}{μ μ1 μ2:Mu}(x:qy b μ μ1)(y:qy b μ1 μ2):qy b μ μ2:=⟨y.box,fun a h=>(y.oth a h).trans (x.oth a h)⟩
theorem xM (x y:Int):Int.gcd y (x.fmod y)=Int.gcd x y:=by
  rw[Int.fmod_def,Int.gcd_sub_mul_left_right,Int.gcd_comm]
theorem Gr (a:Int):(if a < 0 then -a else a)=(a.natAbs:Int):=by
  split<;>omega
def mz (i:Nat):ST→Mu→Nat:=fun ρ _=>match lk ρ i with
  | some (.int z)=>z.toNat
  | _=>0
structure Fr (p q:Int):Prop where
  q0:0 < q
  q1:q < 100000000000
  p0:-100000000000 < p
  p1:p < 100000000000
  g:Int.gcd p q=1
theorem jF {a b:Int}(h:0 < b):a.fdiv b=a / b:=Int.fdiv_eq_ediv_of_nonneg a (Int.le_of_lt h)
theorem EH {ns:List Int}{k:Int}(h0:0≤k)(h1:k < (ns.length:Int)):∃ z,atD (ns.map D.int) k=some (.int z):=by
  rcases Int.eq_ofNat_of_zero_le h0 with ⟨j,rfl⟩
  rw[cj]
  have hj:j < ns.length:=by omega
  exact ⟨ns[j],by simp[hj]⟩
theorem yt {lo:Int}{n:Nat}{d:D}(h:d∈cx lo n):∃ k:Int,d=.int k∧lo≤k∧k < lo+n:=by
  unfold cx at h
  rcases List.mem_map.mp h with ⟨i,hi,rfl⟩
  have:=List.mem_range.mp hi
  exact ⟨_,rfl,by omega,by omega⟩
def fi:FSp:=fun ds μ Q=>match ds with
  | [.ls xs]=>(∃ ns:List Int,xs=ns.map .int∧ns.length≤63)∧∀ μ',Q (.bl true) μ'
  | _=>False
theorem uc:∀ ds μ Q,fi ds μ Q→ds.length=1:=by
  unfold fi
  walk_at "ln"
theorem mq (ns:List Int)(h:ns.length≤63)(μ:Mu):fi [.ls (ns.map .int)] μ (fun d _=>d=.bl true):=⟨⟨ns,rfl,h⟩,fun _=>rfl⟩
local macro_rules | `(tactic| walk_at "rd")=>`(tactic| try simp only[ah,TC,aj,TUn,HB,zP,DQ,TB,pH,TOr,OB,lR,yq,ar,af,bw,fX,me,aq,bx,aB,Ah,GP,fN,aY,Fl,bY,aw,aP,qh,AD,kg,gG,eL,bW,fM,fu,fo,Qf,ILs,
  El,Ha,FZ,Eb,Fj,Aq,oo,y4,GO,Aw,uE,Bm,pw,uH,uC,tN,uZ,mf,iX,uS,qf,pj,pT,pR,qH,qr,qT,ql,pX,TSl,ONo,lH,Hl,Gp,EA,Hb,Ec,EO,AI,zX,Ho,Eg,GS,qd,qi,pB,zU,yR,Ak,Aj,yM,zc,zJ,Ar,zk,FA,Ei,Gh,Gq,HU,Fg,qR,FL,F7,zy,yY,yC,yy,yr,yO,zg,zu,yU,yF,
  lk,ini,List.map,List.length,List.replicate,List.append,List.set,List.cons_append,List.nil_append,Nat.sub_self,Nat.reduceSub,Nat.reduceAdd,
  sQ,xf,A5,B8,Bn,Bk,List.getElem?_cons_zero,List.getElem?_cons_succ,aH,iq,Nat.reduceLT,Nat.reduceLeDiff,if_true,if_false,true_and,and_true,Bool.not_true,Bool.not_false,Nat.lt_add_one,Nat.zero_lt_succ,Nat.succ_lt_succ_iff,Nat.zero_lt_one,
  decide_eq_true_eq,Bool.false_eq_true,ite_false,ite_true,ne_eq,not_false_eq_true,Int.reduceToNat,Int.reducePow,Int.reduceNeg,Int.reduceSub,Int.reduceAdd,Int.reduceMul,Int.reduceEq,okD,dB,eqD,rP,Bool.and_self,Bool.and_true,Bool.true_and,fU,fQ,fP,fW,fY,gf,fR])
structure IsPart (a b p q:Int):Prop where
  q0:0 < q
  g:Int.gcd p q=1
  e:p*b=a*q
  pa:p.natAbs≤a.natAbs
  qb:q.natAbs≤b.natAbs
theorem qP {g c:Int}(hg:0 < g):c.natAbs≤(g*c).natAbs:=by
  rw[Int.natAbs_mul]
  exact Nat.le_mul_of_pos_left _ (by omega)
theorem Bw {a b:Int}(hb:b≠0):IsPart a b (a.fdiv (if b < 0 then -(Int.gcd a b:Int) else Int.gcd a b)) (b.fdiv (if b < 0 then -(Int.gcd a b:Int) else Int.gcd a b)):=by
  have gp:0 < Int.gcd a b:=Int.gcd_pos_of_ne_zero_right a hb
  have gz:0 < (Int.gcd a b:Int):=by omega
  obtain ⟨c,hc⟩:=Int.gcd_dvd_left a b
  obtain ⟨d,hd⟩:=Int.gcd_dvd_right a b
  have g1:=Int.gcd_ediv_gcd_ediv_gcd gp
  have e1:a / (Int.gcd a b:Int)=c:=Int.ediv_eq_of_eq_mul_right (by omega) hc
  have e2:b / (Int.gcd a b:Int)=d:=Int.ediv_eq_of_eq_mul_right (by omega) hd
  rw[e1,e2] at g1
  generalize (Int.gcd a b:Int)=g at *
  clear e1 e2 gp
  subst hc hd
  have p1:=qP (c:=c) gz
  have p2:=qP (c:=d) gz
  split
  · rename_i hneg
    have d0:d < 0:=by
      rcases Int.lt_trichotomy d 0 with h | h | h
      · exact h
      · subst h;omega
      · have:=Int.mul_pos gz h;omega
    have x1:(g*c).fdiv (-g) = -c:=by rw[show g*c = -g * -c by rw[Int.neg_mul_neg]];exact Int.mul_fdiv_cancel_left _ (by omega)
    have x2:(g*d).fdiv (-g) = -d:=by rw[show g*d = -g * -d by rw[Int.neg_mul_neg]];exact Int.mul_fdiv_cancel_left _ (by omega)
    rw[x1,x2]
    refine ⟨by omega,by rw[Int.neg_gcd,Int.gcd_neg];exact g1,?_,by omega,by omega⟩
    rw[Int.neg_mul,Int.mul_neg,Int.mul_left_comm,Int.mul_assoc]
  · rename_i hneg
    have d0:0 < d:=by
      rcases Int.lt_trichotomy d 0 with h | h | h
      · have:=Int.mul_neg_of_pos_of_neg gz h;omega
      · subst h;omega
      · exact h
    have x1:(g*c).fdiv g=c:=Int.mul_fdiv_cancel_left _ (by omega)
    have x2:(g*d).fdiv g=d:=Int.mul_fdiv_cancel_left _ (by omega)
    rw[x1,x2]
    refine ⟨d0,g1,?_,by omega,by omega⟩
    rw[Int.mul_left_comm,Int.mul_assoc]
theorem JS {p q p' q':Int}(q0:0 < q)(q0':0 < q')(g:Int.gcd p q=1)(g':Int.gcd p' q'=1)(e:p*q'=p'*q):p=p'∧q=q':=by
  have h1:q ∣ q':=by
    have:q ∣ p*q':=⟨p',by rw[e,Int.mul_comm]⟩
    have h:=Int.dvd_gcd_mul_iff_dvd_mul.mpr this
    rw[Int.gcd_comm,g] at h
    simpa using h
  have h2:q' ∣ q:=by
    have:q' ∣ p'*q:=⟨p,by rw[← e,Int.mul_comm]⟩
    have h:=Int.dvd_gcd_mul_iff_dvd_mul.mpr this
    rw[Int.gcd_comm,g'] at h
    simpa using h
  have e3:q=q':=Int.dvd_antisymm (by omega) (by omega) h1 h2
  subst e3
  exact ⟨Int.eq_of_mul_eq_mul_right (by omega) e,rfl⟩
theorem IsPart.same {a b p q a' b' p' q':Int}(h:IsPart a b p q)(h':IsPart a' b' p' q')(hb:b≠0)(hb':b'≠0)(e:a*b'=a'*b):p=p'∧q=q':=by
  refine JS h.q0 h'.q0 h.g h'.g ?_
  have e1:=h.e
  have e2:=h'.e
  have x:(p*q')*(b*b')=(p'*q)*(b*b'):=by
    calc (p*q')*(b*b')=(p*b)*(q'*b'):=by ac_rfl
      _=(a*q)*(q'*b'):=by rw[e1]
      _=(a*b')*(q*q'):=by ac_rfl
      _=(a'*b)*(q*q'):=by rw[e]
      _=(a'*q')*(q*b):=by ac_rfl
      _=(p'*b')*(q*b):=by rw[e2]
      _=(p'*q)*(b*b'):=by ac_rfl
  exact Int.eq_of_mul_eq_mul_right (Int.mul_ne_zero hb hb') x
def dq:FSp:=fun ds μ Q=>match ds with
  | [.int a,.int b]=>Q (.int (Int.gcd a b)) μ
  | _=>False
theorem rH:∀ ds μ Q,dq ds μ Q→ds.length=2:=by
  unfold dq
  walk_at "ln"
def m8:STr:=aB (aP (aq vz (af (ah 0) (ar))) (aw 2)) (aB (aP (aq vz (af (ah 1) (ar))) (aw 3)) (aB (um (TB (aj rGt (ah 3) (TC (.int 0)))) (aB (aP (aj kE (ah 2) (ah 3)) (aw 4)) (aB (aP (ah 3) (aw 2)) (aP (ah 4) (aw 3))))) (aY (ah 2))))
theorem tO:∀ ds μ Q,dq ds μ Q→m8 { nx:=fun _ μ'=>RT Q .non μ',rt:=RT Q } (ini 5 ds) μ:=by
  intro ds μ Q k
  unfold dq at k
  split at k
  case h_2=>exact k.elim
  rename_i a b
  unfold m8
  walk_at "rd"
  refine ⟨fun ρ μ'=>μ'=μ∧∃ (x y:Int) (z:Option D),ρ=[some (.int a),some (.int b),some (.int x),some (.int y),z]∧0≤x∧0≤y∧Int.gcd x y=Int.gcd a b,mz 3,⟨rfl,_,_,_,rfl,?_,?_,?_⟩,?_⟩
  · split<;>omega
  · split<;>omega
  · rw[Gr,Gr];unfold Int.gcd;rw[Int.natAbs_natCast,Int.natAbs_natCast]
  · rintro ρ _ ⟨rfl,x,y,z,rfl,x0,y0,e⟩
    walk_at "rd"
    split
    · rename_i hy
      refine ⟨by omega,⟨_,_,_,rfl,y0,fm0 hy,?_⟩,?_⟩
      · rw[xM];exact e
      · have:=fm1 (a:=x) hy
        have:=fm0 (a:=x) hy
        simp only[mz,lk]
        omega
    · rename_i hy
      have hy0:y=0:=by omega
      subst hy0
      rw[Int.gcd_zero_right] at e
      have hx:x=(Int.gcd a b:Int):=by omega
      subst hx
      exact ⟨_,.refl _,k⟩
def fB:FSp:=fun ds μ Q=>match ds with
  | [.int a,.int b]=>(b≠0∧gE b)∧∀ p q,IsPart a b p q→Q (.tup [.int p,.int q]) μ
  | _=>False
theorem HI:∀ ds μ Q,fB ds μ Q→ds.length=2:=by
  unfold fB
  walk_at "ln"
def FX:STr:=aB (aP (aq dq (af (ah 0) (af (ah 1) (ar)))) (aw 2)) (aB (bY (TB (aj rLt (ah 1) (TC (.int 0)))) (aP (TUn Jm (ah 2)) (aw 2)) (bx)) (aY (bw (af (aj l6 (ah 0) (ah 2)) (af (aj l6 (ah 1) (ah 2)) (ar))))))
theorem JP:∀ ds μ Q,fB ds μ Q→FX { nx:=fun _ μ'=>RT Q .non μ',rt:=RT Q } (ini 3 ds) μ:=by
  intro ds μ Q h
  unfold fB at h
  split at h
  case h_2=>exact h.elim
  rename_i a b
  obtain ⟨⟨hb,hm⟩,k⟩:=h
  have P:=k _ _ (Bw (a:=a) hb)
  have gp:0 < Int.gcd a b:=Int.gcd_pos_of_ne_zero_right a hb
  have gl:Int.gcd a b≤b.natAbs:=Int.gcd_le_natAbs_right a hb
  unfold FX
  walk_at "rd"
  show (if b < 0 then _ else _)
  split
  · rename_i hn
    rw[if_pos hn] at P
    have dv:js (-(Int.gcd a b:Int)):=by walk_at "ok"
    exact ⟨dv,dv,_,.refl _,P⟩
  · rename_i hn
    rw[if_neg hn] at P
    have dv:js (Int.gcd a b:Int):=by walk_at "ok"
    exact ⟨dv,dv,_,.refl _,P⟩
structure FrB (lo hi p q:Int):Prop where
  q0:0 < q
  q1:q≤10000002
  g:Int.gcd p q=1
  ge:lo*q≤p
  le:p≤hi*q
structure FrA (lo hi p q:Int):Prop extends FrB lo hi p q where
  ab:lo*q < p
structure FrL (hi p q:Int):Prop extends FrB 0 hi p q where
  ab:0 < p
  be:p < hi*q
theorem jX {a b:Int}(b0:0 < b):∃ g p q:Int,0 < g∧a=g*p∧b=g*q∧a.fdiv (Int.gcd a b)=p∧b.fdiv (Int.gcd a b)=q∧0 < q∧q≤b∧Int.gcd p q=1:=by
  have gp:0 < Int.gcd a b:=Int.gcd_pos_of_ne_zero_right a (by omega)
  have gz:0 < (Int.gcd a b:Int):=by omega
  obtain ⟨c,hc⟩:=Int.gcd_dvd_left a b
  obtain ⟨d,hd⟩:=Int.gcd_dvd_right a b
  have g1:=Int.gcd_ediv_gcd_ediv_gcd gp
  have e1:a / (Int.gcd a b:Int)=c:=Int.ediv_eq_of_eq_mul_right (by omega) hc
  have e2:b / (Int.gcd a b:Int)=d:=Int.ediv_eq_of_eq_mul_right (by omega) hd
  rw[e1,e2] at g1
  refine ⟨_,c,d,gz,hc,hd,by rw[jF gz];exact e1,by rw[jF gz];exact e2,?_,?_,g1⟩
  all_goals generalize (Int.gcd a b:Int)=g at *
  · rcases Int.lt_trichotomy d 0 with h | h | h
    · have:=Int.mul_neg_of_pos_of_neg gz h;omega
    · subst h;omega
    · exact h
  · have d0:0 < d:=by
      rcases Int.lt_trichotomy d 0 with h | h | h
      · have:=Int.mul_neg_of_pos_of_neg gz h;omega
      · subst h;omega
      · exact h
    have h:=Int.mul_le_mul_of_nonneg_right (show (1:Int)≤g by omega) (show (0:Int)≤d by omega)
    omega
theorem ES {lo hi a b:Int}(b0:0 < b)(b1:b≤10000002)(h1:lo*b≤a)(h2:a≤hi*b):FrB lo hi (a.fdiv (Int.gcd a b)) (b.fdiv (Int.gcd a b)):=by
  obtain ⟨g,p,q,g0,ea,eb,ep,eq,q0,qb,gg⟩:=jX (a:=a) b0
  rw[ep,eq]
  subst ea
  have e1:lo*b=g*(lo*q):=by rw[eb];ac_rfl
  have e2:hi*b=g*(hi*q):=by rw[eb];ac_rfl
  exact ⟨q0,by omega,gg,Int.le_of_mul_le_mul_left (by rw[← e1];exact h1) g0,Int.le_of_mul_le_mul_left (by rw[← e2];exact h2) g0⟩
theorem G7 {lo hi a b:Int}(b0:0 < b)(b1:b≤10000002)(h1:lo*b < a)(h2:a≤hi*b):FrA lo hi (a.fdiv (Int.gcd a b)) (b.fdiv (Int.gcd a b)):=by
  refine ⟨ES b0 b1 (by omega) h2,?_⟩
  obtain ⟨g,p,q,g0,ea,eb,ep,eq,q0,qb,gg⟩:=jX (a:=a) b0
  rw[ep,eq]
  have e1:lo*b=g*(lo*q):=by rw[eb];ac_rfl
  exact Int.lt_of_mul_lt_mul_left (by rw[← e1,← ea];exact h1) (by omega)
theorem PV {hi a b:Int}(b0:0 < b)(b1:b≤10000002)(h1:0 < a)(h2:a < hi*b):FrL hi (a.fdiv (Int.gcd a b)) (b.fdiv (Int.gcd a b)):=by
  refine ⟨ES b0 b1 (by omega) (by omega),?_,?_⟩
  all_goals
    obtain ⟨g,p,q,g0,ea,eb,ep,eq,q0,qb,gg⟩:=jX (a:=a) b0
  · rw[ep]
    exact Int.lt_of_mul_lt_mul_left (a:=g) (by rw[← ea];simpa using h1) (by omega)
  · rw[ep,eq]
    have e1:hi*b=g*(hi*q):=by rw[eb];ac_rfl
    exact Int.lt_of_mul_lt_mul_left (by rw[← e1,← ea];exact h2) (by omega)
theorem dO:(Str.ofString "still" = Str.ofString "step")=False:=eq_false (by decide +kernel)
theorem c9:(Str.ofString "still" = Str.ofString "swell")=False:=eq_false (by decide +kernel)
theorem dH:(Str.ofString "still" = Str.ofString "heed")=False:=eq_false (by decide +kernel)
theorem dP:(Str.ofString "still" = Str.ofString "calm")=False:=eq_false (by decide +kernel)
theorem dX:(Str.ofString "step" = Str.ofString "still")=False:=eq_false (by decide +kernel)
theorem dI:(Str.ofString "step" = Str.ofString "swell")=False:=eq_false (by decide +kernel)
theorem eP:(Str.ofString "step" = Str.ofString "heed")=False:=eq_false (by decide +kernel)
theorem fe:(Str.ofString "step" = Str.ofString "calm")=False:=eq_false (by decide +kernel)
theorem c8:(Str.ofString "swell" = Str.ofString "still")=False:=eq_false (by decide +kernel)
theorem dU:(Str.ofString "swell" = Str.ofString "step")=False:=eq_false (by decide +kernel)
theorem dF:(Str.ofString "swell" = Str.ofString "heed")=False:=eq_false (by decide +kernel)
theorem dG:(Str.ofString "swell" = Str.ofString "calm")=False:=eq_false (by decide +kernel)
theorem dN:(Str.ofString "heed" = Str.ofString "still")=False:=eq_false (by decide +kernel)
theorem eV:(Str.ofString "heed" = Str.ofString "step")=False:=eq_false (by decide +kernel)
theorem dJ:(Str.ofString "heed" = Str.ofString "swell")=False:=eq_false (by decide +kernel)
theorem eX:(Str.ofString "heed" = Str.ofString "calm")=False:=eq_false (by decide +kernel)
theorem dE:(Str.ofString "calm" = Str.ofString "still")=False:=eq_false (by decide +kernel)
theorem fc:(Str.ofString "calm" = Str.ofString "step")=False:=eq_false (by decide +kernel)
theorem dM:(Str.ofString "calm" = Str.ofString "swell")=False:=eq_false (by decide +kernel)
theorem fb:(Str.ofString "calm" = Str.ofString "heed")=False:=eq_false (by decide +kernel)
theorem mi:PyData.strOk (Str.ofString "still")=true:=by decide +kernel
theorem pA:PyData.strOk (Str.ofString "step")=true:=by decide +kernel
theorem mG:PyData.strOk (Str.ofString "swell")=true:=by decide +kernel
theorem qx:PyData.strOk (Str.ofString "heed")=true:=by decide +kernel
theorem qY:PyData.strOk (Str.ofString "calm")=true:=by decide +kernel
abbrev fr (p q:Int):D:=.tup [.int p,.int q]
theorem cq (i:Decidable (Str.ofString "still" = Str.ofString "step")):@decide (Str.ofString "still" = Str.ofString "step") i=false:=by cases i with | isTrue h=>exact absurd h (by rw[dO];exact not_false) | isFalse _=>rfl
theorem bV (i:Decidable (Str.ofString "still" = Str.ofString "swell")):@decide (Str.ofString "still" = Str.ofString "swell") i=false:=by cases i with | isTrue h=>exact absurd h (by rw[c9];exact not_false) | isFalse _=>rfl
theorem cy (i:Decidable (Str.ofString "still" = Str.ofString "heed")):@decide (Str.ofString "still" = Str.ofString "heed") i=false:=by cases i with | isTrue h=>exact absurd h (by rw[dH];exact not_false) | isFalse _=>rfl
theorem cw (i:Decidable (Str.ofString "still" = Str.ofString "calm")):@decide (Str.ofString "still" = Str.ofString "calm") i=false:=by cases i with | isTrue h=>exact absurd h (by rw[dP];exact not_false) | isFalse _=>rfl
theorem cB (i:Decidable (Str.ofString "step" = Str.ofString "still")):@decide (Str.ofString "step" = Str.ofString "still") i=false:=by cases i with | isTrue h=>exact absurd h (by rw[dX];exact not_false) | isFalse _=>rfl
theorem cD (i:Decidable (Str.ofString "step" = Str.ofString "swell")):@decide (Str.ofString "step" = Str.ofString "swell") i=false:=by cases i with | isTrue h=>exact absurd h (by rw[dI];exact not_false) | isFalse _=>rfl
theorem cV (i:Decidable (Str.ofString "step" = Str.ofString "heed")):@decide (Str.ofString "step" = Str.ofString "heed") i=false:=by cases i with | isTrue h=>exact absurd h (by rw[eP];exact not_false) | isFalse _=>rfl
theorem cT (i:Decidable (Str.ofString "step" = Str.ofString "calm")):@decide (Str.ofString "step" = Str.ofString "calm") i=false:=by cases i with | isTrue h=>exact absurd h (by rw[fe];exact not_false) | isFalse _=>rfl
theorem bU (i:Decidable (Str.ofString "swell" = Str.ofString "still")):@decide (Str.ofString "swell" = Str.ofString "still") i=false:=by cases i with | isTrue h=>exact absurd h (by rw[c8];exact not_false) | isFalse _=>rfl
theorem cu (i:Decidable (Str.ofString "swell" = Str.ofString "step")):@decide (Str.ofString "swell" = Str.ofString "step") i=false:=by cases i with | isTrue h=>exact absurd h (by rw[dU];exact not_false) | isFalse _=>rfl
theorem cE (i:Decidable (Str.ofString "swell" = Str.ofString "heed")):@decide (Str.ofString "swell" = Str.ofString "heed") i=false:=by cases i with | isTrue h=>exact absurd h (by rw[dF];exact not_false) | isFalse _=>rfl
theorem cA (i:Decidable (Str.ofString "swell" = Str.ofString "calm")):@decide (Str.ofString "swell" = Str.ofString "calm") i=false:=by cases i with | isTrue h=>exact absurd h (by rw[dG];exact not_false) | isFalse _=>rfl
theorem cv (i:Decidable (Str.ofString "heed" = Str.ofString "still")):@decide (Str.ofString "heed" = Str.ofString "still") i=false:=by cases i with | isTrue h=>exact absurd h (by rw[dN];exact not_false) | isFalse _=>rfl
theorem cW (i:Decidable (Str.ofString "heed" = Str.ofString "step")):@decide (Str.ofString "heed" = Str.ofString "step") i=false:=by cases i with | isTrue h=>exact absurd h (by rw[eV];exact not_false) | isFalse _=>rfl
theorem cC (i:Decidable (Str.ofString "heed" = Str.ofString "swell")):@decide (Str.ofString "heed" = Str.ofString "swell") i=false:=by cases i with | isTrue h=>exact absurd h (by rw[dJ];exact not_false) | isFalse _=>rfl
theorem cR (i:Decidable (Str.ofString "heed" = Str.ofString "calm")):@decide (Str.ofString "heed" = Str.ofString "calm") i=false:=by cases i with | isTrue h=>exact absurd h (by rw[eX];exact not_false) | isFalse _=>rfl
theorem cF (i:Decidable (Str.ofString "calm" = Str.ofString "still")):@decide (Str.ofString "calm" = Str.ofString "still") i=false:=by cases i with | isTrue h=>exact absurd h (by rw[dE];exact not_false) | isFalse _=>rfl
theorem cQ (i:Decidable (Str.ofString "calm" = Str.ofString "step")):@decide (Str.ofString "calm" = Str.ofString "step") i=false:=by cases i with | isTrue h=>exact absurd h (by rw[fc];exact not_false) | isFalse _=>rfl
theorem cz (i:Decidable (Str.ofString "calm" = Str.ofString "swell")):@decide (Str.ofString "calm" = Str.ofString "swell") i=false:=by cases i with | isTrue h=>exact absurd h (by rw[dM];exact not_false) | isFalse _=>rfl
theorem cP (i:Decidable (Str.ofString "calm" = Str.ofString "heed")):@decide (Str.ofString "calm" = Str.ofString "heed") i=false:=by cases i with | isTrue h=>exact absurd h (by rw[fb];exact not_false) | isFalse _=>rfl
theorem iS (a:Str)(i:Decidable (a=a)):@decide (a=a) i=true:=by cases i with | isTrue _=>rfl | isFalse h=>exact absurd rfl h
def kLs (x:D)(f:List D→Prop):Prop:=match x with
  | .ls ds=>f ds
  | _=>False
def jr (sp:FSp)(ds:List D)(μ:Mu)(Q:DK):Prop:=sp ds μ Q
def LEN (ds:List D)(P:Prop):Prop:=ds.length≤1000000∧P
theorem M9 (d:D)(r:ST)(μ:Mu)(Q:DK):ah 0 (some d::r) μ Q=Q d μ:=propext Iff.rfl
theorem Ku (x0:Option D)(r:ST)(d:D)(μ:Mu)(k:ST→Mu→Prop):aw 0 d (x0::r) μ k=k (some d::r) μ:=propext Iff.rfl
theorem Mw (x0:Option D)(d:D)(r:ST)(μ:Mu)(Q:DK):ah 1 (x0::some d::r) μ Q=Q d μ:=propext Iff.rfl
theorem Je (x0 x1:Option D)(r:ST)(d:D)(μ:Mu)(k:ST→Mu→Prop):aw 1 d (x0::x1::r) μ k=k (x0::some d::r) μ:=propext Iff.rfl
theorem OO (x0 x1:Option D)(d:D)(r:ST)(μ:Mu)(Q:DK):ah 2 (x0::x1::some d::r) μ Q=Q d μ:=propext Iff.rfl
theorem K9 (x0 x1 x2:Option D)(r:ST)(d:D)(μ:Mu)(k:ST→Mu→Prop):aw 2 d (x0::x1::x2::r) μ k=k (x0::x1::some d::r) μ:=propext Iff.rfl
theorem Po (x0 x1 x2:Option D)(d:D)(r:ST)(μ:Mu)(Q:DK):ah 3 (x0::x1::x2::some d::r) μ Q=Q d μ:=propext Iff.rfl
theorem KQ (x0 x1 x2 x3:Option D)(r:ST)(d:D)(μ:Mu)(k:ST→Mu→Prop):aw 3 d (x0::x1::x2::x3::r) μ k=k (x0::x1::x2::some d::r) μ:=propext Iff.rfl
theorem Ng (x0 x1 x2 x3:Option D)(d:D)(r:ST)(μ:Mu)(Q:DK):ah 4 (x0::x1::x2::x3::some d::r) μ Q=Q d μ:=propext Iff.rfl
theorem KJ (x0 x1 x2 x3 x4:Option D)(r:ST)(d:D)(μ:Mu)(k:ST→Mu→Prop):aw 4 d (x0::x1::x2::x3::x4::r) μ k=k (x0::x1::x2::x3::some d::r) μ:=propext Iff.rfl
theorem OY (x0 x1 x2 x3 x4:Option D)(d:D)(r:ST)(μ:Mu)(Q:DK):ah 5 (x0::x1::x2::x3::x4::some d::r) μ Q=Q d μ:=propext Iff.rfl
theorem IK (x0 x1 x2 x3 x4 x5:Option D)(r:ST)(d:D)(μ:Mu)(k:ST→Mu→Prop):aw 5 d (x0::x1::x2::x3::x4::x5::r) μ k=k (x0::x1::x2::x3::x4::some d::r) μ:=propext Iff.rfl
theorem Pe (x0 x1 x2 x3 x4 x5:Option D)(d:D)(r:ST)(μ:Mu)(Q:DK):ah 6 (x0::x1::x2::x3::x4::x5::some d::r) μ Q=Q d μ:=propext Iff.rfl
theorem JU (x0 x1 x2 x3 x4 x5 x6:Option D)(r:ST)(d:D)(μ:Mu)(k:ST→Mu→Prop):aw 6 d (x0::x1::x2::x3::x4::x5::x6::r) μ k=k (x0::x1::x2::x3::x4::x5::some d::r) μ:=propext Iff.rfl
theorem My (x0 x1 x2 x3 x4 x5 x6:Option D)(d:D)(r:ST)(μ:Mu)(Q:DK):ah 7 (x0::x1::x2::x3::x4::x5::x6::some d::r) μ Q=Q d μ:=propext Iff.rfl
theorem Jb (x0 x1 x2 x3 x4 x5 x6 x7:Option D)(r:ST)(d:D)(μ:Mu)(k:ST→Mu→Prop):aw 7 d (x0::x1::x2::x3::x4::x5::x6::x7::r) μ k=k (x0::x1::x2::x3::x4::x5::x6::some d::r) μ:=propext Iff.rfl
theorem NP (x0 x1 x2 x3 x4 x5 x6 x7:Option D)(d:D)(r:ST)(μ:Mu)(Q:DK):ah 8 (x0::x1::x2::x3::x4::x5::x6::x7::some d::r) μ Q=Q d μ:=propext Iff.rfl
theorem IH (x0 x1 x2 x3 x4 x5 x6 x7 x8:Option D)(r:ST)(d:D)(μ:Mu)(k:ST→Mu→Prop):aw 8 d (x0::x1::x2::x3::x4::x5::x6::x7::x8::r) μ k=k (x0::x1::x2::x3::x4::x5::x6::x7::some d::r) μ:=propext Iff.rfl
theorem MV (x0 x1 x2 x3 x4 x5 x6 x7 x8:Option D)(d:D)(r:ST)(μ:Mu)(Q:DK):ah 9 (x0::x1::x2::x3::x4::x5::x6::x7::x8::some d::r) μ Q=Q d μ:=propext Iff.rfl
theorem Kg (x0 x1 x2 x3 x4 x5 x6 x7 x8 x9:Option D)(r:ST)(d:D)(μ:Mu)(k:ST→Mu→Prop):aw 9 d (x0::x1::x2::x3::x4::x5::x6::x7::x8::x9::r) μ k=k (x0::x1::x2::x3::x4::x5::x6::x7::x8::some d::r) μ:=propext Iff.rfl
theorem IM (x0 x1 x2 x3 x4 x5 x6 x7 x8 x9:Option D)(d:D)(r:ST)(μ:Mu)(Q:DK):ah 10 (x0::x1::x2::x3::x4::x5::x6::x7::x8::x9::some d::r) μ Q=Q d μ:=propext Iff.rfl
theorem E2 (x0 x1 x2 x3 x4 x5 x6 x7 x8 x9 x10:Option D)(r:ST)(d:D)(μ:Mu)(k:ST→Mu→Prop):aw 10 d (x0::x1::x2::x3::x4::x5::x6::x7::x8::x9::x10::r) μ k=k (x0::x1::x2::x3::x4::x5::x6::x7::x8::x9::some d::r) μ:=propext Iff.rfl
theorem LH (x0 x1 x2 x3 x4 x5 x6 x7 x8 x9 x10:Option D)(d:D)(r:ST)(μ:Mu)(Q:DK):ah 11 (x0::x1::x2::x3::x4::x5::x6::x7::x8::x9::x10::some d::r) μ Q=Q d μ:=propext Iff.rfl
theorem D6 (x0 x1 x2 x3 x4 x5 x6 x7 x8 x9 x10 x11:Option D)(r:ST)(d:D)(μ:Mu)(k:ST→Mu→Prop):aw 11 d (x0::x1::x2::x3::x4::x5::x6::x7::x8::x9::x10::x11::r) μ k=k (x0::x1::x2::x3::x4::x5::x6::x7::x8::x9::x10::some d::r) μ:=propext Iff.rfl
theorem IF (x0 x1 x2 x3 x4 x5 x6 x7 x8 x9 x10 x11:Option D)(d:D)(r:ST)(μ:Mu)(Q:DK):ah 12 (x0::x1::x2::x3::x4::x5::x6::x7::x8::x9::x10::x11::some d::r) μ Q=Q d μ:=propext Iff.rfl
theorem E6 (x0 x1 x2 x3 x4 x5 x6 x7 x8 x9 x10 x11 x12:Option D)(r:ST)(d:D)(μ:Mu)(k:ST→Mu→Prop):aw 12 d (x0::x1::x2::x3::x4::x5::x6::x7::x8::x9::x10::x11::x12::r) μ k=k (x0::x1::x2::x3::x4::x5::x6::x7::x8::x9::x10::x11::some d::r) μ:=propext Iff.rfl
theorem D4 (x0 x1 x2 x3 x4 x5 x6 x7 x8 x9 x10 x11 x12 x13:Option D)(r:ST)(d:D)(μ:Mu)(k:ST→Mu→Prop):aw 13 d (x0::x1::x2::x3::x4::x5::x6::x7::x8::x9::x10::x11::x12::x13::r) μ k=k (x0::x1::x2::x3::x4::x5::x6::x7::x8::x9::x10::x11::x12::some d::r) μ:=propext Iff.rfl
theorem Jk (x0 x1 x2 x3 x4 x5 x6 x7 x8 x9 x10 x11 x12 x13:Option D)(d:D)(r:ST)(μ:Mu)(Q:DK):ah 14 (x0::x1::x2::x3::x4::x5::x6::x7::x8::x9::x10::x11::x12::x13::some d::r) μ Q=Q d μ:=propext Iff.rfl
theorem DS (x0 x1 x2 x3 x4 x5 x6 x7 x8 x9 x10 x11 x12 x13 x14:Option D)(r:ST)(d:D)(μ:Mu)(k:ST→Mu→Prop):aw 14 d (x0::x1::x2::x3::x4::x5::x6::x7::x8::x9::x10::x11::x12::x13::x14::r) μ k=k (x0::x1::x2::x3::x4::x5::x6::x7::x8::x9::x10::x11::x12::x13::some d::r) μ:=propext Iff.rfl
theorem JO (x0 x1 x2 x3 x4 x5 x6 x7 x8 x9 x10 x11 x12 x13 x14:Option D)(d:D)(r:ST)(μ:Mu)(Q:DK):ah 15 (x0::x1::x2::x3::x4::x5::x6::x7::x8::x9::x10::x11::x12::x13::x14::some d::r) μ Q=Q d μ:=propext Iff.rfl
theorem EG (x0 x1 x2 x3 x4 x5 x6 x7 x8 x9 x10 x11 x12 x13 x14 x15:Option D)(r:ST)(d:D)(μ:Mu)(k:ST→Mu→Prop):aw 15 d (x0::x1::x2::x3::x4::x5::x6::x7::x8::x9::x10::x11::x12::x13::x14::x15::r) μ k=k (x0::x1::x2::x3::x4::x5::x6::x7::x8::x9::x10::x11::x12::x13::x14::some d::r) μ:=propext Iff.rfl
theorem RP (d:D)(ρ:ST)(μ:Mu)(Q:DK):TC d ρ μ Q=Q d μ:=propext Iff.rfl
theorem Nj (r:DR2)(a b:ETr)(ρ:ST)(μ:Mu)(Q:DK):aj r a b ρ μ Q=a ρ μ fun x μ1=>b ρ μ1 fun y μ2=>r x y μ2 Q:=propext Iff.rfl
theorem N8 (a b:ETr)(ρ:ST)(μ:Mu)(Q:DK):zP a b ρ μ Q=a ρ μ fun x μ1=>kB x fun c=>kIf c (Q (.bl true) μ1) (b ρ μ1 Q):=propext Iff.rfl
theorem SQ (t:ETr)(ρ:ST)(μ:Mu)(Q:Bool→Mu→Prop):TB t ρ μ Q=t ρ μ fun x μ1=>kB x fun c=>Q c μ1:=propext Iff.rfl
theorem OS (t u:TTr)(ρ:ST)(μ:Mu)(Q:Bool→Mu→Prop):pH t u ρ μ Q=t ρ μ fun c μ1=>kIf c (u ρ μ1 Q) (Q false μ1):=propext Iff.rfl
theorem QT (t u:TTr)(ρ:ST)(μ:Mu)(Q:Bool→Mu→Prop):TOr t u ρ μ Q=t ρ μ fun c μ1=>kIf c (Q true μ1) (u ρ μ1 Q):=propext Iff.rfl
theorem OK (c:TTr)(a b:ETr)(ρ:ST)(μ:Mu)(Q:DK):lR c a b ρ μ Q=c ρ μ fun k μ1=>kIf k (a ρ μ1 Q) (b ρ μ1 Q):=propext Iff.rfl
theorem M1 (ρ:ST)(μ:Mu)(Q:List D→Mu→Prop):ar ρ μ Q=Q [] μ:=propext Iff.rfl
theorem IY (a:ETr)(r:ATr)(ρ:ST)(μ:Mu)(Q:List D→Mu→Prop):af a r ρ μ Q=a ρ μ fun x μ1=>r ρ μ1 fun xs μ2=>Q (x::xs) μ2:=propext Iff.rfl
theorem M5 (t:ATr)(ρ:ST)(μ:Mu)(Q:DK):bw t ρ μ Q=t ρ μ fun ds μ1=>LEN ds (Q (.tup ds) μ1):=propext Iff.rfl
theorem NB (t:ATr)(ρ:ST)(μ:Mu)(Q:DK):fX t ρ μ Q=t ρ μ fun ds μ1=>LEN ds (Q (.ls ds) μ1):=propext Iff.rfl
theorem NU (t:ATr)(ρ:ST)(μ:Mu)(Q:DK):me t ρ μ Q=t ρ μ fun ds μ1=>LEN ds (∀ p,μ1 p=none→Q (.obj p) (up μ1 p (.lst ds))):=propext Iff.rfl
theorem IQ (sp:FSp)(t:ATr)(ρ:ST)(μ:Mu)(Q:DK):aq sp t ρ μ Q=t ρ μ fun ds μ1=>jr sp ds μ1 Q:=propext Iff.rfl
theorem K6 (nx:ST→Mu→Prop)(rt:DK)(bk ct:ST→Mu→Prop)(ρ:ST)(μ:Mu):bx ⟨nx,rt,bk,ct⟩ ρ μ=nx ρ μ:=propext Iff.rfl
theorem OJ (t u:STr)(nx:ST→Mu→Prop)(rt:DK)(bk ct:ST→Mu→Prop)(ρ:ST)(μ:Mu):aB t u ⟨nx,rt,bk,ct⟩ ρ μ=t ⟨u ⟨nx,rt,bk,ct⟩,rt,bk,ct⟩ ρ μ:=propext Iff.rfl
theorem KZ (e:ETr)(nx:ST→Mu→Prop)(rt:DK)(bk ct:ST→Mu→Prop)(ρ:ST)(μ:Mu):fN e ⟨nx,rt,bk,ct⟩ ρ μ=e ρ μ fun _ μ1=>nx ρ μ1:=propext Iff.rfl
theorem MY (e:ETr)(nx:ST→Mu→Prop)(rt:DK)(bk ct:ST→Mu→Prop)(ρ:ST)(μ:Mu):aY e ⟨nx,rt,bk,ct⟩ ρ μ=e ρ μ rt:=propext Iff.rfl
theorem Mz (c:TTr)(t u:STr)(nx:ST→Mu→Prop)(rt:DK)(bk ct:ST→Mu→Prop)(ρ:ST)(μ:Mu):bY c t u ⟨nx,rt,bk,ct⟩ ρ μ=c ρ μ fun b μ1=>kIf b (t ⟨nx,rt,bk,ct⟩ ρ μ1) (u ⟨nx,rt,bk,ct⟩ ρ μ1):=propext Iff.rfl
theorem N3 (e:ETr)(g:GTr)(nx:ST→Mu→Prop)(rt:DK)(bk ct:ST→Mu→Prop)(ρ:ST)(μ:Mu):aP e g ⟨nx,rt,bk,ct⟩ ρ μ=e ρ μ fun d μ1=>g d ρ μ1 nx:=propext Iff.rfl
theorem O3 (i j:Nat)(a:ATr)(nx:ST→Mu→Prop)(rt:DK)(bk ct:ST→Mu→Prop)(ρ:ST)(μ:Mu):qh i j a ⟨nx,rt,bk,ct⟩ ρ μ=a ρ μ fun ds μ1=>k2 ds fun v w=>aw i v ρ μ1 fun ρ2 μ2=>aw j w ρ2 μ2 nx:=propext Iff.rfl
theorem MA (it:ATr)(g:GTr)(b:STr)(nx:ST→Mu→Prop)(rt:DK)(bk ct:ST→Mu→Prop)(ρ:ST)(μ:Mu):kg it g b ⟨nx,rt,bk,ct⟩ ρ μ=it ρ μ fun ds μ1=>forR g b ⟨nx,rt,bk,ct⟩ ds ρ μ1:=propext Iff.rfl
theorem Dc (a:ETr)(ρ:ST)(μ:Mu)(Q:List D→Mu→Prop):gG a ρ μ Q=a ρ μ fun x μ1=>kI x fun j=>(-4611686018427387904≤j∧j < 4611686018427387904)∧Q (cx 0 j.toNat) μ1:=propext Iff.rfl
theorem j7 (a:ETr)(ρ:ST)(μ:Mu)(Q:List D→Mu→Prop):Qn (af a ar) ρ μ Q=a ρ μ fun x μ1=>kLs x fun ds=>Q (i7 ds) μ1:=propext (Iff.of_eq (congrArg (a ρ μ) (funext fun x=>funext fun μ1=>by cases x<;>rfl)))
theorem OL (a:ETr)(ρ:ST)(μ:Mu)(Q:DK):uS a ρ μ Q=a ρ μ fun x μ1=>kObj x fun b=>kL μ1 b fun ds=>Q (.ls ds) (dn μ1 b):=propext Iff.rfl
theorem MM (To Te:ETr)(ρ:ST)(μ:Mu)(Q:DK):mf To Te ρ μ Q=To ρ μ fun x μ1=>kObj x fun a=>kL μ1 a fun _=>Te ρ μ1 fun y μ2=>kL μ2 a fun ds=>ds.length < 1000000∧Q .non (up μ2 a (.lst (ds++[y]))):=propext Iff.rfl
theorem Q2 (a:ETr)(lo hi:OTr)(ρ:ST)(μ:Mu)(Q:DK):TSl a lo hi ρ μ Q=a ρ μ fun x μ1=>lo ρ μ1 fun l μ2=>hi ρ μ2 fun h μ3=>rSl x l h μ3 Q:=propext Iff.rfl
theorem Q8 (ρ:ST)(μ:Mu)(Q:Option Int→Mu→Prop):ONo ρ μ Q=Q none μ:=propext Iff.rfl
theorem OP (T:ETr)(ρ:ST)(μ:Mu)(Q:Option Int→Mu→Prop):lH T ρ μ Q=T ρ μ fun x μ1=>kI x fun i=>Q (some i) μ1:=propext Iff.rfl
theorem Pf (i0 i1:Nat)(d0 d1:D)(ρ:ST)(μ:Mu)(k:ST→Mu→Prop):eM [i0,i1] (.tup [d0,d1]) ρ μ k=aw i0 d0 ρ μ fun ρ1 _=>aw i1 d1 ρ1 μ fun ρ2 _=>k ρ2 μ:=by simp[eM,jt,aw]
theorem MT (i0 i1 i2 i3:Nat)(d0 d1 d2 d3:D)(ρ:ST)(μ:Mu)(k:ST→Mu→Prop):eM [i0,i1,i2,i3] (.tup [d0,d1,d2,d3]) ρ μ k=aw i0 d0 ρ μ fun ρ1 _=>aw i1 d1 ρ1 μ fun ρ2 _=>aw i2 d2 ρ2 μ fun ρ3 _=>aw i3 d3 ρ3 μ fun ρ4 _=>k ρ4 μ:=by simp[eM,jt,aw]
theorem Oi (i0 i1 i2 i3 i4 i5:Nat)(d0 d1 d2 d3 d4 d5:D)(ρ:ST)(μ:Mu)(k:ST→Mu→Prop):eM [i0,i1,i2,i3,i4,i5] (.tup [d0,d1,d2,d3,d4,d5]) ρ μ k=aw i0 d0 ρ μ fun ρ1 _=>aw i1 d1 ρ1 μ fun ρ2 _=>aw i2 d2 ρ2 μ fun ρ3 _=>aw i3 d3 ρ3 μ fun ρ4 _=>aw i4 d4 ρ4 μ fun ρ5 _=>aw i5 d5 ρ5 μ fun ρ6 _=>k ρ6 μ:=by simp[eM,jt,aw]
theorem PD (P:Prop):LEN [] P=P:=by simp[LEN]
theorem Ri (x0:D)(P:Prop):LEN [x0] P=P:=by simp[LEN]
theorem QK (x0 x1:D)(P:Prop):LEN [x0,x1] P=P:=by simp[LEN]
theorem RE (x0 x1 x2:D)(P:Prop):LEN [x0,x1,x2] P=P:=by simp[LEN]
theorem PR (x0 x1 x2 x3:D)(P:Prop):LEN [x0,x1,x2,x3] P=P:=by simp[LEN]
theorem QL (x0 x1 x2 x3 x4:D)(P:Prop):LEN [x0,x1,x2,x3,x4] P=P:=by simp[LEN]
theorem QE (x0 x1 x2 x3 x4 x5:D)(P:Prop):LEN [x0,x1,x2,x3,x4,x5] P=P:=by simp[LEN]
theorem QZ (x0 x1 x2 x3 x4 x5 x6 x7:D)(P:Prop):LEN [x0,x1,x2,x3,x4,x5,x6,x7] P=P:=by simp[LEN]
theorem NN (x0 x1 x2 x3 x4 x5 x6 x7 x8 x9 x10:D)(P:Prop):LEN [x0,x1,x2,x3,x4,x5,x6,x7,x8,x9,x10] P=P:=by simp[LEN]
theorem Oo (x0:D)(r:List D)(μ:Mu)(Q:DK):L3.rIx (.tup (x0::r)) (.int 0) μ Q=Q x0 μ:=by rw[qR];exact congrArg (fun o=>kO o fun d=>Q d μ) (cj 0 _)
theorem M7 (x0 x1:D)(r:List D)(μ:Mu)(Q:DK):L3.rIx (.tup (x0::x1::r)) (.int 1) μ Q=Q x1 μ:=by rw[qR];exact congrArg (fun o=>kO o fun d=>Q d μ) (cj 1 _)
theorem Oh (x0 x1 x2:D)(r:List D)(μ:Mu)(Q:DK):L3.rIx (.tup (x0::x1::x2::r)) (.int 2) μ Q=Q x2 μ:=by rw[qR];exact congrArg (fun o=>kO o fun d=>Q d μ) (cj 2 _)
theorem NW (x0 x1 x2 x3:D)(r:List D)(μ:Mu)(Q:DK):L3.rIx (.tup (x0::x1::x2::x3::r)) (.int 3) μ Q=Q x3 μ:=by rw[qR];exact congrArg (fun o=>kO o fun d=>Q d μ) (cj 3 _)
theorem OM (i j:Int)(μ:Mu)(Q:DK):L3.rEq (.int i) (.int j) μ Q=Q (.bl (decide (i=j))) μ:=by simp[L3.rEq,okD,eqD]
theorem O6 (i j:Int)(μ:Mu)(Q:DK):L3.rNe (.int i) (.int j) μ Q=Q (.bl (!decide (i=j))) μ:=by simp[L3.rNe,okD,eqD]
theorem Nv (i j:Str)(μ:Mu)(Q:DK):L3.rEq (.str i) (.str j) μ Q=((PyData.strOk i=true∧PyData.strOk j=true)∧Q (.bl (decide (i=j))) μ):=by simp[L3.rEq,okD,eqD]
theorem OA (i:Int)(μ:Mu)(Q:DK):jr vz [.int i] μ Q=Q (.int (if i < 0 then -i else i)) μ:=propext Iff.rfl
theorem Og (i j:Int)(μ:Mu)(Q:DK):jr tu [.int i,.int j] μ Q=Q (.int (max i j)) μ:=by show Q (.int (if j > i then j else i)) μ=_;congr 2;omega
theorem M3 (i j:Int)(μ:Mu)(Q:DK):jr sS [.int i,.int j] μ Q=Q (.int (min i j)) μ:=by show Q (.int (if j < i then j else i)) μ=_;congr 2;omega
theorem Nl (i:Bool)(μ:Mu)(Q:DK):jr zR [.bl i] μ Q=Q (.int (if i then 1 else 0)) μ:=propext Iff.rfl
theorem GN (a:List D)(μ:Mu)(Q:DK):jr bz [.tup a] μ Q=Q (.tup a) μ:=propext Iff.rfl
theorem Gw (a:List D)(μ:Mu)(Q:DK):jr bz [.ls a] μ Q=Q (.tup a) μ:=propext Iff.rfl
theorem Fq (a:Addr)(μ:Mu)(Q:DK):jr bz [.obj a] μ Q=kL μ a fun xs=>Q (.tup xs) μ:=propext Iff.rfl
theorem Gy (a:List D)(μ:Mu)(Q:DK):jr jC [.ls a] μ Q=Q (.ls a) μ:=propext Iff.rfl
theorem HX (a:List D)(μ:Mu)(Q:DK):jr jg [.tup a] μ Q = ∀ p,μ p=none→Q (.obj p) (up μ p (.lst a)):=propext Iff.rfl
theorem Nu (a:Addr)(μ:Mu)(Q:DK):jr dZ [.obj a] μ Q=kL μ a fun xs=>Q (.int xs.length) μ:=propext Iff.rfl
theorem mB (a:List D)(μ:Mu)(Q:DK):jr dZ [.tup a] μ Q=Q (.int a.length) μ:=propext Iff.rfl
theorem mj (a:List D)(μ:Mu)(Q:DK):jr dZ [.ls a] μ Q=Q (.int a.length) μ:=propext Iff.rfl
theorem CO (n:Nat)(i:Int):okD n (.int i)=true:=by cases n<;>simp[okD]
theorem xY (n:Nat)(x:Str):okD n (.str x)=PyData.strOk x:=by cases n<;>simp[okD]
theorem gw (n:Nat)(d:D)(r:List D):dB n (d::r)=(okD n d&&dB n r):=by simp[dB]
theorem sV (i j:Int):eqD (.int i) (.int j)=decide (i=j):=by simp[eqD]
theorem lC (i j:Str):eqD (.str i) (.str j)=decide (i=j):=by simp[eqD]
theorem KG (A B:Prop):kIf true A B=A:=propext Iff.rfl
theorem J7 (A B:Prop):kIf false A B=B:=propext Iff.rfl
theorem Ko (c:Bool)(f):kB (.bl c) f=f c:=propext Iff.rfl
theorem Fc (c:Int)(f):kI (.int c) f=f c:=propext Iff.rfl
theorem Df (c:D)(f):kO (some c) f=f c:=propext Iff.rfl
theorem DV (c:List D)(f):kS (.tup c) f=f c:=propext Iff.rfl
theorem JZ (c:List D)(f):kS (.ls c) f=f c:=propext Iff.rfl
theorem HD (a b:D)(f):k2 [a,b] f=f a b:=propext Iff.rfl
theorem CP (c:Nat)(f):kN (some c) f=f c:=propext Iff.rfl
theorem Cs (i j:Int)(μ Q):aR (.int i) (.int j) μ Q=Q (.int (i+j)) μ:=propext Iff.rfl
theorem Dh (a b:List D)(μ Q):aR (.tup a) (.tup b) μ Q=(a.length+b.length≤1000000∧Q (.tup (a++b)) μ):=propext Iff.rfl
theorem C2 (a b:List D)(μ Q):aR (.ls a) (.ls b) μ Q=(a.length+b.length≤1000000∧Q (.ls (a++b)) μ):=propext Iff.rfl
theorem HS (i j:Int)(μ Q):kj (.int i) (.int j) μ Q=Q (.int (i - j)) μ:=propext Iff.rfl
theorem G6 (i j:Int)(μ Q):eO (.int i) (.int j) μ Q=(MulOk i j∧Q (.int (i*j)) μ):=propext Iff.rfl
theorem D7 (i j:Int)(μ Q):l6 (.int i) (.int j) μ Q=(js j∧Q (.int (i.fdiv j)) μ):=propext Iff.rfl
theorem DW (i j:Int)(μ Q):kE (.int i) (.int j) μ Q=(j≠0∧Q (.int (i.fmod j)) μ):=propext Iff.rfl
theorem GX (i j:Int)(μ Q):CU (.int i) (.int j) μ Q=(qD i j∧Q (.int (i ^ j.toNat)) μ):=propext Iff.rfl
theorem Jg (i j:Int)(μ Q):rLt (.int i) (.int j) μ Q=Q (.bl (decide (i < j))) μ:=propext Iff.rfl
theorem JN (i j:Int)(μ Q):rLe (.int i) (.int j) μ Q=Q (.bl (decide (i≤j))) μ:=propext Iff.rfl
theorem Ky (i j:Int)(μ Q):rGt (.int i) (.int j) μ Q=Q (.bl (decide (j < i))) μ:=propext Iff.rfl
theorem Kf (i j:Int)(μ Q):rGe (.int i) (.int j) μ Q=Q (.bl (decide (j≤i))) μ:=propext Iff.rfl
theorem LD (μ Q):rIs .non .non μ Q=Q (.bl true) μ:=propext Iff.rfl
theorem JB (i:Int)(μ Q):rIs (.int i) .non μ Q=Q (.bl false) μ:=propext Iff.rfl
theorem yp (μ Q):iU .non .non μ Q=Q (.bl false) μ:=propext Iff.rfl
theorem AK (i:Int)(μ Q):iU (.int i) .non μ Q=Q (.bl true) μ:=propext Iff.rfl
theorem IG (a:List D)(lo hi)(μ Q):rSl (.tup a) lo hi μ Q=Q (.tup (cutD a lo hi)) μ:=propext Iff.rfl
theorem j9 (ds:List D)(i:Int)(μ Q):L3.rIx (.tup ds) (.int i) μ Q=kO (atD ds i) fun d=>Q d μ:=propext Iff.rfl
theorem ka (ds:List D)(i:Int)(μ Q):L3.rIx (.ls ds) (.int i) μ Q=kO (atD ds i) fun d=>Q d μ:=propext Iff.rfl
theorem kb (x y:D)(μ Q):L3.rEq x y μ Q=((okD 40 x=true∧okD 40 y=true)∧Q (.bl (eqD x y)) μ):=propext Iff.rfl
theorem j8 (x y:D)(μ Q):L3.rNe x y μ Q=((okD 40 x=true∧okD 40 y=true)∧Q (.bl (!eqD x y)) μ):=propext Iff.rfl
theorem kif {p:Prop} [Decidable p] {A B:Prop}(h1:p→A)(h2:¬ p→B):kIf (decide p) A B:=by
  by_cases h:p
  · rw[decide_eq_true h];exact h1 h
  · rw[decide_eq_false h];exact h2 h
theorem Sg {p:Prop} [Decidable p] {A B:Prop}(h1:¬ p→A)(h2:p→B):kIf (!decide p) A B:=by
  by_cases h:p
  · rw[decide_eq_true h];exact h2 h
  · rw[decide_eq_false h];exact h1 h
theorem lW {p:Prop} [Decidable p] {A B:Prop}(h:p)(hA:A):kIf (decide p) A B:=by rw[decide_eq_true h];exact hA
theorem gK {p:Prop} [Decidable p] {A B:Prop}(h:¬ p)(hB:B):kIf (decide p) A B:=by rw[decide_eq_false h];exact hB
theorem D3 {p:Prop} [Decidable p] {A B:Prop}(h:p)(hB:B):kIf (!decide p) A B:=by rw[decide_eq_true h];exact hB
theorem QM {c:Bool}{A B:Prop}(h1:c=true→A)(h2:c=false→B):kIf c A B:=by
  cases c
  · exact h2 rfl
  · exact h1 rfl
theorem pL {o:Option D}{d:D}{f:D→Prop}(e:o=some d)(h:f d):kO o f:=by rw[e];exact h
theorem bf {μ:Mu}{a:Addr}{ds:List D}{f:List D→Prop}(e:μ a=some (.lst ds))(h:f ds):kL μ a f:=by rw[QJ e];exact h
section
open PySem PySem.Spec PyProof.Rows L2
def LP (kvs:List (Str×D))(s:Str):Option D:=(kvs.find? fun kv=>decide (kv.1=s)).map (·.2)
def A0 (K:PySem.W.Frag):List DictEntry→List (Str×D)→Prop
  | [],[]=>True
  | e::es,(x,d)::r=>(∃ t,e.key=.str x t)∧(∃ v,RelV v e.val∧∀ H,Dp K H v d)∧A0 K es r
  | _,_=>False
theorem wA (s x:Str)(t:Tok):Value.isStrOf s (.str x t)=decide (x=s):=by
  by_cases h:x=s
  · subst h;simp[Value.isStrOf]
  · rw[decide_eq_false h];simp[Value.isStrOf];first | exact h | exact fun z=>h z.symm
theorem A0.find {K:PySem.W.Frag}(s:Str):∀ {es:List DictEntry} {kvs:List (Str×D)},A0 K es kvs→
    match LP kvs s with
    | none=>(es.find? fun e=>Value.isStrOf s e.key)=none
    | some d=>∃ e v,(es.find? fun e=>Value.isStrOf s e.key)=some e∧RelV v e.val∧∀ H,Dp K H v d
  | [],[],_=>rfl
  | e::es,(x,d)::r,h=>by
    obtain ⟨⟨t,ht⟩,⟨v,rv,pv⟩,hr⟩:=h
    have ih:=A0.find s hr
    unfold LP at ih ⊢
    rw[List.find?_cons,List.find?_cons,ht,wA]
    by_cases hx:x=s
    · simp only[decide_eq_true hx,Option.map_some]
      exact ⟨e,v,rfl,rv,pv⟩
    · simp only[decide_eq_false hx]
      exact ih
  | [],_::_,h=>False.elim h
  | _::_,[],h=>False.elim h
section
variable {X:Cx} {a b c e:Expr} {Ta Tb Te:ETr} {pos gpos:Pos} {x:Str} {kvs:List (Str×D)}
end
section
variable {X:Cx} {a b:Expr} {Ta Tb:ETr} {pos:Pos}
end
end
section
open PySem PySem.Spec PyProof.Rows L2
def bE {κ:Type} [DecidableEq κ] (kvs:List (κ×D))(k:κ):Option D:=(kvs.find? fun kv=>decide (kv.1=k)).map (·.2)
def putD {κ:Type} [DecidableEq κ] (kvs:List (κ×D))(k:κ)(v:D):List (κ×D):=
  if (kvs.any fun kv=>decide (kv.1=k))=true then kvs.map (fun kv=>if kv.1=k then (kv.1,v) else kv) else kvs++[(k,v)]
def uf (x:D)(f:Key→Prop):Prop:=match x with
  | .int i=>f (.inl i)
  | .str s=>f (.inr s)
  | _=>False
theorem DpK.nil {κ:Type}{K:PySem.W.Frag}{H:Hp}:DpK (κ:=κ) K H [] []:=⟨rfl,.nil⟩
theorem DpK.cons {κ:Type}{K:PySem.W.Frag}{H:Hp}{k:κ}{v:V}{d:D}{xs:List (κ×V)}{kvs:List (κ×D)}(h:Dp K H v d)(r:DpK K H xs kvs):DpK K H ((k,v)::xs) ((k,d)::kvs):=
  ⟨by simp[r.1],.cons h r.2⟩
theorem DpK.ind {κ:Type}{K:PySem.W.Frag}{H:Hp}{P:List (κ×V)→List (κ×D)→Prop}(h0:P [] [])(h1:∀ k v d xs kvs,Dp K H v d→DpK K H xs kvs→P xs kvs→P ((k,v)::xs) ((k,d)::kvs)) :
    ∀ {xs:List (κ×V)} {kvs:List (κ×D)},DpK K H xs kvs→P xs kvs
  | [],[],_=>h0
  | [],_::_,h=>by cases h.1
  | _::_,[],h=>by cases h.1
  | (k,v)::xs,(k',d)::kvs,h=>by
    obtain ⟨h2,h3⟩:=h
    simp only[List.map_cons,List.cons.injEq] at h2
    obtain ⟨rfl,h2⟩:=h2
    cases h3 with
    | cons p l=>exact h1 k v d xs kvs p ⟨h2,l⟩ (DpK.ind h0 h1 ⟨h2,l⟩)
theorem DpK.look {κ:Type} [DecidableEq κ] {K:PySem.W.Frag}{H:Hp}{xs:List (κ×V)}{kvs:List (κ×D)}(h:DpK K H xs kvs)(k:κ) :
    (bE kvs k=none∧gU xs k=none)∨∃ v d,bE kvs k=some d∧gU xs k=some v∧Dp K H v d:=by
  refine DpK.ind (P:=fun xs kvs=>(bE kvs k=none∧gU xs k=none)∨∃ v d,bE kvs k=some d∧gU xs k=some v∧Dp K H v d) (.inl ⟨rfl,rfl⟩) (fun j v d xs kvs p _ ih=>?_) h
  by_cases e:j=k
  · refine .inr ⟨v,d,?_,lq (p:=(j,v)) e,p⟩
    unfold bE;rw[List.find?_cons];simp[e]
  · have e1:bE ((j,d)::kvs) k=bE kvs k:=by unfold bE;rw[List.find?_cons];simp[e]
    rw[e1,lX (p:=(j,v)) e]
    exact ih
theorem DpK.any {κ:Type} [DecidableEq κ] {K:PySem.W.Frag}{H:Hp}{xs:List (κ×V)}{kvs:List (κ×D)}(h:DpK K H xs kvs)(k:κ):(xs.any fun kv=>decide (kv.1=k))=kvs.any fun kv=>decide (kv.1=k):=by
  refine DpK.ind (P:=fun xs kvs=>(xs.any fun kv=>decide (kv.1=k))=kvs.any fun kv=>decide (kv.1=k)) rfl (fun j v d xs kvs p _ ih=>?_) h
  rw[List.any_cons,List.any_cons,ih]
theorem DpK.put {κ:Type} [DecidableEq κ] {K:PySem.W.Frag}{H:Hp}{xs:List (κ×V)}{kvs:List (κ×D)}(h:DpK K H xs kvs)(k:κ){v:V}{d:D}(p:Dp K H v d):DpK K H (putK xs k v) (putD kvs k d):=by
  unfold putK putD
  rw[h.any k]
  split
  · refine DpK.ind (P:=fun xs kvs=>DpK K H (xs.map fun kv=>if kv.1=k then (kv.1,v) else kv) (kvs.map fun kv=>if kv.1=k then (kv.1,d) else kv)) .nil (fun j v' d' xs kvs p' _ ih=>?_) h
    rw[List.map_cons,List.map_cons]
    by_cases e:j=k
    · rw[if_pos e,if_pos e];exact .cons p ih
    · rw[if_neg e,if_neg e];exact .cons p' ih
  · refine DpK.ind (P:=fun xs kvs=>DpK K H (xs++[(k,v)]) (kvs++[(k,d)])) (.cons p .nil) (fun j v' d' xs kvs p' _ ih=>?_) h
    exact .cons p' ih
theorem DpK.length {κ:Type}{K:PySem.W.Frag}{H:Hp}{xs:List (κ×V)}{kvs:List (κ×D)}(h:DpK K H xs kvs):xs.length=kvs.length:=by
  have:=h.2.length
  simpa using this
theorem qO {K:PySem.W.Frag}{H:Hp}{y:V}{dy:D}{f:Key→Prop}(p:Dp K H y dy)(h:uf dy f):∃ k,y=kV k∧f k:=by
  cases p with
  | int i=>exact ⟨.inl i,rfl,h⟩
  | str s=>exact ⟨.inr s,rfl,h⟩
  | _=>exact False.elim h
theorem ij {K:PySem.W.Frag}{H:Hp}{x:V}{dx:D}{f:Addr→Prop}(p:Dp K H x dx)(h:kObj dx f):∃ a,x=.ref a∧f a:=by
  cases p with
  | obj a=>exact ⟨a,rfl,h⟩
  | _=>exact False.elim h
theorem qc {H:Hp}{q:Addr}{u:HO}{xs:List (Key×V)}(ex:H q=some (.dK xs)):Tk H (L2.upd H q u):=
  .upd (fun ys z=>by rw[ex] at z;cases z) fun o' w z=>by rw[ex] at z;cases z
theorem yJ {K:PySem.W.Frag}{H:Hp}{μ:Mu}{q:Addr}{xs ys:List (Key×V)}{ds:List (Key×D)}(m:bL K H μ)(ex:H q=some (.dK xs))(l:DpK K H ys ds):bL K (L2.upd H q (.dK ys)) (up μ q (.dct ds)):=fun z y ez=>by
  by_cases zq:z=q
  · subst zq
    rw[aH] at ez;cases ez
    exact ⟨ys,aL,l.mono (qc ex)⟩
  · rw[aU zq] at ez
    exact (m z _ ez).ne (qc ex) zq
theorem vc {K:PySem.W.Frag}{H:Hp}{μ:Mu}{q:Addr}{ys:List (Key×V)}{ds:List (Key×D)}(m:bL K H μ)(hq:H q=none)(l:DpK K H ys ds):bL K (L2.upd H q (.dK ys)) (up μ q (.dct ds)):=fun z y ez=>by
  by_cases zq:z=q
  · subst zq
    rw[aH] at ez;cases ez
    exact ⟨ys,aL,l.mono (.new hq)⟩
  · rw[aU zq] at ez
    exact c7 m hq z y ez
section
variable {X:Cx} {o i a b c e value:Expr} {To Ti Ta Tb Te:ETr} {pos tpos:Pos}
theorem hu1 (hu:X.A.units+64 < cLine):X.A.units+1 < cLine:=by omega
def bC (To Ti:ETr):ETr:=fun ρ μ Q=>To ρ μ fun x μ1=>Ti ρ μ1 fun y μ2=>kObj x fun a=>kD μ2 a fun kvs=>uf y fun k=>kO (bE kvs k) fun d=>Q d μ2
theorem bG (hu:X.A.units+64 < cLine)(ho:LE X o To)(hi:LE X i Ti)(hs:Pl i:=by intro _ _;rfl):LE X (.Subscript o i pos) (bC To Ti):=by
  obtain ⟨to,po,so⟩:=ho.ex
  obtain ⟨ti,pi,si⟩:=hi.ex
  refine ⟨_,Jr (hu1 hu) po pi hs,fun σ H ρ μ Q Q' rl h k=>so σ H ρ μ _ _ rl h fun x H1 dx μ1 t1 m1 p1 h1=>si σ H1 ρ μ1 _ _ (rl.go t1 m1) h1 fun y H2 dy μ2 t2 m2 p2 h2=>?_⟩
  obtain ⟨q,rfl,h2⟩:=ij p1 h2
  obtain ⟨kvs,e0,h2⟩:=pS h2
  obtain ⟨kk,rfl,h2⟩:=qO p2 h2
  obtain ⟨d,e1,h2⟩:=kT h2
  obtain ⟨xs,ex,l⟩:=m2 q _ e0
  rcases l.look kk with ⟨z,_⟩ | ⟨v,d',z,ev,pv⟩
  · rw[z] at e1;cases e1
  · rw[z] at e1;cases e1
    exact ⟨q,v,rfl,by rw[← ev];exact rT.k ex,k _ H2 _ μ2 (t1.trans t2) m2 pv h2⟩
def gm (To Ti Te:ETr):STr:=fun E ρ μ=>Te ρ μ fun v μ1=>To ρ μ1 fun x μ2=>Ti ρ μ2 fun y μ3=>kObj x fun a=>kD μ3 a fun kvs=>uf y fun k=>kvs.length < 1000000∧E.nx ρ (up μ3 a (.dct (putD kvs k v)))
theorem gO (hu:X.A.units+64 < cLine)(ho:LE X o To)(hi:LE X i Ti)(he:LE X value Te)(hs:swapsWith value (some (.Subscript o i tpos)) pos.line X.env=pure false:=by rfl) :
    LS X (.Assign [.Subscript o i tpos] value pos) (gm To Ti Te):=by
  obtain ⟨to,po,so⟩:=ho.ex
  obtain ⟨ti,pi,si⟩:=hi.ex
  obtain ⟨te,pe,se⟩:=he.ex
  refine ⟨_,JK (hu1 hu) po pi pe hs,fun σ H ρ μ E E' rl h k=>se σ H ρ μ _ _ rl h fun v H1 dv μ1 t1 m1 p1 h1=>so σ H1 ρ μ1 _ _ (rl.go t1 m1) h1 fun x H2 dx μ2 t2 m2 p2 h2=>
    si σ H2 ρ μ2 _ _ (rl.go (t1.trans t2) m2) h2 fun y H3 dy μ3 t3 m3 p3 h3=>?_⟩
  obtain ⟨q,rfl,h3⟩:=ij p2 h3
  obtain ⟨kvs,e0,h3⟩:=pS h3
  obtain ⟨kk,rfl,h3⟩:=qO p3 h3
  obtain ⟨xs,ex,l⟩:=m3 q _ e0
  have t4:Tk H3 (L2.upd H3 q (.dK (putK xs kk v))):=qc ex
  have t14:=t1.trans (t2.trans (t3.trans t4))
  refine ⟨q,_,rfl,uO.k ex (by rw[l.length];exact Nat.lt_of_lt_of_le h3.1 (by decide)),k.nx _ _ ρ _ t14 (rl.go t14 (yJ m3 ex (l.put kk (p1.mono (t2.trans t3))))) h3.2⟩
def kZ (f:Int→Int→Int)(To Ti Te:ETr):STr:=fun E ρ μ=>To ρ μ fun x μ1=>Ti ρ μ1 fun y μ2=>kObj x fun a=>kD μ2 a fun kvs=>uf y fun k=>kO (bE kvs k) fun d=>kI d fun m=>
  Te ρ μ2 fun w μ3=>kI w fun n=>kD μ3 a fun kvs3=>kvs3.length < 1000000∧E.nx ρ (up μ3 a (.dct (putD kvs3 k (.int (f m n)))))
theorem Hz {to ti te:TE}{K:PySem.W.Frag}{f:Int→Int→Int}{rd:V→V→Hp→VK→Prop}(hrd:∀ i j H Q,Q (.int (f i j)) H→rd (.int i) (.int j) H Q)(so:Sim K to To)(si:Sim K ti Ti)(se:Sim K te Te) :
    F0 K (Mr to ti te rd) (kZ f To Ti Te):=fun σ H ρ μ E E' rl h k=>so σ H ρ μ _ _ rl h fun x H1 dx μ1 t1 m1 p1 h1=>si σ H1 ρ μ1 _ _ (rl.go t1 m1) h1 fun y H2 dy μ2 t2 m2 p2 h2=>by
    obtain ⟨q,rfl,h2⟩:=ij p1 h2
    obtain ⟨kvs,e0,h2⟩:=pS h2
    obtain ⟨kk,rfl,h2⟩:=qO p2 h2
    obtain ⟨d,e1,h2⟩:=kT h2
    obtain ⟨xs,ex,l⟩:=m2 q _ e0
    rcases l.look kk with ⟨z,_⟩ | ⟨v,d',z,ev,pv⟩
    · rw[z] at e1;cases e1
    · rw[z] at e1;cases e1
      cases pv with
      | int m=>
        refine ⟨q,.int m,rfl,by rw[← ev];exact rT.k ex,se σ H2 ρ μ2 _ _ (rl.go (t1.trans t2) m2) h2 fun w H3 dw μ3 t3 m3 p3 h3=>?_⟩
        cases p3 with
        | int n=>
          obtain ⟨kvs3,e3,h3⟩:=pS (show kD μ3 q _ from h3)
          obtain ⟨xs3,ex3,l3⟩:=m3 q _ e3
          have t4:Tk H3 (L2.upd H3 q (.dK (putK xs3 kk (.int (f m n))))):=qc ex3
          have t14:=t1.trans (t2.trans (t3.trans t4))
          exact hrd m n H3 _ ⟨_,uO.k ex3 (by rw[l3.length];exact Nat.lt_of_lt_of_le h3.1 (by decide)),k.nx _ _ ρ _ t14 (rl.go t14 (yJ m3 ex3 (l3.put kk (.int _)))) h3.2⟩
        | _=>exact False.elim h3
      | _=>exact False.elim h2
theorem kP (hu:X.A.units+64 < cLine)(ho:LE X o To)(hi:LE X i Ti)(he:LE X value Te)(ha:∀ ov iv new,augStore i ov iv new=(do holding [new,ov,iv] (setItem ov iv new);release [new,ov,iv] [];pure .next):=by intros;rfl) :
    LS X (.AugAssign (.Subscript o i tpos) .Add value pos) (kZ (fun m n=>m+n) To Ti Te):=by
  obtain ⟨to,po,so⟩:=ho.ex
  obtain ⟨ti,pi,si⟩:=hi.ex
  obtain ⟨te,pe,se⟩:=he.ex
  exact ⟨_,Jx (hu1 hu) po pi pe MX ha,Hz (fun i j H Q q=>⟨i,j,rfl,rfl,q⟩) so si se⟩
def Ex (f:Int→Int→Int)(i:Nat)(Te:ETr):STr:=fun E ρ μ=>kO (lk ρ i) fun d=>kI d fun m=>Te ρ μ fun w μ1=>kI w fun n=>aw i (.int (f m n)) ρ μ1 E.nx
theorem IS {te:TE}{K:PySem.W.Frag}{f:Int→Int→Int}{j:Nat}(se:Sim K te Te):F0 K (PB j te (ipI f)) (Ex f j Te):=fun σ H ρ μ E E' rl h k=>by
  obtain ⟨d,e1,h⟩:=kT h
  obtain ⟨v,ev,pv⟩:=rl.loc j d e1
  cases pv with
  | int m=>
    refine ⟨.int m,ev,se σ H ρ μ _ _ rl h fun w H1 dw μ1 t1 m1 p1 h1=>?_⟩
    cases p1 with
    | int n=>exact ⟨m,n,rfl,rfl,k.nx _ _ _ _ t1 ((rl.go t1 m1).set (.int _) j) h1⟩
    | _=>exact False.elim h1
  | _=>exact False.elim h
theorem tG (j:Nat){x:Str}(hN:X.N.Nodup)(he:LE X e Te)(hi:X.N[j]? = some x:=by rfl)(hx:Loc X.env.scope x:=by first | exact Or.inl rfl | exact Or.inr rfl)(hf:X.fn x=true∨X.env.scope.names.lookup x=some .local:=by first | exact .inl rfl | exact .inr rfl | assumption) :
    LS X (.AugAssign (.Name x tpos) .Add e pos) (Ex (fun m n=>m+n) j Te):=by
  obtain ⟨te,pe,se⟩:=he.ex
  exact ⟨_,Pj hN hi hx pe OT hf,IS se⟩
theorem JY:LE X (.Dict [] [] pos) (fun ρ μ Q=>∀ p,μ p=none→Q (.obj p) (up μ p (.dct []))):=
  ⟨_,GU,fun σ H ρ μ Q Q' rl h k p hp=>k _ _ _ _ (.new hp) (vc rl.mu hp .nil) (.obj p) (h p (rl.mu.free hp))⟩
def RX (K:PySem.W.Frag)(trs:List (TE×TE))(ks:List Key)(T:ATr):Prop:=∀ σ H ρ μ (Q:List D→Mu→Prop) (Q':List (V×V)→Hp→Prop),Rl K σ H ρ μ→T ρ μ Q→
  (∀ vs H' ds μ',Tk H H'→bL K H' μ'→vs.length=ks.length→DpL K H' vs ds→Q ds μ'→Q' ((ks.map kV).zip vs) H')→tL trs σ H Q'
structure LPs (X:Cx) (pos:Pos) (keys:List (Option Expr)) (values:List Expr) (ks:List Key) (T:ATr):Prop where
  ex:∃ trs,PPs X pos keys values trs∧RX X.K trs ks T
theorem KC:LPs X pos [] [] [] ar:=⟨[],Jv,fun σ H ρ μ Q Q' rl h k=>k [] H [] μ (.refl H) rl.mu rfl .nil h⟩
theorem jY {s:Str}{j}{p:Pos}{ks:List (Option Expr)}{vs:List Expr}{kk:List Key}{At:ATr}(hv:LE X value Te)(hr:LPs X pos ks vs kk At):LPs X pos (some (.Constant (.str s) j p)::ks) (value::vs) (.inr s::kk) (af Te At):=by
  obtain ⟨te,pe,se⟩:=hv.ex
  obtain ⟨trs,pr,sr⟩:=hr.ex
  refine ⟨_,FW HY pe pr,fun σ H ρ μ Q Q' rl h k=>?_⟩
  refine se σ H ρ μ _ _ rl h fun y H1 dy μ1 t1 m1 p1 h1=>sr σ H1 ρ μ1 _ _ (rl.go t1 m1) h1 fun vs H2 ds μ2 t2 m2 hl p2 h2=>?_
  exact k (y::vs) H2 (dy::ds) μ2 (t1.trans t2) m2 (by simp[hl]) (.cons (p1.mono t2) p2) h2
def DN (ks:List Key)(At:ATr):ETr:=fun ρ μ Q=>∀ p,μ p=none→At ρ (up μ p (.dct [])) fun ds μ2=>kD μ2 p fun kvs=>kvs=[]∧Q (.obj p) (up μ2 p (.dct (ks.zip ds)))
theorem Fw {acc:List (Key×V)}{k:Key}{v:V}(h:gU acc k=some v):k∈acc.map (·.1):=by
  unfold gU at h
  obtain ⟨p,hp,_⟩:=Option.map_eq_some_iff.mp h
  have h1:=List.mem_of_find?_eq_some hp
  have h2:=List.find?_some hp
  exact List.mem_map.mpr ⟨p,h1,of_decide_eq_true h2⟩
theorem qw:∀ (kvs acc:List (Key×V)),((acc++kvs).map (·.1)).Nodup→d7 acc kvs=acc++kvs
  | [],acc,_=>by simp[d7]
  | p::r,acc,h=>by
    have hn:gU acc p.1=none:=by
      cases e:gU acc p.1 with
      | none=>rfl
      | some v=>
        exfalso
        have:=Fw e
        rw[List.map_append,List.map_cons] at h
        exact (List.nodup_append.mp h).2.2 _ this _ List.mem_cons_self rfl
    show d7 (putK acc p.1 p.2) r=_
    rw[Ed p.2 hn]
    rw[qw r (acc++[(p.1,p.2)]) (by simpa using h)]
    simp
theorem xB:∀ (ks:List Key) (vs:List V),(ks.map kV).zip vs=(ks.zip vs).map fun kv=>(kV kv.1,kv.2)
  | [],_=>by simp
  | _::_,[]=>by simp
  | k::ks,v::vs=>by simp[xB ks vs]
theorem DpK.zip {K:PySem.W.Frag}{H:Hp}:∀ {ks:List Key} {vs:List V} {ds:List D},DpL K H vs ds→DpK K H (ks.zip vs) (ks.zip ds)
  | [],_,_,_=>by simp;exact .nil
  | _::_,_,_,.nil=>by simp;exact .nil
  | k::ks,_,_,.cons p l=>.cons p (DpK.zip l)
theorem Jc {keys:List (Option Expr)}{values:List Expr}{ks:List Key}{At:ATr}(h:LPs X pos keys values ks At)(hall:keys.all (·.isSome)=true:=by rfl)(hl:keys.length=values.length:=by rfl)(h0:keys≠[]:=by nofun)
    (h15:keys.length≤15:=by decide) (hk:keys.length=ks.length:=by rfl) (hn:ks.Nodup:=by decide):LE X (.Dict keys values pos) (DN ks At):=by
  obtain ⟨trs,pr,sr⟩:=h.ex
  refine ⟨_,Ke pr hall hl h0 h15,fun σ H ρ μ Q Q' rl h k p hp=>?_⟩
  refine sr σ _ ρ _ _ _ (rl.go (.new hp) (vc rl.mu hp .nil)) (h p (rl.mu.free hp)) fun vs H2 ds μ2 t2 m2 hvl p2 h2=>?_
  obtain ⟨kvs,e0,rfl,h2⟩:=pS h2
  obtain ⟨xs,ex,l⟩:=m2 p _ e0
  have:xs=[]:=by have:=l.length;cases xs with | nil=>rfl | cons=>simp at this
  subst this
  refine ⟨ex,ks.zip vs,xB ks vs,by rw[List.length_zip];omega,?_⟩
  have e:d7 [] (ks.zip vs)=ks.zip vs:=by
    have:=qw (ks.zip vs) [] (by rw[List.nil_append,List.map_fst_zip (by omega)];exact hn)
    simpa using this
  rw[e]
  exact k _ _ _ _ ((Tk.new hp).trans (t2.trans (qc ex))) (yJ m2 ex (.zip p2)) (.obj p) h2
end
end
section
open PySem PySem.Spec PyProof.Rows L2
theorem Dy:typeLookup (.type "list") (Str.ofString "keys")=pure none:=am_miss_of_fast (by kernel_rfl)
theorem Na {prog:Program}{w:World}{A:Around}{E:Value→Shared→Prop}{s:Shared}{a:Addr}{o:Obj}{xs:Array Value}{k:Nat}{Q:Option Value→Shared→Prop}
    (hx:s.heap.get? a=some o) (hc:o.cls=.type "list") (hdat:o.data=.seq xs k) (hd:o.dict=none) (hA:A.handled=none)
    (h:∀ h' tk,(∀ b ob,s.heap.get? b=some ob→h'.get? b=some ob)→Q none { s with heap:=h',toks:=tk }) :
    wpAny (model prog w) A (getAttr? (.ref a) "keys") Q E s:=by
  obtain ⟨c,dct,dat,sl⟩:=o
  simp only at hc hdat hd
  subst hc hdat hd
  obtain ⟨hp,g,d,tk,os⟩:=s
  have hT:∀ tk',(⟨hp,g,d,tk',os⟩:Shared).TypeIs (.ref a) "list" := fun _=>⟨_,hx,rfl⟩
  have f1:=sub_AttributeError
  have f3:=F.slot_list_getattribute.lookup
  have f4:=F.slot_list_getattribute.bind (.ref a)
  have f5:=am_list_getattr_none
  unfold getAttr? getAttrBy? getAttrBy
  repeat (any_goals (first | assumption | exact hT _ | ((with_reducible show wpAny _ _ (call (Value.builtin "list.__getattribute__") _ _) _ _ _);refine call_meets F.slot_list_getattribute (hT _) am_entry_list_getattribute (F.args_list_getattribute_2 _ _) (meets_getattribute_miss_list a xs k sl (Str.ofString "keys") _ Dy (by decide +kernel) (by decide +kernel)) ⟨hx,hA,fun h' tk' e hx'=>?_⟩) | wp_step))
  obtain ⟨t',u',he⟩:=hx'.there
  show wpAny _ _ (getattributeRaised _ _ _ _ _ _ _) _ _ _
  unfold getattributeRaised
  repeat (any_goals (first | assumption | wp_step))
  exact h _ _ hx'.keeps
theorem lJ:plainId "dict.update.loop" = true:=by decide +kernel
theorem wo:entryFor table "dict.update.loop" = some Builtin.«dict.update.loop»:=entryFor_of_fast (by kernel_rfl)
inductive f6 {prog:Program} {w:World} {κ:Type} [DecidableEq κ] (knd:KeyKind prog w κ) (h:Heap):List Value→List (κ×Value)→Prop
  | nil:f6 knd h [] []
  | cons {a:Addr} {u v:Value} {k:κ} {us:List Value} {r:List (κ×Value)}:IsTup h a #[u,v]→knd.is k u=true→f6 knd h us r→f6 knd h (.ref a::us) ((k,v)::r)
section
variable {prog:Program} {w:World} {κ:Type} [DecidableEq κ] {knd:KeyKind prog w κ}
theorem f6.keeps {h h':Heap}(kp:∀ b o,h.get? b=some o→o.cls=.type "tuple" → h'.get? b=some o):∀ {us:List Value} {r:List (κ×Value)},f6 knd h us r→f6 knd h' us r
  | _,_,.nil=>.nil
  | _,_,.cons t k r=>.cons (by obtain ⟨o,e,c,n,d⟩:=t;exact ⟨o,kp _ o e c,c,n,d⟩) k (r.keeps kp)
theorem w8 {A:Around}{R:Result→Shared→Prop}{d it l:Addr}{items:Array Value}(hA:A.handled=none)(n1:d≠it)(n2:l≠it)(n3:l≠d) :
    ∀ (us:List Value) (r:List (κ×Value)) (i:Nat) (kvs:List (κ×Value)) (s:Shared),items.toList.drop i=us→f6 knd s.heap us r→s.heap.IsListIter it l i→s.heap.IsList l items→s.heap.DictOf knd d kvs→kvs.length+r.length≤sizeLine→
      (∀ h' tk,h'.DictOf knd d (merged kvs r)→(∀ b o,b≠it→b≠d→s.heap.get? b=some o→h'.get? b=some o)→R (.ok (.ret .none)) { s with heap:=h',toks:=tk })→
      wpAny (model prog w) A.in1 (Builtin.«dict.update.loop» ⟨[.ref d,.ref it,rawInt i,.none],[]⟩) (fun fin s'=>match fin with | .done f=>R (.ok f) s' | .again c'=>c'.quiet=true∧codeAny (model prog w) A c' R s') (fun e s'=>R (.error e) s') s
  | [],r,i,kvs,s,hd,P,hit,hl,hm,hz,h=>by
    cases P
    have hx:items[i]? = none:=by
      have:items.toList.length≤i:=by
        have:=congrArg List.length hd
        simp at this;simp;omega
      simpa using this
    show wpAny _ _ (pyNext (.ref it) >>= _) _ _ _
    refine wpAny_bind (wpAny_pyNext_list_end (by exact hA) hit hl hx fun h' k=>?_)
    show wpAny _ _ (Builtin.Dict.addKeywords d [] >>= _) _ _ _
    refine wpAny_bind (wpAny_pure (wpAny_pure ?_))
    refine h h' s.toks ?_ fun b o hb _ e=>k b o hb e
    obtain ⟨o,es,ep,ho,rest⟩:=hm
    exact ⟨o,es,ep,k d o n1 ho,rest⟩
  | u::us,r,i,kvs,s,hd,P,hit,hl,hm,hz,h=>by
    cases P with
    | @cons a ku v k _ r tp hk P=>
    have hx:items[i]? = some (.ref a):=by
      have:items.toList[i]? = some (.ref a):=by
        have:=congrArg (fun l=>l[0]?) hd
        simpa using this
      simpa using this
    have hd':items.toList.drop (i+1)=us:=by
      have:=congrArg List.tail hd
      simpa using this
    show wpAny _ _ (pyNext (.ref it) >>= _) _ _ _
    refine wpAny_bind (wpAny_pyNext_list_item hit hl hx fun h1 it1 k1=>?_)
    have ne_it:∀ b o,s.heap.get? b=some o→o.cls≠.type "list_iterator" → b≠it:=fun b o e c z=>by
      subst z
      obtain ⟨o',e',c',_⟩:=hit
      rw[e] at e';cases e';exact c c'
    have tp1:IsTup h1 a #[ku,v]:=by
      obtain ⟨o,e,c,n,dd⟩:=tp
      exact ⟨o,(k1.2 a (ne_it a o e (by rw[c];decide))).trans e,c,n,dd⟩
    obtain ⟨o,e,c,n,dd⟩:=tp1
    have hm1:h1.DictOf knd d kvs:=by
      obtain ⟨o,es,ep,ho,rest⟩:=hm
      exact ⟨o,es,ep,(k1.2 d n1).trans ho,rest⟩
    have hl1:h1.IsList l items:=by
      obtain ⟨o,e,c,n,dd⟩:=hl
      exact ⟨o,(k1.2 l n2).trans e,c,n,dd⟩
    dsimp only
    refine wpAny_bind (wpAny_holding ?_)
    refine wpAny_bind (wpAny_tryCatch ?_)
    unfold Builtin.Dict.pairItems
    refine wpAny_bind (wpAny_typeOf (T := "tuple") ⟨o,e,c⟩ ?_)
    rw[if_pos (by decide)]
    refine wpAny_bind (wpAny_seqItems e dd (wpAny_pure ?_))
    show wpAny _ _ (holding [ku,v] (dictSet d ku v)) _ _ _
    refine wpAny_holding (wpAny_dictSet_pairs (hsz:=by have:=hz;simp at this;omega) hk hm1 fun h2 hm2 k2=>?_)
    refine wpAny_pure ?_
    refine ⟨plainId_quiet lJ _,codeAny_builtin wo ?_⟩
    rw[Around.under_plainId lJ _]
    have kp:∀ b o,b≠it→b≠d→s.heap.get? b=some o→h2.get? b=some o:=fun b o b1 b2 q=>(k2.2 b b2).trans ((k1.2 b b1).trans q)
    have ci:((i:Int)+1)=((i+1:Nat):Int):=by push_cast;rfl
    have nd:∀ b o,s.heap.get? b=some o→o.cls≠.type "dict" → b≠d:=fun b o q c z=>by
      subst z
      obtain ⟨o',_,_,e',ex,_⟩:=hm
      rw[q] at e';cases e';exact c ex.1
    show wpAny _ _ (Builtin.«dict.update.loop» ⟨[.ref d,.ref it,rawInt ((i:Int)+1),.none],[]⟩) _ _ _
    rw[ci]
    refine w8 hA n1 n2 n3 us r (i+1) (stored kvs k v) _ hd' (P.keeps fun b o q c=>kp b o (ne_it b o q (by rw[c];decide)) (nd b o q (by rw[c];decide)) q) ?_ ?_ hm2 ?_ ?_
    · obtain ⟨o,e,c⟩:=it1
      exact ⟨o,(k2.2 it (Ne.symm n1)).trans e,c⟩
    · obtain ⟨o,e,c⟩:=hl1
      exact ⟨o,(k2.2 l n3).trans e,c⟩
    · have:=stored_length_le kvs k v
      simp at hz;omega
    · intro h' tk hm' kp'
      exact h h' tk hm' fun b o b1 b2 q=>kp' b o b1 b2 (kp b o b1 b2 q)
end
end
section
open PySem PySem.Spec PyProof.Rows L2
section
variable {prog:Program} {w:World} {κ:Type} [DecidableEq κ] {knd:KeyKind prog w κ}
theorem nN {A:Around}{E:Value→Shared→Prop}{s:Shared}{l:Addr}{o:Obj}{items:Array Value}{k:Nat}{r:List (κ×Value)}{Q:Value→Shared→Prop}(hA:A.handled=none)
    (hx:s.heap.get? l=some o) (hc:o.cls=.type "list") (hdat:o.data=.seq items k) (hd:o.dict=none) (P:f6 knd s.heap items.toList r) (hz:r.length≤sizeLine)
    (h:∀ h' tk,h'.DictOf knd s.heap.objs.size (merged [] r)→(∀ b o,s.heap.get? b=some o→h'.get? b=some o)→Q (.ref s.heap.objs.size) { s with heap:=h',toks:=tk }) :
    wpAny (model prog w) A (call (.type "dict") [.ref l]) Q E s:=by
  refine callType_codes (Q₁:=fun obj s₁=>obj=.ref s.heap.objs.size∧s₁={ s with heap:=s.heap.push { cls:=.type "dict", data:=.dict #[] } }) F.kt_called_dict (F.kt_typeCall_dict_1 _) F.entry_dict_init (kt_code_dict_new _ ⟨rfl,rfl⟩) ?_
  rintro obj s₁ ⟨rfl,rfl⟩
  have IL:(s.heap.push { cls:=.type "dict", data:=.dict #[] }).DictOf knd s.heap.objs.size []:=Heap.DictOf.new s.heap
  have hx1:(s.heap.push { cls:=.type "dict", data:=.dict #[] }).get? l=some o:=Heap.get?_push_of_some _ hx
  have ll:l < s.heap.objs.size:=Heap.lt_size hx
  refine ⟨IL.typeIs,F.args_dict_init_2 _ _,?_⟩
  unfold Builtin.«dict.__init__»
  refine wpAny_bind ?_
  unfold Builtin.Dict.selfAndRest
  refine wpAny_bind (wpAny_notOrdered_dict IL.typeIs ?_)
  show wpAny _ _ (pure (s.heap.objs.size,[Value.ref l])) _ _ _
  refine wpAny_pure ?_
  show wpAny _ _ (Builtin.Dict.updateFrom "dict.__init__" s.heap.objs.size (.ref l) [] .none) _ _ _
  unfold Builtin.Dict.updateFrom
  refine wpAny_bind (wpAny_typeOf (T := "list") ⟨o,hx1,hc⟩ ?_)
  rw[if_pos (by decide)]
  refine wpAny_bind (Na hx1 hc hdat hd hA fun h1 tk1 kp1=>?_)
  rw[if_pos (by decide)]
  refine wpAny_bind (wpAny_rule ?_)
  have hx2:h1.get? l=some o:=kp1 _ _ hx1
  have hl2:h1.IsList l items:=⟨o,hx2,hc,k,hdat⟩
  have lt1:s.heap.objs.size < h1.objs.size:=by
    obtain ⟨o',es,ep,ho,_⟩:=IL
    exact Heap.lt_size (kp1 _ _ ho)
  refine wpAny_bind (wpAny_pyIter_list hl2 ?_)
  refine wpAny_bind (wpAny_pure (wpAny_pure ?_))
  refine ⟨plainId_quiet lJ _,codeAny_builtin wo ?_⟩
  rw[Around.under_plainId lJ _]
  have kp2:∀ b o,s.heap.get? b=some o→(h1.push { cls:=.type "list_iterator", data:=.fields #[.ref l,.int 0 0] }).get? b=some o:=fun b o q=>Heap.get?_push_of_some _ (kp1 _ _ (Heap.get?_push_of_some _ q))
  refine w8 (A:=A.in1) (knd:=knd) (it:=h1.objs.size) (d:=s.heap.objs.size) (l:=l) (items:=items) (R:=wants (fun r s₂=>r=Value.none∧Q (Value.ref s.heap.objs.size) s₂) E) hA (Nat.ne_of_lt lt1) (Nat.ne_of_lt (Nat.lt_trans ll lt1)) (Nat.ne_of_lt ll) items.toList r 0 [] _ rfl ?_ ?_ ?_ ?_ (by simpa using hz) ?_
  · exact P.keeps fun b o q _=>kp2 b o q
  · exact ⟨_,Heap.get?_push_size _ rfl,rfl,rfl⟩
  · exact ⟨o,Heap.get?_push_of_some _ hx2,hc,k,hdat⟩
  · obtain ⟨o',es,ep,ho,rest⟩:=IL
    exact ⟨o',es,ep,Heap.get?_push_of_some _ (kp1 _ _ ho),rest⟩
  · intro h' tk hm' kp'
    refine ⟨rfl,h h' tk hm' fun b o q=>?_⟩
    have hb:b < s.heap.objs.size:=Heap.lt_size q
    exact kp' b o (Nat.ne_of_lt (Nat.lt_trans hb lt1)) (Nat.ne_of_lt hb) (kp2 b o q)
end
def dK:Key→D
  | .inl i=>.int i
  | .inr s=>.str s
def zB (kv:Key×D):D:=.tup [dK kv.1,kv.2]
def jV (kvs more:List (Key×D)):List (Key×D):=more.foldl (fun acc kv=>putD acc kv.1 kv.2) kvs
inductive fK (K:PySem.W.Frag) (H:Hp):List V→List (Key×V)→Prop
  | nil:fK K H [] []
  | cons {a:Addr} {k:Key} {v:V} {ys:List V} {r:List (Key×V)}:SqT K H a [kV k,v]→fK K H ys r→fK K H (.ref a::ys) ((k,v)::r)
theorem fK.at {X:Cx}{pins:List (Addr×Obj)}{σ:L2.St}{H:Hp}{s:Shared}(I:Inv X pins σ H s):∀ {ys:List V} {kvs:List (Key×V)} {us:List Value},fK X.K H ys kvs→Vals ys us→∃ r,f6 (ck X.prog X.w) s.heap us r∧KV kvs r
  | _,_,_,.nil,.nil=>⟨[],.nil,.nil⟩
  | _,_,_,@fK.cons _ _ a k v ys r sq h,.cons ru rs=>by
    cases (show _=Value.ref a from ru)
    obtain ⟨r,p,q⟩:=h.at I rs
    obtain ⟨its,vs,it,_⟩:=I.tuple sq
    cases vs with | @cons _ u1 _ _ r1 vs=>cases vs with | @cons _ u2 _ _ r2 vs=>
    cases vs
    exact ⟨(k,u2)::r,.cons it (wa r1) p,.cons ⟨rfl,r2⟩ q⟩
theorem Af {X:Cx}(hc:X.calm=true):cH X (.type "dict") (fun xs H Q=>∃ l ys kvs,xs=[.ref l]∧SqL X.K H l ys∧fK X.K H ys kvs∧kvs.length≤sizeLine∧∀ p,H p=none→Q (.ref p) (L2.upd H p (.dK (d7 [] kvs)))):=by
  intro pins s σ H xs us Q I rx h
  obtain ⟨l,ys,kvs,rfl,sq,pv,hz,q⟩:=h
  obtain ⟨u,rfl,ru⟩:=vals1 rx
  cases (show u=Value.ref l from ru)
  obtain ⟨its,vs,pl,_⟩:=I.list sq
  obtain ⟨o,n,e,c,hd,hdat⟩:=pl
  obtain ⟨r,pr,kv⟩:=pv.at I vs
  refine nN (knd:=ck X.prog X.w) (I.ok.hd hc) e c hdat hd (r:=r) (by simpa using pr) (by rw[← kv.length];exact hz) fun h' tk dd kp=>?_
  have hl:(d7 [] kvs).length≤sizeLine:=by have:=gZ kvs [];simp at this;omega
  exact ⟨.ref s.heap.objs.size,_,I.laid (a:=s.heap.objs.size) (o:=.dK (d7 [] kvs)) kp (Nat.le_refl _) (yX hl (beq_eq_false_iff_ne.mpr (Ne.symm (Nat.ne_of_lt I.big))) (KV.merge kv .nil) dd),rfl,q _ (I.hok.fresh (Nat.le_refl _))⟩
def Bf:FSp:=fun ds μ Q=>match ds with
  | [.ls xs]=>∃ kvs:List (Key×D),xs=kvs.map zB∧kvs.length≤1000000∧∀ p,μ p=none→Q (.obj p) (up μ p (.dct (jV [] kvs)))
  | _=>False
theorem Ol {K:PySem.W.Frag}{H:Hp}{v:V}{k:Key}(h:Dp K H v (dK k)):v=kV k:=by
  cases k with
  | inl i=>cases h;rfl
  | inr s=>cases h;rfl
theorem fK.of {K:PySem.W.Frag}{H:Hp}:∀ {kvs:List (Key×D)} {xs:List V},DpL K H xs (kvs.map zB)→∃ r,fK K H xs r∧DpK K H r kvs
  | [],_,h=>by cases h;exact ⟨[],.nil,.nil⟩
  | kv::kvs,_,h=>by
    obtain ⟨k,d⟩:=kv
    cases h with
    | cons p l=>
      obtain ⟨r,h1,h2⟩:=fK.of l
      cases p with
      | tup sq lp=>
        cases lp with | cons p1 lp=>cases lp with | cons p2 lp=>
        cases lp
        cases Ol p1
        exact ⟨(k,_)::r,.cons sq h1,.cons p2 h2⟩
theorem DpK.merge {K:PySem.W.Frag}{H:Hp}{xs:List (Key×V)}{kvs:List (Key×D)}(h:DpK K H xs kvs):∀ {axs:List (Key×V)} {akvs:List (Key×D)},DpK K H axs akvs→DpK K H (d7 axs xs) (jV akvs kvs):=
  DpK.ind (P:=fun xs kvs=>∀ {axs:List (Key×V)} {akvs:List (Key×D)},DpK K H axs akvs→DpK K H (d7 axs xs) (jV akvs kvs)) (fun h=>h) (fun k v d xs kvs p _ ih axs akvs ha=>ih (ha.put k p)) h
theorem Ic {K:PySem.W.Frag}:kX K (fun xs H Q=>∃ l ys kvs,xs=[.ref l]∧SqL K H l ys∧fK K H ys kvs∧kvs.length≤sizeLine∧∀ p,H p=none→Q (.ref p) (L2.upd H p (.dK (d7 [] kvs)))) Bf:=fun H μ xs ds Q Q' m p h k=>by
  unfold Bf at h
  split at h
  · obtain ⟨kvs,rfl,hl,h⟩:=h
    cases p with | cons p1 p2=>
    cases p2
    cases p1 with
    | ls q l=>
      obtain ⟨r,h1,h2⟩:=fK.of l
      exact ⟨_,_,r,rfl,q.sq,h1,by rw[h2.length];exact big hl,fun z hz=>k _ _ _ _ (.new hz) (vc m hz (h2.merge .nil)) (.obj z) (h z (m.free hz))⟩
  · exact False.elim h
end
section
open PySem PySem.Spec PyProof.Rows L2
section
variable {X:Cx} {o i a b c e value:Expr} {To Ti Ta Tb Te:ETr} {pos tpos apos cpos:Pos}
def OQ (To Ti:ETr):ETr:=fun ρ μ Q=>To ρ μ fun x μ1=>kObj x fun a=>kL μ1 a fun _=>Ti ρ μ1 fun y μ2=>kI y fun j=>(-9223372036854775808≤j∧j < 9223372036854775808)∧kL μ2 a fun ds=>kN (L2.ixN ds.length j) fun k=>kO ds[k]? fun d=>Q d (up μ2 a (.lst (ds.eraseIdx k)))
theorem FG {n k:Nat}{j:Int}(h:L2.ixN n j=some k):seqIndex? j n=some k:=by
  unfold L2.ixN at h
  unfold seqIndex?
  split at h
  · split at h
    · cases h
      rename_i h1 h2
      simp[show ¬ (j < 0) by omega,h1,h2]
    · cases h
  · split at h
    · cases h
      rename_i h1 h2
      simp[show j < 0 by omega]
      omega
    · cases h
theorem DpL.erase {K:PySem.W.Frag}{H:Hp}:∀ {vs:List V} {ds:List D} (i:Nat),DpL K H vs ds→DpL K H (vs.eraseIdx i) (ds.eraseIdx i)
  | _,_,_,.nil=>by simp;exact .nil
  | _,_,0,.cons _ l=>l
  | _,_,i+1,.cons q l=>.cons q (DpL.erase i l)
theorem Od (ho:LE X o To)(hi:LE X i Ti)
    (hbase:attributeBase o "pop" X.env (eval o X.env)=eval o X.env:=by rfl)
    (hfew:((backTo cpos (starEach [i] X.env)).all (fun x=>!x.1)&&(backToKw cpos (keywordEach [] X.env)).all (fun x=>x.1.isSome)
      && decide (([i]:List Expr).length+([]:List Keyword).length+(if ([]:List Keyword).isEmpty then 0 else 1) < 30))=true:=by rfl)
    (hline:(apos.endLine == cpos.line)=true:=by rfl) (hs:starEach [i] X.env=(false,eval i X.env)::starEach [] X.env:=by rfl) (hplain:(backTo cpos (starEach [] X.env)).any (·.1)=false:=by rfl) :
    LE X (.Call (.Attribute o "pop" apos) [i] [] cpos) (OQ To Ti):=by
  obtain ⟨to,po,so⟩:=ho.ex
  obtain ⟨ti,pi,si⟩:=hi.ex
  refine ⟨_,BA PySem.F.plainAttrs_list PySem.F.slot_list_pop PySem.F.type_list_pop HM po (fS pi jl hs) hbase hfew hline hs hplain,fun σ H ρ μ Q Q' rl h k=>so σ H ρ μ _ _ rl h fun x H1 dx μ1 t1 m1 p1 h1=>?_⟩
  obtain ⟨q,rfl,h1⟩:=ij p1 h1
  obtain ⟨ds0,e0,h1⟩:=bP h1
  obtain ⟨xs0,ex0,_⟩:=m1 q _ e0
  refine ⟨.inl ⟨rfl,_,SqL.of ex0⟩,si σ H1 ρ μ1 _ _ (rl.go t1 m1) h1 fun y H2 dy μ2 t2 m2 p2 h2=>?_⟩
  cases p2 with
  | int j=>
    obtain ⟨hr,h2⟩:=h2
    obtain ⟨ds,e2,h3⟩:=bP (show kL μ2 q _ from h2)
    obtain ⟨kk,e3,h3⟩:=GC h3
    obtain ⟨d,e4,h3⟩:=kT h3
    obtain ⟨xs,ex,l⟩:=m2 q _ e2
    obtain ⟨v,ev,pv⟩:=l.get e4
    have e3':L2.ixN xs.length j=some kk:=by rw[l.length];exact e3
    exact ⟨q,xs,j,kk,v,rfl,rfl,ex,by omega,by omega,FG e3',ev,k _ _ _ _ ((t1.trans t2).trans (ky ex)) (Hq m2 ex (l.erase kk)) (pv.mono (ky ex)) h3⟩
  | _=>exact False.elim h2
end
noncomputable def pF (h:Heap) (dx:PyData) (y:Value):Bool:=@decide (∃ d as,Reads h y d as∧PyData.canLay0 d=true∧PyData.eqv d dx=true) (Classical.propDecidable _)
theorem IV {h:Heap}{dx d:PyData}{y:Value}{as:List Addr}(r:Reads h y d as)(hd:d.canLay0=true):pF h dx y=PyData.eqv d dx:=by
  unfold pF
  cases e:PyData.eqv d dx with
  | true=>exact @decide_eq_true _ (Classical.propDecidable _) ⟨d,as,r,hd,e⟩
  | false=>
    refine @decide_eq_false _ (Classical.propDecidable _) ?_
    rintro ⟨d',as',r',hd',e'⟩
    cases SeqAt.Reads.unique _ _ _ _ _ hd r r'
    rw[e] at e';cases e'
theorem BQ {n:Nat}:∀ {ds:List D} {d:D},dB n ds=true→d∈ds→okD n d=true
  | x::r,d,h,hm=>by
    have h':okD n x=true∧dB n r=true:=by simpa[dB] using h
    rcases List.mem_cons.mp hm with rfl | hm
    · exact h'.1
    · exact BQ h'.2 hm
section
variable {X:Cx} {pins:List (Addr×Obj)} {σ:L2.St} {H:Hp} {s:Shared}
theorem item_at (I:Inv X pins σ H s){vs:List V}{ds:List D}{us:List Value}(l:DpL X.K H vs ds)(r:Vals vs us)(ok:dB 38 ds=true){dy:D}{y:Value}{bs:List Addr}(oy:okD 38 dy=true)(ry:Reads s.heap y (toP dy) bs)(hu:X.A.units+64 < cLine)
    {m:Nat} {u:Value} (hm:us[m]? = some u):∃ d,ds[m]? = some d∧pF s.heap (toP dy) u=eqD d dy∧SeqAt.EqAt X.A.in1 s u y (pF s.heap (toP dy) u):=by
  have hlt:m < vs.length:=by rw[r.length];exact (List.getElem?_eq_some_iff.mp hm).1
  obtain ⟨u',e1,rv⟩:=r.get (List.getElem?_eq_getElem hlt)
  rw[hm] at e1;cases e1
  obtain ⟨d,ed,pd⟩:=l.get' (List.getElem?_eq_getElem hlt)
  have od:=BQ ok (List.mem_of_getElem? ed)
  obtain ⟨as,ra⟩:=fF I pd od rv
  obtain ⟨l1,d1⟩:=iD 38 d od
  obtain ⟨l2,d2⟩:=iD 38 dy oy
  have e:=IV (dx:=toP dy) ra l1
  refine ⟨d,ed,by rw[e,om 38 38 d dy od oy],?_⟩
  rw[e]
  exact SeqAt.eqAt_reads _ _ _ s _ _ _ _ ra ry l1 l2 (by have:=Nat.min_le_left (toP d).depth (toP dy).depth;rw[Around.in1_units];omega)
end
def DA (ds:List D)(x:D):Option Nat:=ds.findIdx? fun y=>eqD y x
theorem EU {X:Cx}(hu:X.A.units+64 < cLine):MtM X "list.index" (fun x vs H Q=>∃ p xs y ds dy,∃ j:Nat,x=.ref p∧vs=[y]∧SqL X.K H p xs∧DpL X.K H xs ds∧Dp X.K H y dy∧dB 38 ds=true∧okD 38 dy=true∧DA ds dy=some j∧j < 1000000∧Q (.int j) H):=by
  intro pins s σ H x vs v us Q I rx rv h
  obtain ⟨p,xs,y,ds,dy,j,rfl,rfl,sq,l,py,ok,oy,hj,hj2,q⟩:=h
  cases (show v=Value.ref p from rx)
  obtain ⟨u,rfl,ru⟩:=rv.one
  obtain ⟨its,r,⟨o,n,e,c,hd,hdat⟩,_⟩:=I.list sq
  obtain ⟨bs,rb⟩:=fF I py oy ru
  have he:s.heap.get? p=some ⟨.type "list", none,.seq its.toArray n,o.slots⟩:=by
    rw[e];obtain ⟨c',dd,dt,sl⟩:=o;simp only at c hd hdat;subst c hd hdat;rfl
  unfold DA at hj
  rw[List.findIdx?_eq_some_iff_getElem] at hj
  obtain ⟨h1,h2,h3⟩:=hj
  have hl:ds.length=its.length:=by rw[← l.length,r.length]
  have at':∀ m (hm:m < its.toArray.size),∃ d,ds[m]? = some d∧pF s.heap (toP dy) its.toArray[m]=eqD d dy∧SeqAt.EqAt X.A.in1 s its.toArray[m] u (pF s.heap (toP dy) its.toArray[m]):=fun m hm=>
    item_at I l r ok oy rb hu (by simp at hm ⊢)
  refine call_meets F.slot_list_index ⟨_,he,rfl⟩ F.entry_list_index (F.args_list_index_2 _ _) (SeqAt.list_indexAt p its.toArray n none o.slots u (pF s.heap (toP dy)) j (by simp;omega) (by omega) ?_ ?_) ⟨he,fun w hw=>?_,?_⟩
  · obtain ⟨d,e1,e2,_⟩:=at' j (by simp;omega)
    rw[e2]
    rw[List.getElem?_eq_getElem h1] at e1;cases e1
    exact h2
  · intro m hm hlt
    obtain ⟨d,e1,e2,_⟩:=at' m hm
    rw[e2]
    have hm':m < ds.length:=by simp at hm;omega
    rw[List.getElem?_eq_getElem hm'] at e1;cases e1
    have:=h3 m hlt
    simpa using this
  · obtain ⟨m,hm,rfl⟩:=Array.mem_iff_getElem.mp hw
    obtain ⟨d,_,_,e3⟩:=at' m hm
    exact e3
  · exact ⟨.int j,H,I.tok _,⟨_,rfl⟩,q⟩
section
variable {X:Cx} {o i a b c e value:Expr} {To Ti Ta Tb Te:ETr} {pos tpos apos cpos:Pos}
def CH (μ:Mu)(x:D)(f:List D→Prop):Prop:=match x with
  | .ls ds=>f ds
  | .obj a=>kL μ a f
  | _=>False
theorem xp {K:PySem.W.Frag}{H:Hp}{μ:Mu}{x:V}{dx:D}{f:List D→Prop}(m:bL K H μ)(p:Dp K H x dx)(h:CH μ dx f):∃ q xs ds,x=.ref q∧SqL K H q xs∧DpL K H xs ds∧f ds:=by
  cases p with
  | ls sq l=>exact ⟨_,_,_,rfl,sq.sq,l,h⟩
  | obj q=>
    obtain ⟨ds,e0,h⟩:=bP h
    obtain ⟨xs,ex,l⟩:=m q _ e0
    exact ⟨q,xs,ds,rfl,SqL.of ex,l,h⟩
  | _=>exact False.elim h
def zA (To Ti:ETr):ETr:=fun ρ μ Q=>To ρ μ fun x μ1=>CH μ1 x fun _=>Ti ρ μ1 fun y μ2=>CH μ2 x fun ds=>(dB 38 ds=true∧okD 38 y=true)∧kN (DA ds y) fun j=>j < 1000000∧Q (.int j) μ2
theorem EX (hu:X.A.units+64 < cLine)(ho:LE X o To)(hi:LE X i Ti)
    (hbase:attributeBase o "index" X.env (eval o X.env)=eval o X.env:=by rfl)
    (hfew:((backTo cpos (starEach [i] X.env)).all (fun x=>!x.1)&&(backToKw cpos (keywordEach [] X.env)).all (fun x=>x.1.isSome)
      && decide (([i]:List Expr).length+([]:List Keyword).length+(if ([]:List Keyword).isEmpty then 0 else 1) < 30))=true:=by rfl)
    (hline:(apos.endLine == cpos.line)=true:=by rfl) (hs:starEach [i] X.env=(false,eval i X.env)::starEach [] X.env:=by rfl) (hplain:(backTo cpos (starEach [] X.env)).any (·.1)=false:=by rfl) :
    LE X (.Call (.Attribute o "index" apos) [i] [] cpos) (zA To Ti):=by
  obtain ⟨to,po,so⟩:=ho.ex
  obtain ⟨ti,pi,si⟩:=hi.ex
  refine ⟨_,BA PySem.F.plainAttrs_list PySem.F.slot_list_index PySem.F.type_list_index (EU hu) po (fS pi jl hs) hbase hfew hline hs hplain,fun σ H ρ μ Q Q' rl h k=>so σ H ρ μ _ _ rl h fun x H1 dx μ1 t1 m1 p1 h1=>?_⟩
  obtain ⟨q,xs0,ds0,rfl,sq0,l0,h1⟩:=xp m1 p1 h1
  refine ⟨.inl ⟨rfl,_,sq0⟩,si σ H1 ρ μ1 _ _ (rl.go t1 m1) h1 fun y H2 dy μ2 t2 m2 p2 h2=>?_⟩
  obtain ⟨q',xs,ds,eq,sq,l,h2⟩:=xp m2 (p1.mono t2) h2
  cases eq
  obtain ⟨⟨o1,o2⟩,h2⟩:=h2
  obtain ⟨j,ej,hj,h2⟩:=GC h2
  exact ⟨q,xs,y,ds,dy,j,rfl,rfl,sq,l,p2,o1,o2,ej,hj,k _ H2 _ μ2 (t1.trans t2) m2 (.int _) h2⟩
def inG (x:D)(ds:List D):Bool:=ds.any fun y=>eqD y x
def Mj (K:PySem.W.Frag)(neg:Bool):L2.R2:=fun x y H Q=>∃ p xs ds dx,y=.ref p∧(SqL K H p xs∨SqT K H p xs)∧DpL K H xs ds∧Dp K H x dx∧dB 38 ds=true∧okD 38 dx=true∧Q (.bl (if neg then !inG dx ds else inG dx ds)) H
theorem E3 {pins:List (Addr×Obj)}{σ:L2.St}{H:Hp}{s:Shared}(I:Inv X pins σ H s)(hu:X.A.units+64 < cLine){vs:List V}{ds:List D}{us:List Value}(l:DpL X.K H vs ds)(r:Vals vs us)(ok:dB 38 ds=true){dy:D}{y:Value}{bs:List Addr}(oy:okD 38 dy=true)(ry:Reads s.heap y (toP dy) bs) :
    (∀ w,w∈us.toArray→SeqAt.EqAt X.A.in1 s w y (pF s.heap (toP dy) w))∧us.toArray.any (pF s.heap (toP dy))=inG dy ds:=by
  have hl:ds.length=us.length:=by rw[← l.length,r.length]
  constructor
  · intro w hw
    obtain ⟨m,hm,rfl⟩:=Array.mem_iff_getElem.mp hw
    obtain ⟨d,_,_,e3⟩:=item_at I l r ok oy ry hu (m:=m) (u:=us.toArray[m]) (by simp at hm ⊢)
    exact e3
  · unfold inG
    rw[show us.toArray.any (pF s.heap (toP dy))=us.any (pF s.heap (toP dy)) by simp]
    rw[Bool.eq_iff_iff,List.any_eq_true,List.any_eq_true]
    constructor
    · rintro ⟨w,hw,e⟩
      obtain ⟨m,hm,rfl⟩:=List.mem_iff_getElem.mp hw
      obtain ⟨d,e1,e2,_⟩:=item_at I l r ok oy ry hu (m:=m) (u:=us[m]) (by simp)
      exact ⟨d,List.mem_of_getElem? e1,by rw[← e2];exact e⟩
    · rintro ⟨d,hd,e⟩
      obtain ⟨m,hm,rfl⟩:=List.mem_iff_getElem.mp hd
      obtain ⟨d',e1,e2,_⟩:=item_at I l r ok oy ry hu (m:=m) (u:=us[m]'(by omega)) (by simp)
      rw[List.getElem?_eq_getElem hm] at e1;cases e1
      exact ⟨us[m]'(by omega),List.getElem_mem _,by rw[e2];exact e⟩
theorem NM (hu:X.A.units+64 < cLine):OpR X (compareOp .In) (Mj X.K false):=by
  intro pins s σ H x y v u Q I rx ry h
  obtain ⟨p,xs,ds,dx,rfl,hq,l,px,o1,o2,q⟩:=h
  cases (show u=Value.ref p from ry)
  obtain ⟨bs,rb⟩:=fF I px o2 rx
  rcases hq with hq | hq
  · obtain ⟨its,r,pl,hz⟩:=I.list hq
    obtain ⟨h1,h2⟩:=E3 I hu l r o1 o2 rb
    exact SeqAt.in_listAt _ pl.isList h1 ⟨.bl _,H,I,rfl,by rw[h2];exact q⟩
  · obtain ⟨its,r,pl,hz⟩:=I.tuple hq
    obtain ⟨h1,h2⟩:=E3 I hu l r o1 o2 rb
    exact SeqAt.in_tupleAt _ pl h1 ⟨.bl _,H,I,rfl,by rw[h2];exact q⟩
def Cw (μ:Mu)(x:D)(f:List D→Prop):Prop:=match x with
  | .tup ds=>f ds
  | .ls ds=>f ds
  | .obj a=>kL μ a f
  | _=>False
def K5 (neg:Bool):DR2:=fun x y μ Q=>Cw μ y fun ds=>(dB 38 ds=true∧okD 38 x=true)∧Q (.bl (if neg then !inG x ds else inG x ds)) μ
theorem Li {K:PySem.W.Frag}(neg:Bool):gM K (Mj K neg) (K5 neg):=fun H μ x y dx dy Q Q' m px py h k=>by
  cases py with
  | tup sq l=>exact ⟨_,_,_,dx,rfl,.inr sq,l,px,h.1.1,h.1.2,k _ H _ μ (.refl H) m (.bl _) h.2⟩
  | ls sq l=>exact ⟨_,_,_,dx,rfl,.inl sq.sq,l,px,h.1.1,h.1.2,k _ H _ μ (.refl H) m (.bl _) h.2⟩
  | obj q=>
    obtain ⟨ds,e0,h⟩:=bP (show kL μ q _ from h)
    obtain ⟨xs,ex,l⟩:=m q _ e0
    exact ⟨_,_,_,dx,rfl,.inl (SqL.of ex),l,px,h.1.1,h.1.2,k _ H _ μ (.refl H) m (.bl _) h.2⟩
  | _=>exact False.elim h
theorem O1 (hu:X.A.units+64 < cLine)(ha:LE X a Ta)(hb:LE X b Tb)(hm:behindInMarks .In b=false:=by rfl):LT X (.Compare a [.In] [b] pos) (TB (aj (K5 false) Ta Tb)):=gc (NM hu) (Li false) ha hb hm
end
end
section
open PySem PySem.Spec PyProof.Rows L2
def Ny (K:PySem.W.Frag)(n:Nat)(t:TGs)(is:List Nat):Prop:=∀ σ H ρ μ vs ds (k:ST→Mu→Prop) (k':L2.St→Hp→Prop),Rl K σ H ρ μ→DpL K H vs ds→ds.length=is.length→k (jt ρ is ds) μ→Mf K n σ H k k'→t vs σ H k'
structure Iw (X:Cx) (n:Nat) (es:List Expr) (is:List Nat):Prop where
  ex:∃ t,PGs X es t∧Ny X.K n t is
section
variable {X:Cx} {e tg:Expr} {es:List Expr} {is:List Nat} {pos:Pos} {x:Str} {n:Nat}
theorem gk:Iw X n [] []:=⟨_,BB,fun σ H ρ μ vs ds k k' rl l hl h q=>by
  cases ds with
  | nil=>cases l;exact ⟨rfl,q _ _ _ _ (.refl H) rl ⟨rfl,fun _ _=>rfl⟩ h⟩
  | cons=>cases hl⟩
theorem bH (i:Nat)(hN:X.N.Nodup)(h2:Iw X n es is)(hin:i < n:=by decide)(hi:X.N[i]? = some x:=by rfl)(hx:Loc X.env.scope x:=by first | exact Or.inl rfl | exact Or.inr rfl)(hf:X.fn x=true∨X.env.scope.names.lookup x=some .local:=by first | exact .inr rfl | exact .inl rfl | assumption)
    (hs:(assignEach (.Name x pos::es) X.env).map (·.2)=assign (.Name x pos) X.env::(assignEach es X.env).map (·.2):=by rfl):Iw X n (.Name x pos::es) (i::is):=by
  obtain ⟨t,pt,st⟩:=h2.ex
  refine ⟨_,wF (iL hN hi hx hf) pt hs,fun σ H ρ μ vs ds k k' rl l hl h q=>?_⟩
  cases l with
  | nil=>cases hl
  | @cons v d vs ds p l=>
    refine ⟨v,vs,rfl,st _ H _ μ vs ds k k' (rl.set p i) l (by simpa using hl) h fun σ' H' ρ' μ' t' r' hk kk=>q σ' H' ρ' μ' t' r' ⟨?_,fun j hj=>?_⟩ kk⟩
    · rw[hk.1];simp
    · rw[hk.2 j hj,List.getElem?_set_ne (by omega)]
theorem iC {k:Nat}(hc:X.calm=true)(h:Iw X n es is)(hn:(assignEach es X.env).length=is.length:=by rfl)(hst:(assignEach es X.env).findIdx? (·.1)=none:=by rfl):LGc X n (.Tuple es k pos) (eM is):=by
  obtain ⟨t,pt,st⟩:=h.ex
  refine ⟨fun pins s σ H v u k' I r ⟨ρ,μ,d,k,rl,p,h,post⟩=>FD hc pt hn hst pins s σ H v u k' I r ?_⟩
  cases p with
  | @tup a xs ds sq l=>exact ⟨a,xs,rfl,sq,by rw[l.length];exact h.1,st σ H ρ μ xs ds k k' rl l h.1 h.2 post⟩
  | _=>exact False.elim h
end
section
variable {X:Cx} {o i a b c e value:Expr} {To Ti Ta Tb Te:ETr} {pos tpos apos cpos:Pos}
theorem C7 (l:Addr)(its:Array Value)(n:Nat)(q:Addr)(its2:Array Value)(n2:Nat)(sl:Array (Option Value))(h0:¬ (!its.isEmpty&&Builtin.List.listTooLong (its.size+its2.size))=true)(h1:its.size≤sizeLine)(h2:its.size+its2.size≤sizeLine+1) :
    Meets (Builtin.«list.extend» ⟨[.ref l,.ref q],[]⟩) (fun _ R s=>s.heap.get? l=some { cls:=.type "list", dict:=none,data:=.seq its n,slots:=#[] }∧s.heap.get? q=some { cls:=.type "list", dict:=none,data:=.seq its2 n2,slots:=sl }∧
      R (.ok (.ret Value.none)) { s with heap:=s.heap.update l (Obj.mapSeq fun x=>x++its2) }):=
  .of_wp fun prog w A R s h=>by
    obtain ⟨hp,g,d,tk,os⟩:=s
    obtain ⟨hl,hb,h⟩:=h
    have z1:=PySem.AutoSeq1.idx_int
    have z2:=PySem.AutoSeq1.sub_tuple_tuple
    have z3:=PySem.AutoSeq1.sub_list_list
    have z4:=PySem.AutoSeq1.sub_tuple_list
    have z5:=PySem.AutoSeq1.sub_list_tuple
    have hz':(its++its2).size≤sizeLine+1:=by rw[Array.size_append];omega
    wp_walk using (wpAny_updateSeq hl rfl (hz:=h1) (_hz':=hz')),wpAny_loadPart' hl,wpAny_loadPart' hb
    exact ⟨_,rfl,h⟩
def Rz (K:PySem.W.Frag):V→List V→Hp→VK→Prop:=fun x vs H Q=>∃ l b xs zs,x=.ref l∧vs=[.ref b]∧H l=some (.lst xs)∧SqL K H b zs∧xs.length+zs.length≤sizeLine∧Q .non (L2.upd H l (.lst (xs++zs)))
theorem MJ:MtM X "list.extend" (Rz X.K):=by
  intro pins s σ H x vs v us Q I rx rv h
  obtain ⟨l,q,xs,zs,rfl,rfl,hH,hB,hz,qq⟩:=h
  cases (show v=Value.ref l from rx)
  obtain ⟨u,rfl,ru⟩:=rv.one
  cases (show u=Value.ref q from ru)
  obtain ⟨z,its,n,r,hl,e⟩:=I.Ly hH
  obtain ⟨its2,r2,⟨o,n2,e2,c2,d2,dat2⟩,_⟩:=I.list hB
  have e2':s.heap.get? q=some ⟨.type "list", none,.seq its2.toArray n2,o.slots⟩:=by
    rw[e2];obtain ⟨c',dd,dt,sl⟩:=o;simp only at c2 d2 dat2;subst c2 d2 dat2;rfl
  have hl2:=r2.length
  have hs2:its.toArray.size+its2.toArray.size≤sizeLine:=by rw[List.size_toArray,List.size_toArray];omega
  have HK:¬ (!its.toArray.isEmpty&&Builtin.List.listTooLong (its.toArray.size+its2.toArray.size))=true:=by
    rw[xW hs2,Bool.and_false];decide
  refine call_meets F.slot_list_extend ⟨_,e,rfl⟩ F.entry_list_extend (F.args_list_extend_2 _ _) (C7 l its.toArray n q its2.toArray n2 o.slots HK (by omega) (by omega)) ⟨e,e2',?_⟩
  refine ⟨.non,_,I.Iq (its':=its++its2) hH e (by simp) (r.append r2) ?_,rfl,qq⟩
  rw[List.length_append];omega
end
section
variable {P:Program} {w:World} {K:PySem.W.Frag} {mg:Str→Option Value} {base:Heap}
end
end
section
open PySem PySem.Spec PyProof.Rows L2
section
variable {X:Cx} {tg a ea eb:Expr} {Ta:ETr} {es:List Expr} {ek:Nat} {ep p pos:Pos}
def SU (K:PySem.W.Frag)(tl:TE):TI:=fun σ H R=>tl σ H fun x H1=>∃ q,x=.ref q∧(((∃ xs,SqL K H1 q xs)∧R (Itl K q) H1)∨((∃ xs,SqT K H1 q xs)∧R (Itt K q) H1))
theorem MR {tl:TE}(hl:PE X a tl):PI X tg a (SU X.K tl):=by
  intro pins s σ H R I h
  refine thn (hl pins s σ H _ I h) fun v s1 ⟨x,H1,I1,r1,q,ex,qq⟩=>?_
  subst ex
  cases (show v=Value.ref q from r1)
  have fp:∀ b∈[s1.heap.objs.size],_:=fun b hb=>by
    have e:b=s1.heap.objs.size:=by simpa using hb
    subst e
    exact I1.C6 (Nat.le_refl _) (I1.hok.fresh (Nat.le_refl _))
  rcases qq with ⟨⟨xs,sq⟩,qq⟩ | ⟨⟨xs,sq⟩,qq⟩
  · obtain ⟨its,rv,pl,hz⟩:=I1.list sq
    exact wpAny_pyIter_list pl.isList ⟨s1.heap.objs.size,[s1.heap.objs.size],_,_,H1,rfl,I1.kept (t':=s1.toks) (fun b o e=>Heap.get?_push_of_some _ e),sC q _,⟨_,Heap.get?_push_size _ rfl,rfl,rfl⟩,fp,qq⟩
  · obtain ⟨its,rv,pl,hz⟩:=I1.tuple sq
    exact wpAny_pyIter_tuple (show s1.heap.IsTuple q its.toArray from pl) ⟨s1.heap.objs.size,[s1.heap.objs.size],_,_,H1,rfl,I1.kept (t':=s1.toks) (fun b o e=>Heap.get?_push_of_some _ e),zD q _,⟨_,Heap.get?_push_size _ rfl,rfl,rfl⟩,fp,qq⟩
theorem bN (ha:LE X a Ta):LI X tg a (eL Ta):=by
  obtain ⟨ta,pa,sa⟩:=ha.ex
  refine ⟨_,MR pa,fun σ H ρ μ Q R rl h k=>sa σ H ρ μ _ _ rl h fun x H1 d μ1 t1 m1 p1 h1=>?_⟩
  cases p1 with
  | @tup p xs ds q l=>exact ⟨p,rfl,.inr ⟨⟨xs,q⟩,k _ H1 ds μ1 t1 m1 (F5 q l) h1⟩⟩
  | @ls p xs ds q l=>exact ⟨p,rfl,.inl ⟨⟨xs,q.sq⟩,k _ H1 ds μ1 t1 m1 (JA q l) h1⟩⟩
  | _=>exact False.elim h1
def RG (K:PySem.W.Frag)(t:TA):TI:=fun σ H R=>t σ H fun vs H1=>∃ (ta tb:Bool) (a b:Addr),vs=[.ref a,.ref b]∧(∃ xs,Sq ta K H1 a xs)∧(∃ ys,Sq tb K H1 b ys)∧R (Itz ta tb K a b) H1
theorem JH {t:TA}(hg:Gl X "zip")(hm:X.mg "zip" = none)(ha:PA X [ea,eb] t)(hs:starEach [ea,eb] X.env=[(false,eval ea X.env),(false,eval eb X.env)]:=by rfl)(hs2:starEach [eb] X.env=[(false,eval eb X.env)]:=by rfl) :
    PI X (.Tuple es ek ep) (.Call (.Name "zip" p) [ea,eb] [] pos) (RG X.K t):=by
  intro pins s σ H R I h
  refine Call_ (jT I hg hm boot_zip (PyProof.Rows.callWith_type1 (thn (ha pos pins s σ H _ I h) fun us s1 ⟨vs,H1,I1,r1,ta,tb,a,b,e,⟨xs,qa⟩,⟨ys,qb⟩,q⟩=>?_) (by rw[hs,hs2]) (by rw[hs2];rfl)))
  subst e
  cases r1 with | cons r rr=>cases rr with | cons r' rr=>
  cases rr
  cases (show _=Value.ref a from r)
  cases (show _=Value.ref b from r')
  obtain ⟨ia,ra,sa⟩:=Inv.sq I1 qa
  obtain ⟨ib,rb,sb⟩:=Inv.sq I1 qb
  have alt:a < s1.heap.objs.size:=by cases ta<;>(obtain ⟨o,e,_⟩:=sa;exact Heap.lt_size e)
  have blt:b < s1.heap.objs.size:=by cases tb<;>(obtain ⟨o,e,_⟩:=sb;exact Heap.lt_size e)
  refine CS sa sb fun g S kp=>wpAny_pyIter_zip S.zz ⟨s1.heap.objs.size+4,[s1.heap.objs.size+4,s1.heap.objs.size+2,s1.heap.objs.size+3,s1.heap.objs.size,s1.heap.objs.size+1],_,_,H1,rfl,I1.kept (t':=s1.toks) kp,F6 (Rc _ _ _ alt blt),S,fun c hc=>?_,q⟩
  exact I1.C6 (LR _ _ hc) (I1.hok.fresh (LR _ _ hc))
def nC (t:ATr):ATr:=fun ρ μ Q=>t ρ μ fun vs μ1=>k2 vs fun x y=>kS x fun ds=>kS y fun es=>Q (List.zipWith (fun d e=>.tup [d,e]) ds es) μ1
theorem yW {K:PySem.W.Frag}{H:Hp}{v:V}{x:D}{f:List D→Prop}(p:Dp K H v x)(h:kS x f):∃ (tp:Bool) (a:Addr) (xs:List V) (ds:List D),v=.ref a∧Sq tp K H a xs∧DpL K H xs ds∧kQ tp x f:=by
  cases p with
  | @tup a xs ds q l=>exact ⟨true,a,xs,ds,rfl,q,l,h⟩
  | @ls a xs ds q l=>exact ⟨false,a,xs,ds,rfl,q,l,h⟩
  | _=>exact False.elim h
theorem kc {At:ATr}(hg:Gl X "zip")(hm:X.mg "zip" = none)(ha:LA X [ea,eb] At)
    (hs:starEach [ea,eb] X.env=[(false,eval ea X.env),(false,eval eb X.env)]:=by rfl) (hs2:starEach [eb] X.env=[(false,eval eb X.env)]:=by rfl) :
    LI X (.Tuple es ek ep) (.Call (.Name "zip" p) [ea,eb] [] pos) (nC At):=by
  obtain ⟨t,pt,st⟩:=ha.ex
  refine ⟨_,JH hg hm pt hs hs2,fun σ H ρ μ Q R rl h k=>st σ H ρ μ _ _ rl h fun vs H1 ds μ1 t1 m1 p1 h1=>?_⟩
  unfold L3.k2 at h1
  split at h1
  case h_2=>exact False.elim h1
  cases p1 with | cons pa p2=>cases p2 with | cons pb p3=>
  cases p3
  obtain ⟨ta,a,xs,dx,rfl,qa,la,h2⟩:=yW pa h1
  obtain ⟨a',xs',dx',ea',qa',la',h2⟩:=yT pa h2
  cases ea'
  obtain ⟨tb,b,ys,dy,rfl,qb,lb,h3⟩:=yW pb h2
  obtain ⟨b',ys',dy',eb',qb',lb',h3⟩:=yT pb h3
  cases eb'
  refine ⟨ta,tb,a,b,rfl,⟨xs',qa'⟩,⟨ys',qb'⟩,k _ H1 _ μ1 t1 m1 ⟨fun i H' tk hi=>?_,fun i H' v H'' tk hi yv=>?_,fun i H' tk hi=>?_⟩ h3⟩
  · have l1:=la'.length
    have l2:=lb'.length
    rw[List.length_zipWith] at hi
    exact ⟨xs',ys',xs'[i],ys'[i],tk.sq qa',tk.sq qb',by simp[show i < xs'.length by omega],by simp[show i < ys'.length by omega]⟩
  · obtain ⟨x,y,q,fx,fy,rfl,fr,rfl⟩:=yv
    obtain ⟨d,ed,pd⟩:=la'.get' (fx _ (tk.sq qa'))
    obtain ⟨e,ee,pe⟩:=lb'.get' (fy _ (tk.sq qb'))
    have tn:Tk H' (L2.upd H' q (.tup [x,y])):=.new fr
    exact ⟨tn,⟨.tup [d,e],by simp[List.getElem?_zipWith,ed,ee],.tup (SqT.of aL) (.cons ((pd.mono tk).mono tn) (.cons ((pe.mono tk).mono tn) .nil))⟩,fun μ' m'=>c7 m' fr⟩
  · have l1:=la'.length
    have l2:=lb'.length
    rw[List.length_zipWith] at hi
    exact ⟨xs',ys',tk.sq qa',tk.sq qb',by omega⟩
variable {i o:Expr} {Ti To:ETr}
end
end
section
open PySem PySem.Spec PyProof.Rows L2
def ltS (x y:Str):Bool:=decide (x.cps.toList < y.cps.toList)
theorem lK:∀ {us:List Value} {ss:List Str},StrsAre us ss→Vals (ss.map V.str) us
  | _,_,.nil=>.nil
  | _,_,.cons n t h=>.cons ⟨t,rfl⟩ (lK h)
theorem BR:∀ {us:List Value} {ss:List Str},Vals (ss.map V.str) us→StrsAre us ss
  | _,[],h=>by cases h;exact .nil
  | _,s::r,h=>by
    cases h with
    | cons q h=>obtain ⟨t,rfl⟩:=(show ∃ t,_=Value.str s t from q);exact .cons s t (BR h)
def OH (K:PySem.W.Frag):List V→Hp→VK→Prop:=fun xs H Q=>∃ (p:Addr) (ss:List Str),xs=[.ref p]∧SqL K H p (ss.map V.str)∧ss.length < 64∧∀ ss':List Str,ss'.Perm ss→ss'.Pairwise (fun a b=>ltS b a=false)→∀ z,H z=none→Q (.ref z) (L2.upd H z (.lst (ss'.map V.str)))
theorem C0:∀ (p:Str) (l:List Str),risingS p l=true→(p::l).Pairwise (fun a b=>ltS b a=false):=by
  have tr:∀ a b c:Str,ltS b a=false→ltS c b=false→ltS c a=false:=by
    intro a b c h1 h2
    unfold ltS at *
    rw[decide_eq_false_iff_not,List.not_lt] at *
    exact List.le_trans h1 h2
  intro p l
  induction l generalizing p with
  | nil=>intro _;exact List.pairwise_singleton _ _
  | cons x r ih=>
    intro h
    have h':ltCps x.cps.toList p.cps.toList=false∧risingS x r=true:=by
      have:(!ltCps x.cps.toList p.cps.toList&&risingS x r)=true:=h
      simpa using this
    have hx:=ih x h'.2
    have hpx:ltS x p=false:=by unfold ltS;rw[← ltCps_eq];exact h'.1
    refine List.pairwise_cons.mpr ⟨fun y hy=>?_,hx⟩
    rcases List.mem_cons.mp hy with rfl | hy
    · exact hpx
    · exact tr p x y hpx ((List.pairwise_cons.mp hx).1 y hy)
theorem Cy:∀ (l:List Str),sortedS l=true→l.Pairwise (fun a b=>ltS b a=false)
  | [],_=>.nil
  | p::l,h=>C0 p l h
theorem ym {X:Cx}:cH X (.builtin "sorted") (OH X.K):=fun pins s σ H xs us Q I rx ⟨p,ss,e1,sq,hl,q⟩=>by
  subst e1
  obtain ⟨u,rfl,ru⟩:=vals1 rx
  cases (show u=Value.ref p from ru)
  obtain ⟨its,rv,pl,hz⟩:=I.list sq
  have hi:StrsAre its ss:=BR rv
  have hlen:its.length < 64:=by have:=rv.length;simp at this;omega
  refine sorted_strs pl.isList hi hlen fun out ss' a1 a2 a3=>?_
  obtain ⟨n,en⟩:=sortedAll_at s.heap its out
  refine ⟨.ref _,_,I.laid (t':=s.toks) (o:=.lst (ss'.map V.str)) (fun b o e=>sortedAll_old e) (Nat.le_succ _) ?_,rfl,q ss' a2 (Cy _ a3) _ (I.hok.fresh (Nat.le_succ _))⟩
  have z1:ss'.length=ss.length:=a2.length_eq
  exact ⟨by rw[List.length_map,z1];exact Nat.le_of_lt (Nat.lt_of_lt_of_le hl (by decide)),out.toList,n,lK a1,by simpa[seqObj] using en⟩
def Ag:FSp:=fun ds μ Q=>match ds with
  | [.ls xs]=>∃ ss:List Str,(xs=ss.map .str∧ss.length < 64)∧∀ ss':List Str,ss'.Perm ss→ss'.Pairwise (fun a b=>ltS b a=false)→Q (.ls (ss'.map .str)) μ
  | _=>False
theorem DpL.strs {K:PySem.W.Frag}{H:Hp}:∀ ss:List Str,DpL K H (ss.map V.str) (ss.map D.str)
  | []=>.nil
  | s::r=>.cons (.str s) (DpL.strs r)
theorem DpL.lK {K:PySem.W.Frag}{H:Hp}:∀ {xs:List V} {ss:List Str},DpL K H xs (ss.map .str)→xs=ss.map V.str
  | _,[],.nil=>rfl
  | _,s::r,.cons h l=>by cases h;rw[DpL.lK l];rfl
section
variable {X:Cx} {e a b:Expr} {x:Str} {p pos:Pos} {At:ATr} {Ta Tb:ETr}
theorem HE (hg:Gl X x)(hm:X.mg x=none)(hv:bootBuiltins x=some (.builtin "sorted"))(ha:LA X [e] At)(hn:x ≠ "__name__" := by decide)(hdb:(x == ("__debug__" : Str))=false:=by decide)
    (h1:starEach [e] X.env=(false,eval e X.env)::starEach [] X.env:=by rfl) (h2:(backTo pos (starEach [] X.env)).any (·.1)=false:=by rfl):LE X (.Call (.Name x p) [e] [] pos) (aq Ag At):=by
  obtain ⟨ta,pa,sa⟩:=ha.ex
  refine ⟨_,jI (pO ym hg hm hv pa hn hdb h1 h2),fun σ H ρ μ Q Q' rl h k=>sa σ H ρ μ _ _ rl h fun xs H1 ds μ1 t1 m1 p1 h1=>?_⟩
  unfold Ag at h1
  split at h1
  · obtain ⟨ss,⟨rfl,hl⟩,h2⟩:=h1
    cases p1 with | cons p1 p2=>
    cases p2
    cases p1 with
    | @ls a ys _ q l=>
      cases DpL.lK l
      refine ⟨a,ss,rfl,q.sq,hl,fun ss' a2 a3 z hz=>⟨z,_,rfl,aL,fun o=>?_⟩⟩
      have e:L2.upd (L2.upd H1 z (.lst (ss'.map V.str))) z (.frz o (.lst (ss'.map V.str)))=L2.upd H1 z (.frz o (.lst (ss'.map V.str))):=u6
      rw[e]
      exact k _ _ _ μ1 (t1.trans (.new hz)) (c7 m1 hz) (.ls (.inl ⟨o,aL⟩) (.strs ss')) (h2 ss' a2 a3)
  · exact False.elim h1
def L4 (f:Str→Str→Bool):DR2:=fun x y μ Q=>match x,y with
  | .str i,.str j=>Q (.bl (f i j)) μ
  | _,_=>False
theorem Mx:OpR X (compareOp .Gt) (fun x y H Q=>∃ i j,x=.str i∧y=.str j∧Q (.bl (ltS j i)) H):=by
  intro pins s σ H x y v u Q I rx ry h
  obtain ⟨i,j,rfl,rfl,q⟩:=h
  obtain ⟨t,rfl⟩:=rx
  obtain ⟨t',rfl⟩:=ry
  exact PySem.P.gt_str ⟨.bl _,H,I,rfl,q⟩
theorem HH {K:PySem.W.Frag}(f:Str→Str→Bool):gM K (fun x y H Q=>∃ i j,x=.str i∧y=.str j∧Q (.bl (f i j)) H) (L4 f):=fun H μ x y dx dy Q Q' m px py h k=>by
  cases px with
  | str i=>cases py with
    | str j=>exact ⟨i,j,rfl,rfl,k _ H _ μ (.refl H) m (.bl _) h⟩
    | _=>exact False.elim h
  | _=>cases py<;>exact False.elim h
def Ow:DR2:=L4 fun i j=>ltS j i
theorem OV (ha:LE X a Ta)(hb:LE X b Tb):LT X (.Compare a [.Gt] [b] pos) (TB (aj Ow Ta Tb)):=gc Mx (HH _) ha hb (fz _)
end
end
section
open PySem PySem.Spec PyProof.Rows L2
def kF (C:Mu→Prop)(p:Addr)(G:GTr)(tt:TTr)(te:ETr)(ρc:ST)(K:Mu→Prop):List D→Mu→Prop
  | [],μ=>C μ∧K μ
  | d::r,μ=>C μ∧G d ρc μ fun ρ1 μ1=>tt ρ1 μ1 fun b μ2=>kIf b (te ρ1 μ2 fun y μ3=>kL μ3 p fun zs=>zs.length < 1000000∧kF C p G tt te ρc K r (up μ3 p (.lst (zs++[y])))) (kF C p G tt te ρc K r μ2)
def jy (To:ETr)(G:GTr)(tt:TTr)(te:ETr)(n:Nat)(caps:List Nat):ETr:=fun ρ μ Q=>To ρ μ fun x μ1=>kObj x fun a=>kL μ1 a fun ds=>∀ p,μ1 p=none→
  kF (fun μ=>μ a=some (.lst ds)) p G tt te (fu ρ n caps) (fun μ'=>kL μ' p fun zs=>Q (.ls zs) (dn μ' p)) ds (up μ1 p (.lst []))
theorem tw {K:PySem.W.Frag}{ta:TE}{To:ETr}{G:GTr}{Tt:TTr}{Te:ETr}{n:Nat}{caps:List Nat}(sa:Sim K ta To):Sim K (CW (kl (L5 K ta) (kY K n G) (liftT K Tt) (lN K Te) n caps)) (jy To G Tt Te n caps):=by
  intro σ H ρ μ Q Q' rl h k
  refine sa σ H ρ μ _ _ rl h fun x H1 dx μ1 t1 m1 px hx=>?_
  obtain ⟨q,rfl,hx⟩:=ij px hx
  obtain ⟨ds,eq0,h1⟩:=bP hx
  obtain ⟨xs0,exs0,l0⟩:=m1 q _ eq0
  refine ⟨q,rfl,⟨_,SqL.of exs0⟩,fun D hD=>?_⟩
  have hp:=h1 D (m1.free hD)
  have tD:Tk H1 (L2.upd H1 D (.lst [])):=.new hD
  have mD:bL K (L2.upd H1 D (.lst [])) (up μ1 D (.lst [])):=fun a o e=>by
    by_cases ha:a=D
    · subst ha
      rw[aH] at e;cases e
      exact ⟨[],aL,.nil⟩
    · rw[aU ha] at e
      exact c7 m1 hD a o e
  refine ⟨fun i m ys H2=>m=ds.length - i∧i≤ds.length∧Tk H1 H2∧∃ μ2,bL K H2 μ2∧kF (fun μ=>μ q=some (.lst ds)) D G Tt Te (fu ρ n caps) (fun μ'=>kL μ' D fun zs=>Q (.ls zs) (dn μ' D)) (ds.drop i) μ2,
    ⟨ds.length,by simp,Nat.zero_le _,tD,_,mD,by simpa using hp⟩,?_⟩
  rintro i m ys H2 ⟨rfl,hi,t12,μ2,m2,h2⟩
  have hg:μ2 q=some (.lst ds):=by
    cases hdr:ds.drop i with
    | nil=>rw[hdr] at h2;exact h2.1
    | cons=>rw[hdr] at h2;exact h2.1
  obtain ⟨xs2,ex2,l2⟩:=m2 q _ hg
  have ll:=l2.length
  by_cases hlt:i < ds.length
  · refine .inr ⟨⟨xs2,xs2[i]'(by omega),SqL.of ex2,List.getElem?_eq_getElem (by omega)⟩,fun ys' H'=>Tk H1 H'∧∃ μ',bL K H' μ'∧kF (fun μ=>μ q=some (.lst ds)) D G Tt Te (fu ρ n caps) (fun μ'=>kL μ' D fun zs=>Q (.ls zs) (dn μ' D)) (ds.drop (i+1)) μ',fun ys' H' ⟨t',μ',m',h'⟩=>⟨ds.length - (i+1),by omega,rfl,hlt,t',μ',m',h'⟩,fun x H3 y=>?_⟩
    obtain ⟨rfl,y⟩:=y
    have exi:=y xs2 (SqL.of ex2)
    obtain ⟨d,ed,pd⟩:=l2.get' exi
    have e:ds.drop i=d::ds.drop (i+1):=by
      refine (List.drop_eq_getElem_cons hlt).trans ?_
      congr 1
      rw[List.getElem?_eq_getElem hlt] at ed
      exact Option.some.inj ed
    rw[e] at h2
    have t13:=t12
    have r3:Rl K (ki σ n caps) H3 (fu ρ n caps) μ2:=oq (rl.go (t1.trans t13) m2) n caps
    refine ⟨_,_,d,_,r3,pd,h2.2,fun σ4 H4 ρ4 μ4 t4 r4 kp h4=>⟨⟨kp.1.symm,fun j v ej=>?_⟩,_,_,_,r4,h4,fun b H5 μ5 t5 m5 h5=>?_⟩⟩
    · by_cases hj:n≤j
      · rw[kp.2 j hj];exact ej
      · obtain ⟨j',k',e1,_⟩:=jD ej
        omega
    · have t15:=t13.trans (t4.trans t5)
      cases b with
      | false=>exact rn ⟨t15,μ5,m5,h5⟩
      | true=>
        refine ri ⟨_,_,_,r4.go t5 m5,h5,fun v H6 d6 μ6 t6 m6 p6 h6=>?_⟩
        obtain ⟨zs,ez,lz,h7⟩:=bP h6
        obtain ⟨xs,ex,lx⟩:=m6 D _ ez
        have t67:Tk H6 (L2.upd H6 D (.lst (xs++[v]))):=.upd (fun ys z=>by rw[ex] at z;cases z) fun o' u z=>by rw[ex] at z;cases z
        refine ⟨xs,ex,by rw[lx.length];exact Nat.lt_of_lt_of_le lz (by decide),(t15.trans t6).trans t67,up μ6 D (.lst (zs++[d6])),fun a o ea=>?_,h7⟩
        by_cases ha:a=D
        · subst ha
          rw[aH] at ea;cases ea
          exact ⟨_,aL,(lx.append (.cons p6 .nil)).mono t67⟩
        · rw[aU ha] at ea
          exact (m6 a _ ea).ne t67 ha
  · have e:i=ds.length:=by omega
    subst e
    rw[List.drop_length] at h2
    obtain ⟨zs,ez,hq⟩:=bP (show kL μ2 D fun zs=>Q (.ls zs) (dn μ2 D) from h2.2)
    obtain ⟨xs,ex,lx⟩:=m2 D _ ez
    refine .inl ⟨⟨xs2,SqL.of ex2,by omega⟩,D,xs,rfl,ex,fun o=>?_⟩
    have t2f:Tk H2 (L2.upd H2 D (.frz o (.lst xs))):=.upd (fun ys z=>by rw[ex] at z;cases z) fun o' u z=>by rw[ex] at z;cases z
    refine k _ _ _ (dn μ2 D) ((t1.trans t12).trans t2f) (fun a o' ea=>?_) (.ls (.inl ⟨o,aL⟩) (lx.mono t2f)) hq
    have ha:a≠D:=fun z=>by subst z;unfold dn at ea;rw[if_pos rfl] at ea;cases ea
    have ea':μ2 a=some o':=by unfold dn at ea;rw[if_neg ha] at ea;exact ea
    exact (m2 a _ ea').ne t2f ha
theorem mL {X:Cx}{tg elt iter:Expr}{Te:ETr}{Tt:TTr}{pos spos py:Pos}{y:Str}{To:ETr}{G:GTr}{ifs:List Expr}{scope fsc:Scope}(iy:Nat)(hN:X.N.Nodup)(XN Nc:List Str)(n:Nat)(caps:List Nat)(hxe:X.xe=fun _ _=>False)(hcalm:X.calm=true)(hi:LE X iter To)
    (hbody:∀ (cl:List (Str×Addr)) (C:Addr) (s₀:Shared) (H₀:Hp) (ex:List Addr),LGc (a5 X scope Nc cl C s₀ H₀ ex) n tg G∧wm (a5 X scope Nc cl C s₀ H₀ ex) ifs Tt∧LE (a5 X scope Nc cl C s₀ H₀ ex) elt Te)
    (hsc:X.env.scope=fsc) (hXN:X.N=XN) (hok:gT fsc.names XN scope Nc n caps=true)
    (hiy:X.N[iy]? = some y:=by rfl) (hx:Loc X.env.scope y:=by first | exact Or.inl rfl | exact Or.inr rfl) (hf:X.fn y=true∨X.env.scope.names.lookup y=some .local:=by first | exact .inl rfl | exact .inr rfl | assumption)
    (hsw:swapsWith (.ListComp elt [⟨tg,iter,ifs,0⟩] scope pos) (some (.Name y py)) spos.line X.env=pure true:=by rfl)
    (hs:∀ x,foldedSetIterable iter X.env x=pure x:=by intro _;rfl) :
    LS X (.Assign [.Name y py] (.ListComp elt [⟨tg,iter,ifs,0⟩] scope pos) spos) (aP (jy To G Tt Te n caps) (aw iy)):=by
  unfold gT at hok
  simp only[Bool.and_eq_true,List.all_eq_true] at hok
  obtain ⟨⟨⟨h1,h2⟩,h3⟩,h4⟩:=hok
  obtain ⟨ta,pa,sa⟩:=hi.ex
  refine ⟨_,A9 (g:=kY X.K n G) (tt:=liftT X.K Tt) (te:=lN X.K Te) hxe hcalm (By pa) (fun cl C s₀ H₀ ex=>let ⟨h1,h2,h3⟩:=hbody cl C s₀ H₀ ex;⟨h1.pe,h2.pe,h3.pe⟩) (fun y hy hf=>?_) (fun y hy hf=>?_) (by simpa using h2) (fun y hy hf=>?_) (by simpa using h3) (fun j k hj=>?_) (iL hN hiy hx hf) hsw hs,fun σ H ρ μ E E' rl h k=>tw sa σ H ρ μ _ _ rl h fun v H' d μ' t' m' p' h'=>ix iy σ H' ρ μ' v d _ _ (rl.go t' m') p' h' (k.go t').nx⟩
  · have:=(h1 y hy).1.1
    show X.env.scope.names.lookup y.1=_
    rw[hsc]
    simpa[hf] using this
  · have:=(h1 y hy).1.2
    simp[hf] at this
  · have:=(h1 y hy).2
    simpa[hf] using this
  · have hl:j < caps.length:=(List.getElem?_eq_some_iff.mp hj).1
    have:=h4 j (List.mem_range.mpr hl)
    rw[hj] at this
    dsimp only at this
    rw[hXN]
    cases e:XN[k]? with
    | none=>rw[e] at this;cases this
    | some x=>
      rw[e] at this
      dsimp only at this
      rw[Bool.and_eq_true] at this
      exact ⟨x,by simpa using this.1,rfl,by simpa using this.2⟩
theorem Dw {X:Cx}{tg elt iter:Expr}{Te:ETr}{Tt:TTr}{pos:Pos}{To:ETr}{G:GTr}{ifs:List Expr}{scope fsc:Scope}(XN Nc:List Str)(n:Nat)(caps:List Nat)(hxe:X.xe=fun _ _=>False)(hcalm:X.calm=true)(hi:LE X iter To)
    (hbody:∀ (cl:List (Str×Addr)) (C:Addr) (s₀:Shared) (H₀:Hp) (ex:List Addr),LGc (a5 X scope Nc cl C s₀ H₀ ex) n tg G∧wm (a5 X scope Nc cl C s₀ H₀ ex) ifs Tt∧LE (a5 X scope Nc cl C s₀ H₀ ex) elt Te)
    (hsc:X.env.scope=fsc) (hXN:X.N=XN) (hok:gT fsc.names XN scope Nc n caps=true)
    (hs:∀ x,foldedSetIterable iter X.env x=pure x:=by intro _;rfl) :
    LE X (.ListComp elt [⟨tg,iter,ifs,0⟩] scope pos) (jy To G Tt Te n caps):=by
  unfold gT at hok
  simp only[Bool.and_eq_true,List.all_eq_true] at hok
  obtain ⟨⟨⟨h1,h2⟩,h3⟩,h4⟩:=hok
  obtain ⟨ta,pa,sa⟩:=hi.ex
  refine ⟨_,jI (A2 (g:=kY X.K n G) (tt:=liftT X.K Tt) (te:=lN X.K Te) hxe hcalm (By pa) (fun cl C s₀ H₀ ex=>let ⟨h1,h2,h3⟩:=hbody cl C s₀ H₀ ex;⟨h1.pe,h2.pe,h3.pe⟩) (fun y hy hf=>?_) (fun y hy hf=>?_) (by simpa using h2) (fun y hy hf=>?_) (by simpa using h3) (fun j k hj=>?_) hs),tw sa⟩
  · have:=(h1 y hy).1.1
    show X.env.scope.names.lookup y.1=_
    rw[hsc]
    simpa[hf] using this
  · have:=(h1 y hy).1.2
    simp[hf] at this
  · have:=(h1 y hy).2
    simpa[hf] using this
  · have hl:j < caps.length:=(List.getElem?_eq_some_iff.mp hj).1
    have:=h4 j (List.mem_range.mpr hl)
    rw[hj] at this
    dsimp only at this
    rw[hXN]
    cases e:XN[k]? with
    | none=>rw[e] at this;cases this
    | some x=>
      rw[e] at this
      dsimp only at this
      rw[Bool.and_eq_true] at this
      exact ⟨x,by simpa using this.1,rfl,by simpa using this.2⟩
end
theorem Kz (a b:ETr)(ρ:ST)(μ:Mu)(Q:DK):bC a b ρ μ Q=a ρ μ fun x μ1=>b ρ μ1 fun y μ2=>kObj x fun a=>kD μ2 a fun kvs=>uf y fun k=>kO (bE kvs k) fun d=>Q d μ2:=propext Iff.rfl
theorem Io (a b e:ETr)(nx:ST→Mu→Prop)(rt:DK)(bk ct:ST→Mu→Prop)(ρ:ST)(μ:Mu):gm a b e ⟨nx,rt,bk,ct⟩ ρ μ=e ρ μ fun v μ1=>a ρ μ1 fun x μ2=>b ρ μ2 fun y μ3=>kObj x fun a=>kD μ3 a fun kvs=>uf y fun k=>kvs.length < 1000000∧nx ρ (up μ3 a (.dct (putD kvs k v))):=propext Iff.rfl
theorem Lc (f:Int→Int→Int)(a b e:ETr)(nx:ST→Mu→Prop)(rt:DK)(bk ct:ST→Mu→Prop)(ρ:ST)(μ:Mu):kZ f a b e ⟨nx,rt,bk,ct⟩ ρ μ=a ρ μ fun x μ1=>b ρ μ1 fun y μ2=>kObj x fun a=>kD μ2 a fun kvs=>uf y fun k=>kO (bE kvs k) fun d=>kI d fun m=>e ρ μ2 fun w μ3=>kI w fun n=>kD μ3 a fun kvs3=>kvs3.length < 1000000∧nx ρ (up μ3 a (.dct (putD kvs3 k (.int (f m n))))):=propext Iff.rfl
theorem Oy (f:Int→Int→Int)(i:Nat)(e:ETr)(nx:ST→Mu→Prop)(rt:DK)(bk ct:ST→Mu→Prop)(ρ:ST)(μ:Mu):Ex f i e ⟨nx,rt,bk,ct⟩ ρ μ=ah i ρ μ fun d _=>kI d fun m=>e ρ μ fun w μ1=>kI w fun n=>aw i (.int (f m n)) ρ μ1 nx:=propext Iff.rfl
theorem IP (ks:List L2.Key)(t:ATr)(ρ:ST)(μ:Mu)(Q:DK):DN ks t ρ μ Q = ∀ p,μ p=none→t ρ (up μ p (.dct [])) fun ds μ2=>kD μ2 p fun kvs=>kvs=[]∧Q (.obj p) (up μ2 p (.dct (ks.zip ds))):=propext Iff.rfl
theorem OD (a b:ETr)(ρ:ST)(μ:Mu)(Q:DK):OQ a b ρ μ Q=a ρ μ fun x μ1=>kObj x fun a=>kL μ1 a fun _=>b ρ μ1 fun y μ2=>kI y fun j=>(-9223372036854775808≤j∧j < 9223372036854775808)∧kL μ2 a fun ds=>kN (L2.ixN ds.length j) fun k=>kO ds[k]? fun d=>Q d (up μ2 a (.lst (ds.eraseIdx k))):=propext Iff.rfl
theorem Hg (a b:ETr)(ρ:ST)(μ:Mu)(Q:DK):zA a b ρ μ Q=a ρ μ fun x μ1=>CH μ1 x fun _=>b ρ μ1 fun y μ2=>CH μ2 x fun ds=>(dB 38 ds=true∧okD 38 y=true)∧kN (DA ds y) fun j=>j < 1000000∧Q (.int j) μ2:=propext Iff.rfl
theorem OU (a:ETr)(ρ:ST)(μ:Mu)(Q:List D→Mu→Prop):eL a ρ μ Q=a ρ μ fun x μ1=>kS x fun ds=>Q ds μ1:=propext Iff.rfl
theorem JD (t:ATr)(ρ:ST)(μ:Mu)(Q:List D→Mu→Prop):nC t ρ μ Q=t ρ μ fun vs μ1=>k2 vs fun x y=>kS x fun ds=>kS y fun es=>Q (List.zipWith (fun d e=>.tup [d,e]) ds es) μ1:=propext Iff.rfl
theorem N4 (n:Bool)(x:D)(ds:List D)(μ:Mu)(Q:DK):K5 n x (.ls ds) μ Q=((dB 38 ds=true∧okD 38 x=true)∧Q (.bl (if n then !inG x ds else inG x ds)) μ):=propext Iff.rfl
theorem ME (μ:Mu)(ds:List D)(f:List D→Prop):CH μ (.ls ds) f=f ds:=propext Iff.rfl
theorem NF (i:Int)(f:L2.Key→Prop):uf (.int i) f=f (.inl i):=propext Iff.rfl
theorem Nb (s:Str)(f:L2.Key→Prop):uf (.str s) f=f (.inr s):=propext Iff.rfl
theorem LL {μ:Mu}{a:Addr}{ds:List (L2.Key×D)}(h:μ a=some (.dct ds))(f):kD μ a f=f ds:=by unfold kD;rw[h]
theorem Ql (μ:Mu)(a:Addr)(ds:List (L2.Key×D))(f:List (L2.Key×D)→Prop):kD (up μ a (.dct ds)) a f=f ds:=LL aH f
theorem Qx {μ:Mu}{a:Addr}{ds:List (L2.Key×D)}{f:List (L2.Key×D)→Prop}(e:μ a=some (.dct ds))(h:f ds):kD μ a f:=by rw[LL e];exact h
theorem Jj (xs:List D)(μ:Mu)(Q:DK):jr Bf [.ls xs] μ Q=(∃ kvs:List (L2.Key×D),xs=kvs.map zB∧kvs.length≤1000000∧∀ p,μ p=none→Q (.obj p) (up μ p (.dct (jV [] kvs)))):=propext Iff.rfl
theorem Ob (i j:Str)(μ:Mu)(Q:DK):Ow (.str i) (.str j) μ Q=Q (.bl (ltS j i)) μ:=propext Iff.rfl
theorem IsPart.of_eq {a b c d x y:Int}(h:IsPart a b x y)(hb:0 < b)(hd:0 < d)(e:a*d=c*b):IsPart c d x y:=by
  have xd:x*d=c*y:=by
    refine Int.eq_of_mul_eq_mul_right (a:=b) (by omega) ?_
    calc x*d*b=(x*b)*d:=by ac_rfl
      _=(a*y)*d:=by rw[h.e]
      _=(a*d)*y:=by ac_rfl
      _=(c*b)*y:=by rw[e]
      _=c*y*b:=by ac_rfl
  have y0:=h.q0
  have dx:x ∣ c:=by
    have:x ∣ y*c:=⟨d,by rw[Int.mul_comm y c];exact xd.symm⟩
    have h':=Int.dvd_gcd_mul_iff_dvd_mul.mpr this
    rw[h.g] at h'
    simpa using h'
  have dy:y ∣ d:=by
    have:y ∣ x*d:=⟨c,by rw[xd,Int.mul_comm]⟩
    have h':=Int.dvd_gcd_mul_iff_dvd_mul.mpr this
    rw[Int.gcd_comm,h.g] at h'
    simpa using h'
  refine ⟨h.q0,h.g,xd,?_,Nat.le_of_dvd (by omega) (Int.natAbs_dvd_natAbs.mpr dy)⟩
  by_cases hc:c=0
  · subst hc
    have:x=0:=by
      rcases Int.mul_eq_zero.mp (show x*d=0 by rw[xd,Int.zero_mul]) with z | z
      · exact z
      · omega
    rw[this];exact Nat.le_refl _
  · exact Nat.le_of_dvd (by omega) (Int.natAbs_dvd_natAbs.mpr dx)
structure Vl (d:D) (a b:Int):Prop where
  ex:∃ p q,d=fr p q∧IsPart a b p q
  b0:0 < b
theorem Vl.of_eq {d:D}{a b a' b':Int}(h:Vl d a b)(hb:0 < b')(e:a*b'=a'*b):Vl d a' b':=by
  obtain ⟨⟨p,q,rfl,P⟩,b0⟩:=h
  exact ⟨⟨p,q,rfl,P.of_eq b0 hb e⟩,hb⟩
theorem Vl.uniq {d d':D}{a b:Int}(h:Vl d a b)(h':Vl d' a b):d=d':=by
  obtain ⟨⟨p,q,rfl,P⟩,b0⟩:=h
  obtain ⟨⟨p',q',rfl,P'⟩,_⟩:=h'
  obtain ⟨rfl,rfl⟩:=P.same P' (by omega) (by omega) rfl
  rfl
theorem MZ (a:Int){b:Int}(b0:0 < b):Vl (.tup [.int (a.fdiv (Int.gcd a b)),.int (b.fdiv (Int.gcd a b))]) a b:=by
  have h:=Bw (a:=a) (b:=b) (by omega)
  rw[if_neg (by omega)] at h
  exact ⟨⟨_,_,rfl,h⟩,b0⟩
theorem iW {lo hi p q:Int}(h:FrB lo hi p q):Vl (fr p q) p q:=⟨⟨p,q,rfl,h.q0,h.g,rfl,Nat.le_refl _,Nat.le_refl _⟩,h.q0⟩
theorem B3 {a b x y:Int}(h:IsPart a b x y)(b0:0 < b):Vl (fr x y) a b:=⟨⟨x,y,rfl,h⟩,b0⟩
theorem LU {p q a b:Int}(g:Int)(q0:0 < q)(b0:0 < b)(e:p*b=a*q):p*g / q=a*g / b:=by
  calc p*g / q=(p*g)*b / (q*b):=(Int.mul_ediv_mul_of_pos_left _ _ b0).symm
    _=(a*g)*q / (b*q):=by rw[show p*g*b=(p*b)*g by ac_rfl,e,Int.mul_comm q b,show a*q*g=a*g*q by ac_rfl]
    _=a*g / b:=Int.mul_ediv_mul_of_pos_left _ _ q0
theorem Pu {p q a b:Int}(q0:0 < q)(b0:0 < b)(e:p*b=a*q):p / q=a / b:=by
  have:=LU 1 q0 b0 e
  simpa using this
theorem Qb {p q r s a b c e:Int}(q0:0 < q)(s0:0 < s)(b0:0 < b)(e0:0 < e)(h1:p*b=a*q)(h2:r*e=c*s):(p*s < r*q)↔(a*e < c*b):=by
  have k1:(p*s)*(b*e)=(a*e)*(q*s):=by
    calc (p*s)*(b*e)=(p*b)*(s*e):=by ac_rfl
      _=(a*q)*(s*e):=by rw[h1]
      _=(a*e)*(q*s):=by ac_rfl
  have k2:(r*q)*(b*e)=(c*b)*(q*s):=by
    calc (r*q)*(b*e)=(r*e)*(q*b):=by ac_rfl
      _=(c*s)*(q*b):=by rw[h2]
      _=(c*b)*(q*s):=by ac_rfl
  have be:0 < b*e:=Int.mul_pos b0 e0
  have qs:0 < q*s:=Int.mul_pos q0 s0
  constructor
  · intro h
    have:=Int.mul_lt_mul_of_pos_right h be
    rw[k1,k2] at this
    exact Int.lt_of_mul_lt_mul_right this (Int.le_of_lt qs)
  · intro h
    have:=Int.mul_lt_mul_of_pos_right h qs
    rw[← k1,← k2] at this
    exact Int.lt_of_mul_lt_mul_right this (Int.le_of_lt be)
def Le (a A:Int):Prop:=-A≤a∧a≤A
theorem Le.mono {a A B:Int}(h:Le a A)(hb:A≤B):Le a B:=⟨by have:=h.1;omega,by have:=h.2;omega⟩
theorem Le.of {a A:Int}(h0:0≤a)(h1:a≤A):Le a A:=⟨by omega,h1⟩
theorem Le.add {a b A B:Int}(h:Le a A)(k:Le b B):Le (a+b) (A+B):=⟨by have:=h.1;have:=k.1;omega,by have:=h.2;have:=k.2;omega⟩
theorem Le.sub {a b A B:Int}(h:Le a A)(k:Le b B):Le (a - b) (A+B):=⟨by have:=h.1;have:=k.2;omega,by have:=h.2;have:=k.1;omega⟩
theorem Le.neg {a A:Int}(h:Le a A):Le (-a) A:=⟨by have:=h.2;omega,by have:=h.1;omega⟩
theorem Le.abs {a A:Int}(h:Le a A):(a.natAbs:Int)≤A:=by have:=h.1;have:=h.2;omega
theorem Le.DZ {a A:Int}(h:(a.natAbs:Int)≤A):Le a A:=⟨by omega,by omega⟩
theorem Le.mul {a b A B:Int}(h:Le a A)(k:Le b B):Le (a*b) (A*B):=by
  refine .DZ ?_
  rw[Int.natAbs_mul,Int.natCast_mul]
  have a0:(0:Int)≤(a.natAbs:Int):=Int.natCast_nonneg _
  have b0:(0:Int)≤(b.natAbs:Int):=Int.natCast_nonneg _
  exact Int.mul_le_mul h.abs k.abs b0 (Int.le_trans a0 h.abs)
abbrev Bd (a:Int):Prop:=Le a 1000000000000000000000000000000
theorem Bd.m {a:Int}(h:Bd a):gE a:=by have:=h.1;have:=h.2;unfold gE;omega
theorem Bd.mm {a b:Int}(h:Bd a)(k:Bd b):gE (a*b):=by
  have:=(h.mul k).1;have:=(h.mul k).2
  unfold gE;omega
theorem Bd.mul {a b:Int}(h:Bd a)(k:Bd b):MulOk a b:=.inr ⟨h.m,k.m⟩
theorem IsPart.bp {a b x y:Int}(h:IsPart a b x y)(ha:Bd a):Bd x:=.DZ (by have:=h.pa;have:=ha.abs;omega)
theorem IsPart.bq {a b x y:Int}(h:IsPart a b x y)(hb:Bd b):Bd y:=.DZ (by have:=h.qb;have:=hb.abs;omega)
inductive Wd | still | step | swell | heed | calm
  deriving DecidableEq
structure RN where
  wd:Wd
  p:Int
  q:Int
  x:Int
  y:Int
  a:Int
  b:Int
  l:Int
  h:Int
  r:Int
  s:Int
def Wd.str:Wd→Str
  | .still=>Str.ofString "still"
  | .step=>Str.ofString "step"
  | .swell=>Str.ofString "swell"
  | .heed=>Str.ofString "heed"
  | .calm=>Str.ofString "calm"
def RN.toD (R:RN):D:=match R.wd with
  | .still=>.tup [.str "still", fr R.p R.q]
  | .step=>.tup [.str "step", fr R.p R.q,fr R.x R.y,fr R.a R.b,fr R.r R.s]
  | .swell=>.tup [.str "swell", fr R.p R.q,fr R.x R.y,fr R.a R.b,fr R.r R.s]
  | .heed=>.tup [.str "heed", fr R.p R.q,fr R.x R.y,fr R.a R.b,fr R.r R.s]
  | .calm=>.tup [.str "calm", fr R.p R.q,fr R.x R.y,.int R.l,.int R.h,fr R.r R.s]
structure RN.Ok (R:RN):Prop where
  w:FrB 1 60 R.p R.q
  t:FrB 1 60 R.r R.s
  wt:R.p*R.s≤R.r*R.q
  u:FrA 0 60 R.x R.y
  u1:R.wd=.swell→R.y < R.x
  g:FrA 0 1 R.a R.b
  d1:R.wd=.step∨R.wd=.swell→R.a < R.b
  l0:0≤R.l
  lh:R.l≤R.h
  h1:R.h≤60
  st:R.wd=.still→R.r=R.p∧R.s=R.q
theorem Hh {lo hi:Int}(h0:lo < 1)(h1:1≤hi):FrA lo hi 1 1:=⟨⟨by decide,by decide,by decide,by omega,by omega⟩,by omega⟩
theorem QP {p q:Int}(h:FrL 1 p q):FrA 0 1 p q:=⟨h.toFrB,by have:=h.ab;omega⟩
structure Hd where
  good:Int
  mark:Int
  a7:Int
  wt:Int
structure Hd.Ok (h:Hd):Prop where
  g0:0≤h.good
  g1:h.good≤1000000
  m0:0≤h.mark
  m1:h.mark≤1000000
  l0:0≤h.a7
  l1:h.a7≤1000000
  w0:0≤h.wt
def Hd.toD (h:Hd):D:=.tup [.int h.good,.int h.mark,.int h.a7,.int h.wt]
def Hd.bad (h:Hd):Int:=h.mark+h.a7
def Hd.many (h:Hd):Int:=h.good+h.bad
def RN.idle (R:RN)(h:Hd):Prop:=R.wd=.still∨h.good+h.mark+h.a7=0
instance (R:RN) (h:Hd):Decidable (R.idle h):=by unfold RN.idle;infer_instance
def RN.cap (R:RN)(g:Int):Int:=R.r*g / R.s
def RN.shr (R:RN)(g S:Int)(h:Hd):Int:=if R.wd=.heed then (S*R.b*h.many+R.a*(h.bad*g - S*h.many)) / (R.b*h.many) else S
def RN.fac (R:RN)(g S:Int)(h:Hd):Option (Int×Int):=match R.wd with
  | .still=>none
  | .calm=>if 0 < h.a7 then some (1,2) else none
  | .heed=>if h.bad=0 then none else some (2*g - S,2*g)
  | .swell=>if h.bad=0 then some (R.x,R.y) else some (R.a,R.b)
  | .step=>if h.bad=0 then none else some (R.a,R.b)
def RN.mvd (R:RN)(g W:Int)(h:Hd):Int:=if R.wd=.calm then (if h.wt < R.l then W*R.y+g*R.x else if R.h < h.wt then W*R.y - g*R.x else W*R.y) else W*R.y+g*R.x
def RN.mv (R:RN)(g W S:Int)(h:Hd):Int:=match R.fac g S h with
  | some f=>W*f.1 / f.2
  | none=>R.mvd g W h / R.y
def RN.clip (R:RN)(g z:Int):Int:=min (max z g) (R.cap g)
def RN.beh (R:RN)(g W S:Int)(h:Hd):Int×Int:=if R.idle h then (W,S) else (R.clip g (R.mv g W (R.shr g S h) h),R.shr g S h)
theorem Ie {R:RN}(k:R.Ok){g:Int}(g0:0 < g):g≤R.cap g:=by
  unfold RN.cap
  rw[Int.le_ediv_iff_mul_le k.t.q0]
  have:=Int.mul_le_mul_of_nonneg_right k.t.ge (show 0≤g by omega)
  have e:g*R.s=1*R.s*g:=by rw[Int.one_mul,Int.mul_comm]
  omega
theorem Fb {R:RN}(k:R.Ok){g:Int}(g0:0 < g):R.cap g≤60*g:=by
  unfold RN.cap
  refine Int.ediv_le_of_le_mul k.t.q0 ?_
  have:=Int.mul_le_mul_of_nonneg_right k.t.le (show 0≤g by omega)
  have e:60*g*R.s=60*R.s*g:=by ac_rfl
  omega
theorem FN {R:RN}(k:R.Ok){g S:Int}{h:Hd}(H:h.Ok)(hn:¬ R.idle h)(g0:0 < g)(S0:0≤S)(S1:S≤g):0≤R.shr g S h∧R.shr g S h≤g:=by
  unfold RN.shr
  split
  · rename_i hw
    have m0:0 < h.many:=by
      unfold RN.idle at hn
      unfold Hd.many Hd.bad
      have:=H.g0;have:=H.m0;have:=H.l0
      have:¬ (h.good+h.mark+h.a7=0):=fun z=>hn (.inr z)
      omega
    have bb:h.bad≤h.many:=by unfold Hd.many;have:=H.g0;omega
    have b0:0≤h.bad:=by unfold Hd.bad;have:=H.m0;have:=H.l0;omega
    have q0:=k.g.q0
    have a0:0 < R.a:=by have:=k.g.ab;omega
    have ab:R.a≤R.b:=by have:=k.g.le;omega
    have Y:0 < R.b*h.many:=Int.mul_pos q0 m0
    have e:S*R.b*h.many+R.a*(h.bad*g - S*h.many)=(R.b - R.a)*(S*h.many)+R.a*(h.bad*g):=by
      rw[Int.mul_sub,Int.sub_mul,show S*R.b*h.many=R.b*(S*h.many) by ac_rfl];omega
    have z1:0≤(R.b - R.a)*(S*h.many):=Int.mul_nonneg (by omega) (Int.mul_nonneg S0 (by omega))
    have z2:0≤R.a*(h.bad*g):=Int.mul_nonneg (by omega) (Int.mul_nonneg b0 (by omega))
    have z3:(R.b - R.a)*(S*h.many)≤(R.b - R.a)*(g*h.many):=Int.mul_le_mul_of_nonneg_left (Int.mul_le_mul_of_nonneg_right S1 (by omega)) (by omega)
    have z4:R.a*(h.bad*g)≤R.a*(h.many*g):=Int.mul_le_mul_of_nonneg_left (Int.mul_le_mul_of_nonneg_right bb (by omega)) (by omega)
    have e2:(R.b - R.a)*(g*h.many)+R.a*(h.many*g)=g*(R.b*h.many):=by
      rw[Int.sub_mul,show R.b*(g*h.many)=g*(R.b*h.many) by ac_rfl,show R.a*(h.many*g)=R.a*(g*h.many) by ac_rfl];omega
    rw[e]
    exact ⟨Int.ediv_nonneg (by omega) (by omega),Int.ediv_le_of_le_mul Y (by omega)⟩
  · exact ⟨S0,S1⟩
local macro_rules | `(tactic| walk_at "rd")=>`(tactic| try simp only[ah,TC,aj,TUn,HB,zP,DQ,TB,pH,TOr,OB,lR,yq,ar,af,bw,fX,me,aq,bx,aB,Ah,GP,fN,aY,Fl,bY,aw,aP,qh,AD,kg,gG,eL,bW,fM,fu,fo,Qf,ILs,
  El,Ha,FZ,Eb,Fj,Aq,oo,y4,GO,Aw,uE,Bm,pw,uH,uC,tN,uZ,mf,iX,uS,qf,pj,pT,pR,qH,qr,qT,ql,pX,TSl,ONo,lH,Hl,Gp,EA,Hb,Ec,EO,AI,zX,Ho,Eg,GS,qd,qi,pB,zU,yR,Ak,Aj,yM,zc,zJ,Ar,zk,FA,Ei,Gh,Gq,HU,Fg,qR,FL,F7,zy,yY,yC,yy,yr,yO,zg,zu,yU,yF,
  lk,ini,List.map,List.length,List.replicate,List.append,List.set,List.cons_append,List.nil_append,Nat.sub_self,Nat.reduceSub,Nat.reduceAdd,
  sQ,xf,A5,B8,Bn,Bk,List.getElem?_cons_zero,List.getElem?_cons_succ,aH,iq,Nat.reduceLT,Nat.reduceLeDiff,if_true,if_false,true_and,and_true,Bool.not_true,Bool.not_false,Nat.lt_add_one,Nat.zero_lt_succ,Nat.succ_lt_succ_iff,Nat.zero_lt_one,
  decide_eq_true_eq,Bool.false_eq_true,ite_false,ite_true,ne_eq,not_false_eq_true,Int.reduceToNat,Int.reducePow,Int.reduceNeg,Int.reduceSub,Int.reduceAdd,Int.reduceMul,Int.reduceEq,okD,dB,eqD,rP,Bool.and_self,Bool.and_true,Bool.true_and,eM,jt,decide_true,decide_false,Bool.or_true,Bool.or_false,Bool.true_or,Bool.false_or,Bool.and_false,Bool.false_and,and_self,cq,bV,cy,cw,cB,cD,cV,cT,bU,cu,cE,cA,cv,cW,cC,cR,cF,cQ,cz,cP,iS,mi,pA,mG,qx,qY,fU,fQ,fP,fW,fY,gf,fR])
def gR:FSp:=fun ds μ Q=>match ds with
  | [d1,d2]=>∃ a b c e,((Vl d1 a b∧Vl d2 c e)∧Bd a∧Bd b∧Bd c∧Bd e)∧∀ z,Vl z (a*e+c*b) (b*e)→Q z μ
  | _=>False
theorem G9:∀ ds μ Q,gR ds μ Q→ds.length=2:=by
  unfold gR
  walk_at "ln"
def Fy:STr:=aY (aq fB (af (aj aR (aj eO (aj L3.rIx (ah 0) (TC (.int 0))) (aj L3.rIx (ah 1) (TC (.int 1)))) (aj eO (aj L3.rIx (ah 1) (TC (.int 0))) (aj L3.rIx (ah 0) (TC (.int 1))))) (af (aj eO (aj L3.rIx (ah 0) (TC (.int 1))) (aj L3.rIx (ah 1) (TC (.int 1)))) (ar))))
theorem K3:∀ ds μ Q,gR ds μ Q→Fy { nx:=fun _ μ'=>RT Q .non μ',rt:=RT Q } (ini 2 ds) μ:=by
  intro ds μ Q h
  unfold gR at h
  split at h
  case h_2=>exact h.elim
  rename_i d1 d2
  unfold Fy
  walk_at "rd"
  obtain ⟨a,b,c,e,⟨⟨V1,V2⟩,Ba,Bb,Bc,Be⟩,k⟩:=h
  obtain ⟨⟨p,q,rfl,P⟩,b0⟩:=V1
  obtain ⟨⟨r,s,rfl,S⟩,e0⟩:=V2
  have q0:=P.q0
  have s0:=S.q0
  have be:0 < b*e:=Int.mul_pos b0 e0
  have qs:0 < q*s:=Int.mul_pos q0 s0
  have Bp:=P.bp Ba
  have Bq:=P.bq Bb
  have Br:=S.bp Bc
  have Bs:=S.bq Be
  walk_at "rd"
  refine ⟨Bp.mul Bs,Br.mul Bq,Bq.mul Bs,⟨by omega,Bq.mm Bs⟩,fun x y Pt=>⟨_,.refl _,k _ ⟨⟨x,y,rfl,Pt.of_eq qs be ?_⟩,be⟩⟩⟩
  calc (p*s+r*q)*(b*e)=(p*b)*(s*e)+(r*e)*(q*b):=by rw[Int.add_mul];congr 1<;>ac_rfl
    _=(a*q)*(s*e)+(c*s)*(q*b):=by rw[P.e,S.e]
    _=(a*e+c*b)*(q*s):=by rw[Int.add_mul];congr 1<;>ac_rfl
def fG:FSp:=fun ds μ Q=>match ds with
  | [d1,d2]=>∃ a b c e,((Vl d1 a b∧Vl d2 c e)∧Bd a∧Bd b∧Bd c∧Bd e)∧∀ z,Vl z (a*e - c*b) (b*e)→Q z μ
  | _=>False
theorem Cz:∀ ds μ Q,fG ds μ Q→ds.length=2:=by
  unfold fG
  walk_at "ln"
def Bo:STr:=aY (aq fB (af (aj kj (aj eO (aj L3.rIx (ah 0) (TC (.int 0))) (aj L3.rIx (ah 1) (TC (.int 1)))) (aj eO (aj L3.rIx (ah 1) (TC (.int 0))) (aj L3.rIx (ah 0) (TC (.int 1))))) (af (aj eO (aj L3.rIx (ah 0) (TC (.int 1))) (aj L3.rIx (ah 1) (TC (.int 1)))) (ar))))
theorem HR:∀ ds μ Q,fG ds μ Q→Bo { nx:=fun _ μ'=>RT Q .non μ',rt:=RT Q } (ini 2 ds) μ:=by
  intro ds μ Q h
  unfold fG at h
  split at h
  case h_2=>exact h.elim
  rename_i d1 d2
  unfold Bo
  walk_at "rd"
  obtain ⟨a,b,c,e,⟨⟨V1,V2⟩,Ba,Bb,Bc,Be⟩,k⟩:=h
  obtain ⟨⟨p,q,rfl,P⟩,b0⟩:=V1
  obtain ⟨⟨r,s,rfl,S⟩,e0⟩:=V2
  have q0:=P.q0
  have s0:=S.q0
  have be:0 < b*e:=Int.mul_pos b0 e0
  have qs:0 < q*s:=Int.mul_pos q0 s0
  have Bp:=P.bp Ba
  have Bq:=P.bq Bb
  have Br:=S.bp Bc
  have Bs:=S.bq Be
  walk_at "rd"
  refine ⟨Bp.mul Bs,Br.mul Bq,Bq.mul Bs,⟨by omega,Bq.mm Bs⟩,fun x y Pt=>⟨_,.refl _,k _ ⟨⟨x,y,rfl,Pt.of_eq qs be ?_⟩,be⟩⟩⟩
  calc (p*s - r*q)*(b*e)=(p*b)*(s*e) - (r*e)*(q*b):=by rw[Int.sub_mul];congr 1<;>ac_rfl
    _=(a*q)*(s*e) - (c*s)*(q*b):=by rw[P.e,S.e]
    _=(a*e - c*b)*(q*s):=by rw[Int.sub_mul];congr 1<;>ac_rfl
def fE:FSp:=fun ds μ Q=>match ds with
  | [d1,d2]=>∃ a b c e,((Vl d1 a b∧Vl d2 c e)∧Bd a∧Bd b∧Bd c∧Bd e)∧∀ z,Vl z (a*c) (b*e)→Q z μ
  | _=>False
theorem CZ:∀ ds μ Q,fE ds μ Q→ds.length=2:=by
  unfold fE
  walk_at "ln"
def BK:STr:=aY (aq fB (af (aj eO (aj L3.rIx (ah 0) (TC (.int 0))) (aj L3.rIx (ah 1) (TC (.int 0)))) (af (aj eO (aj L3.rIx (ah 0) (TC (.int 1))) (aj L3.rIx (ah 1) (TC (.int 1)))) (ar))))
theorem Hf:∀ ds μ Q,fE ds μ Q→BK { nx:=fun _ μ'=>RT Q .non μ',rt:=RT Q } (ini 2 ds) μ:=by
  intro ds μ Q h
  unfold fE at h
  split at h
  case h_2=>exact h.elim
  rename_i d1 d2
  unfold BK
  walk_at "rd"
  obtain ⟨a,b,c,e,⟨⟨V1,V2⟩,Ba,Bb,Bc,Be⟩,k⟩:=h
  obtain ⟨⟨p,q,rfl,P⟩,b0⟩:=V1
  obtain ⟨⟨r,s,rfl,S⟩,e0⟩:=V2
  have q0:=P.q0
  have s0:=S.q0
  have be:0 < b*e:=Int.mul_pos b0 e0
  have qs:0 < q*s:=Int.mul_pos q0 s0
  have Bp:=P.bp Ba
  have Bq:=P.bq Bb
  have Br:=S.bp Bc
  have Bs:=S.bq Be
  walk_at "rd"
  refine ⟨Bp.mul Br,Bq.mul Bs,⟨by omega,Bq.mm Bs⟩,fun x y Pt=>⟨_,.refl _,k _ ⟨⟨x,y,rfl,Pt.of_eq qs be ?_⟩,be⟩⟩⟩
  calc (p*r)*(b*e)=(p*b)*(r*e):=by ac_rfl
    _=(a*q)*(c*s):=by rw[P.e,S.e]
    _=(a*c)*(q*s):=by ac_rfl
def iQ:FSp:=fun ds μ Q=>match ds with
  | [d1,d2]=>∃ a b c e,((Vl d1 a b∧Vl d2 c e)∧Bd a∧Bd b∧Bd c∧Bd e)∧Q (.bl (decide (a*e < c*b))) μ
  | _=>False
theorem EK:∀ ds μ Q,iQ ds μ Q→ds.length=2:=by
  unfold iQ
  walk_at "ln"
def F4:STr:=aY (aj rLt (aj eO (aj L3.rIx (ah 0) (TC (.int 0))) (aj L3.rIx (ah 1) (TC (.int 1)))) (aj eO (aj L3.rIx (ah 1) (TC (.int 0))) (aj L3.rIx (ah 0) (TC (.int 1)))))
theorem Lu:∀ ds μ Q,iQ ds μ Q→F4 { nx:=fun _ μ'=>RT Q .non μ',rt:=RT Q } (ini 2 ds) μ:=by
  intro ds μ Q h
  unfold iQ at h
  split at h
  case h_2=>exact h.elim
  rename_i d1 d2
  unfold F4
  walk_at "rd"
  obtain ⟨a,b,c,e,⟨⟨V1,V2⟩,Ba,Bb,Bc,Be⟩,k⟩:=h
  obtain ⟨⟨p,q,rfl,P⟩,b0⟩:=V1
  obtain ⟨⟨r,s,rfl,S⟩,e0⟩:=V2
  walk_at "rd"
  refine ⟨(P.bp Ba).mul (S.bq Be),(S.bp Bc).mul (P.bq Bb),_,.refl _,?_⟩
  rw[show decide (p*s < r*q)=decide (a*e < c*b) from decide_eq_decide.mpr (Qb P.q0 S.q0 b0 e0 P.e S.e)]
  exact k
def eE:FSp:=fun ds μ Q=>match ds with
  | [d1]=>∃ a b,(Vl d1 a b∧Bd b)∧Q (.int (a / b)) μ
  | _=>False
theorem tV:∀ ds μ Q,eE ds μ Q→ds.length=1:=by
  unfold eE
  walk_at "ln"
def pk:STr:=aY (aj l6 (aj L3.rIx (ah 0) (TC (.int 0))) (aj L3.rIx (ah 0) (TC (.int 1))))
theorem xn:∀ ds μ Q,eE ds μ Q→pk { nx:=fun _ μ'=>RT Q .non μ',rt:=RT Q } (ini 1 ds) μ:=by
  intro ds μ Q h
  unfold eE at h
  split at h
  case h_2=>exact h.elim
  rename_i d1
  unfold pk
  walk_at "rd"
  obtain ⟨a,b,⟨⟨⟨p,q,rfl,P⟩,b0⟩,Bb⟩,k⟩:=h
  have q0:=P.q0
  walk_at "rd"
  rw[jF q0,Pu q0 b0 P.e]
  exact ⟨⟨by omega,(P.bq Bb).m⟩,_,.refl _,k⟩
def dm:FSp:=fun ds μ Q=>match ds with
  | [d1,.int g]=>∃ a b,(Vl d1 a b∧Bd a∧Bd b∧0 < g∧g≤1000000)∧∀ z,Vl z (a*g / b) g→Q z μ
  | _=>False
theorem Au:∀ ds μ Q,dm ds μ Q→ds.length=2:=by
  unfold dm
  walk_at "ln"
def xE:STr:=aY (aq fB (af (aj l6 (aj eO (aj L3.rIx (ah 0) (TC (.int 0))) (ah 1)) (aj L3.rIx (ah 0) (TC (.int 1)))) (af (ah 1) (ar))))
theorem CB:∀ ds μ Q,dm ds μ Q→xE { nx:=fun _ μ'=>RT Q .non μ',rt:=RT Q } (ini 2 ds) μ:=by
  intro ds μ Q h
  unfold dm at h
  split at h
  case h_2=>exact h.elim
  rename_i d1 g
  unfold xE
  walk_at "rd"
  obtain ⟨a,b,⟨⟨⟨p,q,rfl,P⟩,b0⟩,Ba,Bb,g0,g1⟩,k⟩:=h
  have q0:=P.q0
  walk_at "rd"
  rw[jF q0,LU g q0 b0 P.e]
  exact ⟨.inl (.inr (by unfold S64;omega)),⟨by omega,(P.bq Bb).m⟩,⟨by omega,by unfold gE;omega⟩,fun x y Pt=>⟨_,.refl _,k _ (B3 Pt g0)⟩⟩
theorem GG {xs:List D}{d:D}(h:xs[xs.length - 1]? = some d)(h0:xs≠[]):atD xs ((xs.length:Int) - 1)=some d:=by
  have:0 < xs.length:=List.length_pos_iff.mpr h0
  have e:((xs.length:Int) - 1)=((xs.length - 1:Nat):Int):=by omega
  rw[e,cj,h]
theorem RN.tup (R:RN)(hst:R.wd=.still→R.r=R.p∧R.s=R.q):∃ xs,R.toD=.tup xs∧xs[0]? = some (.str R.wd.str)∧xs[1]? = some (fr R.p R.q)∧xs[xs.length - 1]? = some (fr R.r R.s)∧xs≠[]:=by
  obtain ⟨wd,p,q,x,y,a,b,l,h,r,s⟩:=R
  cases wd
  · obtain ⟨e1,e2⟩:=hst rfl
    dsimp only at e1 e2
    subst e1 e2
    exact ⟨_,rfl,rfl,rfl,rfl,nofun⟩
  all_goals exact ⟨_,rfl,rfl,rfl,rfl,nofun⟩
def ft:FSp:=fun ds μ Q=>match ds with
  | [d]=>∃ R:RN,(R.Ok∧d=R.toD)∧Q (fr R.r R.s) μ
  | _=>False
theorem zG:∀ ds μ Q,ft ds μ Q→ds.length=1:=by
  unfold ft
  walk_at "ln"
def vT:STr:=aY (aj L3.rIx (ah 0) (aj kj (aq dZ (af (ah 0) (ar))) (TC (.int 1))))
theorem Dz:∀ ds μ Q,ft ds μ Q→vT { nx:=fun _ μ'=>RT Q .non μ',rt:=RT Q } (ini 1 ds) μ:=by
  intro ds μ Q h
  unfold ft at h
  split at h
  case h_2=>exact h.elim
  rename_i d
  unfold vT
  walk_at "rd"
  obtain ⟨R,⟨K,rfl⟩,k⟩:=h
  obtain ⟨xs,e,_,_,e3,e4⟩:=R.tup K.st
  rw[e]
  walk_at "rd"
  rw[GG e3 e4]
  exact ⟨_,.refl _,k⟩
def fj:FSp:=fun ds μ Q=>match ds with
  | [d,e]=>∃ (R:RN) (h:Hd),(d=R.toD∧e=h.toD)∧Q (.bl (decide (R.idle h))) μ
  | _=>False
theorem wV:∀ ds μ Q,fj ds μ Q→ds.length=2:=by
  unfold fj
  walk_at "ln"
def tE:STr:=aY (zP (aj rEq (aj L3.rIx (ah 0) (TC (.int 0))) (TC (.str "still"))) (aj rEq (aj aR (aj aR (aj L3.rIx (ah 1) (TC (.int 0))) (aj L3.rIx (ah 1) (TC (.int 1)))) (aj L3.rIx (ah 1) (TC (.int 2)))) (TC (.int 0))))
theorem yz:∀ ds μ Q,fj ds μ Q→tE { nx:=fun _ μ'=>RT Q .non μ',rt:=RT Q } (ini 2 ds) μ:=by
  intro ds μ Q h
  unfold fj at h
  split at h
  case h_2=>exact h.elim
  rename_i d e
  unfold tE
  walk_at "rd"
  obtain ⟨R,h,⟨rfl,rfl⟩,k⟩:=h
  obtain ⟨wd,p,q,x,y,a,b,l,hh,r,s⟩:=R
  obtain ⟨good,mark,a7,wt⟩:=h
  unfold RN.idle at k
  cases wd
  all_goals
    simp only[RN.toD,Hd.toD,fr]
    walk_at "rd"
    refine ⟨_,.refl _,?_⟩
    simpa using k
def Gd (g:Int):Prop:=1≤g∧g≤60
theorem EN {R:RN}{h:Hd}(H:h.Ok)(hn:¬ R.idle h):0 < h.many∧h.many≤3000000:=by
  have:=H.g0;have:=H.m0;have:=H.l0;have:=H.g1;have:=H.m1;have:=H.l1
  have:¬ (h.good+h.mark+h.a7=0):=fun z=>hn (.inr z)
  unfold Hd.many Hd.bad
  omega
theorem FrB.bd {lo hi p q:Int}(h:FrB lo hi p q)(l0:0≤lo)(h1:hi≤60):Le p 600000120∧Le q 10000002:=by
  have:=h.q0;have:=h.q1
  have e1:=h.ge;have e2:=h.le
  have a1:0≤lo*q:=Int.mul_nonneg l0 (by omega)
  have a2:hi*q≤60*q:=Int.mul_le_mul_of_nonneg_right h1 (by omega)
  exact ⟨.of (by omega) (by omega),.of (by omega) (by omega)⟩
theorem zr {R:RN}{g S:Int}{h:Hd}(hw:R.wd=.heed)(g0:0 < g)(Y:0 < R.b*h.many):(S*(R.b*(h.many*g))+R.a*(h.bad*g - S*h.many)*g)*g / (g*(R.b*(h.many*g)))=R.shr g S h:=by
  unfold RN.shr
  rw[if_pos hw]
  have e1:(S*(R.b*(h.many*g))+R.a*(h.bad*g - S*h.many)*g)*g=(S*R.b*h.many+R.a*(h.bad*g - S*h.many))*(g*g):=by
    rw[Int.add_mul,Int.add_mul];congr 1<;>ac_rfl
  have e2:g*(R.b*(h.many*g))=(R.b*h.many)*(g*g):=by ac_rfl
  rw[e1,e2]
  exact Int.mul_ediv_mul_of_pos_left _ _ (Int.mul_pos g0 g0)
def b7:FSp:=fun ds μ Q=>match ds with
  | [d,.int g,sd,e]=>∃ (R:RN) (S:Int) (h:Hd),((d=R.toD∧e=h.toD)∧R.Ok∧h.Ok∧Gd g∧Vl sd S g∧(0≤S∧S≤g)∧¬ R.idle h)∧∀ z,Vl z (R.shr g S h) g→Q z μ
  | _=>False
theorem ma:∀ ds μ Q,b7 ds μ Q→ds.length=4:=by
  unfold b7
  walk_at "ln"
def jA:STr:=aB (bY (TB (aj rNe (aj L3.rIx (ah 0) (TC (.int 0))) (TC (.str "heed")))) (aY (ah 2)) (bx)) (aB (aP (aj aR (aj L3.rIx (ah 3) (TC (.int 1))) (aj L3.rIx (ah 3) (TC (.int 2)))) (aw 4)) (aB (aP (aq fE (af (aj L3.rIx (ah 0) (TC (.int 3))) (af (aq fG (af (aq fB (af (ah 4) (af (aj aR (aj L3.rIx (ah 3) (TC (.int 0))) (ah 4)) (ar)))) (af (ah 2) (ar)))) (ar)))) (aw 5)) (aY (aq dm (af (aq gR (af (ah 2) (af (ah 5) (ar)))) (af (ah 1) (ar)))))))
theorem nM:∀ ds μ Q,b7 ds μ Q→jA { nx:=fun _ μ'=>RT Q .non μ',rt:=RT Q } (ini 6 ds) μ:=by
  intro ds μ Q h
  unfold b7 at h
  split at h
  case h_2=>exact h.elim
  rename_i d g sd e
  unfold jA
  walk_at "rd"
  obtain ⟨R,S,h,⟨⟨rfl,rfl⟩,K,H,⟨g0,g1⟩,VS,⟨S0,S1⟩,hn⟩,k⟩:=h
  obtain ⟨m0,m1⟩:=EN H hn
  have hb0:=H.m0;have hb1:=H.m1;have hc0:=H.l0;have hc1:=H.l1;have hg0:=H.g0;have hg1:=H.g1
  have GB:=K.g.toFrB.bd (by decide) (by decide)
  have gp:=K.g.q0
  obtain ⟨wd,p,q,x,y,a,b,l,hh,r,s⟩:=R
  cases wd
  case heed=>
    have sh:=fun Y=>zr (R:=⟨.heed,p,q,x,y,a,b,l,hh,r,s⟩) (g:=g) (S:=S) (h:=h) rfl (by omega) Y
    have k':=k
    generalize RN.shr ⟨.heed,p,q,x,y,a,b,l,hh,r,s⟩ g S h=Z at sh k'
    dsimp only at sh GB gp
    obtain ⟨good,mark,a7,wt⟩:=h
    simp only[Hd.many,Hd.bad] at sh m0 m1
    dsimp only at m0 m1 hb0 hb1 hc0 hc1 hg0 hg1
    simp only[RN.toD,Hd.toD,fr]
    walk_at "rd"
    have L1:Le (mark+a7) 2000000:=.of (by omega) (by omega)
    have L2:Le (good+(mark+a7)) 3000000:=.of (by omega) (by omega)
    have LS:Le S 60:=.of S0 (by omega)
    have Lg:Le g 60:=.of (by omega) g1
    have e1:=L1.mul Lg
    have e2:=LS.mul L2
    have e3:=L2.mul Lg
    have e4:=e1.sub e2
    have e5:=GB.1.mul e4
    have e6:=GB.2.mul e3
    have mg:0 < (good+(mark+a7))*g:=Int.mul_pos m0 (by omega)
    refine ⟨⟨by omega,Bd.m (L2.mono (by decide))⟩,fun u v Pt=>⟨_,_,_,_,⟨⟨B3 Pt m0,VS⟩,L1.mono (by decide),L2.mono (by decide),LS.mono (by decide),Lg.mono (by decide)⟩,fun z1 V1=>?_⟩⟩
    refine ⟨a,b,_,_,⟨⟨iW K.g.toFrB,V1⟩,GB.1.mono (by decide),GB.2.mono (by decide),e4.mono (by decide),e3.mono (by decide)⟩,fun z2 V2=>?_⟩
    walk_at "rd"
    refine ⟨_,_,_,_,⟨⟨VS,V2⟩,LS.mono (by decide),Lg.mono (by decide),e5.mono (by decide),e6.mono (by decide)⟩,fun z3 V3=>?_⟩
    refine ⟨_,_,⟨V3,((LS.mul e6).add (e5.mul Lg)).mono (by decide),(Lg.mul e6).mono (by decide),by omega,by omega⟩,fun z V=>⟨_,.refl _,k' z ?_⟩⟩
    rw[sh (Int.mul_pos gp m0)] at V
    exact V
  all_goals
    simp only[RN.toD,Hd.toD,fr]
    walk_at "rd"
    refine ⟨_,.refl _,k _ ?_⟩
    exact VS
def dr:FSp:=fun ds μ Q=>match ds with
  | [d,sd,e]=>∃ (R:RN) (g S:Int) (h:Hd),((d=R.toD∧e=h.toD)∧R.Ok∧h.Ok∧Gd g∧Vl sd S g∧(0≤S∧S≤g)∧¬ R.idle h)∧(R.fac g S h=none→Q .non μ)∧∀ f,R.fac g S h=some f→∀ z,Vl z f.1 f.2→Q z μ
  | _=>False
theorem rJ:∀ ds μ Q,dr ds μ Q→ds.length=3:=by
  unfold dr
  walk_at "ln"
def mW:STr:=aB (bY (TB (aj rEq (aj L3.rIx (ah 0) (TC (.int 0))) (TC (.str "calm")))) (aY (lR (TB (aj rGt (aj L3.rIx (ah 2) (TC (.int 2))) (TC (.int 0)))) (TC (.tup [.int 1,.int 2])) (TC .non))) (bx)) (aB (bY (TB (aj rEq (aj aR (aj L3.rIx (ah 2) (TC (.int 1))) (aj L3.rIx (ah 2) (TC (.int 2)))) (TC (.int 0)))) (aY (lR (TB (aj rEq (aj L3.rIx (ah 0) (TC (.int 0))) (TC (.str "swell")))) (aj L3.rIx (ah 0) (TC (.int 2))) (TC .non))) (bx)) (aB (bY (TB (aj rEq (aj L3.rIx (ah 0) (TC (.int 0))) (TC (.str "heed")))) (aY (aq fG (af (TC (.tup [.int 1,.int 1])) (af (aq fE (af (TC (.tup [.int 1,.int 2])) (af (ah 1) (ar)))) (ar))))) (bx)) (aY (aj L3.rIx (ah 0) (TC (.int 3))))))
theorem ug:∀ ds μ Q,dr ds μ Q→mW { nx:=fun _ μ'=>RT Q .non μ',rt:=RT Q } (ini 3 ds) μ:=by
  intro ds μ Q h
  unfold dr at h
  split at h
  case h_2=>exact h.elim
  rename_i d sd e
  unfold mW
  walk_at "rd"
  obtain ⟨R,g,S,h,⟨⟨rfl,rfl⟩,K,H,⟨g0,g1⟩,VS,⟨S0,S1⟩,hn⟩,k1,k2⟩:=h
  have hb0:=H.m0;have hb1:=H.m1;have hc0:=H.l0;have hc1:=H.l1;have hg0:=H.g0;have hg1:=H.g1
  have VG:=iW K.g.toFrB
  have VU:=iW K.u.toFrB
  have LS:Le S 60:=.of S0 (by omega)
  have Lg:Le g 60:=.of (by omega) g1
  have V12:Vl (fr 1 2) 1 2:=iW (lo:=0) (hi:=1) ⟨by decide,by decide,by decide,by decide,by decide⟩
  have V11:Vl (fr 1 1) 1 1:=iW (Hh (lo:=0) (hi:=1) (by decide) (by decide)).toFrB
  obtain ⟨wd,p,q,x,y,a,b,l,hh,r,s⟩:=R
  obtain ⟨good,mark,a7,wt⟩:=h
  dsimp only at hb0 hb1 hc0 hc1 hg0 hg1 VG VU
  simp only[RN.fac,Hd.bad] at k1 k2
  cases wd
  case still=>exact absurd (Or.inl rfl) hn
  case calm=>
    simp only[RN.toD,Hd.toD,fr]
    walk_at "rd"
    split
    · rename_i hl
      exact ⟨_,.refl _,k2 (1,2) (if_pos hl) _ V12⟩
    · rename_i hl
      exact ⟨_,.refl _,k1 (if_neg hl)⟩
  case heed=>
    simp only[RN.toD,Hd.toD,fr]
    walk_at "rd"
    split
    · rename_i hl
      exact ⟨_,.refl _,k1 (if_pos hl)⟩
    · rename_i hl
      refine ⟨1,2,S,g,⟨⟨V12,VS⟩,.of (by decide) (by decide),.of (by decide) (by decide),LS.mono (by decide),Lg.mono (by decide)⟩,fun z1 V1=>?_⟩
      refine ⟨1,1,_,_,⟨⟨V11,V1⟩,.of (by decide) (by decide),.of (by decide) (by decide),?_,?_⟩,fun z2 V2=>⟨_,.refl _,k2 (2*g - S,2*g) (if_neg hl) _ ?_⟩⟩
      · rw[Int.one_mul];exact LS.mono (by decide)
      · exact .of (by omega) (by omega)
      · simpa using V2
  case step=>
    simp only[RN.toD,Hd.toD,fr]
    walk_at "rd"
    split
    · rename_i hl
      exact ⟨_,.refl _,k1 (if_pos hl)⟩
    · rename_i hl
      exact ⟨_,.refl _,k2 (a,b) (if_neg hl) _ VG⟩
  case swell=>
    simp only[RN.toD,Hd.toD,fr]
    walk_at "rd"
    split
    · rename_i hl
      exact ⟨_,.refl _,k2 (x,y) (if_pos hl) _ VU⟩
    · rename_i hl
      exact ⟨_,.refl _,k2 (a,b) (if_neg hl) _ VG⟩
def h9:FSp:=fun ds μ Q=>match ds with
  | [d,wd,e]=>∃ (R:RN) (g W:Int) (h:Hd),((d=R.toD∧e=h.toD)∧R.Ok∧Gd g∧Vl wd W g∧Le W 1000000∧¬ R.idle h)∧∀ z,Vl z (R.mvd g W h) (g*R.y)→Q z μ
  | _=>False
theorem Ci:∀ ds μ Q,h9 ds μ Q→ds.length=3:=by
  unfold h9
  walk_at "ln"
def B0:STr:=aB (bY (TOr (TB (aj rNe (aj L3.rIx (ah 0) (TC (.int 0))) (TC (.str "calm")))) (TB (aj rLt (aj L3.rIx (ah 2) (TC (.int 3))) (aj L3.rIx (ah 0) (TC (.int 3)))))) (aY (aq gR (af (ah 1) (af (aj L3.rIx (ah 0) (TC (.int 2))) (ar))))) (bx)) (aB (bY (TB (aj rGt (aj L3.rIx (ah 2) (TC (.int 3))) (aj L3.rIx (ah 0) (TC (.int 4))))) (aY (aq fG (af (ah 1) (af (aj L3.rIx (ah 0) (TC (.int 2))) (ar))))) (bx)) (aY (ah 1)))
theorem Gb:∀ ds μ Q,h9 ds μ Q→B0 { nx:=fun _ μ'=>RT Q .non μ',rt:=RT Q } (ini 3 ds) μ:=by
  intro ds μ Q h
  unfold h9 at h
  split at h
  case h_2=>exact h.elim
  rename_i d wd e
  unfold B0
  walk_at "rd"
  obtain ⟨R,g,W,h,⟨⟨rfl,rfl⟩,K,⟨g0,g1⟩,VW,LW,hn⟩,k⟩:=h
  have VU:=iW K.u.toFrB
  have UB:=K.u.toFrB.bd (by decide) (by decide)
  have y0:=K.u.q0
  have Lg:Le g 60:=.of (by omega) g1
  obtain ⟨wd',p,q,x,y,a,b,l,hh,r,s⟩:=R
  obtain ⟨good,mark,a7,wt⟩:=h
  dsimp only at VU UB y0
  simp only[RN.mvd] at k
  have up:∀ Q':DK,(∀ z,Vl z (W*y+g*x) (g*y)→Q' z μ)→gR [wd,fr x y] μ Q':=fun Q' kk=>
    ⟨W,g,x,y,⟨⟨VW,VU⟩,LW.mono (by decide),Lg.mono (by decide),UB.1.mono (by decide),UB.2.mono (by decide)⟩,fun z V=>kk z (by rw[Int.mul_comm g x];exact V)⟩
  cases wd'
  case still=>exact absurd (Or.inl rfl) hn
  case calm=>
    simp only[if_true] at k
    simp only[RN.toD,Hd.toD,fr]
    walk_at "rd"
    split
    · rename_i hl
      rw[if_pos hl] at k
      exact up _ fun z V=>⟨_,.refl _,k z V⟩
    · rename_i hl
      rw[if_neg hl] at k
      split
      · rename_i hm
        rw[if_pos hm] at k
        exact ⟨W,g,x,y,⟨⟨VW,VU⟩,LW.mono (by decide),Lg.mono (by decide),UB.1.mono (by decide),UB.2.mono (by decide)⟩,fun z V=>⟨_,.refl _,k z (by rw[Int.mul_comm g x];exact V)⟩⟩
      · rename_i hm
        rw[if_neg hm] at k
        exact ⟨_,.refl _,k _ (VW.of_eq (Int.mul_pos (by omega) y0) (by ac_rfl))⟩
  all_goals
    simp only[reduceCtorEq,if_false] at k
    simp only[RN.toD,Hd.toD,fr]
    walk_at "rd"
    exact up _ fun z V=>⟨_,.refl _,k z V⟩
def iE:FSp:=fun ds μ Q=>match ds with
  | [d,.int g,wd]=>∃ (R:RN) (N M:Int),(d=R.toD∧R.Ok∧Gd g∧Vl wd N M∧Bd N∧Bd M)∧∀ z,Vl z (R.clip g (N*g / M)) g→Q z μ
  | _=>False
theorem Fd:∀ ds μ Q,iE ds μ Q→ds.length=3:=by
  unfold iE
  walk_at "ln"
def EV:STr:=aB (bY (TB (aq iQ (af (ah 2) (af (TC (.tup [.int 1,.int 1])) (ar))))) (aY (TC (.tup [.int 1,.int 1]))) (bx)) (aB (bY (TB (aq iQ (af (aq ft (af (ah 0) (ar))) (af (ah 2) (ar))))) (aY (aq dm (af (aq ft (af (ah 0) (ar))) (af (ah 1) (ar))))) (bx)) (aY (aq dm (af (ah 2) (af (ah 1) (ar))))))
theorem JQ:∀ ds μ Q,iE ds μ Q→EV { nx:=fun _ μ'=>RT Q .non μ',rt:=RT Q } (ini 3 ds) μ:=by
  intro ds μ Q h
  unfold iE at h
  split at h
  case h_2=>exact h.elim
  rename_i d g wd
  unfold EV
  walk_at "rd"
  obtain ⟨R,N,M,⟨rfl,K,⟨g0,g1⟩,V,BN,BM⟩,k⟩:=h
  have M0:=V.b0
  have V11:Vl (fr 1 1) 1 1:=iW (Hh (lo:=0) (hi:=1) (by decide) (by decide)).toFrB
  have TB:=K.t.bd (by decide) (by decide)
  have VT:=iW K.t
  have s0:=K.t.q0
  have cg:=Ie K (g:=g) (by omega)
  refine ⟨N,M,1,1,⟨⟨V,V11⟩,BN,BM,.of (by decide) (by decide),.of (by decide) (by decide)⟩,?_⟩
  walk_at "rd"
  rw[Int.mul_one,Int.one_mul]
  have key:∀ z,Vl z (R.clip g (N*g / M)) g→RT Q z μ:=fun z V=>⟨_,.refl _,k z V⟩
  unfold RN.clip at key
  split
  · rename_i hl
    have f:N*g / M < g:=by
      rw[Int.ediv_lt_iff_lt_mul M0,Int.mul_comm g M]
      exact Int.mul_lt_mul_of_pos_right hl (by omega)
    rw[show min (max (N*g / M) g) (R.cap g)=g by omega] at key
    exact key _ (V11.of_eq (by omega) (by omega))
  · rename_i hl
    refine ⟨R,⟨K,rfl⟩,R.r,R.s,N,M,⟨⟨VT,V⟩,TB.1.mono (by decide),TB.2.mono (by decide),BN,BM⟩,?_⟩
    walk_at "rd"
    have f1:g≤N*g / M:=by
      rw[Int.le_ediv_iff_mul_le M0,Int.mul_comm g M]
      exact Int.mul_le_mul_of_nonneg_right (by omega) (by omega)
    split
    · rename_i ht
      have f2:R.cap g≤N*g / M:=by
        unfold RN.cap
        rw[Int.le_ediv_iff_mul_le M0]
        have d:=Int.ediv_mul_le (R.r*g) (show R.s≠0 by omega)
        have e1:R.r*g / R.s*M*R.s≤N*g*R.s:=by
          calc R.r*g / R.s*M*R.s=(R.r*g / R.s*R.s)*M:=by ac_rfl
            _≤(R.r*g)*M:=Int.mul_le_mul_of_nonneg_right d (by omega)
            _=(R.r*M)*g:=by ac_rfl
            _≤(N*R.s)*g:=Int.mul_le_mul_of_nonneg_right (by omega) (by omega)
            _=N*g*R.s:=by ac_rfl
        exact Int.le_of_mul_le_mul_right e1 s0
      rw[show min (max (N*g / M) g) (R.cap g)=R.cap g by omega] at key
      exact ⟨R,⟨K,rfl⟩,R.r,R.s,⟨VT,TB.1.mono (by decide),TB.2.mono (by decide),by omega,by omega⟩,fun z V=>key z V⟩
    · rename_i ht
      have f2:N*g / M≤R.cap g:=by
        unfold RN.cap
        rw[Int.le_ediv_iff_mul_le s0]
        have d:=Int.ediv_mul_le (N*g) (show M≠0 by omega)
        have e1:N*g / M*R.s*M≤R.r*g*M:=by
          calc N*g / M*R.s*M=(N*g / M*M)*R.s:=by ac_rfl
            _≤(N*g)*R.s:=Int.mul_le_mul_of_nonneg_right d (by omega)
            _=(N*R.s)*g:=by ac_rfl
            _≤(R.r*M)*g:=Int.mul_le_mul_of_nonneg_right (by omega) (by omega)
            _=R.r*g*M:=by ac_rfl
        exact Int.le_of_mul_le_mul_right e1 M0
      rw[show min (max (N*g / M) g) (R.cap g)=N*g / M by omega] at key
      exact ⟨N,M,⟨V,BN,BM,by omega,by omega⟩,fun z V=>key z V⟩
theorem RN.Of {R:RN}(K:R.Ok){g S:Int}{h:Hd}(G:Gd g)(S0:0≤S)(S1:S≤g){f:Int×Int}(e:R.fac g S h=some f):0 < f.1∧0 < f.2∧Le f.1 600000120∧Le f.2 10000002:=by
  obtain ⟨g0,g1⟩:=G
  have UB:=K.u.toFrB.bd (by decide) (by decide)
  have GB:=K.g.toFrB.bd (by decide) (by decide)
  have h1:=K.u.q0;have h2:=K.u.ab;have h3:=K.g.q0;have h4:=K.g.ab
  unfold RN.fac at e
  split at e
  · cases e
  · split at e
    · cases e;exact ⟨by decide,by decide,.of (by decide) (by decide),.of (by decide) (by decide)⟩
    · cases e
  · split at e
    · cases e
    · cases e;exact ⟨by show 0 < 2*g - S;omega,by show 0 < 2*g;omega,.of (by show 0≤2*g - S;omega) (by show 2*g - S≤_;omega),.of (by show 0≤2*g;omega) (by show 2*g≤_;omega)⟩
  · split at e
    · cases e;exact ⟨by show 0 < R.x;omega,h1,UB.1,UB.2⟩
    · cases e;exact ⟨by show 0 < R.a;omega,h3,GB.1,GB.2⟩
  · split at e
    · cases e
    · cases e;exact ⟨by show 0 < R.a;omega,h3,GB.1,GB.2⟩
theorem RN.Np {R:RN}(K:R.Ok){g W:Int}{h:Hd}(G:Gd g)(L:Le W 1000000):Bd (R.mvd g W h):=by
  obtain ⟨g0,g1⟩:=G
  have UB:=K.u.toFrB.bd (by decide) (by decide)
  have Lg:Le g 60:=.of (by omega) g1
  have e1:=L.mul UB.2
  have e2:=Lg.mul UB.1
  unfold RN.mvd
  split
  · split
    · exact (e1.add e2).mono (by decide)
    · split
      · exact (e1.sub e2).mono (by decide)
      · exact e1.mono (by decide)
  · exact (e1.add e2).mono (by decide)
def eB:FSp:=fun ds μ Q=>match ds with
  | [d,.int g,wd,sd,e]=>∃ (R:RN) (W S:Int) (h:Hd),((d=R.toD∧e=h.toD)∧R.Ok∧h.Ok∧Gd g∧(Vl wd W g∧Le W 1000000)∧Vl sd S g∧(0≤S∧S≤g))∧∀ w z,Vl w (R.beh g W S h).1 g→Vl z (R.beh g W S h).2 g→Q (.tup [w,z]) μ
  | _=>False
theorem tY:∀ ds μ Q,eB ds μ Q→ds.length=5:=by
  unfold eB
  walk_at "ln"
def pW:STr:=aB (bY (TB (aq fj (af (ah 0) (af (ah 4) (ar))))) (aY (bw (af (ah 2) (af (ah 3) (ar))))) (bx)) (aB (aP (aq b7 (af (ah 0) (af (ah 1) (af (ah 3) (af (ah 4) (ar)))))) (aw 5)) (aB (aP (aq dr (af (ah 0) (af (ah 5) (af (ah 4) (ar))))) (aw 6)) (aB (bY (TB (aj rIs (ah 6) (TC .non))) (aY (bw (af (aq iE (af (ah 0) (af (ah 1) (af (aq h9 (af (ah 0) (af (ah 2) (af (ah 4) (ar))))) (ar))))) (af (ah 5) (ar))))) (bx)) (aY (bw (af (aq iE (af (ah 0) (af (ah 1) (af (aq fE (af (ah 2) (af (ah 6) (ar)))) (ar))))) (af (ah 5) (ar))))))))
theorem ve:∀ ds μ Q,eB ds μ Q→pW { nx:=fun _ μ'=>RT Q .non μ',rt:=RT Q } (ini 7 ds) μ:=by
  intro ds μ Q h
  unfold eB at h
  split at h
  case h_2=>exact h.elim
  rename_i d g wd sd e
  unfold pW
  walk_at "rd"
  obtain ⟨R,W,S,h,⟨⟨rfl,rfl⟩,K,H,G,⟨VW,LW⟩,VS,S0,S1⟩,k⟩:=h
  have g0:=G.1
  have g1:=G.2
  have Lg:Le g 60:=.of (by omega) g1
  refine ⟨R,h,⟨rfl,rfl⟩,?_⟩
  walk_at "rd"
  unfold RN.beh at k
  split
  · rename_i hi
    rw[if_pos hi] at k
    exact ⟨_,.refl _,k _ _ VW VS⟩
  · rename_i hi
    rw[if_neg hi] at k
    refine ⟨R,S,h,⟨⟨rfl,rfl⟩,K,H,G,VS,⟨S0,S1⟩,hi⟩,fun z VZ=>?_⟩
    walk_at "rd"
    have sin:=FN K H hi (by omega) S0 S1
    unfold RN.mv at k
    refine ⟨R,g,_,h,⟨⟨rfl,rfl⟩,K,H,G,VZ,sin,hi⟩,fun hf=>?_,fun f hf v VF=>?_⟩
    · rw[hf] at k
      walk_at "rd"
      have y0:=K.u.q0
      refine ⟨R,g,W,h,⟨⟨rfl,rfl⟩,K,G,VW,LW,hi⟩,fun w Vw=>?_⟩
      refine ⟨R,_,_,⟨rfl,K,G,Vw,RN.Np K G LW,?_⟩,fun w2 Vw2=>?_⟩
      · exact (Lg.mul (K.u.toFrB.bd (by decide) (by decide)).2).mono (by decide)
      · walk_at "rd"
        refine ⟨_,.refl _,k _ _ ?_ VZ⟩
        rw[show R.mvd g W h*g / (g*R.y)=R.mvd g W h / R.y by rw[Int.mul_comm g R.y];exact Int.mul_ediv_mul_of_pos_left _ _ (by omega)] at Vw2
        exact Vw2
    · rw[hf] at k
      obtain ⟨f1,f2,F1,F2⟩:=RN.Of K G sin.1 sin.2 hf
      obtain ⟨⟨p,q,rfl,P⟩,b0⟩:=id VF
      walk_at "rd"
      refine ⟨W,g,f.1,f.2,⟨⟨VW,VF⟩,LW.mono (by decide),Lg.mono (by decide),F1.mono (by decide),F2.mono (by decide)⟩,fun w Vw=>?_⟩
      refine ⟨R,_,_,⟨rfl,K,G,Vw,(LW.mul F1).mono (by decide),(Lg.mul F2).mono (by decide)⟩,fun w2 Vw2=>?_⟩
      walk_at "rd"
      refine ⟨_,.refl _,k _ _ ?_ VZ⟩
      rw[show W*f.1*g / (g*f.2)=W*f.1 / f.2 by rw[Int.mul_comm g f.2];exact Int.mul_ediv_mul_of_pos_left _ _ (by omega)] at Vw2
      exact Vw2
def Rw:=Jn @M9 <| Jn @Ku <| Jn @Mw <| Jn @Je <| Jn @OO <| Jn @K9 <| Jn @Po <| Jn @KQ <| Jn @Ng <| Jn @KJ <| Jn @OY <| Jn @IK <| Jn @Pe <| Jn @JU <| Jn @My <| Jn @Jb <| Jn @NP <| Jn @IH <| Jn @MV <| Jn @Kg <| Jn @IM <| Jn @E2 <| Jn @LH <| Jn @D6 <| Jn @IF <| Jn @E6 <| Jn @D4 <| Jn @Jk <| Jn @DS <| Jn @JO <| Jn @EG <| Jn @RP <| Jn @Nj <| Jn @N8 <| Jn @SQ <| Jn @OS <| Jn @QT <| Jn @OK <| Jn @M1 <| Jn @IY <| Jn @M5 <| Jn @NB <| Jn @NU <| Jn @IQ <| Jn @K6 <| Jn @OJ <| Jn @KZ <| Jn @MY <| Jn @Mz <| Jn @N3 <| Jn @O3 <| Jn @MA <| Jn @Dc <| Jn @OL <| Jn @MM <| Jn @Q2 <| Jn @Q8 <| Jn @OP <| Jn @Pf <| Jn @MT <| Jn @Oi <| Jn @PD <| Jn @Ri <| Jn @QK <| Jn @RE <| Jn @PR <| Jn @QL <| Jn @QE <| Jn @QZ <| Jn @NN <| Jn @Oo <| Jn @M7 <| Jn @Oh <| Jn @NW <| Jn @KG <| Jn @J7 <| Jn @Ko <| Jn @Fc <| Jn @Df <| Jn @DV <| Jn @JZ <| Jn @HD <| Jn @CP <| Jn @Bm <| Jn @Cs <| Jn @Dh <| Jn @C2 <| Jn @HS <| Jn @G6 <| Jn @D7 <| Jn @DW <| Jn @GX <| Jn @Jg <| Jn @JN <| Jn @Ky <| Jn @Kf <| Jn @LD <| Jn @JB <| Jn @yp <| Jn @AK <| Jn @IG <| Jn @OM <| Jn @O6 <| Jn @Nv <| Jn @OA <| Jn @Og <| Jn @M3 <| Jn @Nl <| Jn @GN <| Jn @Gw <| Jn @Fq <| Jn @Gy <| Jn @HX <| @Nu
def Ds:=Jn @mi <| Jn @pA <| Jn @mG <| Jn @qx <| @qY
local macro_rules | `(tactic| walk_at "go")=>`(tactic| try simp only[↓Rw,Ds,↓j7,↓iX,cq,bV,cy,cw,cB,cD,cV,cT,bU,cu,cE,cA,cv,cW,cC,cR,cF,cQ,cz,cP,iS,CO,xY,gw,sV,lC,mB,mj,j9,ka,kb,j8,true_and,and_true,and_self,Bool.not_true,Bool.not_false,decide_true,decide_false,Bool.or_true,Bool.or_false,Bool.true_or,Bool.false_or,Bool.and_false,Bool.false_and,Bool.and_true,Bool.true_and,Int.reduceToNat,Int.reducePow,Int.reduceNeg,Int.reduceSub,Int.reduceAdd,Int.reduceMul,Int.reduceEq,Int.reduceLT,Int.reduceLE,Int.reduceBEq,iq,fU,fQ,fP,fW,fY,gf,fR,if_true,if_false,Bool.false_eq_true,reduceCtorEq,decide_eq_true_eq])
local macro_rules | `(tactic| walk_at "ini")=>`(tactic| simp only[ini,List.map,List.length,List.replicate,Nat.reduceSub,Nat.reduceAdd,Nat.sub_self,List.cons_append,List.nil_append,List.append_nil])
theorem fg {xs:List D}{P:D→Prop}(h:∀ d∈xs,P d){k:Int}(k0:0≤k)(k1:k < xs.length):∃ d,atD xs k=some d∧P d:=by
  obtain ⟨j,rfl⟩:=Int.eq_ofNat_of_zero_le k0
  rw[cj]
  have hj:j < xs.length:=by omega
  exact ⟨xs[j],by simp[hj],h _ (List.getElem_mem hj)⟩
def IsL (hi:Int)(d:D):Prop:=∃ p q,d=fr p q∧FrL hi p q
def IsI (lo hi:Int)(d:D):Prop:=∃ i:Int,d=.int i∧lo≤i∧i≤hi
theorem eU {P:D→Prop}:∀ d∈([]:List D),P d:=fun _ h=>nomatch h
theorem aD {P:D→Prop}{a:D}{xs:List D}(h:P a)(k:∀ d∈xs,P d):∀ d∈a::xs,P d:=fun d hd=>by
  rcases List.mem_cons.mp hd with e | e
  · rw[e];exact h
  · exact k d e
local macro_rules | `(tactic| walk_at "all")=>`(tactic| repeat' (first | exact eU | refine aD ?_ ?_))
structure nO (b p:Addr) (xs:List D) (μ μ':Mu):Prop where
  box:Box μ' b
  ne:p≠b
  new:μ p=none
  at':μ' p=some (.lst xs)
  oth:∀ a,a≠b→a≠p→μ' a=μ a
theorem nO.mk' {b p:Addr}{xs:List D}{μ:Mu}(hB:Box μ b)(hp:μ p=none):nO b p xs μ (up μ p (.lst xs)):=by
  have ne:p≠b:=fun z=>by subst z;obtain ⟨_,_,_,e,_⟩:=hB;rw[hp] at e;cases e
  obtain ⟨g,s,c,e,h⟩:=hB
  exact ⟨⟨g,s,c,by rw[aU ne.symm];exact e,h⟩,ne,hp,aH,fun a _ h=>aU h⟩
theorem nO.go {b p:Addr}{xs:List D}{μ μ1 μ2:Mu}(h:nO b p xs μ μ1)(B:qy b μ1 μ2):nO b p xs μ μ2:=
  ⟨B.box,h.ne,h.new,by rw[B.oth p h.ne];exact h.at',fun a h1 h2=>by rw[B.oth a h1];exact h.oth a h1 h2⟩
theorem nO.set {b p:Addr}{xs ys:List D}{μ μ1:Mu}(h:nO b p xs μ μ1):nO b p ys μ (up μ1 p (.lst ys)):=by
  obtain ⟨g,s,c,e,hh⟩:=h.box
  exact ⟨⟨g,s,c,by rw[aU h.ne.symm];exact e,hh⟩,h.ne,h.new,aH,fun a h1 h2=>by rw[aU h2];exact h.oth a h1 h2⟩
theorem MB (μ:Mu)(p:Addr):Sub (dn μ p) μ:=fun a o e=>by
  unfold dn at e
  split at e
  · cases e
  · exact e
theorem nO.fin {b p:Addr}{xs:List D}{μ μ1:Mu}(h:nO b p xs μ μ1):qy b μ (dn μ1 p):=by
  obtain ⟨g,s,c,e,hh⟩:=h.box
  refine ⟨⟨g,s,c,?_,hh⟩,fun a ha=>?_⟩
  · unfold dn;rw[if_neg h.ne.symm];exact e
  · unfold dn
    split
    · rename_i z;subst z;exact h.new.symm
    · rename_i z;exact h.oth a ha z
theorem nO.rt {b p:Addr}{xs:List D}{μ μ1:Mu}{Q:DK}{d:D}(h:nO b p xs μ μ1)(k:∀ μ',qy b μ μ'→Q d μ'):RT Q d μ1:=⟨_,MB μ1 p,k _ h.fin⟩
def RN.ap1 (R:RN)(g S far:Int)(h:Hd):Int×Int:=if R.idle h then (S,far) else
  (R.shr g S h,min (match R.fac g (R.shr g S h) h with
    | some f=>-((-(far*f.1)) / f.2)
    | none=>far) (R.cap g - g))
def RN.ap (R:RN)(g:Int):List Hd→Int→Int→Int
  | [],_,far=>far
  | h::r,S,far=>RN.ap R g r (R.ap1 g S far h).1 (R.ap1 g S far h).2
theorem j3 {p:Addr}{G:GTr}{tt:TTr}{te:ETr}{ρc:ST}{K:Mu→Prop}(P:List D→Mu→Prop)(hnil:∀ μ,P [] μ→K μ)
    (hcons:∀ d r μ (N:Mu→Prop),P (d::r) μ→(∀ μ',P r μ'→N μ')→G d ρc μ fun ρ1 μ1=>tt ρ1 μ1 fun b μ2=>kIf b (te ρ1 μ2 fun y μ3=>kL μ3 p fun zs=>zs.length < 1000000∧N (up μ3 p (.lst (zs++[y])))) (N μ2)) :
    ∀ (ds:List D) (μ:Mu),P ds μ→fM p G tt te ρc K ds μ
  | [],μ,h=>hnil μ h
  | d::r,μ,h=>hcons d r μ _ h fun μ' q=>j3 P hnil hcons r μ' q
theorem wU (d0:D)(r:List D)(f:D→Prop):kO (atD (d0::r) 0) f=f d0:=by rw[sQ];rfl
theorem vm (d0 d1:D)(r:List D)(f:D→Prop):kO (atD (d0::d1::r) 1) f=f d1:=by rw[xf];rfl
theorem vB (d0 d1 d2:D)(r:List D)(f:D→Prop):kO (atD (d0::d1::d2::r) 2) f=f d2:=by rw[A5];rfl
theorem yh (d0 d1 d2 d3:D)(r:List D)(f:D→Prop):kO (atD (d0::d1::d2::d3::r) 3) f=f d3:=by rw[B8];rfl
theorem xF (d0 d1 d2 d3 d4:D)(r:List D)(f:D→Prop):kO (atD (d0::d1::d2::d3::d4::r) 4) f=f d4:=by rw[Bn];rfl
theorem yf (d0 d1 d2 d3 d4 d5:D)(r:List D)(f:D→Prop):kO (atD (d0::d1::d2::d3::d4::d5::r) 5) f=f d5:=by rw[Bk];rfl
def ur (G:GTr)(tt:TTr)(te:ETr)(ρc:ST)(ds:List D)(μ:Mu)(Q:DK):Prop:=∀ p,μ p=none→fM p G tt te ρc (fun μ'=>kL μ' p fun zs=>Q (.ls zs) (dn μ' p)) ds (up μ p (.lst []))
theorem Lp (it:ATr)(G:GTr)(tt:TTr)(te:ETr)(n:Nat)(caps:List Nat)(ρ:ST)(μ:Mu)(Q:DK):bW it G tt te n caps ρ μ Q=it ρ μ fun ds μ1=>ur G tt te (fu ρ n caps) ds μ1 Q:=propext Iff.rfl
theorem O5 (ρ:ST)(μ:Mu)(Q:Bool→Mu→Prop):fo ρ μ Q=Q true μ:=propext Iff.rfl
section
variable {G:GTr} {tt:TTr} {te:ETr} {ρc:ST} {ds:List D} {μ:Mu} {Q:DK}
theorem uq (f:D→Option D)(hl:ds.length≤999999)
    (step:∀ d∈ds,∀ μ',Sub μ μ'→∀ (N:Option D→Mu→Prop),N (f d) μ'→G d ρc μ' fun ρ1 μ1=>tt ρ1 μ1 fun b μ2=>kIf b (te ρ1 μ2 fun y μ3=>N (some y) μ3) (N none μ2))
    (k:Q (.ls (ds.filterMap f)) μ):ur G tt te ρc ds μ Q:=by
  intro p hp
  refine j3 (fun r μ'=>∃ done,ds=done++r∧μ'=up μ p (.lst (done.filterMap f))) ?_ ?_ _ _ ⟨[],rfl,rfl⟩
  · rintro μ' ⟨done,e,rfl⟩
    rw[List.append_nil] at e
    subst e
    refine bf aH ?_
    rw[qt hp];exact k
  · rintro d r μ' N ⟨done,e,rfl⟩ hN
    have hd:d∈ds:=by rw[e];simp
    have e':ds=(done++[d])++r:=by rw[e];simp
    have lf:(done.filterMap f).length < 1000000:=by
      have h1:=List.length_filterMap_le f done
      have h2:ds.length=done.length+(d::r).length:=by rw[e,List.length_append]
      rw[List.length_cons] at h2;omega
    refine step d hd _ (Sub.new hp) (fun oy μ3=>match oy with
      | some y=>kL μ3 p fun zs=>zs.length < 1000000∧N (up μ3 p (.lst (zs++[y])))
      | none=>N μ3) ?_
    cases hf:f d with
    | none=>
      refine hN _ ⟨done++[d],e',?_⟩
      rw[List.filterMap_append];simp[hf]
    | some y=>
      refine bf aH ⟨lf,hN _ ⟨done++[d],e',?_⟩⟩
      rw[List.filterMap_append,iq];simp[hf]
theorem comp_map (f:D→D)(hl:ds.length≤999999)
    (step:∀ d∈ds,∀ μ',Sub μ μ'→∀ (N:DK),N (f d) μ'→G d ρc μ' fun ρ1 μ1=>te ρ1 μ1 N)
    (k:Q (.ls (ds.map f)) μ):ur G fo te ρc ds μ Q:=by
  refine uq (fun d=>some (f d)) hl (fun d hd μ' s N n=>?_) (by rw[show (fun d=>some (f d))=some ∘ f from rfl,List.filterMap_eq_map];exact k)
  exact step d hd μ' s (fun y μ3=>N (some y) μ3) n
theorem Gf (I:List D→List D→Prop)(h0:I ds [])(hl:ds.length≤999999)
    (step:∀ d r zs μ',Sub μ μ'→I (d::r) zs→∀ (N:Option D→Mu→Prop),(∀ oy,I r (zs++oy.toList)→N oy μ')→G d ρc μ' fun ρ1 μ1=>tt ρ1 μ1 fun b μ2=>kIf b (te ρ1 μ2 fun y μ3=>N (some y) μ3) (N none μ2))
    (k:∀ zs,I [] zs→Q (.ls zs) μ):ur G tt te ρc ds μ Q:=by
  intro p hp
  refine j3 (fun r μ'=>∃ zs,I r zs∧zs.length+r.length≤ds.length∧μ'=up μ p (.lst zs)) ?_ ?_ _ _ ⟨[],h0,by simp,rfl⟩
  · rintro μ' ⟨zs,hI,_,rfl⟩
    refine bf aH ?_
    rw[qt hp];exact k zs hI
  · rintro d r μ' N ⟨zs,hI,hz,rfl⟩ hN
    rw[List.length_cons] at hz
    refine step d r zs _ (Sub.new hp) hI (fun oy μ3=>match oy with
      | some y=>kL μ3 p fun zs=>zs.length < 1000000∧N (up μ3 p (.lst (zs++[y])))
      | none=>N μ3) ?_
    intro oy hoy
    cases oy with
    | none=>exact hN _ ⟨zs,by simpa using hoy,by omega,rfl⟩
    | some y=>
      refine bf aH ⟨by omega,hN _ ⟨zs++[y],hoy,by rw[List.length_append];simp;omega,?_⟩⟩
      rw[iq]
theorem jf {α:Type}(xs:List α)(t:α→D)(h:α→Option D)(hds:ds=xs.map t)(hl:xs.length≤999999)
    (step:∀ x∈xs,∀ μ',Sub μ μ'→∀ (N:Option D→Mu→Prop),N (h x) μ'→G (t x) ρc μ' fun ρ1 μ1=>tt ρ1 μ1 fun b μ2=>kIf b (te ρ1 μ2 fun y μ3=>N (some y) μ3) (N none μ2))
    (k:Q (.ls (xs.filterMap h)) μ):ur G tt te ρc ds μ Q:=by
  subst hds
  refine Gf (fun r zs=>∃ a c,xs=a++c∧r=c.map t∧zs=a.filterMap h) ⟨[],xs,rfl,rfl,rfl⟩ (by simpa using hl) ?_ ?_
  · rintro d r zs μ' sb ⟨a,c,e,er,rfl⟩ N hN
    cases c with
    | nil=>cases er
    | cons x c=>
    cases er
    refine step x (by rw[e];simp) μ' sb N (hN _ ⟨a++[x],c,by rw[e];simp,rfl,?_⟩)
    rw[List.filterMap_append]
    cases hx:h x<;>simp[hx]
  · rintro zs ⟨a,c,e,er,rfl⟩
    have:c=[]:=by cases c with | nil=>rfl | cons=>cases er
    subst this
    rw[List.append_nil] at e
    subst e;exact k
theorem bS {α:Type}(xs:List α)(t:α→D)(h:α→D)(hds:ds=xs.map t)(hl:xs.length≤999999)
    (step:∀ x∈xs,∀ μ',Sub μ μ'→∀ (N:DK),N (h x) μ'→G (t x) ρc μ' fun ρ1 μ1=>te ρ1 μ1 N)
    (k:Q (.ls (xs.map h)) μ):ur G fo te ρc ds μ Q:=by
  refine jf xs t (fun x=>some (h x)) hds hl (fun x hx μ' s N n=>?_) (by rw[show (fun x=>some (h x))=some ∘ h from rfl,List.filterMap_eq_map];exact k)
  exact step x hx μ' s (fun y μ3=>N (some y) μ3) n
def BC (a:Addr)(full:List D)(G:GTr)(tt:TTr)(te:ETr)(ρc:ST)(ds:List D)(μ:Mu)(Q:DK):Prop:=∀ p,μ p=none→kF (fun μ=>μ a=some (.lst full)) p G tt te ρc (fun μ'=>kL μ' p fun zs=>Q (.ls zs) (dn μ' p)) ds (up μ p (.lst []))
theorem Hn (To:ETr)(G:GTr)(tt:TTr)(te:ETr)(n:Nat)(caps:List Nat)(ρ:ST)(μ:Mu)(Q:DK):jy To G tt te n caps ρ μ Q=To ρ μ fun x μ1=>kObj x fun a=>kL μ1 a fun ds=>BC a ds G tt te (fu ρ n caps) ds μ1 Q:=propext Iff.rfl
theorem kM {C:Mu→Prop}{p:Addr}{ρc:ST}{K:Mu→Prop}(P:List D→Mu→Prop)(hC:∀ r μ,P r μ→C μ)(hnil:∀ μ,P [] μ→K μ)
    (hcons:∀ d r μ (N:Mu→Prop),P (d::r) μ→(∀ μ',P r μ'→N μ')→G d ρc μ fun ρ1 μ1=>tt ρ1 μ1 fun b μ2=>kIf b (te ρ1 μ2 fun y μ3=>kL μ3 p fun zs=>zs.length < 1000000∧N (up μ3 p (.lst (zs++[y])))) (N μ2)) :
    ∀ (ds:List D) (μ:Mu),P ds μ→kF C p G tt te ρc K ds μ
  | [],μ,h=>⟨hC _ _ h,hnil μ h⟩
  | d::r,μ,h=>⟨hC _ _ h,hcons d r μ _ h fun μ' q=>kM P hC hnil hcons r μ' q⟩
theorem Gk {a:Addr}{full:List D}(hm:μ a=some (.lst full))(f:D→Option D)(hl:ds.length≤999999)
    (step:∀ d∈ds,∀ μ',Sub μ μ'→∀ (N:Option D→Mu→Prop),N (f d) μ'→G d ρc μ' fun ρ1 μ1=>tt ρ1 μ1 fun b μ2=>kIf b (te ρ1 μ2 fun y μ3=>N (some y) μ3) (N none μ2))
    (k:Q (.ls (ds.filterMap f)) μ):BC a full G tt te ρc ds μ Q:=by
  intro p hp
  refine kM (fun r μ'=>∃ done,ds=done++r∧μ'=up μ p (.lst (done.filterMap f))) ?_ ?_ ?_ _ _ ⟨[],rfl,rfl⟩
  · rintro r μ' ⟨done,_,rfl⟩
    exact Sub.new hp _ _ hm
  · rintro μ' ⟨done,e,rfl⟩
    rw[List.append_nil] at e
    subst e
    refine bf aH ?_
    rw[qt hp];exact k
  · rintro d r μ' N ⟨done,e,rfl⟩ hN
    have hd:d∈ds:=by rw[e];simp
    have e':ds=(done++[d])++r:=by rw[e];simp
    have lf:(done.filterMap f).length < 1000000:=by
      have h1:=List.length_filterMap_le f done
      have h2:ds.length=done.length+(d::r).length:=by rw[e,List.length_append]
      rw[List.length_cons] at h2;omega
    refine step d hd _ (Sub.new hp) (fun oy μ3=>match oy with
      | some y=>kL μ3 p fun zs=>zs.length < 1000000∧N (up μ3 p (.lst (zs++[y])))
      | none=>N μ3) ?_
    cases hf:f d with
    | none=>
      refine hN _ ⟨done++[d],e',?_⟩
      rw[List.filterMap_append];simp[hf]
    | some y=>
      refine bf aH ⟨lf,hN _ ⟨done++[d],e',?_⟩⟩
      rw[List.filterMap_append,iq];simp[hf]
theorem mM {α:Type}{a:Addr}(xs:List α)(t:α→D)(h:α→Option D)(hds:ds=xs.map t)(hm:μ a=some (.lst (xs.map t)))(hl:xs.length≤999999)
    (step:∀ x∈xs,∀ μ',Sub μ μ'→∀ (N:Option D→Mu→Prop),N (h x) μ'→G (t x) ρc μ' fun ρ1 μ1=>tt ρ1 μ1 fun b μ2=>kIf b (te ρ1 μ2 fun y μ3=>N (some y) μ3) (N none μ2))
    (k:Q (.ls (xs.filterMap h)) μ):BC a (xs.map t) G tt te ρc ds μ Q:=by
  subst hds
  intro p hp
  refine kM (fun r μ'=>∃ b c,xs=b++c∧r=c.map t∧μ'=up μ p (.lst (b.filterMap h))) ?_ ?_ ?_ _ _ ⟨[],xs,rfl,rfl,rfl⟩
  · rintro r μ' ⟨b,c,_,_,rfl⟩
    exact Sub.new hp _ _ hm
  · rintro μ' ⟨b,c,e,er,rfl⟩
    have:c=[]:=by cases c with | nil=>rfl | cons=>cases er
    subst this
    rw[List.append_nil] at e
    subst e
    refine bf aH ?_
    rw[qt hp];exact k
  · rintro d r μ' N ⟨b,c,e,er,rfl⟩ hN
    cases c with
    | nil=>cases er
    | cons x c=>
    cases er
    have e':xs=(b++[x])++c:=by rw[e];simp
    have lf:(b.filterMap h).length < 1000000:=by
      have h1:=List.length_filterMap_le h b
      have h2:xs.length=b.length+(x::c).length:=by rw[e,List.length_append]
      rw[List.length_cons] at h2;omega
    refine step x (by rw[e];simp) _ (Sub.new hp) (fun oy μ3=>match oy with
      | some y=>kL μ3 p fun zs=>zs.length < 1000000∧N (up μ3 p (.lst (zs++[y])))
      | none=>N μ3) ?_
    cases hf:h x with
    | none=>
      refine hN _ ⟨b++[x],c,e',rfl,?_⟩
      rw[List.filterMap_append];simp[hf]
    | some y=>
      refine bf aH ⟨lf,hN _ ⟨b++[x],c,e',rfl,?_⟩⟩
      rw[List.filterMap_append,iq];simp[hf]
theorem Dg {a:Addr}{full:List D}(hm:μ a=some (.lst full))(f:D→D)(hl:ds.length≤999999)
    (step:∀ d∈ds,∀ μ',Sub μ μ'→∀ (N:DK),N (f d) μ'→G d ρc μ' fun ρ1 μ1=>te ρ1 μ1 N)
    (k:Q (.ls (ds.map f)) μ):BC a full G fo te ρc ds μ Q:=by
  refine Gk hm (fun d=>some (f d)) hl (fun d hd μ' s N n=>?_) (by rw[show (fun d=>some (f d))=some ∘ f from rfl,List.filterMap_eq_map];exact k)
  exact step d hd μ' s (fun y μ3=>N (some y) μ3) n
end
def QX:=Jn @Lp <| Jn @Hn <| Jn @O5 <| Jn @Kz <| Jn @Io <| Jn @Lc <| Jn @Oy <| Jn @IP <| Jn @OD <| Jn @Hg <| Jn @OU <| Jn @JD <| Jn @N4 <| Jn @ME <| Jn @NF <| Jn @Nb <| Jn @Ql <| Jn @Jj <| Jn @Ob <| @Rw
local macro_rules | `(tactic| walk_at "go")=>`(tactic| try simp only[↓QX,Ds,↓wU,↓vm,↓vB,↓yh,↓xF,↓yf,↓j7,↓iX,cq,bV,cy,cw,cB,cD,cV,cT,bU,cu,cE,cA,cv,cW,cC,cR,cF,cQ,cz,cP,iS,fu,List.map_cons,List.map_nil,List.replicate,List.cons_append,List.nil_append,lk,CO,xY,gw,sV,lC,mB,mj,j9,ka,kb,j8,true_and,and_true,and_self,Bool.not_true,Bool.not_false,decide_true,decide_false,Bool.or_true,Bool.or_false,Bool.true_or,Bool.false_or,Bool.and_false,Bool.false_and,Bool.and_true,Bool.true_and,Int.reduceToNat,Int.reducePow,Int.reduceNeg,Int.reduceSub,Int.reduceAdd,Int.reduceMul,Int.reduceEq,Int.reduceLT,Int.reduceLE,Int.reduceBEq,iq,fU,fQ,fP,fW,fY,gf,fR,if_true,if_false,Bool.false_eq_true,reduceCtorEq,decide_eq_true_eq])
abbrev ks (s:String):L2.Key:=.inr (Str.ofString s)
def hU (cs:List Int)(a l g m s:Int):List (L2.Key×D):=[(ks "cells", .ls (cs.map .int)),(ks "at", .int a),(ks "left", .int l),(ks "given", .int g),(ks "many", .int m),(ks "seed", .int s)]
section
variable (cs:List Int) (a l g m s x:Int)
theorem DL:bE (hU cs a l g m s) (.inr (Str.ofString "cells"))=some (.ls (cs.map .int)):=rfl
theorem Nx:bE (hU cs a l g m s) (.inr (Str.ofString "at"))=some (.int a):=rfl
theorem GI:bE (hU cs a l g m s) (.inr (Str.ofString "left"))=some (.int l):=rfl
theorem Cm:bE (hU cs a l g m s) (.inr (Str.ofString "given"))=some (.int g):=rfl
theorem Ik:bE (hU cs a l g m s) (.inr (Str.ofString "many"))=some (.int m):=rfl
theorem Fu:bE (hU cs a l g m s) (.inr (Str.ofString "seed"))=some (.int s):=rfl
theorem N7:putD (hU cs a l g m s) (.inr (Str.ofString "at")) (.int x)=hU cs x l g m s:=rfl
theorem Es:putD (hU cs a l g m s) (.inr (Str.ofString "left")) (.int x)=hU cs a x g m s:=rfl
theorem Cp:putD (hU cs a l g m s) (.inr (Str.ofString "given")) (.int x)=hU cs a l x m s:=rfl
theorem DU:putD (hU cs a l g m s) (.inr (Str.ofString "many")) (.int x)=hU cs a l g x s:=rfl
theorem Hv:putD (hU cs a l g m s) (.inr (Str.ofString "seed")) (.int x)=hU cs a l g m x:=rfl
theorem J8:(hU cs a l g m s).length < 1000000:=by show 6 < 1000000;decide
end
local macro_rules | `(tactic| walk_at "pot")=>`(tactic| try simp only[DL,Nx,GI,Cm,Ik,Fu,N7,Es,Cp,DU,Hv,J8,true_and,oo])
local macro_rules | `(tactic| walk_at "gp")=>`(tactic| (walk_at "go";walk_at "pot";walk_at "go";walk_at "pot";walk_at "go";walk_at "pot";walk_at "go";walk_at "pot";walk_at "go"))
def Pot (μ:Mu)(b:Addr):Prop:=∃ (cs:List Int) (a l g m s:Int),μ b=some (.dct (hU cs a l g m s))∧0≤a
structure dQ (b:Addr) (μ μ':Mu):Prop where
  pot:Pot μ' b
  oth:∀ a,a≠b→μ' a=μ a
theorem dQ.trans {b:Addr}{μ μ1 μ2:Mu}(x:dQ b μ μ1)(y:dQ b μ1 μ2):dQ b μ μ2:=⟨y.pot,fun a h=>(y.oth a h).trans (x.oth a h)⟩
theorem dQ.ne {b p:Addr}{μ μ1:Mu}(x:dQ b μ μ1)(h:p≠b):μ1 p=μ p:=x.oth p h
theorem Pot.ne {μ:Mu}{b p:Addr}(h:Pot μ b)(hp:μ p=none):p≠b:=fun z=>by subst z;obtain ⟨_,_,_,_,_,_,e,_⟩:=h;rw[hp] at e;cases e
theorem Pot.up {μ:Mu}{b p:Addr}{o:MO}(h:Pot μ b)(hp:p≠b):Pot (up μ p o) b:=by
  obtain ⟨cs,a,l,g,m,s,e,h0⟩:=h
  exact ⟨cs,a,l,g,m,s,by rw[aU (Ne.symm hp)];exact e,h0⟩
theorem KA {μ:Mu}{b:Addr}{o:MO}(h:μ b=some o):up μ b o=μ:=by
  funext a;unfold L3.up;split
  · rename_i e;subst e;exact h.symm
  · rfl
def Kp (b:Addr)(μ μ':Mu):Prop:=∀ a o,a≠b→μ a=some o→μ' a=some o
theorem Kp.refl (b:Addr)(μ:Mu):Kp b μ μ:=fun _ _ _ h=>h
theorem Kp.trans {b:Addr}{μ μ1 μ2:Mu}(x:Kp b μ μ1)(y:Kp b μ1 μ2):Kp b μ μ2:=fun a o h e=>y a o h (x a o h e)
theorem dQ.kp {b:Addr}{μ μ1:Mu}(x:dQ b μ μ1):Kp b μ μ1:=fun a o h e=>by rw[x.oth a h];exact e
theorem Kp.new {b p:Addr}{μ:Mu}{o:MO}(h:μ p=none):Kp b μ (up μ p o):=fun a u _ e=>by rw[aU (fun z=>by subst z;rw[h] at e;cases e)];exact e
theorem Kp.put {b p:Addr}{μ μ1:Mu}{o:MO}(x:Kp b μ μ1)(h:μ p=none):Kp b μ (up μ1 p o):=fun a u n e=>by rw[aU (fun z=>by subst z;rw[h] at e;cases e)];exact x a u n e
theorem Kp.dn {b p:Addr}{μ μ1:Mu}(x:Kp b μ μ1)(h:μ p=none):Kp b μ (dn μ1 p):=fun a u n e=>by unfold L3.dn;rw[if_neg (fun z=>by subst z;rw[h] at e;cases e)];exact x a u n e
theorem Lq {b:Addr}{μ μ':Mu}{d:D}{Q:DK}(hP:Pot μ' b)(h:Kp b μ μ')(k:∀ μ2,dQ b μ μ2→Q d μ2):RT Q d μ':=by
  refine ⟨fun a=>if a=b then μ' a else μ a,fun a o e=>?_,k _ ⟨?_,fun a ha=>by simp only[if_neg ha]⟩⟩
  · dsimp only at e
    split at e
    · exact e
    · rename_i ha;exact h a o ha e
  · obtain ⟨cs,a,l,g,m,s,e,h0⟩:=hP
    exact ⟨cs,a,l,g,m,s,by simp only[if_pos rfl];exact e,h0⟩
def j2:FSp:=fun ds μ Q=>match ds with
  | [.ls xs]=>(∃ ns:List Int,xs=ns.map .int)∧∀ p μ',μ p=none→Pot μ' p→(∀ a,a≠p→μ' a=μ a)→Q (.obj p) μ'
  | _=>False
theorem Ep:∀ ds μ Q,j2 ds μ Q→ds.length=1:=by
  unfold j2
  walk_at "ln"
def Ij:STr:=aY (DN [.inr (Str.ofString "cells"),.inr (Str.ofString "at"),.inr (Str.ofString "left"),.inr (Str.ofString "given"),.inr (Str.ofString "many"),.inr (Str.ofString "seed")] (af (aq jC (af (ah 0) (ar))) (af (TC (.int 0)) (af (TC (.int 0)) (af (TC (.int 0)) (af (TC (.int 0)) (af (TC (.int 5)) (ar))))))))
theorem Il:∀ ds μ Q,j2 ds μ Q→Ij { nx:=fun _ μ'=>RT Q .non μ',rt:=RT Q } (ini 1 ds) μ:=by
  intro ds μ Q h
  unfold j2 at h
  split at h
  case h_2=>exact h.elim
  rename_i xs
  walk_at "ini"
  unfold Ij
  walk_at "go"
  obtain ⟨⟨ns,rfl⟩,k⟩:=h
  intro p hp
  walk_at "go"
  exact ⟨_,.refl _,k p _ hp ⟨ns,0,0,0,0,5,aH,Int.le_refl 0⟩ fun a ha=>aU ha⟩
def fV:FSp:=fun ds μ Q=>match ds with
  | [.int _,.int _]=>∀ k:Int,Q (.int k) μ
  | _=>False
theorem HP:∀ ds μ Q,fV ds μ Q→ds.length=2:=by
  unfold fV
  walk_at "ln"
def DT:STr:=aB (aP (aj kE (aj eO (aj aR (aj aR (aj kE (ah 0) (TC (.int 2147483647))) (aj eO (TC (.int 7919)) (ah 1))) (TC (.int 11))) (TC (.int 48271))) (TC (.int 2147483629))) (aw 2)) (aB (aP (aj kE (aj eO (ah 2) (ah 2)) (TC (.int 2147483587))) (aw 3)) (aY (aj kE (aj eO (aj aR (ah 3) (ah 1)) (TC (.int 69621))) (TC (.int 1999999973)))))
theorem IA:∀ ds μ Q,fV ds μ Q→DT { nx:=fun _ μ'=>RT Q .non μ',rt:=RT Q } (ini 4 ds) μ:=by
  intro ds μ Q h
  unfold fV at h
  split at h
  case h_2=>exact h.elim
  rename_i n t
  walk_at "ini"
  unfold DT
  walk_at "go"
  have s79:S64 7919:=by unfold S64;decide
  have s48:S64 48271:=by unfold S64;decide
  have s69:S64 69621:=by unfold S64;decide
  refine ⟨by decide,.inl (.inl s79),.inl (.inr s48),by decide,?_⟩
  walk_at "go"
  generalize hx:((n.fmod 2147483647+7919*t+11)*48271).fmod 2147483629=x
  have x0:0≤x:=by rw[← hx];exact fm0 (by decide)
  have x1:x < 2147483629:=by rw[← hx];exact fm1 (by decide)
  refine ⟨.inl (.inl (by unfold S64;omega)),by decide,?_⟩
  walk_at "go"
  exact ⟨.inl (.inr s69),by decide,_,.refl _,h _⟩
def ay:FSp:=fun ds μ Q=>match ds with
  | [.obj b,.int n]=>(Pot μ b∧0 < n∧n < 18446744073709551616)∧∀ k μ',0≤k→k < n→dQ b μ μ'→Q (.int k) μ'
  | _=>False
theorem aV {μ:Mu}{b:Addr}{n:Int}{Q:DK}(hB:Pot μ b)(h0:0 < n)(h1:n < 18446744073709551616)(h:∀ k μ',0≤k→k < n→dQ b μ μ'→Q (.int k) μ'):ay [.obj b,.int n] μ Q:=⟨⟨hB,h0,h1⟩,h⟩
theorem CT:∀ ds μ Q,ay ds μ Q→ds.length=2:=by
  unfold ay
  walk_at "ln"
def kz:STr:=aB (bY (pH (TB (aj rGt (bC (ah 0) (TC (.str "left"))) (TC (.int 0)))) (TB (aj rLt (bC (ah 0) (TC (.str "given"))) (TC (.int 60))))) (aB (kZ (fun m n=>m+n) (ah 0) (TC (.str "given")) (TC (.int 1))) (aB (aP (aj kE (bC (ah 0) (TC (.str "left"))) (ah 1)) (aw 3)) (aB (gm (ah 0) (TC (.str "left")) (aj l6 (bC (ah 0) (TC (.str "left"))) (ah 1))) (aY (ah 3))))) (bx)) (aB (gm (ah 0) (TC (.str "seed")) (aq fV (af (bC (ah 0) (TC (.str "seed"))) (af (bC (ah 0) (TC (.str "many"))) (ar))))) (aY (aj kE (aj l6 (bC (ah 0) (TC (.str "seed"))) (TC (.int 7))) (ah 1))))
def B6:STr:=aB (kZ (fun m n=>m+n) (ah 0) (TC (.str "many")) (TC (.int 1))) (aB (bY (pH (TOr (TB (aj rEq (bC (ah 0) (TC (.str "left"))) (TC (.int 0)))) (TB (aj rEq (bC (ah 0) (TC (.str "given"))) (TC (.int 60))))) (TB (aj rLt (bC (ah 0) (TC (.str "at"))) (aq dZ (af (bC (ah 0) (TC (.str "cells"))) (ar)))))) (aB (aP (aq vz (af (aj L3.rIx (bC (ah 0) (TC (.str "cells"))) (bC (ah 0) (TC (.str "at")))) (ar))) (aw 2)) (aB (kZ (fun m n=>m+n) (ah 0) (TC (.str "at")) (TC (.int 1))) (aB (gm (ah 0) (TC (.str "left")) (aj eO (ah 2) (aq zR (af (aj rGe (ah 2) (aj CU (TC (.int 10)) (TC (.int 18)))) (ar))))) (aB (gm (ah 0) (TC (.str "given")) (TC (.int 0))) (gm (ah 0) (TC (.str "seed")) (aq fV (af (aj aR (bC (ah 0) (TC (.str "seed"))) (ah 2)) (af (bC (ah 0) (TC (.str "many"))) (ar))))))))) (bx)) (kz))
theorem D2:∀ ds μ Q,ay ds μ Q→B6 { nx:=fun _ μ'=>RT Q .non μ',rt:=RT Q } (ini 4 ds) μ:=by
  intro ds μ Q h
  unfold ay at h
  split at h
  case h_2=>exact h.elim
  rename_i b n
  walk_at "ini"
  unfold B6
  obtain ⟨⟨⟨cs,a,l,g,m,s,eb,a0⟩,n0,n1⟩,k⟩:=h
  have nm:gE n:=by unfold gE;omega
  have fin:∀ (μ':Mu) (c a l g m s:Int),0≤c→c < n→0≤a→RT Q (.int c) (up μ b (.dct (hU cs a l g m s))):=fun μ' c a l g m s c0 c1 a0=>
    ⟨_,.refl _,k c _ c0 c1 ⟨⟨cs,a,l,g,m,s,aH,a0⟩,fun z hz=>aU hz⟩⟩
  have rest:∀ (v2 v3:Option D) (a l g m s:Int),0≤a→kz { nx:=fun _ μ'=>RT Q .non μ',rt:=RT Q } [some (.obj b),some (.int n),v2,v3] (up μ b (.dct (hU cs a l g m s))):=by
    intro v2 v3 a l g m s a0
    unfold kz
    walk_at "gp"
    refine kif (fun h1=>kif (fun h2=>?_) fun _=>?_) fun _=>?_
    · walk_at "gp"
      refine ⟨by omega,?_⟩
      walk_at "gp"
      exact ⟨⟨by omega,nm⟩,fin μ _ a _ _ m s (fm0 n0) (fm1 n0) a0⟩
    all_goals
      intro s2
      walk_at "gp"
      exact ⟨⟨by decide,by unfold gE;decide⟩,by omega,fin μ _ a l g m s2 (fm0 n0) (fm1 n0) a0⟩
  have e0:∀ c:Int,MulOk c (if 1000000000000000000≤c then 1 else 0):=fun c=>.inl (.inr (by unfold S64;split<;>decide))
  have e1:qD 10 18:=by unfold qD;decide
  refine (KA eb).symm ▸ ?_
  walk_at "gp"
  rw[List.length_map]
  refine kif (fun _=>kif (fun h1=>?_) fun _=>rest _ _ _ _ _ _ _ a0) fun _=>kif (fun _=>kif (fun h1=>?_) fun _=>rest _ _ _ _ _ _ _ a0) fun _=>rest _ _ _ _ _ _ _ a0
  all_goals
    obtain ⟨z,ez⟩:=EH a0 h1
    rw[ez]
    walk_at "gp"
    refine ⟨e1,e0 _,?_⟩
    walk_at "gp"
    intro s2
    walk_at "gp"
    exact rest _ _ _ _ _ _ _ (by omega)
def cS:List Str:=[Str.ofString "a", Str.ofString "aa", Str.ofString "ab", Str.ofString "b", Str.ofString "ba", Str.ofString "mid", Str.ofString "way", Str.ofString "zz", Str.ofString "z", Str.ofString "long", Str.ofString "longer", Str.ofString "abcdefgh", Str.ofString "x", Str.ofString "yz", Str.ofString "m", Str.ofString "az", Str.ofString "c"]
theorem F8:∀ w∈cS,PyData.strOk w=true:=by decide +kernel
theorem Ap:cS.Nodup:=by decide +kernel
theorem Hj:∀ f:Fin 17,∀ s:Fin 16,((List.range 17).map fun k=>(f.val+(1+s.val)*k) % 17).Nodup:=by decide +kernel
def nameAt (f s:Nat)(k:Nat):Str:=cS.getD ((f+(1+s)*k) % 17) (Str.ofString "")
theorem GL {f s n:Nat}(hf:f < 17)(hs:s < 16)(hn:n≤17):((List.range n).map (nameAt f s)).Nodup:=by
  have h1:((List.range 17).map fun k=>(f+(1+s)*k) % 17).Nodup:=Hj ⟨f,hf⟩ ⟨s,hs⟩
  have h2:((List.range n).map fun k=>(f+(1+s)*k) % 17).Nodup:=by
    refine List.Nodup.sublist ?_ h1
    refine List.Sublist.map _ ?_
    rw[show List.range 17=List.range n++(List.range (17 - n)).map (n + ·) by rw[← List.range_add];congr 1;omega]
    exact List.sublist_append_left _ _
  have h3:((List.range n).map (nameAt f s))=((List.range n).map fun k=>(f+(1+s)*k) % 17).map fun j=>cS.getD j (Str.ofString ""):=by rw[List.map_map];rfl
  rw[h3]
  rw[List.nodup_iff_pairwise_ne,List.pairwise_map]
  rw[List.nodup_iff_pairwise_ne] at h2
  refine (List.pairwise_map.mp h2 |> fun q=>?_)
  rw[List.pairwise_map]
  refine q.imp_of_mem ?_
  intro a b ha hb hne e
  refine hne ?_
  have l1:(f+(1+s)*a) % 17 < cS.length:=Nat.mod_lt _ (by decide)
  have l2:(f+(1+s)*b) % 17 < cS.length:=Nat.mod_lt _ (by decide)
  rw[List.getD_eq_getElem?_getD,List.getD_eq_getElem?_getD,List.getElem?_eq_getElem l1,List.getElem?_eq_getElem l2,Option.getD_some,Option.getD_some] at e
  exact (List.getElem_inj Ap).mp e
theorem yu (f s k:Nat):nameAt f s k∈cS:=by
  unfold nameAt
  have l1:(f+(1+s)*k) % 17 < cS.length:=Nat.mod_lt _ (by decide)
  rw[List.getD_eq_getElem?_getD,List.getElem?_eq_getElem l1,Option.getD_some]
  exact List.getElem_mem _
def fq:FSp:=fun ds μ Q=>match ds with
  | [.obj b,.int m]=>(Pot μ b∧0≤m∧m≤17)∧∀ (ws:List Str) μ',(ws.length:Int)=m→ws.Nodup→(∀ w∈ws,w∈cS)→dQ b μ μ'→Q (.ls (ws.map .str)) μ'
  | _=>False
theorem Ai:∀ ds μ Q,fq ds μ Q→ds.length=2:=by
  unfold fq
  walk_at "ln"
def xN:STr:=aB (aP (fX (af (TC (.str "a")) (af (TC (.str "aa")) (af (TC (.str "ab")) (af (TC (.str "b")) (af (TC (.str "ba")) (af (TC (.str "mid")) (af (TC (.str "way")) (af (TC (.str "zz")) (af (TC (.str "z")) (af (TC (.str "long")) (af (TC (.str "longer")) (af (TC (.str "abcdefgh")) (af (TC (.str "x")) (af (TC (.str "yz")) (af (TC (.str "m")) (af (TC (.str "az")) (ar)))))))))))))))))) (aw 2)) (aB (aP (bw (af (aq ay (af (ah 0) (af (TC (.int 17)) (ar)))) (af (aj aR (TC (.int 1)) (aq ay (af (ah 0) (af (TC (.int 16)) (ar))))) (ar)))) (eM [3,4])) (aY (bW (gG (ah 1)) (aw 0) (fo) (aj L3.rIx (aj aR (ah 1) (fX (af (TC (.str "c")) (ar)))) (aj kE (aj aR (ah 2) (aj eO (ah 3) (ah 0))) (TC (.int 17)))) 1 [2,3,4])))
theorem CG:∀ ds μ Q,fq ds μ Q→xN { nx:=fun _ μ'=>RT Q .non μ',rt:=RT Q } (ini 5 ds) μ:=by
  intro ds μ Q h
  unfold fq at h
  split at h
  case h_2=>exact h.elim
  rename_i b m
  walk_at "ini"
  unfold xN
  walk_at "go"
  obtain ⟨⟨hP,m0,m1⟩,k⟩:=h
  refine ⟨by decide,?_⟩
  refine aV hP (by decide) (by decide) fun f μ1 f0 f1 P1=>?_
  walk_at "go"
  refine aV P1.pot (by decide) (by decide) fun s μ2 s0 s1 P2=>?_
  walk_at "go"
  refine ⟨⟨by omega,by omega⟩,?_⟩
  have hw:∀ (kk:Nat),atD [D.str "a", D.str "aa", D.str "ab", D.str "b", D.str "ba", D.str "mid", D.str "way", D.str "zz", D.str "z", D.str "long", D.str "longer", D.str "abcdefgh", D.str "x", D.str "yz", D.str "m", D.str "az", D.str "c"] ((f+(1+s)*(kk:Int)).fmod 17)=some (.str (nameAt f.toNat s.toNat kk)):=by
    intro kk
    have e1:(f+(1+s)*(kk:Int)).fmod 17=(((f.toNat+(1+s.toNat)*kk) % 17:Nat):Int):=by
      rw[Int.fmod_eq_emod_of_nonneg _ (by decide)]
      push_cast
      rw[Int.toNat_of_nonneg f0,Int.toNat_of_nonneg s0]
    rw[e1,cj]
    show (cS.map D.str)[(f.toNat+(1+s.toNat)*kk) % 17]? = _
    have l1:(f.toNat+(1+s.toNat)*kk) % 17 < cS.length:=Nat.mod_lt _ (by decide)
    unfold nameAt
    rw[List.getElem?_map,List.getD_eq_getElem?_getD,List.getElem?_eq_getElem l1];rfl
  refine comp_map (fun d=>match d with
    | .int j=>.str (nameAt f.toNat s.toNat j.toNat)
    | _=>.non) (by rw[dY];omega) (fun d hd μ' _ N n=>?_) ?_
  · obtain ⟨j,rfl,j0,j1⟩:=yt hd
    walk_at "go"
    refine ⟨by decide,?_⟩
    walk_at "go"
    refine ⟨.inl (.inl (by unfold S64;omega)),by decide,?_⟩
    have:=hw j.toNat
    rw[Int.toNat_of_nonneg (by omega)] at this
    rw[this]
    walk_at "go"
    exact n
  · refine ⟨_,.refl _,?_⟩
    have e:(cx 0 m.toNat).map (fun d=>match d with
      | .int j=>D.str (nameAt f.toNat s.toNat j.toNat)
      | _=>.non)=((List.range m.toNat).map (nameAt f.toNat s.toNat)).map .str:=by
      unfold cx
      rw[List.map_map,List.map_map]
      refine List.map_congr_left fun i _=>?_
      simp
    rw[e]
    refine k _ _ (by simp;omega) (GL (by omega) (by omega) (by omega)) (fun w hw=>?_) (P1.trans P2)
    obtain ⟨i,_,rfl⟩:=List.mem_map.mp hw
    exact yu _ _ _
section
variable {G:GTr} {tt:TTr} {te:ETr} {ρc:ST} {ds:List D} {μ:Mu} {Q:DK} {b:Addr}
theorem xP (hP:Pot μ b)(I:List D→List D→Prop)(h0:I ds [])(hl:ds.length≤999999)
    (step:∀ d r zs μ',Pot μ' b→Kp b μ μ'→I (d::r) zs→∀ (N:Option D→Mu→Prop),(∀ oy μ2,I r (zs++oy.toList)→dQ b μ' μ2→N oy μ2)→G d ρc μ' fun ρ1 μ1=>tt ρ1 μ1 fun c μ2=>kIf c (te ρ1 μ2 fun y μ3=>N (some y) μ3) (N none μ2))
    (k:∀ zs μ',I [] zs→dQ b μ μ'→Q (.ls zs) μ'):ur G tt te ρc ds μ Q:=by
  intro p hp
  have pb:=hP.ne hp
  refine j3 (fun r μ'=>∃ zs,I r zs∧zs.length+r.length≤ds.length∧μ' p=some (.lst zs)∧Pot μ' b∧∀ a,a≠b→a≠p→μ' a=μ a) ?_ ?_ _ _ ⟨[],h0,by simp,aH,hP.up pb,fun a _ h=>aU h⟩
  · rintro μ' ⟨zs,hI,_,e,P,fr⟩
    refine bf e (k zs _ hI ⟨?_,fun a ha=>?_⟩)
    · obtain ⟨cs,a,l,g,m,s,e,h0⟩:=P
      exact ⟨cs,a,l,g,m,s,by unfold dn;rw[if_neg (Ne.symm pb)];exact e,h0⟩
    · unfold dn
      split
      · rename_i z;subst z;exact hp.symm
      · rename_i z;exact fr a ha z
  · rintro d r μ' N ⟨zs,hI,hz,e,P,fr⟩ hN
    rw[List.length_cons] at hz
    refine step d r zs μ' P (fun a o n h=>?_) hI (fun oy μ3=>match oy with
      | some y=>kL μ3 p fun zs=>zs.length < 1000000∧N (up μ3 p (.lst (zs++[y])))
      | none=>N μ3) ?_
    · rw[fr a n (fun z=>by subst z;rw[hp] at h;cases h)];exact h
    intro oy μ2 hoy P2
    have e2:μ2 p=some (.lst zs):=by rw[P2.oth p pb];exact e
    cases oy with
    | none=>exact hN _ ⟨zs,by simpa using hoy,by omega,e2,P2.pot,fun a h1 h2=>(P2.oth a h1).trans (fr a h1 h2)⟩
    | some y=>
      refine bf e2 ⟨by omega,hN _ ⟨zs++[y],hoy,by rw[List.length_append];simp;omega,aH,P2.pot.up pb,fun a h1 h2=>?_⟩⟩
      rw[aU h2,P2.oth a h1,fr a h1 h2]
end
theorem d9 (k j:L2.Key)(d:D)(r:List (L2.Key×D)):bE ((k,d)::r) j=if k=j then some d else bE r j:=by
  unfold bE
  rw[List.find?_cons]
  by_cases h:k=j<;>simp[h]
theorem hX (kvs:List (L2.Key×D))(k j:L2.Key)(d:D):bE (putD kvs k d) j=if j=k then some d else bE kvs j:=by
  unfold putD
  split
  · rename_i ha
    induction kvs with
    | nil=>simp at ha
    | cons p r ih=>
      obtain ⟨k',d'⟩:=p
      rw[List.map_cons]
      by_cases h1:k'=k
      · subst h1
        simp only[if_true]
        rw[d9,d9]
        by_cases h2:k'=j
        · simp[h2]
        · rw[if_neg h2,if_neg h2,if_neg (Ne.symm h2)]
          by_cases h3:(r.any fun kv=>decide (kv.1=k'))=true
          · rw[ih h3,if_neg (Ne.symm h2)]
          · have:r.map (fun kv=>if kv.1=k' then (kv.1,d) else kv)=r:=by
              refine (List.map_congr_left fun kv hkv=>?_).trans (List.map_id r)
              rw[if_neg (fun z=>h3 (List.any_eq_true.mpr ⟨kv,hkv,by simp[z]⟩))];rfl
            rw[this]
      · rw[if_neg h1,d9,d9]
        rw[List.any_cons,decide_eq_false h1,Bool.false_or] at ha
        by_cases h2:k'=j
        · rw[if_pos h2,if_pos h2,if_neg (fun z=>h1 (h2.trans z))]
        · rw[if_neg h2,if_neg h2,ih ha]
  · rename_i ha
    induction kvs with
    | nil=>rw[List.nil_append,d9];by_cases h:k=j<;>simp[h,Ne.symm,bE,eq_comm]
    | cons p r ih=>
      obtain ⟨k',d'⟩:=p
      rw[List.any_cons,Bool.or_eq_true,not_or] at ha
      have h1:¬ k'=k:=by simpa using ha.1
      rw[List.cons_append,d9,d9]
      by_cases h2:k'=j
      · rw[if_pos h2,if_pos h2,if_neg (fun z=>h1 (h2.trans z))]
      · rw[if_neg h2,if_neg h2,ih ha.2]
theorem qz {kvs:List (L2.Key×D)}{k:L2.Key}{x:D}(d:D)(h:bE kvs k=some x):(putD kvs k d).length=kvs.length:=by
  unfold putD
  rw[if_pos,List.length_map]
  unfold bE at h
  obtain ⟨p,hp,_⟩:=Option.map_eq_some_iff.mp h
  refine List.any_eq_true.mpr ⟨p,List.mem_of_find?_eq_some hp,?_⟩
  have:=List.find?_some hp
  simpa using this
theorem IC (kvs:List (L2.Key×D))(k:L2.Key)(d:D):(putD kvs k d).length≤kvs.length+1:=by
  unfold putD
  split
  · rw[List.length_map];omega
  · rw[List.length_append];simp
theorem KR {xs:List D}{c:Int}(c0:0≤c):atD xs c=xs[c.toNat]?:=by
  have:=cj c.toNat xs
  rwa [Int.toNat_of_nonneg c0] at this
structure Lt where
  nm:Str
  nu:Int
  ag:Int
  hp:Int
  mr:Int
def Lt.toD (x:Lt):D:=.tup [.str x.nm,.int x.nu,.int x.ag,.int x.hp,.int x.mr]
abbrev ltD (ls:List Lt):List D:=ls.map Lt.toD
structure Lt.Ok (x:Lt):Prop where
  a0:0≤x.ag
  a1:x.ag < 30
  h0:0≤x.hp
  h1:x.hp < 6
  m0:0≤x.mr
  m1:x.mr≤1
structure Wy where
  nm:Str
  pc:Int
  rm:Int
  mr:Option Int
  tn:Bool
def c5:Option Int→D
  | none=>.non
  | some i=>.int i
def wx (b:Bool):Str:=if b then Str.ofString "turns" else Str.ofString "line"
def Wy.toD (x:Wy):D:=.tup [.str x.nm,.int x.pc,.int x.rm,c5 x.mr,.str (wx x.tn)]
structure Wy.Ok (x:Wy):Prop where
  n:PyData.strOk x.nm=true
  p0:1≤x.pc
  p1:x.pc≤20
  r0:1≤x.rm
  r1:x.rm≤60
  m:∀ i,x.mr=some i→0≤i∧i≤60
mutual
def pl:Nat→D→Bool
  | _,.non=>true
  | _,.int _=>true
  | _,.str x=>PyData.strOk x
  | n+1,.tup ds=>decide (ds.length≤999999)&&pls n ds
  | n+1,.ls ds=>decide (ds.length≤999999)&&pls n ds
  | _,_=>false
def pls:Nat→List D→Bool
  | _,[]=>true
  | n,d::r=>pl n d&&pls n r
end
def kA (w:Wy)(x:Lt)(n:Nat):Lt:=match w.mr with
  | none=>x
  | some i=>if (n:Int) < i then x else { x with mr:=1 }
def cO (w:Wy)(p:List Lt×List Lt)(y:Lt):List Lt×List Lt:=if w.rm≤(p.1.length:Int) then (p.1,p.2++[y]) else (p.1++[kA w y p.1.length],p.2)
def tk (w:Wy)(xs ys:List Lt):List Lt×List Lt:=ys.foldl (cO w) (xs,[])
theorem NJ (a b c d e:D):cutD [a,b,c,d,e] none (some 4)=[a,b,c,d]:=rfl
def cZ:FSp:=fun ds μ Q=>match ds with
  | [wd,ld,.int n]=>∃ (w:Wy) (x:Lt) (m:Nat),(wd=w.toD∧ld=x.toD∧n=m)∧Q (kA w x m).toD μ
  | _=>False
theorem qI:∀ ds μ Q,cZ ds μ Q→ds.length=3:=by
  unfold cZ
  walk_at "ln"
def lu:STr:=aB (bY (TOr (TB (aj rIs (aj L3.rIx (ah 0) (TC (.int 3))) (TC .non))) (TB (aj rLt (ah 2) (aj L3.rIx (ah 0) (TC (.int 3)))))) (aY (ah 1)) (bx)) (aY (aj aR (TSl (ah 1) (ONo) (lH (TC (.int 4)))) (bw (af (TC (.int 1)) (ar)))))
theorem rN:∀ ds μ Q,cZ ds μ Q→lu { nx:=fun _ μ'=>RT Q .non μ',rt:=RT Q } (ini 3 ds) μ:=by
  intro ds μ Q h
  unfold cZ at h
  split at h
  case h_2=>exact h.elim
  rename_i wd ld n
  walk_at "ini"
  unfold lu
  walk_at "go"
  obtain ⟨w,x,m,⟨rfl,rfl,rfl⟩,k⟩:=h
  simp only[Wy.toD]
  walk_at "go"
  unfold kA at k
  cases hm:w.mr with
  | none=>
    rw[hm] at k
    simp only[c5]
    walk_at "go"
    exact ⟨_,.refl _,k⟩
  | some i=>
    rw[hm] at k
    simp only[c5]
    walk_at "go"
    refine kif (fun h1=>⟨_,.refl _,?_⟩) fun h1=>?_
    · simp only[if_pos h1] at k;exact k
    · simp only[if_neg h1] at k
      simp only[Lt.toD]
      walk_at "go"
      rw[NJ]
      walk_at "go"
      exact ⟨by show 5≤1000000;decide,_,.refl _,k⟩
def eI:FSp:=fun ds μ Q=>match ds with
  | [wd,.tup st,.tup le]=>∃ (w:Wy) (xs ys:List Lt),(wd=w.toD∧st=ltD xs∧le=ltD ys∧xs.length+ys.length≤900000)∧Q (.tup [.tup (ltD (tk w xs ys).1),.tup (ltD (tk w xs ys).2)]) μ
  | _=>False
theorem t7:∀ ds μ Q,eI ds μ Q→ds.length=3:=by
  unfold eI
  walk_at "ln"
def qo:STr:=aB (aP (aq jg (af (ah 1) (ar))) (aw 3)) (aB (aP (me (ar)) (aw 4)) (aB (kg (eL (ah 2)) (aw 5) (bY (TB (aj rGe (aq dZ (af (ah 3) (ar))) (aj L3.rIx (ah 0) (TC (.int 2))))) (fN (mf (ah 4) (ah 5))) (fN (mf (ah 3) (aq cZ (af (ah 0) (af (ah 5) (af (aq dZ (af (ah 3) (ar))) (ar))))))))) (aY (bw (af (aq bz (af (ah 3) (ar))) (af (aq bz (af (ah 4) (ar))) (ar)))))))
theorem vH:∀ ds μ Q,eI ds μ Q→qo { nx:=fun _ μ'=>RT Q .non μ',rt:=RT Q } (ini 6 ds) μ:=by
  intro ds μ Q h
  unfold eI at h
  split at h
  case h_2=>exact h.elim
  rename_i wd st le
  walk_at "ini"
  unfold qo
  walk_at "go"
  obtain ⟨w,xs,ys,⟨rfl,rfl,rfl,hl⟩,k⟩:=h
  intro p hp
  walk_at "go"
  intro q hq
  have qp:q≠p:=fun z=>by subst z;rw[aH] at hq;cases hq
  have hqn:μ q=none:=by rw[aU qp] at hq;exact hq
  refine cX (fun r ρ μ'=>∃ (a b:List Lt) (rs:List Lt) (v5:Option D),r=ltD rs∧ρ=[some w.toD,some (.tup (ltD xs)),some (.tup (ltD ys)),some (.obj p),some (.obj q),v5]∧μ' p=some (.lst (ltD a))∧μ' q=some (.lst (ltD b))∧Sub μ μ'∧rs.foldl (cO w) (a,b)=tk w xs ys∧a.length+b.length+rs.length≤900000) ?_ ?_ _ _ _ ⟨xs,[],ys,_,rfl,rfl,by rw[aU (Ne.symm qp),aH],aH,(Sub.new hp).trans (Sub.new hq),rfl,by simpa using hl⟩
  · rintro ρ μ' ⟨a,b,rs,v5,er,rfl,ep,eq,s,e,_⟩
    have:rs=[]:=by cases rs with | nil=>rfl | cons=>cases er
    subst this
    have e:(a,b)=tk w xs ys:=e
    rw[← e] at k
    walk_at "go"
    refine bf ep ?_
    walk_at "go"
    refine bf eq ?_
    exact ⟨_,s,k⟩
  · rintro d r ρ μ' N ⟨a,b,rs,v5,er,rfl,ep,eq,s,e,hz⟩ hN
    cases rs with
    | nil=>cases er
    | cons y rs=>
    cases er
    rw[List.length_cons] at hz
    rw[List.foldl_cons] at e
    unfold cO at e
    simp only[Wy.toD]
    walk_at "go"
    refine bf ep ?_
    walk_at "go"
    rw[List.length_map]
    refine kif (fun h1=>?_) fun h1=>?_
    · rw[if_pos h1] at e
      walk_at "go"
      refine bf eq ?_
      walk_at "go"
      refine bf eq ⟨by simp;omega,hN _ _ ⟨a,b++[y],rs,_,rfl,rfl,by rw[aU (Ne.symm qp)];exact ep,by rw[aH];simp[ltD],fun z o h=>?_,e,by simp;omega⟩⟩
      rw[aU (fun e=>by subst e;rw[hqn] at h;cases h)];exact s z o h
    · rw[if_neg h1] at e
      walk_at "go"
      refine bf ep ?_
      walk_at "go"
      refine bf ep ?_
      rw[List.length_map]
      refine ⟨w,y,a.length,⟨rfl,rfl,rfl⟩,?_⟩
      walk_at "go"
      refine bf ep ⟨by simp;omega,hN _ _ ⟨a++[kA w y a.length],b,rs,_,rfl,rfl,by rw[aH];simp[ltD],by rw[aU qp];exact eq,fun z o h=>?_,e,by simp;omega⟩⟩
      rw[aU (fun e=>by subst e;rw[hp] at h;cases h)];exact s z o h
theorem Se (w:Wy)(μ:Mu)(Q:DK):L3.rIx w.toD (.int 0) μ Q=Q (.str w.nm) μ:=propext Iff.rfl
theorem SD (w:Wy)(μ:Mu)(Q:DK):L3.rIx w.toD (.int 1) μ Q=Q (.int w.pc) μ:=propext Iff.rfl
theorem Sw (w:Wy)(μ:Mu)(Q:DK):L3.rIx w.toD (.int 4) μ Q=Q (.str (wx w.tn)) μ:=propext Iff.rfl
theorem lt_0 (x:Lt)(μ:Mu)(Q:DK):L3.rIx x.toD (.int 0) μ Q=Q (.str x.nm) μ:=propext Iff.rfl
theorem Sj (x:Lt)(μ:Mu)(Q:DK):L3.rIx x.toD (.int 1) μ Q=Q (.int x.nu) μ:=propext Iff.rfl
theorem SI (x:Lt)(μ:Mu)(Q:DK):L3.rIx x.toD (.int 2) μ Q=Q (.int x.ag) μ:=propext Iff.rfl
theorem SF (x:Lt)(μ:Mu)(Q:DK):L3.rIx x.toD (.int 3) μ Q=Q (.int x.hp) μ:=propext Iff.rfl
theorem R4 (x:Lt)(μ:Mu)(Q:DK):L3.rIx x.toD (.int 4) μ Q=Q (.int x.mr) μ:=propext Iff.rfl
theorem RO (xs:List D){k:Int}(k0:0≤k):cutD xs none (some k)=xs.take k.toNat:=by
  have:=A8 xs k.toNat
  rwa [Int.toNat_of_nonneg k0] at this
theorem Tj (xs:List D){k:Int}(k0:0≤k):cutD xs (some k) none=xs.drop k.toNat:=by
  have:=sv xs k.toNat
  rwa [Int.toNat_of_nonneg k0] at this
theorem LJ (ls:List Lt)(n:Nat):(ltD ls).take n=ltD (ls.take n):=by simp[ltD,List.map_take]
theorem KP (ls:List Lt)(n:Nat):(ltD ls).drop n=ltD (ls.drop n):=by simp[ltD,List.map_drop]
theorem jZ {w:Wy}{a b:List Lt}{y:Lt}(h:w.rm≤(a.length:Int)):cO w (a,b) y=(a,b++[y]):=by unfold cO;rw[if_pos h]
theorem tf {w:Wy}{a b:List Lt}{y:Lt}(h:¬ w.rm≤(a.length:Int)):cO w (a,b) y=(a++[kA w y a.length],b):=by unfold cO;rw[if_neg h]
theorem u7:c5 none=.non:=rfl
theorem u5 (i:Int):c5 (some i)=.int i:=rfl
theorem zL (w:Wy):∀ (ys:List Lt) (a b:List Lt),(ys.foldl (cO w) (a,b)).1.length+(ys.foldl (cO w) (a,b)).2.length=a.length+b.length+ys.length
  | [],a,b=>by simp
  | y::ys,a,b=>by
    rw[List.foldl_cons]
    by_cases h:w.rm≤(a.length:Int)
    · rw[jZ h,zL w ys];simp;omega
    · rw[tf h,zL w ys];simp;omega
theorem BP (w:Wy)(y:Lt)(n:Nat):(kA w y n).nm=y.nm:=by
  unfold kA
  split
  · rfl
  · split<;>rfl
theorem Gj (w:Wy)(P:Str→Prop):∀ (ys:List Lt) (a b:List Lt),(∀ x∈a,P x.nm)→(∀ x∈b,P x.nm)→(∀ x∈ys,P x.nm)→(∀ x∈(ys.foldl (cO w) (a,b)).1,P x.nm)∧∀ x∈(ys.foldl (cO w) (a,b)).2,P x.nm
  | [],a,b,h1,h2,_=>⟨h1,h2⟩
  | y::ys,a,b,h1,h2,h3=>by
    rw[List.foldl_cons]
    have hy:=h3 y List.mem_cons_self
    have hr:∀ x∈ys,P x.nm:=fun x hx=>h3 x (List.mem_cons_of_mem _ hx)
    by_cases h:w.rm≤(a.length:Int)
    · rw[jZ h]
      refine Gj w P ys _ _ h1 (fun x hx=>?_) hr
      rcases List.mem_append.mp hx with z | z
      · exact h2 x z
      · have:x=y:=by simpa using z
        subst this;exact hy
    · rw[tf h]
      refine Gj w P ys _ _ (fun x hx=>?_) h2 hr
      rcases List.mem_append.mp hx with z | z
      · exact h1 x z
      · have:x=kA w y a.length:=by simpa using z
        subst this;rw[BP];exact hy
def QC:=Jn @Se <| Jn @SD <| Jn @Sw <| Jn @lt_0 <| Jn @Sj <| Jn @SI <| Jn @SF <| Jn @R4 <| @QX
local macro_rules | `(tactic| walk_at "go")=>`(tactic| try simp only[↓QC,Ds,↓wU,↓vm,↓vB,↓yh,↓xF,↓yf,↓j7,↓iX,cq,bV,cy,cw,cB,cD,cV,cT,bU,cu,cE,cA,cv,cW,cC,cR,cF,cQ,cz,cP,iS,u7,u5,fu,List.map_cons,List.map_nil,List.replicate,List.cons_append,List.nil_append,lk,CO,xY,gw,sV,lC,mB,mj,j9,ka,kb,j8,true_and,and_true,and_self,Bool.not_true,Bool.not_false,decide_true,decide_false,Bool.or_true,Bool.or_false,Bool.true_or,Bool.false_or,Bool.and_false,Bool.false_and,Bool.and_true,Bool.true_and,Int.reduceToNat,Int.reducePow,Int.reduceNeg,Int.reduceSub,Int.reduceAdd,Int.reduceMul,Int.reduceEq,Int.reduceLT,Int.reduceLE,Int.reduceBEq,iq,fU,fQ,fP,fW,fY,gf,fR,if_true,if_false,Bool.false_eq_true,reduceCtorEq,decide_eq_true_eq])
def mP (ws os:List Str)(l:Str):Option Str:=match (ws.filter fun w=>decide (w∈os)).filter fun w=>ltS l w with
  | x::_=>some x
  | []=>(ws.filter fun w=>decide (w∈os)).head?
theorem FE {ws os:List Str}{l n:Str}(h:mP ws os l=some n):n∈ws∧n∈os:=by
  unfold mP at h
  have hm:n∈ws.filter fun w=>decide (w∈os):=by
    split at h
    · rename_i x r e
      cases h
      have:n∈(ws.filter fun w=>decide (w∈os)).filter fun w=>ltS l w:=by rw[e];exact List.mem_cons_self
      exact (List.mem_filter.mp this).1
    · exact List.mem_of_head? h
  have:=List.mem_filter.mp hm
  exact ⟨this.1,by simpa using this.2⟩
theorem zI {ws os:List Str}{l w:Str}(h1:w∈ws)(h2:w∈os):∃ n,mP ws os l=some n:=by
  have hm:w∈ws.filter fun w=>decide (w∈os):=List.mem_filter.mpr ⟨h1,by simpa using h2⟩
  unfold mP
  split
  · exact ⟨_,rfl⟩
  · cases e:(ws.filter fun w=>decide (w∈os)) with
    | nil=>rw[e] at hm;cases hm
    | cons x r=>exact ⟨x,rfl⟩
theorem J9 (w:Str)(os:List Str):inG (.str w) (os.map .str)=decide (w∈os):=by
  unfold inG
  rw[List.any_map]
  induction os with
  | nil=>simp
  | cons o r ih=>
    rw[List.any_cons,ih]
    simp only[Function.comp_apply,lC]
    by_cases h:o=w
    · simp[h]
    · simp[h,Ne.symm h,eq_comm]
theorem A4 {n:Nat}{os:List Str}(h:∀ o∈os,PyData.strOk o=true):dB n (os.map .str)=true:=by
  induction os with
  | nil=>rfl
  | cons o r ih=>
    rw[List.map_cons,gw,xY,h o List.mem_cons_self,ih fun x hx=>h x (List.mem_cons_of_mem _ hx)];rfl
theorem wY (os:List Str)(p:Str→Bool):(os.map D.str).filterMap (fun d=>match d with
    | .str w=>if p w then some (D.str w) else none
    | _=>none)=(os.filter p).map D.str:=by
  induction os with
  | nil=>rfl
  | cons o r ih=>
    rw[List.map_cons,List.filterMap_cons,List.filter_cons]
    dsimp only
    cases p o with
    | true=>simp[ih]
    | false=>simp[ih]
def dj:FSp:=fun ds μ Q=>match ds with
  | [d,.ls os',.str l]=>∃ (ws os:List Str) (n:Str),((d=.tup (ws.map .str)∨d=.ls (ws.map .str))∧os'=os.map .str∧(∀ w∈ws,PyData.strOk w=true)∧(∀ w∈os,PyData.strOk w=true)∧ws.length≤900000∧mP ws os l=some n)∧Q (.str n) μ
  | _=>False
theorem rR:∀ ds μ Q,dj ds μ Q→ds.length=3:=by
  unfold dj
  walk_at "ln"
def m4:STr:=aB (aP (bW (eL (ah 0)) (aw 0) (TB (aj (K5 false) (ah 0) (ah 1))) (ah 0) 1 [1]) (aw 3)) (aB (aP (bW (eL (ah 3)) (aw 0) (TB (aj Ow (ah 0) (ah 1))) (ah 0) 1 [2]) (aw 4)) (aY (lR (TB (aj rGt (aq dZ (af (ah 4) (ar))) (TC (.int 0)))) (aj L3.rIx (ah 4) (TC (.int 0))) (aj L3.rIx (ah 3) (TC (.int 0))))))
theorem t9:∀ ds μ Q,dj ds μ Q→m4 { nx:=fun _ μ'=>RT Q .non μ',rt:=RT Q } (ini 5 ds) μ:=by
  intro ds μ Q h
  unfold dj at h
  split at h
  case h_2=>exact h.elim
  rename_i d os' l
  walk_at "ini"
  unfold m4
  walk_at "go"
  obtain ⟨ws,os,n,⟨hd,rfl,h1,h2,hl,hn⟩,k⟩:=h
  have go:∀ d,d=.tup (ws.map .str)∨d=.ls (ws.map .str)→∀ f:List D→Prop,f (ws.map .str)→kS d f:=fun d h f hf=>by rcases h with rfl | rfl<;>exact hf
  refine go d hd _ ?_
  refine uq (fun d=>match d with
    | .str w=>if decide (w∈os) then some (.str w) else none
    | _=>none) (by rw[List.length_map];omega) (fun d hd μ' _ N n=>?_) ?_
  · obtain ⟨w,hw,rfl⟩:=List.mem_map.mp hd
    walk_at "go"
    rw[A4 h2,J9]
    have:=h1 w hw
    simp only[this,true_and]
    dsimp only at n
    refine kif (fun h=>?_) fun h=>?_
    · rw[decide_eq_true h] at n;exact n
    · rw[decide_eq_false h] at n;exact n
  · rw[wY ws fun w=>decide (w∈os)]
    generalize hth:(ws.filter fun w=>decide (w∈os))=th at *
    have lth:th.length≤900000:=by rw[← hth];exact Nat.le_trans (List.length_filter_le _ _) hl
    walk_at "go"
    refine uq (fun d=>match d with
      | .str w=>if ltS l w then some (.str w) else none
      | _=>none) (by rw[List.length_map];omega) (fun d hd μ' _ N n=>?_) ?_
    · obtain ⟨w,hw,rfl⟩:=List.mem_map.mp hd
      walk_at "go"
      dsimp only at n
      refine QM (fun h=>?_) fun h=>?_
      · rw[h] at n;exact n
      · rw[h] at n;exact n
    · rw[wY th fun w=>ltS l w]
      unfold mP at hn
      rw[hth] at hn
      walk_at "go"
      cases e:th.filter fun w=>ltS l w with
      | nil=>
        rw[e] at hn
        have hn:th.head? = some n:=hn
        cases th with
        | nil=>cases hn
        | cons x r=>
        cases hn
        walk_at "go"
        show kIf false _ _
        walk_at "go"
        exact ⟨_,.refl _,k⟩
      | cons x r=>
        rw[e] at hn
        have hn:some x=some n:=hn
        cases hn
        walk_at "go"
        refine lW (by simp) ?_
        exact ⟨_,.refl _,k⟩
def at1 (n:Str)(st:List Lt):Nat:=st.findIdx fun x=>decide (x.nm=n)
def gA (ws:List Str)(p:Int):Nat→List Lt→List Lt→Str→List Lt×List Lt×Str
  | 0,st,out,l=>(out,st,l)
  | f+1,st,out,l=>if 0 < st.length∧(out.length:Int) < p then (match mP ws (st.map Lt.nm) l with
      | some n=>(match st[at1 n st]? with
        | some x=>gA ws p f (st.eraseIdx (at1 n st)) (out++[x]) n
        | none=>(out,st,l))
      | none=>(out,st,l)) else (out,st,l)
theorem GQ {n:Str}{st:List Lt}(h:n∈st.map Lt.nm):at1 n st < st.length:=by
  obtain ⟨x,hx,rfl⟩:=List.mem_map.mp h
  exact List.findIdx_lt_length_of_exists ⟨x,hx,by simp⟩
theorem tq {α β:Type}(f:α→β):∀ (l:List α) (i:Nat),(l.map f).eraseIdx i=(l.eraseIdx i).map f
  | [],_=>by simp
  | _::_,0=>rfl
  | a::l,i+1=>by simp[tq f l i]
theorem MU {n:Str}{st:List Lt}(h:n∈st.map Lt.nm):DA ((st.map Lt.nm).map .str) (.str n)=some (at1 n st):=by
  unfold DA
  have hl:=GQ h
  rw[List.findIdx?_eq_some_iff_getElem]
  have e1:∀ m (hm:m < ((st.map Lt.nm).map D.str).length),eqD ((st.map Lt.nm).map D.str)[m] (.str n)=decide ((st[m]'(by simpa using hm)).nm=n):=by
    intro m hm
    simp[lC]
  refine ⟨by simpa using hl,?_,fun j hj=>?_⟩
  · rw[e1]
    have hl':(st.findIdx fun x=>decide (x.nm=n)) < st.length:=hl
    have:=List.findIdx_getElem (xs:=st) (p:=fun x=>decide (x.nm=n)) (w:=hl')
    exact this
  · rw[e1]
    have:=List.not_of_lt_findIdx (xs:=st) (p:=fun x=>decide (x.nm=n)) hj
    simpa using this
theorem y9 {ws:List Str}{p:Int}{f:Nat}{st out:List Lt}{l:Str}(h:¬ (0 < st.length∧(out.length:Int) < p)):gA ws p f st out l=(out,st,l):=by
  cases f with
  | zero=>rfl
  | succ f=>unfold gA;rw[if_neg h]
theorem Ey {ws:List Str}{p:Int}{f:Nat}{st out:List Lt}{l n:Str}{x:Lt}(h:0 < st.length∧(out.length:Int) < p)(hn:mP ws (st.map Lt.nm) l=some n)(hx:st[at1 n st]? = some x) :
    gA ws p (f+1) st out l=gA ws p f (st.eraseIdx (at1 n st)) (out++[x]) n:=by
  conv=>lhs;unfold gA
  rw[if_pos h,hn]
  dsimp only
  rw[hx]
theorem Jy {n k:Nat}(h:k < n):L2.ixN n (k:Int)=some k:=by rw[Ki,if_pos h]
def mw (ws:List Str)(st:List Lt):Prop:=∀ x∈st,x.nm∈ws
def b9:FSp:=fun ds μ Q=>match ds with
  | [wd,d,.tup st',.str l]=>∃ (w:Wy) (ws:List Str) (st:List Lt),(wd=w.toD∧(d=.tup (ws.map .str)∨d=.ls (ws.map .str))∧st'=ltD st∧(∀ x∈ws,PyData.strOk x=true)∧mw ws st∧ws.length≤900000∧st.length≤900000)∧
      Q (.tup [.tup (ltD (gA ws w.pc st.length st [] l).1),.tup (ltD (gA ws w.pc st.length st [] l).2.1),.str (gA ws w.pc st.length st [] l).2.2]) μ
  | _=>False
theorem l9:∀ ds μ Q,b9 ds μ Q→ds.length=4:=by
  unfold b9
  walk_at "ln"
def jG:STr:=aB (aP (aq jg (af (ah 2) (ar))) (aw 4)) (aB (aP (me (ar)) (aw 5)) (aB (aP (ah 3) (aw 6)) (aB (um (pH (TB (aj rGt (aq dZ (af (ah 4) (ar))) (TC (.int 0)))) (TB (aj rLt (aq dZ (af (ah 5) (ar))) (aj L3.rIx (ah 0) (TC (.int 1)))))) (aB (aP (jy (ah 4) (aw 0) (fo) (aj L3.rIx (ah 0) (TC (.int 0))) 1 []) (aw 7)) (aB (aP (aq dj (af (ah 1) (af (ah 7) (af (ah 6) (ar))))) (aw 6)) (fN (mf (ah 5) (OQ (ah 4) (zA (ah 7) (ah 6)))))))) (aY (bw (af (aq bz (af (ah 5) (ar))) (af (aq bz (af (ah 4) (ar))) (af (ah 6) (ar)))))))))
theorem oa:∀ ds μ Q,b9 ds μ Q→jG { nx:=fun _ μ'=>RT Q .non μ',rt:=RT Q } (ini 8 ds) μ:=by
  intro ds μ Q h
  unfold b9 at h
  split at h
  case h_2=>exact h.elim
  rename_i wd d st' l
  walk_at "ini"
  unfold jG
  walk_at "go"
  obtain ⟨w,ws,st,⟨rfl,hd,rfl,hw,hs,hl1,hl2⟩,k⟩:=h
  intro p hp
  walk_at "go"
  intro q hq
  have qp:q≠p:=fun z=>by subst z;rw[aH] at hq;cases hq
  have hqn:μ q=none:=by rw[aU qp] at hq;exact hq
  walk_at "go"
  refine ⟨fun ρ μ'=>∃ (a o:List Lt) (n:Str) (v7:Option D) (f:Nat),ρ=[some w.toD,some d,some (.tup (ltD st)),some (.str l),some (.obj p),some (.obj q),some (.str n),v7]∧μ' p=some (.lst (ltD a))∧μ' q=some (.lst (ltD o))∧Sub μ μ'∧gA ws w.pc f a o n=gA ws w.pc st.length st [] l∧a.length≤f∧a.length+o.length≤900000∧mw ws a,
    fun _ μ'=>match μ' p with
      | some (.lst ds)=>ds.length
      | _=>0,⟨st,[],l,_,st.length,rfl,by rw[aU (Ne.symm qp),aH],aH,(Sub.new hp).trans (Sub.new hq),rfl,Nat.le_refl _,by simpa using hl2,hs⟩,?_⟩
  rintro ρ μ' ⟨a,o,n,v7,f,rfl,ep,eq,sb,e,hf,hz,ha⟩
  have fin:¬ (0 < a.length∧(o.length:Int) < w.pc)→RT Q (.tup [.tup (ltD o),.tup (ltD a),.str n]) μ':=fun hn=>by
    rw[y9 hn] at e
    rw[← e] at k
    exact ⟨_,sb,k⟩
  walk_at "go"
  refine bf ep ?_
  walk_at "go"
  rw[List.length_map]
  refine kif (fun h1=>?_) fun h1=>?_
  rotate_left
  · refine bf eq ?_
    walk_at "go"
    refine bf ep ?_
    walk_at "go"
    exact fin fun h=>h1 (by have:=h.1;omega)
  walk_at "go"
  refine bf eq ?_
  walk_at "go"
  rw[List.length_map]
  refine kif (fun h2=>?_) fun h2=>?_
  rotate_left
  · refine bf eq ?_
    walk_at "go"
    refine bf ep ?_
    walk_at "go"
    exact fin fun h=>h2 h.2
  walk_at "go"
  refine bf ep ?_
  refine Dg ep (fun d=>match d with
    | .tup (x::_)=>x
    | _=>.non) (by rw[List.length_map];omega) (fun d hd μ2 _ N n=>?_) ?_
  · obtain ⟨x,hx,rfl⟩:=List.mem_map.mp hd
    walk_at "go"
    exact n
  have em:(ltD a).map (fun d=>match d with
    | .tup (x::_)=>x
    | _=>D.non)=(a.map Lt.nm).map .str:=by rw[List.map_map,List.map_map];rfl
  rw[em]
  walk_at "go"
  cases a with
  | nil=>simp at h1
  | cons x0 a0=>
  have h0:=ha x0 List.mem_cons_self
  obtain ⟨n2,hn2⟩:=zI (l:=n) h0 (show x0.nm∈(x0::a0).map Lt.nm from List.mem_cons_self)
  generalize hA:x0::a0=A at *
  have hos:∀ z∈A.map Lt.nm,PyData.strOk z=true:=fun z hz=>by
    obtain ⟨y,hy,rfl⟩:=List.mem_map.mp hz
    exact hw _ (ha y hy)
  refine ⟨ws,A.map Lt.nm,n2,⟨hd,rfl,hw,hos,hl1,hn2⟩,?_⟩
  walk_at "go"
  have hin:=FE hn2
  have hi:=GQ hin.2
  refine bf eq ?_
  walk_at "go"
  refine bf ep ?_
  walk_at "go"
  rw[A4 hos,hw _ hin.1,MU hin.2]
  simp only[true_and]
  walk_at "go"
  refine ⟨by omega,⟨by omega,by omega⟩,bf ep ?_⟩
  rw[List.length_map,Jy hi]
  walk_at "go"
  obtain ⟨x,hx⟩:∃ x,A[at1 n2 A]? = some x:=⟨A[at1 n2 A],List.getElem?_eq_getElem hi⟩
  rw[List.getElem?_map,hx]
  walk_at "go"
  refine bf (by rw[aU qp];exact eq) ⟨by simp;omega,?_⟩
  cases f with
  | zero=>omega
  | succ f=>
  rw[Ey ⟨by omega,h2⟩ hn2 hx] at e
  have le:(A.eraseIdx (at1 n2 A)).length=A.length - 1:=List.length_eraseIdx_of_lt hi
  refine ⟨⟨A.eraseIdx (at1 n2 A),o++[x],n2,_,f,rfl,?_,?_,?_,e,by omega,by simp;omega,fun y hy=>ha y (List.mem_of_mem_eraseIdx hy)⟩,?_⟩
  · rw[aU (Ne.symm qp),aH,tq]
  · rw[aH];simp[ltD]
  · intro z u h
    rw[aU (fun e=>by subst e;rw[hqn] at h;cases h),aU (fun e=>by subst e;rw[hp] at h;cases h)]
    exact sb z u h
  · rw[aU (Ne.symm qp),aH,ep]
    simp[List.length_eraseIdx,hi]
    omega
def eQ (w:Wy)(ws:List Str)(st:List Lt)(l:Str):List Lt×List Lt×Str:=if w.tn then gA ws w.pc st.length st [] l else (st.take w.pc.toNat,st.drop w.pc.toNat,Str.ofString "")
theorem J2 (b:Bool):PyData.strOk (wx b)=true:=by cases b<;>decide +kernel
theorem Eu:PyData.strOk (Str.ofString "turns")=true:=by decide +kernel
theorem MH (b:Bool):decide (wx b=Str.ofString "turns")=b:=by cases b<;>decide +kernel
def fv:FSp:=fun ds μ Q=>match ds with
  | [wd,d,.tup st',.str l]=>∃ (w:Wy) (ws:List Str) (st:List Lt),(wd=w.toD∧(w.tn=true→(d=.tup (ws.map .str)∨d=.ls (ws.map .str))∧(∀ x∈ws,PyData.strOk x=true)∧mw ws st∧ws.length≤900000)∧st'=ltD st∧st.length≤900000∧0≤w.pc)∧
      Q (.tup [.tup (ltD (eQ w ws st l).1),.tup (ltD (eQ w ws st l).2.1),.str (eQ w ws st l).2.2]) μ
  | _=>False
theorem vI:∀ ds μ Q,fv ds μ Q→ds.length=4:=by
  unfold fv
  walk_at "ln"
def sH:STr:=aB (bY (TB (aj rEq (aj L3.rIx (ah 0) (TC (.int 4))) (TC (.str "turns")))) (aY (aq b9 (af (ah 0) (af (ah 1) (af (ah 2) (af (ah 3) (ar))))))) (bx)) (aY (bw (af (aq bz (af (TSl (ah 2) (ONo) (lH (aj L3.rIx (ah 0) (TC (.int 1))))) (ar))) (af (aq bz (af (TSl (ah 2) (lH (aj L3.rIx (ah 0) (TC (.int 1)))) (ONo)) (ar))) (af (TC (.str "")) (ar))))))
theorem yN:∀ ds μ Q,fv ds μ Q→sH { nx:=fun _ μ'=>RT Q .non μ',rt:=RT Q } (ini 4 ds) μ:=by
  intro ds μ Q h
  unfold fv at h
  split at h
  case h_2=>exact h.elim
  rename_i wd d st' l
  walk_at "ini"
  unfold sH
  walk_at "go"
  obtain ⟨w,ws,st,⟨rfl,ht,rfl,hl,hp⟩,k⟩:=h
  walk_at "go"
  rw[J2,Eu,MH]
  unfold eQ at k
  refine ⟨⟨rfl,rfl⟩,?_⟩
  cases e:w.tn with
  | true=>
    rw[e,if_pos rfl] at k
    obtain ⟨h1,h2,h3,h4⟩:=ht e
    walk_at "go"
    exact ⟨w,ws,st,⟨rfl,h1,rfl,h2,h3,h4,hl⟩,_,.refl _,k⟩
  | false=>
    rw[e,if_neg (by decide)] at k
    walk_at "go"
    rw[RO _ hp,Tj _ hp,LJ,KP]
    exact ⟨_,.refl _,k⟩
def bI:FSp:=fun ds μ Q=>match ds with
  | [.int a,.int b]=>(0≤a∧0 < b∧gE b)∧Q (fr (a.fdiv (Int.gcd a b)) (b.fdiv (Int.gcd a b))) μ
  | _=>False
theorem zN:∀ ds μ Q,bI ds μ Q→ds.length=2:=by
  unfold bI
  walk_at "ln"
def xy:STr:=aB (qh 2 3 (af (ah 0) (af (ah 1) (ar)))) (aB (um (TB (aj rGt (ah 3) (TC (.int 0)))) (qh 2 3 (af (ah 3) (af (aj kE (ah 2) (ah 3)) (ar))))) (aY (bw (af (aj l6 (ah 0) (ah 2)) (af (aj l6 (ah 1) (ah 2)) (ar))))))
theorem Dj:∀ ds μ Q,bI ds μ Q→xy { nx:=fun _ μ'=>RT Q .non μ',rt:=RT Q } (ini 4 ds) μ:=by
  intro ds μ Q h
  unfold bI at h
  split at h
  case h_2=>exact h.elim
  rename_i a b
  walk_at "ini"
  unfold xy
  walk_at "go"
  obtain ⟨⟨a0,b0,b1⟩,k⟩:=h
  refine ⟨fun ρ μ'=>μ'=μ∧∃ x y:Int,ρ=[some (.int a),some (.int b),some (.int x),some (.int y)]∧0≤x∧0≤y∧Int.gcd x y=Int.gcd a b,mz 3,⟨rfl,a,b,rfl,a0,by omega,rfl⟩,?_⟩
  rintro ρ _ ⟨rfl,x,y,rfl,x0,y0,e⟩
  walk_at "go"
  refine kif (fun hy=>?_) fun hy=>?_
  · walk_at "go"
    refine ⟨by omega,⟨_,_,rfl,y0,fm0 hy,?_⟩,?_⟩
    · rw[xM];exact e
    · have:=fm1 (a:=x) hy
      have:=fm0 (a:=x) hy
      simp only[mz,lk]
      omega
  · have hy0:y=0:=by omega
    subst hy0
    rw[Int.gcd_zero_right] at e
    have hx:x=(Int.gcd a b:Int):=by omega
    subst hx
    have gp:0 < Int.gcd a b:=Int.gcd_pos_of_ne_zero_right a (by omega)
    have gl:(Int.gcd a b:Int)≤b:=Int.gcd_le_right a b0
    have dv:js (Int.gcd a b:Int):=⟨by omega,by unfold gE at *;omega⟩
    walk_at "go"
    exact ⟨dv,dv,_,.refl _,k⟩
def bO:FSp:=fun ds μ Q=>match ds with
  | [.obj b,.int lo,.int hi]=>(Pot μ b∧0≤lo∧lo≤hi∧hi≤60)∧∀ p q μ',FrB lo hi p q→q≤7→dQ b μ μ'→Q (fr p q) μ'
  | _=>False
theorem rO:∀ ds μ Q,bO ds μ Q→ds.length=3:=by
  unfold bO
  walk_at "ln"
def nA:STr:=aB (aP (aj L3.rIx (fX (af (TC (.int 1)) (af (TC (.int 1)) (af (TC (.int 2)) (af (TC (.int 3)) (af (TC (.int 5)) (af (TC (.int 7)) (ar)))))))) (aq ay (af (ah 0) (af (TC (.int 6)) (ar))))) (aw 3)) (aY (aq bI (af (aj aR (aj eO (ah 1) (ah 3)) (aq ay (af (ah 0) (af (aj aR (aj eO (aj kj (ah 2) (ah 1)) (ah 3)) (TC (.int 1))) (ar))))) (af (ah 3) (ar)))))
theorem uM:∀ ds μ Q,bO ds μ Q→nA { nx:=fun _ μ'=>RT Q .non μ',rt:=RT Q } (ini 4 ds) μ:=by
  intro ds μ Q h
  unfold bO at h
  split at h
  case h_2=>exact h.elim
  rename_i b lo hi
  walk_at "ini"
  unfold nA
  walk_at "go"
  obtain ⟨⟨hP,l0,l1,l2⟩,k⟩:=h
  refine aV hP (by decide) (by decide) fun k1 μ1 k10 k11 P1=>?_
  have al:∀ d∈([.int 1,.int 1,.int 2,.int 3,.int 5,.int 7]:List D),IsI 1 7 d:=aD ⟨_,rfl,by decide,by decide⟩ (aD ⟨_,rfl,by decide,by decide⟩ (aD ⟨_,rfl,by decide,by decide⟩ (aD ⟨_,rfl,by decide,by decide⟩ (aD ⟨_,rfl,by decide,by decide⟩ (aD ⟨_,rfl,by decide,by decide⟩ eU)))))
  obtain ⟨_,e1,m,rfl,m0,m1⟩:=fg al k10 k11
  walk_at "go"
  rw[e1]
  walk_at "go"
  have sm:S64 m:=by unfold S64;omega
  have n1:0≤(hi - lo)*m:=Int.mul_nonneg (by omega) (by omega)
  have n2:(hi - lo)*m≤60*7:=Int.mul_le_mul (by omega) (by omega) (by omega) (by decide)
  refine ⟨.inl (.inr sm),.inl (.inr sm),?_⟩
  refine aV P1.pot (by omega) (by omega) fun k2 μ2 k20 k21 P2=>?_
  walk_at "go"
  have n3:0≤lo*m:=Int.mul_nonneg l0 (by omega)
  have e2:(hi - lo)*m=hi*m - lo*m:=Int.sub_mul hi lo m
  refine ⟨⟨by omega,by omega,by unfold gE;omega⟩,_,.refl _,k _ _ μ2 (ES (by omega) (by omega) (by omega) (by omega)) ?_ (P1.trans P2)⟩
  obtain ⟨g,p,q,g0,ea,eb,ep,eq,q0,qb,gg⟩:=jX (a:=lo*m+k2) (show 0 < m by omega)
  rw[eq];omega
theorem C9 (w:Wd)(i:Decidable (w.str=Str.ofString "still")):@decide (w.str=Str.ofString "still") i=decide (w=.still):=by
  have e:(w.str=Str.ofString "still")↔w=.still:=by cases w<;>simp[Wd.str,dO,c9,dH,dP,dX,dI,eP,fe,c8,dU,dF,dG,dN,eV,dJ,eX,dE,fc,dM,fb]
  cases i with
  | isTrue h=>exact (decide_eq_true (e.mp h)).symm
  | isFalse h=>exact (decide_eq_false fun z=>h (e.mpr z)).symm
theorem E9 (w:Wd)(i:Decidable (w.str=Str.ofString "step")):@decide (w.str=Str.ofString "step") i=decide (w=.step):=by
  have e:(w.str=Str.ofString "step")↔w=.step:=by cases w<;>simp[Wd.str,dO,c9,dH,dP,dX,dI,eP,fe,c8,dU,dF,dG,dN,eV,dJ,eX,dE,fc,dM,fb]
  cases i with
  | isTrue h=>exact (decide_eq_true (e.mp h)).symm
  | isFalse h=>exact (decide_eq_false fun z=>h (e.mpr z)).symm
theorem CQ (w:Wd)(i:Decidable (w.str=Str.ofString "swell")):@decide (w.str=Str.ofString "swell") i=decide (w=.swell):=by
  have e:(w.str=Str.ofString "swell")↔w=.swell:=by cases w<;>simp[Wd.str,dO,c9,dH,dP,dX,dI,eP,fe,c8,dU,dF,dG,dN,eV,dJ,eX,dE,fc,dM,fb]
  cases i with
  | isTrue h=>exact (decide_eq_true (e.mp h)).symm
  | isFalse h=>exact (decide_eq_false fun z=>h (e.mpr z)).symm
theorem Ib (w:Wd)(i:Decidable (w.str=Str.ofString "heed")):@decide (w.str=Str.ofString "heed") i=decide (w=.heed):=by
  have e:(w.str=Str.ofString "heed")↔w=.heed:=by cases w<;>simp[Wd.str,dO,c9,dH,dP,dX,dI,eP,fe,c8,dU,dF,dG,dN,eV,dJ,eX,dE,fc,dM,fb]
  cases i with
  | isTrue h=>exact (decide_eq_true (e.mp h)).symm
  | isFalse h=>exact (decide_eq_false fun z=>h (e.mpr z)).symm
theorem Nd (w:Wd):PyData.strOk w.str=true:=by cases w<;>simp[Wd.str,mi,pA,mG,qx,qY]
theorem Mn {lo hi hi' p q:Int}(h:FrB lo hi p q)(hh:hi≤hi'):FrB lo hi' p q:=⟨h.q0,h.q1,h.g,h.ge,by have:=h.le;have:=Int.mul_le_mul_of_nonneg_right hh (Int.le_of_lt h.q0);omega⟩
def gv:FSp:=fun ds μ Q=>match ds with
  | [.obj b,.int m]=>(Pot μ b∧1≤m∧m≤60)∧∀ (R:RN) μ',R.Ok→R.r≤m*R.s→dQ b μ μ'→Q R.toD μ'
  | _=>False
theorem Ck:∀ ds μ Q,gv ds μ Q→ds.length=2:=by
  unfold gv
  walk_at "ln"
def kJ:STr:=aB (aP (aj aR (TC (.int 1)) (aq ay (af (ah 0) (af (TC (.int 5)) (ar))))) (aw 5)) (aB (aP (aq bI (af (aj aR (TC (.int 1)) (aq ay (af (ah 0) (af (aj eO (TC (.int 2)) (ah 5)) (ar))))) (af (ah 5) (ar)))) (aw 6)) (aB (aP (aq bI (af (aj aR (TC (.int 1)) (aq ay (af (ah 0) (af (ah 5) (ar))))) (af (aj aR (ah 5) (TC (.int 1))) (ar)))) (aw 7)) (aB (bY (TB (aj rEq (ah 2) (TC (.str "still")))) (aY (bw (af (ah 2) (af (ah 3) (ar))))) (bx)) (aB (bY (TB (aj rEq (ah 2) (TC (.str "step")))) (aY (bw (af (ah 2) (af (ah 3) (af (ah 6) (af (ah 7) (af (ah 4) (ar)))))))) (bx)) (aB (bY (TB (aj rEq (ah 2) (TC (.str "swell")))) (aY (bw (af (ah 2) (af (ah 3) (af (aq bI (af (aj aR (aj L3.rIx (ah 6) (TC (.int 0))) (aj L3.rIx (ah 6) (TC (.int 1)))) (af (aj L3.rIx (ah 6) (TC (.int 1))) (ar)))) (af (ah 7) (af (ah 4) (ar)))))))) (bx)) (aB (bY (TB (aj rEq (ah 2) (TC (.str "heed")))) (aY (bw (af (ah 2) (af (ah 3) (af (ah 6) (af (aq bI (af (aj aR (TC (.int 1)) (aq ay (af (ah 0) (af (ah 5) (ar))))) (af (ah 5) (ar)))) (af (ah 4) (ar)))))))) (bx)) (aB (aP (aq ay (af (ah 0) (af (TC (.int 4)) (ar)))) (aw 8)) (aY (bw (af (ah 2) (af (ah 3) (af (ah 6) (af (ah 8) (af (aj aR (ah 8) (aq ay (af (ah 0) (af (TC (.int 5)) (ar))))) (af (ah 4) (ar))))))))))))))))
def Bl:STr:=aB (aP (aj L3.rIx (fX (af (TC (.str "still")) (af (TC (.str "step")) (af (TC (.str "swell")) (af (TC (.str "heed")) (af (TC (.str "calm")) (ar))))))) (aq ay (af (ah 0) (af (TC (.int 5)) (ar))))) (aw 2)) (aB (qh 3 4 (af (aq bO (af (ah 0) (af (TC (.int 1)) (af (ah 1) (ar))))) (af (aq bO (af (ah 0) (af (TC (.int 1)) (af (ah 1) (ar))))) (ar)))) (aB (bY (TB (aj rGt (aj eO (aj L3.rIx (ah 3) (TC (.int 0))) (aj L3.rIx (ah 4) (TC (.int 1)))) (aj eO (aj L3.rIx (ah 4) (TC (.int 0))) (aj L3.rIx (ah 3) (TC (.int 1)))))) (qh 3 4 (af (ah 4) (af (ah 3) (ar)))) (bx)) (kJ)))
theorem GZ:∀ ds μ Q,gv ds μ Q→Bl { nx:=fun _ μ'=>RT Q .non μ',rt:=RT Q } (ini 9 ds) μ:=by
  intro ds μ Q h
  unfold gv at h
  split at h
  case h_2=>exact h.elim
  rename_i b m
  walk_at "ini"
  unfold Bl
  walk_at "go"
  obtain ⟨⟨hP,m0,m1⟩,k⟩:=h
  refine aV hP (by decide) (by decide) fun k1 μ1 k10 k11 P1=>?_
  have al:∀ d∈([.str "still", .str "step", .str "swell", .str "heed", .str "calm"]:List D),∃ w:Wd,d=.str w.str:=aD ⟨.still,rfl⟩ (aD ⟨.step,rfl⟩ (aD ⟨.swell,rfl⟩ (aD ⟨.heed,rfl⟩ (aD ⟨.calm,rfl⟩ eU))))
  obtain ⟨_,e1,wd,rfl⟩:=fg al k10 k11
  walk_at "go"
  rw[e1]
  walk_at "go"
  refine ⟨⟨P1.pot,by decide,by omega,by omega⟩,fun p q μ2 F1 q7 P2=>?_⟩
  walk_at "go"
  refine ⟨⟨P2.pot,by decide,by omega,by omega⟩,fun r s μ3 F2 s7 P3=>?_⟩
  have sq:S64 q:=by have:=F1.q0;unfold S64;omega
  have ss:S64 s:=by have:=F2.q0;unfold S64;omega
  simp only[fr]
  walk_at "go"
  refine ⟨.inl (.inr ss),.inl (.inr sq),?_⟩
  have big:∀ (p q r s:Int) (μ3:Mu) (v5 v6 v7 v8:Option D),dQ b μ μ3→FrB 1 m p q→FrB 1 m r s→p*s≤r*q→
      kJ { nx:=fun _ μ'=>RT Q .non μ',rt:=RT Q } [some (.obj b),some (.int m),some (.str wd.str),some (.tup [.int p,.int q]),some (.tup [.int r,.int s]),v5,v6,v7,v8] μ3:=by
    intro p q r s μ3 v5 v6 v7 v8 P3 F1 F2 wt
    have F1':FrB 1 60 p q:=Mn F1 m1
    have F2':FrB 1 60 r s:=Mn F2 m1
    have rs:r≤m*s:=F2.le
    have ps:p≤m*q:=F1.le
    unfold kJ
    walk_at "go"
    refine aV P3.pot (by decide) (by decide) fun n μ4 n0 n1 P4=>?_
    walk_at "go"
    refine ⟨.inl (.inl (by unfold S64;decide)),?_⟩
    refine aV P4.pot (by omega) (by omega) fun u μ5 u0 u1 P5=>?_
    walk_at "go"
    refine ⟨⟨by omega,by omega,by unfold gE;omega⟩,?_⟩
    have U:=G7 (lo:=0) (hi:=2) (a:=1+u) (b:=1+n) (by omega) (by omega) (by omega) (by omega)
    generalize (1+u).fdiv (Int.gcd (1+u) (1+n))=x at *
    generalize (1+n).fdiv (Int.gcd (1+u) (1+n))=y at *
    have y0:=U.q0
    have yb:=U.q1
    have xb:=U.le
    have x0:0 < x:=by have:=U.ab;omega
    have U60:FrA 0 60 x y:=⟨⟨U.q0,U.q1,U.g,U.ge,by omega⟩,U.ab⟩
    walk_at "go"
    refine aV P5.pot (by omega) (by omega) fun w μ6 w0 w1 P6=>?_
    walk_at "go"
    refine ⟨⟨by omega,by omega,by unfold gE;omega⟩,?_⟩
    have G:=PV (hi:=1) (a:=1+w) (b:=1+n+1) (by omega) (by omega) (by omega) (by omega)
    generalize (1+w).fdiv (Int.gcd (1+w) (1+n+1))=a at *
    generalize (1+n+1).fdiv (Int.gcd (1+w) (1+n+1))=c at *
    have G1:=QP G
    have G2:a < c:=by have:=G.be;omega
    have P36:=P3.trans (P4.trans (P5.trans P6))
    walk_at "go"
    simp only[C9,E9,CQ,Ib,Nd]
    walk_at "go"
    cases wd with
    | still=>
      simp only[reduceCtorEq,decide_true,decide_false]
      walk_at "go"
      have R:RN.Ok ⟨.still,p,q,1,1,1,1,0,0,p,q⟩:=⟨F1',F1',Int.le_refl _,Hh (by decide) (by decide),nofun,Hh (by decide) (by decide),(fun z=>by rcases z with z | z<;>cases z),Int.le_refl 0,Int.le_refl 0,(show (0:Int)≤60 by decide),fun _=>⟨rfl,rfl⟩⟩
      exact ⟨_,.refl _,k _ μ6 R ps P36⟩
    | step=>
      simp only[reduceCtorEq,decide_true,decide_false]
      walk_at "go"
      have R:RN.Ok ⟨.step,p,q,x,y,a,c,0,0,r,s⟩:=⟨F1',F2',wt,U60,nofun,G1,fun _=>G2,Int.le_refl 0,Int.le_refl 0,(show (0:Int)≤60 by decide),nofun⟩
      exact ⟨_,.refl _,k _ μ6 R rs P36⟩
    | swell=>
      simp only[reduceCtorEq,decide_true,decide_false,fr]
      walk_at "go"
      refine ⟨⟨by omega,y0,by unfold gE;omega⟩,?_⟩
      have V:=G7 (lo:=1) (hi:=60) (a:=x+y) (b:=y) y0 yb (by omega) (by omega)
      generalize (x+y).fdiv (Int.gcd (x+y) y)=x2 at *
      generalize y.fdiv (Int.gcd (x+y) y)=y2 at *
      have v1:=V.ab
      have vq:=V.q0
      have V2:FrA 0 60 x2 y2:=⟨⟨V.q0,V.q1,V.g,by omega,V.le⟩,by omega⟩
      have R:RN.Ok ⟨.swell,p,q,x2,y2,a,c,0,0,r,s⟩:=⟨F1',F2',wt,V2,fun _=>(by show y2 < x2;omega),G1,fun _=>G2,Int.le_refl 0,Int.le_refl 0,(show (0:Int)≤60 by decide),nofun⟩
      walk_at "go"
      exact ⟨_,.refl _,k _ μ6 R rs P36⟩
    | heed=>
      simp only[reduceCtorEq,decide_true,decide_false]
      walk_at "go"
      refine aV P6.pot (by omega) (by omega) fun z μ7 z0 z1 P7=>?_
      walk_at "go"
      refine ⟨⟨by omega,by omega,by unfold gE;omega⟩,?_⟩
      have V:=G7 (lo:=0) (hi:=1) (a:=1+z) (b:=1+n) (by omega) (by omega) (by omega) (by omega)
      generalize (1+z).fdiv (Int.gcd (1+z) (1+n))=a2 at *
      generalize (1+n).fdiv (Int.gcd (1+z) (1+n))=c2 at *
      have R:RN.Ok ⟨.heed,p,q,x,y,a2,c2,0,0,r,s⟩:=⟨F1',F2',wt,U60,nofun,V,(fun z=>by rcases z with z | z<;>cases z),Int.le_refl 0,Int.le_refl 0,(show (0:Int)≤60 by decide),nofun⟩
      walk_at "go"
      exact ⟨_,.refl _,k _ μ7 R rs (P36.trans P7)⟩
    | calm=>
      simp only[reduceCtorEq,decide_true,decide_false]
      walk_at "go"
      refine aV P6.pot (by decide) (by decide) fun z μ7 z0 z1 P7=>?_
      walk_at "go"
      refine aV P7.pot (by decide) (by decide) fun z2 μ8 z20 z21 P8=>?_
      walk_at "go"
      have R:RN.Ok ⟨.calm,p,q,x,y,1,1,z,z+z2,r,s⟩:=⟨F1',F2',wt,U60,nofun,Hh (by decide) (by decide),(fun z=>by rcases z with z | z<;>cases z),z0,(by show z≤z+z2;omega),(by show z+z2≤60;omega),nofun⟩
      exact ⟨_,.refl _,k _ μ8 R rs (P36.trans (P7.trans P8))⟩
  have P13:=P1.trans (P2.trans P3)
  refine kif (fun h1=>?_) fun h1=>?_
  · walk_at "go"
    exact big r s p q μ3 _ _ _ _ P13 F2 F1 (by omega)
  · exact big p q r s μ3 _ _ _ _ P13 F1 F2 (by omega)
abbrev wyD (ws:List Wy):List D:=ws.map Wy.toD
structure Sn where
  nm:Str
  rd:List Str
  bt:Int
  bg:Int
  mn:Option Int
  rl:RN
def Sn.toD (x:Sn):D:=.tup [.str x.nm,.tup (x.rd.map .str),.int x.bt,.int x.bg,c5 x.mn,x.rl.toD]
abbrev snD (ss:List Sn):List D:=ss.map Sn.toD
structure Sn.Ok (wn:List Str) (m:Int) (x:Sn):Prop where
  n:PyData.strOk x.nm=true
  r0:x.rd≠[]
  r:x.rd.Sublist wn
  b0:1≤x.bt
  b1:x.bt≤8
  g0:0≤x.bg
  g1:x.bg≤1000000
  mm:∀ i,x.mn=some i→0≤i∧i≤1000000
  k:x.rl.Ok
  l:x.rl.r≤m*x.rl.s
structure Pn where
  g:Int
  ws:List Wy
  ss:List Sn
def Pn.toD (p:Pn):D:=.tup [.int p.g,.tup (wyD p.ws),.tup (snD p.ss)]
abbrev Pn.wn (p:Pn):List Str:=p.ws.map Wy.nm
abbrev Pn.sn (p:Pn):List Str:=p.ss.map Sn.nm
structure Pn.Ok (m:Int) (p:Pn):Prop where
  g:Gd p.g
  w0:0 < p.ws.length
  w1:p.ws.length≤6
  wd:p.wn.Nodup
  w:∀ x∈p.ws,x.Ok
  s1:p.ss.length≤8
  sd:p.sn.Pairwise fun a b=>ltS a b=true
  s:∀ x∈p.ss,x.Ok p.wn m
theorem Ja {a b:Str}(h:a.cps.toList=b.cps.toList):a=b:=by
  cases a with | mk x=>cases b with | mk y=>
  congr 1
  exact Array.toList_inj.mp h
theorem OR {a b:Str}(h1:ltS b a=false)(h2:a≠b):ltS a b=true:=by
  unfold ltS at *
  rw[decide_eq_false_iff_not,List.not_lt] at h1
  rw[decide_eq_true_eq]
  refine Decidable.byContradiction fun h3=>h2 (Ja (List.le_antisymm h1 ?_))
  exact List.not_lt.mp h3
theorem pw_strict {l:List Str}(h:l.Pairwise fun a b=>ltS b a=false)(hn:l.Nodup):l.Pairwise fun a b=>ltS a b=true:=by
  induction h with
  | nil=>exact .nil
  | @cons a l h1 h2 ih=>
    rw[List.nodup_cons] at hn
    exact .cons (fun b hb=>OR (h1 b hb) fun e=>hn.1 (e ▸ hb)) (ih hn.2)
def iw:FSp:=fun ds μ Q=>match ds with
  | [.obj b,.ls ns']=>∃ ns:List Str,(Pot μ b∧ns'=ns.map .str∧(∀ n∈ns,n∈cS)∧ns.length≤17)∧∀ (ws:List Wy) μ',ws.map Wy.nm=ns→(∀ w∈ws,w.Ok)→dQ b μ μ'→Q (.tup (wyD ws)) μ'
  | _=>False
theorem Dt:∀ ds μ Q,iw ds μ Q→ds.length=2:=by
  unfold iw
  walk_at "ln"
def BG:STr:=aB (aP (me (ar)) (aw 2)) (aB (kg (eL (ah 1)) (aw 3) (aB (aP (aj L3.rIx (fX (af (TC (.int 1)) (af (TC (.int 1)) (af (TC (.int 2)) (af (TC (.int 3)) (af (aj aR (TC (.int 1)) (aq ay (af (ah 0) (af (TC (.int 20)) (ar))))) (ar))))))) (aq ay (af (ah 0) (af (TC (.int 5)) (ar))))) (aw 4)) (aB (aP (aj L3.rIx (fX (af (aj aR (TC (.int 1)) (aq ay (af (ah 0) (af (TC (.int 3)) (ar))))) (af (aj aR (TC (.int 2)) (aq ay (af (ah 0) (af (TC (.int 8)) (ar))))) (af (aj aR (TC (.int 5)) (aq ay (af (ah 0) (af (TC (.int 56)) (ar))))) (ar))))) (aq ay (af (ah 0) (af (TC (.int 3)) (ar))))) (aw 5)) (aB (aP (aj L3.rIx (fX (af (TC .non) (af (aq ay (af (ah 0) (af (aj aR (ah 5) (TC (.int 1))) (ar)))) (af (aq ay (af (ah 0) (af (TC (.int 61)) (ar)))) (ar))))) (aq ay (af (ah 0) (af (TC (.int 3)) (ar))))) (aw 6)) (fN (mf (ah 2) (bw (af (ah 3) (af (ah 4) (af (ah 5) (af (ah 6) (af (aj L3.rIx (fX (af (TC (.str "line")) (af (TC (.str "turns")) (ar)))) (aq ay (af (ah 0) (af (TC (.int 2)) (ar))))) (ar))))))))))))) (aY (aq bz (af (ah 2) (ar)))))
theorem Ii:∀ ds μ Q,iw ds μ Q→BG { nx:=fun _ μ'=>RT Q .non μ',rt:=RT Q } (ini 7 ds) μ:=by
  intro ds μ Q h
  unfold iw at h
  split at h
  case h_2=>exact h.elim
  rename_i b ns'
  walk_at "ini"
  unfold BG
  walk_at "go"
  obtain ⟨ns,⟨hP,rfl,hn,hl⟩,k⟩:=h
  intro p hp
  have pb:=hP.ne hp
  walk_at "go"
  refine cX (fun r ρ μ'=>∃ (ws:List Wy) (rs:List Str) (v3 v4 v5 v6:Option D),r=rs.map .str∧ρ=[some (.obj b),some (.ls (ns.map .str)),some (.obj p),v3,v4,v5,v6]∧μ' p=some (.lst (wyD ws))∧Pot μ' b∧Kp b μ μ'∧(∀ w∈ws,w.Ok)∧ws.map Wy.nm++rs=ns) ?_ ?_ _ _ _ ⟨[],ns,_,_,_,_,rfl,rfl,aH,hP.up pb,Kp.new hp,(fun _ h=>nomatch h),rfl⟩
  · rintro ρ μ' ⟨ws,rs,v3,v4,v5,v6,er,rfl,ep,P',kp,hw,e⟩
    have:rs=[]:=by cases rs with | nil=>rfl | cons=>cases er
    subst this
    rw[List.append_nil] at e
    walk_at "go"
    exact bf ep (Lq P' kp fun μ2 P2=>k ws μ2 e hw P2)
  · rintro d r ρ μ' N ⟨ws,rs,v3,v4,v5,v6,er,rfl,ep,P',kp,hw,e⟩ hN
    cases rs with
    | nil=>cases er
    | cons n rs=>
    cases er
    have hnn:n∈cS:=hn n (by rw[← e];simp)
    have hlen:ws.length≤17:=by have:=congrArg List.length e;simp at this;omega
    walk_at "go"
    refine aV P' (by decide) (by decide) fun k1 μ1 k10 k11 P1=>?_
    walk_at "go"
    refine aV P1.pot (by decide) (by decide) fun k2 μ2 k20 k21 P2=>?_
    have al:∀ d∈([.int 1,.int 1,.int 2,.int 3,.int (1+k1)]:List D),IsI 1 20 d:=aD ⟨_,rfl,by decide,by decide⟩ (aD ⟨_,rfl,by decide,by decide⟩ (aD ⟨_,rfl,by decide,by decide⟩ (aD ⟨_,rfl,by decide,by decide⟩ (aD ⟨_,rfl,by omega,by omega⟩ eU))))
    obtain ⟨_,e1,pc,rfl,pc0,pc1⟩:=fg al k20 k21
    walk_at "go"
    rw[e1]
    walk_at "go"
    refine aV P2.pot (by decide) (by decide) fun k3 μ3 k30 k31 P3=>?_
    walk_at "go"
    refine aV P3.pot (by decide) (by decide) fun k4 μ4 k40 k41 P4=>?_
    walk_at "go"
    refine aV P4.pot (by decide) (by decide) fun k5 μ5 k50 k51 P5=>?_
    walk_at "go"
    refine aV P5.pot (by decide) (by decide) fun k6 μ6 k60 k61 P6=>?_
    have al2:∀ d∈([.int (1+k3),.int (2+k4),.int (5+k5)]:List D),IsI 1 60 d:=aD ⟨_,rfl,by omega,by omega⟩ (aD ⟨_,rfl,by omega,by omega⟩ (aD ⟨_,rfl,by omega,by omega⟩ eU))
    obtain ⟨_,e2,rm,rfl,rm0,rm1⟩:=fg al2 k60 k61
    walk_at "go"
    rw[e2]
    walk_at "go"
    refine aV P6.pot (by omega) (by omega) fun k7 μ7 k70 k71 P7=>?_
    walk_at "go"
    refine aV P7.pot (by decide) (by decide) fun k8 μ8 k80 k81 P8=>?_
    walk_at "go"
    refine aV P8.pot (by decide) (by decide) fun k9 μ9 k90 k91 P9=>?_
    have al3:∀ d∈([.non,.int k7,.int k8]:List D),∃ o:Option Int,d=c5 o∧∀ i,o=some i→0≤i∧i≤60:=aD ⟨none,rfl,nofun⟩ (aD ⟨some _,rfl,fun i e=>by cases e;omega⟩ (aD ⟨some _,rfl,fun i e=>by cases e;omega⟩ eU))
    obtain ⟨_,e3,o,rfl,ho⟩:=fg al3 k90 k91
    walk_at "go"
    rw[e3]
    walk_at "go"
    have P19:=P1.trans (P2.trans (P3.trans (P4.trans (P5.trans (P6.trans (P7.trans (P8.trans P9)))))))
    have ep9:μ9 p=some (.lst (wyD ws)):=by rw[P19.oth p pb];exact ep
    refine bf ep9 ?_
    refine aV P9.pot (by decide) (by decide) fun k11 μ10 k110 k111 P10=>?_
    have al4:∀ d∈([.str "line", .str "turns"]:List D),∃ t:Bool,d=.str (wx t):=aD ⟨false,rfl⟩ (aD ⟨true,rfl⟩ eU)
    obtain ⟨_,e4,tn,rfl⟩:=fg al4 k110 k111
    walk_at "go"
    rw[e4]
    walk_at "go"
    have ep10:μ10 p=some (.lst (wyD ws)):=by rw[P10.oth p pb];exact ep9
    refine bf ep10 ⟨by simp;omega,hN _ _ ⟨ws++[⟨n,pc,rm,o,tn⟩],rs,_,_,_,_,rfl,rfl,?_,P10.pot.up pb,((kp.trans P19.kp).trans P10.kp).put hp,?_,?_⟩⟩
    · rw[aH];simp[wyD,Wy.toD]
    · intro x hx
      rcases List.mem_append.mp hx with z | z
      · exact hw x z
      · have:x=⟨n,pc,rm,o,tn⟩:=by simpa using z
        subst this
        exact ⟨F8 _ hnn,pc0,pc1,rm0,rm1,ho⟩
    · rw[← e];simp
theorem sub_snoc {α:Type}{a b:List α}(h:a.Sublist b)(x:α):(a++[x]).Sublist (b++[x]):=h.append (List.Sublist.refl _)
def fk:FSp:=fun ds μ Q=>match ds with
  | [.obj b,.str n,.tup ws',.int m]=>∃ ws:List Wy,(Pot μ b∧n∈cS∧ws'=wyD ws∧(0 < ws.length∧ws.length≤17)∧1≤m∧m≤60)∧∀ (x:Sn) μ',x.Ok (ws.map Wy.nm) m→x.nm=n→dQ b μ μ'→Q x.toD μ'
  | _=>False
theorem vi:∀ ds μ Q,fk ds μ Q→ds.length=4:=by
  unfold fk
  walk_at "ln"
def iM:STr:=aB (aP (aj L3.rIx (fX (af (TC (.int 1)) (af (TC (.int 1)) (af (TC (.int 2)) (af (TC (.int 3)) (af (aj aR (TC (.int 1)) (aq ay (af (ah 0) (af (TC (.int 8)) (ar))))) (ar))))))) (aq ay (af (ah 0) (af (TC (.int 5)) (ar))))) (aw 5)) (aB (aP (aj L3.rIx (fX (af (TC .non) (af (TC .non) (af (aq ay (af (ah 0) (af (TC (.int 4)) (ar)))) (af (aq ay (af (ah 0) (af (TC (.int 40)) (ar)))) (ar)))))) (aq ay (af (ah 0) (af (TC (.int 4)) (ar))))) (aw 6)) (aY (bw (af (ah 1) (af (ah 4) (af (ah 5) (af (aj L3.rIx (fX (af (TC (.int 0)) (af (TC (.int 0)) (af (aq ay (af (ah 0) (af (TC (.int 3)) (ar)))) (af (aq ay (af (ah 0) (af (TC (.int 12)) (ar)))) (ar)))))) (aq ay (af (ah 0) (af (TC (.int 4)) (ar))))) (af (ah 6) (af (aq gv (af (ah 0) (af (ah 3) (ar)))) (ar))))))))))
def tF:STr:=aB (aP (aq bz (af (bW (eL (ah 2)) (aw 0) (TB (aj rEq (aq ay (af (ah 1) (af (TC (.int 2)) (ar)))) (TC (.int 0)))) (aj L3.rIx (ah 0) (TC (.int 0))) 1 [0]) (ar))) (aw 4)) (aB (bY (TB (aj rEq (aq dZ (af (ah 4) (ar))) (TC (.int 0)))) (aP (bw (af (aj L3.rIx (aj L3.rIx (ah 2) (aq ay (af (ah 0) (af (aq dZ (af (ah 2) (ar))) (ar))))) (TC (.int 0))) (ar))) (aw 4)) (bx)) (iM))
theorem Ad:∀ ds μ Q,fk ds μ Q→tF { nx:=fun _ μ'=>RT Q .non μ',rt:=RT Q } (ini 7 ds) μ:=by
  intro ds μ Q h
  unfold fk at h
  split at h
  case h_2=>exact h.elim
  rename_i b n ws' m
  walk_at "ini"
  unfold tF
  walk_at "go"
  obtain ⟨ws,⟨hP,hn,rfl,⟨w0,w1⟩,m0,m1⟩,k⟩:=h
  have rest:∀ (rd:List Str) (μ1:Mu) (v5 v6:Option D),dQ b μ μ1→rd≠[]→rd.Sublist (ws.map Wy.nm)→iM { nx:=fun _ μ'=>RT Q .non μ',rt:=RT Q } [some (.obj b),some (.str n),some (.tup (wyD ws)),some (.int m),some (.tup (rd.map .str)),v5,v6] μ1:=by
    intro rd μ0 v5 v6 P0 rd0 rds
    unfold iM
    walk_at "go"
    refine aV P0.pot (by decide) (by decide) fun k1 μ1 k10 k11 P1=>?_
    walk_at "go"
    refine aV P1.pot (by decide) (by decide) fun k2 μ2 k20 k21 P2=>?_
    have al:∀ d∈([.int 1,.int 1,.int 2,.int 3,.int (1+k1)]:List D),IsI 1 8 d:=aD ⟨_,rfl,by decide,by decide⟩ (aD ⟨_,rfl,by decide,by decide⟩ (aD ⟨_,rfl,by decide,by decide⟩ (aD ⟨_,rfl,by decide,by decide⟩ (aD ⟨_,rfl,by omega,by omega⟩ eU))))
    obtain ⟨_,e1,bt,rfl,bt0,bt1⟩:=fg al k20 k21
    walk_at "go"
    rw[e1]
    walk_at "go"
    refine aV P2.pot (by decide) (by decide) fun k3 μ3 k30 k31 P3=>?_
    walk_at "go"
    refine aV P3.pot (by decide) (by decide) fun k4 μ4 k40 k41 P4=>?_
    walk_at "go"
    refine aV P4.pot (by decide) (by decide) fun k5 μ5 k50 k51 P5=>?_
    have al3:∀ d∈([.non,.non,.int k3,.int k4]:List D),∃ o:Option Int,d=c5 o∧∀ i,o=some i→0≤i∧i≤1000000:=aD ⟨none,rfl,nofun⟩ (aD ⟨none,rfl,nofun⟩ (aD ⟨some _,rfl,fun i e=>by cases e;omega⟩ (aD ⟨some _,rfl,fun i e=>by cases e;omega⟩ eU)))
    obtain ⟨_,e3,o,rfl,ho⟩:=fg al3 k50 k51
    walk_at "go"
    rw[e3]
    walk_at "go"
    refine aV P5.pot (by decide) (by decide) fun k6 μ6 k60 k61 P6=>?_
    walk_at "go"
    refine aV P6.pot (by decide) (by decide) fun k7 μ7 k70 k71 P7=>?_
    walk_at "go"
    refine aV P7.pot (by decide) (by decide) fun k8 μ8 k80 k81 P8=>?_
    have al4:∀ d∈([.int 0,.int 0,.int k6,.int k7]:List D),IsI 0 1000000 d:=aD ⟨_,rfl,by decide,by decide⟩ (aD ⟨_,rfl,by decide,by decide⟩ (aD ⟨_,rfl,by omega,by omega⟩ (aD ⟨_,rfl,by omega,by omega⟩ eU)))
    obtain ⟨_,e4,bg,rfl,bg0,bg1⟩:=fg al4 k80 k81
    walk_at "go"
    rw[e4]
    walk_at "go"
    refine ⟨⟨P8.pot,m0,m1⟩,fun R μ9 K L P9=>?_⟩
    walk_at "go"
    exact ⟨_,.refl _,k ⟨n,rd,bt,bg,o,R⟩ μ9 ⟨F8 _ hn,rd0,rds,bt0,bt1,bg0,bg1,ho,K,L⟩ rfl (P0.trans (P1.trans (P2.trans (P3.trans (P4.trans (P5.trans (P6.trans (P7.trans (P8.trans P9)))))))))⟩
  refine xP hP (fun r zs=>∃ (rd:List Str) (a c:List Wy),zs=rd.map .str∧r=wyD c∧a++c=ws∧rd.Sublist (a.map Wy.nm)) ⟨[],[],ws,rfl,rfl,rfl,List.Sublist.refl _⟩ (by simp;omega) ?_ ?_
  · rintro d r zs μ' P' _ ⟨rd,a,c,rfl,er,ea,hs⟩ N hN
    cases c with
    | nil=>cases er
    | cons x c=>
    cases er
    walk_at "go"
    refine aV P' (by decide) (by decide) fun k1 μ2 k10 k11 P2=>?_
    walk_at "go"
    refine kif (fun _=>hN (some (.str x.nm)) μ2 ⟨rd++[x.nm],a++[x],c,by simp,rfl,by simp[ea],?_⟩ P2) fun _=>hN none μ2 ⟨rd,a++[x],c,by simp,rfl,by simp[ea],?_⟩ P2
    · rw[List.map_append];exact sub_snoc hs _
    · rw[List.map_append];exact hs.trans (List.sublist_append_left _ _)
  · rintro zs μ1 ⟨rd,a,c,rfl,er,ea,hs⟩ P1
    have:c=[]:=by cases c with | nil=>rfl | cons=>cases er
    subst this
    rw[List.append_nil] at ea
    subst ea
    walk_at "go"
    rw[List.length_map]
    refine kif (fun h0=>?_) fun h0=>?_
    · walk_at "go"
      rw[List.length_map]
      refine aV P1.pot (by omega) (by omega) fun k2 μ2 k20 k21 P2=>?_
      have hc:k2.toNat < a.length:=by omega
      walk_at "go"
      rw[KR k20,List.getElem?_map,List.getElem?_eq_getElem hc]
      walk_at "go"
      simp only[Option.map_some]
      walk_at "go"
      exact rest [a[k2.toNat].nm] μ2 _ _ (P1.trans P2) (by simp) (List.singleton_sublist.mpr (List.mem_map.mpr ⟨_,List.getElem_mem hc,rfl⟩))
    · exact rest rd μ1 _ _ P1 (fun z=>h0 (by rw[z];rfl)) hs
def hV:FSp:=fun ds μ Q=>match ds with
  | [.obj b]=>Pot μ b∧∀ (p:Pn) (m:Int) μ',p.Ok m→(1≤m∧m≤60)→dQ b μ μ'→Q p.toD μ'
  | _=>False
theorem Dk:∀ ds μ Q,hV ds μ Q→ds.length=1:=by
  unfold hV
  walk_at "ln"
def BX:STr:=aB (aP (aj L3.rIx (fX (af (TC (.int 1)) (af (TC (.int 2)) (af (TC (.int 3)) (af (aj aR (TC (.int 1)) (aq ay (af (ah 0) (af (TC (.int 60)) (ar))))) (ar)))))) (aq ay (af (ah 0) (af (TC (.int 4)) (ar))))) (aw 1)) (aB (aP (aq iw (af (ah 0) (af (aq fq (af (ah 0) (af (aj L3.rIx (fX (af (TC (.int 1)) (af (TC (.int 1)) (af (TC (.int 2)) (af (TC (.int 2)) (af (TC (.int 3)) (af (TC (.int 6)) (ar)))))))) (aq ay (af (ah 0) (af (TC (.int 6)) (ar))))) (ar)))) (ar)))) (aw 2)) (aB (aP (aj L3.rIx (fX (af (TC (.int 2)) (af (TC (.int 4)) (af (TC (.int 12)) (af (TC (.int 12)) (af (TC (.int 60)) (ar))))))) (aq ay (af (ah 0) (af (TC (.int 5)) (ar))))) (aw 3)) (aB (aP (aq fq (af (ah 0) (af (aj L3.rIx (fX (af (TC (.int 0)) (af (TC (.int 1)) (af (TC (.int 1)) (af (TC (.int 2)) (af (TC (.int 2)) (af (TC (.int 3)) (af (TC (.int 3)) (af (TC (.int 8)) (ar)))))))))) (aq ay (af (ah 0) (af (TC (.int 8)) (ar))))) (ar)))) (aw 4)) (aY (bw (af (ah 1) (af (ah 2) (af (aq bz (af (bW (eL (aq Ag (af (ah 4) (ar)))) (aw 0) (fo) (aq fk (af (ah 1) (af (ah 0) (af (ah 2) (af (ah 3) (ar)))))) 1 [0,2,3]) (ar))) (ar)))))))))
theorem Hc:∀ ds μ Q,hV ds μ Q→BX { nx:=fun _ μ'=>RT Q .non μ',rt:=RT Q } (ini 5 ds) μ:=by
  intro ds μ Q h
  unfold hV at h
  split at h
  case h_2=>exact h.elim
  rename_i b
  walk_at "ini"
  unfold BX
  walk_at "go"
  obtain ⟨hP,k⟩:=h
  refine aV hP (by decide) (by decide) fun k1 μ1 k10 k11 P1=>?_
  walk_at "go"
  refine aV P1.pot (by decide) (by decide) fun k2 μ2 k20 k21 P2=>?_
  have al:∀ d∈([.int 1,.int 2,.int 3,.int (1+k1)]:List D),IsI 1 60 d:=aD ⟨_,rfl,by decide,by decide⟩ (aD ⟨_,rfl,by decide,by decide⟩ (aD ⟨_,rfl,by decide,by decide⟩ (aD ⟨_,rfl,by omega,by omega⟩ eU)))
  obtain ⟨_,e1,g,rfl,g0,g1⟩:=fg al k20 k21
  walk_at "go"
  rw[e1]
  walk_at "go"
  refine aV P2.pot (by decide) (by decide) fun k3 μ3 k30 k31 P3=>?_
  have al2:∀ d∈([.int 1,.int 1,.int 2,.int 2,.int 3,.int 6]:List D),IsI 1 6 d:=aD ⟨_,rfl,by decide,by decide⟩ (aD ⟨_,rfl,by decide,by decide⟩ (aD ⟨_,rfl,by decide,by decide⟩ (aD ⟨_,rfl,by decide,by decide⟩ (aD ⟨_,rfl,by decide,by decide⟩ (aD ⟨_,rfl,by decide,by decide⟩ eU)))))
  obtain ⟨_,e2,nw,rfl,nw0,nw1⟩:=fg al2 k30 k31
  walk_at "go"
  rw[e2]
  walk_at "go"
  refine ⟨⟨P3.pot,by omega,by omega⟩,fun ns μ4 ln nd nw' P4=>?_⟩
  walk_at "go"
  refine ⟨ns,⟨P4.pot,rfl,nw',by omega⟩,fun ws μ5 ew hw P5=>?_⟩
  have lw:(ws.length:Int)=nw:=by have:=congrArg List.length ew;simp at this;omega
  walk_at "go"
  refine aV P5.pot (by decide) (by decide) fun k6 μ6 k60 k61 P6=>?_
  have al3:∀ d∈([.int 2,.int 4,.int 12,.int 12,.int 60]:List D),IsI 1 60 d:=aD ⟨_,rfl,by decide,by decide⟩ (aD ⟨_,rfl,by decide,by decide⟩ (aD ⟨_,rfl,by decide,by decide⟩ (aD ⟨_,rfl,by decide,by decide⟩ (aD ⟨_,rfl,by decide,by decide⟩ eU))))
  obtain ⟨_,e3,m,rfl,m0,m1⟩:=fg al3 k60 k61
  walk_at "go"
  rw[e3]
  walk_at "go"
  refine aV P6.pot (by decide) (by decide) fun k7 μ7 k70 k71 P7=>?_
  have al4:∀ d∈([.int 0,.int 1,.int 1,.int 2,.int 2,.int 3,.int 3,.int 8]:List D),IsI 0 8 d:=aD ⟨_,rfl,by decide,by decide⟩ (aD ⟨_,rfl,by decide,by decide⟩ (aD ⟨_,rfl,by decide,by decide⟩ (aD ⟨_,rfl,by decide,by decide⟩ (aD ⟨_,rfl,by decide,by decide⟩ (aD ⟨_,rfl,by decide,by decide⟩ (aD ⟨_,rfl,by decide,by decide⟩ (aD ⟨_,rfl,by decide,by decide⟩ eU)))))))
  obtain ⟨_,e4,n8,rfl,n80,n81⟩:=fg al4 k70 k71
  walk_at "go"
  rw[e4]
  walk_at "go"
  refine ⟨⟨P7.pot,by omega,by omega⟩,fun sn μ8 ls sd sw P8=>?_⟩
  walk_at "go"
  refine ⟨sn,⟨rfl,by omega⟩,fun sn' hp hs=>?_⟩
  have ls':sn'.length=sn.length:=hp.length_eq
  have sd':=pw_strict hs (hp.nodup_iff.mpr sd)
  walk_at "go"
  refine xP P8.pot (fun r zs=>∃ (xs:List Sn) (rs:List Str),zs=snD xs∧r=rs.map .str∧xs.map Sn.nm++rs=sn'∧∀ x∈xs,x.Ok (ws.map Wy.nm) m) ⟨[],sn',rfl,rfl,rfl,fun _ h=>nomatch h⟩ (by rw[List.length_map];omega) ?_ ?_
  · rintro d r zs μ' P' _ ⟨xs,rs,rfl,er,ex,hx⟩ N hN
    cases rs with
    | nil=>cases er
    | cons n rs=>
    cases er
    have hn:n∈cS:=sw n (hp.mem_iff.mp (by rw[← ex];simp))
    walk_at "go"
    refine ⟨ws,⟨P',hn,rfl,⟨by omega,by omega⟩,m0,m1⟩,fun x μ2 X en P2=>hN (some x.toD) μ2 ⟨xs++[x],rs,by simp[snD],rfl,by rw[← ex];simp[en],fun y hy=>?_⟩ P2⟩
    rcases List.mem_append.mp hy with z | z
    · exact hx y z
    · have:y=x:=by simpa using z
      subst this;exact X
  · rintro zs μ9 ⟨xs,rs,rfl,er,ex,hx⟩ P9
    have:rs=[]:=by cases rs with | nil=>rfl | cons=>cases er
    subst this
    rw[List.append_nil] at ex
    have lx:xs.length=sn.length:=by have:=congrArg List.length ex;simp at this;omega
    walk_at "go"
    exact ⟨_,.refl _,k ⟨g,ws,xs⟩ m μ9 ⟨⟨g0,g1⟩,(by show 0 < ws.length;omega),(by show ws.length≤6;omega),(by show (ws.map Wy.nm).Nodup;rw[ew];exact nd),hw,(by show xs.length≤8;omega),(by show (xs.map Sn.nm).Pairwise _;rw[ex];exact sd'),hx⟩ ⟨m0,m1⟩ (P1.trans (P2.trans (P3.trans (P4.trans (P5.trans (P6.trans (P7.trans (P8.trans P9))))))))⟩
def fZ (a b:Int):D:=fr (a.fdiv (Int.gcd a b)) (b.fdiv (Int.gcd a b))
theorem NR (a:Int){b:Int}(b0:0 < b):Vl (fZ a b) a b:=MZ a b0
theorem Gx {d:D}{a b:Int}(h:Vl d a b):d=fZ a b:=h.uniq (NR a h.b0)
theorem O7 {g:Int}(g0:0 < g):fZ 0 g=fr 0 1:=by
  unfold fZ
  rw[Int.gcd_zero_left,Int.zero_fdiv]
  have:((g.natAbs:Nat):Int)=g:=by omega
  rw[this,jF g0,Int.ediv_self (by omega)]
abbrev d8 (ns:List Int):List D:=ns.map .int
structure Ws where
  cm:List Lt
  st:List Lt
  la:Str
def Ws.toD (x:Ws):D:=.tup [.tup (ltD x.cm),.tup (ltD x.st),.str x.la]
abbrev wsD (xs:List Ws):List D:=xs.map Ws.toD
structure Ss where
  nm:Str
  du:Option Int
  W:Int
  S:Int
  nx:Int
  lf:Option Int
  ag:List Int
  lo:List Int
  gd:Int
  mk':Int
  wt:Int
def Ss.toD (g:Int)(x:Ss):D:=.tup [.str x.nm,c5 x.du,fZ x.W g,fZ x.S g,.int x.nx,c5 x.lf,.tup (d8 x.ag),.tup (d8 x.lo),.int x.gd,.int x.mk',.int x.wt]
abbrev ssD (g:Int)(xs:List Ss):List D:=xs.map (Ss.toD g)
structure St' where
  ws:List Ws
  ss:List Ss
def St'.toD (g:Int)(x:St'):D:=.tup [.tup (wsD x.ws),.tup (ssD g x.ss)]
def Sn.beg (g:Int)(x:Sn):Ss:=⟨x.nm,some x.bg,x.rl.p*g / x.rl.q,0,0,x.mn,[],[],0,0,0⟩
def Pn.beg (p:Pn):St':=⟨p.ws.map fun _=>⟨[],[],Str.ofString ""⟩,p.ss.map (Sn.beg p.g)⟩
theorem RL (x:Sn)(μ:Mu)(Q:DK):L3.rIx x.toD (.int 0) μ Q=Q (.str x.nm) μ:=propext Iff.rfl
theorem S3 (x:Sn)(μ:Mu)(Q:DK):L3.rIx x.toD (.int 1) μ Q=Q (.tup (x.rd.map .str)) μ:=propext Iff.rfl
theorem SG (x:Sn)(μ:Mu)(Q:DK):L3.rIx x.toD (.int 2) μ Q=Q (.int x.bt) μ:=propext Iff.rfl
theorem SV (x:Sn)(μ:Mu)(Q:DK):L3.rIx x.toD (.int 3) μ Q=Q (.int x.bg) μ:=propext Iff.rfl
theorem S9 (x:Sn)(μ:Mu)(Q:DK):L3.rIx x.toD (.int 4) μ Q=Q (c5 x.mn) μ:=propext Iff.rfl
theorem S7 (x:Sn)(μ:Mu)(Q:DK):L3.rIx x.toD (.int 5) μ Q=Q (x.rl.toD) μ:=propext Iff.rfl
theorem Sd (x:Pn)(μ:Mu)(Q:DK):L3.rIx x.toD (.int 0) μ Q=Q (.int x.g) μ:=propext Iff.rfl
theorem SE (x:Pn)(μ:Mu)(Q:DK):L3.rIx x.toD (.int 1) μ Q=Q (.tup (wyD x.ws)) μ:=propext Iff.rfl
theorem SH (x:Pn)(μ:Mu)(Q:DK):L3.rIx x.toD (.int 2) μ Q=Q (.tup (snD x.ss)) μ:=propext Iff.rfl
theorem Tg (x:Ws)(μ:Mu)(Q:DK):L3.rIx x.toD (.int 0) μ Q=Q (.tup (ltD x.cm)) μ:=propext Iff.rfl
theorem Sr (x:Ws)(μ:Mu)(Q:DK):L3.rIx x.toD (.int 1) μ Q=Q (.tup (ltD x.st)) μ:=propext Iff.rfl
theorem Sm (x:Ws)(μ:Mu)(Q:DK):L3.rIx x.toD (.int 2) μ Q=Q (.str x.la) μ:=propext Iff.rfl
theorem SS (g:Int)(x:Ss)(μ:Mu)(Q:DK):L3.rIx (x.toD g) (.int 0) μ Q=Q (.str x.nm) μ:=propext Iff.rfl
theorem R0 (g:Int)(x:Ss)(μ:Mu)(Q:DK):L3.rIx (x.toD g) (.int 1) μ Q=Q (c5 x.du) μ:=propext Iff.rfl
theorem Sz (g:Int)(x:Ss)(μ:Mu)(Q:DK):L3.rIx (x.toD g) (.int 2) μ Q=Q (fZ x.W g) μ:=propext Iff.rfl
theorem Sf (g:Int)(x:Ss)(μ:Mu)(Q:DK):L3.rIx (x.toD g) (.int 3) μ Q=Q (fZ x.S g) μ:=propext Iff.rfl
theorem Sb (g:Int)(x:Ss)(μ:Mu)(Q:DK):L3.rIx (x.toD g) (.int 4) μ Q=Q (.int x.nx) μ:=propext Iff.rfl
theorem SX (g:Int)(x:Ss)(μ:Mu)(Q:DK):L3.rIx (x.toD g) (.int 5) μ Q=Q (c5 x.lf) μ:=propext Iff.rfl
theorem SO (g:Int)(x:Ss)(μ:Mu)(Q:DK):L3.rIx (x.toD g) (.int 6) μ Q=Q (.tup (d8 x.ag)) μ:=propext Iff.rfl
theorem RJ (g:Int)(x:Ss)(μ:Mu)(Q:DK):L3.rIx (x.toD g) (.int 7) μ Q=Q (.tup (d8 x.lo)) μ:=propext Iff.rfl
theorem RU (g:Int)(x:Ss)(μ:Mu)(Q:DK):L3.rIx (x.toD g) (.int 8) μ Q=Q (.int x.gd) μ:=propext Iff.rfl
theorem SY (g:Int)(x:Ss)(μ:Mu)(Q:DK):L3.rIx (x.toD g) (.int 9) μ Q=Q (.int x.mk') μ:=propext Iff.rfl
theorem Ry (g:Int)(x:Ss)(μ:Mu)(Q:DK):L3.rIx (x.toD g) (.int 10) μ Q=Q (.int x.wt) μ:=propext Iff.rfl
theorem Sk (g:Int)(x:St')(μ:Mu)(Q:DK):L3.rIx (x.toD g) (.int 0) μ Q=Q (.tup (wsD x.ws)) μ:=propext Iff.rfl
theorem Sa (g:Int)(x:St')(μ:Mu)(Q:DK):L3.rIx (x.toD g) (.int 1) μ Q=Q (.tup (ssD g x.ss)) μ:=propext Iff.rfl
def Rt:=Jn @RL <| Jn @S3 <| Jn @SG <| Jn @SV <| Jn @S9 <| Jn @S7 <| Jn @Sd <| Jn @SE <| Jn @SH <| Jn @Tg <| Jn @Sr <| Jn @Sm <| Jn @SS <| Jn @R0 <| Jn @Sz <| Jn @Sf <| Jn @Sb <| Jn @SX <| Jn @SO <| Jn @RJ <| Jn @RU <| Jn @SY <| Jn @Ry <| Jn @Sk <| Jn @Sa <| @QC
local macro_rules | `(tactic| walk_at "go")=>`(tactic| try simp only[↓Rt,Ds,↓wU,↓vm,↓vB,↓yh,↓xF,↓yf,↓j7,↓iX,cq,bV,cy,cw,cB,cD,cV,cT,bU,cu,cE,cA,cv,cW,cC,cR,cF,cQ,cz,cP,iS,u7,u5,fu,List.map_cons,List.map_nil,List.replicate,List.cons_append,List.nil_append,lk,CO,xY,gw,sV,lC,mB,mj,j9,ka,kb,j8,true_and,and_true,and_self,Bool.not_true,Bool.not_false,decide_true,decide_false,Bool.or_true,Bool.or_false,Bool.true_or,Bool.false_or,Bool.and_false,Bool.false_and,Bool.and_true,Bool.true_and,Int.reduceToNat,Int.reducePow,Int.reduceNeg,Int.reduceSub,Int.reduceAdd,Int.reduceMul,Int.reduceEq,Int.reduceLT,Int.reduceLE,Int.reduceBEq,iq,fU,fQ,fP,fW,fY,gf,fR,if_true,if_false,Bool.false_eq_true,reduceCtorEq,decide_eq_true_eq])
def eF:FSp:=fun ds μ Q=>match ds with
  | [d,.int g]=>∃ R:RN,(d=R.toD∧R.Ok∧Gd g)∧Q (.tup [fZ (R.p*g / R.q) g,fZ 0 g]) μ
  | _=>False
theorem uu:∀ ds μ Q,eF ds μ Q→ds.length=2:=by
  unfold eF
  walk_at "ln"
def pD:STr:=aY (bw (af (aq dm (af (aj L3.rIx (ah 0) (TC (.int 1))) (af (ah 1) (ar)))) (af (TC (.tup [.int 0,.int 1])) (ar))))
theorem wH:∀ ds μ Q,eF ds μ Q→pD { nx:=fun _ μ'=>RT Q .non μ',rt:=RT Q } (ini 2 ds) μ:=by
  intro ds μ Q h
  unfold eF at h
  split at h
  case h_2=>exact h.elim
  rename_i d g
  walk_at "ini"
  unfold pD
  walk_at "go"
  obtain ⟨R,⟨rfl,K,g0,g1⟩,k⟩:=h
  obtain ⟨xs,e,e0,e1,e3,e4⟩:=R.tup K.st
  have WB:=K.w.bd (by decide) (by decide)
  rw[e]
  walk_at "go"
  rw[xf,e1]
  walk_at "go"
  refine ⟨R.p,R.q,⟨iW K.w,WB.1.mono (by decide),WB.2.mono (by decide),by omega,by omega⟩,fun w V=>?_⟩
  walk_at "go"
  rw[Gx V]
  rw[O7 (show 0 < g by omega)] at k
  exact ⟨_,.refl _,k⟩
def b8:FSp:=fun ds μ Q=>match ds with
  | [.int g,d]=>∃ x:Sn,(d=x.toD∧x.rl.Ok∧Gd g)∧Q ((x.beg g).toD g) μ
  | _=>False
theorem mN:∀ ds μ Q,b8 ds μ Q→ds.length=2:=by
  unfold b8
  walk_at "ln"
def jN:STr:=aB (aP (aq eF (af (aj L3.rIx (ah 1) (TC (.int 5))) (af (ah 0) (ar)))) (aw 2)) (aY (bw (af (aj L3.rIx (ah 1) (TC (.int 0))) (af (aj L3.rIx (ah 1) (TC (.int 3))) (af (aj L3.rIx (ah 2) (TC (.int 0))) (af (aj L3.rIx (ah 2) (TC (.int 1))) (af (TC (.int 0)) (af (aj L3.rIx (ah 1) (TC (.int 4))) (af (bw (ar)) (af (bw (ar)) (af (TC (.int 0)) (af (TC (.int 0)) (af (TC (.int 0)) (ar))))))))))))))
theorem nL:∀ ds μ Q,b8 ds μ Q→jN { nx:=fun _ μ'=>RT Q .non μ',rt:=RT Q } (ini 3 ds) μ:=by
  intro ds μ Q h
  unfold b8 at h
  split at h
  case h_2=>exact h.elim
  rename_i g d
  walk_at "ini"
  unfold jN
  walk_at "go"
  obtain ⟨x,⟨rfl,K,G⟩,k⟩:=h
  walk_at "go"
  refine ⟨x.rl,⟨rfl,K,G⟩,?_⟩
  walk_at "go"
  exact ⟨_,.refl _,k⟩
def ik:FSp:=fun ds μ Q=>match ds with
  | [d]=>∃ p:Pn,(d=p.toD∧(∀ x∈p.ss,x.rl.Ok)∧Gd p.g∧p.ws.length≤900000∧p.ss.length≤900000)∧Q (p.beg.toD p.g) μ
  | _=>False
theorem CJ:∀ ds μ Q,ik ds μ Q→ds.length=1:=by
  unfold ik
  walk_at "ln"
def AV:STr:=aB (aP (aq bz (af (bW (eL (aj L3.rIx (ah 0) (TC (.int 1)))) (aw 0) (fo) (bw (af (bw (ar)) (af (bw (ar)) (af (TC (.str "")) (ar))))) 1 []) (ar))) (aw 1)) (aY (bw (af (ah 1) (af (aq bz (af (bW (eL (aj L3.rIx (ah 0) (TC (.int 2)))) (aw 0) (fo) (aq b8 (af (aj L3.rIx (ah 1) (TC (.int 0))) (af (ah 0) (ar)))) 1 [0]) (ar))) (ar)))))
theorem G8:∀ ds μ Q,ik ds μ Q→AV { nx:=fun _ μ'=>RT Q .non μ',rt:=RT Q } (ini 2 ds) μ:=by
  intro ds μ Q h
  unfold ik at h
  split at h
  case h_2=>exact h.elim
  rename_i d
  walk_at "ini"
  unfold AV
  walk_at "go"
  obtain ⟨p,⟨rfl,K,G,l1,l2⟩,k⟩:=h
  walk_at "go"
  refine comp_map (fun _=>.tup [.tup [],.tup [],.str ""]) (by rw[List.length_map];omega) (fun d hd μ' _ N n=>?_) ?_
  · walk_at "go"
    exact n
  · walk_at "go"
    refine bS p.ss Sn.toD (fun x=>(x.beg p.g).toD p.g) rfl (by omega) (fun x hx μ' _ N n=>?_) ?_
    · walk_at "go"
      exact ⟨x,⟨rfl,K x hx,G⟩,n⟩
    · walk_at "go"
      refine ⟨_,.refl _,?_⟩
      have e1:(wyD p.ws).map (fun _=>D.tup [.tup [],.tup [],.str ""])=wsD p.beg.ws:=by simp[Pn.beg,wsD,wyD,Ws.toD,Function.comp_def]
      have e2:p.ss.map (fun x=>(x.beg p.g).toD p.g)=ssD p.g p.beg.ss:=by simp[Pn.beg,ssD,Function.comp_def]
      rw[e1,e2];exact k
section
open PySem PySem.Spec PyProof.Rows L2
section
variable {prog:Program} {w:World} {A:Around} {E:Value→Shared→Prop} {s:Shared}
abbrev Hi (a c:Int)(acc:Array Value)(n:Nat):Prop:=ItemsOf (fun i v=>∃ t,v=.int (a+i*c) t) acc n
abbrev Kept (s:Shared)(g:Heap):Prop:=∀ b o,s.heap.get? b=some o→g.get? b=some o
structure Rg (s:Shared) (r:Addr) (a b c:Int) (n:Nat):Prop where
  at':∃ t u v,IsRange s.heap r a b c t u v
  sm:Builtin.Range.small a b c=true
  sz:Builtin.Range.rangeSize a b c=n
  le:n≤1048576
theorem run_plain {id:String}{bi:Builtin}{args:Args}{R:Result→Shared→Prop}(hp:plainId id=true)(he:entryFor table id=some bi)
    (h:wpAny (model prog w) A.in1 (bi args) (fun fin s'=>match fin with | .done f=>R (.ok f) s' | .again c'=>c'.quiet=true∧codeAny (model prog w) A c' R s') (fun e s'=>R (.error e) s') s):codeAny (model prog w) A (.builtin id args) R s:=
  codeAny_builtin he (by rw[Around.under_plainId hp];exact h)
theorem kH {R:Result→Shared→Prop}{r:Addr}{a b c:Int}{n:Nat}(hh:A.handled=none)(G:Rg s r a b c n)
    (hR:∀ (g:Heap) (tk:Nat) (acc:Array Value) (e:Nat),Kept s g→g.get? s.heap.objs.size=some { cls:=.type "list", dict:=none,data:=.seq acc e,slots:=#[] }→Hi a c acc n→R (.ok (.ret (.ref s.heap.objs.size))) { s with heap:=g,toks:=tk }) :
    codeAny (model prog w) A (.builtin "proto.collect" ⟨[.ref r],[]⟩) R s:=by
  obtain ⟨⟨t,u,v,hr⟩,sm,sz,le⟩:=G
  have l24:n≤2 ^ 24:=by omega
  have ext:=fun h0=>wpAny_extend_range (prog:=prog) (w:=w) (A:=A) (R:=R) (s:={ s with heap:=s.heap.push { cls:=.type "list", data:=.seq #[] } }) hh (Heap.get?_push_of_some _ hr) sm sz l24 s.heap.objs.size (.ref s.heap.objs.size) 0 h0 fun g tk acc e kp new its=>
    hR g tk acc e (fun b o q=>kp b o (Nat.ne_of_lt (Heap.lt_size q)) (Heap.get?_push_of_some _ q)) new its
  exact run_plain F.plain_proto_collect F.entry_proto_collect (wpAny_bind (wpAny_newObj_type (wpAny_pure ⟨plainId_quiet F.plain_list_iadd _,run_plain F.plain_list_iadd F.entry_list_iadd (ext (Heap.get?_push_size _ rfl))⟩)))
theorem rE {Q:List Value→Shared→Prop}{r:Addr}{a b c:Int}{n:Nat}(hh:A.handled=none)(G:Rg s r a b c n)
    (hQ:∀ (g:Heap) (tk:Nat) (acc:Array Value),Kept s g→Hi a c acc n→Q acc.toList { s with heap:=g,toks:=tk }):wpAny (model prog w) A (collect (.ref r)) Q E s:=by
  unfold collect
  exact wpAny_bind (wpAny_runValue (kH hh G fun g tk acc e kp new its=>wpAny_bind (wpAny_load new (wpAny_pure (hQ g tk acc kp its)))))
theorem mK {Q:Value→Shared→Prop}{r:Addr}{a b c:Int}{n:Nat}(hh:A.handled=none)(G:Rg s r a b c n)
    (hQ:∀ (g:Heap) (tk:Nat) (acc:Array Value),Kept s g→Hi a c acc n→Q (.ref g.objs.size) { s with heap:=g.push { cls:=.type "tuple", data:=.seq acc },toks:=tk }) :
    wpAny (model prog w) A (call (.type "tuple") [.ref r]) Q E s:=by
  have isr:s.TypeIs (.ref r) "range" := let ⟨t,u,v,hr⟩:=G.at';⟨_,hr,rfl⟩
  have fit:n≤sizeLine:=by have:=G.le;rw[sizeLine_eq];omega
  have made:codeAny (model prog w) A.in1 (.call (.builtin "tuple.__new__") ⟨[.type "tuple", .ref r],[]⟩) (wants (fun obj s₁=>s₁.TypeIs obj "tuple" ∧ Q obj s₁) E) s:=by
    refine codeAny_of_tree (wpAny_bind (wpAny_of_eq (F.newCall_tuple_1 _) (wpAny_pure ⟨plainId_quiet F.plain_tuple_new _,run_plain F.plain_tuple_new F.entry_tuple_new ?_⟩)))
    have u1:=sub_tuple_self
    have u2:=init_tuple_lookup
    have u3:=madeHere_tuple
    wp_walk using wpAny_typeOf isr,rE (A:=A.in1.in1) hh G
    intro g tk acc kp its
    have whole:acc.toList.toArray=acc:=Array.toArray_toList
    have few:acc.toList.toArray.size≤sizeLine:=by rw[whole,its.1];exact fit
    have end':wpAny (model prog w) A.in1.in1 (Builtin.Tuple.tupleExact acc.toList.toArray) (fun v s'=>wants (fun obj s₁=>s₁.TypeIs obj "tuple" ∧ Q obj s₁) E (.ok (.ret v)) s') (fun e s'=>wants (fun obj s₁=>s₁.TypeIs obj "tuple" ∧ Q obj s₁) E (.error e) s') { s with heap:=g,toks:=tk }:=by
      unfold Builtin.Tuple.tupleExact;exact wpAny_newObj_type (by rw[whole];exact ⟨⟨_,Heap.get?_push_size _ rfl,rfl⟩,hQ g tk acc kp its⟩) few
    exact (show wpAny _ _ (Builtin.Tuple.tupleExact acc.toList.toArray >>= fun v=>ret v) _ _ _ from wpAny_bind (wpAny_mono end' (fun v s' h=>wpAny_pure h) fun _ _ h=>h))
  exact callType_codes F.called_tuple (F.typeCall_tuple_1 _) F.entry_object_init made fun obj s₁ h₁=>⟨h₁.1,F.args_object_init_2 obj _,object_init_meets F.called_tuple.init.lookup F.called_tuple.made (by decide) prog w A.in1 _ s₁ ⟨h₁.1,rfl,h₁.2⟩⟩
end
section
variable {X:Cx} {ea eb:Expr} {Ta Tb:ETr} {p p2 pos rpos:Pos}
def Rm (t:TA):TE:=fun σ H Q=>t σ H fun vs H1=>∃ i j:Int,vs=[.int i,.int j]∧(-(2 ^ 62)≤i∧i < 2 ^ 62∧-(2 ^ 62)≤j∧j < 2 ^ 62∧(j - i).toNat≤1000000)∧∀ z,H1 z=none→Q (.ref z) (L2.upd H1 z (.tup ((List.range (j - i).toNat).map fun (k:Nat)=>V.int (i+(k:Int)))))
theorem kq:∀ {us:List Value} {vs:List V},us.length=vs.length→(∀ (j:Nat) u v,us[j]? = some u→vs[j]? = some v→RelV v u)→Vals vs us
  | [],[],_,_=>.nil
  | u::us,v::vs,hl,h=>.cons (h 0 u v rfl rfl) (kq (by simpa using hl) fun j a b h1 h2=>h (j+1) a b h1 h2)
theorem Iu {t:TA}(hc:X.calm=true)(hg:Gl X "tuple")(hm:X.mg "tuple" = none)(hgr:Gl X "range")(hmr:X.mg "range" = none)(ha:PA X [ea,eb] t)(hs:starEach [ea,eb] X.env=[(false,eval ea X.env),(false,eval eb X.env)]:=by rfl)(hs2:starEach [eb] X.env=[(false,eval eb X.env)]:=by rfl)
    (hs0:starEach [.Call (.Name "range" p2) [ea,eb] [] rpos] X.env=(false,eval (.Call (.Name "range" p2) [ea,eb] [] rpos) X.env)::starEach [] X.env:=by rfl) :
    PE X (.Call (.Name "tuple" p) [.Call (.Name "range" p2) [ea,eb] [] rpos] [] pos) (Rm t):=by
  intro pins s σ H Q I h
  refine Call_ (jT I hg hm boot_tuple (PyProof.Rows.callWith_type1 ?_ hs0 rfl))
  rw[hs0]
  show wpAny _ _ (spliced ((false,eval _ X.env)::backTo pos (starEach [] X.env))) _ _ s
  refine Calls.spliced_cons (Call_ (jT I hgr hmr boot_range (PyProof.Rows.callWith_type1 (thn (ha rpos pins s σ H _ I h) fun us s1 ⟨vs,H1,I1,r1,q1⟩=>?_) (by rw[hs,hs2]) (by rw[hs2];rfl))))
  obtain ⟨i,j,e,⟨h1,h2,h3,h4,h5⟩,q⟩:=q1
  subst e
  cases r1 with | cons r rr=>cases rr with | cons r' rr=>
  cases rr
  obtain ⟨t1,rfl⟩:=r
  obtain ⟨t2,rfl⟩:=r'
  refine call_range_2 (Calls.spliced_nil ?_)
  have e2:Builtin.Range.rangeSize i j 1=((j - i).toNat:Nat):=by rw[rangeSize_one];split<;>omega
  refine mK (n:=(j - i).toNat) (I1.ok.hd hc) ⟨⟨_,_,_,IsRange.new ..⟩,small_one h1 h2 h3 h4,e2,by omega⟩ fun h' tk acc hk hacc=>?_
  have I2:Inv X pins σ H1 { s1 with heap:=h',toks:=tk }:=I1.kept (t':=tk) fun b o e=>hk b o (Heap.get?_push_of_some _ e)
  refine ⟨.ref h'.objs.size,_,I2.laid (t':=tk) (o:=.tup ((List.range (j - i).toNat).map fun (k:Nat)=>V.int (i+(k:Int)))) (fun b o e=>Heap.get?_push_of_some _ e) (Nat.le_refl _) ⟨?_,acc.toList,kq ?_ fun m u v hu hv=>?_,?_⟩,rfl,q _ (I2.hok.fresh (Nat.le_refl _))⟩
  · rw[List.length_map,List.length_range];exact big (by omega)
  · rw[List.length_map,List.length_range,Array.length_toList,hacc.1]
  · have hu':acc[m]? = some u:=by simpa using hu
    obtain ⟨t3,rfl⟩:=hacc.2 m u hu'
    have hm:m < (j - i).toNat:=by
      have:=(Array.getElem?_eq_some_iff.mp hu').1
      exact hacc.1 ▸ this
    rw[List.getElem?_map,List.getElem?_range hm] at hv
    cases hv
    exact ⟨t3,by simp⟩
  · rw[Array.toArray_toList];exact uK.new h' acc
def GR (Ta Tb:ETr):ETr:=fun ρ μ Q=>Ta ρ μ fun x μ1=>Tb ρ μ1 fun y μ2=>kI x fun i=>kI y fun j=>((-4611686018427387904≤i∧i < 4611686018427387904)∧(-4611686018427387904≤j∧j < 4611686018427387904)∧(j - i).toNat≤1000000)∧Q (.tup (cx i (j - i).toNat)) μ2
theorem DC {K:PySem.W.Frag}{H:Hp}(i:Int)(n:Nat):DpL K H ((List.range n).map fun (k:Nat)=>V.int (i+(k:Int))) (cx i n):=by
  unfold cx
  generalize List.range n=l
  induction l with
  | nil=>exact .nil
  | cons a l ih=>exact .cons (.int _) ih
theorem ID (hc:X.calm=true)(hg:Gl X "tuple")(hm:X.mg "tuple" = none)(hgr:Gl X "range")(hmr:X.mg "range" = none)(ha:LE X ea Ta)(hb:LE X eb Tb)(hs:starEach [ea,eb] X.env=[(false,eval ea X.env),(false,eval eb X.env)]:=by rfl)(hs2:starEach [eb] X.env=[(false,eval eb X.env)]:=by rfl)
    (hs0:starEach [.Call (.Name "range" p2) [ea,eb] [] rpos] X.env=(false,eval (.Call (.Name "range" p2) [ea,eb] [] rpos) X.env)::starEach [] X.env:=by rfl) :
    LE X (.Call (.Name "tuple" p) [.Call (.Name "range" p2) [ea,eb] [] rpos] [] pos) (GR Ta Tb):=by
  obtain ⟨ta,pa,sa⟩:=ha.ex
  obtain ⟨tb,pb,sb⟩:=hb.ex
  refine ⟨_,Iu hc hg hm hgr hmr (fS pa (fS pb jl hs2) (by rw[hs,hs2])) hs hs2 hs0,fun σ H ρ μ Q Q' rl h k=>sa σ H ρ μ _ _ rl h fun x H1 d μ1 t1 m1 p1 h1=>sb σ H1 ρ μ1 _ _ (rl.go t1 m1) h1 fun y H2 d2 μ2 t2 m2 p2 h2=>?_⟩
  cases p1 with
  | int i=>
    cases p2 with
    | int j=>
      obtain ⟨⟨⟨h3,h4⟩,⟨h5,h6⟩,h7⟩,h8⟩:=h2
      refine ⟨i,j,rfl,⟨by simpa using h3,by simpa using h4,by simpa using h5,by simpa using h6,h7⟩,fun z hz=>?_⟩
      have tn:Tk H2 (L2.upd H2 z (.tup ((List.range (j - i).toNat).map fun (k:Nat)=>V.int (i+(k:Int))))):=.new hz
      exact k _ _ _ μ2 ((t1.trans t2).trans tn) (c7 m2 hz) (.tup (SqT.of aL) (DC i _)) h8
    | _=>exact False.elim h2
  | _=>exact False.elim h2
end
end
section
open PySem PySem.Spec PyProof.Rows L2
section
variable {prog:Program} {w:World} {A:Around} {E:Value→Shared→Prop} {s:Shared}
theorem sortedHeap_at {g:Heap}{vs:List Value}{out:Array Value}{k:Nat}(e:(g.push (seqObj "list" vs.toArray k)).get? g.objs.size=some (seqObj "list" vs.toArray k)):(∃ n,(sortedHeap (g.push (seqObj "list" vs.toArray k)) g.objs.size vs out).get? g.objs.size=some (seqObj "list" out n))∧∀ b o,g.get? b=some o→(sortedHeap (g.push (seqObj "list" vs.toArray k)) g.objs.size vs out).get? b=some o:=by
  have lt:g.objs.size < (g.push (seqObj "list" vs.toArray k)).objs.size:=by rw[size_push'];omega
  unfold sortedHeap
  constructor
  · have e1:=get?_update_seq e fun _=>#[]
    have e2:∀ o1 o2:Obj,((((g.push (seqObj "list" vs.toArray k)).update g.objs.size (Obj.mapSeq fun _=>#[])).push o1).push o2).get? g.objs.size=_:=fun o1 o2=>Heap.get?_push_of_some _ (Heap.get?_push_of_some _ e1)
    exact ⟨_,get?_update_seq (e2 _ _) fun _=>out⟩
  · intro b o hb
    have nb:g.objs.size≠b:=Ne.symm (Nat.ne_of_lt (Heap.lt_size hb))
    exact (Heap.get?_update_other _ _ nb).trans (Heap.get?_push_of_some _ (Heap.get?_push_of_some _ ((Heap.get?_update_other _ _ nb).trans (Heap.get?_push_of_some _ hb))))
theorem ze {tp:Addr}{vs:List Value}{ns:List Int}{Q:Value→Shared→Prop}(hl:IsTup s.heap tp vs.toArray)(hI:IntsAre vs ns)(few:vs.length < 64)
    (h:∀ (g g1:Heap) (out:Array Value) (n:Nat) (ns':List Int),Kept s g→(∀ b o,g.get? b=some o→g1.get? b=some o)→g1.get? g.objs.size=some (seqObj "list" out n)→IntsAre out.toList ns'→ns'.Perm ns→ns'.Pairwise (·≤·)→Q (.ref g.objs.size) { s with heap:=g1 }) :
    wpAny (model prog w) A (call (.builtin "sorted") [.ref tp]) Q E s:=by
  obtain ⟨ob,e1,e2,ne,e3⟩:=hl
  have fits:vs.toArray.size≤sizeLine:=by rw[List.size_toArray,sizeLine_eq];omega
  have rest:∀ g:Heap,(∀ b o,s.heap.get? b=some o→g.get? b=some o)→wpAny (model prog w) A.in1 (do let z ← newList vs;let _ ← holding [z] (call (.builtin "list.sort") [z]);ret z) (fun fin s'=>∃ v,fin=.done (.ret v)∧Q v s') E { s with heap:=g }:=fun g kp=>by
    have at':(g.push (seqObj "list" vs.toArray 0)).get? g.objs.size=some (seqObj "list" vs.toArray 0):=Heap.get?_push_size _ rfl
    have done:=fun out ns' (a1:IntsAre out.toList ns') (a2:ns'.Perm ns) (a3:ns'.Pairwise (·≤·))=>let ⟨⟨m,e⟩,old⟩:=sortedHeap_at (out:=out) at';h g _ out m ns' kp old e a1 a2 a3
    exact wpAny_bind (wpAny_newList (wpAny_bind (wpAny_holding (wpAny_call_entry slot_list_sort ⟨_,at',rfl⟩ entry_list_sort (list_sort_tree at' hI few fun out ns' a1 a2 a3=>⟨_,rfl,wpAny_pure ⟨_,rfl,done out ns' a1 a2 a3⟩⟩) (args_list_sort _)))))
  refine Calls.call_function_entry (b:=Builtin.«sorted») kind_sorted plain_sorted entry_sorted (args_sorted1 _) ?_
  show wpAny _ _ (do checkCount "sorted" 1 1 1;let xs ← collect (.ref tp);let z ← newList xs;let _ ← holding [z] (call (.builtin "list.sort") [z]);ret z) _ _ s
  exact wpAny_bind (wpAny_pure (wpAny_bind (wpAny_collect_seq tp (.inr rfl) e1 e2 e3 (fun g kp=>rest g kp) fits)))
end
def N1 (K:PySem.W.Frag):List V→Hp→VK→Prop:=fun xs H Q=>∃ (p:Addr) (ns:List Int),xs=[.ref p]∧(SqL K H p (ns.map V.int)∨SqT K H p (ns.map V.int))∧ns.length < 64∧∀ ns':List Int,ns'.Perm ns→ns'.Pairwise (·≤·)→∀ z,H z=none→Q (.ref z) (L2.upd H z (.lst (ns'.map V.int)))
theorem zY {X:Cx}:cH X (.builtin "sorted") (N1 X.K):=fun pins s σ H xs us Q I rx ⟨p,ns,e1,sq,hl,q⟩=>by
  rcases sq with sq | sq
  · exact zS pins s σ H xs us Q I rx ⟨p,ns,e1,sq,hl,q⟩
  subst e1
  obtain ⟨u,rfl,ru⟩:=vals1 rx
  cases ru
  obtain ⟨its,rv,pl,hz⟩:=I.tuple sq
  have hi:IntsAre its ns:=intsAre_of rv
  have hlen:its.length < 64:=by rw[hi.length];exact hl
  refine ze pl hi hlen fun g g1 out n ns' kp old e a1 a2 a3=>?_
  have I2:Inv X pins σ H { s with heap:=g }:=I.kept (t':=s.toks) kp
  refine ⟨.ref g.objs.size,_,I2.laid (t':=s.toks) (o:=.lst (ns'.map V.int)) old (Nat.le_refl _) ?_,rfl,q ns' a2 a3 _ (I2.hok.fresh (Nat.le_refl _))⟩
  have z1:ns'.length=ns.length:=a2.length_eq
  exact ⟨by rw[List.length_map,z1];exact Nat.le_of_lt (Nat.lt_of_lt_of_le hl (by decide)),out.toList,n,iz a1,by simpa[seqObj] using e⟩
def p8:FSp:=fun ds μ Q=>match ds with
  | [x]=>kS x fun xs=>∃ ns:List Int,(xs=ns.map .int∧ns.length < 64)∧∀ ns':List Int,ns'.Perm ns→ns'.Pairwise (·≤·)→Q (.ls (ns'.map .int)) μ
  | _=>False
theorem wL {X:Cx}{e:Expr}{x:Str}{p pos:Pos}{At:ATr}(hg:Gl X x)(hm:X.mg x=none)(hv:bootBuiltins x=some (.builtin "sorted"))(ha:LA X [e] At)(hn:x ≠ "__name__" := by decide)(hdb:(x == ("__debug__" : Str))=false:=by decide)
    (h1:starEach [e] X.env=(false,eval e X.env)::starEach [] X.env:=by rfl) (h2:(backTo pos (starEach [] X.env)).any (·.1)=false:=by rfl):LE X (.Call (.Name x p) [e] [] pos) (aq p8 At):=by
  obtain ⟨ta,pa,sa⟩:=ha.ex
  refine ⟨_,jI (pO zY hg hm hv pa hn hdb h1 h2),fun σ H ρ μ Q Q' rl h k=>sa σ H ρ μ _ _ rl h fun xs H1 ds μ1 t1 m1 p1 h1=>?_⟩
  unfold p8 at h1
  split at h1
  · cases p1 with | cons p1 p2=>
    cases p2
    cases p1 with
    | @ls q xs ds sq l=>
      obtain ⟨ns,⟨rfl,hl⟩,h2⟩:=h1
      have ex:=l.ints_of
      subst ex
      exact ⟨q,ns,rfl,.inl sq.sq,hl,fun ns' a2 a3 z hz=>gH m1 (DpL.ints ns') (h2 ns' a2 a3) (k.go t1) hz⟩
    | @tup q xs ds sq l=>
      obtain ⟨ns,⟨rfl,hl⟩,h2⟩:=h1
      have ex:=l.ints_of
      subst ex
      exact ⟨q,ns,rfl,.inr sq,hl,fun ns' a2 a3 z hz=>gH m1 (DpL.ints ns') (h2 ns' a2 a3) (k.go t1) hz⟩
    | _=>exact False.elim h1
  · exact h1.elim
theorem CA {X:Cx}(hc:X.calm=true):cH X (.builtin "sum") (fun xs H Q=>∃ (p:Addr) (ns:List Int),xs=[.ref p]∧SqL X.K H p (ns.map V.int)∧Q (.int ns.sum) H):=fun pins s σ H xs us Q I rx ⟨p,ns,e1,sq,q⟩=>by
  subst e1
  obtain ⟨u,rfl,ru⟩:=vals1 rx
  cases ru
  obtain ⟨its,rv,pl,_⟩:=I.list sq
  obtain ⟨ps,rfl,rfl⟩:=hE (intsAre_of rv)
  have il:s.heap.IsList p (intItems ps.toArray):=by
    have:=pl.isList
    simpa[intItems] using this
  refine sum_intListG (I.ok.hd hc) il fun h' tk t' hk=>?_
  have e:preSum (numAt ps.toArray) ps.toArray.size=(ps.map Prod.fst).sum:=by
    rw[preSum_eq,List.take_of_length_le (by simp)]
  rw[e]
  exact ⟨.int _,H,I.kept hk,⟨t',rfl⟩,q⟩
def BV:FSp:=fun ds μ Q=>match ds with
  | [.ls xs]=>∃ ns:List Int,xs=ns.map .int∧Q (.int ns.sum) μ
  | _=>False
theorem G0 {K:PySem.W.Frag}:kX K (fun xs H Q=>∃ (p:Addr) (ns:List Int),xs=[.ref p]∧SqL K H p (ns.map V.int)∧Q (.int ns.sum) H) BV:=fun H μ xs ds Q Q' m p h k=>by
  unfold BV at h
  split at h
  · obtain ⟨ns,rfl,h⟩:=h
    cases p with | cons p1 p2=>
    cases p2
    cases p1 with
    | @ls q xs ds sq l=>
      have ex:=l.ints_of
      subst ex
      exact ⟨q,ns,rfl,sq.sq,k _ H _ μ (.refl H) m (.int _) h⟩
  · exact h.elim
end
section
open PySem PySem.Spec PyProof.Rows L2
section
variable {prog:Program} {w:World} {A:Around} {E:Value→Shared→Prop} {s:Shared}
theorem Ej {tp:Bool}{e it a:Addr}{i:Nat}{xs:Array Value}{x old:Value}{Q:Option Value→Shared→Prop}(en:IsEnum s.heap e it i old)(li:ir tp s.heap it a i)(se:fT tp s.heap a xs)(hx:xs[i]? = some x)(ne:e≠it)
    (q:∀ g,IsEnumOut g e it ((i:Int)+1) x s.heap.objs.size→ir tp g it a (i+1)→g.get? s.heap.objs.size=some { cls:=.type "tuple", data:=.seq #[.int i s.toks,x] }→
      (∀ c o,c≠e→c≠it→s.heap.get? c=some o→g.get? c=some o)→Q (some (.ref s.heap.objs.size)) { s with heap:=g,toks:=s.toks+1 }):wpAny (model prog w) A (pyNext (.ref e)) Q E s:=by
  have ty:s.TypeIs (.ref e) "enumerate" := ⟨_,en,rfl⟩
  unfold pyNext
  refine wpAny_bind (wpAny_attempt (wpAny_callSpecial?_slot (name:=Str.ofString "__next__") ty F.slot_enumerate_next (wpAny_call_entry F.slot_enumerate_next ty F.entry_enumerate_next ?_ (F.args_enumerate_next_1 _))))
  refine wpAny_bind (m:=field (.ref e) 2) (wpAny_field en rfl (x:=.ref it) rfl (wpAny_bind (m:=Builtin.SmallTypes.nextOf (.ref it)) (oG li se hx fun g1 li1 k1=>?_)))
  have en1:IsEnum g1 e it i old:=(k1.2 e ne).trans en
  refine wpAny_bind (m:=field (.ref e) 3) (wpAny_field (s:={ s with heap:=g1 }) en1 rfl (x:=rawInt i) rfl (wpAny_bind (m:=field (.ref e) 4) (wpAny_field (s:={ s with heap:=g1 }) en1 rfl (x:=.none) rfl (wpAny_bind (m:=mkInt i) (wpAny_mkInt ?_)))))
  refine wpAny_bind (m:=setField (.ref e) 3 (rawInt ((i:Int)+1))) (wpAny_setField_rec en1 (by simp) fun g2 en2 k2=>?_)
  have en2:IsEnum g2 e it ((i:Int)+1) old:=en2
  refine wpAny_bind (m:=setField (.ref e) 4 .none) (wpAny_setField_rec en2 (by simp) fun g3 en3 k3=>?_)
  have en3:IsEnum g3 e it ((i:Int)+1) old:=en3
  refine wpAny_bind (m:=newTuple [.int i s.toks,x]) (wpAny_newTuple ?_)
  have sz:g3.objs.size=s.heap.objs.size:=by rw[k3.1,k2.1,k1.1]
  have en4:IsEnum (g3.push { cls:=.type "tuple", data:=.seq #[.int i s.toks,x] }) e it ((i:Int)+1) old:=Heap.get?_push_of_some _ en3
  have elt:e < g3.objs.size:=Heap.lt_size en3
  refine wpAny_bind (m:=Builtin.SmallTypes.ownedTupleIsFree (.ref e)) ?_
  delta Builtin.SmallTypes.ownedTupleIsFree
  refine wpAny_bind (wpAny_field (s:={ s with heap:=g3.push { cls:=.type "tuple", data:=.seq #[.int i s.toks,x] },toks:=s.toks+1 }) en4 rfl (x:=.none) rfl (wpAny_pure ?_))
  simp only[if_true]
  refine wpAny_bind (wpAny_rule (wpAny_bind (wpAny_field en4 rfl (x:=old) rfl (wpAny_bind (wpAny_setField_rec en4 (by simp) fun g5 en5 k5=>?_)))))
  have en5:IsEnum g5 e it ((i:Int)+1) x:=en5
  refine wpAny_bind (m:=Builtin.SmallTypes.ownedTupleHandOut (.ref e) (.ref g3.objs.size)) ?_
  delta Builtin.SmallTypes.ownedTupleHandOut
  refine wpAny_bind (wpAny_setField_rec en5 (by simp) fun g6 en6 k6=>?_)
  have en6:IsEnumOut g6 e it ((i:Int)+1) x g3.objs.size:=en6
  refine wpAny_setField_rec en6 (by simp) fun g7 en7 k7=>?_
  have en7:IsEnumOut g7 e it ((i:Int)+1) x g3.objs.size:=en7
  have up3:∀ c o,c≠e→g3.get? c=some o→g7.get? c=some o:=fun c o c1 h=>(k7.2 c c1).trans ((k6.2 c c1).trans ((k5.2 c c1).trans (Heap.get?_push_of_some _ h)))
  have new:g7.get? g3.objs.size=some { cls:=.type "tuple", data:=.seq #[.int i s.toks,x] }:=(k7.2 _ (Nat.ne_of_gt elt)).trans ((k6.2 _ (Nat.ne_of_gt elt)).trans ((k5.2 _ (Nat.ne_of_gt elt)).trans (Heap.get?_push_size _ rfl)))
  rw[sz] at en7 new
  have fin:=q g7 en7 (li1.at fun o h=>up3 it o (Ne.symm ne) ((k3.2 it (Ne.symm ne)).trans ((k2.2 it (Ne.symm ne)).trans h))) new fun c o c1 c2 h=>up3 c o c1 ((k3.2 c c1).trans ((k2.2 c c1).trans ((k1.2 c c2).trans h)))
  rw[← sz] at fin
  exact wpAny_bind (wpAny_letGo (wpAny_pure ⟨_,rfl,wpAny_pure fin⟩))
theorem Ji {tp:Bool}{e it a:Addr}{i:Nat}{xs:Array Value}{old:Value}{Q:Option Value→Shared→Prop}(hh:A.handled=none)(en:IsEnum s.heap e it i old)(li:ir tp s.heap it a i)(se:fT tp s.heap a xs)(hx:xs[i]? = none)
    (q:∀ g,Heap.ExtBut it s.heap g→Q none { s with heap:=g }):wpAny (model prog w) A (pyNext (.ref e)) Q E s:=by
  have ty:s.TypeIs (.ref e) "enumerate" := ⟨_,en,rfl⟩
  unfold pyNext
  refine wpAny_bind (wpAny_attempt (wpAny_callSpecial?_slot (name:=Str.ofString "__next__") ty F.slot_enumerate_next (wpAny_call_entry F.slot_enumerate_next ty F.entry_enumerate_next ?_ (F.args_enumerate_next_1 _))))
  refine wpAny_bind (m:=field (.ref e) 2) (wpAny_field en rfl (x:=.ref it) rfl (wpAny_bind (m:=Builtin.SmallTypes.nextOf (.ref it)) (yk hh li se hx fun g z kp sz=>?_)))
  obtain ⟨o,ho,hc⟩:=sz
  exact wpAny_bind (wpAny_isInstance (T := "StopIteration") (b:=true) ⟨o,ho,hc⟩ isSubtype_stop (wpAny_pure (q _ kp)))
theorem EW (tp:Bool)(a:Addr)(xs:Array Value):Meets (Builtin.«enumerate.__new__» ⟨[.type "enumerate", .ref a],[]⟩) (fun _ R s=>fT tp s.heap a xs∧
      R (.ok (.ret (.ref (s.heap.push (itO tp a)).objs.size))) { s with heap:=(s.heap.push (itO tp a)).push { cls:=.type "enumerate", data:=.fields #[.none,.bool false,.ref s.heap.objs.size,rawInt 0,.none,.none] } }):=
  .of_wp fun prog w A R s h=>by
    rcases s with ⟨hp,g,d,tk,os⟩
    obtain ⟨h1,h⟩:=h
    have hs0:=sub_enumerate
    have H1:fT tp (Shared.heap ⟨hp,g,d,tk,os⟩) a xs:=h1
    wp_walk
    refine wpAny_stack_any fun stk=>wpAny_pure ?_
    split
    · rename_i c _ _ _ _ _
      cases (c == Value.type "enumerate")<;>(wp_walk using JR H1;exact ⟨_,rfl,h⟩)
    · wp_walk using JR H1
      exact ⟨_,rfl,h⟩
theorem zE {tp:Bool}{a:Addr}{xs:Array Value}{Q:Value→Shared→Prop}(h1:fT tp s.heap a xs)
    (q:∀ g,IsEnum g (s.heap.objs.size+1) s.heap.objs.size 0 .none→ir tp g s.heap.objs.size a 0→(∀ c o,s.heap.get? c=some o→g.get? c=some o)→Q (.ref (s.heap.objs.size+1)) { s with heap:=g }) :
    wpAny (model prog w) A (call (.type "enumerate") [.ref a]) Q E s:=by
  refine callType_new F.called_enumerate (by decide) (F.typeCall_enumerate_1 _) (F.newCall_enumerate_1 _) (fun obj=>F.args_object_init_2 obj _) F.entry_enumerate_new (EW tp a xs) ⟨h1,?_⟩
  have s1:(s.heap.push (itO tp a)).objs.size=s.heap.objs.size+1:=Heap.size_push ..
  have new:IsEnum ((s.heap.push (itO tp a)).push { cls:=.type "enumerate", data:=.fields #[.none,.bool false,.ref s.heap.objs.size,rawInt 0,.none,.none] }) (s.heap.push (itO tp a)).objs.size s.heap.objs.size 0 .none:=Heap.get?_push_size _ rfl
  refine ⟨⟨_,new,rfl⟩,?_⟩
  rw[s1] at new ⊢
  refine q _ new ?_ fun c o h=>Heap.get?_push_of_some _ (Heap.get?_push_of_some _ h)
  have z:=Heap.get?_push_of_some { cls:=.type "enumerate", data:=.fields #[.none,.bool false,.ref s.heap.objs.size,rawInt 0,.none,.none] } (Heap.get?_push_size s.heap (o:=itO tp a) (by cases tp<;>rfl))
  cases tp<;>exact ⟨_,z,rfl,rfl⟩
end
def Itn (tp:Bool)(K:PySem.W.Frag)(a:Addr):It:=
  ⟨fun i H=>∃ xs x,Sq tp K H a xs∧xs[i]? = some x,
   fun i H v H'=>∃ x p,(∀ xs,Sq tp K H a xs→xs[i]? = some x)∧v=.ref p∧H p=none∧H'=L2.upd H p (.tup [.int i,x]),
   fun i H=>∃ xs,Sq tp K H a xs∧xs.length≤i⟩
structure NAt (tp:Bool) (h:Heap) (e it a:Addr) (k:Nat):Prop where
  en:∃ old,IsEnum h e it k old
  li:ir tp h it a k
theorem Fz {P:Program}{w:World}{K:PySem.W.Frag}{es:List Expr}{ek:Nat}{ep:Pos}{tp:Bool}{e it a:Addr}(n1:e≠it) :
    Turn P w K (.Tuple es ek ep) (Itn tp K a) [e,it] e (fun k h=>NAt tp h e it a k) where
  mem:=by simp
  obj:=fun k h S c hc=>by
    obtain ⟨⟨old,en⟩,li⟩:=S
    simp only[List.mem_cons,List.not_mem_nil,or_false] at hc
    rcases hc with rfl | rfl
    · exact ⟨_,en,fun v y=>by cases y⟩
    · obtain ⟨o,ho,vs,hd⟩:=li.ex;exact ⟨o,ho,fun v y=>by rw[hd] at y;cases y⟩
  keep:=fun k h g S kp=>by
    obtain ⟨⟨old,en⟩,li⟩:=S
    exact ⟨⟨old,kp e (by simp) _ en⟩,li.at fun o q=>kp it (by simp) o q⟩
  item:=by
    intro X hP hw hK hc k pins s σ H E I hf S hg
    subst hP hw hK
    obtain ⟨xs,x,qa,ex⟩:=hg
    obtain ⟨⟨old,en⟩,li⟩:=S
    obtain ⟨ia,ra,sa⟩:=Inv.sq I qa
    obtain ⟨ux,hux,rx⟩:=ra.get ex
    have elt:e < s.heap.objs.size:=Heap.lt_size en
    have fr:H s.heap.objs.size=none:=I.hok.fresh (Nat.le_refl _)
    refine Ej en li sa (x:=ux) (by simpa using hux) n1 fun g eo li2 new al=>⟨_,rfl,wpAny_letOwnedTupleGo_enum eo fun g2 en2 k2=>?_⟩
    have k2:Heap.SameBut e g g2:=k2
    have all:∀ c o,c ∉ [e,it]→s.heap.get? c=some o→g2.get? c=some o:=fun c o hc q=>by
      simp only[List.mem_cons,List.not_mem_nil,or_false,not_or] at hc
      exact (k2.2 c hc.1).trans (al c o hc.1 hc.2 q)
    have new2:g2.get? s.heap.objs.size=some { cls:=.type "tuple", data:=.seq #[.int k s.toks,ux] }:=(k2.2 _ (Nat.ne_of_gt elt)).trans new
    have nfp:∀ c u,H c=some u→c ∉ [e,it]:=fun c u q hc=>by rw[(hf c hc).1] at q;cases q
    refine ⟨.ref s.heap.objs.size,L2.upd H s.heap.objs.size (.tup [.int k,x]),?_,rfl,⟨x,_,fun xs' q=>by rw[Inv.yH I q qa];exact ex,rfl,fr,rfl⟩,⟨⟨_,en2⟩,li2.at fun o q=>(k2.2 it (Ne.symm n1)).trans q⟩,fun c hc=>?_⟩
    · refine L2.Inv.step (s:=s) (H:=H) (H':=L2.upd H s.heap.objs.size (.tup [.int k,x])) (g':=s.gens) (d':=s.drawn) (t':=s.toks+1) (h':=g2) (ch:=[e,it]) I (fun c hc=>⟨(hf c hc).2.2.2.1,(hf c hc).2.1,(hf c hc).2.2.2.2.1,(hf c hc).2.2.2.2.2⟩) (fun c o _ _ hc q _=>all c o hc q) (fun c o _ _ hc q _=>⟨o.slots,all c o hc q⟩) (fun c o hc q n=>?_) (fun c o hc q=>⟨o,all c o hc q⟩)
        (fun c xs q=>?_) (fun c o u q=>?_) (fun c ps q=>⟨#[],?_⟩) (fun m hm=>?_) (fun c u q=>?_) I.bare
      · rw[aM (Nat.ne_of_lt (Heap.lt_size q))];exact n
      · rw[aM (ba q fr)];exact q
      · rw[aM (ba q fr)];exact q
      · rw[aM (ba q fr),q];simp
      · obtain ⟨o,es',ep',ho,r⟩:=hm
        exact ⟨o,es',ep',all _ o (fun hc=>(hf _ hc).2.1 rfl) ho,r⟩
      · by_cases hcT:c=s.heap.objs.size
        · subst hcT
          rw[aL] at q;cases q
          exact ⟨by show 2≤sizeLine;decide,[.int k s.toks,ux],.cons ⟨s.toks,rfl⟩ (.cons rx .nil),⟨_,new2⟩⟩
        · rw[aM hcT] at q
          refine (I.hok c u q).ly (fun c' v hc' z=>all c' v ?_ z) (fun c' z=>by rw[aM (ba z fr)];exact z) fun c' xs z=>by rw[aM (ba z fr)];exact z
          rcases hc' with rfl | hc'
          · exact nfp _ _ q
          · exact nfp _ _ hc'
    · have hcl:c≠s.heap.objs.size:=by
        simp only[List.mem_cons,List.not_mem_nil,or_false] at hc
        rcases hc with rfl | rfl
        · exact Nat.ne_of_lt elt
        · obtain ⟨o,q,_⟩:=li.ex;exact Nat.ne_of_lt (Heap.lt_size q)
      rw[aM hcl];exact (hf c hc).1
  done:=by
    intro X hP hw hK hc k pins s σ H E I hf S hg
    subst hP hw hK
    obtain ⟨xs,qa,he⟩:=hg
    obtain ⟨⟨old,en⟩,li⟩:=S
    obtain ⟨ia,ra,sa⟩:=Inv.sq I qa
    have la:=ra.length
    obtain ⟨f0,f1,f2,f3,f4,f5⟩:=hf it (by simp)
    exact Ji (I.ok.hd hc) en li sa (by simp;omega) fun g eb=>⟨rfl,I.turned (t':=s.toks) (fun b o hb q=>eb b o hb q) f0 f1 f3 f4 f5⟩
  self:=fun _ _ _ _ _ S h=>by
    obtain ⟨⟨old,en⟩,_⟩:=S
    exact wpAny_pyIter_enum en h
def Sx (K:PySem.W.Frag)(t:TA):TI:=fun σ H R=>t σ H fun vs H1=>∃ (tp:Bool) (a:Addr),vs=[.ref a]∧(∃ xs,Sq tp K H1 a xs)∧R (Itn tp K a) H1
section
variable {X:Cx} {ea:Expr} {es:List Expr} {ek:Nat} {ep p pos:Pos}
theorem Ov {t:TA}(hg:Gl X "enumerate")(hm:X.mg "enumerate" = none)(ha:PA X [ea] t)(hs:starEach [ea] X.env=[(false,eval ea X.env)]:=by rfl) :
    PI X (.Tuple es ek ep) (.Call (.Name "enumerate" p) [ea] [] pos) (Sx X.K t):=by
  intro pins s σ H R I h
  refine Call_ (jT I hg hm boot_enumerate (PyProof.Rows.callWith_type1 (thn (ha pos pins s σ H _ I h) fun us s1 ⟨vs,H1,I1,r1,q1⟩=>?_) (by rw[hs];rfl) rfl))
  obtain ⟨tp,a,e,⟨xs,qa⟩,q⟩:=q1
  subst e
  cases r1 with | cons r rr=>
  cases rr
  cases (show _=Value.ref a from r)
  obtain ⟨ia,ra,sa⟩:=Inv.sq I1 qa
  refine zE sa fun g en li kp=>wpAny_pyIter_enum en ?_
  refine ⟨s1.heap.objs.size+1,[s1.heap.objs.size+1,s1.heap.objs.size],_,_,H1,rfl,I1.kept (t':=s1.toks) kp,Fz (tp:=tp) (a:=a) (Nat.succ_ne_self _),⟨⟨_,en⟩,li⟩,fun c hc=>?_,q⟩
  have hc':s1.heap.objs.size≤c:=by
    simp only[List.mem_cons,List.not_mem_nil,or_false] at hc
    rcases hc with rfl | rfl
    · exact Nat.le_succ _
    · exact Nat.le_refl _
  exact I1.C6 hc' (I1.hok.fresh hc')
def BE (t:ATr):ATr:=fun ρ μ Q=>t ρ μ fun vs μ1=>match vs with
  | [x]=>kS x fun ds=>Q (i7 ds) μ1
  | _=>False
theorem Bx {At:ATr}(hg:Gl X "enumerate")(hm:X.mg "enumerate" = none)(ha:LA X [ea] At)(hs:starEach [ea] X.env=[(false,eval ea X.env)]:=by rfl) :
    LI X (.Tuple es ek ep) (.Call (.Name "enumerate" p) [ea] [] pos) (BE At):=by
  obtain ⟨t,pt,st⟩:=ha.ex
  refine ⟨_,Ov hg hm pt hs,fun σ H ρ μ Q R rl h k=>st σ H ρ μ _ _ rl h fun vs H1 ds μ1 t1 m1 p1 h1=>?_⟩
  split at h1
  case h_2=>exact False.elim h1
  cases p1 with | cons pa p2=>
  cases p2
  obtain ⟨tp,a,xs,dx,rfl,qa,la,h2⟩:=yW pa h1
  obtain ⟨a',xs',dx',ea',qa',la',h2⟩:=yT pa h2
  cases ea'
  refine ⟨tp,a,rfl,⟨xs',qa'⟩,k _ H1 _ μ1 t1 m1 ⟨fun i H' tk hi=>?_,fun i H' v H'' tk hi yv=>?_,fun i H' tk hi=>?_⟩ h2⟩
  · have l1:=la'.length
    rw[sj] at hi
    exact ⟨xs',xs'[i],tk.sq qa',by simp[show i < xs'.length by omega]⟩
  · obtain ⟨x,q,fx,rfl,fr,rfl⟩:=yv
    have ex:=fx _ (tk.sq qa')
    obtain ⟨d,ed,pd⟩:=la'.get' ex
    have tn:Tk H' (L2.upd H' q (.tup [.int i,x])):=.new fr
    exact ⟨tn,⟨.tup [.int i,d],by rw[sL,ed];rfl,.tup (SqT.of aL) (.cons (.int _) (.cons ((pd.mono tk).mono tn) .nil))⟩,fun μ' m'=>c7 m' fr⟩
  · rw[sj] at hi
    exact ⟨xs',tk.sq qa',by rw[la'.length];exact hi⟩
end
end
section
open PySem PySem.Spec PyProof PyProof.Rows L2
section
variable {w:World} {prog:Program} {A:Around} {E:Value→Shared→Prop}
abbrev QR (g:Heap)(b:Addr)(xs:Array Value):Prop:=∃ n,g.get? b=some { cls:=.type "list", dict:=none,data:=.seq xs n,slots:=#[] }
section
variable {R:Result→Shared→Prop} {I:Addr} {fp wr:List Addr} {n:Nat} {P:Nat→Value→Prop} {St:Nat→Heap→Prop}
theorem Jl (W:Walks prog w A.in1 I fp wr n P St){bt:Nat→Nat→Bool}(cm:CmpOf prog w A.in1 .Gt P bt){S:Addr}(hS:S ∉ fp)(kw:List (Str×Value)) :
    ∀ (m:Nat) (j:Nat) (s:Shared) (vb:Value),j+1+m=n→St (j+1) s.heap→P (argBest bt j) vb→QR s.heap S #[vb,vb]→
    (∀ v g tk,P (argBest bt (n - 1)) v→(∀ c o,c ∉ wr→c≠S→s.heap.get? c=some o→g.get? c=some o)→R (.ok (.ret v)) { s with heap:=g,toks:=tk })→
    codeAny (model prog w) A (.builtin "max.loop" ⟨[.ref I,.none,.ref S],kw⟩) R s:=by
  have sw:S ∉ wr:=fun h=>hS (W.sub _ h)
  have nm:(toString "max" ++ toString ".loop" : String) = "max.loop" := by decide
  intro m
  induction m with
  | zero=>
    intro j s vb en st pb ⟨ep,at'⟩ fin
    refine run_plain F.plain_max_loop F.entry_max_loop ?_
    show wpAny (model prog w) A.in1 (seqItems? (.ref S) >>= _) _ _ s
    refine wpAny_bind (wpAny_seqItems at' rfl ?_)
    show wpAny (model prog w) A.in1 (tryCatch (pyNext (.ref I)) _ >>= _) _ _ s
    refine wpAny_bind (wpAny_tryCatch (W.done s _ _ (by rw[← en];exact st) fun g tk kp=>?_))
    have at1:=kp S _ sw at'
    show wpAny (model prog w) A.in1 (updateSeq S (fun _=>#[]) >>= _) _ _ _
    refine wpAny_bind ?_
    refine wpAny_updateSeq at1 rfl ?_;refine wpAny_bind (wpAny_letGo (wpAny_pure ?_))
    exact fin vb _ tk (by rw[show n - 1=j by omega];exact pb) fun c o c1 c2 e=>(Heap.get?_update_other _ _ (Ne.symm c2)).trans (kp c o c1 e)
  | succ m ih=>
    intro j s vb en st pb ⟨ep,at'⟩ fin
    refine run_plain F.plain_max_loop F.entry_max_loop ?_
    show wpAny (model prog w) A.in1 (seqItems? (.ref S) >>= _) _ _ s
    refine wpAny_bind (wpAny_seqItems at' rfl ?_)
    show wpAny (model prog w) A.in1 (tryCatch (pyNext (.ref I)) _ >>= _) _ _ s
    refine wpAny_bind (wpAny_tryCatch (W.item (j+1) s _ _ (by omega) st fun v g tk pv st1 kp=>?_))
    have at1:=kp S _ sw at'
    show wpAny (model prog w) A.in1 (tryCatch (holding [v,v] (richCompare .Gt v vb >>= _)) _ >>= _) _ _ _
    refine wpAny_bind (wpAny_tryCatch (wpAny_holding (wpAny_bind (cm (j+1) (argBest bt j) v vb _ _ _ pv pb ?_))))
    refine wpAny_bind (wpAny_holding (wpAny_truthy_bool (wpAny_bind (wpAny_letGo (wpAny_pure ?_)))))
    cases better:bt (j+1) (argBest bt j) with
    | true=>
      rw[if_pos rfl]
      have bst:argBest bt (j+1)=j+1:=by rw[argBest,if_pos better]
      refine wpAny_bind ?_
      refine wpAny_updateSeq at1 rfl ?_
      refine wpAny_bind (wpAny_letGo ?_)
      rw[nm]
      refine wpAny_pure ⟨plainId_quiet F.plain_max_loop _,ih (j+1) _ v (by omega) (W.frame _ _ _ st1 fun c hc o e=>(Heap.get?_update_other _ _ (fun z:S=c=>hS (by rw[z];exact hc))).trans e) (by rw[bst];exact pv) ⟨_,Heap.get?_update_self _ at1 rfl⟩ fun v' g' tk' p' kp'=>?_⟩
      exact fin v' g' tk' p' fun c o c1 c2 e=>kp' c o c1 c2 ((Heap.get?_update_other _ _ (Ne.symm c2)).trans (kp c o c1 e))
    | false=>
      rw[if_neg Bool.false_ne_true]
      have bst:argBest bt (j+1)=argBest bt j:=by rw[argBest,if_neg (by rw[better];exact Bool.false_ne_true)]
      refine wpAny_bind (wpAny_letGo ?_)
      rw[nm]
      exact wpAny_pure ⟨plainId_quiet F.plain_max_loop _,ih (j+1) _ vb (by omega) st1 (by rw[bst];exact pb) ⟨_,at1⟩ fun v' g' tk' p' kp'=>fin v' g' tk' p' fun c o c1 c2 e=>kp' c o c1 c2 (kp c o c1 e)⟩
theorem Ee (W:Walks prog w A.in1 I fp wr n P St){bt:Nat→Nat→Bool}(cm:CmpOf prog w A.in1 .Gt P bt){S:Addr}(hS:S ∉ fp){s:Shared}{nm':Str}{d:Value}(st:St 0 s.heap)(at0:QR s.heap S #[])
    (f0:n=0→∀ g tk,(∀ c o,c ∉ wr→c≠S→s.heap.get? c=some o→g.get? c=some o)→R (.ok (.ret d)) { s with heap:=g,toks:=tk })
    (f1:∀ v g tk,0 < n→P (argBest bt (n - 1)) v→(∀ c o,c ∉ wr→c≠S→s.heap.get? c=some o→g.get? c=some o)→R (.ok (.ret v)) { s with heap:=g,toks:=tk }) :
    codeAny (model prog w) A (.builtin "max.loop" ⟨[.ref I,.none,.ref S],[(nm',d)]⟩) R s:=by
  have sw:S ∉ wr:=fun h=>hS (W.sub _ h)
  have nm:(toString "max" ++ toString ".loop" : String) = "max.loop" := by decide
  obtain ⟨ep,at'⟩:=at0
  refine run_plain F.plain_max_loop F.entry_max_loop ?_
  show wpAny (model prog w) A.in1 (seqItems? (.ref S) >>= _) _ _ s
  refine wpAny_bind (wpAny_seqItems at' rfl ?_)
  show wpAny (model prog w) A.in1 (tryCatch (pyNext (.ref I)) _ >>= _) _ _ s
  rcases Nat.eq_zero_or_pos n with hn | hn
  · refine wpAny_bind (wpAny_tryCatch (W.done s _ _ (by rw[hn];exact st) fun g tk kp=>?_))
    show wpAny (model prog w) A.in1 (rule _ >>= _) _ _ _
    exact wpAny_bind (wpAny_rule (wpAny_pure (f0 hn g tk fun c o c1 c2 e=>kp c o c1 e)))
  · refine wpAny_bind (wpAny_tryCatch (W.item 0 s _ _ hn st fun v g tk pv st1 kp=>?_))
    have at1:=kp S _ sw at'
    show wpAny (model prog w) A.in1 (updateSeq S (fun _=>#[v,v]) >>= _) _ _ _
    refine wpAny_bind ?_
    refine wpAny_updateSeq at1 rfl ?_
    rw[nm]
    refine wpAny_pure ⟨plainId_quiet F.plain_max_loop _,Jl W cm hS _ (n - 1) 0 _ v (by omega) (W.frame _ _ _ st1 fun c hc o e=>(Heap.get?_update_other _ _ (fun z:S=c=>hS (by rw[z];exact hc))).trans e) pv ⟨_,Heap.get?_update_self _ at1 rfl⟩ fun v' g' tk' p' kp'=>?_⟩
    exact f1 v' g' tk' hn p' fun c o c1 c2 e=>kp' c o c1 c2 ((Heap.get?_update_other _ _ (Ne.symm c2)).trans (kp c o c1 e))
end
variable {s:Shared}
theorem CC (a d:Value):argsOk "max" ⟨[a],[(Str.ofString "default", d)]⟩:=by unfold argsOk;kernel_rfl
theorem Co (d:Value):Builtin.Builtins.bindParams "max" ["key", "default"] 0 ⟨[],[(Str.ofString "default", d)]⟩=pure [none,some d]:=by kernel_rfl
theorem J6 {id:String}{bi:Builtin}{a:Args}{Q:Value→Shared→Prop}(hk:builtinKind id=none)(hp:plainId id=true)(hb:entryFor table id=some bi)(ha:argsOk id a)
    (h:wpAny (model prog w) A.in1 (bi a) (fun fin s'=>match fin with
      | .done f=>(match (Except.ok f:Result) with | .ok (.ret v)=>Q v s' | .ok _=>False | .error e=>E e s') | .again c'=>c'.quiet=true∧codeAny (model prog w) A c' (fun r s'=>match r with | .ok (.ret v)=>Q v s' | .ok _=>False | .error e=>E e s') s') E s):wpAny (model prog w) A (call (.builtin id) a.pos a.kw) Q E s:=by
  refine wpAny_call (codeAny_call_builtin hp hb ?_);simp only[checkBuiltinCall,hk]
  unfold argsOk at ha
  split<;>rename_i sg
  · rw[sg] at ha
    have ha':Bind.checkArgs id _ a=pure ():=ha
    rw[show (⟨a.pos,a.kw⟩:Args)=a from rfl,ha']
    exact wpAny_pure h
  · exact wpAny_pure h
theorem DE {l:Addr}{xs:Array (Int×Tok)}{d:Value}{Q:Value→Shared→Prop}(hh:A.handled=none)(hl:s.heap.IsList l (intItems xs))
    (f0:xs.size=0→∀ g tk,Kept s g→Q d { s with heap:=g,toks:=tk })
    (f1:∀ v g tk,0 < xs.size→(intItems xs)[argBest (fun i j=>decide (numAt xs i > numAt xs j)) (xs.size - 1)]? = some v→Kept s g→Q v { s with heap:=g,toks:=tk }) :
    wpAny (model prog w) A (call (.builtin "max") [.ref l] [(Str.ofString "default", d)]) Q E s:=by
  have nm:(toString "max" ++ toString ".loop" : String) = "max.loop" := by decide
  refine J6 (a:=⟨[.ref l],[(Str.ofString "default", d)]⟩) F.kind_max F.plain_max F.entry_max (CC _ _) ?_
  show wpAny (model prog w) A.in1 (Builtin.Builtins.bindParams "max" ["key", "default"] 0 ⟨[],[(Str.ofString "default", d)]⟩ >>= _) _ _ s
  refine wpAny_bind (wpAny_of_eq (Co d) ?_)
  refine wpAny_bind (wpAny_pure ?_)
  refine wpAny_bind (iter_intList hl fun s₂ e st hfp hlI=>?_)
  subst e
  refine wpAny_bind (wpAny_newObj_type ?_);rw[nm]
  have W:=Walks.list (prog:=prog) (w:=w) (A:=A.in1) hh _ l hlI (intItems xs)
  have n1:(intItems xs).size=xs.size:=by simp[intItems]
  have S0:(s.heap.push { cls:=.type "list_iterator", data:=.fields #[.ref l,.int 0 0] }).objs.size ∉ [s.heap.objs.size,l]:=fun hm=>Nat.lt_irrefl _ (hfp _ hm)
  have old:∀ g,(∀ c o,c ∉ [s.heap.objs.size]→c≠(s.heap.push { cls:=.type "list_iterator", data:=.fields #[.ref l,.int 0 0] }).objs.size→((s.heap.push { cls:=.type "list_iterator", data:=.fields #[.ref l,.int 0 0] }).push { cls:=.type "list", data:=.seq ([]:List Value).toArray }).get? c=some o→g.get? c=some o)→Kept s g:=fun g kp c o e=>by
    have lt:=Heap.lt_size e
    exact kp c o (fun h=>by rw[List.mem_singleton.mp h] at lt;exact Nat.lt_irrefl _ lt) (by rw[Heap.size_push];exact Nat.ne_of_lt (Nat.lt_succ_of_lt lt)) (Heap.get?_push_of_some _ (Heap.get?_push_of_some _ e))
  refine wpAny_pure ⟨plainId_quiet F.plain_max_loop _,Ee W (CmpOf.ints_gt (numAt xs) fun _ _=>intItems_at) S0 (W.frame _ _ _ st fun c _ o e=>Heap.get?_push_of_some _ e) ⟨_,Heap.get?_push_size _ rfl⟩ (fun z g tk kp=>?_) fun v g tk hn pv kp=>?_⟩
  · exact f0 (by rw[← n1];exact z) g tk (old g kp)
  · rw[n1] at hn pv
    exact f1 v g tk hn pv (old g kp)
end
section
variable {X:Cx} {e d:Expr} {p pos kp:Pos} {Te Td:ETr}
def Pz (K:PySem.W.Frag)(xs:List V)(zs:List V)(H:Hp)(Q:VK):Prop:=∃ (p:Addr) (ns:List Int) (z:V),xs=[.ref p]∧zs=[z]∧SqL K H p (ns.map V.int)∧(ns=[]→Q z H)∧(ns≠[]→∀ M,M∈ns→(∀ a∈ns,a≤M)→Q (.int M) H)
theorem Km {t tk:TA}(hc:X.calm=true)(hg:Gl X "max")(hm:X.mg "max" = none)(ha:PA X [e] t)(hkw:PK X [⟨some (Str.ofString "default"),d,kp⟩] tk)(he:backTo pos (starEach [e] X.env)=(false,eval e X.env)::backTo pos (starEach [] X.env):=by rfl)(hpl:(backTo pos (starEach [e] X.env)).any (·.1)=false:=by rfl) :
    PE X (.Call (.Name "max" p) [e] [⟨some (Str.ofString "default"),d,kp⟩] pos) (fun σ H Q=>t σ H fun xs H1=>tk σ H1 fun zs H2=>Pz X.K xs zs H2 Q):=by
  intro pins s σ H Q I h
  refine wpAny_Call_Name_kw (jT I hg hm (u:=.builtin "max") (by rfl) ?_)
  refine callWith_kw (thn (ha pos pins s σ H _ I h) fun us s1 ⟨vs,H1,I1,r1,q1⟩=>thn (hkw pos pins s1 σ H1 _ I1 q1) fun ws s2 ⟨zs,H2,I2,rz,q2⟩=>?_) he hpl rfl rfl
  obtain ⟨q,ns,z,rfl,rfl,sq,k0,k1⟩:=q2
  obtain ⟨u,rfl,ru⟩:=vals1 r1
  cases ru
  obtain ⟨u,rfl,rz1⟩:=vals1 rz
  obtain ⟨its,rv,pl,_⟩:=I2.list sq
  obtain ⟨ps,rfl,rfl⟩:=hE (intsAre_of rv)
  have il:s2.heap.IsList q (intItems ps.toArray):=by
    have:=pl.isList
    simpa[intItems] using this
  have hs:ps.toArray.size=ps.length:=by simp
  refine DE (I2.ok.hd hc) il (fun z0 g tk kp=>?_) fun v g tk hn hv hk=>?_
  · exact ⟨z,H2,I2.kept kp,rz1,k0 (by rw[hs] at z0;cases ps with | nil=>rfl | cons=>cases z0)⟩
  · rcases intItems_at hv with ⟨t,rfl⟩
    obtain ⟨b1,b2⟩:=argBest_gt (numAt ps.toArray) (ps.toArray.size - 1)
    generalize argBest (fun i j=>decide (numAt ps.toArray i > numAt ps.toArray j)) (ps.toArray.size - 1)=m at hv b1 b2
    rw[hs] at b1 b2 hn
    have hk':m < (ps.map Prod.fst).length:=by rw[List.length_map];omega
    refine ⟨.int _,H2,I2.kept hk,⟨t,rfl⟩,k1 (fun z=>by rw[List.map_eq_nil_iff.mp z] at hn;cases hn) _ ?_ fun a ha=>?_⟩
    · rw[pU,List.getElem?_eq_getElem hk']
      exact List.getElem_mem hk'
    · obtain ⟨j,hj,rfl⟩:=List.getElem_of_mem ha
      have:=b2 j (by rw[List.length_map] at hj;omega)
      rw[pU ps j,List.getElem?_eq_getElem hj] at this
      exact this
def B4 (Te Td:ETr):ETr:=fun ρ μ Q=>Te ρ μ fun x μ1=>Td ρ μ1 fun y μ2=>match x with
  | .ls xs=>∃ ns:List Int,xs=ns.map .int∧(ns=[]→Q y μ2)∧(ns≠[]→∀ M,M∈ns→(∀ a∈ns,a≤M)→Q (.int M) μ2)
  | _=>False
theorem AU (hc:X.calm=true)(hg:Gl X "max")(hm:X.mg "max" = none)(ha:LE X e Te)(hd:LE X d Td)(h1:starEach [e] X.env=(false,eval e X.env)::starEach [] X.env:=by rfl)(he:backTo pos (starEach [e] X.env)=(false,eval e X.env)::backTo pos (starEach [] X.env):=by rfl)(hpl:(backTo pos (starEach [e] X.env)).any (·.1)=false:=by rfl) :
    LE X (.Call (.Name "max" p) [e] [⟨some (Str.ofString "default"),d,kp⟩] pos) (B4 Te Td):=by
  obtain ⟨te,pe,se⟩:=ha.ex
  obtain ⟨td,pd,sd⟩:=hd.ex
  refine ⟨_,Km hc hg hm (fS pe jl h1) (JE pd MC) he hpl,fun σ H ρ μ Q Q' rl h k=>se σ H ρ μ _ _ rl h fun x H1 dx μ1 t1 m1 p1 h1=>sd σ H1 ρ μ1 _ _ (rl.go t1 m1) h1 fun y H2 dy μ2 t2 m2 p2 h2=>?_⟩
  cases (p1.mono t2) with
  | @ls q xs ds sq l=>
    obtain ⟨ns,rfl,k0,k1⟩:=h2
    have ex:=l.ints_of
    subst ex
    exact ⟨q,ns,y,rfl,rfl,sq.sq,fun z=>k _ H2 _ μ2 (t1.trans t2) m2 p2 (k0 z),fun z M h3 h4=>k _ H2 _ μ2 (t1.trans t2) m2 (.int _) (k1 z M h3 h4)⟩
  | _=>exact False.elim h2
end
end
section
open PySem PySem.Spec PyProof.Rows L2
def uT (It':ATr)(G:GTr)(tt:TTr)(te:ETr)(n:Nat)(caps:List Nat):ETr:=fun ρ μ Q=>It' ρ μ fun ds μ1=>∀ p,μ1 p=none→fM p G tt te (fu ρ n caps) (fun μ'=>Q (.obj p) μ') ds (up μ1 p (.lst []))
theorem FY {X:Cx}{tg iter elt:Expr}{ifs:List Expr}{scope:Scope}{pos spos py:Pos}{y:Str}{iy:Nat}{wi:TI}{g:TG}{tt:TT}{te:TE}{Nc:List Str}{n:Nat}{caps:List Nat}
    (hxe:X.xe=fun _ _=>False) (hcalm:X.calm=true) (hi:PI X tg iter wi)
    (hbody:∀ (cl:List (Str×Addr)) (C:Addr) (s₀:Shared) (H₀:Hp) (ex:List Addr),PG (a5 X scope Nc cl C s₀ H₀ ex) tg g∧xO (a5 X scope Nc cl C s₀ H₀ ex) ifs tt∧PE (a5 X scope Nc cl C s₀ H₀ ex) elt te)
    (hfree:∀ y∈scope.names,y.2=.free→X.env.kindOf y.1=some .cell) (hcell:∀ y∈scope.names,y.2≠.cell) (gn:scope.kind=.function)
    (hnames:∀ y∈scope.names,y.2=.local→scope.names.lookup y.1=some .local) (hlen:Nc.length=n+caps.length)
    (hcap:∀ (j k:Nat),caps[j]? = some k→∃ x,Nc[n+j]? = some x∧X.N[k]? = some x∧scope.names.lookup x=some .free)
    (pgy:PG X (.Name y py) (lZ iy))
    (hsw:swapsWith (.ListComp elt [⟨tg,iter,ifs,0⟩] scope pos) (some (.Name y py)) spos.line X.env=pure true)
    (hs:∀ x,foldedSetIterable iter X.env x=pure x:=by intro _;rfl) :
    PS X (.Assign [.Name y py] (.ListComp elt [⟨tg,iter,ifs,0⟩] scope pos) spos) (F9 (kl wi g tt te n caps) (lZ iy)):=
  wc (Z:=id) hxe hcalm hi hbody hfree hcell gn hnames hlen hcap pgy hsw (fun σ H Q h=>⟨_,h,fun pins D H5 s5 I5 q=>⟨H5,fun _ h=>h,I5,q⟩⟩) hs
theorem CN {K:PySem.W.Frag}{wi:TI}{It':ATr}{G:GTr}{Tt:TTr}{Te:ETr}{n:Nat}{caps:List Nat}(si:Oj K wi It'):Sim K (kl wi (kY K n G) (liftT K Tt) (lN K Te) n caps) (uT It' G Tt Te n caps):=by
  intro σ H ρ μ Q Q' rl h k
  refine si σ H ρ μ _ _ rl h fun J H1 ds μ1 t1 m1 Y h1 D hD=>?_
  have hp:=h1 D (m1.free hD)
  have tD:Tk H1 (L2.upd H1 D (.lst [])):=.new hD
  have mD:bL K (L2.upd H1 D (.lst [])) (up μ1 D (.lst [])):=fun a o e=>by
    by_cases ha:a=D
    · subst ha
      rw[aH] at e;cases e
      exact ⟨[],aL,.nil⟩
    · rw[aU ha] at e
      exact c7 m1 hD a o e
  refine ⟨fun i m ys H2=>m=ds.length - i∧i≤ds.length∧Tk H1 H2∧∃ μ2,bL K H2 μ2∧fM D G Tt Te (fu ρ n caps) (fun μ'=>Q (.obj D) μ') (ds.drop i) μ2,
    ⟨ds.length,by simp,Nat.zero_le _,tD,_,mD,by simpa using hp⟩,?_⟩
  rintro i m ys H2 ⟨rfl,hi,t12,μ2,m2,h2⟩
  by_cases hlt:i < ds.length
  · refine .inr ⟨Y.go i H2 t12 hlt,fun ys' H'=>Tk H1 H'∧∃ μ',bL K H' μ'∧fM D G Tt Te (fu ρ n caps) (fun μ'=>Q (.obj D) μ') (ds.drop (i+1)) μ',fun ys' H' ⟨t',μ',m',h'⟩=>⟨ds.length - (i+1),by omega,rfl,hlt,t',μ',m',h'⟩,fun x H3 y=>?_⟩
    obtain ⟨t23,⟨d,ed,pd⟩,mk⟩:=Y.yld i H2 x H3 t12 hlt y
    have e:ds.drop i=d::ds.drop (i+1):=by
      refine (List.drop_eq_getElem_cons hlt).trans ?_
      congr 1
      rw[List.getElem?_eq_getElem hlt] at ed
      exact Option.some.inj ed
    rw[e] at h2
    have t13:=t12.trans t23
    have r3:Rl K (ki σ n caps) H3 (fu ρ n caps) μ2:=oq (rl.go (t1.trans t13) (mk _ m2)) n caps
    refine ⟨_,_,d,_,r3,pd,h2,fun σ4 H4 ρ4 μ4 t4 r4 kp h4=>⟨⟨kp.1.symm,fun j v ej=>?_⟩,_,_,_,r4,h4,fun b H5 μ5 t5 m5 h5=>?_⟩⟩
    · by_cases hj:n≤j
      · rw[kp.2 j hj];exact ej
      · obtain ⟨j',k',e1,_⟩:=jD ej
        omega
    · have t15:=t13.trans (t4.trans t5)
      cases b with
      | false=>exact rn ⟨t15,μ5,m5,h5⟩
      | true=>
        refine ri ⟨_,_,_,r4.go t5 m5,h5,fun v H6 d6 μ6 t6 m6 p6 h6=>?_⟩
        obtain ⟨zs,ez,lz,h7⟩:=bP h6
        obtain ⟨xs,ex,lx⟩:=m6 D _ ez
        have t67:Tk H6 (L2.upd H6 D (.lst (xs++[v]))):=.upd (fun ys z=>by rw[ex] at z;cases z) fun o' u z=>by rw[ex] at z;cases z
        refine ⟨xs,ex,by rw[lx.length];exact Nat.lt_of_lt_of_le lz (by decide),(t15.trans t6).trans t67,up μ6 D (.lst (zs++[d6])),fun a o ea=>?_,h7⟩
        by_cases ha:a=D
        · subst ha
          rw[aH] at ea;cases ea
          exact ⟨_,aL,(lx.append (.cons p6 .nil)).mono t67⟩
        · rw[aU ha] at ea
          exact (m6 a _ ea).ne t67 ha
  · have e:i=ds.length:=by omega
    subst e
    rw[List.drop_length] at h2
    exact .inl ⟨Y.stop _ H2 t12 (Nat.le_refl _),k _ _ _ μ2 (t1.trans t12) m2 (.obj _) h2⟩
theorem Ff {X:Cx}{tg elt iter:Expr}{Te:ETr}{Tt:TTr}{pos spos py:Pos}{y:Str}{It':ATr}{G:GTr}{ifs:List Expr}{scope fsc:Scope}(iy:Nat)(hN:X.N.Nodup)(XN Nc:List Str)(n:Nat)(caps:List Nat)(hxe:X.xe=fun _ _=>False)(hcalm:X.calm=true)(hi:LI X tg iter It')
    (hbody:∀ (cl:List (Str×Addr)) (C:Addr) (s₀:Shared) (H₀:Hp) (ex:List Addr),LGc (a5 X scope Nc cl C s₀ H₀ ex) n tg G∧wm (a5 X scope Nc cl C s₀ H₀ ex) ifs Tt∧LE (a5 X scope Nc cl C s₀ H₀ ex) elt Te)
    (hsc:X.env.scope=fsc) (hXN:X.N=XN) (hok:gT fsc.names XN scope Nc n caps=true)
    (hiy:X.N[iy]? = some y:=by rfl) (hx:Loc X.env.scope y:=by first | exact Or.inl rfl | exact Or.inr rfl) (hf:X.fn y=true∨X.env.scope.names.lookup y=some .local:=by first | exact .inl rfl | exact .inr rfl | assumption)
    (hsw:swapsWith (.ListComp elt [⟨tg,iter,ifs,0⟩] scope pos) (some (.Name y py)) spos.line X.env=pure true:=by rfl)
    (hs:∀ x,foldedSetIterable iter X.env x=pure x:=by intro _;rfl) :
    LS X (.Assign [.Name y py] (.ListComp elt [⟨tg,iter,ifs,0⟩] scope pos) spos) (aP (uT It' G Tt Te n caps) (aw iy)):=by
  unfold gT at hok
  simp only[Bool.and_eq_true,List.all_eq_true] at hok
  obtain ⟨⟨⟨h1,h2⟩,h3⟩,h4⟩:=hok
  obtain ⟨wi,pi,si⟩:=hi.ex
  refine ⟨_,FY (g:=kY X.K n G) (tt:=liftT X.K Tt) (te:=lN X.K Te) hxe hcalm pi (fun cl C s₀ H₀ ex=>let ⟨h1,h2,h3⟩:=hbody cl C s₀ H₀ ex;⟨h1.pe,h2.pe,h3.pe⟩) (fun y hy hf=>?_) (fun y hy hf=>?_) (by simpa using h2) (fun y hy hf=>?_) (by simpa using h3) (fun j k hj=>?_) (iL hN hiy hx hf) hsw hs,fun σ H ρ μ E E' rl h k=>CN si σ H ρ μ _ _ rl h fun v H' d μ' t' m' p' h'=>ix iy σ H' ρ μ' v d _ _ (rl.go t' m') p' h' (k.go t').nx⟩
  · have:=(h1 y hy).1.1
    show X.env.scope.names.lookup y.1=_
    rw[hsc]
    simpa[hf] using this
  · have:=(h1 y hy).1.2
    simp[hf] at this
  · have:=(h1 y hy).2
    simpa[hf] using this
  · have hl:j < caps.length:=(List.getElem?_eq_some_iff.mp hj).1
    have:=h4 j (List.mem_range.mpr hl)
    rw[hj] at this
    dsimp only at this
    rw[hXN]
    cases e:XN[k]? with
    | none=>rw[e] at this;cases this
    | some x=>
      rw[e] at this
      dsimp only at this
      rw[Bool.and_eq_true] at this
      exact ⟨x,by simpa using this.1,rfl,by simpa using this.2⟩
section
variable {X:Cx} {o i:Expr} {To Ti:ETr} {apos cpos:Pos}
end
end
section
open PySem PySem.Spec PyProof.Rows L2
section
variable {X:Cx} {o i:Expr} {To Ti:ETr} {apos cpos:Pos}
theorem AF (l:Addr)(its:Array Value)(n:Nat)(q:Addr)(its2:Array Value)(n2:Nat)(dd:Option Addr)(sl:Array (Option Value))(h0:¬ (!its.isEmpty&&Builtin.List.listTooLong (its.size+its2.size))=true)(h1:its.size≤sizeLine)(h2:its.size+its2.size≤sizeLine+1) :
    Meets (Builtin.«list.extend» ⟨[.ref l,.ref q],[]⟩) (fun _ R s=>s.heap.get? l=some { cls:=.type "list", dict:=none,data:=.seq its n,slots:=#[] }∧s.heap.get? q=some { cls:=.type "tuple", dict:=dd,data:=.seq its2 n2,slots:=sl }∧
      R (.ok (.ret Value.none)) { s with heap:=s.heap.update l (Obj.mapSeq fun x=>x++its2) }):=
  .of_wp fun prog w A R s h=>by
    rcases s with ⟨hp,g,d,tk,os⟩
    obtain ⟨hl,hb,h⟩:=h
    have z1:=PySem.AutoSeq1.idx_int
    have z2:=PySem.AutoSeq1.sub_tuple_tuple
    have z3:=PySem.AutoSeq1.sub_list_list
    have z4:=PySem.AutoSeq1.sub_tuple_list
    have z5:=PySem.AutoSeq1.sub_list_tuple
    have hz':(its++its2).size≤sizeLine+1:=by rw[Array.size_append];omega
    wp_walk using (wpAny_updateSeq hl rfl (hz:=h1) (_hz':=hz')),wpAny_loadPart' hl,wpAny_loadPart' hb
    exact ⟨_,rfl,h⟩
def Rx (K:PySem.W.Frag):V→List V→Hp→VK→Prop:=fun x vs H Q=>∃ l b xs zs,x=.ref l∧vs=[.ref b]∧H l=some (.lst xs)∧(SqL K H b zs∨SqT K H b zs)∧xs.length+zs.length≤sizeLine∧Q .non (L2.upd H l (.lst (xs++zs)))
theorem KU:MtM X "list.extend" (Rx X.K):=by
  intro pins s σ H x vs v us Q I rx rv h
  obtain ⟨l,q,xs,zs,rfl,rfl,hH,hB,hz,qq⟩:=h
  rcases hB with hB | hB
  · exact MJ pins s σ H _ _ v us Q I rx rv ⟨l,q,xs,zs,rfl,rfl,hH,hB,hz,qq⟩
  cases (show v=Value.ref l from rx)
  obtain ⟨u,rfl,ru⟩:=rv.one
  cases (show u=Value.ref q from ru)
  obtain ⟨z,its,n,r,hl,e⟩:=I.Ly hH
  obtain ⟨its2,r2,⟨o,e2,c2,n2,dat2⟩,_⟩:=I.tuple hB
  have e2':s.heap.get? q=some ⟨.type "tuple", o.dict,.seq its2.toArray n2,o.slots⟩:=by
    rw[e2];obtain ⟨c',dd,dt,sl⟩:=o;simp only at c2 dat2;subst c2 dat2;rfl
  have hl2:=r2.length
  have hs2:its.toArray.size+its2.toArray.size≤sizeLine:=by rw[List.size_toArray,List.size_toArray];omega
  have HK:¬ (!its.toArray.isEmpty&&Builtin.List.listTooLong (its.toArray.size+its2.toArray.size))=true:=by
    rw[xW hs2,Bool.and_false];decide
  refine call_meets F.slot_list_extend ⟨_,e,rfl⟩ F.entry_list_extend (F.args_list_extend_2 _ _) (AF l its.toArray n q its2.toArray n2 o.dict o.slots HK (by omega) (by omega)) ⟨e,e2',?_⟩
  refine ⟨.non,_,I.Iq (its':=its++its2) hH e (by simp) (r.append r2) ?_,rfl,qq⟩
  rw[List.length_append];omega
def wg (To Ti:ETr):ETr:=fun ρ μ Q=>To ρ μ fun x μ1=>kObj x fun a=>kL μ1 a fun _=>Ti ρ μ1 fun y μ2=>Cw μ2 y fun es=>kL μ2 a fun ds=>ds.length+es.length≤1000000∧Q .non (up μ2 a (.lst (ds++es)))
theorem Gg {K:PySem.W.Frag}{H:Hp}{μ:Mu}{x:V}{dx:D}{f:List D→Prop}(m:bL K H μ)(p:Dp K H x dx)(h:Cw μ dx f):∃ q xs ds,x=.ref q∧(SqL K H q xs∨SqT K H q xs)∧DpL K H xs ds∧f ds:=by
  cases p with
  | tup sq l=>exact ⟨_,_,_,rfl,.inr sq,l,h⟩
  | ls sq l=>exact ⟨_,_,_,rfl,.inl sq.sq,l,h⟩
  | obj q=>
    obtain ⟨ds,e0,h⟩:=bP (show kL μ q _ from h)
    obtain ⟨xs,ex,l⟩:=m q _ e0
    exact ⟨q,xs,ds,rfl,.inl (SqL.of ex),l,h⟩
  | _=>exact False.elim h
theorem uW (ho:LE X o To)(hi:LE X i Ti)
    (hbase:attributeBase o "extend" X.env (eval o X.env)=eval o X.env:=by rfl)
    (hfew:((backTo cpos (starEach [i] X.env)).all (fun x=>!x.1)&&(backToKw cpos (keywordEach [] X.env)).all (fun x=>x.1.isSome)
      && decide (([i]:List Expr).length+([]:List Keyword).length+(if ([]:List Keyword).isEmpty then 0 else 1) < 30))=true:=by rfl)
    (hline:(apos.endLine == cpos.line)=true:=by rfl) (hs:starEach [i] X.env=(false,eval i X.env)::starEach [] X.env:=by rfl) (hplain:(backTo cpos (starEach [] X.env)).any (·.1)=false:=by rfl) :
    LE X (.Call (.Attribute o "extend" apos) [i] [] cpos) (wg To Ti):=by
  obtain ⟨to,po,so⟩:=ho.ex
  obtain ⟨ti,pi,si⟩:=hi.ex
  refine ⟨_,BA PySem.F.plainAttrs_list PySem.F.slot_list_extend PySem.F.type_list_extend KU po (fS pi jl hs) hbase hfew hline hs hplain,fun σ H ρ μ Q Q' rl h k=>so σ H ρ μ _ _ rl h fun x H1 dx μ1 t1 m1 p1 h1=>?_⟩
  obtain ⟨q,rfl,h1⟩:=ij p1 h1
  obtain ⟨ds0,e0,h1⟩:=bP h1
  obtain ⟨xs0,ex0,_⟩:=m1 q _ e0
  refine ⟨.inl ⟨rfl,_,SqL.of ex0⟩,si σ H1 ρ μ1 _ _ (rl.go t1 m1) h1 fun y H2 dy μ2 t2 m2 p2 h2=>?_⟩
  obtain ⟨q',ys,es,rfl,sq,l',h2⟩:=Gg m2 p2 h2
  obtain ⟨ds,e2,hz,h2⟩:=bP h2
  obtain ⟨xs,ex,l⟩:=m2 q _ e2
  exact ⟨q,q',xs,ys,rfl,rfl,ex,sq,by rw[l.length,l'.length];exact big hz,k _ _ _ _ ((t1.trans t2).trans (ky ex)) (Hq m2 ex (l.append l')) .non h2⟩
end
end
theorem Kn (a b:ETr)(ρ:ST)(μ:Mu)(Q:DK):GR a b ρ μ Q=a ρ μ fun x μ1=>b ρ μ1 fun y μ2=>kI x fun i=>kI y fun j=>((-4611686018427387904≤i∧i < 4611686018427387904)∧(-4611686018427387904≤j∧j < 4611686018427387904)∧(j - i).toNat≤1000000)∧Q (.tup (cx i (j - i).toNat)) μ2:=propext Iff.rfl
def N9 (x y:D)(μ:Mu)(Q:DK):Prop:=match x with
  | .ls xs=>∃ ns:List Int,xs=ns.map .int∧(ns=[]→Q y μ)∧(ns≠[]→∀ M,M∈ns→(∀ a∈ns,a≤M)→Q (.int M) μ)
  | _=>False
theorem Iy (a b:ETr)(ρ:ST)(μ:Mu)(Q:DK):B4 a b ρ μ Q=a ρ μ fun x μ1=>b ρ μ1 fun y μ2=>N9 x y μ2 Q:=propext Iff.rfl
theorem IX (a b:ETr)(ρ:ST)(μ:Mu)(Q:DK):wg a b ρ μ Q=a ρ μ fun x μ1=>kObj x fun a=>kL μ1 a fun _=>b ρ μ1 fun y μ2=>Cw μ2 y fun es=>kL μ2 a fun ds=>ds.length+es.length≤1000000∧Q .non (up μ2 a (.lst (ds++es))):=propext Iff.rfl
theorem NY (μ:Mu)(ds:List D)(f:List D→Prop):Cw μ (.tup ds) f=f ds:=propext Iff.rfl
theorem NQ (μ:Mu)(ds:List D)(f:List D→Prop):Cw μ (.ls ds) f=f ds:=propext Iff.rfl
def ENM (vs:List D)(μ:Mu)(Q:List D→Mu→Prop):Prop:=match vs with
  | [x]=>kS x fun ds=>Q (i7 ds) μ
  | _=>False
theorem JG (t:ATr)(ρ:ST)(μ:Mu)(Q:List D→Mu→Prop):BE t ρ μ Q=t ρ μ fun vs μ1=>ENM vs μ1 Q:=propext Iff.rfl
theorem Qu (x:D)(μ:Mu)(Q:List D→Mu→Prop):ENM [x] μ Q=kS x fun ds=>Q (i7 ds) μ:=propext Iff.rfl
def Ma (G:GTr)(tt:TTr)(te:ETr)(ρc:ST)(ds:List D)(μ:Mu)(Q:DK):Prop:=∀ p,μ p=none→fM p G tt te ρc (fun μ'=>Q (.obj p) μ') ds (up μ p (.lst []))
theorem Gu (it:ATr)(G:GTr)(tt:TTr)(te:ETr)(n:Nat)(caps:List Nat)(ρ:ST)(μ:Mu)(Q:DK):uT it G tt te n caps ρ μ Q=it ρ μ fun ds μ1=>Ma G tt te (fu ρ n caps) ds μ1 Q:=propext Iff.rfl
theorem ER (xs:List D)(μ:Mu)(Q:DK):jr p8 [.tup xs] μ Q = ∃ ns:List Int,(xs=ns.map .int∧ns.length < 64)∧∀ ns':List Int,ns'.Perm ns→ns'.Pairwise (·≤·)→Q (.ls (ns'.map .int)) μ:=propext Iff.rfl
theorem Kq (xs:List D)(μ:Mu)(Q:DK):jr BV [.ls xs] μ Q = ∃ ns:List Int,xs=ns.map .int∧Q (.int ns.sum) μ:=propext Iff.rfl
theorem Qc (o:Option Int)(μ Q):rIs (c5 o) .non μ Q=Q (.bl (decide (o=none))) μ:=by cases o<;>simp[rIs,c5]
def dD (ns:List Int):List Int:=ns.mergeSort (fun a b=>decide (a≤b))
theorem iF (ns:List Int):(dD ns).Perm ns:=List.mergeSort_perm ..
theorem HA (ns:List Int):(dD ns).Pairwise (·≤·):=by
  have:=List.pairwise_mergeSort (le:=fun a b:Int=>decide (a≤b)) (fun a b c h1 h2=>by simp at *;omega) (fun a b=>by simp;omega) ns
  exact this.imp fun h=>by simpa using h
theorem m9:∀ {a b:List Int},a.Perm b→a.Pairwise (·≤·)→b.Pairwise (·≤·)→a=b
  | [],b,h,_,_=>(List.nil_perm.mp h).symm
  | x::a,[],h,_,_=>absurd h (by simp)
  | x::a,y::b,h,ha,hb=>by
    have ha':=List.pairwise_cons.mp ha
    have hb':=List.pairwise_cons.mp hb
    have hx:x∈y::b:=h.mem_iff.mp List.mem_cons_self
    have hy:y∈x::a:=h.mem_iff.mpr List.mem_cons_self
    have e:x=y:=by
      rcases List.mem_cons.mp hx with e | e
      · exact e
      · rcases List.mem_cons.mp hy with e' | e'
        · exact e'.symm
        · have h1:=ha'.1 y e'
          have h2:=hb'.1 x e
          omega
    subst e
    rw[m9 ((List.perm_cons x).mp h) ha'.2 hb'.2]
theorem vW {a ns:List Int}(h:a.Perm ns)(s:a.Pairwise (·≤·)):a=dD ns:=m9 (h.trans (iF ns).symm) s (HA ns)
theorem mI (ns:List Int):(dD ns).length=ns.length:=(iF ns).length_eq
def own (n:Str)(ls:List Lt):List Lt:=ls.filter fun l=>decide (l.nm=n)
def St'.und (x:St')(n:Str):Int:=(x.ws.map fun w=>((own n (w.cm++w.st)).length:Int)).sum
def ie (lf:Option Int)(places:Int):Int:=match lf with
  | none=>places
  | some l=>min places l
def rgI (a:Int)(n:Nat):List Int:=(List.range n).map fun (i:Nat)=>a+(i:Int)
theorem Ru (a:Int)(n:Nat):cx a n=(rgI a n).map .int:=by unfold cx rgI;rw[List.map_map];rfl
def Ss.fill (x:Ss)(pl:Nat):Ss×List Int:=
  let c:=ie x.lf ((pl:Int) - ((x.ag.take pl).length:Int))
  (⟨x.nm,x.du,x.W,x.S,x.nx+c,x.lf.map (· - c),x.ag.drop (x.ag.take pl).length,x.lo,x.gd,x.mk',x.wt⟩,x.ag.take pl++rgI x.nx c.toNat)
def Ss.hd (x:Ss):Hd:=⟨x.gd,x.mk',x.lo.length,x.wt⟩
def Ss.rdy (g:Int)(R:RN)(x:Ss):Ss:=⟨x.nm,x.du,(R.beh g x.W x.S x.hd).1,(R.beh g x.W x.S x.hd).2,x.nx,x.lf,dD (x.ag++x.lo),[],0,0,0⟩
def Ss.bt (g:Int)(s:Sn)(x:Ss)(u:Int):Ss×List Int:=if x.du=some 0 then (x.rdy g s.rl).fill (max 0 ((s.rl.beh g x.W x.S x.hd).1 / g - u)).toNat else (x,[])
def cY (ns:List (List Int)):Nat:=(ns.map List.length).foldr max 0
def lF (ss:List Sn)(ns:List (List Int)):List (Str×Lt):=
  (List.range (cY ns)).flatMap fun t=>(List.zip ss ns).filterMap fun p=>p.2[t]?.map fun n=>(p.1.rd.headD (Str.ofString ""),⟨p.1.nm,n,0,0,0⟩)
def sdD (x:Str×Lt):D:=.tup [.str x.1,x.2.toD]
structure Wt where
  ca:List Lt
  lo:List Lt
  ou:List Lt
  st:List Lt
  la:Str
def Wt.toD (x:Wt):D:=.tup [.tup (ltD x.ca),.tup (ltD x.lo),.tup (ltD x.ou),.tup (ltD x.st),.str x.la]
def pass (w:Wy)(ns:List Str)(k:Ws)(aN:List (Str×Lt)):Wt:=
  let ca:=k.cm++(aN.filter fun x=>decide (x.1=w.nm)).map (·.2)
  let h:=tk w k.st ca
  let t:=eQ w ns h.1 k.la
  ⟨ca,h.2,t.1,t.2.1,t.2.2⟩
def kh (ss:List Sn):List (L2.Key×D):=ss.map fun s=>(.inr s.nm,.tup (s.rd.map .str))
def road (ss:List Sn)(n:Str):List Str:=((ss.find? fun s=>decide (s.nm=n)).map Sn.rd).getD []
def cN (ss:List Sn)(l:Lt):Option Str:=(road ss l.nm)[l.hp.toNat+1]?
def wu:Option Str→D
  | none=>.non
  | some s=>.str s
structure Ev where
  wd:Str
  nm:Str
  nu:Int
  wy:Str
def Ev.toD (x:Ev):D:=.tup [.str x.wd,.str x.nm,.int x.nu,.str x.wy]
abbrev evD (xs:List Ev):List D:=xs.map Ev.toD
def evs (ss:List Sn)(w:Wy)(x:Wt):List Ev:=
  (x.ca.zipIdx.map fun p=>⟨if (p.2:Int) < (x.ca.length:Int) - x.lo.length then Str.ofString "in" else Str.ofString "lost", p.1.nm,p.1.nu,w.nm⟩) ++
  x.ou.map fun l=>⟨if cN ss l=none then Str.ofString "taken" else Str.ofString "out", l.nm,l.nu,w.nm⟩
def Lt.lL (x:Lt)(h:Int):Lt:=⟨x.nm,x.nu,x.ag+1,x.hp+h,x.mr⟩
def FQ (ss:List Sn)(w:Wy)(x:Wt)(out:List Lt):Ws:=⟨(out.filter fun l=>decide (cN ss l=some w.nm)).map (·.lL 1),x.st.map (·.lL 0),x.la⟩
def uX (s:Sn)(d:Option Int):Option Int:=d.map fun i=>if i=0 then s.bt - 1 else i - 1
def pE (d:Int):List Int→Int
  | []=>d
  | a::r=>(a::r).tail.foldl max a
def iT (s:Sn)(x:Ss)(a7 taken:List Lt):Ss:=
  let o:=own s.nm taken
  let m:=(o.map Lt.mr).sum
  ⟨x.nm,uX s x.du,x.W,x.S,x.nx,x.lf,x.ag,dD (x.lo++(own s.nm a7).map Lt.nu),x.gd+o.length - m,x.mk'+m,max x.wt (pE 0 (o.map fun l=>l.ag - l.hp))⟩
def Pn.bA (p:Pn)(st:St'):List (Ss×List Int):=List.zipWith (fun s k=>k.bt p.g s (st.und k.nm)) p.ss st.ss
def Pn.aN (p:Pn)(st:St'):List (Str×Lt):=lF p.ss ((p.bA st).map (·.2))
def Pn.bD (p:Pn)(st:St'):List Wt:=List.zipWith (fun w k=>pass w p.sn k (p.aN st)) p.ws st.ws
def Pn.a7 (p:Pn)(st:St'):List Lt:=(p.bD st).flatMap Wt.lo
def Pn.out (p:Pn)(st:St'):List Lt:=(p.bD st).flatMap Wt.ou
def Pn.taken (p:Pn)(st:St'):List Lt:=(p.out st).filter fun l=>decide (cN p.ss l=none)
def Pn.step (p:Pn)(st:St'):St':=⟨List.zipWith (fun w x=>FQ p.ss w x (p.out st)) p.ws (p.bD st),List.zipWith (fun s b=>iT s b.1 (p.a7 st) (p.taken st)) p.ss (p.bA st)⟩
def Pn.evs (p:Pn)(st:St'):List Ev:=(p.aN st).map (fun x=>⟨Str.ofString "sent", x.2.nm,x.2.nu,x.1⟩)++(List.zipWith (fun w x=>L3.evs p.ss w x) p.ws (p.bD st)).flatten
theorem R5 (x:Wt)(μ:Mu)(Q:DK):L3.rIx x.toD (.int 0) μ Q=Q (.tup (ltD x.ca)) μ:=propext Iff.rfl
theorem Si (x:Wt)(μ:Mu)(Q:DK):L3.rIx x.toD (.int 1) μ Q=Q (.tup (ltD x.lo)) μ:=propext Iff.rfl
theorem RR (x:Wt)(μ:Mu)(Q:DK):L3.rIx x.toD (.int 2) μ Q=Q (.tup (ltD x.ou)) μ:=propext Iff.rfl
theorem S2 (x:Wt)(μ:Mu)(Q:DK):L3.rIx x.toD (.int 3) μ Q=Q (.tup (ltD x.st)) μ:=propext Iff.rfl
theorem Sl (x:Wt)(μ:Mu)(Q:DK):L3.rIx x.toD (.int 4) μ Q=Q (.str x.la) μ:=propext Iff.rfl
theorem SJ (x:Ev)(μ:Mu)(Q:DK):L3.rIx x.toD (.int 1) μ Q=Q (.str x.nm) μ:=propext Iff.rfl
theorem Rq (i0 i1:Nat)(x:Str×Lt)(ρ:ST)(μ:Mu)(k:ST→Mu→Prop):eM [i0,i1] (sdD x) ρ μ k=eM [i0,i1] (.tup [.str x.1,x.2.toD]) ρ μ k:=propext Iff.rfl
def RN.sh1 (R:RN)(g S:Int)(h:Hd):Int:=if R.idle h then S else R.shr g S h
theorem IB (R:RN)(g W S:Int)(h:Hd):(R.beh g W S h).2=R.sh1 g S h:=by
  unfold RN.beh RN.sh1;split<;>rfl
theorem M6 {R:RN}(k:R.Ok){g S:Int}{h:Hd}(H:h.Ok)(g0:0 < g)(S0:0≤S)(S1:S≤g):0≤R.sh1 g S h∧R.sh1 g S h≤g:=by
  unfold RN.sh1
  split
  · exact ⟨S0,S1⟩
  · rename_i hn;exact FN k H hn g0 S0 S1
theorem JI {R:RN}(K:R.Ok){g:Int}(g0:0 < g)(x:Int):g≤R.clip g x∧R.clip g x≤R.cap g:=by
  have c2:=Ie K (g:=g) g0
  unfold RN.clip;omega
def Q7:=Jn @Kn <| Jn @Iy <| Jn @IX <| Jn @NY <| Jn @NQ <| Jn @JG <| Jn @Qu <| Jn @Gu <| Jn @ER <| Jn @Kq <| Jn @Qc <| Jn @R5 <| Jn @Si <| Jn @RR <| Jn @S2 <| Jn @Sl <| Jn @SJ <| Jn @Rq <| @Rt
local macro_rules | `(tactic| walk_at "go")=>`(tactic| try simp only[↓Q7,Ds,↓wU,↓vm,↓vB,↓yh,↓xF,↓yf,↓j7,↓iX,cq,bV,cy,cw,cB,cD,cV,cT,bU,cu,cE,cA,cv,cW,cC,cR,cF,cQ,cz,cP,iS,u7,u5,fu,List.map_cons,List.map_nil,List.replicate,List.cons_append,List.nil_append,lk,CO,xY,gw,sV,lC,mB,mj,j9,ka,kb,j8,true_and,and_true,and_self,Bool.not_true,Bool.not_false,decide_true,decide_false,Bool.or_true,Bool.or_false,Bool.true_or,Bool.false_or,Bool.and_false,Bool.false_and,Bool.and_true,Bool.true_and,Int.reduceToNat,Int.reducePow,Int.reduceNeg,Int.reduceSub,Int.reduceAdd,Int.reduceMul,Int.reduceEq,Int.reduceLT,Int.reduceLE,Int.reduceBEq,iq,fU,fQ,fP,fW,fY,gf,fR,if_true,if_false,Bool.false_eq_true,reduceCtorEq,decide_eq_true_eq])
theorem eJ {α β:Type}(p:α→Prop) [DecidablePred p] (f:α→β):∀ xs:List α,xs.filterMap (fun x=>if p x then some (f x) else none)=(xs.filter fun x=>decide (p x)).map f
  | []=>rfl
  | x::r=>by by_cases h:p x<;>simp[h,eJ p f r]
theorem HW {μ:Mu}{Q:DK}(ls:List Lt)(n:Str)(hl:ls.length≤900000)(ok:∀ x∈ls,PyData.strOk x.nm=true)(hn:PyData.strOk n=true)(k:Q (.ls (ltD (own n ls))) μ) :
    ur (aw 0) (TB (aj rEq (aj rIx (ah 0) (TC (.int 0))) (ah 1))) (ah 0) [none,some (.str n)] (ltD ls) μ Q:=by
  refine jf ls Lt.toD (fun x=>if x.nm=n then some x.toD else none) rfl (by omega) (fun x hx μ' _ N nn=>?_) ?_
  · walk_at "go"
    refine ⟨⟨ok x hx,hn⟩,kif (fun h=>?_) (fun h=>?_)⟩
    · rw[if_pos h] at nn;exact nn
    · rw[if_neg h] at nn;exact nn
  · rw[eJ (fun x:Lt=>x.nm=n) Lt.toD];exact k
def Rp (ls:List Lt):Prop:=∀ x∈ls,PyData.strOk x.nm=true
structure Ws.Ok (w:Ws):Prop where
  n:Rp (w.cm++w.st)
  l:w.cm.length+w.st.length≤900000
def df:FSp:=fun ds μ Q=>match ds with
  | [d,.str n]=>∃ (g:Int) (x:St'),(d=x.toD g∧(∀ w∈x.ws,w.Ok)∧PyData.strOk n=true)∧Q (.int (x.und n)) μ
  | _=>False
theorem rq:∀ ds μ Q,df ds μ Q→ds.length=2:=by
  unfold df
  walk_at "ln"
def nB:STr:=aB (aP (TC (.int 0)) (aw 2)) (aB (kg (eL (aj L3.rIx (ah 0) (TC (.int 0)))) (aw 3) (Ex (fun m n=>m+n) 2 (aq dZ (af (bW (eL (aj aR (aj L3.rIx (ah 3) (TC (.int 0))) (aj L3.rIx (ah 3) (TC (.int 1))))) (aw 0) (TB (aj rEq (aj L3.rIx (ah 0) (TC (.int 0))) (ah 1))) (ah 0) 1 [1]) (ar))))) (aY (ah 2)))
theorem t8:∀ ds μ Q,df ds μ Q→nB { nx:=fun _ μ'=>RT Q .non μ',rt:=RT Q } (ini 4 ds) μ:=by
  intro ds μ Q h
  unfold df at h
  split at h
  case h_2=>exact h.elim
  rename_i d n
  walk_at "ini"
  unfold nB
  walk_at "go"
  obtain ⟨g,x,⟨rfl,hw,hn⟩,k⟩:=h
  walk_at "go"
  refine cX (fun r ρ μ'=>∃ (a c:List Ws) (v3:Option D),r=wsD c∧ρ=[some (x.toD g),some (.str n),some (.int (a.map fun w=>((own n (w.cm++w.st)).length:Int)).sum),v3]∧μ'=μ∧a++c=x.ws) ?_ ?_ _ _ _ ⟨[],x.ws,_,rfl,rfl,rfl,rfl⟩
  · rintro ρ μ' ⟨a,c,v3,er,rfl,rfl,e⟩
    have:c=[]:=by cases c with | nil=>rfl | cons=>cases er
    subst this
    rw[List.append_nil] at e
    subst e
    walk_at "go"
    exact ⟨_,.refl _,k⟩
  · rintro d r ρ μ' N ⟨a,c,v3,er,rfl,rfl,e⟩ hN
    cases c with
    | nil=>cases er
    | cons w c=>
    cases er
    have ho:=hw w (by rw[← e];simp)
    walk_at "go"
    have hl:=ho.l
    refine ⟨by simp;omega,?_⟩
    rw[← List.map_append]
    refine HW (w.cm++w.st) n (by simp;omega) ho.n hn ?_
    walk_at "go"
    refine hN _ _ ⟨a++[w],c,some w.toD,rfl,?_,rfl,by rw[← e];simp⟩
    simp
def eK:FSp:=fun ds μ Q=>match ds with
  | [d,.int n]=>∃ (g:Int) (x:Ss),d=x.toD g∧Q (.int (ie x.lf n)) μ
  | _=>False
theorem ub:∀ ds μ Q,eK ds μ Q→ds.length=2:=by
  unfold eK
  walk_at "ln"
def qU:STr:=aY (lR (TB (aj rIs (aj L3.rIx (ah 0) (TC (.int 5))) (TC .non))) (ah 1) (aq sS (af (ah 1) (af (aj L3.rIx (ah 0) (TC (.int 5))) (ar)))))
theorem yj:∀ ds μ Q,eK ds μ Q→qU { nx:=fun _ μ'=>RT Q .non μ',rt:=RT Q } (ini 2 ds) μ:=by
  intro ds μ Q h
  unfold eK at h
  split at h
  case h_2=>exact h.elim
  rename_i d n
  walk_at "ini"
  unfold qU
  walk_at "go"
  obtain ⟨g,x,rfl,k⟩:=h
  walk_at "go"
  unfold ie at k
  cases e:x.lf with
  | none=>rw[e] at k;exact lW (by simp) ⟨_,.refl _,k⟩
  | some l=>
    rw[e] at k
    refine gK (by simp) ?_
    show jr sS [.int n,.int l] μ _
    walk_at "go"
    exact ⟨_,.refl _,k⟩
theorem LF (g:Int)(x:Ss):cutD [.str x.nm,c5 x.du,fZ x.W g,fZ x.S g,.int x.nx,c5 x.lf,.tup (d8 x.ag),.tup (d8 x.lo),.int x.gd,.int x.mk',.int x.wt] none (some 4)=[.str x.nm,c5 x.du,fZ x.W g,fZ x.S g]:=rfl
theorem Lz (g:Int)(x:Ss):cutD [.str x.nm,c5 x.du,fZ x.W g,fZ x.S g,.int x.nx,c5 x.lf,.tup (d8 x.ag),.tup (d8 x.lo),.int x.gd,.int x.mk',.int x.wt] (some 7) none=[.tup (d8 x.lo),.int x.gd,.int x.mk',.int x.wt]:=rfl
theorem L6 (g:Int)(x:Ss)(lo hi:Option Int)(μ:Mu)(Q:DK):rSl (x.toD g) lo hi μ Q=Q (.tup (cutD [.str x.nm,c5 x.du,fZ x.W g,fZ x.S g,.int x.nx,c5 x.lf,.tup (d8 x.ag),.tup (d8 x.lo),.int x.gd,.int x.mk',.int x.wt] lo hi)) μ:=propext Iff.rfl
def eG:FSp:=fun ds μ Q=>match ds with
  | [d,.int n]=>∃ (g:Int) (x:Ss) (m:Nat),(d=x.toD g∧n=m∧m≤1000∧(-4000000000000000000≤x.nx∧x.nx≤4000000000000000000)∧x.ag.length≤1000∧(∀ l,x.lf=some l→0≤l))∧Q (.tup [(x.fill m).1.toD g,.tup (d8 (x.fill m).2)]) μ
  | _=>False
theorem tW:∀ ds μ Q,eG ds μ Q→ds.length=2:=by
  unfold eG
  walk_at "ln"
def qL:STr:=aB (aP (TSl (aj L3.rIx (ah 0) (TC (.int 6))) (ONo) (lH (ah 1))) (aw 2)) (aB (aP (aq eK (af (ah 0) (af (aj kj (ah 1) (aq dZ (af (ah 2) (ar)))) (ar)))) (aw 3)) (aB (aP (aj L3.rIx (ah 0) (TC (.int 4))) (aw 4)) (aB (aP (lR (TB (aj rIs (aj L3.rIx (ah 0) (TC (.int 5))) (TC .non))) (TC .non) (aj kj (aj L3.rIx (ah 0) (TC (.int 5))) (ah 3))) (aw 5)) (aB (aP (aj aR (aj aR (TSl (ah 0) (ONo) (lH (TC (.int 4)))) (bw (af (aj aR (ah 4) (ah 3)) (af (ah 5) (af (TSl (aj L3.rIx (ah 0) (TC (.int 6))) (lH (aq dZ (af (ah 2) (ar)))) (ONo)) (ar)))))) (TSl (ah 0) (lH (TC (.int 7))) (ONo))) (aw 6)) (aY (bw (af (ah 6) (af (aj aR (ah 2) (GR (ah 4) (aj aR (ah 4) (ah 3)))) (ar)))))))))
theorem wX:∀ ds μ Q,eG ds μ Q→qL { nx:=fun _ μ'=>RT Q .non μ',rt:=RT Q } (ini 7 ds) μ:=by
  intro ds μ Q h
  unfold eG at h
  split at h
  case h_2=>exact h.elim
  rename_i d n
  walk_at "ini"
  unfold qL
  walk_at "go"
  obtain ⟨g,x,m,⟨rfl,rfl,hm,⟨n0,n1⟩,ha,hl⟩,k⟩:=h
  simp only[↓L6]
  have c1:cutD (d8 x.ag) none (some (m:Int))=d8 (x.ag.take m):=by rw[A8];exact List.map_take.symm
  have c2:∀ L:Nat,cutD (d8 x.ag) (some (L:Int)) none=d8 (x.ag.drop L):=fun L=>by rw[sv];exact List.map_drop.symm
  walk_at "go"
  simp only[c1,LF,Lz,List.length_map,c2]
  refine ⟨g,x,rfl,?_⟩
  have tl:(x.ag.take m).length≤m:=by simp;omega
  have e1:(x.fill m).1.toD g=.tup ([.str x.nm,c5 x.du,fZ x.W g,fZ x.S g]++[.int (x.nx+ie x.lf ((m:Int) - ((x.ag.take m).length:Int))),c5 (x.lf.map (· - ie x.lf ((m:Int) - ((x.ag.take m).length:Int)))),.tup (d8 (x.ag.drop (x.ag.take m).length))]++[.tup (d8 x.lo),.int x.gd,.int x.mk',.int x.wt]):=rfl
  have e2:d8 (x.fill m).2=d8 (x.ag.take m)++cx x.nx (ie x.lf ((m:Int) - ((x.ag.take m).length:Int))).toNat:=by rw[Ru,← List.map_append];rfl
  rw[e1,e2] at k
  have c0:0≤ie x.lf ((m:Int) - ((x.ag.take m).length:Int))∧ie x.lf ((m:Int) - ((x.ag.take m).length:Int))≤1000:=by
    unfold ie
    cases e:x.lf with
    | none=>simp only;omega
    | some l=>have:=hl l e;simp only;omega
  generalize ie x.lf ((m:Int) - ((x.ag.take m).length:Int))=c at *
  have e3:(x.nx+c - x.nx).toNat=c.toNat:=by congr 1;omega
  walk_at "go"
  rw[e3]
  cases e:x.lf with
  | none=>
    rw[e] at k
    refine lW rfl ⟨by simp,by simp,⟨⟨by omega,by omega⟩,⟨by omega,by omega⟩,by omega⟩,?_,_,.refl _,k⟩
    rw[dY];omega
  | some l=>
    rw[e] at k
    refine gK nofun ?_
    walk_at "go"
    refine ⟨by simp,by simp,⟨⟨by omega,by omega⟩,⟨by omega,by omega⟩,by omega⟩,?_,_,.refl _,k⟩
    rw[dY];omega
structure Ss.Ok (g:Int) (R:RN) (x:Ss):Prop where
  n:PyData.strOk x.nm=true
  w0:g≤x.W
  w1:x.W≤R.cap g
  s0:0≤x.S
  s1:x.S≤g
  h:x.hd.Ok
  n0:-4000000000000000000≤x.nx
  n1:x.nx≤4000000000000000000
  a:x.ag.length+x.lo.length≤60
  l:∀ i,x.lf=some i→0≤i
theorem Qg (st:St')(n:Str):0≤st.und n:=by
  unfold St'.und
  generalize st.ws=l
  induction l with
  | nil=>simp
  | cons a l ih=>simp only[List.map_cons,List.sum_cons];omega
theorem I0 (o:Option Int):eqD (c5 o) (.int 0)=decide (o=some 0):=by cases o<;>simp[c5,eqD]
theorem G4 {R:RN}(K:R.Ok){g W S:Int}(g0:0 < g)(h:Hd)(w0:g≤W)(w1:W≤R.cap g):g≤(R.beh g W S h).1∧(R.beh g W S h).1≤R.cap g:=by
  unfold RN.beh
  split
  · exact ⟨w0,w1⟩
  · exact JI K g0 _
def gi:FSp:=fun ds μ Q=>match ds with
  | [.int g,sd,kd,td]=>∃ (s:Sn) (x:Ss) (st:St'),((sd=s.toD∧kd=x.toD g∧td=st.toD g)∧s.rl.Ok∧Gd g∧x.Ok g s.rl∧∀ w∈st.ws,w.Ok)∧Q (.tup [(x.bt g s (st.und x.nm)).1.toD g,.tup (d8 (x.bt g s (st.und x.nm)).2)]) μ
  | _=>False
theorem As:∀ ds μ Q,gi ds μ Q→ds.length=4:=by
  unfold gi
  walk_at "ln"
def vj:STr:=aB (bY (TB (aj rNe (aj L3.rIx (ah 2) (TC (.int 1))) (TC (.int 0)))) (aY (bw (af (ah 2) (af (bw (ar)) (ar))))) (bx)) (aB (aP (bw (af (aj L3.rIx (ah 2) (TC (.int 8))) (af (aj L3.rIx (ah 2) (TC (.int 9))) (af (aq dZ (af (aj L3.rIx (ah 2) (TC (.int 7))) (ar))) (af (aj L3.rIx (ah 2) (TC (.int 10))) (ar)))))) (aw 4)) (aB (aP (aq eB (af (aj L3.rIx (ah 1) (TC (.int 5))) (af (ah 0) (af (aj L3.rIx (ah 2) (TC (.int 2))) (af (aj L3.rIx (ah 2) (TC (.int 3))) (af (ah 4) (ar))))))) (aw 5)) (aB (aP (aq bz (af (aq p8 (af (aj aR (aj L3.rIx (ah 2) (TC (.int 6))) (aj L3.rIx (ah 2) (TC (.int 7)))) (ar))) (ar))) (aw 6)) (aB (aP (bw (af (aj L3.rIx (ah 2) (TC (.int 0))) (af (aj L3.rIx (ah 2) (TC (.int 1))) (af (aj L3.rIx (ah 5) (TC (.int 0))) (af (aj L3.rIx (ah 5) (TC (.int 1))) (af (aj L3.rIx (ah 2) (TC (.int 4))) (af (aj L3.rIx (ah 2) (TC (.int 5))) (af (ah 6) (af (bw (ar)) (af (TC (.int 0)) (af (TC (.int 0)) (af (TC (.int 0)) (ar))))))))))))) (aw 7)) (aY (aq eG (af (ah 7) (af (aq tu (af (TC (.int 0)) (af (aj kj (aq eE (af (aj L3.rIx (ah 5) (TC (.int 0))) (ar))) (aq df (af (ah 3) (af (aj L3.rIx (ah 2) (TC (.int 0))) (ar))))) (ar)))) (ar)))))))))
theorem CF:∀ ds μ Q,gi ds μ Q→vj { nx:=fun _ μ'=>RT Q .non μ',rt:=RT Q } (ini 8 ds) μ:=by
  intro ds μ Q h
  unfold gi at h
  split at h
  case h_2=>exact h.elim
  rename_i g sd kd td
  walk_at "ini"
  unfold vj
  walk_at "go"
  obtain ⟨s,x,st,⟨⟨rfl,rfl,rfl⟩,K,G,X,hw⟩,k⟩:=h
  obtain ⟨g0,g1⟩:=id G
  have gp:0 < g:=by omega
  walk_at "go"
  refine ⟨by cases x.du<;>rfl,?_⟩
  rw[I0]
  unfold Ss.bt at k
  refine Sg (fun hd=>?_) (fun hd=>?_)
  · rw[if_neg hd] at k
    exact ⟨_,.refl _,k⟩
  rw[if_pos hd] at k
  have cl:=Fb K gp
  have xa:=X.a;have w1:=X.w1;have w0:=X.w0
  rw[List.length_map]
  refine ⟨s.rl,x.W,x.S,x.hd,⟨⟨rfl,rfl⟩,K,X.h,G,⟨NR _ gp,.of (by omega) (by omega)⟩,NR _ gp,⟨X.s0,X.s1⟩⟩,fun w z Vw Vz=>?_⟩
  have bi:=G4 K gp x.hd (S:=x.S) w0 w1
  have e1:=Gx Vw
  have e2:=Gx Vz
  walk_at "go"
  refine ⟨by simp;omega,x.ag++x.lo,⟨by rw[List.map_append],by simp;omega⟩,fun ns' pm so=>?_⟩
  have e3:=vW pm so
  walk_at "go"
  refine ⟨_,_,⟨Vw,.of (by omega) (by omega)⟩,?_⟩
  walk_at "go"
  refine ⟨g,st,⟨rfl,hw,X.n⟩,?_⟩
  walk_at "go"
  have u0:=Qg st x.nm
  have d60:(s.rl.beh g x.W x.S x.hd).1 / g≤60:=Int.ediv_le_of_le_mul gp (by omega)
  have hm:max 0 ((s.rl.beh g x.W x.S x.hd).1 / g - st.und x.nm)=((max 0 ((s.rl.beh g x.W x.S x.hd).1 / g - st.und x.nm)).toNat:Int):=by omega
  rw[hm,e1,e2,e3]
  refine ⟨g,x.rdy g s.rl,_,⟨rfl,rfl,by omega,⟨X.n0,X.n1⟩,?_,X.l⟩,⟨_,.refl _,k⟩⟩
  show (dD (x.ag++x.lo)).length≤1000
  rw[mI,List.length_append];omega
theorem AS {ns:List (List Int)}{n:List Int}(h:n∈ns):n.length≤cY ns:=by
  unfold cY
  induction ns with
  | nil=>cases h
  | cons a r ih=>
    rcases List.mem_cons.mp h with rfl | h
    · simp only[List.map_cons,List.foldr_cons];omega
    · have:=ih h;simp only[List.map_cons,List.foldr_cons];omega
theorem BO {ns:List (List Int)}{k:Nat}(h:∀ n∈ns,n.length≤k):cY ns≤k:=by
  unfold cY
  induction ns with
  | nil=>simp
  | cons a r ih=>
    have h1:=h a List.mem_cons_self
    have h2:=ih fun n hn=>h n (List.mem_cons_of_mem _ hn)
    simp only[List.map_cons,List.foldr_cons];omega
theorem Lf {ns:List (List Int)}{M:Int}(h:M∈ns.map fun n=>(n.length:Int))(g:∀ a∈ns.map fun n=>(n.length:Int),a≤M):M=cY ns:=by
  obtain ⟨n,hn,rfl⟩:=List.mem_map.mp h
  have h1:=AS hn
  have h2:cY ns≤n.length:=BO fun m hm=>by have:=g _ (List.mem_map.mpr ⟨m,hm,rfl⟩);omega
  omega
def cG (t:Nat)(p:Sn×List Int):Option (Str×Lt):=p.2[t]?.map fun n=>(p.1.rd.headD (Str.ofString ""),⟨p.1.nm,n,0,0,0⟩)
theorem jP (ss:List Sn)(ns:List (List Int)):lF ss ns=(List.range (cY ns)).flatMap fun t=>(List.zip ss ns).filterMap (cG t):=rfl
abbrev nsD (ns:List (List Int)):List D:=ns.map fun n=>.tup (d8 n)
def bT:FSp:=fun ds μ Q=>match ds with
  | [sd,.ls nd]=>∃ (ss:List Sn) (ns:List (List Int)),((sd=.tup (snD ss)∧nd=nsD ns)∧ss.length≤100∧ns.length≤100∧(∀ n∈ns,n.length≤1000)∧∀ s∈ss,s.rd≠[])∧Q (.ls ((lF ss ns).map sdD)) μ
  | _=>False
theorem FV {ns:List (List Int)}{μ:Mu}{Q:DK}(k:Q (.int (cY ns:Nat)) μ):N9 (.ls (ns.map fun n=>.int (n.length:Int))) (.int 0) μ Q:=by
  refine ⟨ns.map fun n=>(n.length:Int),by rw[List.map_map];rfl,fun e=>?_,fun _ M h1 h2=>by rw[Lf h1 h2];exact k⟩
  rw[List.map_eq_nil_iff.mp e] at k
  exact k
theorem Cf (ss:List Sn)(ns:List (List Int)):List.zipWith (fun d e=>D.tup [d,e]) (snD ss) (nsD ns)=(List.zip ss ns).map fun p=>.tup [p.1.toD,.tup (d8 p.2)]:=by
  simp only[snD,nsD,List.zip,List.zipWith_map,List.map_zipWith]
theorem lU:∀ ds μ Q,bT ds μ Q→ds.length=2:=by
  unfold bT
  walk_at "ln"
def jc:STr:=aB (aP (me (ar)) (aw 2)) (aB (kg (gG (B4 (bW (eL (ah 1)) (aw 0) (fo) (aq dZ (af (ah 0) (ar))) 1 []) (TC (.int 0)))) (aw 3) (kg (nC (af (ah 0) (af (ah 1) (ar)))) (eM [4,5]) (bY (TB (aj rLt (ah 3) (aq dZ (af (ah 5) (ar))))) (fN (mf (ah 2) (bw (af (aj L3.rIx (aj L3.rIx (ah 4) (TC (.int 1))) (TC (.int 0))) (af (bw (af (aj L3.rIx (ah 4) (TC (.int 0))) (af (aj L3.rIx (ah 5) (ah 3)) (af (TC (.int 0)) (af (TC (.int 0)) (af (TC (.int 0)) (ar))))))) (ar)))))) (bx)))) (aY (uS (ah 2))))
theorem md:∀ ds μ Q,bT ds μ Q→jc { nx:=fun _ μ'=>RT Q .non μ',rt:=RT Q } (ini 6 ds) μ:=by
  intro ds μ Q h
  unfold bT at h
  split at h
  case h_2=>exact h.elim
  rename_i sd nd
  walk_at "ini"
  unfold jc
  walk_at "go"
  obtain ⟨ss,ns,⟨⟨rfl,rfl⟩,hs,hn,h1000,hrd⟩,k⟩:=h
  intro p hp
  walk_at "go"
  refine bS ns (fun n=>.tup (d8 n)) (fun n=>.int (n.length:Int)) rfl (by omega) (fun n hn μ' _ N nn=>?_) ?_
  · walk_at "go"
    rw[List.length_map]
    exact nn
  have m1:cY ns≤1000:=BO h1000
  walk_at "go"
  refine FV ?_
  walk_at "go"
  refine ⟨⟨by omega,by omega⟩,?_⟩
  rw[show ((cY ns:Int)).toNat=cY ns from rfl]
  refine cX (fun r ρ μ'=>∃ (t:Nat) (acc:List (Str×Lt)) (v3 v4 v5:Option D),r=cx t (cY ns - t)∧t≤cY ns∧ρ=[some (.tup (snD ss)),some (.ls (nsD ns)),some (.obj p),v3,v4,v5]∧acc=(List.range t).flatMap (fun t=>(List.zip ss ns).filterMap (cG t))∧acc.length≤t*100∧μ'=up μ p (.lst (acc.map sdD))) ?_ ?_ _ _ _ ⟨0,[],_,_,_,rfl,by omega,rfl,rfl,by simp,rfl⟩
  · rintro ρ μ' ⟨t,acc,v3,v4,v5,er,ht,rfl,rfl,_,rfl⟩
    have et:t=cY ns:=by
      cases e:cY ns - t with
      | zero=>omega
      | succ n=>rw[e,mY] at er;cases er
    subst et
    walk_at "go"
    rw[← jP,qt hp]
    exact ⟨_,.refl _,k⟩
  · rintro d r ρ μ' N ⟨t,acc,v3,v4,v5,er,ht,rfl,ea,la,rfl⟩ hN
    cases e:cY ns - t with
    | zero=>rw[e] at er;cases er
    | succ n=>
    rw[e,mY] at er
    cases er
    walk_at "go"
    rw[Cf]
    have lz:(List.zip ss ns).length≤100:=by simp;omega
    refine cX (fun r ρ μ'=>∃ (a c:List (Sn×List Int)) (v4 v5:Option D),r=c.map (fun p=>.tup [p.1.toD,.tup (d8 p.2)])∧a++c=List.zip ss ns∧ρ=[some (.tup (snD ss)),some (.ls (nsD ns)),some (.obj p),some (.int t),v4,v5]∧μ'=up μ p (.lst ((acc++a.filterMap (cG t)).map sdD))) ?_ ?_ _ _ _ ⟨[],List.zip ss ns,_,_,rfl,rfl,rfl,by simp⟩
    · rintro ρ μ' ⟨a,c,v4,v5,er,ez,rfl,rfl⟩
      have:c=[]:=by cases c with | nil=>rfl | cons=>cases er
      subst this
      rw[List.append_nil] at ez
      subst ez
      refine hN _ _ ⟨t+1,_,_,_,_,?_,by omega,rfl,?_,?_,rfl⟩
      · congr 1
        · omega
      · rw[List.range_succ,List.flatMap_append,← ea];simp
      · have:=List.length_filterMap_le (cG t) (List.zip ss ns)
        rw[List.length_append];omega
    · rintro d r ρ μ' N ⟨a,c,v4,v5,er,ez,rfl,rfl⟩ hN
      cases c with
      | nil=>cases er
      | cons x c=>
      cases er
      obtain ⟨s,own⟩:=x
      have hx:(s,own)∈List.zip ss ns:=by rw[← ez];simp
      have hs':s∈ss:=(List.of_mem_zip hx).1
      walk_at "go"
      rw[List.length_map]
      obtain ⟨fw,rw',erd⟩:∃ fw rw',s.rd=fw::rw':=by
        cases e:s.rd with
        | nil=>exact absurd e (hrd s hs')
        | cons a b=>exact ⟨a,b,rfl⟩
      refine kif (fun hc=>?_) (fun hc=>?_)
      · have hc':t < own.length:=by omega
        have g1:(List.map D.str s.rd)[0]? = some (.str fw):=by rw[erd];rfl
        have g2:atD (d8 own) (t:Int)=some (.int own[t]):=by rw[cj];simp[hc']
        have la':=List.length_filterMap_le (cG t) a
        have az:a.length≤100:=by have:=congrArg List.length ez;simp at this;omega
        walk_at "go"
        rw[sQ,g1]
        walk_at "go"
        rw[g2]
        walk_at "go"
        refine ⟨by simp;omega,hN _ _ ⟨a++[(s,own)],c,_,_,rfl,by rw[← ez];simp,rfl,?_⟩⟩
        have e3:cG t (s,own)=some (fw,⟨s.nm,own[t],0,0,0⟩):=by unfold cG;simp[hc',erd]
        rw[List.filterMap_append,show [(s,own)].filterMap (cG t)=[(fw,⟨s.nm,own[t],0,0,0⟩)] by simp[e3]]
        simp[sdD,Lt.toD]
      · have e3:cG t (s,own)=none:=by unfold cG;simp;omega
        refine hN _ _ ⟨a++[(s,own)],c,_,_,rfl,by rw[← ez];simp,rfl,?_⟩
        rw[List.filterMap_append,show [(s,own)].filterMap (cG t)=[] by simp[e3],List.append_nil]
def gh:FSp:=fun ds μ Q=>match ds with
  | [wd,.tup nd,kd,.ls sd]=>∃ (w:Wy) (ns:List Str) (k:Ws) (aN:List (Str×Lt)),((wd=w.toD∧nd=ns.map .str∧kd=k.toD∧sd=aN.map sdD)∧(PyData.strOk w.nm=true∧∀ x∈aN,PyData.strOk x.1=true)∧0≤w.pc∧(∀ n∈ns,PyData.strOk n=true)∧(∀ l∈k.cm++k.st++aN.map (·.2),l.nm∈ns)∧k.cm.length+k.st.length+aN.length≤900000∧ns.length≤900000)∧Q (pass w ns k aN).toD μ
  | _=>False
theorem DG {μ:Mu}{Q:DK}(aN:List (Str×Lt)){w:Wy}(hl:aN.length≤900000)(ok:∀ x∈aN,PyData.strOk x.1=true)(hn:PyData.strOk w.nm=true)(k:Q (.ls (ltD ((aN.filter fun x=>decide (x.1=w.nm)).map (·.2)))) μ) :
    ur (eM [0,1]) (TB (aj rEq (ah 0) (aj rIx (ah 2) (TC (.int 0))))) (ah 1) [none,none,some w.toD] (aN.map sdD) μ Q:=by
  refine jf aN sdD (fun x=>if x.1=w.nm then some x.2.toD else none) rfl (by omega) (fun x hx μ' _ N nn=>?_) ?_
  · walk_at "go"
    refine ⟨⟨ok x hx,hn⟩,kif (fun h=>?_) (fun h=>?_)⟩
    · rw[if_pos h] at nn;exact nn
    · rw[if_neg h] at nn;exact nn
  · rw[eJ (fun x:Str×Lt=>x.1=w.nm) (fun x=>x.2.toD)];unfold ltD at k;rw[List.map_map] at k;exact k
theorem yL:∀ ds μ Q,gh ds μ Q→ds.length=4:=by
  unfold gh
  walk_at "ln"
def vg:STr:=aB (aP (aj aR (aj L3.rIx (ah 2) (TC (.int 0))) (aq bz (af (bW (eL (ah 3)) (eM [0,1]) (TB (aj rEq (ah 0) (aj L3.rIx (ah 2) (TC (.int 0))))) (ah 1) 2 [0]) (ar)))) (aw 4)) (aB (aP (aq eI (af (ah 0) (af (aj L3.rIx (ah 2) (TC (.int 1))) (af (ah 4) (ar))))) (aw 5)) (aB (aP (aq fv (af (ah 0) (af (ah 1) (af (aj L3.rIx (ah 5) (TC (.int 0))) (af (aj L3.rIx (ah 2) (TC (.int 2))) (ar)))))) (aw 6)) (aY (bw (af (ah 4) (af (aj L3.rIx (ah 5) (TC (.int 1))) (af (aj L3.rIx (ah 6) (TC (.int 0))) (af (aj L3.rIx (ah 6) (TC (.int 1))) (af (aj L3.rIx (ah 6) (TC (.int 2))) (ar))))))))))
theorem Dn:∀ ds μ Q,gh ds μ Q→vg { nx:=fun _ μ'=>RT Q .non μ',rt:=RT Q } (ini 7 ds) μ:=by
  intro ds μ Q h
  unfold gh at h
  split at h
  case h_2=>exact h.elim
  rename_i wd nd kd sd
  walk_at "ini"
  unfold vg
  walk_at "go"
  obtain ⟨w,ns,x,aN,⟨⟨rfl,rfl,rfl,rfl⟩,⟨hw,hs⟩,pc,hn,hl,len,len2⟩,k⟩:=h
  walk_at "go"
  refine DG aN (by omega) hs hw ?_
  walk_at "go"
  have lf:=List.length_filter_le (fun x:Str×Lt=>decide (x.1=w.nm)) aN
  refine ⟨by simp only[List.length_map];omega,?_⟩
  rw[← List.map_append]
  generalize hca:x.cm++(aN.filter fun x=>decide (x.1=w.nm)).map (·.2)=ca
  have lca:ca.length≤x.cm.length+aN.length:=by rw[← hca];simp only[List.length_append,List.length_map];omega
  have nca:∀ l∈ca,l.nm∈ns:=fun l h=>by
    rw[← hca] at h
    rcases List.mem_append.mp h with h | h
    · exact hl l (by simp[h])
    · obtain ⟨y,hy,rfl⟩:=List.mem_map.mp h
      exact hl y.2 (List.mem_append_right _ (List.mem_map.mpr ⟨y,(List.mem_filter.mp hy).1,rfl⟩))
  refine ⟨w,x.st,ca,⟨rfl,rfl,rfl,by omega⟩,?_⟩
  walk_at "go"
  have ln:=zL w ca x.st []
  have nn:=Gj w (fun n=>n∈ns) ca x.st [] (fun l h=>hl l (by simp[h])) (fun l h=>nomatch h) nca
  refine ⟨w,ns,(tk w x.st ca).1,⟨rfl,fun _=>⟨.inl rfl,hn,nn.1,len2⟩,rfl,?_,pc⟩,?_⟩
  · unfold tk;simp only[List.length_nil] at ln;omega
  · walk_at "go"
    subst hca
    exact ⟨_,.refl _,k⟩
theorem HZ {ss:List Sn}{n:Str}(h:n∈ss.map Sn.nm):bE (kh ss) (.inr n)=some (.tup ((road ss n).map .str)):=by
  unfold bE kh road
  induction ss with
  | nil=>cases h
  | cons s r ih=>
    by_cases e:s.nm=n
    · simp[e]
    · have h':n∈r.map Sn.nm:=by
        rcases List.mem_cons.mp h with z | z
        · exact absurd z.symm e
        · exact z
      have:=ih h'
      simp only[List.map_cons,List.find?_cons]
      have e1:decide ((Sum.inr s.nm:L2.Key)=Sum.inr n)=false:=by simp[e]
      have e2:decide (s.nm=n)=false:=by simp[e]
      rw[e1,e2]
      exact this
def bR:FSp:=fun ds μ Q=>match ds with
  | [.obj r,ld]=>∃ (ss:List Sn) (l:Lt),(ld=l.toD∧μ r=some (.dct (kh ss))∧l.nm∈ss.map Sn.nm∧0≤l.hp)∧Q (wu (cN ss l)) μ
  | _=>False
theorem oP:∀ ds μ Q,bR ds μ Q→ds.length=2:=by
  unfold bR
  walk_at "ln"
def lI:STr:=aB (aP (bC (ah 0) (aj L3.rIx (ah 1) (TC (.int 0)))) (aw 2)) (aY (lR (TB (aj rLt (aj aR (aj L3.rIx (ah 1) (TC (.int 3))) (TC (.int 1))) (aq dZ (af (ah 2) (ar))))) (aj L3.rIx (ah 2) (aj aR (aj L3.rIx (ah 1) (TC (.int 3))) (TC (.int 1)))) (TC .non)))
theorem rV:∀ ds μ Q,bR ds μ Q→lI { nx:=fun _ μ'=>RT Q .non μ',rt:=RT Q } (ini 3 ds) μ:=by
  intro ds μ Q h
  unfold bR at h
  split at h
  case h_2=>exact h.elim
  rename_i r ld
  walk_at "ini"
  unfold lI
  walk_at "go"
  obtain ⟨ss,l,⟨rfl,er,hl,h0⟩,k⟩:=h
  walk_at "go"
  refine Qx er (pL (HZ hl) ?_)
  obtain ⟨h,eh⟩:=Int.eq_ofNat_of_zero_le h0
  have e1:cN ss l=(road ss l.nm)[h+1]?:=by unfold cN;rw[eh];rfl
  rw[e1] at k
  walk_at "go"
  rw[List.length_map]
  refine kif (fun hc=>?_) (fun hc=>?_)
  · have hc':h+1 < (road ss l.nm).length:=by omega
    rw[List.getElem?_eq_getElem hc'] at k
    refine pL (d:=.str (road ss l.nm)[h+1]) ?_ ⟨_,.refl _,k⟩
    rw[eh,show ((h:Int)+1)=((h+1:Nat):Int) by omega,cj]
    simp[hc']
  · rw[List.getElem?_eq_none (by omega)] at k
    exact ⟨_,.refl _,k⟩
theorem Kt (ls:List Lt):i7 (ltD ls)=ls.zipIdx.map fun p=>.tup [.int (p.2:Nat),p.1.toD]:=by
  refine List.ext_getElem? fun i=>?_
  rw[sL]
  simp[List.getElem?_zipIdx]
  cases ls[i]? <;> rfl
theorem AZ (o:Option Str)(μ:Mu)(Q:DK):rIs (wu o) .non μ Q=Q (.bl (decide (o=none))) μ:=by cases o<;>simp[rIs,wu]
def evA (w:Wy)(n:Int)(p:Lt×Nat):Ev:=⟨if (p.2:Int) < n then Str.ofString "in" else Str.ofString "lost", p.1.nm,p.1.nu,w.nm⟩
def evB (ss:List Sn)(w:Wy)(l:Lt):Ev:=⟨if cN ss l=none then Str.ofString "taken" else Str.ofString "out", l.nm,l.nu,w.nm⟩
theorem NS (ss:List Sn)(w:Wy)(x:Wt):evs ss w x=x.ca.zipIdx.map (evA w ((x.ca.length:Int) - x.lo.length))++x.ou.map (evB ss w):=rfl
def dz:FSp:=fun ds μ Q=>match ds with
  | [wd,.obj r,td]=>∃ (w:Wy) (ss:List Sn) (x:Wt),((wd=w.toD∧td=x.toD)∧μ r=some (.dct (kh ss))∧(∀ l∈x.ou,l.nm∈ss.map Sn.nm∧0≤l.hp)∧x.ca.length+x.ou.length≤900000)∧Q (.ls (evD (evs ss w x))) μ
  | _=>False
theorem rQ:∀ ds μ Q,dz ds μ Q→ds.length=3:=by
  unfold dz
  walk_at "ln"
def ny:STr:=aB (aP (me (ar)) (aw 3)) (aB (kg (BE (af (aj L3.rIx (ah 2) (TC (.int 0))) (ar))) (eM [4,5]) (aB (aP (lR (TB (aj rLt (ah 4) (aj kj (aq dZ (af (aj L3.rIx (ah 2) (TC (.int 0))) (ar))) (aq dZ (af (aj L3.rIx (ah 2) (TC (.int 1))) (ar)))))) (TC (.str "in")) (TC (.str "lost"))) (aw 6)) (fN (mf (ah 3) (bw (af (ah 6) (af (aj L3.rIx (ah 5) (TC (.int 0))) (af (aj L3.rIx (ah 5) (TC (.int 1))) (af (aj L3.rIx (ah 0) (TC (.int 0))) (ar)))))))))) (aB (kg (eL (aj L3.rIx (ah 2) (TC (.int 2)))) (aw 5) (aB (aP (lR (TB (aj rIs (aq bR (af (ah 1) (af (ah 5) (ar)))) (TC .non))) (TC (.str "taken")) (TC (.str "out"))) (aw 6)) (fN (mf (ah 3) (bw (af (ah 6) (af (aj L3.rIx (ah 5) (TC (.int 0))) (af (aj L3.rIx (ah 5) (TC (.int 1))) (af (aj L3.rIx (ah 0) (TC (.int 0))) (ar)))))))))) (aY (uS (ah 3)))))
theorem tR:∀ ds μ Q,dz ds μ Q→ny { nx:=fun _ μ'=>RT Q .non μ',rt:=RT Q } (ini 7 ds) μ:=by
  intro ds μ Q h
  unfold dz at h
  split at h
  case h_2=>exact h.elim
  rename_i wd r td
  walk_at "ini"
  unfold ny
  walk_at "go"
  obtain ⟨w,ss,x,⟨⟨rfl,rfl⟩,er,ho,hl⟩,k⟩:=h
  intro p hp
  have npr:r≠p:=fun z=>by rw[z,hp] at er;cases er
  walk_at "go"
  rw[Kt]
  refine cX (fun rr ρ μ'=>∃ (a c:List (Lt×Nat)) (v4 v5 v6:Option D),rr=c.map (fun p=>.tup [.int (p.2:Nat),p.1.toD])∧a++c=x.ca.zipIdx∧ρ=[some w.toD,some (.obj r),some x.toD,some (.obj p),v4,v5,v6]∧μ'=up μ p (.lst (evD (a.map (evA w ((x.ca.length:Int) - x.lo.length)))))) ?_ ?_ _ _ _ ⟨[],x.ca.zipIdx,_,_,_,rfl,rfl,rfl,rfl⟩
  · rintro ρ μ' ⟨a,c,v4,v5,v6,er',ez,rfl,rfl⟩
    have:c=[]:=by cases c with | nil=>rfl | cons=>cases er'
    subst this
    rw[List.append_nil] at ez
    subst ez
    walk_at "go"
    refine cX (fun rr ρ μ'=>∃ (a c:List Lt) (v4 v5 v6:Option D),rr=ltD c∧a++c=x.ou∧ρ=[some w.toD,some (.obj r),some x.toD,some (.obj p),v4,v5,v6]∧μ'=up μ p (.lst (evD (x.ca.zipIdx.map (evA w ((x.ca.length:Int) - x.lo.length))++a.map (evB ss w))))) ?_ ?_ _ _ _ ⟨[],x.ou,_,_,_,rfl,rfl,rfl,by simp⟩
    · rintro ρ μ' ⟨a,c,v4,v5,v6,er',ez,rfl,rfl⟩
      have:c=[]:=by cases c with | nil=>rfl | cons=>cases er'
      subst this
      rw[List.append_nil] at ez
      subst ez
      walk_at "go"
      rw[qt hp,← NS]
      exact ⟨_,.refl _,k⟩
    · rintro d rr ρ μ' N ⟨a,c,v4,v5,v6,er',ez,rfl,rfl⟩ hN
      cases c with
      | nil=>cases er'
      | cons l c=>
      cases er'
      have hl':=ho l (by rw[← ez];simp)
      have la:a.length≤x.ou.length:=by rw[← ez];simp
      walk_at "go"
      refine ⟨ss,l,⟨rfl,by rw[aU npr];exact er,hl'.1,hl'.2⟩,?_⟩
      walk_at "go"
      rw[AZ]
      walk_at "go"
      have fin:∀ wd,wd=(if cN ss l=none then Str.ofString "taken" else Str.ofString "out")→(evD (x.ca.zipIdx.map (evA w ((x.ca.length:Int) - x.lo.length))++a.map (evB ss w))).length < 1000000∧N [some w.toD,some (.obj r),some x.toD,some (.obj p),v4,some l.toD,some (.str wd)] (up μ p (.lst (evD (x.ca.zipIdx.map (evA w ((x.ca.length:Int) - x.lo.length))++a.map (evB ss w))++[.tup [.str wd,.str l.nm,.int l.nu,.str w.nm]]))):=fun wd e=>by
        refine ⟨by simp;omega,hN _ _ ⟨a++[l],c,_,_,_,rfl,by rw[← ez];simp,rfl,?_⟩⟩
        simp[evB,Ev.toD,e]
      refine kif (fun h=>?_) (fun h=>?_)
      · walk_at "go"
        exact fin _ (by rw[if_pos h])
      · walk_at "go"
        exact fin _ (by rw[if_neg h])
  · rintro d rr ρ μ' N ⟨a,c,v4,v5,v6,er',ez,rfl,rfl⟩ hN
    cases c with
    | nil=>cases er'
    | cons y c=>
    cases er'
    obtain ⟨l,i⟩:=y
    have la:a.length≤x.ca.length:=by have:=congrArg List.length ez;simp at this;omega
    walk_at "go"
    simp only[List.length_map]
    have fin:∀ wd,wd=(if (i:Int) < (x.ca.length:Int) - x.lo.length then Str.ofString "in" else Str.ofString "lost")→(evD (a.map (evA w ((x.ca.length:Int) - x.lo.length)))).length < 1000000∧N [some w.toD,some (.obj r),some x.toD,some (.obj p),some (.int i),some l.toD,some (.str wd)] (up μ p (.lst (evD (a.map (evA w ((x.ca.length:Int) - x.lo.length)))++[.tup [.str wd,.str l.nm,.int l.nu,.str w.nm]]))):=fun wd e=>by
      refine ⟨by simp;omega,hN _ _ ⟨a++[(l,i)],c,_,_,_,rfl,by rw[← ez];simp,rfl,?_⟩⟩
      simp[evA,Ev.toD,e]
    refine kif (fun h=>?_) (fun h=>?_)
    · walk_at "go"
      have:=fin _ (by rw[if_pos h])
      simpa using this
    · walk_at "go"
      have:=fin _ (by rw[if_neg h])
      simpa using this
def iO:FSp:=fun ds μ Q=>match ds with
  | [ld,.int h]=>∃ l:Lt,ld=l.toD∧Q (l.lL h).toD μ
  | _=>False
theorem EC:∀ ds μ Q,iO ds μ Q→ds.length=2:=by
  unfold iO
  walk_at "ln"
def Ea:STr:=aY (bw (af (aj L3.rIx (ah 0) (TC (.int 0))) (af (aj L3.rIx (ah 0) (TC (.int 1))) (af (aj aR (aj L3.rIx (ah 0) (TC (.int 2))) (TC (.int 1))) (af (aj aR (aj L3.rIx (ah 0) (TC (.int 3))) (ah 1)) (af (aj L3.rIx (ah 0) (TC (.int 4))) (ar)))))))
theorem Kw:∀ ds μ Q,iO ds μ Q→Ea { nx:=fun _ μ'=>RT Q .non μ',rt:=RT Q } (ini 2 ds) μ:=by
  intro ds μ Q h
  unfold iO at h
  split at h
  case h_2=>exact h.elim
  rename_i ld h0
  walk_at "ini"
  unfold Ea
  walk_at "go"
  obtain ⟨l,rfl,k⟩:=h
  walk_at "go"
  exact ⟨_,.refl _,k⟩
theorem Lx (o:Option Str)(n:Str):eqD (wu o) (.str n)=decide (o=some n):=by cases o<;>simp[wu,eqD]
theorem Kv (o:Option Str)(h:∀ n,o=some n→PyData.strOk n=true):okD 40 (wu o)=true:=by
  cases o with
  | none=>rfl
  | some n=>simpa[wu,okD] using h n rfl
def dh:FSp:=fun ds μ Q=>match ds with
  | [wd,.obj r,td,.obj o]=>∃ (w:Wy) (ss:List Sn) (x:Wt) (out:List Lt),((wd=w.toD∧td=x.toD)∧(μ r=some (.dct (kh ss))∧μ o=some (.lst (ltD out)))∧(∀ l∈out,l.nm∈ss.map Sn.nm∧0≤l.hp)∧(PyData.strOk w.nm=true∧∀ s∈ss,∀ n∈s.rd,PyData.strOk n=true)∧out.length≤900000∧x.st.length≤900000)∧Q (FQ ss w x out).toD μ
  | _=>False
theorem K0 {ss:List Sn}(h:∀ s∈ss,∀ n∈s.rd,PyData.strOk n=true){l:Lt}{n:Str}(e:cN ss l=some n):PyData.strOk n=true:=by
  unfold cN road at e
  cases f:ss.find? fun s=>decide (s.nm=l.nm) with
  | none=>rw[f] at e;simp at e
  | some s=>
    rw[f] at e
    exact h s (List.mem_of_find?_eq_some f) n (List.mem_of_getElem? e)
theorem rZ:∀ ds μ Q,dh ds μ Q→ds.length=4:=by
  unfold dh
  walk_at "ln"
def nh:STr:=aB (aP (jy (ah 3) (aw 0) (TB (aj rEq (aq bR (af (ah 1) (af (ah 0) (ar)))) (aj L3.rIx (ah 2) (TC (.int 0))))) (aq iO (af (ah 0) (af (TC (.int 1)) (ar)))) 1 [1,0]) (aw 4)) (aY (bw (af (aq bz (af (ah 4) (ar))) (af (aq bz (af (bW (eL (aj L3.rIx (ah 2) (TC (.int 3)))) (aw 0) (fo) (aq iO (af (ah 0) (af (TC (.int 0)) (ar)))) 1 []) (ar))) (af (aj L3.rIx (ah 2) (TC (.int 4))) (ar))))))
theorem va:∀ ds μ Q,dh ds μ Q→nh { nx:=fun _ μ'=>RT Q .non μ',rt:=RT Q } (ini 5 ds) μ:=by
  intro ds μ Q h
  unfold dh at h
  split at h
  case h_2=>exact h.elim
  rename_i wd r td o
  walk_at "ini"
  unfold nh
  walk_at "go"
  obtain ⟨w,ss,x,out,⟨⟨rfl,rfl⟩,⟨er,eo⟩,ho,⟨hw,hs⟩,l1,l2⟩,k⟩:=h
  refine bf eo ?_
  refine mM out Lt.toD (fun l=>if cN ss l=some w.nm then some (l.lL 1).toD else none) rfl eo (by omega) (fun l hl μ' sb N nn=>?_) ?_
  · walk_at "go"
    refine ⟨ss,l,⟨rfl,sb _ _ er,(ho l hl).1,(ho l hl).2⟩,?_⟩
    walk_at "go"
    rw[Lx]
    refine ⟨⟨Kv _ fun n e=>K0 hs e,hw⟩,kif (fun h=>?_) (fun h=>?_)⟩
    · rw[if_pos h] at nn
      exact ⟨l,rfl,nn⟩
    · rw[if_neg h] at nn;exact nn
  · rw[eJ (fun l:Lt=>cN ss l=some w.nm) (fun l=>(l.lL 1).toD)]
    walk_at "go"
    refine bS x.st Lt.toD (fun l=>(l.lL 0).toD) rfl (by omega) (fun l hl μ' sb N nn=>?_) ?_
    · walk_at "go"
      exact ⟨l,rfl,nn⟩
    · walk_at "go"
      refine ⟨_,.refl _,?_⟩
      unfold FQ Ws.toD ltD at k
      simp only[List.map_map] at k
      exact k
def dg:FSp:=fun ds μ Q=>match ds with
  | [sd,d]=>∃ (s:Sn) (o:Option Int),(sd=s.toD∧d=c5 o)∧Q (c5 (uX s o)) μ
  | _=>False
theorem rM:∀ ds μ Q,dg ds μ Q→ds.length=2:=by
  unfold dg
  walk_at "ln"
def mQ:STr:=aB (bY (TB (aj rIs (ah 1) (TC .non))) (aY (TC .non)) (bx)) (aY (lR (TB (aj rEq (ah 1) (TC (.int 0)))) (aj kj (aj L3.rIx (ah 0) (TC (.int 2))) (TC (.int 1))) (aj kj (ah 1) (TC (.int 1)))))
theorem uk:∀ ds μ Q,dg ds μ Q→mQ { nx:=fun _ μ'=>RT Q .non μ',rt:=RT Q } (ini 2 ds) μ:=by
  intro ds μ Q h
  unfold dg at h
  split at h
  case h_2=>exact h.elim
  rename_i sd d
  walk_at "ini"
  unfold mQ
  obtain ⟨s,o,⟨rfl,rfl⟩,k⟩:=h
  cases o with
  | none=>
    simp only[c5]
    walk_at "go"
    exact ⟨_,.refl _,k⟩
  | some i=>
    simp only[c5]
    walk_at "go"
    by_cases h:i=0
    · refine lW h ⟨_,.refl _,?_⟩
      have e:uX s (some i)=some (s.bt - 1):=by simp[uX,h]
      rw[e] at k;exact k
    · refine gK h ⟨_,.refl _,?_⟩
      have e:uX s (some i)=some (i - 1):=by simp[uX,h]
      rw[e] at k;exact k
theorem xw {d M:Int}{ns:List Int}(ne:ns≠[])(h:M∈ns)(g:∀ a∈ns,a≤M):pE d ns=M:=by
  have key:∀ (l:List Int) (a:Int),(∀ b∈a::l,b≤M)→M∈a::l→l.foldl max a=M:=by
    intro l
    induction l with
    | nil=>intro a h1 h2;simp at h2;exact h2.symm
    | cons b l ih=>
      intro a h1 h2
      rw[List.foldl_cons]
      refine ih (max a b) (fun c hc=>?_) ?_
      · rcases List.mem_cons.mp hc with rfl | hc
        · have:=h1 a (by simp);have:=h1 b (by simp);omega
        · exact h1 c (by simp[hc])
      · have ha:=h1 a (by simp);have hb:=h1 b (by simp)
        rcases List.mem_cons.mp h2 with e | h2
        · have:max a b=M:=by omega
          rw[this];simp
        · rcases List.mem_cons.mp h2 with e | h2
          · have:max a b=M:=by omega
            rw[this];simp
          · simp[h2]
  cases ns with
  | nil=>exact absurd rfl ne
  | cons a l=>exact key l a g h
theorem Pp {ns:List Int}{μ:Mu}{Q:DK}(k:Q (.int (pE 0 ns)) μ):N9 (.ls (ns.map .int)) (.int 0) μ Q:=by
  refine ⟨ns,rfl,fun e=>?_,fun ne M h1 h2=>by rw[xw ne h1 h2] at k;exact k⟩
  rw[e] at k;exact k
theorem Fx (g:Int)(x:Ss):cutD [.str x.nm,c5 x.du,fZ x.W g,fZ x.S g,.int x.nx,c5 x.lf,.tup (d8 x.ag),.tup (d8 x.lo),.int x.gd,.int x.mk',.int x.wt] (some 2) (some 7)=[fZ x.W g,fZ x.S g,.int x.nx,c5 x.lf,.tup (d8 x.ag)]:=rfl
def b5:FSp:=fun ds μ Q=>match ds with
  | [sd,kd,.obj lo,.ls tk]=>∃ (g:Int) (s:Sn) (x:Ss) (a7 taken:List Lt),((sd=s.toD∧kd=x.toD g∧tk=ltD taken)∧μ lo=some (.lst (ltD a7))∧(PyData.strOk s.nm=true∧(∀ l∈a7,PyData.strOk l.nm=true)∧∀ l∈taken,PyData.strOk l.nm=true)∧(a7.length≤900000∧taken.length≤900000)∧x.lo.length+(own s.nm a7).length < 64)∧Q ((iT s x a7 taken).toD g) μ
  | _=>False
theorem mx:∀ ds μ Q,b5 ds μ Q→ds.length=4:=by
  unfold b5
  walk_at "ln"
def jh:STr:=aB (aP (jy (ah 2) (aw 0) (TB (aj rEq (aj L3.rIx (ah 0) (TC (.int 0))) (aj L3.rIx (ah 1) (TC (.int 0))))) (aj L3.rIx (ah 0) (TC (.int 1))) 1 [0]) (aw 4)) (aB (aP (bW (eL (ah 3)) (aw 0) (TB (aj rEq (aj L3.rIx (ah 0) (TC (.int 0))) (aj L3.rIx (ah 1) (TC (.int 0))))) (ah 0) 1 [0]) (aw 5)) (aB (aP (aq BV (af (bW (eL (ah 5)) (aw 0) (fo) (aj L3.rIx (ah 0) (TC (.int 4))) 1 []) (ar))) (aw 6)) (aB (aP (B4 (bW (eL (ah 5)) (aw 0) (fo) (aj kj (aj L3.rIx (ah 0) (TC (.int 2))) (aj L3.rIx (ah 0) (TC (.int 3)))) 1 []) (TC (.int 0))) (aw 7)) (aB (aP (bw (af (aj kj (aj aR (aj L3.rIx (ah 1) (TC (.int 8))) (aq dZ (af (ah 5) (ar)))) (ah 6)) (af (aj aR (aj L3.rIx (ah 1) (TC (.int 9))) (ah 6)) (af (aq tu (af (aj L3.rIx (ah 1) (TC (.int 10))) (af (ah 7) (ar)))) (ar))))) (aw 8)) (aB (aP (bw (af (aj L3.rIx (ah 1) (TC (.int 0))) (af (aq dg (af (ah 0) (af (aj L3.rIx (ah 1) (TC (.int 1))) (ar)))) (ar)))) (aw 9)) (aY (aj aR (aj aR (aj aR (ah 9) (TSl (ah 1) (lH (TC (.int 2))) (lH (TC (.int 7))))) (bw (af (aq bz (af (aq p8 (af (aj aR (aj L3.rIx (ah 1) (TC (.int 7))) (aq bz (af (ah 4) (ar)))) (ar))) (ar))) (ar)))) (ah 8))))))))
theorem nZ:∀ ds μ Q,b5 ds μ Q→jh { nx:=fun _ μ'=>RT Q .non μ',rt:=RT Q } (ini 10 ds) μ:=by
  intro ds μ Q h
  unfold b5 at h
  split at h
  case h_2=>exact h.elim
  rename_i sd kd lo tk
  walk_at "ini"
  unfold jh
  walk_at "go"
  obtain ⟨g,s,x,a7,taken,⟨⟨rfl,rfl,rfl⟩,el,⟨hn,h1,h2⟩,⟨l1,l2⟩,h64⟩,k⟩:=h
  refine bf el ?_
  refine mM a7 Lt.toD (fun l=>if l.nm=s.nm then some (.int l.nu) else none) rfl el (by omega) (fun l hl μ' sb N nn=>?_) ?_
  · walk_at "go"
    refine ⟨⟨h1 l hl,hn⟩,kif (fun h=>?_) (fun h=>?_)⟩
    · rw[if_pos h] at nn;exact nn
    · rw[if_neg h] at nn;exact nn
  rw[eJ (fun l:Lt=>l.nm=s.nm) (fun l=>D.int l.nu)]
  walk_at "go"
  refine jf taken Lt.toD (fun l=>if l.nm=s.nm then some l.toD else none) rfl (by omega) (fun l hl μ' sb N nn=>?_) ?_
  · walk_at "go"
    refine ⟨⟨h2 l hl,hn⟩,kif (fun h=>?_) (fun h=>?_)⟩
    · rw[if_pos h] at nn;exact nn
    · rw[if_neg h] at nn;exact nn
  rw[eJ (fun l:Lt=>l.nm=s.nm) Lt.toD]
  have lo2:=List.length_filter_le (fun l:Lt=>decide (l.nm=s.nm)) taken
  walk_at "go"
  refine bS (own s.nm taken) Lt.toD (fun l=>.int l.mr) rfl (by unfold own;omega) (fun l hl μ' sb N nn=>?_) ?_
  · walk_at "go"
    exact nn
  walk_at "go"
  refine ⟨(own s.nm taken).map Lt.mr,by rw[List.map_map];rfl,?_⟩
  walk_at "go"
  refine bS (own s.nm taken) Lt.toD (fun l=>.int (l.ag - l.hp)) rfl (by unfold own;omega) (fun l hl μ' sb N nn=>?_) ?_
  · walk_at "go"
    exact nn
  walk_at "go"
  rw[show (own s.nm taken).map (fun l=>D.int (l.ag - l.hp))=((own s.nm taken).map fun l=>l.ag - l.hp).map .int by rw[List.map_map];rfl]
  refine Pp ?_
  simp only[↓L6]
  walk_at "go"
  simp only[Fx]
  refine ⟨s,x.du,⟨rfl,rfl⟩,?_⟩
  unfold own at h64
  have eo:(List.filter (fun x:Lt=>decide (x.nm=s.nm)) a7).map (fun l=>D.int l.nu)=((own s.nm a7).map Lt.nu).map .int:=by unfold own;rw[List.map_map];rfl
  refine ⟨by simp,by simp only[List.length_map];omega,x.lo++(own s.nm a7).map Lt.nu,⟨by rw[eo,List.map_append],by unfold own;rw[List.length_append,List.length_map];exact h64⟩,fun ns' pm so=>?_⟩
  rw[vW pm so]
  refine ⟨by simp,by simp,_,.refl _,?_⟩
  have e:(iT s x a7 taken).toD g=_:=rfl
  unfold iT Ss.toD own at k
  simp only[List.length_map]
  exact k
theorem DM {kvs:List (L2.Key×D)}{k:L2.Key}{d:D}(h:k ∉ kvs.map (·.1)):putD kvs k d=kvs++[(k,d)]:=by
  unfold putD
  refine if_neg fun z=>?_
  obtain ⟨x,hx,e⟩:=List.any_eq_true.mp z
  exact h (List.mem_map.mpr ⟨x,hx,by simpa using e⟩)
theorem sJ:∀ (more kvs:List (L2.Key×D)),((kvs++more).map (·.1)).Nodup→jV kvs more=kvs++more
  | [],kvs,_=>by simp[jV]
  | (k,d)::r,kvs,h=>by
    have h1:k ∉ kvs.map (·.1):=fun z=>by
      rw[List.map_append,List.map_cons,List.nodup_append] at h
      exact h.2.2 k z k (by simp) rfl
    show jV (putD kvs k d) r=_
    rw[DM h1,sJ r _ (by simpa using h)]
    simp
theorem Dv {ss:List Sn}(h:(ss.map Sn.nm).Nodup):jV [] (kh ss)=kh ss:=by
  refine sJ _ [] ?_
  rw[List.nil_append]
  unfold kh
  rw[List.map_map]
  have:(ss.map ((fun x:L2.Key×D=>x.1) ∘ fun s=>((.inr s.nm,.tup (s.rd.map .str)):L2.Key×D)))=(ss.map Sn.nm).map Sum.inr:=by rw[List.map_map];rfl
  rw[this]
  exact List.Pairwise.map _ (fun a b (hab:a≠b) (z:Sum.inr a=Sum.inr b)=>hab (Sum.inr.inj z)) h
theorem vY {α β:Type}(f:α→D)(g:β→D)(xs:List α)(ys:List β):List.zipWith (fun d e=>D.tup [d,e]) (xs.map f) (ys.map g)=(List.zip xs ys).map fun y=>.tup [f y.1,g y.2]:=by
  simp only[List.zip,List.zipWith_map,List.map_zipWith]
theorem AJ {α:Type}{G:GTr}{te:ETr}{ρc:ST}{ds:List D}{μ:Mu}{Q:DK}(xs:List α)(t:α→D)(h:α→D)(hds:ds=xs.map t)(hl:xs.length≤999999)
    (step:∀ x∈xs,∀ μ',Sub μ μ'→∀ (N:DK),N (h x) μ'→G (t x) ρc μ' fun ρ1 μ1=>te ρ1 μ1 N)
    (k:∀ p,μ p=none→Q (.obj p) (up μ p (.lst (xs.map h)))):Ma G fo te ρc ds μ Q:=by
  subst hds
  intro p hp
  suffices go:∀ (r done:List α),done++r=xs→fM p G fo te ρc (fun μ'=>Q (.obj p) μ') (r.map t) (up μ p (.lst (done.map h))) from go xs [] rfl
  intro r
  induction r with
  | nil=>
    intro done e
    rw[List.append_nil] at e;subst e
    exact k p hp
  | cons d r ih=>
    intro done e
    have hd:d∈xs:=by rw[← e];simp
    have lf:(done.map h).length < 1000000:=by
      have:=congrArg List.length e
      simp at this ⊢;omega
    refine step d hd _ (Sub.new hp) _ (bf aH ⟨lf,?_⟩)
    rw[iq]
    have:=ih (done++[d]) (by rw[← e];simp)
    rw[List.map_append] at this
    exact this
theorem uR {β:Type}(f:Wt→List β)(zs:List (Wy×Wt)):(zs.flatMap fun y=>f y.2)=(zs.map (·.2)).flatMap f:=by rw[List.flatMap_map]
def btD (g:Int)(b:Ss×List Int):D:=.tup [b.1.toD g,.tup (d8 b.2)]
theorem br {α β γ:Type}(f:α→β→γ)(xs:List α)(ys:List β):List.zipWith f xs ys=(List.zip xs ys).map fun p=>f p.1 p.2:=by
  simp[List.zip,List.map_zipWith]
structure Pr (p:Pn) (st:St'):Prop where
  g:Gd p.g
  sd:p.sn.Nodup
  sl:p.ss.length≤100
  wl:p.ws.length≤100
  sn:∀ n∈p.sn,PyData.strOk n=true
  rl:∀ s∈p.ss,s.rl.Ok∧s.rd≠[]∧∀ n∈s.rd,PyData.strOk n=true
  wy:∀ w∈p.ws,PyData.strOk w.nm=true∧0≤w.pc
  ws:∀ w∈st.ws,w.Ok
  ss:∀ y∈List.zip p.ss st.ss,y.2.Ok p.g y.1.rl
  nb:∀ b∈p.bA st,b.2.length≤1000
  se:∀ x∈p.aN st,PyData.strOk x.1=true∧x.2.nm∈p.sn
  sz:(p.aN st).length≤100000
  wz:∀ w∈st.ws,(∀ l∈w.cm++w.st,l.nm∈p.sn)∧w.cm.length+w.st.length≤700000
  go:∀ x∈p.bD st,x.ca.length+x.ou.length≤900000∧x.st.length≤900000
  ou:∀ l∈p.out st,l.nm∈p.sn∧0≤l.hp
  lo:∀ l∈p.a7 st,l.nm∈p.sn
  oz:(p.out st).length≤900000
  lz:(p.a7 st).length≤900000
  ez:(p.evs st).length≤900000
  lt:∀ y∈List.zip p.ss (p.bA st),y.2.1.lo.length+(own y.1.nm (p.a7 st)).length < 64
def fh:FSp:=fun ds μ Q=>match ds with
  | [pd,sd]=>∃ (p:Pn) (st:St'),((pd=p.toD∧sd=st.toD p.g)∧Pr p st)∧Q (.tup [(p.step st).toD p.g,.ls (evD (p.evs st))]) μ
  | _=>False
theorem wB:∀ ds μ Q,fh ds μ Q→ds.length=2:=by
  unfold fh
  walk_at "ln"
def sI:STr:=aB (aP (aj L3.rIx (ah 0) (TC (.int 2))) (aw 2)) (aB (aP (aq bz (af (bW (eL (ah 2)) (aw 0) (fo) (aj L3.rIx (ah 0) (TC (.int 0))) 1 []) (ar))) (aw 3)) (aB (aP (aq Bf (af (bW (eL (ah 2)) (aw 0) (fo) (bw (af (aj L3.rIx (ah 0) (TC (.int 0))) (af (aj L3.rIx (ah 0) (TC (.int 1))) (ar)))) 1 []) (ar))) (aw 4)) (aB (aP (bW (nC (af (ah 2) (af (aj L3.rIx (ah 1) (TC (.int 1))) (ar)))) (eM [0,1]) (fo) (aq gi (af (aj L3.rIx (ah 3) (TC (.int 0))) (af (ah 0) (af (ah 1) (af (ah 2) (ar)))))) 2 [1,0]) (aw 5)) (aB (aP (aq bT (af (ah 2) (af (bW (eL (ah 5)) (eM [0,1]) (fo) (ah 1) 2 []) (ar)))) (aw 6)) (aB (aP (bW (nC (af (aj L3.rIx (ah 0) (TC (.int 1))) (af (aj L3.rIx (ah 1) (TC (.int 0))) (ar)))) (eM [0,1]) (fo) (aq gh (af (ah 0) (af (ah 2) (af (ah 1) (af (ah 3) (ar)))))) 2 [3,6]) (aw 7)) (aB (aP (uT (eL (ah 6)) (eM [0,1]) (fo) (bw (af (TC (.str "sent")) (af (aj L3.rIx (ah 1) (TC (.int 0))) (af (aj L3.rIx (ah 1) (TC (.int 1))) (af (ah 0) (ar)))))) 2 []) (aw 8)) (aB (aP (me (ar)) (aw 9)) (aB (aP (me (ar)) (aw 10)) (aB (kg (nC (af (aj L3.rIx (ah 0) (TC (.int 1))) (af (ah 7) (ar)))) (eM [11,12]) (aB (fN (wg (ah 8) (aq dz (af (ah 11) (af (ah 4) (af (ah 12) (ar))))))) (aB (fN (wg (ah 9) (aj L3.rIx (ah 12) (TC (.int 1))))) (fN (wg (ah 10) (aj L3.rIx (ah 12) (TC (.int 2)))))))) (aB (aP (jy (ah 10) (aw 0) (TB (aj rIs (aq bR (af (ah 1) (af (ah 0) (ar)))) (TC .non))) (ah 0) 1 [4]) (aw 13)) (aB (aP (bW (nC (af (aj L3.rIx (ah 0) (TC (.int 1))) (af (ah 7) (ar)))) (eM [0,1]) (fo) (aq dh (af (ah 0) (af (ah 2) (af (ah 1) (af (ah 3) (ar)))))) 2 [4,10]) (aw 14)) (aB (aP (bW (nC (af (ah 2) (af (ah 5) (ar)))) (eM [0,1]) (fo) (aq b5 (af (ah 0) (af (aj L3.rIx (ah 1) (TC (.int 0))) (af (ah 2) (af (ah 3) (ar)))))) 2 [9,13]) (aw 15)) (aY (bw (af (bw (af (aq bz (af (ah 14) (ar))) (af (aq bz (af (ah 15) (ar))) (ar)))) (af (uS (ah 8)) (ar)))))))))))))))))
theorem Ae:∀ ds μ Q,fh ds μ Q→sI { nx:=fun _ μ'=>RT Q .non μ',rt:=RT Q } (ini 16 ds) μ:=by
  intro ds μ Q h
  unfold fh at h
  split at h
  case h_2=>exact h.elim
  rename_i pd sd
  walk_at "ini"
  unfold sI
  walk_at "go"
  obtain ⟨p,st,⟨⟨rfl,rfl⟩,R⟩,k⟩:=h
  have sl:=R.sl
  walk_at "go"
  refine bS p.ss Sn.toD (fun s=>.str s.nm) rfl (by omega) (fun s hs μ' sb N nn=>?_) ?_
  · walk_at "go"
    exact nn
  walk_at "go"
  refine bS p.ss Sn.toD (fun s=>.tup [.str s.nm,.tup (s.rd.map .str)]) rfl (by omega) (fun s hs μ' sb N nn=>?_) ?_
  · walk_at "go"
    exact nn
  walk_at "go"
  refine ⟨kh p.ss,by unfold kh;rw[List.map_map];rfl,by unfold kh;rw[List.length_map];omega,fun r hr=>?_⟩
  rw[Dv R.sd]
  walk_at "go"
  rw[vY]
  have lz:∀ {α β:Type} (xs:List α) (ys:List β),(List.zip xs ys).length≤xs.length:=fun xs ys=>by simp;omega
  refine bS (List.zip p.ss st.ss) (fun y=>.tup [y.1.toD,y.2.toD p.g]) (fun y=>btD p.g (y.2.bt p.g y.1 (st.und y.2.nm))) rfl (by have:=lz p.ss st.ss;omega) (fun y hy μ' sb N nn=>?_) ?_
  · walk_at "go"
    exact ⟨y.1,y.2,st,⟨⟨rfl,rfl,rfl⟩,(R.rl _ (List.of_mem_zip hy).1).1,R.g,R.ss y hy,R.ws⟩,nn⟩
  have eb:(List.zip p.ss st.ss).map (fun y=>btD p.g (y.2.bt p.g y.1 (st.und y.2.nm)))=(p.bA st).map (btD p.g):=by unfold Pn.bA;rw[br,List.map_map];rfl
  have lb:(p.bA st).length≤100:=by unfold Pn.bA;rw[List.length_zipWith];omega
  rw[eb]
  walk_at "go"
  refine bS (p.bA st) (btD p.g) (fun b=>.tup (d8 b.2)) rfl (by omega) (fun b hb μ' sb N nn=>?_) ?_
  · unfold btD
    walk_at "go"
    exact nn
  walk_at "go"
  refine ⟨p.ss,(p.bA st).map (·.2),⟨⟨rfl,by unfold nsD;rw[List.map_map];rfl⟩,sl,by rw[List.length_map];exact lb,fun n hn=>?_,fun s hs=>(R.rl s hs).2.1⟩,?_⟩
  · obtain ⟨b,hb,rfl⟩:=List.mem_map.mp hn
    exact R.nb b hb
  rw[show lF p.ss ((p.bA st).map (·.2))=p.aN st from rfl]
  have sz:=R.sz
  have wl:=R.wl
  walk_at "go"
  rw[vY]
  refine bS (List.zip p.ws st.ws) (fun y=>.tup [y.1.toD,y.2.toD]) (fun y=>(pass y.1 p.sn y.2 (p.aN st)).toD) rfl (by have:=lz p.ws st.ws;omega) (fun y hy μ' sb N nn=>?_) ?_
  · walk_at "go"
    have hw:=R.wy _ (List.of_mem_zip hy).1
    have hk:=R.wz _ (List.of_mem_zip hy).2
    have len2:p.sn.length≤900000:=by unfold Pn.sn;rw[List.length_map];omega
    refine ⟨y.1,p.sn,y.2,p.aN st,⟨⟨rfl,by unfold Pn.sn;rw[List.map_map];rfl,rfl,rfl⟩,⟨hw.1,fun x hx=>(R.se x hx).1⟩,hw.2,R.sn,fun l hl=>?_,by have:=hk.2;omega,len2⟩,nn⟩
    rcases List.mem_append.mp hl with hl | hl
    · exact hk.1 l hl
    · obtain ⟨x,hx,rfl⟩:=List.mem_map.mp hl
      exact (R.se x hx).2
  have ew:(List.zip p.ws st.ws).map (fun y=>(pass y.1 p.sn y.2 (p.aN st)).toD)=(p.bD st).map Wt.toD:=by unfold Pn.bD;rw[br,List.map_map];rfl
  rw[ew]
  walk_at "go"
  refine AJ (p.aN st) sdD (fun x=>(⟨Str.ofString "sent", x.2.nm,x.2.nu,x.1⟩:Ev).toD) rfl (by omega) (fun x hx μ' sb N nn=>?_) (fun e he=>?_)
  · walk_at "go"
    exact nn
  walk_at "go"
  intro l hl o ho
  walk_at "go"
  rw[vY]
  have er0:up μ r (.dct (kh p.ss)) r=some (.dct (kh p.ss)):=aH
  generalize hμr:up μ r (.dct (kh p.ss))=μr at *
  have nre:r≠e:=fun z=>by rw[← z,er0] at he;cases he
  have nel:e≠l:=fun z=>by rw[← z,aH] at hl;cases hl
  have nlo:l≠o:=fun z=>by rw[← z,aH] at ho;cases ho
  have hl':μr l=none:=by rw[aU (Ne.symm nel)] at hl;exact hl
  have ho1:up μr e (.lst ((p.aN st).map fun x=>(⟨Str.ofString "sent", x.2.nm,x.2.nu,x.1⟩:Ev).toD)) o=none:=by rw[aU (Ne.symm nlo)] at ho;exact ho
  have neo:e≠o:=fun z=>by rw[← z,aH] at ho1;cases ho1
  have ho':μr o=none:=by rw[aU (Ne.symm neo)] at ho1;exact ho1
  have nrl:r≠l:=fun z=>by rw[← z,er0] at hl';cases hl'
  have nro:r≠o:=fun z=>by rw[← z,er0] at ho';cases ho'
  have og:=R.go;have oe:=R.ez;have oz:=R.oz;have olz:=R.lz
  have QS:∀ {a},a∈List.zip p.ws (p.bD st)→a.2∈p.bD st:=fun h=>(List.of_mem_zip h).2
  have lw:(p.bD st).length≤p.ws.length:=by unfold Pn.bD;rw[List.length_zipWith];omega
  have zw:(List.zip p.ws (p.bD st)).map (·.2)=p.bD st:=by
    rw[List.map_snd_zip];exact lw
  refine cX (fun rr ρ μ'=>∃ (a c:List (Wy×Wt)) (v11 v12 v13 v14 v15:Option D),rr=c.map (fun y=>.tup [y.1.toD,y.2.toD])∧a++c=List.zip p.ws (p.bD st)∧
    ρ=[some p.toD,some (st.toD p.g),some (.tup (snD p.ss)),some (.tup (p.ss.map fun s=>.str s.nm)),some (.obj r),some (.ls ((p.bA st).map (btD p.g))),some (.ls ((p.aN st).map sdD)),some (.ls ((p.bD st).map Wt.toD)),some (.obj e),some (.obj l),some (.obj o),v11,v12,v13,v14,v15]∧
    (μ' e=some (.lst (evD ((p.aN st).map (fun x=>⟨Str.ofString "sent", x.2.nm,x.2.nu,x.1⟩)++a.flatMap fun y=>evs p.ss y.1 y.2)))∧μ' l=some (.lst (ltD (a.flatMap fun y=>y.2.lo)))∧μ' o=some (.lst (ltD (a.flatMap fun y=>y.2.ou))))∧∀ b,b≠e→b≠l→b≠o→μ' b=μr b) ?_ ?_ _ _ _
    ⟨[],List.zip p.ws (p.bD st),_,_,_,_,_,rfl,rfl,rfl,⟨?_,?_,?_⟩,fun b h1 h2 h3=>?_⟩
  rotate_left 2
  · rw[aU neo,aU nel,aH];simp
  · rw[aU nlo,aH];rfl
  · rw[aH];rfl
  · rw[aU h3,aU h2,aU h1]
  · rintro ρ μ' ⟨a,c,v11,v12,v13,v14,v15,er',ez,rfl,⟨ee,el,eo⟩,eq⟩
    have:c=[]:=by cases c with | nil=>rfl | cons=>cases er'
    subst this
    rw[List.append_nil] at ez
    subst ez
    have el':μ' l=some (.lst (ltD (p.a7 st))):=by rw[el,uR,zw];rfl
    have eo':μ' o=some (.lst (ltD (p.out st))):=by rw[eo,uR,zw];rfl
    have ee':μ' e=some (.lst (evD (p.evs st))):=by rw[ee];unfold Pn.evs;rw[br];congr 3
    have er1:μ' r=some (.dct (kh p.ss)):=by rw[eq r nre nrl nro];exact er0
    have hnm:∀ {n},n∈p.sn→n∈p.ss.map Sn.nm:=fun h=>h
    walk_at "go"
    refine bf eo' ?_
    refine mM (p.out st) Lt.toD (fun l=>if cN p.ss l=none then some l.toD else none) rfl eo' (by omega) (fun y hy μ2 sb N nn=>?_) ?_
    · walk_at "go"
      refine ⟨p.ss,y,⟨rfl,sb _ _ er1,hnm (R.ou y hy).1,(R.ou y hy).2⟩,?_⟩
      show rIs (wu (cN p.ss y)) .non μ2 _
      rw[AZ]
      walk_at "go"
      refine kif (fun h=>?_) (fun h=>?_)
      · rw[if_pos h] at nn;exact nn
      · rw[if_neg h] at nn;exact nn
    rw[eJ (fun l:Lt=>cN p.ss l=none) Lt.toD]
    rw[show (p.out st).filter (fun l=>decide (cN p.ss l=none))=p.taken st from rfl]
    walk_at "go"
    rw[vY]
    refine bS (List.zip p.ws (p.bD st)) (fun y=>.tup [y.1.toD,y.2.toD]) (fun y=>(FQ p.ss y.1 y.2 (p.out st)).toD) rfl (by have:=lz p.ws (p.bD st);omega) (fun y hy μ2 sb N nn=>?_) ?_
    · walk_at "go"
      have h1:=R.wy _ (List.of_mem_zip hy).1
      exact ⟨y.1,p.ss,y.2,p.out st,⟨⟨rfl,rfl⟩,⟨sb _ _ er1,sb _ _ eo'⟩,fun x hx=>⟨hnm (R.ou x hx).1,(R.ou x hx).2⟩,⟨h1.1,fun s hs=>(R.rl s hs).2.2⟩,R.oz,(R.go _ (QS hy)).2⟩,nn⟩
    have e1:(List.zip p.ws (p.bD st)).map (fun y=>(FQ p.ss y.1 y.2 (p.out st)).toD)=wsD (p.step st).ws:=by unfold Pn.step wsD;simp only;rw[br,List.map_map];rfl
    rw[e1]
    walk_at "go"
    rw[vY]
    have lt1:(p.taken st).length≤900000:=by have:=List.length_filter_le (fun l:Lt=>decide (cN p.ss l=none)) (p.out st);unfold Pn.taken;omega
    refine bS (List.zip p.ss (p.bA st)) (fun y=>.tup [y.1.toD,btD p.g y.2]) (fun y=>(iT y.1 y.2.1 (p.a7 st) (p.taken st)).toD p.g) rfl (by have:=lz p.ss (p.bA st);omega) (fun y hy μ2 sb N nn=>?_) ?_
    · unfold btD
      walk_at "go"
      have hs:=(List.of_mem_zip hy).1
      refine ⟨p.g,y.1,y.2.1,p.a7 st,p.taken st,⟨⟨rfl,rfl,rfl⟩,sb _ _ el',⟨R.sn _ (List.mem_map.mpr ⟨_,hs,rfl⟩),fun x hx=>R.sn _ (R.lo x hx),fun x hx=>R.sn _ (R.ou x (List.mem_filter.mp hx).1).1⟩,⟨R.lz,lt1⟩,R.lt y hy⟩,nn⟩
    have e2:(List.zip p.ss (p.bA st)).map (fun y=>(iT y.1 y.2.1 (p.a7 st) (p.taken st)).toD p.g)=ssD p.g (p.step st).ss:=by unfold Pn.step ssD;simp only;rw[br,List.map_map];rfl
    rw[e2]
    walk_at "go"
    refine bf ee' ?_
    refine ⟨μ,fun b ob hb=>?_,k⟩
    have nb:∀ z,μr z=none→b≠z:=fun z hz w=>by
      rw[w] at hb
      rw[← hμr] at hz
      by_cases hzr:z=r
      · rw[hzr,hr] at hb;cases hb
      · rw[aU hzr,hb] at hz;cases hz
    have n1:=nb e he
    have n2:=nb l hl'
    have n3:=nb o ho'
    unfold dn
    rw[if_neg n1,eq b n1 n2 n3,← hμr,aU (fun w=>by rw[w,hr] at hb;cases hb)]
    exact hb
  · rintro d rr ρ μ' N ⟨a,c,v11,v12,v13,v14,v15,er',ez,rfl,⟨ee,el,eo⟩,eq⟩ hN
    cases c with
    | nil=>cases er'
    | cons y c=>
    cases er'
    have hy:y∈List.zip p.ws (p.bD st):=by rw[← ez];simp
    have hyw:=QS hy
    have er1:μ' r=some (.dct (kh p.ss)):=by rw[eq r nre nrl nro];exact er0
    walk_at "go"
    refine bf ee ?_
    have hou:∀ x∈y.2.ou,x.nm∈p.ss.map Sn.nm∧0≤x.hp:=fun x hx=>R.ou x (List.mem_flatMap.mpr ⟨_,hyw,hx⟩)
    refine ⟨y.1,p.ss,y.2,⟨⟨rfl,rfl⟩,er1,hou,(og _ hyw).1⟩,?_⟩
    walk_at "go"
    have za:a++y::c=List.zip p.ws (p.bD st):=ez
    have le1:(evD ((p.aN st).map (fun x=>⟨Str.ofString "sent", x.2.nm,x.2.nu,x.1⟩)++a.flatMap fun y=>evs p.ss y.1 y.2)).length+(evD (evs p.ss y.1 y.2)).length≤1000000:=by
      have:(p.evs st).length=(p.aN st).length+((a++y::c).flatMap fun y=>evs p.ss y.1 y.2).length:=by
        unfold Pn.evs;rw[br,za,List.length_append,List.length_map];rfl
      rw[List.flatMap_append,List.flatMap_cons,List.length_append,List.length_append] at this
      simp only[List.length_map,List.length_append];omega
    have ll1:(ltD (a.flatMap fun y=>y.2.lo)).length+(ltD y.2.lo).length≤1000000:=by
      have:(p.a7 st).length=((a++y::c).flatMap fun y=>y.2.lo).length:=by unfold Pn.a7;rw[za,uR,zw]
      rw[List.flatMap_append,List.flatMap_cons,List.length_append,List.length_append] at this
      simp only[List.length_map];omega
    have lo1:(ltD (a.flatMap fun y=>y.2.ou)).length+(ltD y.2.ou).length≤1000000:=by
      have:(p.out st).length=((a++y::c).flatMap fun y=>y.2.ou).length:=by unfold Pn.out;rw[za,uR,zw]
      rw[List.flatMap_append,List.flatMap_cons,List.length_append,List.length_append] at this
      simp only[List.length_map];omega
    refine bf ee ⟨le1,?_⟩
    walk_at "go"
    refine bf (by rw[aU (Ne.symm nel)];exact el) (bf (by rw[aU (Ne.symm nel)];exact el) ⟨ll1,?_⟩)
    walk_at "go"
    refine bf (by rw[aU (Ne.symm nlo),aU (Ne.symm neo)];exact eo) (bf (by rw[aU (Ne.symm nlo),aU (Ne.symm neo)];exact eo) ⟨lo1,?_⟩)
    refine hN _ _ ⟨a++[y],c,_,_,_,_,_,rfl,by rw[← ez];simp,rfl,⟨?_,?_,?_⟩,fun b h1 h2 h3=>?_⟩
    · rw[aU neo,aU nel,aH,List.flatMap_append];simp
    · rw[aU nlo,aH,List.flatMap_append];simp
    · rw[aH,List.flatMap_append];simp
    · rw[aU h3,aU h2,aU h1,eq b h1 h2 h3]
theorem o6 {α:Type}{f g:α→Nat}:∀ {l:List α},(∀ x∈l,f x≤g x)→(l.map f).sum≤(l.map g).sum
  | [],_=>Nat.le_refl _
  | a::r,h=>by
    have h1:=h a List.mem_cons_self
    have h2:=o6 (l:=r) fun x hx=>h x (List.mem_cons_of_mem _ hx)
    simp only[List.map_cons,List.sum_cons];omega
theorem aW {α:Type}(f g:α→Nat):∀ l:List α,(l.map fun x=>f x+g x).sum=(l.map f).sum+(l.map g).sum
  | []=>rfl
  | a::r=>by have:=aW f g r;simp only[List.map_cons,List.sum_cons];omega
theorem j6 {α:Type}{f:α→Nat}{k:Nat}:∀ {l:List α},(∀ x∈l,f x≤k)→(l.map f).sum≤l.length*k
  | [],_=>by simp
  | a::r,h=>by
    have h1:=h a List.mem_cons_self
    have h2:=j6 (l:=r) fun x hx=>h x (List.mem_cons_of_mem _ hx)
    simp only[List.map_cons,List.sum_cons,List.length_cons,Nat.succ_mul];omega
theorem kU {α:Type}{f:α→Nat}:∀ {l:List α} {x:α},x∈l→f x≤(l.map f).sum
  | a::r,x,h=>by
    simp only[List.map_cons,List.sum_cons]
    rcases List.mem_cons.mp h with rfl | h
    · omega
    · have:=kU (f:=f) h;omega
theorem ml {κ:Type} [DecidableEq κ] (a:κ):∀ {ks:List κ},ks.Nodup→(ks.map fun k=>if a=k then 1 else 0).sum≤1
  | [],_=>by simp
  | k::r,h=>by
    have h':=List.nodup_cons.mp h
    simp only[List.map_cons,List.sum_cons]
    by_cases e:a=k
    · have:(r.map fun k=>if a=k then 1 else 0).sum=0:=by
        have:∀ l:List κ,a ∉ l→(l.map fun k=>if a=k then 1 else 0).sum=0:=by
          intro l
          induction l with
          | nil=>intro _;rfl
          | cons b l ih=>
            intro hl
            simp only[List.mem_cons,not_or] at hl
            simp[hl.1,ih hl.2]
        exact this r (by rw[e];exact h'.1)
      rw[if_pos e,this];exact Nat.le_refl 1
    · rw[if_neg e];have:=ml a h'.2;omega
theorem split_le {α κ:Type} [DecidableEq κ] (f:α→κ){ks:List κ}(nd:ks.Nodup):∀ xs:List α,(ks.map fun k=>(xs.filter fun x=>decide (f x=k)).length).sum≤xs.length
  | []=>by
    have:∀ l:List κ,(l.map fun _=>0).sum=0:=fun l=>by induction l<;>simp_all
    simpa using this ks
  | x::r=>by
    have h1:=split_le f nd r
    have h2:=ml (f x) nd
    have e:(ks.map fun k=>((x::r).filter fun x=>decide (f x=k)).length)=ks.map fun k=>(if f x=k then 1 else 0)+(r.filter fun x=>decide (f x=k)).length:=by
      refine List.map_congr_left fun k _=>?_
      by_cases z:f x=k<;>simp[z];omega
    rw[e,aW,List.length_cons];omega
theorem Al (ns:List Str):∀ ls:List Lt,(∀ l∈ls,l.nm∈ns)→ls.length≤(ns.map fun n=>(own n ls).length).sum
  | [],_=>by simp
  | x::r,h=>by
    have h1:=Al ns r fun l hl=>h l (List.mem_cons_of_mem _ hl)
    have hx:=h x List.mem_cons_self
    have e:(ns.map fun n=>(own n (x::r)).length)=ns.map fun n=>(if x.nm=n then 1 else 0)+(own n r).length:=by
      refine List.map_congr_left fun k _=>?_
      unfold own
      by_cases z:x.nm=k<;>simp[z];omega
    have h2:1≤(ns.map fun n=>if x.nm=n then 1 else 0).sum:=by
      have:=kU (f:=fun n=>if x.nm=n then 1 else 0) hx
      simpa using this
    rw[e,aW,List.length_cons];omega
theorem tZ (n:Str)(ls:List Lt):(own n ls).length=(ls.map Lt.nm).count n:=by
  unfold own
  induction ls with
  | nil=>rfl
  | cons x r ih=>by_cases z:x.nm=n<;>simp[z,ih]
theorem oF (n:Str)(a b:List Lt):(own n (a++b)).length=(own n a).length+(own n b).length:=by unfold own;simp
theorem oS:∀ {l:List Lt} {i:Nat} (h:i < l.length),([l[i]]++l.eraseIdx i).Perm l
  | x::r,0,_=>.refl _
  | x::r,i+1,h=>by
    have:=oS (l:=r) (i:=i) (by simpa using h)
    simp only[List.getElem_cons_succ,List.eraseIdx_cons_succ]
    exact (List.Perm.swap x _ _).trans (this.cons x)
theorem pJ (ws:List Str)(p:Int):∀ (f:Nat) (st out:List Lt) (l:Str),((gA ws p f st out l).1++(gA ws p f st out l).2.1).Perm (out++st)
  | 0,st,out,l=>.refl _
  | f+1,st,out,l=>by
    unfold gA
    split
    · split
      · rename_i n _
        split
        · rename_i x e
          refine (pJ ws p f _ _ _).trans ?_
          obtain ⟨hi,rfl⟩:=List.getElem?_eq_some_iff.mp e
          rw[List.append_assoc]
          exact List.Perm.append_left _ (oS hi)
        · exact .refl _
      · exact .refl _
    · exact .refl _
theorem gJ (w:Wy)(ws:List Str)(st:List Lt)(l:Str):((eQ w ws st l).1++(eQ w ws st l).2.1).Perm st:=by
  unfold eQ
  split
  · exact pJ ..
  · simp only[List.take_append_drop];exact .refl _
theorem oH (w:Wy):∀ (ys a b:List Lt),(((ys.foldl (cO w) (a,b)).1++(ys.foldl (cO w) (a,b)).2).map Lt.nm).Perm ((a++b++ys).map Lt.nm)
  | [],a,b=>by simp
  | y::r,a,b=>by
    rw[List.foldl_cons]
    by_cases h:w.rm≤(a.length:Int)
    · rw[jZ h]
      refine (oH w r a (b++[y])).trans (by simp)
    · rw[tf h]
      refine (oH w r (a++[kA w y a.length]) b).trans ?_
      simp only[List.map_append,List.map_cons,List.map_nil,BP,List.append_assoc]
      refine List.Perm.append_left _ ?_
      exact (List.perm_middle (l₁:=List.map Lt.nm b)).symm
def Lt.In (sn:List Str)(l:Lt):Prop:=l.nm∈sn∧0≤l.hp∧0≤l.mr∧l.mr≤1
theorem K2 {sn:List Str}{w:Wy}{x:Lt}(n:Nat)(h:x.In sn):(kA w x n).In sn:=by
  unfold kA
  split
  · exact h
  · split
    · exact h
    · exact ⟨h.1,h.2.1,(show (0:Int)≤1 by decide),Int.le_refl 1⟩
theorem zF {sn:List Str}(w:Wy):∀ (ys a b:List Lt),(∀ l∈a,l.In sn)→(∀ l∈b,l.In sn)→(∀ l∈ys,l.In sn)→(∀ l∈(ys.foldl (cO w) (a,b)).1,l.In sn)∧∀ l∈(ys.foldl (cO w) (a,b)).2,l.In sn
  | [],a,b,h1,h2,_=>⟨h1,h2⟩
  | y::r,a,b,h1,h2,h3=>by
    rw[List.foldl_cons]
    have hy:=h3 y List.mem_cons_self
    have hr:∀ l∈r,l.In sn:=fun l hl=>h3 l (List.mem_cons_of_mem _ hl)
    by_cases h:w.rm≤(a.length:Int)
    · rw[jZ h]
      refine zF w r a (b++[y]) h1 (fun l hl=>?_) hr
      rcases List.mem_append.mp hl with hl | hl
      · exact h2 l hl
      · rw[List.mem_singleton.mp hl];exact hy
    · rw[tf h]
      refine zF w r _ b (fun l hl=>?_) h2 hr
      rcases List.mem_append.mp hl with hl | hl
      · exact h1 l hl
      · rw[List.mem_singleton.mp hl];exact K2 _ hy
theorem HV (w:Wy)(ns:List Str)(k:Ws)(aN:List (Str×Lt))(n:Str):(own n (pass w ns k aN).lo).length+(own n (pass w ns k aN).ou).length+(own n (pass w ns k aN).st).length=(own n (pass w ns k aN).ca).length+(own n k.st).length:=by
  have h1:=(oH w (pass w ns k aN).ca k.st []).count_eq n
  have h2:=((gJ w ns (tk w k.st (pass w ns k aN).ca).1 k.la).map Lt.nm).count_eq n
  simp only[List.map_append,List.count_append,← tZ] at h1 h2
  have e1:(pass w ns k aN).lo=(tk w k.st (pass w ns k aN).ca).2:=rfl
  have e2:(pass w ns k aN).ou=(eQ w ns (tk w k.st (pass w ns k aN).ca).1 k.la).1:=rfl
  have e3:(pass w ns k aN).st=(eQ w ns (tk w k.st (pass w ns k aN).ca).1 k.la).2.1:=rfl
  rw[e1,e2,e3]
  unfold tk at *
  have:(own n ([]:List Lt)).length=0:=rfl
  omega
theorem FR (w:Wy)(ns:List Str)(k:Ws)(aN:List (Str×Lt)):(pass w ns k aN).lo.length+(pass w ns k aN).ou.length+(pass w ns k aN).st.length=(pass w ns k aN).ca.length+k.st.length:=by
  have h1:=(oH w (pass w ns k aN).ca k.st []).length_eq
  have h2:=(gJ w ns (tk w k.st (pass w ns k aN).ca).1 k.la).length_eq
  simp only[List.length_map,List.length_append,List.length_nil] at h1 h2
  have e1:(pass w ns k aN).lo=(tk w k.st (pass w ns k aN).ca).2:=rfl
  have e2:(pass w ns k aN).ou=(eQ w ns (tk w k.st (pass w ns k aN).ca).1 k.la).1:=rfl
  have e3:(pass w ns k aN).st=(eQ w ns (tk w k.st (pass w ns k aN).ca).1 k.la).2.1:=rfl
  rw[e1,e2,e3]
  unfold tk at *
  omega
theorem JF {sn:List Str}{w:Wy}{ns:List Str}{k:Ws}{aN:List (Str×Lt)}(hk:∀ l∈k.cm++k.st,l.In sn)(hs:∀ x∈aN,x.2.In sn):(∀ l∈(pass w ns k aN).ca,l.In sn)∧(∀ l∈(pass w ns k aN).lo,l.In sn)∧(∀ l∈(pass w ns k aN).ou,l.In sn)∧∀ l∈(pass w ns k aN).st,l.In sn:=by
  have hca:∀ l∈(pass w ns k aN).ca,l.In sn:=fun l hl=>by
    rcases List.mem_append.mp (show l∈k.cm++(aN.filter fun x=>decide (x.1=w.nm)).map (·.2) from hl) with hl | hl
    · exact hk l (by simp[hl])
    · obtain ⟨x,hx,rfl⟩:=List.mem_map.mp hl
      exact hs x (List.mem_filter.mp hx).1
  have ht:=zF w (pass w ns k aN).ca k.st [] (fun l hl=>hk l (by simp[hl])) (fun l hl=>nomatch hl) hca
  have hp:=gJ w ns (tk w k.st (pass w ns k aN).ca).1 k.la
  refine ⟨hca,ht.2,fun l hl=>ht.1 l (hp.mem_iff.mp (List.mem_append_left _ hl)),fun l hl=>ht.1 l (hp.mem_iff.mp (List.mem_append_right _ hl))⟩
theorem Lo {lf:Option Int}{k:Int}(k0:0≤k)(hl:∀ i,lf=some i→0≤i):0≤ie lf k∧ie lf k≤k∧∀ i,lf.map (· - ie lf k)=some i→0≤i:=by
  cases lf with
  | none=>exact ⟨k0,Int.le_refl _,fun i h=>by cases h⟩
  | some l=>
    have:=hl l rfl
    refine ⟨?_,?_,fun i h=>?_⟩
    · show 0≤min k l;omega
    · show min k l≤k;omega
    · have e:l - min k l=i:=by simpa[ie] using h
      omega
theorem Ld (a:Int)(n:Nat):(rgI a n).length=n:=by unfold rgI;simp
structure Fills (x:Ss) (pl:Nat) (b:Ss×List Int):Prop where
  same:b.1.nm=x.nm∧b.1.du=x.du∧b.1.W=x.W∧b.1.S=x.S∧b.1.lo=x.lo∧b.1.gd=x.gd∧b.1.mk'=x.mk'∧b.1.wt=x.wt
  few:b.2.length≤pl
  all:b.1.ag.length+b.2.length≤max x.ag.length pl
  n0:x.nx≤b.1.nx
  n1:b.1.nx≤x.nx+pl
  l:∀ i,b.1.lf=some i→0≤i
theorem Ir {x:Ss}(pl:Nat)(hl:∀ i,x.lf=some i→0≤i):Fills x pl (x.fill pl):=by
  have tl:(x.ag.take pl).length=min pl x.ag.length:=List.length_take
  obtain ⟨c0,c1,c2⟩:=Lo (lf:=x.lf) (k:=(pl:Int) - ((x.ag.take pl).length:Int)) (by omega) hl
  have e1:(x.fill pl).1.ag.length=x.ag.length - (x.ag.take pl).length:=by show (x.ag.drop _).length=_;rw[List.length_drop]
  have e2:(x.fill pl).2.length=(x.ag.take pl).length+(ie x.lf ((pl:Int) - ((x.ag.take pl).length:Int))).toNat:=by show (x.ag.take pl++rgI _ _).length=_;rw[List.length_append,Ld]
  have e3:(x.fill pl).1.nx=x.nx+ie x.lf ((pl:Int) - ((x.ag.take pl).length:Int)):=rfl
  refine ⟨⟨rfl,rfl,rfl,rfl,rfl,rfl,rfl,rfl⟩,by omega,by omega,by omega,by omega,c2⟩
structure SsI (g:Int) (R:RN) (n:Nat) (x:Ss):Prop where
  w0:g≤x.W
  w1:x.W≤R.cap g
  s0:0≤x.S
  s1:x.S≤g
  g0:0≤x.gd
  g1:x.gd≤60*n
  m0:0≤x.mk'
  m1:x.mk'≤60*n
  t0:0≤x.wt
  n0:0≤x.nx
  n1:x.nx≤60*n
  l:∀ i,x.lf=some i→0≤i
theorem SsI.ok {g:Int}{R:RN}{n:Nat}{x:Ss}(h:SsI g R n x)(hn:n≤10000)(nm:PyData.strOk x.nm=true)(a:x.ag.length+x.lo.length≤60):x.Ok g R:=by
  have:=h.g1;have:=h.m1;have:=h.n1
  exact ⟨nm,h.w0,h.w1,h.s0,h.s1,⟨h.g0,(show x.gd≤1000000 by omega),h.m0,(show x.mk'≤1000000 by omega),(show (0:Int)≤(x.lo.length:Int) by omega),(show (x.lo.length:Int)≤1000000 by omega),h.t0⟩,by have:=h.n0;omega,by omega,a,h.l⟩
structure AX (g:Int) (R:RN) (n:Nat) (u:Int) (x:Ss) (b:Ss×List Int):Prop where
  nm:b.1.nm=x.nm
  i:SsI g R (n+1) b.1
  g:b.1.gd≤60*n
  m:b.1.mk'≤60*n
  few:b.2.length≤60
  all:u+(b.2.length:Int)+(b.1.ag.length:Int)+(b.1.lo.length:Int)≤60
theorem RC {p:Int}{s:Sn}{n:Nat}{x:Ss}{u:Int}(K:s.rl.Ok)(g0:0 < p)(h:SsI p s.rl n x)(hd:x.hd.Ok)(u0:0≤u)(a:u+(x.ag.length:Int)+(x.lo.length:Int)≤60):AX p s.rl n u x (x.bt p s u):=by
  unfold Ss.bt
  have i:=h
  split
  · have bi:=G4 K g0 x.hd (S:=x.S) h.w0 h.w1
    have bs:=M6 K hd g0 h.s0 h.s1
    rw[← IB s.rl p x.W x.S x.hd] at bs
    have cl:=Fb K g0
    have d60:(s.rl.beh p x.W x.S x.hd).1 / p≤60:=Int.ediv_le_of_le_mul g0 (by omega)
    generalize hpl:(max 0 ((s.rl.beh p x.W x.S x.hd).1 / p - u)).toNat=pl
    have F:=Ir (x:=x.rdy p s.rl) pl h.l
    have la:(x.rdy p s.rl).ag.length=x.ag.length+x.lo.length:=by show (dD _).length=_;rw[mI,List.length_append]
    obtain ⟨e1,e2,e3,e4,e5,e6,e7,e8⟩:=F.same
    have f1:=F.few;have f2:=F.all;have f3:=F.n0;have f4:=F.n1
    have ex:(x.rdy p s.rl).nx=x.nx:=rfl
    have elo:((x.rdy p s.rl).fill pl).1.lo.length=0:=by rw[e5];rfl
    have:=h.n0;have:=h.n1
    have z6:((x.rdy p s.rl).fill pl).1.gd=0:=e6
    have z7:((x.rdy p s.rl).fill pl).1.mk'=0:=e7
    have z8:((x.rdy p s.rl).fill pl).1.wt=0:=e8
    refine ⟨e1,⟨?_,?_,?_,?_,by omega,by omega,by omega,by omega,by omega,by omega,by omega,F.l⟩,by omega,by omega,by omega,by omega⟩
    · rw[e3];exact bi.1
    · rw[e3];exact bi.2
    · rw[e4];exact bs.1
    · rw[e4];exact bs.2
  · have:=h.g1;have:=h.m1;have:=h.n1
    exact ⟨rfl,⟨h.w0,h.w1,h.s0,h.s1,h.g0,(show x.gd≤60*((n+1:Nat):Int) by omega),h.m0,(show x.mk'≤60*((n+1:Nat):Int) by omega),h.t0,h.n0,(show x.nx≤60*((n+1:Nat):Int) by omega),h.l⟩,h.g1,h.m1,by simp,by simpa using a⟩
theorem HC {ss:List Sn}{ns:List (List Int)}{x:Str×Lt}(h:x∈lF ss ns):∃ s∈ss,∃ n,x=(s.rd.headD (Str.ofString ""),⟨s.nm,n,0,0,0⟩):=by
  rw[jP] at h
  obtain ⟨t,_,h⟩:=List.mem_flatMap.mp h
  obtain ⟨y,hy,e⟩:=List.mem_filterMap.mp h
  unfold cG at e
  cases q:y.2[t]? with
  | none=>rw[q] at e;cases e
  | some n=>
    rw[q] at e
    cases e
    exact ⟨y.1,(List.of_mem_zip hy).1,n,rfl⟩
theorem wQ (n:Str)(t:Nat):∀ zs:List (Sn×List Int),(own n ((zs.filterMap (cG t)).map (·.2))).length≤(zs.map fun y=>if n=y.1.nm then 1 else 0).sum
  | []=>by simp[own]
  | y::r=>by
    have ih:=wQ n t r
    simp only[List.map_cons,List.sum_cons]
    cases e:cG t y with
    | none=>rw[List.filterMap_cons_none e];omega
    | some z=>
      rw[List.filterMap_cons_some e,List.map_cons]
      have ez:z.2.nm=y.1.nm:=by
        unfold cG at e
        cases q:y.2[t]? with
        | none=>rw[q] at e;cases e
        | some k=>rw[q] at e;cases e;rfl
      unfold own at *
      by_cases h:n=y.1.nm
      · rw[if_pos h]
        rw[List.filter_cons]
        split
        · rw[List.length_cons];omega
        · omega
      · rw[if_neg h,List.filter_cons_of_neg (by rw[ez];simp;exact fun z=>h z.symm)];omega
theorem r6 (n:Str)(t L:Nat)(hL:L≤t):∀ zs:List (Sn×List Int),(∀ y∈zs,y.1.nm=n→y.2.length≤L)→(own n ((zs.filterMap (cG t)).map (·.2))).length=0
  | [],_=>rfl
  | y::r,h=>by
    have ih:=r6 n t L hL r fun y hy=>h y (List.mem_cons_of_mem _ hy)
    cases e:cG t y with
    | none=>rw[List.filterMap_cons_none e];exact ih
    | some z=>
      rw[List.filterMap_cons_some e,List.map_cons]
      unfold cG at e
      cases q:y.2[t]? with
      | none=>rw[q] at e;cases e
      | some k=>
        rw[q] at e;cases e
        have hlt:=(List.getElem?_eq_some_iff.mp q).1
        have ne:¬ y.1.nm=n:=fun z=>by have:=h y List.mem_cons_self z;omega
        unfold own at *
        rw[List.filter_cons_of_neg (by simpa using ne)]
        exact ih
theorem lB {α:Type}(n:Str)(f:α→List Lt):∀ xs:List α,(own n (xs.flatMap f)).length=(xs.map fun x=>(own n (f x)).length).sum
  | []=>rfl
  | x::r=>by rw[List.flatMap_cons,oF,lB n f r];rfl
theorem LC (L:Nat):∀ M:Nat,((List.range M).map fun t=>if t < L then 1 else 0).sum≤L
  | 0=>by simp
  | M+1=>by
    have key:∀ M:Nat,((List.range M).map fun t=>if t < L then 1 else 0).sum=min M L:=by
      intro M
      induction M with
      | zero=>simp
      | succ M ih=>
        rw[List.range_succ,List.map_append,List.sum_append,ih]
        simp only[List.map_cons,List.map_nil,List.sum_cons,List.sum_nil]
        split<;>omega
    rw[key];omega
theorem oE {α β:Type}:∀ (xs:List α) (ys:List β),((List.zip xs ys).map (·.1)) <+: xs
  | [],_=>by simp
  | x::r,[]=>by simp
  | x::r,y::s=>by simpa using oE r s
theorem Ft {ss:List Sn}{ns:List (List Int)}(nd:(ss.map Sn.nm).Nodup)(n:Str)(L:Nat)(h:∀ y∈List.zip ss ns,y.1.nm=n→y.2.length≤L):(own n ((lF ss ns).map (·.2))).length≤L:=by
  rw[jP,List.map_flatMap,lB]
  refine Nat.le_trans (o6 (g:=fun t=>if t < L then 1 else 0) fun t _=>?_) (LC L _)
  split
  · refine Nat.le_trans (wQ n t _) ?_
    have e:((List.zip ss ns).map fun y=>if n=y.1.nm then 1 else 0)=((List.zip ss ns).map (·.1.nm)).map fun k=>if n=k then 1 else 0:=by rw[List.map_map];rfl
    rw[e]
    refine ml n ?_
    have e2:(List.zip ss ns).map (·.1.nm)=((List.zip ss ns).map (·.1)).map Sn.nm:=by rw[List.map_map];rfl
    rw[e2]
    exact nd.sublist (((oE ss ns).sublist).map Sn.nm)
  · rw[r6 n t L (by omega) _ h];exact Nat.le_refl 0
def St'.jS (x:St')(n:Str):Nat:=(x.ws.map fun w=>(own n (w.cm++w.st)).length).sum
theorem Qw (x:St')(n:Str):x.und n=(x.jS n:Int):=by
  unfold St'.und St'.jS
  induction x.ws with
  | nil=>rfl
  | cons a l ih=>simp only[List.map_cons,List.sum_cons,ih];omega
structure c6 (p:Pn) (m:Int) (n:Nat) (st:St'):Prop where
  K:p.Ok m
  lw:st.ws.length=p.ws.length
  nm:st.ss.map Ss.nm=p.sn
  lt:∀ w∈st.ws,∀ l∈w.cm++w.st,l.In p.sn
  ss:∀ y∈List.zip p.ss st.ss,SsI p.g y.1.rl n y.2
  cn:∀ x∈st.ss,(st.jS x.nm:Int)+(x.ag.length:Int)+(x.lo.length:Int)≤60
theorem C8 {ns:List Str}(h:ns.Pairwise fun a b=>ltS a b=true):ns.Nodup:=h.imp fun {a b} h e=>by
  subst e
  have:¬ a.cps.toList < a.cps.toList:=List.lt_irrefl _
  simp[ltS,this] at h
theorem qC {α β:Type}{f:α→List β}{k:Nat}{l:List α}(h:∀ x∈l,(f x).length≤k):(l.flatMap f).length≤l.length*k:=by
  rw[List.length_flatMap];exact j6 h
theorem mh {α β:Type}{f:α→β}{a b:α}:∀ {l:List α},(l.map f).Nodup→a∈l→b∈l→f a=f b→a=b
  | x::r,h,ha,hb,e=>by
    have h':=List.nodup_cons.mp h
    rcases List.mem_cons.mp ha with ea | ha
    · rcases List.mem_cons.mp hb with eb | hb
      · rw[ea,eb]
      · exact absurd (List.mem_map.mpr ⟨b,hb,by rw[← e,ea]⟩:f x∈r.map f) h'.1
    · rcases List.mem_cons.mp hb with eb | hb
      · exact absurd (List.mem_map.mpr ⟨a,ha,by rw[e,eb]⟩:f x∈r.map f) h'.1
      · exact mh h'.2 ha hb e
section
variable {p:Pn} {m:Int} {n:Nat} {st:St'} (I:c6 p m n st)
include I
theorem c6.sd:p.sn.Nodup:=C8 I.K.sd
theorem c6.ls:st.ss.length=p.ss.length:=by have:=congrArg List.length I.nm;simpa using this
theorem c6.znm {y:Sn×Ss}(h:y∈List.zip p.ss st.ss):y.2.nm=y.1.nm:=by
  obtain ⟨i,hi,e⟩:=List.getElem_of_mem h
  have h1:i < p.ss.length:=by simp at hi;omega
  have h2:i < st.ss.length:=by simp at hi;omega
  have e1:=congrArg (fun l=>l[i]?) I.nm
  simp[h1,h2] at e1
  rw[← e]
  simpa using e1
theorem c6.snm {a:Str}(h:a∈p.sn):∃ x∈st.ss,x.nm=a:=by rw[← I.nm] at h;obtain ⟨x,hx,e⟩:=List.mem_map.mp h;exact ⟨x,hx,e⟩
theorem c6.PQ {a:Str}(h:a∈p.sn):st.jS a≤60:=by
  obtain ⟨x,hx,rfl⟩:=I.snm h
  have:=I.cn x hx;omega
theorem c6.snl:p.sn.length≤8:=by unfold Pn.sn;rw[List.length_map];exact I.K.s1
theorem c6.NK {w:Ws}(h:w∈st.ws):w.cm.length+w.st.length≤480:=by
  have h1:=Al p.sn (w.cm++w.st) fun l hl=>(I.lt w h l hl).1
  have h2:(p.sn.map fun a=>(own a (w.cm++w.st)).length).sum≤p.sn.length*60:=j6 fun a ha=>by
    have:=I.PQ ha
    have:=kU (f:=fun w:Ws=>(own a (w.cm++w.st)).length) h
    unfold St'.jS at *;omega
  have:=I.snl
  rw[List.length_append] at h1;omega
theorem c6.sok {a:Str}(h:a∈p.sn):PyData.strOk a=true:=by
  obtain ⟨s,hs,rfl⟩:=List.mem_map.mp h
  exact (I.K.s s hs).n
theorem c6.xok (hn:n≤10000){y:Sn×Ss}(h:y∈List.zip p.ss st.ss):y.2.Ok p.g y.1.rl:=by
  have hx:=(List.of_mem_zip h).2
  have c:=I.cn _ hx
  refine (I.ss y h).ok hn (I.sok ?_) (by omega)
  rw[I.znm h];exact List.mem_map.mpr ⟨_,(List.of_mem_zip h).1,rfl⟩
theorem c6.bt (hn:n≤10000){y:Sn×Ss}(h:y∈List.zip p.ss st.ss):AX p.g y.1.rl n (st.jS y.2.nm) y.2 (y.2.bt p.g y.1 (st.und y.2.nm)):=by
  have hx:=(List.of_mem_zip h).2
  have hs:=(List.of_mem_zip h).1
  have c:=I.cn _ hx
  rw[Qw]
  exact RC (I.K.s _ hs).k (by have:=I.K.g.1;omega) (I.ss y h) (I.xok hn h).h (by omega) c
theorem c6.Sy (hn:n≤10000){b:Ss×List Int}(h:b∈p.bA st):∃ y∈List.zip p.ss st.ss,b=y.2.bt p.g y.1 (st.und y.2.nm)∧AX p.g y.1.rl n (st.jS y.2.nm) y.2 b:=by
  unfold Pn.bA at h
  rw[br] at h
  obtain ⟨y,hy,rfl⟩:=List.mem_map.mp h
  exact ⟨y,hy,rfl,I.bt hn hy⟩
theorem c6.nb (hn:n≤10000){b:Ss×List Int}(h:b∈p.bA st):b.2.length≤60:=by obtain ⟨y,_,_,B⟩:=I.Sy hn h;exact B.few
theorem c6.zb {y:Sn×(Ss×List Int)}(h:y∈List.zip p.ss (p.bA st)):∃ x,(y.1,x)∈List.zip p.ss st.ss∧y.2=x.bt p.g y.1 (st.und x.nm):=by
  obtain ⟨i,hi,e⟩:=List.getElem_of_mem h
  have h1:i < p.ss.length:=by simp at hi;omega
  have h2:i < st.ss.length:=by have:=I.ls;omega
  refine ⟨st.ss[i],?_,?_⟩
  · have:i < (List.zip p.ss st.ss).length:=by simp;omega
    have hm:=List.getElem_mem this
    rw[List.getElem_zip] at hm
    rw[← e];simpa using hm
  · rw[← e]
    simp[Pn.bA]
theorem c6.zs {y:Sn×List Int}(h:y∈List.zip p.ss ((p.bA st).map (·.2))):∃ b,(y.1,b)∈List.zip p.ss (p.bA st)∧y.2=b.2:=by
  rw[List.zip_map_right] at h
  obtain ⟨z,hz,rfl⟩:=List.mem_map.mp h
  exact ⟨z.2,hz,rfl⟩
theorem c6.LV (hn:n≤10000){x:Ss}{s:Sn}(h:(s,x)∈List.zip p.ss st.ss):(own s.nm ((p.aN st).map (·.2))).length≤(x.bt p.g s (st.und x.nm)).2.length:=by
  refine Ft I.sd s.nm _ fun y hy e=>?_
  obtain ⟨b,hb,e2⟩:=I.zs hy
  obtain ⟨x',hx',e3⟩:=I.zb hb
  have e3':b=x'.bt p.g y.1 (st.und x'.nm):=e3
  have es:y.1=s:=mh (f:=Sn.nm) I.sd (List.of_mem_zip hx').1 (List.of_mem_zip h).1 e
  have ex:x'=x:=by
    refine mh (f:=Ss.nm) (by rw[I.nm];exact I.sd) (List.of_mem_zip hx').2 (List.of_mem_zip h).2 ?_
    have n1:x'.nm=y.1.nm:=I.znm hx'
    have n2:x.nm=s.nm:=I.znm h
    rw[n1,n2];exact e
  rw[e2,e3',es,ex]
  exact Nat.le_refl _
theorem c6.Rj {s:Sn}(h:s∈p.ss):∃ x,(s,x)∈List.zip p.ss st.ss:=by
  obtain ⟨i,hi,e⟩:=List.getElem_of_mem h
  have h2:i < st.ss.length:=by have:=I.ls;omega
  have:i < (List.zip p.ss st.ss).length:=by simp;omega
  have hm:=List.getElem_mem this
  rw[List.getElem_zip] at hm
  exact ⟨_,by rw[← e];exact hm⟩
theorem c6.tU {x:Str×Lt}(h:x∈p.aN st):x.2.In p.sn∧PyData.strOk x.1=true:=by
  obtain ⟨s,hs,k,rfl⟩:=HC h
  have hk:=I.K.s s hs
  refine ⟨⟨List.mem_map.mpr ⟨s,hs,rfl⟩,Int.le_refl 0,Int.le_refl 0,(show (0:Int)≤1 by decide)⟩,?_⟩
  cases e:s.rd with
  | nil=>exact absurd e hk.r0
  | cons a r=>
    have:a∈p.wn:=hk.r.subset (by rw[e];simp)
    obtain ⟨w,hw,rfl⟩:=List.mem_map.mp this
    exact (I.K.w w hw).n
theorem c6.Md (hn:n≤10000):(p.aN st).length≤480:=by
  have h1:=Al p.sn ((p.aN st).map (·.2)) fun l hl=>by obtain ⟨x,hx,rfl⟩:=List.mem_map.mp hl;exact (I.tU hx).1.1
  have h2:(p.sn.map fun a=>(own a ((p.aN st).map (·.2))).length).sum≤p.sn.length*60:=j6 fun a ha=>by
    obtain ⟨s,hs,rfl⟩:=List.mem_map.mp ha
    obtain ⟨x,hx⟩:=I.Rj hs
    exact Nat.le_trans (I.LV hn hx) (I.bt hn hx).few
  have:=I.snl
  rw[List.length_map] at h1;omega
theorem c6.Mh {x:Wt}(h:x∈p.bD st):∃ y∈List.zip p.ws st.ws,x=pass y.1 p.sn y.2 (p.aN st):=by
  unfold Pn.bD at h
  rw[br] at h
  obtain ⟨y,hy,rfl⟩:=List.mem_map.mp h
  exact ⟨y,hy,rfl⟩
theorem c6.zK {x:Wt}(h:x∈p.bD st):(∀ l∈x.ca,l.In p.sn)∧(∀ l∈x.lo,l.In p.sn)∧(∀ l∈x.ou,l.In p.sn)∧∀ l∈x.st,l.In p.sn:=by
  obtain ⟨y,hy,rfl⟩:=I.Mh h
  exact JF (I.lt _ (List.of_mem_zip hy).2) fun x hx=>(I.tU hx).1
theorem c6.B7 (hn:n≤10000){x:Wt}(h:x∈p.bD st):x.ca.length≤960∧x.lo.length+x.ou.length+x.st.length≤1440:=by
  obtain ⟨y,hy,rfl⟩:=I.Mh h
  have h1:=I.NK (List.of_mem_zip hy).2
  have h2:=I.Md hn
  have h3:=FR y.1 p.sn y.2 (p.aN st)
  have h4:(pass y.1 p.sn y.2 (p.aN st)).ca.length≤y.2.cm.length+(p.aN st).length:=by
    show (y.2.cm++((p.aN st).filter fun x=>decide (x.1=y.1.nm)).map (·.2)).length≤_
    rw[List.length_append,List.length_map]
    have:=List.length_filter_le (fun x:Str×Lt=>decide (x.1=y.1.nm)) (p.aN st)
    omega
  omega
theorem c6.wl:(p.bD st).length≤6:=by unfold Pn.bD;rw[List.length_zipWith];have:=I.K.w1;omega
end
theorem mJ {α:Type}(a b:α→Bool)(l:List α):(l.filter a).filter b=(l.filter b).filter a:=by
  rw[List.filter_filter,List.filter_filter];congr 1;funext x;exact Bool.and_comm ..
theorem Kh (n:Str)(q:Str×Lt→Bool)(l:List (Str×Lt)):(own n ((l.filter q).map (·.2))).length=((l.filter fun x=>decide (x.2.nm=n)).filter q).length:=by
  unfold own
  rw[List.filter_map,List.length_map,← mJ]
  rfl
theorem vP (n:Str)(h:Int)(l:List Lt):(own n (l.map (·.lL h))).length=(own n l).length:=by
  rw[tZ,tZ,List.map_map];rfl
theorem de {α β γ:Type}(P:α×β→γ):∀ (xs:List α) (ys:List β),List.zip xs ((List.zip xs ys).map P)=(List.zip xs ys).map fun y=>(y.1,P y)
  | [],_=>by simp
  | x::r,[]=>by simp
  | x::r,y::s=>by simp[de P r s]
theorem lE {α β:Type}:∀ {xs:List α} {ys:List β},xs.length≤ys.length→(List.zip xs ys).map (·.1)=xs
  | [],_,_=>by simp
  | x::r,[],h=>by simp at h
  | x::r,y::s,h=>by simp[lE (xs:=r) (ys:=s) (by simpa using h)]
theorem oJ {α β:Type}:∀ {xs:List α} {ys:List β},ys.length≤xs.length→(List.zip xs ys).map (·.2)=ys
  | _,[],_=>by simp
  | [],y::s,h=>by simp at h
  | x::r,y::s,h=>by simp[oJ (xs:=r) (ys:=s) (by simpa using h)]
theorem CL (q:Lt→Bool)(n:Str)(l:List Lt):(own n (l.filter q)).length+(own n (l.filter fun x=>!q x)).length=(own n l).length:=by
  unfold own
  induction l with
  | nil=>rfl
  | cons x r ih=>by_cases h1:q x<;>by_cases h2:x.nm=n<;>simp[h1,h2] at ih ⊢ <;> omega
theorem Gs {p:Pn}{st:St'}(nd:p.wn.Nodup)(lw:st.ws.length=p.ws.length)(a:Str) :
    (p.step st).jS a+(own a (p.taken st)).length+(own a (p.a7 st)).length≤st.jS a+(own a ((p.aN st).map (·.2))).length:=by
  generalize hZ:List.zip p.ws st.ws=Z
  have z1:Z.map (·.1)=p.ws:=by rw[← hZ];exact lE (by omega)
  have z2:Z.map (·.2)=st.ws:=by rw[← hZ];exact oJ (by omega)
  let P:Wy×Ws→Wt:=fun y=>pass y.1 p.sn y.2 (p.aN st)
  have ew:p.bD st=Z.map P:=by unfold Pn.bD;rw[br,hZ]
  have el:(own a (p.a7 st)).length=(Z.map fun y=>(own a (P y).lo).length).sum:=by unfold Pn.a7;rw[lB,ew,List.map_map];rfl
  have eo:(own a (p.out st)).length=(Z.map fun y=>(own a (P y).ou).length).sum:=by unfold Pn.out;rw[lB,ew,List.map_map];rfl
  have e3:(Z.map fun y=>(own a (P y).lo).length).sum+(Z.map fun y=>(own a (P y).ou).length).sum+(Z.map fun y=>(own a (P y).st).length).sum=(Z.map fun y=>(own a (P y).ca).length).sum+(Z.map fun y=>(own a y.2.st).length).sum:=by
    rw[← aW,← aW,← aW]
    congr 1
    exact List.map_congr_left fun y _=>HV y.1 p.sn y.2 (p.aN st) a
  have e4:(Z.map fun y=>(own a (P y).ca).length).sum≤(Z.map fun y=>(own a y.2.cm).length).sum+(own a ((p.aN st).map (·.2))).length:=by
    have:(Z.map fun y=>(own a (P y).ca).length)=Z.map fun y=>(own a y.2.cm).length+(((p.aN st).filter fun x=>decide (x.2.nm=a)).filter fun x=>decide (x.1=y.1.nm)).length:=by
      refine List.map_congr_left fun y _=>?_
      show (own a (y.2.cm++((p.aN st).filter fun x=>decide (x.1=y.1.nm)).map (·.2))).length=_
      rw[oF,Kh]
    rw[this,aW]
    have h2:=split_le (f:=fun x:Str×Lt=>x.1) nd ((p.aN st).filter fun x=>decide (x.2.nm=a))
    have h3:(Z.map fun y=>(((p.aN st).filter fun x=>decide (x.2.nm=a)).filter fun x=>decide (x.1=y.1.nm)).length)=(p.wn.map fun k=>(((p.aN st).filter fun x=>decide (x.2.nm=a)).filter fun x=>decide (x.1=k)).length):=by
      unfold Pn.wn;rw[← z1,List.map_map,List.map_map];rfl
    rw[h3]
    have h4:(own a ((p.aN st).map (·.2))).length=((p.aN st).filter fun x=>decide (x.2.nm=a)).length:=by
      unfold own;rw[List.filter_map,List.length_map];rfl
    omega
  have e5:st.jS a=(Z.map fun y=>(own a y.2.cm).length).sum+(Z.map fun y=>(own a y.2.st).length).sum:=by
    unfold St'.jS
    rw[← z2,List.map_map,← aW]
    congr 1
    exact List.map_congr_left fun y _=>oF ..
  have e6:(p.step st).jS a=(Z.map fun y=>(own a ((p.out st).filter fun l=>decide (cN p.ss l=some y.1.nm))).length).sum+(Z.map fun y=>(own a (P y).st).length).sum:=by
    unfold St'.jS Pn.step
    simp only
    rw[br,ew,← hZ,de,hZ,List.map_map,List.map_map,← aW]
    congr 1
    refine List.map_congr_left fun y _=>?_
    show (own a (((p.out st).filter fun l=>decide (cN p.ss l=some y.1.nm)).map (·.lL 1)++(P y).st.map (·.lL 0))).length=_
    rw[oF,vP,vP]
  have e7:(Z.map fun y=>(own a ((p.out st).filter fun l=>decide (cN p.ss l=some y.1.nm))).length).sum≤(own a ((p.out st).filter fun l=>!decide (cN p.ss l=none))).length:=by
    have nd2:(p.wn.map some).Nodup:=List.Pairwise.map _ (fun a b (h:a≠b) (z:some a=some b)=>h (Option.some.inj z)) nd
    have h2:=split_le (f:=cN p.ss) nd2 (own a ((p.out st).filter fun l=>!decide (cN p.ss l=none)))
    rw[List.map_map] at h2
    have h3:(Z.map fun y=>(own a ((p.out st).filter fun l=>decide (cN p.ss l=some y.1.nm))).length)=p.wn.map ((fun k=>((own a ((p.out st).filter fun l=>!decide (cN p.ss l=none))).filter fun x=>decide (cN p.ss x=k)).length) ∘ some):=by
      unfold Pn.wn
      rw[← z1,List.map_map,List.map_map]
      refine List.map_congr_left fun y _=>?_
      unfold own
      simp only[Function.comp,List.filter_filter]
      congr 2
      funext x
      by_cases h1:x.nm=a<;>cases h:cN p.ss x<;>simp[h1]
    rw[h3];exact h2
  have e8:=CL (fun l=>decide (cN p.ss l=none)) a (p.out st)
  have e9:(own a (p.taken st)).length=(own a ((p.out st).filter fun l=>decide (cN p.ss l=none))).length:=rfl
  omega
theorem sf:∀ {l:List Lt},(∀ x∈l,0≤x.mr∧x.mr≤1)→0≤(l.map Lt.mr).sum∧(l.map Lt.mr).sum≤(l.length:Int)
  | [],_=>by simp
  | x::r,h=>by
    have h1:=h x List.mem_cons_self
    have h2:=sf (l:=r) fun x hx=>h x (List.mem_cons_of_mem _ hx)
    simp only[List.map_cons,List.sum_cons,List.length_cons];omega
section
variable {p:Pn} {m:Int} {n:Nat} {st:St'} (I:c6 p m n st) (hn:n≤10000)
include I
theorem c6.BI {l:Lt}(h:l∈p.out st):l.In p.sn:=by
  obtain ⟨x,hx,hl⟩:=List.mem_flatMap.mp h
  exact (I.zK hx).2.2.1 l hl
theorem c6.N5 {l:Lt}(h:l∈p.a7 st):l.In p.sn:=by
  obtain ⟨x,hx,hl⟩:=List.mem_flatMap.mp h
  exact (I.zK hx).2.1 l hl
include hn
theorem c6.cons {s:Sn}{b:Ss×List Int}(h:(s,b)∈List.zip p.ss (p.bA st)):b.1.nm=s.nm∧SsI p.g s.rl (n+1) b.1∧b.1.gd≤60*n∧b.1.mk'≤60*n∧
    ((p.step st).jS s.nm:Int)+((own s.nm (p.taken st)).length:Int)+((own s.nm (p.a7 st)).length:Int)+(b.1.ag.length:Int)+(b.1.lo.length:Int)≤60:=by
  obtain ⟨x,hx,e⟩:=I.zb h
  have e':b=x.bt p.g s (st.und x.nm):=e
  have B:AX p.g s.rl n (st.jS x.nm) x (x.bt p.g s (st.und x.nm)):=I.bt hn hx
  have nm:x.nm=s.nm:=I.znm hx
  have c:=Gs (p:=p) (st:=st) I.K.wd I.lw s.nm
  have d:(own s.nm ((p.aN st).map (·.2))).length≤(x.bt p.g s (st.und x.nm)).2.length:=I.LV hn hx
  have a:=B.all
  rw[← e'] at B d a
  rw[nm] at a
  exact ⟨B.nm.trans nm,B.i,B.g,B.m,by omega⟩
theorem c6.rd:Pr p st:=by
  have w1:=I.K.w1;have s1:=I.K.s1
  have wl:=I.wl
  have sl:=I.Md hn
  have lo:=qC (f:=Wt.lo) (k:=1440) (l:=p.bD st) fun x hx=>by have:=(I.B7 hn hx).2;omega
  have ou:=qC (f:=Wt.ou) (k:=1440) (l:=p.bD st) fun x hx=>by have:=(I.B7 hn hx).2;omega
  refine ⟨I.K.g,I.sd,by omega,by omega,fun a ha=>I.sok ha,fun s hs=>⟨(I.K.s s hs).k,(I.K.s s hs).r0,fun a ha=>?_⟩,fun w hw=>⟨(I.K.w w hw).n,by have:=(I.K.w w hw).p0;omega⟩,fun w hw=>⟨fun l hl=>I.sok (I.lt w hw l hl).1,by have:=I.NK hw;omega⟩,
    fun y hy=>I.xok hn hy,fun b hb=>by have:=I.nb hn hb;omega,fun x hx=>⟨(I.tU hx).2,(I.tU hx).1.1⟩,by omega,fun w hw=>⟨fun l hl=>(I.lt w hw l hl).1,by have:=I.NK hw;omega⟩,fun x hx=>by have:=I.B7 hn hx;omega,
    fun l hl=>⟨(I.BI hl).1,(I.BI hl).2.1⟩,fun l hl=>(I.N5 hl).1,?_,?_,?_,fun y hy=>?_⟩
  · have:a∈p.wn:=(I.K.s s hs).r.subset ha
    obtain ⟨w,hw,rfl⟩:=List.mem_map.mp this
    exact (I.K.w w hw).n
  · show ((p.bD st).flatMap Wt.ou).length≤_;omega
  · show ((p.bD st).flatMap Wt.lo).length≤_;omega
  · unfold Pn.evs
    rw[List.length_append,List.length_map,br]
    have h2:(List.zip p.ws (p.bD st)).length≤6:=by simp;omega
    have h3:=qC (f:=fun y:Wy×Wt=>evs p.ss y.1 y.2) (k:=2400) (l:=List.zip p.ws (p.bD st)) fun y hy=>by
      have:=I.B7 hn (List.of_mem_zip hy).2
      show (y.2.ca.zipIdx.map _++y.2.ou.map _).length≤_
      rw[List.length_append,List.length_map,List.length_map,List.length_zipIdx];omega
    rw[List.flatMap_def] at h3
    omega
  · have:=(I.cons hn (s:=y.1) (b:=y.2) hy).2.2.2.2
    omega
theorem c6.next:c6 p m (n+1) (p.step st):=by
  have lwt:(p.bD st).length=p.ws.length:=by unfold Pn.bD;rw[List.length_zipWith];have:=I.lw;omega
  have lb:(p.bA st).length=p.ss.length:=by unfold Pn.bA;rw[List.length_zipWith];have:=I.ls;omega
  have es:(p.step st).ss=(List.zip p.ss (p.bA st)).map fun y=>iT y.1 y.2.1 (p.a7 st) (p.taken st):=by unfold Pn.step;simp only;rw[br]
  have key:∀ y∈List.zip p.ss (p.bA st),(iT y.1 y.2.1 (p.a7 st) (p.taken st)).nm=y.1.nm:=fun y hy=>(I.cons hn (s:=y.1) (b:=y.2) hy).1
  refine ⟨I.K,?_,?_,fun w hw l hl=>?_,fun y hy=>?_,fun x hx=>?_⟩
  · unfold Pn.step;simp only;rw[List.length_zipWith];omega
  · rw[es,List.map_map]
    have:(List.zip p.ss (p.bA st)).map (Ss.nm ∘ fun y=>iT y.1 y.2.1 (p.a7 st) (p.taken st))=(List.zip p.ss (p.bA st)).map (Sn.nm ∘ (·.1)):=List.map_congr_left fun y hy=>key y hy
    rw[this,← List.map_map,lE (by omega)]
  · unfold Pn.step at hw
    simp only at hw
    rw[br] at hw
    obtain ⟨y,hy,rfl⟩:=List.mem_map.mp hw
    rcases List.mem_append.mp hl with hl | hl
    · obtain ⟨z,hz,rfl⟩:=List.mem_map.mp (show l∈((p.out st).filter fun l=>decide (cN p.ss l=some y.1.nm)).map (·.lL 1) from hl)
      have h:=I.BI (List.mem_filter.mp hz).1
      exact ⟨h.1,(show 0≤z.hp+1 by have:=h.2.1;omega),h.2.2⟩
    · obtain ⟨z,hz,rfl⟩:=List.mem_map.mp (show l∈y.2.st.map (·.lL 0) from hl)
      have h:=(I.zK (List.of_mem_zip hy).2).2.2.2 z hz
      exact ⟨h.1,(show 0≤z.hp+0 by have:=h.2.1;omega),h.2.2⟩
  · rw[es,de] at hy
    obtain ⟨z,hz,rfl⟩:=List.mem_map.mp hy
    obtain ⟨h1,h2,h3,h4,h5⟩:=I.cons hn (s:=z.1) (b:=z.2) hz
    have mk:=sf (l:=own z.1.nm (p.taken st)) fun l hl=>by
      have:=I.BI (List.mem_filter.mp (List.mem_filter.mp hl).1).1
      exact this.2.2
    have g0:=h2.g0;have m0:=h2.m0;have t0:=h2.t0
    refine ⟨h2.w0,h2.w1,h2.s0,h2.s1,?_,?_,?_,?_,?_,h2.n0,h2.n1,h2.l⟩
    · show 0≤z.2.1.gd+((own z.1.nm (p.taken st)).length:Int) - ((own z.1.nm (p.taken st)).map Lt.mr).sum;omega
    · show z.2.1.gd+((own z.1.nm (p.taken st)).length:Int) - ((own z.1.nm (p.taken st)).map Lt.mr).sum≤60*((n+1:Nat):Int);omega
    · show 0≤z.2.1.mk'+((own z.1.nm (p.taken st)).map Lt.mr).sum;omega
    · show z.2.1.mk'+((own z.1.nm (p.taken st)).map Lt.mr).sum≤60*((n+1:Nat):Int);omega
    · show 0≤max z.2.1.wt _;omega
  · rw[es] at hx
    obtain ⟨z,hz,rfl⟩:=List.mem_map.mp hx
    obtain ⟨h1,h2,h3,h4,h5⟩:=I.cons hn (s:=z.1) (b:=z.2) hz
    rw[key z hz]
    have e:(iT z.1 z.2.1 (p.a7 st) (p.taken st)).lo.length=z.2.1.lo.length+(own z.1.nm (p.a7 st)).length:=by
      show (dD (z.2.1.lo++(own z.1.nm (p.a7 st)).map Lt.nu)).length=_
      rw[mI,List.length_append,List.length_map]
    have e2:(iT z.1 z.2.1 (p.a7 st) (p.taken st)).ag=z.2.1.ag:=rfl
    rw[e,e2];omega
end
theorem Ln {p:Pn}{m:Int}(K:p.Ok m):c6 p m 0 p.beg:=by
  have g1:=K.g.1
  have nm:∀ s:Sn,(Sn.beg p.g s).nm=s.nm:=fun s=>rfl
  have und:∀ a,p.beg.jS a=0:=fun a=>by
    unfold St'.jS Pn.beg
    simp only[List.map_map]
    have:∀ l:List Wy,(l.map fun _=>0).sum=0:=fun l=>by induction l<;>simp_all
    exact this p.ws
  refine ⟨K,by simp[Pn.beg],by unfold Pn.beg;simp only[List.map_map];rfl,fun w hw l hl=>?_,fun y hy=>?_,fun x hx=>?_⟩
  · unfold Pn.beg at hw
    obtain ⟨_,_,rfl⟩:=List.mem_map.mp hw
    cases hl
  · have hy':y∈List.zip p.ss (p.ss.map (Sn.beg p.g)):=hy
    rw[List.zip_map_right] at hy'
    obtain ⟨z,hz,rfl⟩:=List.mem_map.mp hy'
    have e:z.2=z.1:=by
      have:∀ (l:List Sn) (z:Sn×Sn),z∈List.zip l l→z.2=z.1:=by
        intro l
        induction l with
        | nil=>intro z hz;simp at hz
        | cons a l ih=>
          intro z hz
          rcases List.mem_cons.mp (by simpa using hz) with e | h
          · rw[e]
          · exact ih z h
      exact this _ z hz
    have hk:=K.s z.1 (List.of_mem_zip hz).1
    have R:=hk.k
    have q0:=R.w.q0;have s0:=R.t.q0
    show SsI p.g z.1.rl 0 (Sn.beg p.g z.2)
    rw[e]
    refine ⟨?_,?_,Int.le_refl 0,(show (0:Int)≤p.g by omega),Int.le_refl 0,Int.le_refl 0,Int.le_refl 0,Int.le_refl 0,Int.le_refl 0,Int.le_refl 0,Int.le_refl 0,fun i hi=>(hk.mm i hi).1⟩
    · show p.g≤z.1.rl.p*p.g / z.1.rl.q
      rw[Int.le_ediv_iff_mul_le q0]
      have:=Int.mul_le_mul_of_nonneg_right R.w.ge (show 0≤p.g by omega)
      rw[Int.one_mul,Int.mul_comm z.1.rl.q] at this
      exact this
    · show z.1.rl.p*p.g / z.1.rl.q≤z.1.rl.r*p.g / z.1.rl.s
      rw[Int.le_ediv_iff_mul_le s0]
      generalize hW:z.1.rl.p*p.g / z.1.rl.q=W
      have h1:W*z.1.rl.q≤z.1.rl.p*p.g:=by rw[← hW];exact Int.ediv_mul_le _ (by omega)
      have h2:=Int.mul_le_mul_of_nonneg_right h1 (show 0≤z.1.rl.s by omega)
      have h3:=Int.mul_le_mul_of_nonneg_right R.wt (show 0≤p.g by omega)
      refine Int.le_of_mul_le_mul_right (a:=z.1.rl.q) ?_ q0
      calc W*z.1.rl.s*z.1.rl.q=W*z.1.rl.q*z.1.rl.s:=by ac_rfl
        _≤z.1.rl.p*p.g*z.1.rl.s:=h2
        _=z.1.rl.p*z.1.rl.s*p.g:=by ac_rfl
        _≤z.1.rl.r*z.1.rl.q*p.g:=h3
        _=z.1.rl.r*p.g*z.1.rl.q:=by ac_rfl
  · have hx':x∈p.ss.map (Sn.beg p.g):=hx
    obtain ⟨s,hs,rfl⟩:=List.mem_map.mp hx'
    rw[und]
    show ((0:Nat):Int)+((0:Nat):Int)+((0:Nat):Int)≤60
    decide
def spD (is:List Nat):List (L2.Key×D):=is.map fun i:Nat=>(.inl (i:Int),.bl true)
def RZ (cs:List Int)(t l u:Int)(c:Addr):List (L2.Key×D):=[(.inr (Str.ofString "cells"),.ls (cs.map .int)),(.inr (Str.ofString "turn"),.int t),(.inr (Str.ofString "left"),.int l),(.inr (Str.ofString "used"),.int u),(.inr (Str.ofString "spent"),.obj c)]
structure Pq (μ:Mu) (b c:Addr) (n:Nat):Prop where
  ne:b≠c
  ex:∃ (cs:List Int) (t l u:Int) (is:List Nat),μ b=some (.dct (RZ cs t l u c))∧μ c=some (.dct (spD is))∧(0≤t∧t≤n)∧is.Nodup∧(∀ i∈is,i < cs.length)∧cs.length≤63
structure zf (b c:Addr) (n:Nat) (μ μ':Mu):Prop where
  p:Pq μ' b c n
  o:∀ a,a≠b→a≠c→μ' a=μ a
theorem Pq.mono {μ:Mu}{b c:Addr}{n m:Nat}(h:Pq μ b c n)(k:n≤m):Pq μ b c m:=by
  obtain ⟨ne,cs,t,l,u,is,e1,e2,⟨t0,t1⟩,r⟩:=h
  exact ⟨ne,cs,t,l,u,is,e1,e2,⟨t0,by omega⟩,r⟩
theorem zf.mono {μ μ':Mu}{b c:Addr}{n m:Nat}(h:zf b c n μ μ')(k:n≤m):zf b c m μ μ':=⟨h.p.mono k,h.o⟩
theorem zf.trans {b c:Addr}{μ μ1 μ2:Mu}{n m:Nat}(h:zf b c n μ μ1)(k:zf b c m μ1 μ2):zf b c m μ μ2:=⟨k.p,fun a h1 h2=>(k.o a h1 h2).trans (h.o a h1 h2)⟩
theorem Pq.nb {μ:Mu}{b c a:Addr}{n:Nat}(h:Pq μ b c n)(e:μ a=none):a≠b∧a≠c:=by
  obtain ⟨_,cs,t,l,u,is,e1,e2,_⟩:=h
  exact ⟨(fun z=>by subst z;rw[e1] at e;cases e),(fun z=>by subst z;rw[e2] at e;cases e)⟩
theorem Pq.up {μ:Mu}{b c a:Addr}{o:MO}{n:Nat}(h:Pq μ b c n)(k:a≠b∧a≠c):Pq (up μ a o) b c n:=by
  obtain ⟨ne,cs,t,l,u,is,e1,e2,r⟩:=h
  exact ⟨ne,cs,t,l,u,is,by rw[aU k.1.symm];exact e1,by rw[aU k.2.symm];exact e2,r⟩
section
variable (cs:List Int) (t l u x:Int) (c:Addr)
end
section
variable {G:GTr} {tt:TTr} {te:ETr} {ρc:ST} {ds:List D} {μ:Mu} {Q:DK} {b c:Addr} {n m:Nat}
end
def nxF (ss:List Ss)(n:Str):Int:=((ss.find? fun x=>decide (x.nm=n)).map Ss.nx).getD 0
def Lt.lw (f:Str→Int)(l:Lt):Lt:=⟨l.nm,l.nu - f l.nm,l.ag,l.hp,l.mr⟩
def Ws.lw (f:Str→Int)(w:Ws):Ws:=⟨w.cm.map (Lt.lw f),w.st.map (Lt.lw f),w.la⟩
def Ss.lk (x:Ss):Ss:=⟨x.nm,x.du,x.W,x.S,0,x.lf,x.ag.map (· - x.nx),x.lo.map (· - x.nx),x.gd,x.mk',x.wt⟩
def St'.lk (st:St'):St':=⟨st.ws.map (Ws.lw (nxF st.ss)),st.ss.map Ss.lk⟩
def Lt.mv (f:Str→Int)(l:Lt):Lt:=⟨l.nm,l.nu+f l.nm,l.ag,l.hp,l.mr⟩
def Ws.mv (f:Str→Int)(w:Ws):Ws:=⟨w.cm.map (Lt.mv f),w.st.map (Lt.mv f),w.la⟩
def Ss.mv (f:Str→Int)(x:Ss):Ss:=⟨x.nm,x.du,x.W,x.S,x.nx+f x.nm,x.lf,x.ag.map (· + f x.nm),x.lo.map (· + f x.nm),x.gd,x.mk',x.wt⟩
def St'.mv (f:Str→Int)(st:St'):St':=⟨st.ws.map (Ws.mv f),st.ss.map (Ss.mv f)⟩
structure StL (st:St'):Prop where
  nd:(st.ss.map Ss.nm).Nodup
  sn:∀ x∈st.ss,PyData.strOk x.nm=true
  lt:∀ w∈st.ws,∀ l∈w.cm++w.st,l.nm∈st.ss.map Ss.nm
  la:∀ w∈st.ws,PyData.strOk w.la=true
  z1:st.ws.length≤100∧st.ss.length≤100
  z2:∀ w∈st.ws,w.cm.length≤10000∧w.st.length≤10000
  z3:∀ x∈st.ss,x.ag.length≤10000∧x.lo.length≤10000
theorem Mo (ss:List Ss):(ss.map Ss.lk).map Ss.nm=ss.map Ss.nm:=by rw[List.map_map];rfl
theorem Mq (f:Str→Int)(ss:List Ss):(ss.map (Ss.mv f)).map Ss.nm=ss.map Ss.nm:=by rw[List.map_map];rfl
theorem StL.lk {st:St'}(h:StL st):StL st.lk:=by
  refine ⟨by show ((st.ss.map Ss.lk).map Ss.nm).Nodup;rw[Mo];exact h.nd,fun x hx=>?_,fun w hw l hl=>?_,fun w hw=>?_,?_,fun w hw=>?_,fun x hx=>?_⟩
  · obtain ⟨y,hy,rfl⟩:=List.mem_map.mp hx
    exact h.sn y hy
  · obtain ⟨v,hv,rfl⟩:=List.mem_map.mp hw
    show l.nm∈(st.ss.map Ss.lk).map Ss.nm
    rw[Mo]
    have hl:l∈v.cm.map (Lt.lw (nxF st.ss))++v.st.map (Lt.lw (nxF st.ss)):=hl
    rw[← List.map_append] at hl
    obtain ⟨k,hk,rfl⟩:=List.mem_map.mp hl
    exact h.lt v hv k hk
  · obtain ⟨v,hv,rfl⟩:=List.mem_map.mp hw
    exact h.la v hv
  · show (st.ws.map (Ws.lw (nxF st.ss))).length≤100∧(st.ss.map Ss.lk).length≤100
    rw[List.length_map,List.length_map];exact h.z1
  · obtain ⟨v,hv,rfl⟩:=List.mem_map.mp hw
    show (v.cm.map _).length≤_∧(v.st.map _).length≤_
    rw[List.length_map,List.length_map];exact h.z2 v hv
  · obtain ⟨y,hy,rfl⟩:=List.mem_map.mp hx
    show (y.ag.map _).length≤_∧(y.lo.map _).length≤_
    rw[List.length_map,List.length_map];exact h.z3 y hy
theorem StL.mv {st:St'}(f:Str→Int)(h:StL st):StL (st.mv f):=by
  refine ⟨by show ((st.ss.map (Ss.mv f)).map Ss.nm).Nodup;rw[Mq];exact h.nd,fun x hx=>?_,fun w hw l hl=>?_,fun w hw=>?_,?_,fun w hw=>?_,fun x hx=>?_⟩
  · obtain ⟨y,hy,rfl⟩:=List.mem_map.mp hx
    exact h.sn y hy
  · obtain ⟨v,hv,rfl⟩:=List.mem_map.mp hw
    show l.nm∈(st.ss.map (Ss.mv f)).map Ss.nm
    rw[Mq]
    have hl:l∈v.cm.map (Lt.mv f)++v.st.map (Lt.mv f):=hl
    rw[← List.map_append] at hl
    obtain ⟨k,hk,rfl⟩:=List.mem_map.mp hl
    exact h.lt v hv k hk
  · obtain ⟨v,hv,rfl⟩:=List.mem_map.mp hw
    exact h.la v hv
  · show (st.ws.map (Ws.mv f)).length≤100∧(st.ss.map (Ss.mv f)).length≤100
    rw[List.length_map,List.length_map];exact h.z1
  · obtain ⟨v,hv,rfl⟩:=List.mem_map.mp hw
    show (v.cm.map _).length≤_∧(v.st.map _).length≤_
    rw[List.length_map,List.length_map];exact h.z2 v hv
  · obtain ⟨y,hy,rfl⟩:=List.mem_map.mp hx
    show (y.ag.map _).length≤_∧(y.lo.map _).length≤_
    rw[List.length_map,List.length_map];exact h.z3 y hy
def Pn.run (p:Pn):Nat→St'
  | 0=>p.beg
  | n+1=>p.step (p.run n)
def Pn.rows (p:Pn)(n:Nat):List D:=(List.range n).map fun i=>.ls (evD (p.evs (p.run i)))
theorem Pn.ff {p:Pn}{m:Int}(K:p.Ok m):∀ n:Nat,n≤10000→c6 p m n (p.run n)
  | 0,_=>Ln K
  | n+1,h=>(p.ff K n (by omega)).next (by omega)
def Wt.mv (f:Str→Int)(x:Wt):Wt:=⟨x.ca.map (Lt.mv f),x.lo.map (Lt.mv f),x.ou.map (Lt.mv f),x.st.map (Lt.mv f),x.la⟩
abbrev Ev.mv (f:Str→Int)(x:Ev):Ev:=⟨x.wd,x.nm,x.nu+f x.nm,x.wy⟩
theorem Ss.Ok.mv {g:Int}{R:RN}{x:Ss}(f:Str→Int)(h:x.Ok g R)(a:-4000000000000000000≤x.nx+f x.nm∧x.nx+f x.nm≤4000000000000000000):(x.mv f).Ok g R:=by
  have e:(x.mv f).hd=x.hd:=by unfold Ss.hd Ss.mv;simp
  exact ⟨h.n,h.w0,h.w1,h.s0,h.s1,by rw[e];exact h.h,a.1,a.2,by unfold Ss.mv;simp only[List.length_map];exact h.a,h.l⟩
theorem qV:∀ s∈[Str.ofString "sent", Str.ofString "in", Str.ofString "lost", Str.ofString "taken", Str.ofString "out"],PyData.strOk s=true:=by decide +kernel
theorem LX {p:Pn}{st:St'}(R:Pr p st):∀ e∈p.evs st,PyData.strOk e.wd=true∧e.nm∈p.sn∧PyData.strOk e.wy=true:=by
  intro e he
  unfold Pn.evs at he
  rcases List.mem_append.mp he with h | h
  · obtain ⟨x,hx,rfl⟩:=List.mem_map.mp h
    have:=R.se x hx
    exact ⟨qV _ (by simp),this.2,this.1⟩
  · rw[br] at h
    obtain ⟨l,hl,he'⟩:=List.mem_flatten.mp h
    obtain ⟨⟨w,x⟩,hy,rfl⟩:=List.mem_map.mp hl
    have hw:=(R.wy w (List.of_mem_zip hy).1).1
    have hx:=(List.of_mem_zip hy).2
    rcases List.mem_append.mp he' with h | h
    · obtain ⟨z,hz,rfl⟩:=List.mem_map.mp h
      have hz1:z.1∈x.ca:=List.fst_mem_of_mem_zipIdx hz
      refine ⟨qV _ (by split<;>simp),?_,hw⟩
      unfold Pn.bD at hx
      rw[br] at hx
      obtain ⟨⟨w',k⟩,hk,rfl⟩:=List.mem_map.mp hx
      rcases List.mem_append.mp (show z.1∈k.cm++((p.aN st).filter fun x=>decide (x.1=w'.nm)).map (·.2) from hz1) with h | h
      · exact (R.wz k (List.of_mem_zip hk).2).1 _ (List.mem_append_left _ h)
      · obtain ⟨s,hs,e⟩:=List.mem_map.mp h
        rw[← e]
        exact (R.se s (List.mem_filter.mp hs).1).2
    · obtain ⟨l,hl,rfl⟩:=List.mem_map.mp h
      exact ⟨qV _ (by split<;>simp),(R.ou l (List.mem_flatMap.mpr ⟨x,hx,hl⟩)).1,hw⟩
theorem c6.nx {p:Pn}{m:Int}{n:Nat}{st:St'}(I:c6 p m n st):∀ x∈st.ss,0≤x.nx∧x.nx≤60*n:=by
  intro x hx
  obtain ⟨i,hi,e⟩:=List.getElem_of_mem hx
  have h1:i < p.ss.length:=by rw[← I.ls];exact hi
  have:(p.ss[i],st.ss[i])∈List.zip p.ss st.ss:=by
    rw[← List.getElem_zip (h:=by simp;omega)];exact List.getElem_mem ..
  have h:=I.ss _ this
  rw[← e]
  exact ⟨h.n0,h.n1⟩
abbrev Lt.key (l:Lt):Str×Int:=(l.nm,l.nu)
def cK (k:Str×Int)(ls:List Lt):Nat:=(ls.map Lt.key).count k
theorem iR (k:Str×Int)(a b:List Lt):cK k (a++b)=cK k a+cK k b:=by unfold cK;rw[List.map_append,List.count_append]
theorem ow {α:Type}(k:Str×Int)(f:α→List Lt):∀ xs:List α,cK k (xs.flatMap f)=(xs.map fun x=>cK k (f x)).sum
  | []=>rfl
  | x::r=>by rw[List.flatMap_cons,iR,ow k f r];rfl
theorem BS (k:Str×Int)(h:Int)(l:List Lt):cK k (l.map (·.lL h))=cK k l:=by unfold cK;rw[List.map_map];rfl
theorem Ef (k:Str×Int)(q:Lt→Bool):∀ l:List Lt,cK k (l.filter q)+cK k (l.filter fun x=>!q x)=cK k l
  | []=>rfl
  | x::r=>by
    have ih:=Ef k q r
    unfold cK at *
    by_cases h1:q x<;>simp[h1,List.count_cons] at ih ⊢ <;> omega
theorem KH {k:Str×Int}{a b:List Lt}(h:a.Perm b):cK k a=cK k b:=(h.map Lt.key).count_eq k
theorem Lj (w:Wy)(x:Lt)(n:Nat):(kA w x n).key=x.key:=by
  unfold kA
  split
  · rfl
  · split<;>rfl
theorem y6 (w:Wy)(k:Str×Int):∀ (ys a b:List Lt),cK k (ys.foldl (cO w) (a,b)).1+cK k (ys.foldl (cO w) (a,b)).2=cK k a+cK k b+cK k ys
  | [],a,b=>rfl
  | y::r,a,b=>by
    have e:cK k (y::r)=cK k [y]+cK k r:=iR k [y] r
    rw[List.foldl_cons,e]
    by_cases h:w.rm≤(a.length:Int)
    · rw[jZ h,y6 w k r a (b++[y]),iR];omega
    · rw[tf h,y6 w k r _ b,iR]
      have:cK k [kA w y a.length]=cK k [y]:=by unfold cK;rw[List.map_cons,List.map_cons,Lj]
      omega
theorem vN (w:Wy)(ns:List Str)(s:Ws)(se:List (Str×Lt))(k:Str×Int):cK k (pass w ns s se).lo+cK k (pass w ns s se).ou+cK k (pass w ns s se).st=cK k (pass w ns s se).ca+cK k s.st:=by
  have h1:=y6 w k (pass w ns s se).ca s.st []
  have h2:=KH (k:=k) (gJ w ns (tk w s.st (pass w ns s se).ca).1 s.la)
  rw[iR] at h2
  have e1:(pass w ns s se).lo=(tk w s.st (pass w ns s se).ca).2:=rfl
  have e2:(pass w ns s se).ou=(eQ w ns (tk w s.st (pass w ns s se).ca).1 s.la).1:=rfl
  have e3:(pass w ns s se).st=(eQ w ns (tk w s.st (pass w ns s se).ca).1 s.la).2.1:=rfl
  rw[e1,e2,e3]
  unfold tk at *
  have:cK k []=0:=rfl
  omega
def St'.fly (st:St')(k:Str×Int):Nat:=(st.ws.map fun w=>cK k (w.cm++w.st)).sum
theorem Kb (k:Str×Int){κ:Type} [DecidableEq κ] (f:Lt→κ){ks:List κ}(nd:ks.Nodup)(ls:List Lt):(ks.map fun j=>cK k (ls.filter fun l=>decide (f l=j))).sum≤cK k ls:=by
  have e:∀ xs:List Lt,cK k xs=(xs.filter fun l=>decide (l.key=k)).length:=fun xs=>by
    unfold cK
    induction xs with
    | nil=>rfl
    | cons a r ih=>by_cases h:a.key=k<;>simp[List.count_cons,h,ih]
  have h:=split_le f nd (ls.filter fun l=>decide (l.key=k))
  rw[e ls]
  refine Nat.le_trans (Nat.le_of_eq ?_) h
  congr 1
  refine List.map_congr_left fun j _=>?_
  rw[e,mJ]
def Wt.tot (x:Wt)(k:Str×Int):Nat:=cK k x.lo+cK k x.ou+cK k x.st
theorem pG {p:Pn}{st:St'}(nd:p.wn.Nodup)(lw:st.ws.length=p.ws.length)(k:Str×Int):((p.bD st).map fun x=>x.tot k).sum≤st.fly k+cK k ((p.aN st).map (·.2)):=by
  generalize hZ:List.zip p.ws st.ws=Z
  have z1:Z.map (·.1)=p.ws:=by rw[← hZ];exact lE (by omega)
  have z2:Z.map (·.2)=st.ws:=by rw[← hZ];exact oJ (by omega)
  let P:Wy×Ws→Wt:=fun y=>pass y.1 p.sn y.2 (p.aN st)
  have ew:p.bD st=Z.map P:=by unfold Pn.bD;rw[br,hZ]
  have e3:(Z.map fun y=>cK k (P y).lo).sum+(Z.map fun y=>cK k (P y).ou).sum+(Z.map fun y=>cK k (P y).st).sum=(Z.map fun y=>cK k (P y).ca).sum+(Z.map fun y=>cK k y.2.st).sum:=by
    rw[← aW,← aW,← aW]
    congr 1
    exact List.map_congr_left fun y _=>vN y.1 p.sn y.2 (p.aN st) k
  have e4:(Z.map fun y=>cK k (P y).ca).sum≤(Z.map fun y=>cK k y.2.cm).sum+cK k ((p.aN st).map (·.2)):=by
    have:(Z.map fun y=>cK k (P y).ca)=Z.map fun y=>cK k y.2.cm+cK k (((p.aN st).filter fun x=>decide (x.1=y.1.nm)).map (·.2)):=by
      refine List.map_congr_left fun y _=>?_
      show cK k (y.2.cm++_)=_
      rw[iR]
    rw[this,aW]
    have h2:(Z.map fun y=>cK k (((p.aN st).filter fun x=>decide (x.1=y.1.nm)).map (·.2))).sum≤cK k ((p.aN st).map (·.2)):=by
      have e:∀ xs:List (Str×Lt),cK k (xs.map (·.2))=(xs.filter fun x=>decide (x.2.key=k)).length:=fun xs=>by
        unfold cK
        induction xs with
        | nil=>rfl
        | cons a r ih=>by_cases h:a.2.key=k<;>simp[List.count_cons,h] at ih ⊢ <;> omega
      have h:=split_le (f:=fun x:Str×Lt=>x.1) nd ((p.aN st).filter fun x=>decide (x.2.key=k))
      rw[e]
      refine Nat.le_trans (Nat.le_of_eq ?_) h
      unfold Pn.wn
      rw[← z1,List.map_map,List.map_map]
      congr 1
      refine List.map_congr_left fun y _=>?_
      rw[e,mJ]
      rfl
    omega
  have e5:st.fly k=(Z.map fun y=>cK k y.2.cm).sum+(Z.map fun y=>cK k y.2.st).sum:=by
    unfold St'.fly
    rw[← z2,List.map_map,← aW]
    congr 1
    exact List.map_congr_left fun y _=>iR ..
  have e0:((p.bD st).map fun x=>x.tot k).sum=(Z.map fun y=>cK k (P y).lo).sum+(Z.map fun y=>cK k (P y).ou).sum+(Z.map fun y=>cK k (P y).st).sum:=by
    rw[ew,List.map_map,← aW,← aW]
    rfl
  omega
theorem vM {p:Pn}{st:St'}(nd:p.wn.Nodup)(lw:st.ws.length=p.ws.length)(k:Str×Int) :
    (p.step st).fly k+cK k (p.taken st)+cK k (p.a7 st)≤st.fly k+cK k ((p.aN st).map (·.2)):=by
  generalize hZ:List.zip p.ws st.ws=Z
  have z1:Z.map (·.1)=p.ws:=by rw[← hZ];exact lE (by omega)
  have z2:Z.map (·.2)=st.ws:=by rw[← hZ];exact oJ (by omega)
  let P:Wy×Ws→Wt:=fun y=>pass y.1 p.sn y.2 (p.aN st)
  have ew:p.bD st=Z.map P:=by unfold Pn.bD;rw[br,hZ]
  have el:cK k (p.a7 st)=(Z.map fun y=>cK k (P y).lo).sum:=by unfold Pn.a7;rw[ow,ew,List.map_map];rfl
  have eo:cK k (p.out st)=(Z.map fun y=>cK k (P y).ou).sum:=by unfold Pn.out;rw[ow,ew,List.map_map];rfl
  have e0:((p.bD st).map fun x=>x.tot k).sum=(Z.map fun y=>cK k (P y).lo).sum+(Z.map fun y=>cK k (P y).ou).sum+(Z.map fun y=>cK k (P y).st).sum:=by
    rw[ew,List.map_map,← aW,← aW]
    rfl
  have e1:=pG nd lw k
  have e6:(p.step st).fly k=(Z.map fun y=>cK k ((p.out st).filter fun l=>decide (cN p.ss l=some y.1.nm))).sum+(Z.map fun y=>cK k (P y).st).sum:=by
    unfold St'.fly Pn.step
    simp only
    rw[br,ew,← hZ,de,hZ,List.map_map,List.map_map,← aW]
    congr 1
    refine List.map_congr_left fun y _=>?_
    show cK k (((p.out st).filter fun l=>decide (cN p.ss l=some y.1.nm)).map (·.lL 1)++(P y).st.map (·.lL 0))=_
    rw[iR,BS,BS]
  have e7:(Z.map fun y=>cK k ((p.out st).filter fun l=>decide (cN p.ss l=some y.1.nm))).sum≤cK k ((p.out st).filter fun l=>!decide (cN p.ss l=none)):=by
    have nd2:(p.wn.map some).Nodup:=List.Pairwise.map _ (fun a b (h:a≠b) (z:some a=some b)=>h (Option.some.inj z)) nd
    have h2:=Kb k (cN p.ss) nd2 ((p.out st).filter fun l=>!decide (cN p.ss l=none))
    refine Nat.le_trans (Nat.le_of_eq ?_) h2
    unfold Pn.wn
    rw[← z1,List.map_map,List.map_map,List.map_map]
    congr 1
    refine List.map_congr_left fun y _=>?_
    show cK k _=cK k _
    rw[List.filter_filter]
    congr 2
    funext x
    cases h:cN p.ss x<;>simp[h]
  have e8:=Ef k (fun l=>decide (cN p.ss l=none)) (p.out st)
  have e9:cK k (p.taken st)=cK k ((p.out st).filter fun l=>decide (cN p.ss l=none)):=rfl
  omega
theorem xi {α β:Type}(f:α→β→Nat)(ys:List β):∀ xs:List α,(xs.map fun x=>(ys.map fun y=>f x y).sum).sum=(ys.map fun y=>(xs.map fun x=>f x y).sum).sum
  | []=>by
    have:∀ l:List β,(l.map fun _=>0).sum=0:=fun l=>by induction l<;>simp_all
    simpa using (this ys).symm
  | a::r=>by
    rw[List.map_cons];rw[List.sum_cons]
    simp only[List.map_cons,List.sum_cons,List.map_nil]
    rw[xi f ys r,← aW]
theorem wN (k:Str×Int)(t:Nat):∀ zs:List (Sn×List Int),cK k ((zs.filterMap (cG t)).map (·.2))=(zs.map fun y=>if y.1.nm=k.1∧y.2[t]? = some k.2 then 1 else 0).sum
  | []=>rfl
  | y::r=>by
    have ih:=wN k t r
    unfold cK at *
    rw[List.filterMap_cons,List.map_cons,List.sum_cons,← ih]
    unfold cG
    cases e:y.2[t]? with
    | none=>simp
    | some n=>
      simp only[Option.map_some,List.map_cons,List.count_cons]
      by_cases h:y.1.nm=k.1∧n=k.2
      · obtain ⟨k1,k2⟩:=k
        obtain ⟨rfl,rfl⟩:=h
        simp;omega
      · have:¬ ((y.1.nm,n)=k):=fun z=>h (by rw[← z];exact ⟨rfl,rfl⟩)
        have h':¬ (y.1.nm=k.1∧some n=some k.2):=fun z=>h ⟨z.1,Option.some.inj z.2⟩
        rw[if_neg h']
        simp[this]
theorem E1 (i:Int):∀ (ns:List Int) (L:Nat),((List.range L).map fun t=>if ns[t]? = some i then 1 else 0).sum≤ns.count i
  | [],L=>by
    have:∀ l:List Nat,(l.map fun _=>0).sum=0:=fun l=>by induction l<;>simp_all
    simpa using this (List.range L)
  | a::r,0=>by simp
  | a::r,L+1=>by
    have ih:=E1 i r L
    rw[List.range_succ_eq_map,List.map_cons,List.sum_cons]
    rw[List.map_map]
    have e:((List.range L).map ((fun t=>if (a::r)[t]? = some i then 1 else 0) ∘ Nat.succ))=(List.range L).map fun t=>if r[t]? = some i then 1 else 0:=List.map_congr_left fun t ht=>by simp
    rw[e,List.count_cons]
    by_cases h:a=i<;>simp[h]<;>omega
theorem BH {ss:List Sn}{ns:List (List Int)}(nd:(ss.map Sn.nm).Nodup){s:Sn}{n:List Int}(h:(s,n)∈List.zip ss ns)(i:Int):cK (s.nm,i) ((lF ss ns).map (·.2))≤n.count i:=by
  rw[jP,List.map_flatMap,ow]
  have e:((List.range (cY ns)).map fun t=>cK (s.nm,i) (((List.zip ss ns).filterMap (cG t)).map (·.2)))=(List.range (cY ns)).map fun t=>((List.zip ss ns).map fun y=>if y.1.nm=s.nm∧y.2[t]? = some i then 1 else 0).sum:=List.map_congr_left fun t ht=>wN (s.nm,i) t _
  rw[e,xi]
  have one:∀ zs:List (Sn×List Int),(zs.map fun y=>y.1.nm).Nodup→(s,n)∈zs→(zs.map fun y=>((List.range (cY ns)).map fun t=>if y.1.nm=s.nm∧y.2[t]? = some i then 1 else 0).sum).sum≤n.count i:=fun zs=>by
    have zero:∀ (y:Sn×List Int),y.1.nm≠s.nm→((List.range (cY ns)).map fun t=>if y.1.nm=s.nm∧y.2[t]? = some i then 1 else 0).sum=0:=fun y hy=>by
      have:∀ l:List Nat,(l.map fun t=>if y.1.nm=s.nm∧y.2[t]? = some i then 1 else 0).sum=0:=fun l=>by induction l<;>simp_all
      exact this _
    induction zs with
    | nil=>intro _ h;cases h
    | cons y r ih=>
      intro nd h
      rw[List.map_cons] at nd
      have ⟨n1,n2⟩:=List.nodup_cons.mp nd
      rw[List.map_cons];rw[List.sum_cons]
      rcases List.mem_cons.mp h with h | h
      · have h0:(r.map fun y=>((List.range (cY ns)).map fun t=>if y.1.nm=s.nm∧y.2[t]? = some i then 1 else 0).sum).sum=0:=by
          have:∀ l:List (Sn×List Int),(∀ y∈l,y.1.nm≠s.nm)→(l.map fun y=>((List.range (cY ns)).map fun t=>if y.1.nm=s.nm∧y.2[t]? = some i then 1 else 0).sum).sum=0:=fun l=>by
            induction l with
            | nil=>intro _;rfl
            | cons a l ih=>intro hl;rw[List.map_cons,List.sum_cons,zero a (hl a List.mem_cons_self),ih fun y hy=>hl y (List.mem_cons_of_mem _ hy)]
          refine this r fun y' hy' e=>n1 ?_
          rw[← h]
          exact List.mem_map.mpr ⟨y',hy',e⟩
        rw[h0,← h]
        have:=E1 i n (cY ns)
        simpa using this
      · have hy:y.1.nm≠s.nm:=fun e=>n1 (by rw[e];exact List.mem_map.mpr ⟨(s,n),h,rfl⟩)
        rw[zero y hy]
        have:=ih n2 h
        omega
  refine one _ ?_ h
  have:(List.zip ss ns).map (fun y=>y.1.nm)=((List.zip ss ns).map (·.1)).map Sn.nm:=by rw[List.map_map];rfl
  rw[this]
  exact nd.sublist (((oE ss ns).sublist).map Sn.nm)
theorem B9 (a i:Int)(n:Nat):(rgI a n).count i=if a≤i∧i < a+n then 1 else 0:=by
  unfold rgI
  induction n with
  | zero=>rw[if_neg (by omega)];rfl
  | succ n ih=>
    rw[List.range_succ,List.map_append,List.count_append,ih]
    show _+List.count i [a+(n:Int)]=_
    rw[List.count_singleton]
    by_cases h:a+(n:Int)=i
    · rw[if_neg (by omega),if_pos (by simpa using h),if_pos (by omega)]
    · rw[if_neg (c:=(a+(n:Int) == i)=true) (by simpa using h)]
      by_cases h2:a≤i∧i < a+(n:Int)
      · rw[if_pos h2,if_pos (by omega)]
      · rw[if_neg h2,if_neg (by omega)]
theorem l5 (i:Int)(xs:List Int):(dD xs).count i=xs.count i:=(iF xs).count_eq i
theorem Ac (g:Int)(s:Sn)(x:Ss)(u:Int)(hl:∀ i,x.lf=some i→0≤i)(i:Int):(x.bt g s u).2.count i+(x.bt g s u).1.ag.count i+(x.bt g s u).1.lo.count i=x.ag.count i+x.lo.count i+(if x.nx≤i∧i < (x.bt g s u).1.nx then 1 else 0)∧x.nx≤(x.bt g s u).1.nx:=by
  unfold Ss.bt
  split
  · generalize (max 0 ((s.rl.beh g x.W x.S x.hd).1 / g - u)).toNat=m
    unfold Ss.fill Ss.rdy
    simp only
    have tl:((dD (x.ag++x.lo)).take m).length≤m:=by simp;omega
    generalize hc:ie x.lf ((m:Int) - (((dD (x.ag++x.lo)).take m).length:Int))=c
    have c0:0≤c:=by
      rw[← hc]
      unfold ie
      cases e:x.lf with
      | none=>simp only;omega
      | some l=>have:=hl l e;simp only;omega
    have e1:=l5 i (x.ag++x.lo)
    rw[List.count_append] at e1
    have e2:((dD (x.ag++x.lo)).take m).count i+((dD (x.ag++x.lo)).drop ((dD (x.ag++x.lo)).take m).length).count i=(dD (x.ag++x.lo)).count i:=by
      rw[← List.count_append]
      congr 1
      rw[List.length_take]
      by_cases h:m≤(dD (x.ag++x.lo)).length
      · rw[Nat.min_eq_left h,List.take_append_drop]
      · rw[Nat.min_eq_right (by omega),List.take_of_length_le (by omega),List.drop_length,List.append_nil]
    rw[List.count_append,B9,Int.toNat_of_nonneg c0]
    have e3:([]:List Int).count i=0:=rfl
    refine ⟨by omega,by omega⟩
  · refine ⟨?_,Int.le_refl _⟩
    have e3:([]:List Int).count i=0:=rfl
    show ([]:List Int).count i+x.ag.count i+x.lo.count i=x.ag.count i+x.lo.count i+(if x.nx≤i∧i < x.nx then 1 else 0)
    rw[if_neg (by omega)]
    omega
def St'.One (st:St'):Prop:=∀ x∈st.ss,∀ i:Int,st.fly (x.nm,i)+x.ag.count i+x.lo.count i≤if 0≤i∧i < x.nx then 1 else 0
theorem FU {p:Pn}{m:Int}{n:Nat}{st:St'}(I:c6 p m n st)(hn:n≤10000)(O:st.One):(p.step st).One:=by
  intro x' hx' i
  unfold Pn.step at hx'
  simp only at hx'
  rw[br] at hx'
  obtain ⟨⟨s,b⟩,hb,rfl⟩:=List.mem_map.mp hx'
  obtain ⟨x,hx,eb⟩:=I.zb (y:=(s,b)) hb
  simp only at eb hx
  have nm:x.nm=s.nm:=I.znm hx
  have X:=O x (List.of_mem_zip hx).2 i
  have B:=Ac p.g s x (st.und x.nm) (I.ss _ hx).l i
  have N:=(I.cons hn hb).1
  have F:=vM (p:=p) (st:=st) I.K.wd I.lw (s.nm,i)
  have S:cK (s.nm,i) ((p.aN st).map (·.2))≤b.2.count i:=by
    unfold Pn.aN
    refine BH I.sd ?_ i
    rw[List.zip_map_right]
    exact List.mem_map.mpr ⟨(s,b),hb,rfl⟩
  rw[← eb] at B
  have n0:=(I.ss _ hx).n0
  simp only at n0
  have L:((own s.nm (p.a7 st)).map Lt.nu).count i=cK (s.nm,i) (p.a7 st):=by
    unfold cK own
    generalize p.a7 st=ls
    induction ls with
    | nil=>rfl
    | cons a r ih=>
      by_cases h:a.nm=s.nm
      · by_cases h2:a.nu=i<;>simp[h,h2,List.count_cons,ih]
      · have:¬ ((a.nm,a.nu)=(s.nm,i)):=fun z=>h (by injection z)
        simp[h,this,List.count_cons,ih]
  show (p.step st).fly (b.1.nm,i)+b.1.ag.count i+(dD (b.1.lo++(own s.nm (p.a7 st)).map Lt.nu)).count i≤if 0≤i∧i < b.1.nx then 1 else 0
  rw[N,l5,List.count_append,L]
  rw[nm] at X
  obtain ⟨B1,B2⟩:=B
  by_cases h1:0≤i∧i < x.nx
  · rw[if_pos h1] at X
    rw[if_neg (by omega)] at B1
    rw[if_pos (by omega)]
    omega
  · rw[if_neg h1] at X
    by_cases h2:x.nx≤i∧i < b.1.nx
    · rw[if_pos h2] at B1
      rw[if_pos (by omega)]
      omega
    · rw[if_neg h2] at B1
      rw[if_neg (by omega)]
      omega
theorem B5 {w:Wy}:∀ {ys a b:List Lt},w.rm≤(a.length:Int)→ys.foldl (cO w) (a,b)=(a,b++ys)
  | [],a,b,_=>by simp
  | y::r,a,b,h=>by
    rw[List.foldl_cons,jZ h,B5 h,List.append_assoc]
    rfl
theorem D8 (w:Wy):∀ ys a b:List Lt,∃ k,k≤ys.length∧(ys.foldl (cO w) (a,b)).2=b++ys.drop k
  | [],a,b=>⟨0,Nat.le_refl _,by simp⟩
  | y::r,a,b=>by
    by_cases h:w.rm≤(a.length:Int)
    · exact ⟨0,Nat.zero_le _,by rw[B5 h];rfl⟩
    · rw[List.foldl_cons,tf h]
      obtain ⟨k,hk,e⟩:=D8 w r (a++[kA w y a.length]) b
      exact ⟨k+1,by simpa using hk,e⟩
abbrev evI (w:Wy)(l:Lt):Ev:=⟨Str.ofString "in", l.nm,l.nu,w.nm⟩
abbrev evL (w:Wy)(l:Lt):Ev:=⟨Str.ofString "lost", l.nm,l.nu,w.nm⟩
theorem j5 (ss:List Sn)(w:Wy)(ns:List Str)(k:Ws)(se:List (Str×Lt)):∃ c,evs ss w (pass w ns k se)=((pass w ns k se).ca.take c).map (evI w)++(pass w ns k se).lo.map (evL w)++(pass w ns k se).ou.map (evB ss w):=by
  obtain ⟨c,hc,e⟩:=D8 w (pass w ns k se).ca k.st []
  have e':(pass w ns k se).lo=(pass w ns k se).ca.drop c:=by
    have:(pass w ns k se).lo=(tk w k.st (pass w ns k se).ca).2:=rfl
    rw[this];unfold tk;rw[e];rfl
  refine ⟨c,?_⟩
  generalize pass w ns k se=x at *
  unfold evs
  congr 1
  rw[e']
  have len:(x.ca.length:Int) - (x.ca.drop c).length=c:=by rw[List.length_drop];omega
  rw[len]
  refine List.ext_getElem (by simp;omega) fun j h1 h2=>?_
  simp only[List.length_map,List.length_zipIdx] at h1
  rw[List.getElem_map,List.getElem_zipIdx]
  simp only[Nat.zero_add]
  by_cases h:j < c
  · rw[List.getElem_append_left (by simp;omega),List.getElem_map,List.getElem_take,if_pos (by omega)]
  · rw[List.getElem_append_right (by simp;omega),List.getElem_map,List.getElem_drop,if_neg (by omega)]
    congr 1<;>(congr 1;congr 1;simp;omega)
def Ev.fin (e:Ev):Prop:=e.wd=Str.ofString "lost" ∨ e.wd=Str.ofString "taken"
abbrev Ev.key (e:Ev):Str×Int:=(e.nm,e.nu)
def Apart (a:Str)(e f:Ev):Prop:=e.nm=a→e.fin→e.key≠f.key
theorem gW {k:Str×Int}{ls:List Lt}{l:Lt}(h:l∈ls)(e:l.key=k):1≤cK k ls:=by
  unfold cK
  exact List.count_pos_iff.mpr (by rw[← e];exact List.mem_map.mpr ⟨l,h,rfl⟩)
theorem NZ {k:Str×Int}{ls:List Lt}(h:1≤cK k ls):∃ l∈ls,l.key=k:=by
  unfold cK at h
  obtain ⟨l,hl,e⟩:=List.mem_map.mp (List.count_pos_iff.mp h)
  exact ⟨l,hl,e⟩
theorem tS {a:Str}:∀ {ls:List Lt},(∀ i,cK (a,i) ls≤1)→ls.Pairwise fun x y=>x.nm=a→x.key≠y.key
  | [],_=>.nil
  | x::r,h=>by
    have e:∀ i,cK (a,i) (x::r)=cK (a,i) [x]+cK (a,i) r:=fun i=>iR (a,i) [x] r
    refine .cons (fun y hy hx hk=>?_) (tS fun i=>by have:=h i;rw[e] at this;omega)
    have h1:1≤cK (a,x.nu) [x]:=gW List.mem_cons_self (by rw[← hx])
    have h2:1≤cK (a,x.nu) r:=gW hy (by rw[← hk,← hx])
    have:=h x.nu
    rw[e] at this
    omega
theorem yE:¬ (Str.ofString "in" = Str.ofString "lost" ∨ Str.ofString "in" = Str.ofString "taken"):=by decide +kernel
theorem C3 {p:Pn}{w:Wy}{k:Ws}{se:List (Str×Lt)}{a:Str}(h:∀ i,(pass w p.sn k se).tot (a,i)≤1):(evs p.ss w (pass w p.sn k se)).Pairwise (Apart a):=by
  obtain ⟨c,e⟩:=j5 p.ss w p.sn k se
  rw[e]
  generalize pass w p.sn k se=x at *
  have hl:∀ i,cK (a,i) x.lo+cK (a,i) x.ou≤1:=fun i=>by have:=h i;unfold Wt.tot at this;omega
  refine List.pairwise_append.mpr ⟨List.pairwise_append.mpr ⟨?_,?_,?_⟩,?_,?_⟩
  · rw[List.pairwise_map]
    exact List.pairwise_of_forall fun x y _ hf=>absurd hf yE
  · rw[List.pairwise_map]
    exact (tS (a:=a) (ls:=x.lo) fun i=>by have:=hl i;omega).imp fun h n _=>h n
  · intro y hy z hz n hf
    obtain ⟨l,_,rfl⟩:=List.mem_map.mp hy
    exact absurd hf yE
  · rw[List.pairwise_map]
    exact (tS (a:=a) (ls:=x.ou) fun i=>by have:=hl i;omega).imp fun h n _=>h n
  · intro y hy z hz n hf hk
    obtain ⟨l2,h2,rfl⟩:=List.mem_map.mp hz
    rcases List.mem_append.mp hy with hy | hy
    · obtain ⟨l,_,rfl⟩:=List.mem_map.mp hy
      exact absurd hf yE
    · obtain ⟨l,h1,rfl⟩:=List.mem_map.mp hy
      have n':l.nm=a:=n
      have q1:1≤cK (a,l.nu) x.lo:=gW h1 (by rw[← n'])
      have q2:1≤cK (a,l.nu) x.ou:=gW h2 (by rw[← n'];exact hk.symm)
      have:=hl l.nu
      omega
theorem BW {p:Pn}{w:Wy}{k:Ws}{se:List (Str×Lt)}{e:Ev}(h:e∈evs p.ss w (pass w p.sn k se)):1≤(pass w p.sn k se).tot e.key:=by
  obtain ⟨c,q⟩:=j5 p.ss w p.sn k se
  rw[q] at h
  have t:=vN w p.sn k se e.key
  unfold Wt.tot
  rcases List.mem_append.mp h with (h | h)
  · rcases List.mem_append.mp h with (h | h)
    · obtain ⟨l,hl,rfl⟩:=List.mem_map.mp h
      have:=gW (k:=(evI w l).key) (List.mem_of_mem_take hl) rfl
      omega
    · obtain ⟨l,hl,rfl⟩:=List.mem_map.mp h
      have:=gW (k:=l.key) hl rfl
      show 1≤cK l.key _+_+_
      omega
  · obtain ⟨l,hl,rfl⟩:=List.mem_map.mp h
    have:=gW (k:=l.key) hl rfl
    show 1≤_+cK l.key _+_
    omega
def Pn.told (p:Pn)(st:St'):List Ev:=(List.zipWith (fun w x=>L3.evs p.ss w x) p.ws (p.bD st)).flatten
theorem qk {p:Pn}{st:St'}{a:Str}(nd:p.wn.Nodup)(lw:st.ws.length=p.ws.length)(h:∀ i,st.fly (a,i)+cK (a,i) ((p.aN st).map (·.2))≤1):(p.told st).Pairwise (Apart a)∧∀ e∈p.told st,1≤((p.bD st).map fun x=>x.tot e.key).sum:=by
  have T:∀ i,((p.bD st).map fun x=>x.tot (a,i)).sum≤1:=fun i=>Nat.le_trans (pG nd lw (a,i)) (h i)
  unfold Pn.told
  generalize hse:p.aN st=se
  have eW:p.bD st=List.zipWith (fun w k=>pass w p.sn k se) p.ws st.ws:=by unfold Pn.bD;rw[hse]
  rw[eW] at T ⊢
  generalize p.ws=ws at T ⊢
  generalize st.ws=ks at T ⊢
  induction ws generalizing ks with
  | nil=>simp
  | cons w ws ih=>
    cases ks with
    | nil=>simp
    | cons k ks=>
      simp only[List.zipWith_cons_cons,List.map_cons,List.sum_cons,List.flatten_cons] at T ⊢
      obtain ⟨i1,i2⟩:=ih ks fun i=>by have:=T i;omega
      refine ⟨List.pairwise_append.mpr ⟨C3 fun i=>by have:=T i;omega,i1,fun e he f hf n _ hk=>?_⟩,fun e he=>?_⟩
      · have h1:=BW he
        have h2:=i2 f hf
        have:=T e.nu
        rw[← hk] at h2
        have ek:e.key=(a,e.nu):=by rw[← n]
        rw[ek] at h1 h2
        omega
      · rcases List.mem_append.mp he with (he | he)
        · have:=BW he;omega
        · have:=i2 e he;omega
theorem tm {p:Pn}{st:St'}{e:Ev}:e∈p.told st↔∃ w k,(w,k)∈List.zip p.ws st.ws∧e∈evs p.ss w (pass w p.sn k (p.aN st)):=by
  unfold Pn.told Pn.bD
  constructor
  · intro h
    obtain ⟨l,hl,he⟩:=List.mem_flatten.mp h
    rw[br,br,de,List.map_map] at hl
    obtain ⟨⟨w,k⟩,hz,rfl⟩:=List.mem_map.mp hl
    exact ⟨w,k,hz,he⟩
  · rintro ⟨w,k,hz,he⟩
    refine List.mem_flatten.mpr ⟨_,?_,he⟩
    rw[br,br,de,List.map_map]
    exact List.mem_map.mpr ⟨(w,k),hz,rfl⟩
theorem A6 {p:Pn}{st:St'}{w:Wy}{k:Ws}(h:(w,k)∈List.zip p.ws st.ws):pass w p.sn k (p.aN st)∈p.bD st:=by
  unfold Pn.bD
  rw[br]
  exact List.mem_map.mpr ⟨(w,k),h,rfl⟩
theorem Qe:Str.ofString "in" ≠ Str.ofString "lost" ∧ Str.ofString "in" ≠ Str.ofString "taken" ∧ Str.ofString "out" ≠ Str.ofString "lost" ∧ Str.ofString "out" ≠ Str.ofString "taken" ∧ Str.ofString "taken" ≠ Str.ofString "lost" ∧ Str.ofString "in" ≠ Str.ofString "sent" ∧ Str.ofString "lost" ≠ Str.ofString "sent" ∧ Str.ofString "out" ≠ Str.ofString "sent" ∧ Str.ofString "taken" ≠ Str.ofString "sent" := by decide +kernel
theorem Bj {p:Pn}{st:St'}{e:Ev}(h:e∈p.told st):e.wd≠Str.ofString "sent" ∧ (e.wd=Str.ofString "lost" → 1≤cK e.key (p.a7 st))∧(e.wd=Str.ofString "taken" → 1≤cK e.key (p.taken st)):=by
  obtain ⟨w,k,hz,he⟩:=tm.mp h
  obtain ⟨c,q⟩:=j5 p.ss w p.sn k (p.aN st)
  rw[q] at he
  obtain ⟨n1,n2,n3,n4,n5,n6,n7,n8,n9⟩:=Qe
  rcases List.mem_append.mp he with (he | he)
  · rcases List.mem_append.mp he with (he | he)
    · obtain ⟨l,hl,rfl⟩:=List.mem_map.mp he
      exact ⟨n6,fun z=>absurd z n1,fun z=>absurd z n2⟩
    · obtain ⟨l,hl,rfl⟩:=List.mem_map.mp he
      exact ⟨n7,fun _=>gW (List.mem_flatMap.mpr ⟨_,A6 hz,hl⟩) rfl,fun z=>absurd z.symm n5⟩
  · obtain ⟨l,hl,rfl⟩:=List.mem_map.mp he
    have ho:l∈p.out st:=List.mem_flatMap.mpr ⟨_,A6 hz,hl⟩
    unfold evB
    by_cases hn:cN p.ss l=none
    · simp only[hn,if_true]
      exact ⟨n9,fun z=>absurd z n5,fun _=>gW (List.mem_filter.mpr ⟨ho,by simp[hn]⟩) rfl⟩
    · simp only[hn,if_false]
      exact ⟨n8,fun z=>absurd z n3,fun z=>absurd z n4⟩
theorem Dx {p:Pn}{st:St'}{k:Str×Int}(h:1≤cK k (p.a7 st)):∃ e∈p.told st,e.wd=Str.ofString "lost" ∧ e.key=k:=by
  obtain ⟨l,hl,e⟩:=NZ h
  obtain ⟨x,hx,hl⟩:=List.mem_flatMap.mp (show l∈(p.bD st).flatMap Wt.lo from hl)
  unfold Pn.bD at hx
  rw[br] at hx
  obtain ⟨⟨w,s⟩,hz,rfl⟩:=List.mem_map.mp hx
  obtain ⟨c,q⟩:=j5 p.ss w p.sn s (p.aN st)
  refine ⟨evL w l,tm.mpr ⟨w,s,hz,?_⟩,rfl,e⟩
  rw[q]
  exact List.mem_append_left _ (List.mem_append_right _ (List.mem_map.mpr ⟨l,hl,rfl⟩))
theorem uV {p:Pn}{m:Int}{n:Nat}{st:St'}(I:c6 p m n st)(hn:n≤10000)(O:st.One){s:Sn}{x:Ss}(hx:(s,x)∈List.zip p.ss st.ss)(i:Int) :
    st.fly (s.nm,i)+(x.bt p.g s (st.und x.nm)).2.count i+(x.bt p.g s (st.und x.nm)).1.ag.count i+(x.bt p.g s (st.und x.nm)).1.lo.count i≤(if 0≤i∧i < (x.bt p.g s (st.und x.nm)).1.nx then 1 else 0)∧cK (s.nm,i) ((p.aN st).map (·.2))≤(x.bt p.g s (st.und x.nm)).2.count i:=by
  have nm:x.nm=s.nm:=I.znm hx
  have X:=O x (List.of_mem_zip hx).2 i
  obtain ⟨B1,B2⟩:=Ac p.g s x (st.und x.nm) (I.ss _ hx).l i
  have n0:0≤x.nx:=(I.ss _ hx).n0
  rw[nm] at X
  have hb:(s,x.bt p.g s (st.und x.nm))∈List.zip p.ss (p.bA st):=by
    unfold Pn.bA
    rw[br,de (fun y:Sn×Ss=>y.2.bt p.g y.1 (st.und y.2.nm))]
    exact List.mem_map.mpr ⟨(s,x),hx,rfl⟩
  refine ⟨?_,?_⟩
  · generalize x.bt p.g s (st.und x.nm)=b at *
    by_cases h1:0≤i∧i < x.nx
    · rw[if_pos h1] at X
      rw[if_neg (by omega)] at B1
      rw[if_pos (by omega)]
      omega
    · rw[if_neg h1] at X
      by_cases h2:x.nx≤i∧i < b.1.nx
      · rw[if_pos h2] at B1
        rw[if_pos (by omega)]
        omega
      · rw[if_neg h2] at B1
        rw[if_neg (by omega)]
        omega
  · unfold Pn.aN
    refine BH I.sd ?_ i
    rw[List.zip_map_right]
    exact List.mem_map.mpr ⟨_,hb,rfl⟩
structure Ss.Due (s:Sn) (n:Nat) (x:Ss):Prop where
  d:∃ d:Int,x.du=some d∧0≤d∧s.bg≤n+d∧((n:Int)+d - s.bg) % s.bt=0
  m:x.lf.map (· + x.nx)=s.mn
theorem Lh (g:Int){s:Sn}(h:0≤s.bg):(Sn.beg g s).Due s 0:=by
  refine ⟨⟨s.bg,rfl,h,by omega,?_⟩,?_⟩
  · rw[show ((0:Nat):Int)+s.bg - s.bg=0 by omega];simp
  · show s.mn.map (· + 0)=s.mn
    cases s.mn<;>simp
theorem Er (g:Int)(s:Sn)(x:Ss)(u:Int):(x.bt g s u).1.du=x.du∧(x.bt g s u).1.lf.map (· + (x.bt g s u).1.nx)=x.lf.map (· + x.nx)∧((x.bt g s u).2≠[]→x.du=some 0):=by
  unfold Ss.bt
  split
  · rename_i h
    refine ⟨rfl,?_,fun _=>h⟩
    unfold Ss.fill Ss.rdy
    simp only[Option.map_map]
    congr 1
    funext i
    show i - _+(x.nx+_)=i+x.nx
    omega
  · exact ⟨rfl,rfl,fun h=>absurd rfl h⟩
theorem HL {g:Int}{s:Sn}{x:Ss}{n:Nat}(b0:1≤s.bt)(u:Int)(lo ta:List Lt)(h:x.Due s n):(iT s (x.bt g s u).1 lo ta).Due s (n+1):=by
  obtain ⟨e1,e2,_⟩:=Er g s x u
  obtain ⟨d,ed,d0,d1,d2⟩:=h.d
  refine ⟨?_,e2.trans h.m⟩
  show ∃ d,uX s (x.bt g s u).1.du=some d∧_
  rw[e1,ed]
  by_cases z:d=0
  · subst z
    refine ⟨s.bt - 1,by simp[uX],by omega,by omega,?_⟩
    rw[show ((n+1:Nat):Int)+(s.bt - 1) - s.bg=(n:Int)+0 - s.bg+s.bt by omega,Int.add_emod_right]
    exact d2
  · refine ⟨d - 1,by simp[uX,z],by omega,by omega,?_⟩
    rw[show ((n+1:Nat):Int)+(d - 1) - s.bg=(n:Int)+d - s.bg by omega]
    exact d2
theorem l8 {s:Sn}{n:List Int}(t:Nat):∀ {zs:List (Sn×List Int)},(zs.map fun y=>y.1.nm).Nodup→(s,n)∈zs→(zs.filterMap (cG t)).filter (fun x=>decide (x.2.nm=s.nm))=(cG t (s,n)).toList
  | y::r,nd,h=>by
    rw[List.map_cons] at nd
    have ⟨n1,n2⟩:=List.nodup_cons.mp nd
    have nmT:∀ (y:Sn×List Int) z,cG t y=some z→z.2.nm=y.1.nm:=fun y z e=>by
      unfold cG at e
      cases q:y.2[t]? with
      | none=>rw[q] at e;cases e
      | some j=>rw[q] at e;cases e;rfl
    have none_of:∀ zs:List (Sn×List Int),(∀ y∈zs,y.1.nm≠s.nm)→(zs.filterMap (cG t)).filter (fun x=>decide (x.2.nm=s.nm))=[]:=fun zs hz=>by
      refine List.filter_eq_nil_iff.mpr fun z hz'=>?_
      obtain ⟨y,hy,e⟩:=List.mem_filterMap.mp hz'
      rw[nmT y z e]
      simpa using hz y hy
    rw[List.filterMap_cons]
    rcases List.mem_cons.mp h with h | h
    · subst h
      have h0:=none_of r fun y hy e=>n1 (List.mem_map.mpr ⟨y,hy,e⟩)
      cases e:cG t (s,n) with
      | none=>simpa using h0
      | some z=>
        have:=nmT _ z e
        simp only[List.filter_cons,this,decide_true,if_true,h0]
        rfl
    · have hy:y.1.nm≠s.nm:=fun e=>n1 (by rw[e];exact List.mem_map.mpr ⟨(s,n),h,rfl⟩)
      cases e:cG t y with
      | none=>exact l8 t n2 h
      | some z=>
        have:=nmT _ z e
        simp only[List.filter_cons,this,hy,decide_false]
        exact l8 t n2 h
theorem vy {α β:Type}(f:α→β):∀ (ns:List α) (L:Nat),ns.length≤L→(List.range L).flatMap (fun t=>(ns[t]?.map f).toList)=ns.map f
  | [],L,_=>by simp
  | a::r,0,h=>by simp at h
  | a::r,L+1,h=>by
    rw[List.range_succ_eq_map]
    rw[List.flatMap_cons,List.flatMap_map]
    have:=vy f r L (by simpa using h)
    simpa using this
theorem C5 {ss:List Sn}{ns:List (List Int)}(nd:(ss.map Sn.nm).Nodup){s:Sn}{n:List Int}(h:(s,n)∈List.zip ss ns):(lF ss ns).filter (fun x=>decide (x.2.nm=s.nm))=n.map fun j=>(s.rd.headD (Str.ofString ""),⟨s.nm,j,0,0,0⟩):=by
  have nd':((List.zip ss ns).map fun y=>y.1.nm).Nodup:=by
    have:(List.zip ss ns).map (fun y=>y.1.nm)=((List.zip ss ns).map (·.1)).map Sn.nm:=by rw[List.map_map];rfl
    rw[this]
    exact nd.sublist (((oE ss ns).sublist).map Sn.nm)
  rw[jP,List.filter_flatMap]
  rw[← vy (fun j=>(s.rd.headD (Str.ofString ""),(⟨s.nm,j,0,0,0⟩:Lt))) n (cY ns) (AS (List.of_mem_zip h).2)]
  congr 1
  funext t
  exact l8 t nd' h
theorem yi (g:Int)(s:Sn)(x:Ss)(u:Int)(hl:∀ i,x.lf=some i→0≤i):∃ (A:List Int) (c:Nat),(x.bt g s u).2=A++rgI x.nx c∧(∀ j∈A,1≤x.ag.count j+x.lo.count j)∧(x.bt g s u).1.nx=x.nx+c:=by
  unfold Ss.bt
  split
  · generalize (max 0 ((s.rl.beh g x.W x.S x.hd).1 / g - u)).toNat=m
    unfold Ss.fill Ss.rdy
    simp only
    have tl:((dD (x.ag++x.lo)).take m).length≤m:=by simp;omega
    refine ⟨_,_,rfl,fun j hj=>?_,?_⟩
    · have h1:=(iF (x.ag++x.lo)).mem_iff.mp (List.mem_of_mem_take hj)
      have:=List.count_pos_iff.mpr h1
      rw[List.count_append] at this
      omega
    · have c0:0≤ie x.lf ((m:Int) - (((dD (x.ag++x.lo)).take m).length:Int)):=by
        unfold ie
        cases e:x.lf with
        | none=>simp only;omega
        | some l=>have:=hl l e;simp only;omega
      omega
  · exact ⟨[],0,rfl,(fun _ h=>nomatch h),(Int.add_zero _).symm⟩
theorem Lr (p:Pn):p.beg.One:=by
  intro x hx i
  obtain ⟨s,hs,rfl⟩:=List.mem_map.mp (show x∈p.ss.map (Sn.beg p.g) from hx)
  have:p.beg.fly (s.nm,i)=0:=by
    unfold St'.fly Pn.beg
    rw[List.map_map]
    have:∀ l:List Wy,(l.map fun _=>0).sum=0:=fun l=>by induction l<;>simp_all
    exact this p.ws
  show p.beg.fly (s.nm,i)+0+0≤_
  rw[this]
  exact Nat.zero_le _
theorem Pn.gN {p:Pn}{m:Int}(K:p.Ok m):∀ n:Nat,n≤10000→(p.run n).One
  | 0,_=>Lr p
  | n+1,h=>FU (p.ff K n (by omega)) (by omega) (p.gN K n (by omega))
theorem Pn.uD {p:Pn}{m:Int}(K:p.Ok m):∀ n:Nat,n≤10000→∀ y∈List.zip p.ss (p.run n).ss,y.2.Due y.1 n
  | 0,_,y,hy=>by
    obtain ⟨s,x⟩:=y
    rw[show (p.run 0).ss=p.ss.map (Sn.beg p.g) from rfl,List.zip_map_right] at hy
    obtain ⟨⟨a,b⟩,hz,e⟩:=List.mem_map.mp hy
    have same:∀ l:List Sn,∀ y∈List.zip l l,y.1=y.2:=fun l=>by
      induction l with
      | nil=>intro y h;cases h
      | cons a l ih=>
        intro y h
        rw[List.zip_cons_cons] at h
        cases h with
        | head=>rfl
        | tail _ h=>exact ih y h
    have:=same _ _ hz
    simp only at this
    subst this
    cases e
    exact Lh p.g (K.s a (List.of_mem_zip hz).1).g0
  | n+1,h,y,hy=>by
    have I:=p.ff K n (by omega)
    obtain ⟨s,x'⟩:=y
    rw[show (p.run (n+1)).ss=List.zipWith (fun s b=>iT s b.1 (p.a7 (p.run n)) (p.taken (p.run n))) p.ss (p.bA (p.run n)) from rfl,br,de (fun y:Sn×(Ss×List Int)=>iT y.1 y.2.1 (p.a7 (p.run n)) (p.taken (p.run n)))] at hy
    obtain ⟨⟨s',b⟩,hb,e⟩:=List.mem_map.mp hy
    cases e
    obtain ⟨x,hx,eb⟩:=I.zb (y:=(s',b)) hb
    simp only at eb hx
    subst eb
    exact HL (K.s s' (List.of_mem_zip hx).1).b0 _ _ _ (p.uD K n (by omega) _ hx)
abbrev evS (s:Sn)(j:Int):Ev:=⟨Str.ofString "sent", s.nm,j,s.rd.headD (Str.ofString "")⟩
theorem IW {p:Pn}{m:Int}{n:Nat}{st:St'}(I:c6 p m n st){s:Sn}{x:Ss}(hx:(s,x)∈List.zip p.ss st.ss) :
    (p.evs st).filter (fun e=>decide (e.nm=s.nm))=(x.bt p.g s (st.und x.nm)).2.map (evS s)++(p.told st).filter fun e=>decide (e.nm=s.nm):=by
  have hb:(s,(x.bt p.g s (st.und x.nm)).2)∈List.zip p.ss ((p.bA st).map (·.2)):=by
    unfold Pn.bA
    rw[br,List.zip_map_right,de (fun y:Sn×Ss=>y.2.bt p.g y.1 (st.und y.2.nm)),List.map_map]
    exact List.mem_map.mpr ⟨(s,x),hx,rfl⟩
  have h:=C5 I.sd hb
  unfold Pn.evs
  rw[List.filter_append]
  congr 1
  rw[List.filter_map]
  have:(p.aN st).filter ((fun e:Ev=>decide (e.nm=s.nm)) ∘ fun x=>(⟨Str.ofString "sent", x.2.nm,x.2.nu,x.1⟩:Ev))=(p.aN st).filter fun x=>decide (x.2.nm=s.nm):=rfl
  rw[this]
  show ((lF p.ss ((p.bA st).map (·.2))).filter _).map _=_
  rw[h,List.map_map]
  rfl
structure Mid (n:Nat) (dS:List Int) (dW:List Ev) (t0 t:List (L2.Key×D)):Prop where
  a:∀ e∈dW,e.wd=Str.ofString "lost" → bE t (.inl e.nu)=some (.int n)
  b:∀ i,(∀ e∈dW,e.fin→e.nu≠i)→i∈dS→bE t (.inl i)=some .non
  c:∀ i,(∀ e∈dW,e.fin→e.nu≠i)→i ∉ dS→bE t (.inl i)=bE t0 (.inl i)
theorem Mid.aN {n:Nat}{dS:List Int}{t0 t:List (L2.Key×D)}(h:Mid n dS [] t0 t)(j:Int):Mid n (dS++[j]) [] t0 (putD t (.inl j) .non):=by
  refine ⟨(fun _ h=>nomatch h),fun i hi hm=>?_,fun i hi hm=>?_⟩
  · rw[hX]
    by_cases e:i=j
    · rw[if_pos (by rw[e])]
    · rw[if_neg (fun z=>e (by injection z))]
      exact h.b i hi (by simpa[e] using hm)
  · rw[hX,if_neg (fun z=>hm (by injection z with z;simp[z]))]
    exact h.c i hi fun z=>hm (List.mem_append_left _ z)
theorem Mid.ly {n:Nat}{dS:List Int}{dW:List Ev}{e:Ev}{t0 t:List (L2.Key×D)}(h:Mid n dS dW t0 t)(hf:¬ e.fin):Mid n dS (dW++[e]) t0 t:=by
  have w:∀ i,(∀ f∈dW++[e],f.fin→f.nu≠i)→∀ f∈dW,f.fin→f.nu≠i:=fun i q f hm=>q f (List.mem_append_left _ hm)
  refine ⟨fun f hm hl=>?_,fun i hi hm=>h.b i (w i hi) hm,fun i hi hm=>h.c i (w i hi) hm⟩
  rcases List.mem_append.mp hm with (hm | hm)
  · exact h.a f hm hl
  · rw[List.mem_singleton.mp hm] at hl
    exact absurd (.inl hl) hf
theorem Mid.ends {n:Nat}{dS:List Int}{dW:List Ev}{e:Ev}{t0 t:List (L2.Key×D)}{v:Int}(h:Mid n dS dW t0 t)(hf:e.fin)(hv:e.wd=Str.ofString "lost" → v=n)(ha:∀ f∈dW,f.fin→f.nu≠e.nu):Mid n dS (dW++[e]) t0 (putD t (.inl e.nu) (.int v)):=by
  have w:∀ i,(∀ f∈dW++[e],f.fin→f.nu≠i)→(∀ f∈dW,f.fin→f.nu≠i)∧i≠e.nu:=fun i q=>⟨fun f hm=>q f (List.mem_append_left _ hm),fun z=>q e (by simp) hf z.symm⟩
  refine ⟨fun f hm hl=>?_,fun i hi hm=>?_,fun i hi hm=>?_⟩
  · rw[hX]
    rcases List.mem_append.mp hm with (hm | hm)
    · rw[if_neg (fun z=>ha f hm (.inl hl) (by injection z))]
      exact h.a f hm hl
    · rw[List.mem_singleton.mp hm] at hl ⊢
      rw[if_pos rfl,hv hl]
  · rw[hX,if_neg (fun z=>(w i hi).2 (by injection z))]
    exact h.b i (w i hi).1 hm
  · rw[hX,if_neg (fun z=>(w i hi).2 (by injection z))]
    exact h.c i (w i hi).1 hm
structure Told (p:Pn) (s:Sn) (x:Ss) (n:Nat) (t:List (L2.Key×D)):Prop where
  a:∀ i,1≤(p.run n).fly (s.nm,i)→bE t (.inl i)=some .non
  b:∀ i,1≤x.ag.count i+x.lo.count i→∃ j:Int,j < n∧bE t (.inl i)=some (.int j)
section
variable {p:Pn} {m:Int} {n:Nat} {s:Sn} {x:Ss} (K:p.Ok m) (hn:n≤1000) (hx:(s,x)∈List.zip p.ss (p.run n).ss)
include K hn hx
theorem Im {e:Ev}(h:e∈p.told (p.run n))(ne:e.nm=s.nm):(1≤(p.run n).fly (s.nm,e.nu)∨e.nu∈(x.bt p.g s ((p.run n).und x.nm)).2)∧0≤e.nu∧e.nu < (x.bt p.g s ((p.run n).und x.nm)).1.nx:=by
  have I:=p.ff K n (by omega)
  have F:=fun i=>uV I (by omega) (p.gN K n (by omega)) hx i
  have T:=qk (a:=s.nm) I.K.wd I.lw fun i=>by have:=F i;split at this<;>omega
  have h1:=T.2 e h
  have h2:=pG I.K.wd I.lw e.key
  have ek:e.key=(s.nm,e.nu):=by rw[← ne]
  rw[ek] at h1 h2
  have h3:=F e.nu
  refine ⟨?_,?_⟩
  · by_cases q:1≤(p.run n).fly (s.nm,e.nu)
    · exact .inl q
    · exact .inr (List.count_pos_iff.mp (by omega))
  · by_cases q:0≤e.nu∧e.nu < (x.bt p.g s ((p.run n).und x.nm)).1.nx
    · exact q
    · rw[if_neg q] at h3;omega
theorem JX:(s,iT s (x.bt p.g s ((p.run n).und x.nm)).1 (p.a7 (p.run n)) (p.taken (p.run n)))∈List.zip p.ss (p.run (n+1)).ss:=by
  show _∈List.zip p.ss (List.zipWith (fun s b=>iT s b.1 (p.a7 (p.run n)) (p.taken (p.run n))) p.ss (p.bA (p.run n)))
  unfold Pn.bA
  rw[br,br,de (fun y:Sn×Ss=>y.2.bt p.g y.1 ((p.run n).und y.2.nm)),List.map_map]
  show _∈List.zip p.ss ((List.zip p.ss (p.run n).ss).map fun y:Sn×Ss=>iT y.1 (y.2.bt p.g y.1 ((p.run n).und y.2.nm)).1 (p.a7 (p.run n)) (p.taken (p.run n)))
  rw[de (fun y:Sn×Ss=>iT y.1 (y.2.bt p.g y.1 ((p.run n).und y.2.nm)).1 (p.a7 (p.run n)) (p.taken (p.run n)))]
  exact List.mem_map.mpr ⟨(s,x),hx,rfl⟩
theorem Told.next {t0 t:List (L2.Key×D)}(h:Told p s x n t0)(M:Mid n (x.bt p.g s ((p.run n).und x.nm)).2 ((p.told (p.run n)).filter fun e=>decide (e.nm=s.nm)) t0 t) :
    Told p s (iT s (x.bt p.g s ((p.run n).und x.nm)).1 (p.a7 (p.run n)) (p.taken (p.run n))) (n+1) t:=by
  have I:=p.ff K n (by omega)
  have F:=fun i=>uV I (by omega) (p.gN K n (by omega)) hx i
  have S:=fun i=>vM (p:=p) (st:=p.run n) I.K.wd I.lw (s.nm,i)
  have oM:∀ i,cK (s.nm,i) (p.taken (p.run n))=0→cK (s.nm,i) (p.a7 (p.run n))=0→∀ e∈(p.told (p.run n)).filter fun e=>decide (e.nm=s.nm),e.fin→e.nu≠i:=fun i h1 h2 e he hf hi=>by
    obtain ⟨he,hne⟩:=List.mem_filter.mp he
    have hne:e.nm=s.nm:=by simpa using hne
    have ek:e.key=(s.nm,i):=by rw[← hne,← hi]
    obtain ⟨_,q1,q2⟩:=Bj he
    rw[ek] at q1 q2
    rcases hf with hf | hf
    · have:=q1 hf;omega
    · have:=q2 hf;omega
  generalize hb:x.bt p.g s ((p.run n).und x.nm)=b at *
  have F1:∀ i,(p.run n).fly (s.nm,i)+b.2.count i+b.1.ag.count i+b.1.lo.count i≤1∧cK (s.nm,i) ((p.aN (p.run n)).map (·.2))≤b.2.count i:=fun i=>by
    have:=F i
    split at this<;>exact ⟨by omega,this.2⟩
  refine ⟨fun i hi=>?_,fun i hi=>?_⟩
  · have hi:1≤(p.step (p.run n)).fly (s.nm,i):=hi
    have h1:=F1 i;have h2:=S i
    have nf:=oM i (by omega) (by omega)
    by_cases q:i∈b.2
    · exact M.b i nf q
    · rw[M.c i nf q]
      have:b.2.count i=0:=List.count_eq_zero.mpr q
      exact h.a i (by omega)
  · have hi:1≤b.1.ag.count i+(dD (b.1.lo++(own s.nm (p.a7 (p.run n))).map Lt.nu)).count i:=hi
    rw[l5,List.count_append] at hi
    by_cases q:1≤cK (s.nm,i) (p.a7 (p.run n))
    · obtain ⟨e,he,hw,ek⟩:=Dx q
      have e1:e.nm=s.nm:=congrArg (·.1) ek
      have e2:e.nu=i:=congrArg (·.2) ek
      refine ⟨n,by omega,?_⟩
      rw[← e2]
      exact M.a e (List.mem_filter.mpr ⟨he,by simpa using e1⟩) hw
    · have L:((own s.nm (p.a7 (p.run n))).map Lt.nu).count i=0:=by
        refine List.count_eq_zero.mpr fun z=>q ?_
        obtain ⟨l,hl,e⟩:=List.mem_map.mp z
        obtain ⟨hl,hnm⟩:=List.mem_filter.mp hl
        exact gW hl (by rw[← e,← (by simpa using hnm:l.nm=s.nm)])
      have h1:=F1 i
      have z2:b.2.count i=0:=by omega
      have z3:=S i
      have T0:cK (s.nm,i) (p.taken (p.run n))=0:=by omega
      have nf:=oM i T0 (by omega)
      rw[M.c i nf (List.count_eq_zero.mp z2)]
      have bc:=(Ac p.g s x ((p.run n).und x.nm) (I.ss _ hx).l i).1
      rw[hb] at bc
      have lo0:=I.nx x (List.of_mem_zip hx).2
      have X:=p.gN K n (by omega) x (List.of_mem_zip hx).2 i
      obtain ⟨A,c,eA,hA,eN⟩:=yi p.g s x ((p.run n).und x.nm) (I.ss _ hx).l
      have:1≤x.ag.count i+x.lo.count i:=by
        by_cases q2:x.nx≤i∧i < b.1.nx
        · rw[if_pos q2] at bc
          rw[if_neg (by omega)] at X
          exfalso
          have:i∈b.2:=by
            rw[hb] at eA eN
            rw[eA]
            refine List.mem_append_right _ (List.count_pos_iff.mp ?_)
            rw[B9,if_pos (by omega)]
            exact Nat.one_pos
          exact absurd this (List.count_eq_zero.mp z2)
        · rw[if_neg q2] at bc
          omega
      obtain ⟨j,hj,e⟩:=h.b i this
      exact ⟨j,by omega,e⟩
end
section
open PySem PySem.Spec PyProof.Rows L2
end
section
open PySem PySem.Spec PyProof.Rows L2
section
variable {X:Cx} {a b c d:Expr} {ta tb tc td:TE} {Ta Tb Tc Td:ETr} {pos:Pos} {o1 o2 o3:CmpOp} {r1 r2 r3:L2.R2} {R1 R2 R3:DR2}
end
end
section
open PySem PySem.Spec PyProof.Rows L2
section
variable {X:Cx} {tg a b:Expr} {Ta Tb:ETr} {pos:Pos}
end
end
section
open PySem PySem.Spec PyProof.Rows L2
def EI:ETr:=fun ρ μ Q=>∀ p,μ p=none→Q (.obj p) (up μ p (.dct []))
theorem NG {X:Cx}{pos:Pos}:LE X (.Dict [] [] pos) EI:=JY
theorem E5 (ρ:ST)(μ:Mu)(Q:DK):EI ρ μ Q = ∀ p,μ p=none→Q (.obj p) (up μ p (.dct [])):=propext Iff.rfl
end
section
open PySem PySem.Spec PyProof.Rows L2
section
variable {X:Cx} {o i:Expr} {apos cpos:Pos}
end
end
section
open PySem PySem.Spec PyProof PyProof.Rows L2
section
variable {X:Cx} {o:Expr} {apos cpos pos p:Pos} {x:Str}
end
end
section
open PySem PySem.Spec PyProof.Rows L2
end
section
open PySem PySem.Spec PyProof.Rows L2
section
variable {X:Cx} {i o:Expr} {pos:Pos} {Ti To:ETr}
end
end
end L3
namespace Kk
local macro_rules | `(tactic| walk_at "ln")=>`(tactic| (intro ds μ Q h;split at h;rfl;exact h.elim))
open PySem L3
def SN:=Jn @E5 <| @Q7
local macro_rules | `(tactic| walk_at "go")=>`(tactic| try simp only[↓SN,Ds,↓wU,↓vm,↓vB,↓yh,↓xF,↓yf,↓j7,↓iX,cq,bV,cy,cw,cB,cD,cV,cT,bU,cu,cE,cA,cv,cW,cC,cR,cF,cQ,cz,cP,iS,u7,u5,fu,List.map_cons,List.map_nil,List.replicate,List.cons_append,List.nil_append,lk,CO,xY,gw,sV,lC,mB,mj,j9,ka,kb,j8,true_and,and_true,and_self,Bool.not_true,Bool.not_false,decide_true,decide_false,Bool.or_true,Bool.or_false,Bool.true_or,Bool.false_or,Bool.and_false,Bool.false_and,Bool.and_true,Bool.true_and,Int.reduceToNat,Int.reducePow,Int.reduceNeg,Int.reduceSub,Int.reduceAdd,Int.reduceMul,Int.reduceEq,Int.reduceLT,Int.reduceLE,Int.reduceBEq,iq,fU,fQ,fP,fW,fY,gf,fR,if_true,if_false,Bool.false_eq_true,reduceCtorEq,decide_eq_true_eq])
local macro_rules | `(tactic| walk_at "ok")=>`(tactic| (simp only[L3.js,L3.MulOk,L3.S64,L3.gE,L3.qD] at *;omega))
local macro_rules | `(tactic| walk_at "ini")=>`(tactic| simp only[ini,List.map,List.length,List.replicate,Nat.reduceSub,Nat.reduceAdd,Nat.sub_self,List.cons_append,List.nil_append,List.append_nil])
def mE:FSp:=fun ds μ Q=>match ds with
  | [d,.int n]=>∃ (p:Pn) (m:Int) (j:Nat),(d=p.toD∧p.Ok m∧n=j∧j≤1000)∧Q (.tup [(p.run j).toD p.g,.ls (p.rows j)]) μ
  | _=>False
theorem J3:∀ ds μ Q,mE ds μ Q→ds.length=2:=by
  unfold mE
  walk_at "ln"
def LN:STr:=aB (aP (aq L3.ik (af (ah 0) (ar))) (aw 2)) (aB (aP (me (ar)) (aw 3)) (aB (kg (gG (ah 1)) (aw 4) (aB (aP (aq L3.fh (af (ah 0) (af (ah 2) (ar)))) (aw 5)) (aB (aP (aj L3.rIx (ah 5) (TC (.int 0))) (aw 2)) (fN (mf (ah 3) (aj L3.rIx (ah 5) (TC (.int 1)))))))) (aY (bw (af (ah 2) (af (uS (ah 3)) (ar)))))))
theorem OZ:∀ ds μ Q,mE ds μ Q→LN { nx:=fun _ μ'=>RT Q .non μ',rt:=RT Q } (ini 6 ds) μ:=by
  intro ds μ Q h
  unfold mE at h
  split at h
  case h_2=>exact h.elim
  rename_i d n
  walk_at "ini"
  unfold LN
  walk_at "go"
  obtain ⟨p,m,j,⟨rfl,K,rfl,hj⟩,k⟩:=h
  have w1:=K.w1
  have s1:=K.s1
  refine ⟨p,⟨rfl,fun x hx=>(K.s x hx).k,K.g,by omega,by omega⟩,?_⟩
  walk_at "go"
  intro q hq
  walk_at "go"
  refine ⟨⟨by omega,by omega⟩,?_⟩
  rw[Int.toNat_natCast]
  refine cX (fun r ρ μ'=>∃ (i:Nat) (v4 v5:Option D),i+r.length=j∧ρ=[some p.toD,some (.int j),some ((p.run i).toD p.g),some (.obj q),v4,v5]∧μ'=up μ q (.lst (p.rows i))) ?_ ?_ _ _ _ ⟨0,_,_,by rw[dY];omega,rfl,rfl⟩
  · rintro ρ μ' ⟨i,v4,v5,e,rfl,rfl⟩
    have e:i=j:=by simpa using e
    subst e
    walk_at "go"
    rw[qt hq]
    exact ⟨_,.refl _,k⟩
  · rintro d r ρ μ' N ⟨i,v4,v5,e,rfl,rfl⟩ hN
    rw[List.length_cons] at e
    have I:=p.ff K i (by omega)
    walk_at "go"
    refine ⟨p,p.run i,⟨⟨rfl,rfl⟩,I.rd (by omega)⟩,?_⟩
    walk_at "go"
    refine ⟨by unfold Pn.rows;simp;omega,hN _ _ ⟨i+1,_,_,by omega,rfl,?_⟩⟩
    unfold Pn.rows
    rw[List.range_succ,List.map_append]
    rfl
abbrev iG:FSp:=L3.ay
def rg:STr:=aB (bY (pH (TB (aj rGt (bC (ah 0) (TC (.str "left"))) (TC (.int 0)))) (TB (aj rLt (bC (ah 0) (TC (.str "given"))) (TC (.int 60))))) (aB (kZ (fun m n=>m+n) (ah 0) (TC (.str "given")) (TC (.int 1))) (aB (aP (aj kE (bC (ah 0) (TC (.str "left"))) (ah 1)) (aw 3)) (aB (gm (ah 0) (TC (.str "left")) (aj l6 (bC (ah 0) (TC (.str "left"))) (ah 1))) (aY (ah 3))))) (bx)) (aB (gm (ah 0) (TC (.str "seed")) (aq L3.fV (af (bC (ah 0) (TC (.str "seed"))) (af (bC (ah 0) (TC (.str "many"))) (ar))))) (aY (aj kE (aj l6 (bC (ah 0) (TC (.str "seed"))) (TC (.int 7))) (ah 1))))
def xX:STr:=aB (kZ (fun m n=>m+n) (ah 0) (TC (.str "many")) (TC (.int 1))) (aB (bY (pH (TOr (TB (aj rEq (bC (ah 0) (TC (.str "left"))) (TC (.int 0)))) (TB (aj rEq (bC (ah 0) (TC (.str "given"))) (TC (.int 60))))) (TB (aj rLt (bC (ah 0) (TC (.str "at"))) (aq dZ (af (bC (ah 0) (TC (.str "cells"))) (ar)))))) (aB (aP (aq vz (af (aj L3.rIx (bC (ah 0) (TC (.str "cells"))) (bC (ah 0) (TC (.str "at")))) (ar))) (aw 2)) (aB (kZ (fun m n=>m+n) (ah 0) (TC (.str "at")) (TC (.int 1))) (aB (gm (ah 0) (TC (.str "left")) (aj eO (ah 2) (aq zR (af (aj rGe (ah 2) (aj CU (TC (.int 10)) (TC (.int 18)))) (ar))))) (aB (gm (ah 0) (TC (.str "given")) (TC (.int 0))) (gm (ah 0) (TC (.str "seed")) (aq L3.fV (af (aj aR (bC (ah 0) (TC (.str "seed"))) (ah 2)) (af (bC (ah 0) (TC (.str "many"))) (ar))))))))) (bx)) (rg))
theorem rh:∀ ds μ Q,iG ds μ Q→ds.length=2:=L3.CT
theorem uN:∀ ds μ Q,iG ds μ Q→xX { nx:=fun _ μ'=>RT Q .non μ',rt:=RT Q } (ini 4 ds) μ:=L3.D2
abbrev iA:FSp:=L3.gv
def pY:STr:=aB (aP (aj aR (TC (.int 1)) (aq L3.ay (af (ah 0) (af (TC (.int 5)) (ar))))) (aw 5)) (aB (aP (aq L3.bI (af (aj aR (TC (.int 1)) (aq L3.ay (af (ah 0) (af (aj eO (TC (.int 2)) (ah 5)) (ar))))) (af (ah 5) (ar)))) (aw 6)) (aB (aP (aq L3.bI (af (aj aR (TC (.int 1)) (aq L3.ay (af (ah 0) (af (ah 5) (ar))))) (af (aj aR (ah 5) (TC (.int 1))) (ar)))) (aw 7)) (aB (bY (TB (aj rEq (ah 2) (TC (.str "still")))) (aY (bw (af (ah 2) (af (ah 3) (ar))))) (bx)) (aB (bY (TB (aj rEq (ah 2) (TC (.str "step")))) (aY (bw (af (ah 2) (af (ah 3) (af (ah 6) (af (ah 7) (af (ah 4) (ar)))))))) (bx)) (aB (bY (TB (aj rEq (ah 2) (TC (.str "swell")))) (aY (bw (af (ah 2) (af (ah 3) (af (aq L3.bI (af (aj aR (aj L3.rIx (ah 6) (TC (.int 0))) (aj L3.rIx (ah 6) (TC (.int 1)))) (af (aj L3.rIx (ah 6) (TC (.int 1))) (ar)))) (af (ah 7) (af (ah 4) (ar)))))))) (bx)) (aB (bY (TB (aj rEq (ah 2) (TC (.str "heed")))) (aY (bw (af (ah 2) (af (ah 3) (af (ah 6) (af (aq L3.bI (af (aj aR (TC (.int 1)) (aq L3.ay (af (ah 0) (af (ah 5) (ar))))) (af (ah 5) (ar)))) (af (ah 4) (ar)))))))) (bx)) (aB (aP (aq L3.ay (af (ah 0) (af (TC (.int 4)) (ar)))) (aw 8)) (aY (bw (af (ah 2) (af (ah 3) (af (ah 6) (af (ah 8) (af (aj aR (ah 8) (aq L3.ay (af (ah 0) (af (TC (.int 5)) (ar))))) (af (ah 4) (ar))))))))))))))))
def xq:STr:=aB (aP (aj L3.rIx (fX (af (TC (.str "still")) (af (TC (.str "step")) (af (TC (.str "swell")) (af (TC (.str "heed")) (af (TC (.str "calm")) (ar))))))) (aq L3.ay (af (ah 0) (af (TC (.int 5)) (ar))))) (aw 2)) (aB (qh 3 4 (af (aq L3.bO (af (ah 0) (af (TC (.int 1)) (af (ah 1) (ar))))) (af (aq L3.bO (af (ah 0) (af (TC (.int 1)) (af (ah 1) (ar))))) (ar)))) (aB (bY (TB (aj rGt (aj eO (aj L3.rIx (ah 3) (TC (.int 0))) (aj L3.rIx (ah 4) (TC (.int 1)))) (aj eO (aj L3.rIx (ah 4) (TC (.int 0))) (aj L3.rIx (ah 3) (TC (.int 1)))))) (qh 3 4 (af (ah 4) (af (ah 3) (ar)))) (bx)) (pY)))
theorem rY:∀ ds μ Q,iA ds μ Q→ds.length=2:=L3.Ck
theorem tP:∀ ds μ Q,iA ds μ Q→xq { nx:=fun _ μ'=>RT Q .non μ',rt:=RT Q } (ini 9 ds) μ:=L3.GZ
abbrev gy:FSp:=L3.fk
def my:STr:=aB (aP (aj L3.rIx (fX (af (TC (.int 1)) (af (TC (.int 1)) (af (TC (.int 2)) (af (TC (.int 3)) (af (aj aR (TC (.int 1)) (aq L3.ay (af (ah 0) (af (TC (.int 8)) (ar))))) (ar))))))) (aq L3.ay (af (ah 0) (af (TC (.int 5)) (ar))))) (aw 5)) (aB (aP (aj L3.rIx (fX (af (TC .non) (af (TC .non) (af (aq L3.ay (af (ah 0) (af (TC (.int 4)) (ar)))) (af (aq L3.ay (af (ah 0) (af (TC (.int 40)) (ar)))) (ar)))))) (aq L3.ay (af (ah 0) (af (TC (.int 4)) (ar))))) (aw 6)) (aY (bw (af (ah 1) (af (ah 4) (af (ah 5) (af (aj L3.rIx (fX (af (TC (.int 0)) (af (TC (.int 0)) (af (aq L3.ay (af (ah 0) (af (TC (.int 3)) (ar)))) (af (aq L3.ay (af (ah 0) (af (TC (.int 12)) (ar)))) (ar)))))) (aq L3.ay (af (ah 0) (af (TC (.int 4)) (ar))))) (af (ah 6) (af (aq L3.gv (af (ah 0) (af (ah 3) (ar)))) (ar))))))))))
def rC:STr:=aB (aP (aq bz (af (bW (eL (ah 2)) (aw 0) (TB (aj rEq (aq L3.ay (af (ah 1) (af (TC (.int 2)) (ar)))) (TC (.int 0)))) (aj L3.rIx (ah 0) (TC (.int 0))) 1 [0]) (ar))) (aw 4)) (aB (bY (TB (aj rEq (aq dZ (af (ah 4) (ar))) (TC (.int 0)))) (aP (bw (af (aj L3.rIx (aj L3.rIx (ah 2) (aq L3.ay (af (ah 0) (af (aq dZ (af (ah 2) (ar))) (ar))))) (TC (.int 0))) (ar))) (aw 4)) (bx)) (my))
theorem nX:∀ ds μ Q,gy ds μ Q→ds.length=4:=L3.vi
theorem o8:∀ ds μ Q,gy ds μ Q→rC { nx:=fun _ μ'=>RT Q .non μ',rt:=RT Q } (ini 7 ds) μ:=L3.Ad
theorem Ot (i0 i1 i2 i3 i4 i5:Nat)(x:Sn)(ρ:ST)(μ:Mu)(k:ST→Mu→Prop):eM [i0,i1,i2,i3,i4,i5] x.toD ρ μ k=eM [i0,i1,i2,i3,i4,i5] (.tup [.str x.nm,.tup (x.rd.map .str),.int x.bt,.int x.bg,c5 x.mn,x.rl.toD]) ρ μ k:=propext Iff.rfl
theorem Ew (i0 i1 i2 i3:Nat)(x:Ev)(ρ:ST)(μ:Mu)(k:ST→Mu→Prop):eM [i0,i1,i2,i3] x.toD ρ μ k=eM [i0,i1,i2,i3] (.tup [.str x.wd,.str x.nm,.int x.nu,.str x.wy]) ρ μ k:=propext Iff.rfl
theorem enum_rows (p:Pn)(N:Nat):i7 (p.rows N)=(List.range' 0 N).map fun i:Nat=>.tup [.int i,.ls (evD (p.evs (p.run i)))]:=by
  unfold i7 Pn.rows
  rw[List.length_map,List.length_range,List.zipWith_map_right,List.zipWith_self,List.range_eq_range']
def bB:FSp:=fun ds μ Q=>match ds with
  | [sd,.ls rd]=>∃ (p:Pn) (m:Int) (s:Sn) (n:Nat),(sd=s.toD∧rd=p.rows n∧p.Ok m∧s∈p.ss∧n≤1000)∧Q (.bl true) μ
  | _=>False
theorem jU:∀ ds μ Q,bB ds μ Q→ds.length=2:=by
  unfold bB
  walk_at "ln"
def gr:STr:=aB (aP (ah 0) (eM [2,3,4,5,6,7])) (aB (aP (TC (.int 0)) (aw 8)) (aB (aP (EI) (aw 9)) (aB (kg (BE (af (ah 1) (ar))) (eM [10,11]) (kg (eL (bW (eL (ah 11)) (aw 0) (TB (aj rEq (aj L3.rIx (ah 0) (TC (.int 1))) (ah 1))) (ah 0) 1 [2])) (eM [12,13,14,15]) (bY (TB (aj rEq (ah 12) (TC (.str "sent")))) (aB (bY (TOr (TB (aj rLt (ah 10) (ah 5))) (TOr (TB (aj rNe (aj kE (aj kj (ah 10) (ah 5)) (ah 4)) (TC (.int 0)))) (TB (aj rNe (ah 15) (aj L3.rIx (ah 3) (TC (.int 0))))))) (aY (TC (.bl false))) (bx)) (aB (bY (TB (aj rEq (ah 14) (ah 8))) (Ex (fun m n=>m+n) 8 (TC (.int 1))) (bY (TOr (TB (aj rGt (ah 14) (ah 8))) (TOr (TB (aj rLt (ah 14) (TC (.int 0)))) (pH (TB (aj iU (bC (ah 9) (ah 14)) (TC .non))) (TB (aj rGe (bC (ah 9) (ah 14)) (ah 10)))))) (aY (TC (.bl false))) (bY (TB (aj rIs (bC (ah 9) (ah 14)) (TC .non))) (aY (TC (.bl false))) (bx)))) (gm (ah 9) (ah 14) (TC .non)))) (bY (TOr (TB (aj rGe (ah 14) (ah 8))) (TB (aj iU (bC (ah 9) (ah 14)) (TC .non)))) (aY (TC (.bl false))) (bY (TB (aj rEq (ah 12) (TC (.str "lost")))) (gm (ah 9) (ah 14) (ah 10)) (bY (TB (aj rEq (ah 12) (TC (.str "taken")))) (gm (ah 9) (ah 14) (aj CU (TC (.int 10)) (TC (.int 9)))) (bx))))))) (aY (zP (aj rIs (ah 6) (TC .non)) (aj rLe (ah 8) (ah 6)))))))
theorem kf:∀ ds μ Q,bB ds μ Q→gr { nx:=fun _ μ'=>RT Q .non μ',rt:=RT Q } (ini 16 ds) μ:=by
  intro ds μ Q h
  unfold bB at h
  split at h
  case h_2=>exact h.elim
  rename_i sd rd
  walk_at "ini"
  unfold gr
  walk_at "go"
  obtain ⟨p,m,s,N,⟨rfl,rfl,K,hs,hN⟩,k⟩:=h
  have sk:=K.s s hs
  have b0:=sk.b0
  rw[Ot]
  walk_at "go"
  intro q hq
  walk_at "go"
  rw[enum_rows]
  obtain ⟨x0,hx0⟩:=(p.ff K 0 (by omega)).Rj hs
  have f0:x0.nx=0:=by have:=(p.ff K 0 (by omega)).nx x0 (List.of_mem_zip hx0).2;omega
  refine cX (fun r ρ μ'=>∃ (n k:Nat) (x:Ss) (tab:List (L2.Key×D)) (v10 v11 v12 v13 v14 v15:Option D),r=(List.range' n k).map (fun i:Nat=>.tup [.int i,.ls (evD (p.evs (p.run i)))])∧n+k=N∧(s,x)∈List.zip p.ss (p.run n).ss∧Told p s x n tab∧(tab.length:Int)≤x.nx∧ρ=[some s.toD,some (.ls (p.rows N)),some (.str s.nm),some (.tup (s.rd.map .str)),some (.int s.bt),some (.int s.bg),some (c5 s.mn),some s.rl.toD,some (.int x.nx),some (.obj q),v10,v11,v12,v13,v14,v15]∧μ'=up μ q (.dct tab)) ?_ ?_ _ _ _ ⟨0,N,x0,[],_,_,_,_,_,_,rfl,by omega,hx0,?_,by rw[f0];exact Int.le_refl _,by rw[f0],rfl⟩
  · rintro ρ μ' ⟨n,c,x,tab,v10,v11,v12,v13,v14,v15,er,en,hx,T,tl,rfl,rfl⟩
    have D:=(p.uD K n (by omega) _ hx).m
    have L:=(p.ff K n (by omega)).ss _ hx
    simp only at D
    walk_at "go"
    cases e:s.mn with
    | none=>
      refine lW rfl ?_
      walk_at "go"
      exact ⟨_,Sub.new hq,k⟩
    | some M=>
      rw[e] at D
      cases el:x.lf with
      | none=>rw[el] at D;cases D
      | some l=>
        rw[el] at D
        have l0:=L.l l el
        have hM:l+x.nx=M:=by simpa using D
        refine gK nofun ?_
        simp only[c5]
        walk_at "go"
        rw[decide_eq_true (show x.nx≤M by omega)]
        exact ⟨_,Sub.new hq,k⟩
  · rintro d r ρ μ' N' ⟨n,c,x,tab,v10,v11,v12,v13,v14,v15,er,en,hx,T,tl,rfl,rfl⟩ hN'
    cases c with
    | zero=>cases er
    | succ c=>
    rw[List.range'_succ,List.map_cons] at er
    cases er
    have I:=p.ff K n (by omega)
    have R:=I.rd (by omega)
    have ez:=R.ez
    walk_at "go"
    refine jf (p.evs (p.run n)) Ev.toD (fun e=>if e.nm=s.nm then some e.toD else none) rfl (by omega) (fun e he μ1 sb N m=>?_) ?_
    · walk_at "go"
      refine ⟨⟨R.sn _ (LX R e he).2.1,sk.n⟩,?_⟩
      by_cases h:e.nm=s.nm
      · rw[if_pos h] at m
        refine lW (by simpa using h) ?_
        walk_at "go"
        exact m
      · rw[if_neg h] at m
        exact gK (by simpa using h) m
    rw[eJ (fun e:Ev=>e.nm=s.nm) Ev.toD,IW I hx]
    walk_at "go"
    obtain ⟨A,cc,eA,hA,eN⟩:=yi p.g s x ((p.run n).und x.nm) (I.ss _ hx).l
    have nxb:=I.nx x (List.of_mem_zip hx).2
    have F:=fun i=>uV I (by omega) (p.gN K n (by omega)) hx i
    have AP:=(qk (a:=s.nm) I.K.wd I.lw fun i=>by have:=F i;split at this<;>omega).1
    have ON:=fun e h1 h2=>Im (e:=e) K (by omega) hx h1 h2
    have NX:=fun t M=>Told.next (t:=t) K (by omega) hx T M
    have NI:=JX K (by omega) hx
    have BD:=Er p.g s x ((p.run n).und x.nm)
    have nx60:x.nx≤100000:=by omega
    have cc60:cc≤100000:=by
      have h1:(x.bt p.g s ((p.run n).und x.nm))∈p.bA (p.run n):=by
        unfold Pn.bA
        rw[br]
        exact List.mem_map.mpr ⟨(s,x),hx,rfl⟩
      have h2:=R.nb _ h1
      rw[eA,List.length_append] at h2
      unfold rgI at h2
      rw[List.length_map,List.length_range] at h2
      omega
    generalize hb:x.bt p.g s ((p.run n).und x.nm)=b at *
    refine cX (fun r ρ μ'=>∃ (dS rS:List Int) (dW rW:List Ev) (t:List (L2.Key×D)) (f:Int) (w12 w13 w14 w15:Option D),r=evD (rS.map (evS s)++rW)∧dS++rS=b.2∧dW++rW=(p.told (p.run n)).filter (fun e=>decide (e.nm=s.nm))∧(rS≠[]→dW=[])∧Mid n dS dW tab t∧(t.length:Int)≤f∧f=x.nx+((dS.length - A.length:Nat):Int)∧ρ=[some s.toD,some (.ls (p.rows N)),some (.str s.nm),some (.tup (s.rd.map .str)),some (.int s.bt),some (.int s.bg),some (c5 s.mn),some s.rl.toD,some (.int f),some (.obj q),some (.int n),some (.ls (evD (p.evs (p.run n)))),w12,w13,w14,w15]∧μ'=up μ q (.dct t)) ?_ ?_ _ _ _ ⟨[],b.2,[],_,tab,x.nx,_,_,_,_,rfl,rfl,rfl,fun _=>rfl,⟨(fun _ h=>nomatch h),(fun _ _ h=>nomatch h),fun _ _ _=>rfl⟩,tl,by simp,rfl,rfl⟩
    · rintro ρ μ' ⟨dS,rS,dW,rW,t,f,w12,w13,w14,w15,er,eS,eW,hz,M,tl2,ef,rfl,rfl⟩
      have er':rS=[]∧rW=[]:=by
        cases rS with
        | cons _ _=>cases er
        | nil=>cases rW with
          | cons _ _=>cases er
          | nil=>exact ⟨rfl,rfl⟩
      obtain ⟨rfl,rfl⟩:=er'
      rw[List.append_nil] at eS eW
      subst eS eW
      have ef':f=b.1.nx:=by
        rw[ef,eN,eA,List.length_append]
        unfold rgI
        rw[List.length_map,List.length_range]
        omega
      exact hN' _ _ ⟨n+1,c,_,t,_,_,_,_,_,_,rfl,by omega,NI,NX t M,(show (t.length:Int)≤b.1.nx by rw[← ef'];exact tl2),by rw[ef'];rfl,rfl⟩
    · rintro d r ρ μ' N2 ⟨dS,rS,dW,rW,t,f,w12,w13,w14,w15,er,eS,eW,hz,M,tl2,ef,rfl,rfl⟩ hN2
      cases rS with
      | cons j rS=>
        have:=hz (by simp)
        subst this
        cases er
        rw[Ew]
        walk_at "go"
        have ne:b.2≠[]:=by rw[← eS];simp
        obtain ⟨d,ed,d0,d1,d2⟩:=(p.uD K n (by omega) _ hx).d
        have du:=BD.2.2 ne
        simp only at ed
        rw[du] at ed
        cases ed
        have d1:s.bg≤(n:Int)+0:=d1
        have d2:((n:Int)+0 - s.bg) % s.bt=0:=d2
        obtain ⟨r0,rr,erd⟩:∃ r0 rr,s.rd=r0::rr:=by
          cases h:s.rd with
          | nil=>exact absurd h sk.r0
          | cons a l=>exact ⟨a,l,rfl⟩
        have hh:s.rd.headD (Str.ofString "")=r0:=by rw[erd];rfl
        have r0k:PyData.strOk r0=true:=(R.rl s hs).2.2 r0 (by rw[erd];simp)
        have fm:((n:Int) - s.bg).fmod s.bt=0:=by
          rw[Int.fmod_eq_emod_of_nonneg _ (by omega)]
          simpa using d2
        refine ⟨qV _ (by simp),gK (by omega) ⟨by omega,D3 fm (pL (d:=.str r0) (by rw[sQ,erd];rfl) ?_)⟩⟩
        rw[hh]
        refine ⟨⟨r0k,by rw[xY];exact r0k⟩,?_⟩
        rw[lC]
        refine D3 rfl ?_
        have gj:b.2[dS.length]? = some j:=by rw[← eS];simp
        rw[eA] at gj
        by_cases h:dS.length < A.length
        · rw[List.getElem?_append_left h] at gj
          have ja:=hA j (List.mem_of_getElem? gj)
          have O:=p.gN K n (by omega) x (List.of_mem_zip hx).2 j
          have jx:0≤j∧j < x.nx:=by
            by_cases z:0≤j∧j < x.nx
            · exact z
            · rw[if_neg z] at O;omega
          have ef':f=x.nx:=by rw[ef];omega
          have jd:j ∉ dS:=fun z=>by
            have h1:=(F j).1
            have h2:2≤b.2.count j:=by
              rw[← eS,List.count_append,List.count_cons]
              have:=List.count_pos_iff.mpr z
              simp
              omega
            split at h1<;>omega
          obtain ⟨i,hi,ei⟩:=T.b j ja
          have et:bE t (.inl j)=some (.int i):=by rw[M.c j (fun _ h=>nomatch h) jd];exact ei
          refine gK (by omega) (gK (by omega) (gK (by omega) (pL et ?_)))
          walk_at "go"
          refine pL et ?_
          walk_at "go"
          refine gK (by omega) ?_
          walk_at "go"
          refine pL et ?_
          walk_at "go"
          have pl:=qz .non et
          exact ⟨by omega,hN2 _ _ ⟨dS++[j],rS,[],rW,_,f,_,_,_,_,rfl,by rw[← eS];simp,eW,fun _=>rfl,M.aN j,by rw[pl];exact tl2,by rw[ef,List.length_append];simp;omega,rfl,rfl⟩⟩
        · rw[List.getElem?_append_right (by omega)] at gj
          have ej:j=f:=by
            unfold rgI at gj
            rw[List.getElem?_map] at gj
            obtain ⟨i,hi,e⟩:=Option.map_eq_some_iff.mp gj
            have:=(List.getElem?_range (by have:=(List.getElem?_eq_some_iff.mp hi).1;simpa using this:dS.length - A.length < cc)).symm.trans hi
            cases this
            rw[ef];omega
          have fl:f≤300000:=by
            have h1:dS.length≤b.2.length:=by rw[← eS];simp
            rw[eA,List.length_append] at h1
            unfold rgI at h1
            rw[List.length_map,List.length_range] at h1
            omega
          have pl:=IC t (.inl j) .non
          refine lW ej ⟨by omega,hN2 _ _ ⟨dS++[j],rS,[],rW,_,f+1,_,_,_,_,rfl,by rw[← eS];simp,eW,fun _=>rfl,M.aN j,by omega,by rw[ef,List.length_append];simp;omega,rfl,rfl⟩⟩
      | nil=>
        cases rW with
        | nil=>cases er
        | cons e rW=>
        cases er
        rw[Ew]
        rw[List.append_nil] at eS
        subst eS
        have hem:e∈(p.told (p.run n)).filter (fun e=>decide (e.nm=s.nm)):=by rw[← eW];simp
        obtain ⟨he,hne⟩:=List.mem_filter.mp hem
        have hne:e.nm=s.nm:=by simpa using hne
        obtain ⟨hon,e0,e1⟩:=ON e he hne
        have hev:e∈p.evs (p.run n):=List.mem_append_right _ he
        obtain ⟨k1,_,k3⟩:=LX R e hev
        obtain ⟨ns,_,_⟩:=Bj he
        have ef':f=b.1.nx:=by
          rw[ef,eN,eA,List.length_append]
          unfold rgI
          rw[List.length_map,List.length_range]
          omega
        have oM:∀ e'∈dW,e'.fin→e'.nu≠e.nu:=fun e' h' hf hu=>by
          have ap:=AP.sublist (List.filter_sublist (p:=fun e=>decide (e.nm=s.nm)))
          rw[← eW] at ap
          have h2:=(List.pairwise_append.mp ap).2.2 e' h' e List.mem_cons_self
          have hm:e'∈(p.told (p.run n)).filter (fun e=>decide (e.nm=s.nm)):=by rw[← eW];exact List.mem_append_left _ h'
          have n':e'.nm=s.nm:=by simpa using (List.mem_filter.mp hm).2
          exact h2 n' hf (by show (e'.nm,e'.nu)=(e.nm,e.nu);rw[n',hne,hu])
        have et:bE t (.inl e.nu)=some .non:=by
          by_cases z:e.nu∈b.2
          · exact M.b _ oM z
          · rw[M.c _ oM z]
            rcases hon with h | h
            · exact T.a _ h
            · exact absurd h z
        have tl3:t.length < 1000000:=by omega
        walk_at "go"
        refine ⟨⟨k1,qV _ (by simp)⟩,gK ns (gK (by omega) (pL et ?_))⟩
        walk_at "go"
        refine ⟨⟨k1,qV _ (by simp)⟩,?_⟩
        by_cases hl:e.wd=Str.ofString "lost"
        · have pl:=qz (.int n) et
          exact lW hl ⟨tl3,hN2 _ _ ⟨b.2,[],dW++[e],rW,_,f,_,_,_,_,rfl,by simp,by rw[← eW];simp,fun z=>absurd rfl z,M.ends (.inl hl) (fun _=>rfl) oM,by rw[pl];exact tl2,ef,rfl,rfl⟩⟩
        · refine gK hl ?_
          walk_at "go"
          refine ⟨⟨k1,qV _ (by simp)⟩,?_⟩
          by_cases ht:e.wd=Str.ofString "taken"
          · have pl:=qz (.int 1000000000) et
            refine lW ht ?_
            walk_at "go"
            exact ⟨⟨by decide,by decide,by decide⟩,tl3,hN2 _ _ ⟨b.2,[],dW++[e],rW,_,f,_,_,_,_,rfl,by simp,by rw[← eW];simp,fun z=>absurd rfl z,M.ends (.inr ht) (fun z=>absurd z hl) oM,by rw[pl];exact tl2,ef,rfl,rfl⟩⟩
          · exact gK ht (hN2 _ _ ⟨b.2,[],dW++[e],rW,_,f,_,_,_,_,rfl,by simp,by rw[← eW];simp,fun z=>absurd rfl z,M.ly (fun z=>z.elim hl ht),tl2,ef,rfl,rfl⟩)
  · refine ⟨fun i hi=>?_,fun i hi=>?_⟩
    · have O:=p.gN K 0 (by omega) x0 (List.of_mem_zip hx0).2 i
      rw[(p.ff K 0 (by omega)).znm hx0,if_neg (by omega)] at O
      simp only at O
      omega
    · have O:=p.gN K 0 (by omega) x0 (List.of_mem_zip hx0).2 i
      rw[if_neg (by omega)] at O
      omega
abbrev fi:FSp:=L3.fi
theorem uc:∀ ds μ Q,fi ds μ Q→ds.length=1:=L3.uc
def Ga:STr:=aB (aP (aq L3.j2 (af (ah 0) (ar))) (aw 1)) (aB (aP (aq L3.hV (af (ah 1) (ar))) (aw 2)) (aB (aP (aj L3.rIx (aq mE (af (ah 2) (af (aj aR (TC (.int 1)) (aq L3.ay (af (ah 1) (af (TC (.int 40)) (ar))))) (ar)))) (TC (.int 1))) (aw 3)) (aY (aq MD (af (bW (eL (aj L3.rIx (ah 2) (TC (.int 2)))) (aw 0) (fo) (aq bB (af (ah 0) (af (ah 1) (ar)))) 1 [3]) (ar))))))
theorem Nm:∀ ds μ Q,fi ds μ Q→Ga { nx:=fun _ μ'=>RT Q .non μ',rt:=RT Q } (ini 4 ds) μ:=by
  intro ds μ Q h
  unfold fi L3.fi at h
  split at h
  case h_2=>exact h.elim
  obtain ⟨⟨ns,rfl,hn⟩,k⟩:=h
  walk_at "ini"
  unfold Ga
  walk_at "go"
  refine ⟨⟨ns,rfl⟩,fun b μ1 hb P1 _=>?_⟩
  walk_at "go"
  refine ⟨P1,fun p m μ2 K M P2=>?_⟩
  have s1:=K.s1
  walk_at "go"
  refine aV P2.pot (by decide) (by decide) fun t μ3 t0 t1 P3=>?_
  obtain ⟨t,rfl⟩:∃ j:Nat,t=(j:Int):=⟨t.toNat,by omega⟩
  walk_at "go"
  refine ⟨p,m,1+t,⟨rfl,K,by omega,by omega⟩,?_⟩
  walk_at "go"
  refine bS p.ss Sn.toD (fun _=>.bl true) rfl (by omega) (fun s hs μ' sb N nn=>?_) ?_
  · walk_at "go"
    exact ⟨p,m,s,1+t,⟨rfl,rfl,K,hs,by omega⟩,nn⟩
  refine ⟨p.ss.map fun _=>true,by simp,?_⟩
  rw[show (p.ss.map fun _=>true).all id=true by simp]
  exact ⟨_,.refl _,k _⟩
theorem mq (ns:List Int)(h:ns.length≤63)(μ:Mu):fi [.ls (ns.map .int)] μ (fun d _=>d=.bl true):=L3.mq ns h μ
end Kk
namespace Kk
open PySem L2 L3
theorem PY {α:Type}{us:List α}(h:us.length=1):∃ x0,us=[x0]:=match us,h with | [x0],_=>⟨x0,rfl⟩
theorem Qy {α:Type}{us:List α}(h:us.length=2):∃ x0 x1,us=[x0,x1]:=match us,h with | [x0,x1],_=>⟨x0,x1,rfl⟩
theorem QA {α:Type}{us:List α}(h:us.length=3):∃ x0 x1 x2,us=[x0,x1,x2]:=match us,h with | [x0,x1,x2],_=>⟨x0,x1,x2,rfl⟩
theorem Qt {α:Type}{us:List α}(h:us.length=4):∃ x0 x1 x2 x3,us=[x0,x1,x2,x3]:=match us,h with | [x0,x1,x2,x3],_=>⟨x0,x1,x2,x3,rfl⟩
theorem Qk {α:Type}{us:List α}(h:us.length=5):∃ x0 x1 x2 x3 x4,us=[x0,x1,x2,x3,x4]:=match us,h with | [x0,x1,x2,x3,x4],_=>⟨x0,x1,x2,x3,x4,rfl⟩
def top (i:Nat):Stmt:=PySem.Challenge.pw_swellways_k37_whole_begins_and_ends.main.body.getD i (.Pass ⟨0,0,0,0⟩)
abbrev mZ:Stmt:=top 33
abbrev Hm:Stmt:=top 34
abbrev Ez:Stmt:=top 35
abbrev A1:Stmt:=top 36
abbrev Bh:Stmt:=top 37
abbrev EM:Stmt:=top 38
abbrev oN:Stmt:=top 39
abbrev xu:Stmt:=top 40
abbrev vt:Stmt:=top 45
abbrev pK:Stmt:=top 46
abbrev sF:Stmt:=top 47
abbrev jH:Stmt:=top 48
abbrev mT:Stmt:=top 49
abbrev BJ:Stmt:=top 50
abbrev EB:Stmt:=top 51
abbrev rf:Stmt:=top 52
abbrev lM:Stmt:=top 54
abbrev qj:Stmt:=top 55
abbrev gS:Stmt:=top 56
abbrev gq:Stmt:=top 57
abbrev sX:Stmt:=top 58
abbrev jm:Stmt:=top 60
abbrev oA:Stmt:=top 61
abbrev jB:Stmt:=top 62
abbrev qZ:Stmt:=top 63
abbrev qu:Stmt:=top 64
abbrev vn:Stmt:=top 65
abbrev fJ:Stmt:=top 66
abbrev oK:Stmt:=top 67
abbrev lj:Stmt:=top 68
abbrev nE:Stmt:=top 69
abbrev E7:Stmt:=top 70
abbrev gF:Stmt:=top 71
abbrev mV:Stmt:=top 72
abbrev cI:Stmt:=top 73
abbrev cJ:Stmt:=top 74
abbrev Ml:Stmt:=top 76
abbrev pC:Stmt:=top 78
abbrev qG:Stmt:=top 79
abbrev ng:Stmt:=top 80
abbrev iK:Stmt:=top 81
abbrev kr:Stmt:=top 82
abbrev i6:Stmt:=top 83
abbrev mS:Stmt:=top 84
abbrev nD:Stmt:=top 85
abbrev gX:Stmt:=top 86
abbrev jO:Stmt:=top 87
abbrev eg:Stmt:=top 88
abbrev HJ:Stmt:=top 89
set_option genInjectivity false in
set_option genSizeOfSpec false in
structure Adr where
  nc:Addr
  xk:FuncData
  Fs:Addr
  NT:FuncData
  FT:Addr
  MN:FuncData
  BF:Addr
  LB:FuncData
  A7:Addr
  Jp:FuncData
  Hr:Addr
  NO:FuncData
  oV:Addr
  Av:FuncData
  vd:Addr
  Gn:FuncData
  vw:Addr
  G3:FuncData
  pQ:Addr
  yD:FuncData
  tH:Addr
  Dd:FuncData
  jR:Addr
  o5:FuncData
  mU:Addr
  vS:FuncData
  AW:Addr
  Ju:FuncData
  Hw:Addr
  MW:FuncData
  qJ:Addr
  yl:FuncData
  lT:Addr
  tI:FuncData
  qE:Addr
  y3:FuncData
  mR:Addr
  vv:FuncData
  jo:Addr
  oZ:FuncData
  sT:Addr
  Cv:FuncData
  jn:Addr
  qm:FuncData
  Cb:Addr
  Kj:FuncData
  nj:Addr
  vR:FuncData
  o9:Addr
  Az:FuncData
  qK:Addr
  z9:FuncData
  xK:Addr
  D0:FuncData
  i9:Addr
  nV:FuncData
  xZ:Addr
  Hy:FuncData
  lG:Addr
  tK:FuncData
  ni:Addr
  vf:FuncData
  EF:Addr
  Oe:FuncData
  nv:Addr
  yg:FuncData
  nJ:Addr
  vK:FuncData
  ju:Addr
  qB:FuncData
  sO:Addr
  Cn:FuncData
  L9:Addr
  QI:FuncData
  qA:Addr
  Ay:FuncData
  qg:Addr
  zd:FuncData
  mO:Addr
  wW:FuncData
  lV:Addr
  uY:FuncData
  ko:Addr
  ro:FuncData
  i8:Addr
  nP:FuncData
  nG:Addr
  xc:FuncData
  nz:Addr
  wI:FuncData
  kn:Addr
  rL:FuncData
  nk:Addr
  xx:FuncData
  gB:Addr
  kK:FuncData
  FO:Addr
  Mm:FuncData
structure Txt (Pm:Params) (K:PySem.W.Frag) (mg:Str→Option Value) (t:Adr):Prop where
  xV:mg "common_of" = some (.ref t.nc)
  vZ:Fun K "common_of" "common_of" mZ t.nc t.xk
  Ph:mg "part" = some (.ref t.Fs)
  Ni:Fun K "part" "part" Hm t.Fs t.NT
  Pb:mg "plus" = some (.ref t.FT)
  Nr:Fun K "plus" "plus" Ez t.FT t.MN
  KO:mg "minus" = some (.ref t.BF)
  Jh:Fun K "minus" "minus" A1 t.BF t.LB
  Kd:mg "times" = some (.ref t.A7)
  Ls:Fun K "times" "times" Bh t.A7 t.Jp
  Oa:mg "less" = some (.ref t.Hr)
  NV:Fun K "less" "less" EM t.Hr t.NO
  Ax:mg "floor_of" = some (.ref t.oV)
  zh:Fun K "floor_of" "floor_of" oN t.oV t.Av
  EY:mg "cut_by" = some (.ref t.vd)
  Fp:Fun K "cut_by" "cut_by" xu t.vd t.Gn
  FH:mg "top_of" = some (.ref t.vw)
  Fh:Fun K "top_of" "top_of" vt t.vw t.G3
  zW:mg "begun_by" = some (.ref t.pQ)
  AR:Fun K "begun_by" "begun_by" pK t.pQ t.yD
  C1:mg "is_idle" = some (.ref t.tH)
  DH:Fun K "is_idle" "is_idle" sF t.tH t.Dd
  pz:mg "share_behind" = some (.ref t.jR)
  oX:Fun K "share_behind" "share_behind" jH t.jR t.o5
  xC:mg "factor_of" = some (.ref t.mU)
  vo:Fun K "factor_of" "factor_of" mT t.mU t.vS
  J4:mg "moved" = some (.ref t.AW)
  IU:Fun K "moved" "moved" BJ t.AW t.Ju
  Nn:mg "held" = some (.ref t.Hw)
  Pd:Fun K "held" "held" EB t.Hw t.MW
  zH:mg "heard_by" = some (.ref t.qJ)
  zm:Fun K "heard_by" "heard_by" rf t.qJ t.yl
  uG:mg "put_behind" = some (.ref t.lT)
  uj:Fun K "put_behind" "put_behind" lM t.lT t.tI
  yI:mg "taken_in" = some (.ref t.qE)
  AL:Fun K "taken_in" "taken_in" qj t.qE t.y3
  vO:mg "next_name" = some (.ref t.mR)
  wJ:Fun K "next_name" "next_name" gS t.mR t.vv
  p9:mg "out_by_turns" = some (.ref t.jo)
  pq:Fun K "out_by_turns" "out_by_turns" gq t.jo t.oZ
  Cg:mg "let_out" = some (.ref t.sT)
  Cq:Fun K "let_out" "let_out" sX t.sT t.Cv
  qF:mg "begun_sender" = some (.ref t.jn)
  pM:Fun K "begun_sender" "begun_sender" jm t.jn t.qm
  IZ:mg "begun" = some (.ref t.Cb)
  JM:Fun K "begun" "begun" oA t.Cb t.Kj
  vX:mg "under_way" = some (.ref t.nj)
  vJ:Fun K "under_way" "under_way" jB t.nj t.vR
  y1:mg "new_ones" = some (.ref t.o9)
  yG:Fun K "new_ones" "new_ones" qZ t.o9 t.Az
  zC:mg "sent_off" = some (.ref t.qK)
  AN:Fun K "sent_off" "sent_off" qu t.qK t.z9
  He:mg "beaten" = some (.ref t.xK)
  GH:Fun K "beaten" "beaten" vn t.xK t.D0
  nR:mg "sent_in_order" = some (.ref t.i9)
  oh:Fun K "sent_in_order" "sent_in_order" fJ t.i9 t.nV
  FJ:mg "passed" = some (.ref t.xZ)
  Eh:Fun K "passed" "passed" oK t.xZ t.Hy
  uF:mg "way_behind" = some (.ref t.lG)
  ui:Fun K "way_behind" "way_behind" lj t.lG t.tK
  xh:mg "events_of" = some (.ref t.ni)
  vQ:Fun K "events_of" "events_of" nE t.ni t.vf
  MF:mg "aged" = some (.ref t.EF)
  O0:Fun K "aged" "aged" E7 t.EF t.Oe
  xH:mg "way_after" = some (.ref t.nv)
  xA:Fun K "way_after" "way_after" gF t.nv t.yg
  xG:mg "due_after" = some (.ref t.nJ)
  vL:Fun K "due_after" "due_after" mV t.nJ t.vK
  pf:mg "sender_after" = some (.ref t.ju)
  qM:Fun K "sender_after" "sender_after" cI t.ju t.qB
  CD:mg "stepped" = some (.ref t.sO)
  CK:Fun K "stepped" "stepped" cJ t.sO t.Cn
  Rb:mg "run" = some (.ref t.L9)
  QO:Fun K "run" "run" Ml t.L9 t.QI
  AE:mg "_law_pot" = some (.ref t.qA)
  AO:Fun K "_law_pot" "_law_pot" pC t.qA t.Ay
  y8:mg "_law_mix" = some (.ref t.qg)
  Ab:Fun K "_law_mix" "_law_mix" qG t.qg t.zd
  xS:mg "_law_take" = some (.ref t.mO)
  wZ:Fun K "_law_take" "_law_take" ng t.mO t.wW
  uh:mg "_law_names" = some (.ref t.lV)
  ud:Fun K "_law_names" "_law_names" iK t.lV t.uY
  rG:mg "_law_lowest" = some (.ref t.ko)
  rB:Fun K "_law_lowest" "_law_lowest" kr t.ko t.ro
  nK:mg "_law_fraction" = some (.ref t.i8)
  nU:Fun K "_law_fraction" "_law_fraction" i6 t.i8 t.nP
  wj:mg "_law_rule" = some (.ref t.nG)
  wC:Fun K "_law_rule" "_law_rule" mS t.nG t.xc
  vF:mg "_law_ways" = some (.ref t.nz)
  wM:Fun K "_law_ways" "_law_ways" nD t.nz t.wI
  rD:mg "_law_sender" = some (.ref t.kn)
  rj:Fun K "_law_sender" "_law_sender" gX t.kn t.rL
  vh:mg "_law_plan" = some (.ref t.nk)
  xR:Fun K "_law_plan" "_law_plan" jO t.nk t.xx
  kx:mg "_law_sender_good" = some (.ref t.gB)
  kR:Fun K "_law_sender_good" "_law_sender_good" eg t.gB t.kK
  QY:mg "law" = some (.ref t.FO)
  Bz:Fun K "law" "law" HJ t.FO t.Mm
  GW:mg "abs" = none
  Rr:mg "all" = none
  ND:mg "dict" = none
  nq:mg "enumerate" = none
  PL:mg "int" = none
  eR:mg "len" = none
  zQ:mg "list" = none
  BL:mg "max" = none
  Qm:mg "min" = none
  oD:mg "range" = none
  qW:mg "sorted" = none
  PN:mg "sum" = none
  bF:mg "tuple" = none
  su:mg "zip" = none
  uI:GV K mg "AGAIN" (.int 6)
  LM:GV K mg "AGE" (.int 2)
  NH:GV K mg "BEAT" (.int 2)
  KS:GV K mg "BEGIN" (.int 3)
  vx:GV K mg "COMING" (.int 0)
  EL:GV K mg "DUE" (.int 1)
  HF:GV K mg "GOOD" (.int 8)
  D9:GV K mg "GRID" (.int 0)
  Ge:GV K mg "HALF" (.tup [.int 1,.int 2])
  Bt:GV K mg "HOP" (.int 3)
  jE:GV K mg "IS_MARKED" (.int 4)
  M4:GV K mg "LAST" (.int 2)
  o4:GV K mg "LEFT" (.int 5)
  oT:GV K mg "LOST" (.int 7)
  Mt:GV K mg "MANY" (.int 4)
  EZ:GV K mg "MARK" (.int 3)
  ya:GV K mg "MARKED" (.int 9)
  bZ:GV K mg "NAME" (.int 0)
  zV:GV K mg "NEXT" (.int 4)
  DO:GV K mg "NOUGHT" (.tup [.int 0,.int 1])
  jw:GV K mg "NUMBER" (.int 1)
  GJ:GV K mg "ONE" (.tup [.int 1,.int 1])
  Am:GV K mg "PACE" (.int 1)
  FK:GV K mg "ROAD" (.int 1)
  OX:GV K mg "ROOM" (.int 2)
  F3:GV K mg "RULE" (.int 5)
  tj:GV K mg "SENDERS" (.int 2)
  Jq:GV K mg "SHARE" (.int 3)
  O2:GV K mg "SORT" (.int 4)
  qQ:GV K mg "STANDING" (.int 1)
  nT:GV K mg "STATE_SENDERS" (.int 1)
  lr:GV K mg "STATE_WAYS" (.int 0)
  Et:GV K mg "WAIT" (.int 10)
  tJ:GV K mg "WAYS" (.int 1)
  xI:GV K mg "WINDOW" (.int 2)
local macro_rules | `(tactic| walk_at "sc")=>`(tactic| exact ⟨rfl,rfl,rfl,by decide +kernel,rfl,by decide +kernel,by decide +kernel⟩)
local macro_rules | `(tactic| walk_at "b1")=>`(tactic| (rename_i hl;obtain ⟨x0,e⟩:=PY hl;subst e;rfl))
local macro_rules | `(tactic| walk_at "b2")=>`(tactic| (rename_i hl;obtain ⟨x0,x1,e⟩:=Qy hl;subst e;rfl))
local macro_rules | `(tactic| walk_at "b3")=>`(tactic| (rename_i hl;obtain ⟨x0,x1,x2,e⟩:=QA hl;subst e;rfl))
local macro_rules | `(tactic| walk_at "b4")=>`(tactic| (rename_i hl;obtain ⟨x0,x1,x2,x3,e⟩:=Qt hl;subst e;rfl))
local macro_rules | `(tactic| walk_at "b5")=>`(tactic| (rename_i hl;obtain ⟨x0,x1,x2,x3,x4,e⟩:=Qk hl;subst e;rfl))
section
variable {P:Program} {w:World} {K:PySem.W.Frag} {mg:Str→Option Value} {base:Heap} {t:Adr}
theorem di:aI ["one", "other", "divisor", "rest", "behind"] ["one", "other"] (av mZ):=by walk_at "sc"
theorem wb (T:Txt w.params K mg t):aQ P w K mg base 1 "common_of" ["one", "other"] L3.dq:=aK T.xV T.vZ di L3.rH L3.tO (fun _ _ _ _ _ _ _ _=>by walk_at "b2") fun _ _ _ _ _ _ hr hu=>
  ak (aC 2 di.nd (aZ oW tM rfl T.GW rfl (aa (ae 0) (ai)))) (ak (aC 3 di.nd (aZ oW tM rfl T.GW rfl (aa (ae 1) (ai)))) (ak (qN PassesOwn.never (lY (ae 3) (le_int)) (ak (aC 4 di.nd (gY (ae 2) (ae 3))) (ak (aC 2 di.nd (ae 3)) (ax (aC 3 di.nd (ae 4)))))) (ax (aF (ae 2)))))
theorem uL:aI ["top", "bottom", "divisor"] ["top", "bottom"] (av Hm):=by walk_at "sc"
theorem oU (T:Txt w.params K mg t):aQ P w K mg base 2 "part" ["top", "bottom"] L3.fB:=aK T.Ph T.Ni uL L3.HI L3.JP (fun _ _ _ _ _ _ _ _=>by walk_at "b2") fun _ _ _ _ _ _ hr hu=>
  ak (aC 2 uL.nd (ao (wb T) hr rfl (aa (ae 0) (aa (ae 1) (ai))))) (ak (bK (jJ (ae 1) (le_int)) (ax (aC 2 uL.nd (le_neg (ae 2)))) (a8)) (ax (aF (aT (aa (jk (ae 0) (ae 2)) (aa (jk (ae 1) (ae 2)) (ai)))))))
theorem KD:aI ["one", "other"] ["one", "other"] (av Ez):=by walk_at "sc"
theorem FI (T:Txt w.params K mg t):aQ P w K mg base 3 "plus" ["one", "other"] L3.gR:=aK T.Pb T.Nr KD L3.G9 L3.K3 (fun _ _ _ _ _ _ _ _=>by walk_at "b2") fun _ _ _ _ _ _ hr hu=>
  ax (aF (ao (oU T) hr rfl (aa (aJ (le_mul (au (ae 0) (le_int)) (au (ae 1) (le_int))) (le_mul (au (ae 1) (le_int)) (au (ae 0) (le_int)))) (aa (le_mul (au (ae 0) (le_int)) (au (ae 1) (le_int))) (ai)))))
theorem Eo:aI ["one", "other"] ["one", "other"] (av A1):=by walk_at "sc"
theorem uB (T:Txt w.params K mg t):aQ P w K mg base 3 "minus" ["one", "other"] L3.fG:=aK T.KO T.Jh Eo L3.Cz L3.HR (fun _ _ _ _ _ _ _ _=>by walk_at "b2") fun _ _ _ _ _ _ hr hu=>
  ax (aF (ao (oU T) hr rfl (aa (fL (le_mul (au (ae 0) (le_int)) (au (ae 1) (le_int))) (le_mul (au (ae 1) (le_int)) (au (ae 0) (le_int)))) (aa (le_mul (au (ae 0) (le_int)) (au (ae 1) (le_int))) (ai)))))
theorem Hu:aI ["one", "other"] ["one", "other"] (av Bh):=by walk_at "sc"
theorem u9 (T:Txt w.params K mg t):aQ P w K mg base 3 "times" ["one", "other"] L3.fE:=aK T.Kd T.Ls Hu L3.CZ L3.Hf (fun _ _ _ _ _ _ _ _=>by walk_at "b2") fun _ _ _ _ _ _ hr hu=>
  ax (aF (ao (oU T) hr rfl (aa (le_mul (au (ae 0) (le_int)) (au (ae 1) (le_int))) (aa (le_mul (au (ae 0) (le_int)) (au (ae 1) (le_int))) (ai)))))
theorem JC:aI ["one", "other"] ["one", "other"] (av EM):=by walk_at "sc"
theorem Fn (T:Txt w.params K mg t):aQ P w K mg base 1 "less" ["one", "other"] L3.iQ:=aK T.Oa T.NV JC L3.EK L3.Lu (fun _ _ _ _ _ _ _ _=>by walk_at "b2") fun _ _ _ _ _ _ hr hu=>
  ax (aF (QU (le_mul (au (ae 0) (le_int)) (au (ae 1) (le_int))) (le_mul (au (ae 1) (le_int)) (au (ae 0) (le_int)))))
theorem w4:aI ["one"] ["one"] (av oN):=by walk_at "sc"
theorem zp (T:Txt w.params K mg t):aQ P w K mg base 1 "floor_of" ["one"] L3.eE:=aK T.Ax T.zh w4 L3.tV L3.xn (fun _ _ _ _ _ _ _ _=>by walk_at "b1") fun _ _ _ _ _ _ hr hu=>
  ax (aF (jk (au (ae 0) (le_int)) (au (ae 0) (le_int))))
theorem Ct:aI ["one", "grid"] ["one", "grid"] (av xu):=by walk_at "sc"
theorem lg (T:Txt w.params K mg t):aQ P w K mg base 3 "cut_by" ["one", "grid"] L3.dm:=aK T.EY T.Fp Ct L3.Au L3.CB (fun _ _ _ _ _ _ _ _=>by walk_at "b2") fun _ _ _ _ _ _ hr hu=>
  ax (aF (ao (oU T) hr rfl (aa (jk (le_mul (au (ae 0) (le_int)) (ae 1)) (au (ae 0) (le_int))) (aa (ae 1) (ai)))))
theorem Di:aI ["rule"] ["rule"] (av vt):=by walk_at "sc"
theorem w6 (T:Txt w.params K mg t):aQ P w K mg base 1 "top_of" ["rule"] L3.ft:=aK T.FH T.Fh Di L3.zG L3.Dz (fun _ _ _ _ _ _ _ _=>by walk_at "b1") fun _ _ _ _ _ _ hr hu=>
  ax (aF (au (ae 0) (fL (aZ a9 bQ rfl T.eR rfl (aa (ae 0) (ai))) (le_int))))
theorem we:aI ["rule", "grid"] ["rule", "grid"] (av pK):=by walk_at "sc"
theorem yo (T:Txt w.params K mg t):aQ P w K mg base 4 "begun_by" ["rule", "grid"] L3.eF:=aK T.zW T.AR we L3.uu L3.wH (fun _ _ _ _ _ _ _ _=>by walk_at "b2") fun _ _ _ _ _ _ hr hu=>
  ax (aF (aT (aa (ao (lg T) hr rfl (aa (au (ae 0) (le_int)) (aa (ae 1) (ai)))) (aa (aE rfl T.DO) (ai)))))
theorem AH:aI ["rule", "heard"] ["rule", "heard"] (av sF):=by walk_at "sc"
theorem Dl (T:Txt w.params K mg t):aQ P w K mg base 1 "is_idle" ["rule", "heard"] L3.fj:=aK T.C1 T.DH AH L3.wV L3.yz (fun _ _ _ _ _ _ _ _=>by walk_at "b2") fun _ _ _ _ _ _ hr hu=>
  ax (aF (Mp (le_eq hu (au (ae 0) (le_int)) (le_str)) (Ih (le_eq hu (aJ (aJ (au (ae 1) (le_int)) (au (ae 1) (le_int))) (au (ae 1) (le_int))) (le_int)))))
theorem fI:aI ["rule", "grid", "share", "heard", "bad", "nearer"] ["rule", "grid", "share", "heard"] (av jH):=by walk_at "sc"
theorem oO (T:Txt w.params K mg t):aQ P w K mg base 4 "share_behind" ["rule", "grid", "share", "heard"] L3.b7:=aK T.pz T.oX fI L3.ma L3.nM (fun _ _ _ _ _ _ _ _=>by walk_at "b4") fun _ _ _ _ _ _ hr hu=>
  ak (bK (vE hu (au (ae 0) (le_int)) (le_str)) (ax (aF (ae 2))) (a8)) (ak (aC 4 fI.nd (aJ (au (ae 3) (le_int)) (au (ae 3) (le_int)))) (ak (aC 5 fI.nd (ao (u9 T) hr rfl (aa (au (ae 0) (le_int)) (aa (ao (uB T) hr rfl (aa (ao (oU T) hr rfl (aa (ae 4) (aa (aJ (au (ae 3) (le_int)) (ae 4)) (ai)))) (aa (ae 2) (ai)))) (ai))))) (ax (aF (ao (lg T) hr rfl (aa (ao (FI T) hr rfl (aa (ae 2) (aa (ae 5) (ai)))) (aa (ae 1) (ai))))))))
theorem uJ:aI ["rule", "share", "heard"] ["rule", "share", "heard"] (av mT):=by walk_at "sc"
theorem vk (T:Txt w.params K mg t):aQ P w K mg base 4 "factor_of" ["rule", "share", "heard"] L3.dr:=aK T.xC T.vo uJ L3.rJ L3.ug (fun _ _ _ _ _ _ _ _=>by walk_at "b3") fun _ _ _ _ _ _ hr hu=>
  ak (bK (lt_eq hu (au (ae 0) (le_int)) (le_str)) (ax (aF (iV (lY (au (ae 2) (le_int)) (le_int)) (aE rfl T.Ge) (cL)))) (a8)) (ak (bK (lt_eq hu (aJ (au (ae 2) (le_int)) (au (ae 2) (le_int))) (le_int)) (ax (aF (iV (lt_eq hu (au (ae 0) (le_int)) (le_str)) (au (ae 0) (le_int)) (cL)))) (a8)) (ak (bK (lt_eq hu (au (ae 0) (le_int)) (le_str)) (ax (aF (ao (uB T) hr rfl (aa (aE rfl T.GJ) (aa (ao (u9 T) hr rfl (aa (aE rfl T.Ge) (aa (ae 1) (ai)))) (ai)))))) (a8)) (ax (aF (au (ae 0) (le_int))))))
theorem Ia:aI ["rule", "window", "heard"] ["rule", "window", "heard"] (av BJ):=by walk_at "sc"
theorem Kx (T:Txt w.params K mg t):aQ P w K mg base 4 "moved" ["rule", "window", "heard"] L3.h9:=aK T.J4 T.IU Ia L3.Ci L3.Gb (fun _ _ _ _ _ _ _ _=>by walk_at "b3") fun _ _ _ _ _ _ hr hu=>
  ak (bK (LW.lt (nr (vE hu (au (ae 0) (le_int)) (le_str)) (l7 (jJ (au (ae 2) (le_int)) (au (ae 0) (le_int)))))) (ax (aF (ao (FI T) hr rfl (aa (ae 1) (aa (au (ae 0) (le_int)) (ai)))))) (a8)) (ak (bK (lY (au (ae 2) (le_int)) (au (ae 0) (le_int))) (ax (aF (ao (uB T) hr rfl (aa (ae 1) (aa (au (ae 0) (le_int)) (ai)))))) (a8)) (ax (aF (ae 1))))
theorem JL:aI ["rule", "grid", "window"] ["rule", "grid", "window"] (av EB):=by walk_at "sc"
theorem Em (T:Txt w.params K mg t):aQ P w K mg base 4 "held" ["rule", "grid", "window"] L3.iE:=aK T.Nn T.Pd JL L3.Fd L3.JQ (fun _ _ _ _ _ _ _ _=>by walk_at "b3") fun _ _ _ _ _ _ hr hu=>
  ak (bK (Ao (ao (Fn T) hr rfl (aa (ae 2) (aa (aE rfl T.GJ) (ai))))) (ax (aF (aE rfl T.GJ))) (a8)) (ak (bK (Ao (ao (Fn T) hr rfl (aa (ao (w6 T) hr rfl (aa (ae 0) (ai))) (aa (ae 2) (ai))))) (ax (aF (ao (lg T) hr rfl (aa (ao (w6 T) hr rfl (aa (ae 0) (ai))) (aa (ae 1) (ai)))))) (a8)) (ax (aF (ao (lg T) hr rfl (aa (ae 2) (aa (ae 1) (ai)))))))
theorem jQ:aI ["rule", "grid", "window", "share", "heard", "nearer", "factor"] ["rule", "grid", "window", "share", "heard"] (av rf):=by walk_at "sc"
theorem AQ (T:Txt w.params K mg t):aQ P w K mg base 5 "heard_by" ["rule", "grid", "window", "share", "heard"] L3.eB:=aK T.zH T.zm jQ L3.tY L3.ve (fun _ _ _ _ _ _ _ _=>by walk_at "b5") fun _ _ _ _ _ _ hr hu=>
  ak (bK (Ao (ao (Dl T) hr rfl (aa (ae 0) (aa (ae 4) (ai))))) (ax (aF (aT (aa (ae 2) (aa (ae 3) (ai)))))) (a8)) (ak (aC 5 jQ.nd (ao (oO T) hr rfl (aa (ae 0) (aa (ae 1) (aa (ae 3) (aa (ae 4) (ai))))))) (ak (aC 6 jQ.nd (ao (vk T) hr rfl (aa (ae 0) (aa (ae 5) (aa (ae 4) (ai)))))) (ak (bK (nF (ae 6) (cL)) (ax (aF (aT (aa (ao (Em T) hr rfl (aa (ae 0) (aa (ae 1) (aa (ao (Kx T) hr rfl (aa (ae 0) (aa (ae 2) (aa (ae 4) (ai))))) (ai))))) (aa (ae 5) (ai)))))) (a8)) (ax (aF (aT (aa (ao (Em T) hr rfl (aa (ae 0) (aa (ae 1) (aa (ao (u9 T) hr rfl (aa (ae 2) (aa (ae 6) (ai)))) (ai))))) (aa (ae 5) (ai)))))))))
theorem rA:aI ["way", "letter", "ahead"] ["way", "letter", "ahead"] (av lM):=by walk_at "sc"
theorem uw (T:Txt w.params K mg t):aQ P w K mg base 1 "put_behind" ["way", "letter", "ahead"] L3.cZ:=aK T.uG T.uj rA L3.qI L3.rN (fun _ _ _ _ _ _ _ _=>by walk_at "b3") fun _ _ _ _ _ _ hr hu=>
  ak (bK (LW.lt (nr (nF (au (ae 0) (aE rfl T.EZ)) (cL)) (l7 (jJ (ae 2) (au (ae 0) (aE rfl T.EZ)))))) (ax (aF (ae 1))) (a8)) (ax (aF (aJ (nH (ae 1) (pZ) (iP (aE rfl T.jE))) (aT (aa (le_int) (ai))))))
theorem gL:aI ["way", "standing", "letters", "stands", "lost", "letter"] ["way", "standing", "letters"] (av qj):=by walk_at "sc"
theorem AA (T:Txt w.params K mg t):aQ P w K mg base 2 "taken_in" ["way", "standing", "letters"] L3.eI:=aK T.yI T.AL gL L3.t7 L3.vH (fun _ _ _ _ _ _ _ _=>by walk_at "b3") fun _ _ _ _ _ _ hr hu=>
  ak (aC 3 gL.nd (aX iN r8 rfl T.zQ rfl (aa (ae 1) (ai)))) (ak (aC 4 gL.nd (jL (ai))) (ak (gs PassesOwn.never rfl (bN (ae 2)) (ke 5 gL.nd) (ax (bK (Gm (aZ a9 bQ rfl T.eR rfl (aa (ae 3) (ai))) (au (ae 0) (aE rfl T.OX))) (ax (eZ (le_app (ae 4) (ae 5)))) (ax (eZ (le_app (ae 3) (ao (uw T) hr rfl (aa (ae 0) (aa (ae 5) (aa (aZ a9 bQ rfl T.eR rfl (aa (ae 3) (ai))) (ai))))))))))) (ax (aF (aT (aa (aX aO a6 rfl T.bF rfl (aa (ae 3) (ai))) (aa (aX aO a6 rfl T.bF rfl (aa (ae 4) (ai))) (ai))))))))
theorem iJ:aI ["names", "owners", "last", "there", "behind"] ["names", "owners", "last"] (av gS):=by walk_at "sc"
theorem xJ (T:Txt w.params K mg t):aQ P w K mg base 1 "next_name" ["names", "owners", "last"] L3.dj:=aK T.vO T.wJ iJ L3.rR L3.t9 (fun _ _ _ _ _ _ _ _=>by walk_at "b3") fun _ _ _ _ _ _ hr hu=>
  ak (gu (fsc:=av gS) 3 iJ.nd ["names", "owners", "last", "there", "behind"] ["name", "owners"] 1 [1] rfl rfl (bN (ae 0)) (fun cl C s₀ H₀ ex=>⟨bj 0 (show (["name", "owners"]:List Str).Nodup from by decide +kernel),fA (O1 hu (ae 0) (ae 1)),ae 0⟩) rfl rfl (by decide +kernel)) (ak (gu (fsc:=av gS) 4 iJ.nd ["names", "owners", "last", "there", "behind"] ["name", "last"] 1 [2] rfl rfl (bN (ae 3)) (fun cl C s₀ H₀ ex=>⟨bj 0 (show (["name", "last"]:List Str).Nodup from by decide +kernel),fA (OV (ae 0) (ae 1)),ae 0⟩) rfl rfl (by decide +kernel)) (ax (aF (iV (lY (aZ a9 bQ rfl T.eR rfl (aa (ae 4) (ai))) (le_int)) (au (ae 4) (le_int)) (au (ae 3) (le_int))))))
theorem b6:aI ["way", "names", "standing", "last", "stands", "out", "name", "owners"] ["way", "names", "standing", "last"] (av gq):=by walk_at "sc"
theorem qe (T:Txt w.params K mg t):aQ P w K mg base 2 "out_by_turns" ["way", "names", "standing", "last"] L3.b9:=aK T.p9 T.pq b6 L3.l9 L3.oa (fun _ _ _ _ _ _ _ _=>by walk_at "b4") fun _ _ _ _ _ _ hr hu=>
  ak (aC 4 b6.nd (aX iN r8 rfl T.zQ rfl (aa (ae 2) (ai)))) (ak (aC 5 b6.nd (jL (ai))) (ak (aC 6 b6.nd (ae 3)) (ak (qN PassesOwn.never (LW.lt (uA (lY (aZ a9 bQ rfl T.eR rfl (aa (ae 4) (ai))) (le_int)) (oB (jJ (aZ a9 bQ rfl T.eR rfl (aa (ae 5) (ai))) (au (ae 0) (aE rfl T.Am)))))) (ak (mL (fsc:=av gq) 7 b6.nd ["way", "names", "standing", "last", "stands", "out", "name", "owners"] ["letter"] 1 [] rfl rfl (ae 4) (fun cl C s₀ H₀ ex=>⟨bj 0 (show (["letter"]:List Str).Nodup from by decide +kernel),bX,au (ae 0) (aE rfl T.bZ)⟩) rfl rfl (by decide +kernel)) (ak (aC 6 b6.nd (ao (xJ T) hr rfl (aa (ae 1) (aa (ae 7) (aa (ae 6) (ai)))))) (ax (eZ (le_app (ae 5) (Od (ae 4) (EX hu (ae 7) (ae 6))))))))) (ax (aF (aT (aa (aX aO a6 rfl T.bF rfl (aa (ae 5) (ai))) (aa (aX aO a6 rfl T.bF rfl (aa (ae 4) (ai))) (aa (ae 6) (ai))))))))))
theorem AM:aI ["way", "names", "standing", "last"] ["way", "names", "standing", "last"] (av sX):=by walk_at "sc"
theorem Cd (T:Txt w.params K mg t):aQ P w K mg base 3 "let_out" ["way", "names", "standing", "last"] L3.fv:=aK T.Cg T.Cq AM L3.vI L3.yN (fun _ _ _ _ _ _ _ _=>by walk_at "b4") fun _ _ _ _ _ _ hr hu=>
  ak (bK (lt_eq hu (au (ae 0) (aE rfl T.O2)) (le_str)) (ax (aF (ao (qe T) hr rfl (aa (ae 0) (aa (ae 1) (aa (ae 2) (aa (ae 3) (ai)))))))) (a8)) (ax (aF (aT (aa (aX aO a6 rfl T.bF rfl (aa (nH (ae 2) (pZ) (iP (au (ae 0) (aE rfl T.Am)))) (ai))) (aa (aX aO a6 rfl T.bF rfl (aa (nH (ae 2) (iP (au (ae 0) (aE rfl T.Am))) (pZ)) (ai))) (aa (le_str) (ai)))))))
theorem jb:aI ["grid", "sender", "first"] ["grid", "sender"] (av jm):=by walk_at "sc"
theorem qv (T:Txt w.params K mg t):aQ P w K mg base 5 "begun_sender" ["grid", "sender"] L3.b8:=aK T.qF T.pM jb L3.mN L3.nL (fun _ _ _ _ _ _ _ _=>by walk_at "b2") fun _ _ _ _ _ _ hr hu=>
  ak (aC 2 jb.nd (ao (yo T) hr rfl (aa (au (ae 1) (aE rfl T.F3)) (aa (ae 0) (ai))))) (ax (aF (aT (aa (au (ae 1) (aE rfl T.bZ)) (aa (au (ae 1) (aE rfl T.KS)) (aa (au (ae 2) (le_int)) (aa (au (ae 2) (le_int)) (aa (le_int) (aa (au (ae 1) (aE rfl T.Mt)) (aa (aT (ai)) (aa (aT (ai)) (aa (le_int) (aa (le_int) (aa (le_int) (ai)))))))))))))))
theorem v9:aI ["plan", "ways"] ["plan"] (av oA):=by walk_at "sc"
theorem IT (T:Txt w.params K mg t):aQ P w K mg base 6 "begun" ["plan"] L3.ik:=aK T.IZ T.JM v9 L3.CJ L3.G8 (fun _ _ _ _ _ _ _ _=>by walk_at "b1") fun _ _ _ _ _ _ hr hu=>
  ak (aC 1 v9.nd (aX aO a6 rfl T.bF rfl (aa (bM (fsc:=av oA) ["plan", "ways"] ["way"] 1 [] rfl rfl (bN (au (ae 0) (aE rfl T.tJ))) (fun cl C s₀ H₀ ex=>⟨bj 0 (show (["way"]:List Str).Nodup from by decide +kernel),bX,aT (aa (aT (ai)) (aa (aT (ai)) (aa (le_str) (ai))))⟩) rfl rfl (by decide +kernel)) (ai)))) (ax (aF (aT (aa (ae 1) (aa (aX aO a6 rfl T.bF rfl (aa (bM (fsc:=av oA) ["plan", "ways"] ["sender", "plan"] 1 [0] rfl rfl (bN (au (ae 0) (aE rfl T.tj))) (fun cl C s₀ H₀ ex=>⟨bj 0 (show (["sender", "plan"]:List Str).Nodup from by decide +kernel),bX,ao (qv T) hr rfl (aa (au (ae 1) (aE rfl T.D9)) (aa (ae 0) (ai)))⟩) rfl rfl (by decide +kernel)) (ai))) (ai))))))
theorem f9:aI ["state", "name", "count", "way"] ["state", "name"] (av jB):=by walk_at "sc"
theorem vA (T:Txt w.params K mg t):aQ P w K mg base 1 "under_way" ["state", "name"] L3.df:=aK T.vX T.vJ f9 L3.rq L3.t8 (fun _ _ _ _ _ _ _ _=>by walk_at "b2") fun _ _ _ _ _ _ hr hu=>
  ak (aC 2 f9.nd (le_int)) (ak (gs PassesOwn.never rfl (bN (au (ae 0) (aE rfl T.lr))) (ke 3 f9.nd) (ax (tG 2 f9.nd (aZ a9 bQ rfl T.eR rfl (aa (bM (fsc:=av jB) ["state", "name", "count", "way"] ["letter", "name"] 1 [1] rfl rfl (bN (aJ (au (ae 3) (aE rfl T.vx)) (au (ae 3) (aE rfl T.qQ)))) (fun cl C s₀ H₀ ex=>⟨bj 0 (show (["letter", "name"]:List Str).Nodup from by decide +kernel),fA (lt_eq hu (au (ae 0) (aE rfl T.bZ)) (ae 1)),ae 0⟩) rfl rfl (by decide +kernel)) (ai)))))) (ax (aF (ae 2))))
theorem xQ:aI ["kept", "places"] ["kept", "places"] (av qZ):=by walk_at "sc"
theorem yB (T:Txt w.params K mg t):aQ P w K mg base 1 "new_ones" ["kept", "places"] L3.eK:=aK T.y1 T.yG xQ L3.ub L3.yj (fun _ _ _ _ _ _ _ _=>by walk_at "b2") fun _ _ _ _ _ _ hr hu=>
  ax (aF (iV (nF (au (ae 0) (aE rfl T.o4)) (cL)) (ae 1) (aZ (De rfl) Gv rfl T.Qm rfl (aa (ae 1) (aa (au (ae 0) (aE rfl T.o4)) (ai))))))
theorem eC:aI ["kept", "places", "old", "count", "first", "left", "filled"] ["kept", "places"] (av qu):=by walk_at "sc"
theorem zl (T:Txt w.params K mg t):aQ P w K mg base 2 "sent_off" ["kept", "places"] L3.eG:=aK T.zC T.AN eC L3.tW L3.wX (fun _ _ _ _ _ _ _ _=>by walk_at "b2") fun _ _ _ _ _ _ hr hu=>
  ak (aC 2 eC.nd (nH (au (ae 0) (aE rfl T.uI)) (pZ) (iP (ae 1)))) (ak (aC 3 eC.nd (ao (yB T) hr rfl (aa (ae 0) (aa (fL (ae 1) (aZ a9 bQ rfl T.eR rfl (aa (ae 2) (ai)))) (ai))))) (ak (aC 4 eC.nd (au (ae 0) (aE rfl T.zV))) (ak (aC 5 eC.nd (iV (nF (au (ae 0) (aE rfl T.o4)) (cL)) (cL) (fL (au (ae 0) (aE rfl T.o4)) (ae 3)))) (ak (aC 6 eC.nd (aJ (aJ (nH (ae 0) (pZ) (iP (aE rfl T.zV))) (aT (aa (aJ (ae 4) (ae 3)) (aa (ae 5) (aa (nH (au (ae 0) (aE rfl T.uI)) (iP (aZ a9 bQ rfl T.eR rfl (aa (ae 2) (ai)))) (pZ)) (ai)))))) (nH (ae 0) (iP (aE rfl T.oT)) (pZ)))) (ax (aF (aT (aa (ae 6) (aa (aJ (ae 2) (ID rfl rfl T.bF rfl T.oD (ae 4) (aJ (ae 4) (ae 3)))) (ai))))))))))
theorem ig:aI ["grid", "sender", "kept", "state", "heard", "told", "again", "ready"] ["grid", "sender", "kept", "state"] (av vn):=by walk_at "sc"
theorem Fe (T:Txt w.params K mg t):aQ P w K mg base 6 "beaten" ["grid", "sender", "kept", "state"] L3.gi:=aK T.He T.GH ig L3.As L3.CF (fun _ _ _ _ _ _ _ _=>by walk_at "b4") fun _ _ _ _ _ _ hr hu=>
  ak (bK (vE hu (au (ae 2) (aE rfl T.EL)) (le_int)) (ax (aF (aT (aa (ae 2) (aa (aT (ai)) (ai)))))) (a8)) (ak (aC 4 ig.nd (aT (aa (au (ae 2) (aE rfl T.HF)) (aa (au (ae 2) (aE rfl T.ya)) (aa (aZ a9 bQ rfl T.eR rfl (aa (au (ae 2) (aE rfl T.oT)) (ai))) (aa (au (ae 2) (aE rfl T.Et)) (ai))))))) (ak (aC 5 ig.nd (ao (AQ T) hr rfl (aa (au (ae 1) (aE rfl T.F3)) (aa (ae 0) (aa (au (ae 2) (aE rfl T.xI)) (aa (au (ae 2) (aE rfl T.Jq)) (aa (ae 4) (ai)))))))) (ak (aC 6 ig.nd (aX aO a6 rfl T.bF rfl (aa (wL rfl T.qW rfl (aa (aJ (au (ae 2) (aE rfl T.uI)) (au (ae 2) (aE rfl T.oT))) (ai))) (ai)))) (ak (aC 7 ig.nd (aT (aa (au (ae 2) (aE rfl T.bZ)) (aa (au (ae 2) (aE rfl T.EL)) (aa (au (ae 5) (le_int)) (aa (au (ae 5) (le_int)) (aa (au (ae 2) (aE rfl T.zV)) (aa (au (ae 2) (aE rfl T.o4)) (aa (ae 6) (aa (aT (ai)) (aa (le_int) (aa (le_int) (aa (le_int) (ai)))))))))))))) (ax (aF (ao (zl T) hr rfl (aa (ae 7) (aa (aZ (sG rfl) vD rfl T.BL rfl (aa (le_int) (aa (fL (ao (zp T) hr rfl (aa (au (ae 5) (le_int)) (ai))) (ao (vA T) hr rfl (aa (ae 3) (aa (au (ae 2) (aE rfl T.bZ)) (ai))))) (ai)))) (ai))))))))))
theorem cM:aI ["senders", "numbers", "sent", "turn", "sender", "own"] ["senders", "numbers"] (av fJ):=by walk_at "sc"
theorem nS (T:Txt w.params K mg t):aQ P w K mg base 1 "sent_in_order" ["senders", "numbers"] L3.bT:=aK T.nR T.oh cM L3.lU L3.md (fun _ _ _ _ _ _ _ _=>by walk_at "b2") fun _ _ _ _ _ _ hr hu=>
  ak (aC 2 cM.nd (jL (ai))) (ak (gs PassesOwn.never rfl (mH rfl T.oD (AU rfl rfl T.BL (bM (fsc:=av fJ) ["senders", "numbers", "sent", "turn", "sender", "own"] ["own"] 1 [] rfl rfl (bN (ae 1)) (fun cl C s₀ H₀ ex=>⟨bj 0 (show (["own"]:List Str).Nodup from by decide +kernel),bX,aZ a9 bQ rfl T.eR rfl (aa (ae 0) (ai))⟩) rfl rfl (by decide +kernel)) (le_int))) (ke 3 cM.nd) (ax (gs PassesOwn.never rfl (kc rfl T.su (aa (ae 0) (aa (ae 1) (ai)))) (kC rfl (bu 4 cM.nd (bu 5 cM.nd (iH)))) (ax (bK (jJ (ae 3) (aZ a9 bQ rfl T.eR rfl (aa (ae 5) (ai)))) (ax (eZ (le_app (ae 2) (aT (aa (au (au (ae 4) (aE rfl T.FK)) (le_int)) (aa (aT (aa (au (ae 4) (aE rfl T.bZ)) (aa (au (ae 5) (ae 3)) (aa (le_int) (aa (le_int) (aa (le_int) (ai))))))) (ai))))))) (a8)))))) (ax (aF (u4 (ae 2)))))
theorem j4:aI ["way", "names", "kept", "sent", "came", "held", "told"] ["way", "names", "kept", "sent"] (av oK):=by walk_at "sc"
theorem Hs (T:Txt w.params K mg t):aQ P w K mg base 4 "passed" ["way", "names", "kept", "sent"] L3.gh:=aK T.FJ T.Eh j4 L3.yL L3.Dn (fun _ _ _ _ _ _ _ _=>by walk_at "b4") fun _ _ _ _ _ _ hr hu=>
  ak (aC 4 j4.nd (aJ (au (ae 2) (aE rfl T.vx)) (aX aO a6 rfl T.bF rfl (aa (bM (fsc:=av oK) ["way", "names", "kept", "sent", "came", "held", "told"] ["first", "letter", "way"] 2 [0] rfl rfl (bN (ae 3)) (fun cl C s₀ H₀ ex=>⟨iC rfl (bH 0 (show (["first", "letter", "way"]:List Str).Nodup from by decide +kernel) (bH 1 (show (["first", "letter", "way"]:List Str).Nodup from by decide +kernel) (gk))),fA (lt_eq hu (ae 0) (au (ae 2) (aE rfl T.bZ))),ae 1⟩) rfl rfl (by decide +kernel)) (ai))))) (ak (aC 5 j4.nd (ao (AA T) hr rfl (aa (ae 0) (aa (au (ae 2) (aE rfl T.qQ)) (aa (ae 4) (ai)))))) (ak (aC 6 j4.nd (ao (Cd T) hr rfl (aa (ae 0) (aa (ae 1) (aa (au (ae 5) (le_int)) (aa (au (ae 2) (aE rfl T.M4)) (ai))))))) (ax (aF (aT (aa (ae 4) (aa (au (ae 5) (le_int)) (aa (au (ae 6) (le_int)) (aa (au (ae 6) (le_int)) (aa (au (ae 6) (le_int)) (ai)))))))))))
theorem km:aI ["roads", "letter", "road"] ["roads", "letter"] (av lj):=by walk_at "sc"
theorem iB (T:Txt w.params K mg t):aQ P w K mg base 1 "way_behind" ["roads", "letter"] L3.bR:=aK T.uF T.ui km L3.oP L3.rV (fun _ _ _ _ _ _ _ _=>by walk_at "b2") fun _ _ _ _ _ _ hr hu=>
  ak (aC 2 km.nd (bG hu (ae 0) (au (ae 1) (aE rfl T.bZ)))) (ax (aF (iV (jJ (aJ (au (ae 1) (aE rfl T.Bt)) (le_int)) (aZ a9 bQ rfl T.eR rfl (aa (ae 2) (ai)))) (au (ae 2) (aJ (au (ae 1) (aE rfl T.Bt)) (le_int))) (cL))))
theorem cU:aI ["way", "roads", "went", "events", "place", "letter", "word"] ["way", "roads", "went"] (av nE):=by walk_at "sc"
theorem xt (T:Txt w.params K mg t):aQ P w K mg base 2 "events_of" ["way", "roads", "went"] L3.dz:=aK T.xh T.vQ cU L3.rQ L3.tR (fun _ _ _ _ _ _ _ _=>by walk_at "b3") fun _ _ _ _ _ _ hr hu=>
  ak (aC 3 cU.nd (jL (ai))) (ak (gs PassesOwn.never rfl (Bx rfl T.nq (aa (au (ae 2) (le_int)) (ai))) (kC rfl (bu 4 cU.nd (bu 5 cU.nd (iH)))) (ak (aC 6 cU.nd (iV (jJ (ae 4) (fL (aZ a9 bQ rfl T.eR rfl (aa (au (ae 2) (le_int)) (ai))) (aZ a9 bQ rfl T.eR rfl (aa (au (ae 2) (le_int)) (ai))))) (le_str) (le_str))) (ax (eZ (le_app (ae 3) (aT (aa (ae 6) (aa (au (ae 5) (aE rfl T.bZ)) (aa (au (ae 5) (aE rfl T.jw)) (aa (au (ae 0) (aE rfl T.bZ)) (ai))))))))))) (ak (gs PassesOwn.never rfl (bN (au (ae 2) (le_int))) (ke 5 cU.nd) (ak (aC 6 cU.nd (iV (nF (ao (iB T) hr rfl (aa (ae 1) (aa (ae 5) (ai)))) (cL)) (le_str) (le_str))) (ax (eZ (le_app (ae 3) (aT (aa (ae 6) (aa (au (ae 5) (aE rfl T.bZ)) (aa (au (ae 5) (aE rfl T.jw)) (aa (au (ae 0) (aE rfl T.bZ)) (ai))))))))))) (ax (aF (u4 (ae 3))))))
theorem KY:aI ["letter", "hops"] ["letter", "hops"] (av E7):=by walk_at "sc"
theorem Ig (T:Txt w.params K mg t):aQ P w K mg base 1 "aged" ["letter", "hops"] L3.iO:=aK T.MF T.O0 KY L3.EC L3.Kw (fun _ _ _ _ _ _ _ _=>by walk_at "b2") fun _ _ _ _ _ _ hr hu=>
  ax (aF (aT (aa (au (ae 0) (aE rfl T.bZ)) (aa (au (ae 0) (aE rfl T.jw)) (aa (aJ (au (ae 0) (aE rfl T.LM)) (le_int)) (aa (aJ (au (ae 0) (aE rfl T.Bt)) (ae 1)) (aa (au (ae 0) (aE rfl T.jE)) (ai))))))))
theorem lQ:aI ["way", "roads", "went", "out", "coming"] ["way", "roads", "went", "out"] (av gF):=by walk_at "sc"
theorem vG (T:Txt w.params K mg t):aQ P w K mg base 2 "way_after" ["way", "roads", "went", "out"] L3.dh:=aK T.xH T.xA lQ L3.rZ L3.va (fun _ _ _ _ _ _ _ _=>by walk_at "b4") fun _ _ _ _ _ _ hr hu=>
  ak (mL (fsc:=av gF) 4 lQ.nd ["way", "roads", "went", "out", "coming"] ["letter", "roads", "way"] 1 [1,0] rfl rfl (ae 3) (fun cl C s₀ H₀ ex=>⟨bj 0 (show (["letter", "roads", "way"]:List Str).Nodup from by decide +kernel),fA (lt_eq hu (ao (iB T) hr rfl (aa (ae 1) (aa (ae 0) (ai)))) (au (ae 2) (aE rfl T.bZ))),ao (Ig T) hr rfl (aa (ae 0) (aa (le_int) (ai)))⟩) rfl rfl (by decide +kernel)) (ax (aF (aT (aa (aX aO a6 rfl T.bF rfl (aa (ae 4) (ai))) (aa (aX aO a6 rfl T.bF rfl (aa (bM (fsc:=av gF) ["way", "roads", "went", "out", "coming"] ["letter"] 1 [] rfl rfl (bN (au (ae 2) (le_int))) (fun cl C s₀ H₀ ex=>⟨bj 0 (show (["letter"]:List Str).Nodup from by decide +kernel),bX,ao (Ig T) hr rfl (aa (ae 0) (aa (le_int) (ai)))⟩) rfl rfl (by decide +kernel)) (ai))) (aa (au (ae 2) (le_int)) (ai)))))))
theorem tX:aI ["sender", "due"] ["sender", "due"] (av mV):=by walk_at "sc"
theorem xU (T:Txt w.params K mg t):aQ P w K mg base 1 "due_after" ["sender", "due"] L3.dg:=aK T.xG T.vL tX L3.rM L3.uk (fun _ _ _ _ _ _ _ _=>by walk_at "b2") fun _ _ _ _ _ _ hr hu=>
  ak (bK (nF (ae 1) (cL)) (ax (aF (cL))) (a8)) (ax (aF (iV (lt_eq hu (ae 1) (le_int)) (fL (au (ae 0) (aE rfl T.NH)) (le_int)) (fL (ae 1) (le_int)))))
theorem bJ:aI ["sender", "kept", "lost", "taken", "numbers", "own", "marked", "wait", "heard", "start"] ["sender", "kept", "lost", "taken"] (av cI):=by walk_at "sc"
theorem qX (T:Txt w.params K mg t):aQ P w K mg base 2 "sender_after" ["sender", "kept", "lost", "taken"] L3.b5:=aK T.pf T.qM bJ L3.mx L3.nZ (fun _ _ _ _ _ _ _ _=>by walk_at "b4") fun _ _ _ _ _ _ hr hu=>
  ak (mL (fsc:=av cI) 4 bJ.nd ["sender", "kept", "lost", "taken", "numbers", "own", "marked", "wait", "heard", "start"] ["letter", "sender"] 1 [0] rfl rfl (ae 2) (fun cl C s₀ H₀ ex=>⟨bj 0 (show (["letter", "sender"]:List Str).Nodup from by decide +kernel),fA (lt_eq hu (au (ae 0) (aE rfl T.bZ)) (au (ae 1) (aE rfl T.bZ))),au (ae 0) (aE rfl T.jw)⟩) rfl rfl (by decide +kernel)) (ak (gu (fsc:=av cI) 5 bJ.nd ["sender", "kept", "lost", "taken", "numbers", "own", "marked", "wait", "heard", "start"] ["letter", "sender"] 1 [0] rfl rfl (bN (ae 3)) (fun cl C s₀ H₀ ex=>⟨bj 0 (show (["letter", "sender"]:List Str).Nodup from by decide +kernel),fA (lt_eq hu (au (ae 0) (aE rfl T.bZ)) (au (ae 1) (aE rfl T.bZ))),ae 0⟩) rfl rfl (by decide +kernel)) (ak (aC 6 bJ.nd (aZ (CA rfl) G0 rfl T.PN rfl (aa (bM (fsc:=av cI) ["sender", "kept", "lost", "taken", "numbers", "own", "marked", "wait", "heard", "start"] ["letter"] 1 [] rfl rfl (bN (ae 5)) (fun cl C s₀ H₀ ex=>⟨bj 0 (show (["letter"]:List Str).Nodup from by decide +kernel),bX,au (ae 0) (aE rfl T.jE)⟩) rfl rfl (by decide +kernel)) (ai)))) (ak (aC 7 bJ.nd (AU rfl rfl T.BL (bM (fsc:=av cI) ["sender", "kept", "lost", "taken", "numbers", "own", "marked", "wait", "heard", "start"] ["letter"] 1 [] rfl rfl (bN (ae 5)) (fun cl C s₀ H₀ ex=>⟨bj 0 (show (["letter"]:List Str).Nodup from by decide +kernel),bX,fL (au (ae 0) (aE rfl T.LM)) (au (ae 0) (aE rfl T.Bt))⟩) rfl rfl (by decide +kernel)) (le_int))) (ak (aC 8 bJ.nd (aT (aa (fL (aJ (au (ae 1) (aE rfl T.HF)) (aZ a9 bQ rfl T.eR rfl (aa (ae 5) (ai)))) (ae 6)) (aa (aJ (au (ae 1) (aE rfl T.ya)) (ae 6)) (aa (aZ (sG rfl) vD rfl T.BL rfl (aa (au (ae 1) (aE rfl T.Et)) (aa (ae 7) (ai)))) (ai)))))) (ak (aC 9 bJ.nd (aT (aa (au (ae 1) (aE rfl T.bZ)) (aa (ao (xU T) hr rfl (aa (ae 0) (aa (au (ae 1) (aE rfl T.EL)) (ai)))) (ai))))) (ax (aF (aJ (aJ (aJ (ae 9) (nH (ae 1) (iP (aE rfl T.xI)) (iP (aE rfl T.oT)))) (aT (aa (aX aO a6 rfl T.bF rfl (aa (wL rfl T.qW rfl (aa (aJ (au (ae 1) (aE rfl T.oT)) (aX aO a6 rfl T.bF rfl (aa (ae 4) (ai)))) (ai))) (ai))) (ai)))) (ae 8)))))))))
theorem bo:aI ["plan", "state", "senders", "names", "roads", "beats", "sent", "went", "events", "lost", "out", "way", "told", "taken", "ways", "after"] ["plan", "state"] (av cJ):=by walk_at "sc"
theorem Du (T:Txt w.params K mg t):aQ P w K mg base 7 "stepped" ["plan", "state"] L3.fh:=aK T.CD T.CK bo L3.wB L3.Ae (fun _ _ _ _ _ _ _ _=>by walk_at "b2") fun _ _ _ _ _ _ hr hu=>
  ak (aC 2 bo.nd (au (ae 0) (aE rfl T.tj))) (ak (aC 3 bo.nd (aX aO a6 rfl T.bF rfl (aa (bM (fsc:=av cJ) ["plan", "state", "senders", "names", "roads", "beats", "sent", "went", "events", "lost", "out", "way", "told", "taken", "ways", "after"] ["sender"] 1 [] rfl rfl (bN (ae 2)) (fun cl C s₀ H₀ ex=>⟨bj 0 (show (["sender"]:List Str).Nodup from by decide +kernel),bX,au (ae 0) (aE rfl T.bZ)⟩) rfl rfl (by decide +kernel)) (ai)))) (ak (aC 4 bo.nd (aX (Af rfl) Ic rfl T.ND rfl (aa (bM (fsc:=av cJ) ["plan", "state", "senders", "names", "roads", "beats", "sent", "went", "events", "lost", "out", "way", "told", "taken", "ways", "after"] ["sender"] 1 [] rfl rfl (bN (ae 2)) (fun cl C s₀ H₀ ex=>⟨bj 0 (show (["sender"]:List Str).Nodup from by decide +kernel),bX,aT (aa (au (ae 0) (aE rfl T.bZ)) (aa (au (ae 0) (aE rfl T.FK)) (ai)))⟩) rfl rfl (by decide +kernel)) (ai)))) (ak (gu (fsc:=av cJ) 5 bo.nd ["plan", "state", "senders", "names", "roads", "beats", "sent", "went", "events", "lost", "out", "way", "told", "taken", "ways", "after"] ["sender", "kept", "state", "plan"] 2 [1,0] rfl rfl (kc rfl T.su (aa (ae 2) (aa (au (ae 1) (aE rfl T.nT)) (ai)))) (fun cl C s₀ H₀ ex=>⟨iC rfl (bH 0 (show (["sender", "kept", "state", "plan"]:List Str).Nodup from by decide +kernel) (bH 1 (show (["sender", "kept", "state", "plan"]:List Str).Nodup from by decide +kernel) (gk))),bX,ao (Fe T) hr rfl (aa (au (ae 3) (aE rfl T.D9)) (aa (ae 0) (aa (ae 1) (aa (ae 2) (ai)))))⟩) rfl rfl (by decide +kernel)) (ak (aC 6 bo.nd (ao (nS T) hr rfl (aa (ae 2) (aa (bM (fsc:=av cJ) ["plan", "state", "senders", "names", "roads", "beats", "sent", "went", "events", "lost", "out", "way", "told", "taken", "ways", "after"] ["kept", "numbers"] 2 [] rfl rfl (bN (ae 5)) (fun cl C s₀ H₀ ex=>⟨iC rfl (bH 0 (show (["kept", "numbers"]:List Str).Nodup from by decide +kernel) (bH 1 (show (["kept", "numbers"]:List Str).Nodup from by decide +kernel) (gk))),bX,ae 1⟩) rfl rfl (by decide +kernel)) (ai))))) (ak (gu (fsc:=av cJ) 7 bo.nd ["plan", "state", "senders", "names", "roads", "beats", "sent", "went", "events", "lost", "out", "way", "told", "taken", "ways", "after"] ["way", "kept", "names", "sent"] 2 [3,6] rfl rfl (kc rfl T.su (aa (au (ae 0) (aE rfl T.tJ)) (aa (au (ae 1) (aE rfl T.lr)) (ai)))) (fun cl C s₀ H₀ ex=>⟨iC rfl (bH 0 (show (["way", "kept", "names", "sent"]:List Str).Nodup from by decide +kernel) (bH 1 (show (["way", "kept", "names", "sent"]:List Str).Nodup from by decide +kernel) (gk))),bX,ao (Hs T) hr rfl (aa (ae 0) (aa (ae 2) (aa (ae 1) (aa (ae 3) (ai)))))⟩) rfl rfl (by decide +kernel)) (ak (Ff (fsc:=av cJ) 8 bo.nd ["plan", "state", "senders", "names", "roads", "beats", "sent", "went", "events", "lost", "out", "way", "told", "taken", "ways", "after"] ["first", "letter"] 2 [] rfl rfl (bN (ae 6)) (fun cl C s₀ H₀ ex=>⟨iC rfl (bH 0 (show (["first", "letter"]:List Str).Nodup from by decide +kernel) (bH 1 (show (["first", "letter"]:List Str).Nodup from by decide +kernel) (gk))),bX,aT (aa (le_str) (aa (au (ae 1) (aE rfl T.bZ)) (aa (au (ae 1) (aE rfl T.jw)) (aa (ae 0) (ai)))))⟩) rfl rfl (by decide +kernel)) (ak (aC 9 bo.nd (jL (ai))) (ak (aC 10 bo.nd (jL (ai))) (ak (gs PassesOwn.never rfl (kc rfl T.su (aa (au (ae 0) (aE rfl T.tJ)) (aa (ae 7) (ai)))) (kC rfl (bu 11 bo.nd (bu 12 bo.nd (iH)))) (ak (eZ (uW (ae 8) (ao (xt T) hr rfl (aa (ae 11) (aa (ae 4) (aa (ae 12) (ai))))))) (ak (eZ (uW (ae 9) (au (ae 12) (le_int)))) (ax (eZ (uW (ae 10) (au (ae 12) (le_int)))))))) (ak (aC 13 bo.nd (Dw (fsc:=av cJ) ["plan", "state", "senders", "names", "roads", "beats", "sent", "went", "events", "lost", "out", "way", "told", "taken", "ways", "after"] ["letter", "roads"] 1 [4] rfl rfl (ae 10) (fun cl C s₀ H₀ ex=>⟨bj 0 (show (["letter", "roads"]:List Str).Nodup from by decide +kernel),fA (nF (ao (iB T) hr rfl (aa (ae 1) (aa (ae 0) (ai)))) (cL)),ae 0⟩) rfl rfl (by decide +kernel))) (ak (gu (fsc:=av cJ) 14 bo.nd ["plan", "state", "senders", "names", "roads", "beats", "sent", "went", "events", "lost", "out", "way", "told", "taken", "ways", "after"] ["way", "told", "roads", "out"] 2 [4,10] rfl rfl (kc rfl T.su (aa (au (ae 0) (aE rfl T.tJ)) (aa (ae 7) (ai)))) (fun cl C s₀ H₀ ex=>⟨iC rfl (bH 0 (show (["way", "told", "roads", "out"]:List Str).Nodup from by decide +kernel) (bH 1 (show (["way", "told", "roads", "out"]:List Str).Nodup from by decide +kernel) (gk))),bX,ao (vG T) hr rfl (aa (ae 0) (aa (ae 2) (aa (ae 1) (aa (ae 3) (ai)))))⟩) rfl rfl (by decide +kernel)) (ak (gu (fsc:=av cJ) 15 bo.nd ["plan", "state", "senders", "names", "roads", "beats", "sent", "went", "events", "lost", "out", "way", "told", "taken", "ways", "after"] ["sender", "beat", "lost", "taken"] 2 [9,13] rfl rfl (kc rfl T.su (aa (ae 2) (aa (ae 5) (ai)))) (fun cl C s₀ H₀ ex=>⟨iC rfl (bH 0 (show (["sender", "beat", "lost", "taken"]:List Str).Nodup from by decide +kernel) (bH 1 (show (["sender", "beat", "lost", "taken"]:List Str).Nodup from by decide +kernel) (gk))),bX,ao (qX T) hr rfl (aa (ae 0) (aa (au (ae 1) (le_int)) (aa (ae 2) (aa (ae 3) (ai)))))⟩) rfl rfl (by decide +kernel)) (ax (aF (aT (aa (aT (aa (aX aO a6 rfl T.bF rfl (aa (ae 14) (ai))) (aa (aX aO a6 rfl T.bF rfl (aa (ae 15) (ai))) (ai)))) (aa (u4 (ae 8)) (ai))))))))))))))))))
theorem mC:aI ["plan", "many", "state", "rows", "turn", "told"] ["plan", "many"] (av Ml):=by walk_at "sc"
theorem Qo (T:Txt w.params K mg t):aQ P w K mg base 8 "run" ["plan", "many"] mE:=aK T.Rb T.QO mC J3 OZ (fun _ _ _ _ _ _ _ _=>by walk_at "b2") fun _ _ _ _ _ _ hr hu=>
  ak (aC 2 mC.nd (ao (IT T) hr rfl (aa (ae 0) (ai)))) (ak (aC 3 mC.nd (jL (ai))) (ak (gs PassesOwn.never rfl (mH rfl T.oD (ae 1)) (ke 4 mC.nd) (ak (aC 5 mC.nd (ao (Du T) hr rfl (aa (ae 0) (aa (ae 2) (ai))))) (ak (aC 2 mC.nd (au (ae 5) (le_int))) (ax (eZ (le_app (ae 3) (au (ae 5) (le_int)))))))) (ax (aF (aT (aa (ae 2) (aa (u4 (ae 3)) (ai))))))))
theorem yd:aI ["_law_script"] ["_law_script"] (av pC):=by walk_at "sc"
theorem Aa (T:Txt w.params K mg t):aQ P w K mg base 1 "_law_pot" ["_law_script"] L3.j2:=aK T.AE T.AO yd L3.Ep L3.Il (fun _ _ _ _ _ _ _ _=>by walk_at "b1") fun _ _ _ _ _ _ hr hu=>
  ax (aF (Jc (jY (Fv rfl rfl T.zQ rfl (aa (ae 0) (ai))) (jY (le_int) (jY (le_int) (jY (le_int) (jY (le_int) (jY (le_int) (KC)))))))))
theorem jv:aI ["_law_number", "_law_turn", "_law_one", "_law_two"] ["_law_number", "_law_turn"] (av qG):=by walk_at "sc"
theorem qS (T:Txt w.params K mg t):aQ P w K mg base 1 "_law_mix" ["_law_number", "_law_turn"] L3.fV:=aK T.y8 T.Ab jv L3.HP L3.IA (fun _ _ _ _ _ _ _ _=>by walk_at "b2") fun _ _ _ _ _ _ hr hu=>
  ak (aC 2 jv.nd (gY (le_mul (aJ (aJ (gY (ae 0) (le_int)) (le_mul (le_int) (ae 1))) (le_int)) (le_int)) (le_int))) (ak (aC 3 jv.nd (gY (le_mul (ae 2) (ae 2)) (le_int))) (ax (aF (gY (le_mul (aJ (ae 3) (ae 1)) (le_int)) (le_int)))))
theorem iI:aI ["_law_pot_here", "_law_many", "_law_cell", "_law_digit"] ["_law_pot_here", "_law_many"] (av ng):=by walk_at "sc"
theorem aA (T:Txt w.params K mg t):aQ P w K mg base 2 "_law_take" ["_law_pot_here", "_law_many"] iG:=aK T.xS T.wZ iI rh uN (fun _ _ _ _ _ _ _ _=>by walk_at "b2") fun _ _ _ _ _ _ hr hu=>
  ak (kP hu (ae 0) (le_str) (le_int)) (ak (bK (LW.lt (uA (LW.lt (nr (lt_eq hu (bG hu (ae 0) (le_str)) (le_int)) (l7 (lt_eq hu (bG hu (ae 0) (le_str)) (le_int))))) (oB (jJ (bG hu (ae 0) (le_str)) (aZ a9 bQ rfl T.eR rfl (aa (bG hu (ae 0) (le_str)) (ai))))))) (ak (aC 2 iI.nd (aZ oW tM rfl T.GW rfl (aa (au (bG hu (ae 0) (le_str)) (bG hu (ae 0) (le_str))) (ai)))) (ak (kP hu (ae 0) (le_str) (le_int)) (ak (gO hu (ae 0) (le_str) (le_mul (ae 2) (aX CV K1 rfl T.PL rfl (aa (Qa (ae 2) (le_pow (le_int) (le_int))) (ai))))) (ak (gO hu (ae 0) (le_str) (le_int)) (ax (gO hu (ae 0) (le_str) (ao (qS T) hr rfl (aa (aJ (bG hu (ae 0) (le_str)) (ae 2)) (aa (bG hu (ae 0) (le_str)) (ai)))))))))) (a8)) (ak (bK (LW.lt (uA (lY (bG hu (ae 0) (le_str)) (le_int)) (oB (jJ (bG hu (ae 0) (le_str)) (le_int))))) (ak (kP hu (ae 0) (le_str) (le_int)) (ak (aC 3 iI.nd (gY (bG hu (ae 0) (le_str)) (ae 1))) (ak (gO hu (ae 0) (le_str) (jk (bG hu (ae 0) (le_str)) (ae 1))) (ax (aF (ae 3)))))) (a8)) (ak (gO hu (ae 0) (le_str) (ao (qS T) hr rfl (aa (bG hu (ae 0) (le_str)) (aa (bG hu (ae 0) (le_str)) (ai))))) (ax (aF (gY (jk (bG hu (ae 0) (le_str)) (le_int)) (ae 1)))))))
theorem fD:aI ["_law_pot_here", "_law_many", "_law_words", "_law_first", "_law_step"] ["_law_pot_here", "_law_many"] (av iK):=by walk_at "sc"
theorem l4 (T:Txt w.params K mg t):aQ P w K mg base 3 "_law_names" ["_law_pot_here", "_law_many"] L3.fq:=aK T.uh T.ud fD L3.Ai L3.CG (fun _ _ _ _ _ _ _ _=>by walk_at "b2") fun _ _ _ _ _ _ hr hu=>
  ak (aC 2 fD.nd (eu (aa (le_str) (aa (le_str) (aa (le_str) (aa (le_str) (aa (le_str) (aa (le_str) (aa (le_str) (aa (le_str) (aa (le_str) (aa (le_str) (aa (le_str) (aa (le_str) (aa (le_str) (aa (le_str) (aa (le_str) (aa (le_str) (ai))))))))))))))))))) (ak (G5 (aT (aa (ao (aA T) hr rfl (aa (ae 0) (aa (le_int) (ai)))) (aa (aJ (le_int) (ao (aA T) hr rfl (aa (ae 0) (aa (le_int) (ai))))) (ai)))) (kC rfl (bu 3 fD.nd (bu 4 fD.nd (iH))))) (ax (aF (bM (fsc:=av iK) ["_law_pot_here", "_law_many", "_law_words", "_law_first", "_law_step"] ["_law_k", "_law_words", "_law_first", "_law_step"] 1 [2,3,4] rfl rfl (mH rfl T.oD (ae 1)) (fun cl C s₀ H₀ ex=>⟨bj 0 (show (["_law_k", "_law_words", "_law_first", "_law_step"]:List Str).Nodup from by decide +kernel),bX,au (aJ (ae 1) (eu (aa (le_str) (ai)))) (gY (aJ (ae 2) (le_mul (ae 3) (ae 0))) (le_int))⟩) rfl rfl (by decide +kernel)))))
theorem gD:aI ["_law_top", "_law_bottom", "_law_one", "_law_other"] ["_law_top", "_law_bottom"] (av kr):=by walk_at "sc"
theorem dR (T:Txt w.params K mg t):aQ P w K mg base 1 "_law_lowest" ["_law_top", "_law_bottom"] L3.bI:=aK T.rG T.rB gD L3.zN L3.Dj (fun _ _ _ _ _ _ _ _=>by walk_at "b2") fun _ _ _ _ _ _ hr hu=>
  ak (uo 2 3 rfl gD.nd (aa (ae 0) (aa (ae 1) (ai)))) (ak (qN PassesOwn.never (lY (ae 3) (le_int)) (ax (uo 2 3 rfl gD.nd (aa (ae 3) (aa (gY (ae 2) (ae 3)) (ai)))))) (ax (aF (aT (aa (jk (ae 0) (ae 2)) (aa (jk (ae 1) (ae 2)) (ai)))))))
theorem ip:aI ["_law_pot_here", "_law_low", "_law_most", "_law_bottom"] ["_law_pot_here", "_law_low", "_law_most"] (av i6):=by walk_at "sc"
theorem iY (T:Txt w.params K mg t):aQ P w K mg base 3 "_law_fraction" ["_law_pot_here", "_law_low", "_law_most"] L3.bO:=aK T.nK T.nU ip L3.rO L3.uM (fun _ _ _ _ _ _ _ _=>by walk_at "b3") fun _ _ _ _ _ _ hr hu=>
  ak (aC 3 ip.nd (au (eu (aa (le_int) (aa (le_int) (aa (le_int) (aa (le_int) (aa (le_int) (aa (le_int) (ai)))))))) (ao (aA T) hr rfl (aa (ae 0) (aa (le_int) (ai)))))) (ax (aF (ao (dR T) hr rfl (aa (aJ (le_mul (ae 1) (ae 3)) (ao (aA T) hr rfl (aa (ae 0) (aa (aJ (le_mul (fL (ae 2) (ae 1)) (ae 3)) (le_int)) (ai))))) (aa (ae 3) (ai))))))
theorem cp:aI ["_law_pot_here", "_law_most", "_law_word", "_law_w", "_law_top", "_law_parts", "_law_up", "_law_down", "_law_low"] ["_law_pot_here", "_law_most"] (av mS):=by walk_at "sc"
theorem vC (T:Txt w.params K mg t):aQ P w K mg base 4 "_law_rule" ["_law_pot_here", "_law_most"] iA:=aK T.wj T.wC cp rY tP (fun _ _ _ _ _ _ _ _=>by walk_at "b2") fun _ _ _ _ _ _ hr hu=>
  ak (aC 2 cp.nd (au (eu (aa (le_str) (aa (le_str) (aa (le_str) (aa (le_str) (aa (le_str) (ai))))))) (ao (aA T) hr rfl (aa (ae 0) (aa (le_int) (ai)))))) (ak (uo 3 4 rfl cp.nd (aa (ao (iY T) hr rfl (aa (ae 0) (aa (le_int) (aa (ae 1) (ai))))) (aa (ao (iY T) hr rfl (aa (ae 0) (aa (le_int) (aa (ae 1) (ai))))) (ai)))) (ak (bK (lY (le_mul (au (ae 3) (le_int)) (au (ae 4) (le_int))) (le_mul (au (ae 4) (le_int)) (au (ae 3) (le_int)))) (ax (uo 3 4 rfl cp.nd (aa (ae 4) (aa (ae 3) (ai))))) (a8)) (ak (aC 5 cp.nd (aJ (le_int) (ao (aA T) hr rfl (aa (ae 0) (aa (le_int) (ai)))))) (ak (aC 6 cp.nd (ao (dR T) hr rfl (aa (aJ (le_int) (ao (aA T) hr rfl (aa (ae 0) (aa (le_mul (le_int) (ae 5)) (ai))))) (aa (ae 5) (ai))))) (ak (aC 7 cp.nd (ao (dR T) hr rfl (aa (aJ (le_int) (ao (aA T) hr rfl (aa (ae 0) (aa (ae 5) (ai))))) (aa (aJ (ae 5) (le_int)) (ai))))) (ak (bK (lt_eq hu (ae 2) (le_str)) (ax (aF (aT (aa (ae 2) (aa (ae 3) (ai)))))) (a8)) (ak (bK (lt_eq hu (ae 2) (le_str)) (ax (aF (aT (aa (ae 2) (aa (ae 3) (aa (ae 6) (aa (ae 7) (aa (ae 4) (ai))))))))) (a8)) (ak (bK (lt_eq hu (ae 2) (le_str)) (ax (aF (aT (aa (ae 2) (aa (ae 3) (aa (ao (dR T) hr rfl (aa (aJ (au (ae 6) (le_int)) (au (ae 6) (le_int))) (aa (au (ae 6) (le_int)) (ai)))) (aa (ae 7) (aa (ae 4) (ai))))))))) (a8)) (ak (bK (lt_eq hu (ae 2) (le_str)) (ax (aF (aT (aa (ae 2) (aa (ae 3) (aa (ae 6) (aa (ao (dR T) hr rfl (aa (aJ (le_int) (ao (aA T) hr rfl (aa (ae 0) (aa (ae 5) (ai))))) (aa (ae 5) (ai)))) (aa (ae 4) (ai))))))))) (a8)) (ak (aC 8 cp.nd (ao (aA T) hr rfl (aa (ae 0) (aa (le_int) (ai))))) (ax (aF (aT (aa (ae 2) (aa (ae 3) (aa (ae 6) (aa (ae 8) (aa (aJ (ae 8) (ao (aA T) hr rfl (aa (ae 0) (aa (le_int) (ai))))) (aa (ae 4) (ai))))))))))))))))))))
theorem dk:aI ["_law_pot_here", "_law_names_here", "_law_rows", "_law_name", "_law_pace", "_law_room", "_law_mark"] ["_law_pot_here", "_law_names_here"] (av nD):=by walk_at "sc"
theorem wK (T:Txt w.params K mg t):aQ P w K mg base 3 "_law_ways" ["_law_pot_here", "_law_names_here"] L3.iw:=aK T.vF T.wM dk L3.Dt L3.Ii (fun _ _ _ _ _ _ _ _=>by walk_at "b2") fun _ _ _ _ _ _ hr hu=>
  ak (aC 2 dk.nd (jL (ai))) (ak (gs PassesOwn.never rfl (bN (ae 1)) (ke 3 dk.nd) (ak (aC 4 dk.nd (au (eu (aa (le_int) (aa (le_int) (aa (le_int) (aa (le_int) (aa (aJ (le_int) (ao (aA T) hr rfl (aa (ae 0) (aa (le_int) (ai))))) (ai))))))) (ao (aA T) hr rfl (aa (ae 0) (aa (le_int) (ai)))))) (ak (aC 5 dk.nd (au (eu (aa (aJ (le_int) (ao (aA T) hr rfl (aa (ae 0) (aa (le_int) (ai))))) (aa (aJ (le_int) (ao (aA T) hr rfl (aa (ae 0) (aa (le_int) (ai))))) (aa (aJ (le_int) (ao (aA T) hr rfl (aa (ae 0) (aa (le_int) (ai))))) (ai))))) (ao (aA T) hr rfl (aa (ae 0) (aa (le_int) (ai)))))) (ak (aC 6 dk.nd (au (eu (aa (cL) (aa (ao (aA T) hr rfl (aa (ae 0) (aa (aJ (ae 5) (le_int)) (ai)))) (aa (ao (aA T) hr rfl (aa (ae 0) (aa (le_int) (ai)))) (ai))))) (ao (aA T) hr rfl (aa (ae 0) (aa (le_int) (ai)))))) (ax (eZ (le_app (ae 2) (aT (aa (ae 3) (aa (ae 4) (aa (ae 5) (aa (ae 6) (aa (au (eu (aa (le_str) (aa (le_str) (ai)))) (ao (aA T) hr rfl (aa (ae 0) (aa (le_int) (ai))))) (ai)))))))))))))) (ax (aF (aX aO a6 rfl T.bF rfl (aa (ae 2) (ai))))))
theorem da:aI ["_law_pot_here", "_law_name", "_law_ways_here", "_law_most", "_law_road", "_law_beat", "_law_many"] ["_law_pot_here", "_law_name", "_law_ways_here", "_law_most"] (av gX):=by walk_at "sc"
theorem rK (T:Txt w.params K mg t):aQ P w K mg base 5 "_law_sender" ["_law_pot_here", "_law_name", "_law_ways_here", "_law_most"] gy:=aK T.rD T.rj da nX o8 (fun _ _ _ _ _ _ _ _=>by walk_at "b4") fun _ _ _ _ _ _ hr hu=>
  ak (aC 4 da.nd (aX aO a6 rfl T.bF rfl (aa (bM (fsc:=av gX) ["_law_pot_here", "_law_name", "_law_ways_here", "_law_most", "_law_road", "_law_beat", "_law_many"] ["_law_way", "_law_pot_here"] 1 [0] rfl rfl (bN (ae 2)) (fun cl C s₀ H₀ ex=>⟨bj 0 (show (["_law_way", "_law_pot_here"]:List Str).Nodup from by decide +kernel),fA (lt_eq hu (ao (aA T) hr rfl (aa (ae 1) (aa (le_int) (ai)))) (le_int)),au (ae 0) (le_int)⟩) rfl rfl (by decide +kernel)) (ai)))) (ak (bK (lt_eq hu (aZ a9 bQ rfl T.eR rfl (aa (ae 4) (ai))) (le_int)) (ax (aC 4 da.nd (aT (aa (au (au (ae 2) (ao (aA T) hr rfl (aa (ae 0) (aa (aZ a9 bQ rfl T.eR rfl (aa (ae 2) (ai))) (ai))))) (le_int)) (ai))))) (a8)) (ak (aC 5 da.nd (au (eu (aa (le_int) (aa (le_int) (aa (le_int) (aa (le_int) (aa (aJ (le_int) (ao (aA T) hr rfl (aa (ae 0) (aa (le_int) (ai))))) (ai))))))) (ao (aA T) hr rfl (aa (ae 0) (aa (le_int) (ai)))))) (ak (aC 6 da.nd (au (eu (aa (cL) (aa (cL) (aa (ao (aA T) hr rfl (aa (ae 0) (aa (le_int) (ai)))) (aa (ao (aA T) hr rfl (aa (ae 0) (aa (le_int) (ai)))) (ai)))))) (ao (aA T) hr rfl (aa (ae 0) (aa (le_int) (ai)))))) (ax (aF (aT (aa (ae 1) (aa (ae 4) (aa (ae 5) (aa (au (eu (aa (le_int) (aa (le_int) (aa (ao (aA T) hr rfl (aa (ae 0) (aa (le_int) (ai)))) (aa (ao (aA T) hr rfl (aa (ae 0) (aa (le_int) (ai)))) (ai)))))) (ao (aA T) hr rfl (aa (ae 0) (aa (le_int) (ai))))) (aa (ae 6) (aa (ao (vC T) hr rfl (aa (ae 0) (aa (ae 3) (ai)))) (ai)))))))))))))
theorem eT:aI ["_law_pot_here", "_law_grid", "_law_ways_here", "_law_most", "_law_names_here"] ["_law_pot_here"] (av jO):=by walk_at "sc"
theorem vp (T:Txt w.params K mg t):aQ P w K mg base 6 "_law_plan" ["_law_pot_here"] L3.hV:=aK T.vh T.xR eT L3.Dk L3.Hc (fun _ _ _ _ _ _ _ _=>by walk_at "b1") fun _ _ _ _ _ _ hr hu=>
  ak (aC 1 eT.nd (au (eu (aa (le_int) (aa (le_int) (aa (le_int) (aa (aJ (le_int) (ao (aA T) hr rfl (aa (ae 0) (aa (le_int) (ai))))) (ai)))))) (ao (aA T) hr rfl (aa (ae 0) (aa (le_int) (ai)))))) (ak (aC 2 eT.nd (ao (wK T) hr rfl (aa (ae 0) (aa (ao (l4 T) hr rfl (aa (ae 0) (aa (au (eu (aa (le_int) (aa (le_int) (aa (le_int) (aa (le_int) (aa (le_int) (aa (le_int) (ai)))))))) (ao (aA T) hr rfl (aa (ae 0) (aa (le_int) (ai))))) (ai)))) (ai))))) (ak (aC 3 eT.nd (au (eu (aa (le_int) (aa (le_int) (aa (le_int) (aa (le_int) (aa (le_int) (ai))))))) (ao (aA T) hr rfl (aa (ae 0) (aa (le_int) (ai)))))) (ak (aC 4 eT.nd (ao (l4 T) hr rfl (aa (ae 0) (aa (au (eu (aa (le_int) (aa (le_int) (aa (le_int) (aa (le_int) (aa (le_int) (aa (le_int) (aa (le_int) (aa (le_int) (ai)))))))))) (ao (aA T) hr rfl (aa (ae 0) (aa (le_int) (ai))))) (ai))))) (ax (aF (aT (aa (ae 1) (aa (ae 2) (aa (aX aO a6 rfl T.bF rfl (aa (bM (fsc:=av jO) ["_law_pot_here", "_law_grid", "_law_ways_here", "_law_most", "_law_names_here"] ["_law_name", "_law_pot_here", "_law_ways_here", "_law_most"] 1 [0,2,3] rfl rfl (bN (HE rfl T.qW rfl (aa (ae 4) (ai)))) (fun cl C s₀ H₀ ex=>⟨bj 0 (show (["_law_name", "_law_pot_here", "_law_ways_here", "_law_most"]:List Str).Nodup from by decide +kernel),bX,ao (rK T) hr rfl (aa (ae 1) (aa (ae 0) (aa (ae 2) (aa (ae 3) (ai)))))⟩) rfl rfl (by decide +kernel)) (ai))) (ai))))))))))
theorem aG:aI ["_law_sender_here", "_law_rounds", "_law_name", "_law_road", "_law_beat", "_law_begin", "_law_many", "_law_rule_here", "_law_fresh", "_law_out", "_law_at", "_law_events", "_law_word", "_law_own", "_law_number", "_law_way"] ["_law_sender_here", "_law_rounds"] (av eg):=by walk_at "sc"
theorem kG (T:Txt w.params K mg t):aQ P w K mg base 1 "_law_sender_good" ["_law_sender_here", "_law_rounds"] bB:=aK T.kx T.kR aG jU kf (fun _ _ _ _ _ _ _ _=>by walk_at "b2") fun _ _ _ _ _ _ hr hu=>
  ak (G5 (ae 0) (kC rfl (bu 2 aG.nd (bu 3 aG.nd (bu 4 aG.nd (bu 5 aG.nd (bu 6 aG.nd (bu 7 aG.nd (iH))))))))) (ak (aC 8 aG.nd (le_int)) (ak (aC 9 aG.nd (NG)) (ak (gs PassesOwn.never rfl (Bx rfl T.nq (aa (ae 1) (ai))) (kC rfl (bu 10 aG.nd (bu 11 aG.nd (iH)))) (ax (gs PassesOwn.never rfl (bN (bM (fsc:=av eg) ["_law_sender_here", "_law_rounds", "_law_name", "_law_road", "_law_beat", "_law_begin", "_law_many", "_law_rule_here", "_law_fresh", "_law_out", "_law_at", "_law_events", "_law_word", "_law_own", "_law_number", "_law_way"] ["_law_event", "_law_name"] 1 [2] rfl rfl (bN (ae 11)) (fun cl C s₀ H₀ ex=>⟨bj 0 (show (["_law_event", "_law_name"]:List Str).Nodup from by decide +kernel),fA (lt_eq hu (au (ae 0) (le_int)) (ae 1)),ae 0⟩) rfl rfl (by decide +kernel))) (kC rfl (bu 12 aG.nd (bu 13 aG.nd (bu 14 aG.nd (bu 15 aG.nd (iH)))))) (ax (bK (lt_eq hu (ae 12) (le_str)) (ak (bK (LW.lt (nr (jJ (ae 10) (ae 5)) (nr (vE hu (gY (fL (ae 10) (ae 5)) (ae 4)) (le_int)) (l7 (vE hu (ae 15) (au (ae 3) (le_int))))))) (ax (aF (Bi))) (a8)) (ak (bK (lt_eq hu (ae 14) (ae 8)) (ax (tG 8 aG.nd (le_int))) (ax (bK (LW.lt (nr (lY (ae 14) (ae 8)) (nr (jJ (ae 14) (le_int)) (l7 (LW.lt (uA (xm (bG hu (ae 9) (ae 14)) (cL)) (oB (Gm (bG hu (ae 9) (ae 14)) (ae 10))))))))) (ax (aF (Bi))) (ax (bK (nF (bG hu (ae 9) (ae 14)) (cL)) (ax (aF (Bi))) (a8)))))) (ax (gO hu (ae 9) (ae 14) (cL))))) (ax (bK (LW.lt (nr (Gm (ae 14) (ae 8)) (l7 (xm (bG hu (ae 9) (ae 14)) (cL))))) (ax (aF (Bi))) (ax (bK (lt_eq hu (ae 12) (le_str)) (ax (gO hu (ae 9) (ae 14) (ae 10))) (ax (bK (lt_eq hu (ae 12) (le_str)) (ax (gO hu (ae 9) (ae 14) (le_pow (le_int) (le_int)))) (a8)))))))))))) (ax (aF (Mp (QD (ae 6) (cL)) (Ih (QN (ae 8) (ae 6)))))))))
theorem uv:aI ["_law_script", "_law_pot_here", "_law_plan_here", "_law_rounds"] ["_law_script"] (av HJ):=by walk_at "sc"
theorem Bz (T:Txt w.params K mg t):je P w K mg base CX0 9 t.FO t.Mm ["_law_script"] (lift K fi):=by
  refine Ms (T:=Ga) T.Bz uv uc (fun cdv A outer s H E hr=>?_) Nm
  have hu:=hr.units
  exact ak (aC 1 uv.nd (ao (Aa T) hr rfl (aa (ae 0) (ai)))) (ak (aC 2 uv.nd (ao (vp T) hr rfl (aa (ae 1) (ai)))) (ak (aC 3 uv.nd (au (ao (Qo T) hr rfl (aa (ae 2) (aa (aJ (le_int) (ao (aA T) hr rfl (aa (ae 1) (aa (le_int) (ai))))) (ai)))) (le_int))) (ax (aF (aZ (Cu rfl) Lw rfl T.Rr rfl (aa (bM (fsc:=av HJ) ["_law_script", "_law_pot_here", "_law_plan_here", "_law_rounds"] ["_law_sender_here", "_law_rounds"] 1 [3] rfl rfl (bN (au (ae 2) (le_int))) (fun cl C s₀ H₀ ex=>⟨bj 0 (show (["_law_sender_here", "_law_rounds"]:List Str).Nodup from by decide +kernel),bX,ao (kG T) hr rfl (aa (ae 0) (aa (ae 1) (ai)))⟩) rfl rfl (by decide +kernel)) (ai)))))))
end
theorem all_mk {l:PySem.W.OpenLaw}{w:World}{K:PySem.W.Frag}{mg:Str→Option Value}{fa:Addr}{t:Adr}(hfa:mg "law" = some (.ref fa))(T:Txt w.params K mg t):∃ fd:FuncData,(∀ (s:Shared) (v:Value),BindsTo s fd ⟨[v],[]⟩ [("_law_script", v)])∧∀ base:Heap,K.In base→base.Ns mainGlobals mg→je l.prog w K mg base CX0 9 fa fd ["_law_script"] (lift K fi):=by
  have e:=hfa.symm.trans T.QY
  injection e with e
  injection e with e
  subst e
  obtain ⟨oc,od,kV,dc,pm,an,cd,ct,sl,ed,_,_⟩:=T.Bz.ex
  exact ⟨_,fun s v=>.of_eq (by rw[ed];rfl),fun base _ _=>Bz T⟩
end Kk
namespace PySem.W.Fast
def tw5072908720681636912:=0
def tw14953485177604765152:=0
def tw7508985865694801408:=0
def tw2407194522926763872:=0
def tw9705511688098871361:=0
def tw1461748403617106017:=0
def tw11971308400584168545:=0
def tw8317658541795879169:=0
def tw6641376717099398401:=0
def tw13973161641978102049:=0
def tw15606251408365363649:=0
def tw4076304997968582209:=0
def tw17098507496790708833:=0
def tw18395635405465065602:=0
def tw10286391979569716578:=0
def tw1322794848317611778:=0
def tw17990707529186174882:=0
def tw4161560566694235683:=0
def tw18382823049318527523:=0
def tw16593174588858043011:=0
def tw8700017988950778563:=0
def tw3147143097663144899:=0
def tw15194986903001014468:=0
def tw14504414450693654980:=0
def tw14865689290841413412:=0
def tw4154860089166846852:=0
def tw8387978823221226533:=0
def tw5267785977035170117:=0
def tw10460316385437460901:=0
def tw13850800760285274821:=0
def tw8532487757567063941:=0
def tw2330382220541965318:=0
def tw8929345693626498246:=0
def tw18082396508875349319:=0
def tw8408279732369089351:=0
def tw4748293026926820360:=0
def tw6005190804581422376:=0
def tw7471379636985559368:=0
def tw13233170258557986248:=0
def tw9540491219333680712:=0
def tw8959474558643837321:=0
def tw15710959378566973129:=0
def tw16693315569519281162:=0
def tw5418507182245458378:=0
def tw10439820800741434282:=0
def tw18326564694571389067:=0
def tw17309059232241402059:=0
def tw14883415005895435563:=0
def tw8941681814853196651:=0
def tw14567205523708259211:=0
def tw17487490684689000556:=0
def tw7132111686856925580:=0
def tw16657309369972866540:=0
def tw11208591090826664428:=0
def tw9588685370038772364:=0
def tw17574613710242850540:=0
def tw18025788258462498893:=0
def tw14060958183591692429:=0
def tw434521803476912397:=0
def tw15295524462406166829:=0
def tw16381599693352181421:=0
def tw11034340544641181357:=0
def tw17686744860724089613:=0
def tw13260439876546833357:=0
def tw1660877220287268302:=0
def tw1971622641297846766:=0
def tw16595022150231440942:=0
def tw16881354802095897390:=0
def tw10125298056778928207:=0
def tw15672765579575436591:=0
def tw10028197986141418799:=0
def tw4425317729705350831:=0
def tw6956634985713098703:=0
def tw2454668342440023184:=0
def tw17627831604854550960:=0
def tw17064585957480828496:=0
def tw747605010720021104:=0
def tw17219828867338345168:=0
def tw12186560063892574128:=0
def tw6720662799480157201:=0
def tw16387163788266092081:=0
def tw8790575398739117745:=0
def tw8499039097086888689:=0
def tw429685070440036370:=0
def tw7887994038211813138:=0
def tw2869622720650471218:=0
def tw7194733176296245074:=0
def tw7880977037338489107:=0
def tw9495458934843952755:=0
def tw5905219692712773427:=0
def tw12519018868061514804:=0
def tw10069956604491850932:=0
def tw17123622033160053460:=0
def tw16892288382064015188:=0
def tw3197353945140709268:=0
def tw16402281332692065397:=0
def tw14382237902626269461:=0
def tw11832291283941389717:=0
def tw1941347471753385685:=0
def tw4678979408239795254:=0
def tw7179857949066710102:=0
def tw10724771249031473366:=0
def tw15965796197348498742:=0
def tw12984513078665645430:=0
def tw2398152796307193238:=0
def tw7690958631160785622:=0
def tw18325439017785757494:=0
def tw2044655035608224726:=0
def tw6148836856128996471:=0
def tw11105552530667631704:=0
def tw17464760374518280440:=0
def tw15463978735944835480:=0
def tw3548381527817643544:=0
def tw11353244963170541242:=0
def tw3891862148402155226:=0
def tw8297923992197570362:=0
def tw12049703920925564730:=0
def tw11929784659564766299:=0
def tw14944276631465410779:=0
def tw2507665092439330203:=0
def tw537318632438821276:=0
def tw3664642534354535900:=0
def tw1379500150327625212:=0
def tw12687962882183604924:=0
def tw10470070590829342620:=0
def tw10607137911799140541:=0
def tw273089559322088637:=0
def tw15410839210706383549:=0
def tw1331761782299726685:=0
def tw16511897875665269054:=0
def tw128592133528421854:=0
def tw3072617793027881470:=0
def tw12716962911703961566:=0
def tw6060742732927636575:=0
def tw15494591454447025311:=0
def tw16669884956024873183:=0
def tw5186858159427493247:=0
def tw6960651609692699647:=0
end PySem.W.Fast
open PySem PySem.W PyProof.Rows L2 L3
set_option maxRecDepth 100000 in
set_option maxHeartbeats 0 in
theorem PySem.Challenge.cw_swellways_k37_whole_begins_and_ends_holds : PySem.Challenge.rw_swellways_k37_whole_begins_and_ends.Holds := by
  w_on;o_law;k_head;(case hw=>w_witness2)
  k_fill
  refine L3.Q9 (l:=PySem.Challenge.rw_swellways_k37_whole_begins_and_ends) (k:=9) (sp:=Kk.fi) (x := "_law_script") rfl rfl ⟨rfl,by decide,by decide⟩ (fun w h Y=>PySem.W.kIn_of Y) Kk.mq ?F
  case F=>
    intro w mg fa h KX G hmg
    refine' Kk.all_mk (t:=⟨_,_,_,_,_,_,_,_,_,_,_,_,_,_,_,_,_,_,_,_,_,_,_,_,_,_,_,_,_,_,_,_,_,_,_,_,_,_,_,_,_,_,_,_,_,_,_,_,_,_,_,_,_,_,_,_,_,_,_,_,_,_,_,_,_,_,_,_,_,_,_,_,_,_,_,_,_,_,_,_,_,_,_,_,_,_,_,_,_,_,_,_,_,_,_,_,_,_⟩) hmg ⟨mg_of KX G ?_,aS ?_ ?_ ?_,mg_of KX G ?_,aS ?_ ?_ ?_,mg_of KX G ?_,aS ?_ ?_ ?_,mg_of KX G ?_,aS ?_ ?_ ?_,mg_of KX G ?_,aS ?_ ?_ ?_,mg_of KX G ?_,aS ?_ ?_ ?_,mg_of KX G ?_,aS ?_ ?_ ?_,mg_of KX G ?_,aS ?_ ?_ ?_,mg_of KX G ?_,aS ?_ ?_ ?_,mg_of KX G ?_,aS ?_ ?_ ?_,mg_of KX G ?_,aS ?_ ?_ ?_,mg_of KX G ?_,aS ?_ ?_ ?_,mg_of KX G ?_,aS ?_ ?_ ?_,mg_of KX G ?_,aS ?_ ?_ ?_,mg_of KX G ?_,aS ?_ ?_ ?_,mg_of KX G ?_,aS ?_ ?_ ?_,mg_of KX G ?_,aS ?_ ?_ ?_,mg_of KX G ?_,aS ?_ ?_ ?_,mg_of KX G ?_,aS ?_ ?_ ?_,mg_of KX G ?_,aS ?_ ?_ ?_,mg_of KX G ?_,aS ?_ ?_ ?_,mg_of KX G ?_,aS ?_ ?_ ?_,mg_of KX G ?_,aS ?_ ?_ ?_,mg_of KX G ?_,aS ?_ ?_ ?_,mg_of KX G ?_,aS ?_ ?_ ?_,mg_of KX G ?_,aS ?_ ?_ ?_,mg_of KX G ?_,aS ?_ ?_ ?_,mg_of KX G ?_,aS ?_ ?_ ?_,mg_of KX G ?_,aS ?_ ?_ ?_,mg_of KX G ?_,aS ?_ ?_ ?_,mg_of KX G ?_,aS ?_ ?_ ?_,mg_of KX G ?_,aS ?_ ?_ ?_,mg_of KX G ?_,aS ?_ ?_ ?_,mg_of KX G ?_,aS ?_ ?_ ?_,mg_of KX G ?_,aS ?_ ?_ ?_,mg_of KX G ?_,aS ?_ ?_ ?_,mg_of KX G ?_,aS ?_ ?_ ?_,mg_of KX G ?_,aS ?_ ?_ ?_,mg_of KX G ?_,aS ?_ ?_ ?_,mg_of KX G ?_,aS ?_ ?_ ?_,mg_of KX G ?_,aS ?_ ?_ ?_,mg_of KX G ?_,aS ?_ ?_ ?_,mg_of KX G ?_,aS ?_ ?_ ?_,mg_of KX G ?_,aS ?_ ?_ ?_,mg_of KX G ?_,aS ?_ ?_ ?_,mg_of KX G ?_,aS ?_ ?_ ?_,mg_of KX G ?_,aS ?_ ?_ ?_,mg_of KX G ?_,aS ?_ ?_ ?_,mg_of KX G ?_,aS ?_ ?_ ?_,mg_none_of KX G ?_,mg_none_of KX G ?_,mg_none_of KX G ?_,mg_none_of KX G ?_,mg_none_of KX G ?_,mg_none_of KX G ?_,mg_none_of KX G ?_,mg_none_of KX G ?_,mg_none_of KX G ?_,mg_none_of KX G ?_,mg_none_of KX G ?_,mg_none_of KX G ?_,mg_none_of KX G ?_,mg_none_of KX G ?_,bh KX G ?_,bh KX G ?_,bh KX G ?_,bh KX G ?_,bh KX G ?_,bh KX G ?_,bh KX G ?_,bh KX G ?_,zx (its:=#[.int 1 _,.int 2 _]) (xs:=[V.int 1,V.int 2]) KX G ?_ ?_ ?_ ?_ ?_ (show 2≤sizeLine by decide) (.cons ⟨_,rfl⟩ (.cons ⟨_,rfl⟩ (.nil))) (fun _=>.cons (.int _) (.cons (.int _) (.nil))),bh KX G ?_,bh KX G ?_,bh KX G ?_,bh KX G ?_,bh KX G ?_,bh KX G ?_,bh KX G ?_,bh KX G ?_,bh KX G ?_,bh KX G ?_,zx (its:=#[.int 0 _,.int 1 _]) (xs:=[V.int 0,V.int 1]) KX G ?_ ?_ ?_ ?_ ?_ (show 2≤sizeLine by decide) (.cons ⟨_,rfl⟩ (.cons ⟨_,rfl⟩ (.nil))) (fun _=>.cons (.int _) (.cons (.int _) (.nil))),bh KX G ?_,zx (its:=#[.int 1 _,.int 1 _]) (xs:=[V.int 1,V.int 1]) KX G ?_ ?_ ?_ ?_ ?_ (show 2≤sizeLine by decide) (.cons ⟨_,rfl⟩ (.cons ⟨_,rfl⟩ (.nil))) (fun _=>.cons (.int _) (.cons (.int _) (.nil))),bh KX G ?_,bh KX G ?_,bh KX G ?_,bh KX G ?_,bh KX G ?_,bh KX G ?_,bh KX G ?_,bh KX G ?_,bh KX G ?_,bh KX G ?_,bh KX G ?_,bh KX G ?_,bh KX G ?_⟩
    all_goals try first | k_is | rfl
