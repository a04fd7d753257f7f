import PyProof.Rows.All
import Wide.All
import OpenK.AllK
import Wide.FinOn
import Lean
import PyProof.EqAt
import PyProof.EqKinds
import PyProof.TupleCall
import PyProof.P3Eq
import PyProof.NeKinds
import PyProof.NeData
import PyProof.ZipIter
import PyProof.EnumMake
import PyProof.EnumFor
import OpenK.KTop
import PyProof.IsRules
import PyProof.AttrMissHeap
import PyProof.DictUpdate
import KE.KDictOf
import PyProof.Rows.SortStr
import PyProof.FString5
import PyProof.StrOps
import PyProof.ListRange
import PyProof.TupleOfGen
import PyProof.Rows.SumAny
import PyProof.Rows.CallKwBuiltin
import PyProof.StrLoop
import PyProof.StrWalks
import PyProof.StrOps2
import PyProof.SliceStr2
import PyProof.StrBlockI
import PyProof.StrLaws
import PyProof.StrBlock
import PyProof.StrBlockL
import PyProof.StrCalls2
import KE.KStrOpen
import KE.KDictList
import PyProof.DictValues
import PySem.Challenge.RW_swellways_k55_less_is_bounded_by_less
set_option Elab.async false
set_option linter.all false
set_option maxRecDepth 100000
set_option maxHeartbeats 4000000
namespace L2
open PySem PySem.Spec PyProof.Rows
abbrev Key:=Sum Int Str
def nL:Key→Value→Bool
  | .inl k,v=>Value.isInt k v
  | .inr x,v=>Value.isStrOf x v
def K8 (w:World):Key→Int
  | .inl k=>hashInt k
  | .inr x=>hashStr w x
theorem bc:∀ {k:Key} {v:Value},nL k v=true→(∃ i t,k=Sum.inl i∧v=Value.int i t)∨(∃ x t,k=Sum.inr x∧v=Value.str x t)
  | .inl i,v,h=>by
    obtain ⟨t,e⟩:=Value.isInt_shape (k:=i) (v:=v) h
    exact .inl ⟨i,t,rfl,e⟩
  | .inr x,v,h=>by
    obtain ⟨t,e⟩:=Value.isStrOf_shape (x:=x) (v:=v) h
    exact .inr ⟨x,t,rfl,e⟩
theorem xZ (i:Int)(t:Tok):nL (.inl i) (.int i t)=true:=by simp[nL,Value.isInt]
theorem yd (x:Str)(t:Tok):nL (.inr x) (.str x t)=true:=by simp[nL,Value.isStrOf]
theorem GX (a b:Int):decide ((Sum.inl a:Key)=Sum.inl b)=(a == b):=by
  by_cases e:a=b
  · subst e;simp
  · have h:¬ (Sum.inl a:Key)=Sum.inl b:=fun q=>e (Sum.inl.inj q)
    rw[decide_eq_false h]
    exact (beq_eq_false_iff_ne.mpr e).symm
theorem FK (a b:Str):decide ((Sum.inr a:Key)=Sum.inr b)=decide (a=b):=by
  by_cases e:a=b
  · subst e;simp
  · have h:¬ (Sum.inr a:Key)=Sum.inr b:=fun q=>e (Sum.inr.inj q)
    rw[decide_eq_false h,decide_eq_false e]
theorem Fn (a:Int)(b:Str):decide ((Sum.inl a:Key)=Sum.inr b)=false:=decide_eq_false (fun q=>nomatch q)
theorem FE (a:Str)(b:Int):decide ((Sum.inr a:Key)=Sum.inl b)=false:=decide_eq_false (fun q=>nomatch q)
def bF (prog:Program)(w:World):PySem.KeyKind prog w Key where
  is:=nL
  hash:=K8 w
  inj:=fun v a b ha hb=>by
    rcases bc ha with ⟨i,t,rfl,rfl⟩ | ⟨x,t,rfl,rfl⟩
    · rcases bc hb with ⟨j,u,rfl,e⟩ | ⟨y,u,rfl,e⟩
      · injection e with e1 _;rw[e1]
      · exact nomatch e
    · rcases bc hb with ⟨j,u,rfl,e⟩ | ⟨y,u,rfl,e⟩
      · exact nomatch e
      · injection e with e1 _;rw[e1]
  byValue:=fun k v h=>by
    rcases bc h with ⟨i,t,rfl,rfl⟩ | ⟨x,t,rfl,rfl⟩ <;> rfl
  pyHash:=fun hv h=>by
    rcases bc hv with ⟨i,t,rfl,rfl⟩ | ⟨x,t,rfl,rfl⟩
    · exact wpAny_pyHash_int h
    · exact wpAny_pyHash_str h
  eqBool:=fun hu hv h=>by
    rcases bc hu with ⟨i,t,rfl,rfl⟩ | ⟨x,t,rfl,rfl⟩
    · rcases bc hv with ⟨j,u,rfl,rfl⟩ | ⟨y,u,rfl,rfl⟩
      · rw[GX] at h;exact wpAny_eqBool_int h
      · rw[Fn] at h;exact SeqAt.EqAt.int_str i t y u _ _ _ _ h
    · rcases bc hv with ⟨j,u,rfl,rfl⟩ | ⟨y,u,rfl,rfl⟩
      · rw[FE] at h;exact SeqAt.EqAt.str_int x t j u _ _ _ _ h
      · rw[FK] at h;exact wpAny_eqBool_str h
  «strs»:=fun k x t v h=>by
    rcases bc h with ⟨i,u,rfl,e⟩ | ⟨y,u,rfl,e⟩
    · exact nomatch e
    · injection e with e1 _
      subst e1
      cases v<;>rfl
theorem sf (prog:Program)(w:World)(i:Int)(t:Tok):(bF prog w).is (.inl i) (.int i t)=true:=xZ i t
theorem qS (prog:Program)(w:World)(x:Str)(t:Tok):(bF prog w).is (.inr x) (.str x t)=true:=yd x t
end L2
namespace L2
open PySem PySem.Spec PyProof.Rows
inductive V where
  | non | bl (b:Bool) | int (i:Int) | str (x:Str) | byt (b:Array UInt8) | flt (b:UInt64) | ref (a:Addr) | ty (n:String)
  deriving DecidableEq
def RelV:V→Value→Prop
  | .non,u=>u=Value.none
  | .bl b,u=>u=Value.bool b
  | .int i,u=>∃ t,u=Value.int i t
  | .str x,u=>∃ t,u=Value.str x t
  | .byt b,u=>∃ t,u=Value.bytes b t
  | .flt b,u=>∃ t,u=Value.float b t
  | .ref a,u=>u=Value.ref a
  | .ty n,u=>u=Value.type n
abbrev Vals:List V→List Value→Prop:=Paired RelV
theorem Vals.length {xs:List V}{us:List Value}(r:Vals xs us):xs.length=us.length:=Paired.length r
theorem Vals.get:∀ {xs:List V} {us:List Value} {i:Nat} {x:V},Vals xs us→xs[i]? = some x→∃ u,us[i]? = some u∧RelV x u
  | _,_,_,_,.nil,e=>by simp at e
  | _,_,0,_,.cons r _,e=>by simp at e;subst e;exact ⟨_,rfl,r⟩
  | _,_,i+1,x,.cons _ t,e=>by
    obtain ⟨u,h1,h2⟩:=Vals.get (i:=i) (x:=x) t (by simpa using e)
    exact ⟨u,by simpa using h1,h2⟩
theorem Vals.set {x:V}{u:Value}(r:RelV x u):∀ {xs:List V} {us:List Value} (i:Nat),Vals xs us→Vals (xs.set i x) (us.set i u)
  | _,_,_,.nil=>.nil
  | _,_,0,.cons _ t=>.cons r t
  | _,_,i+1,.cons q t=>.cons q (Vals.set r i t)
theorem Vals.append:∀ {xs ys:List V} {us ws:List Value},Vals xs us→Vals ys ws→Vals (xs++ys) (us++ws)
  | _,_,_,_,.nil,s=>s
  | _,_,_,_,.cons r t,s=>.cons r (Vals.append t s)
theorem Vals.take:∀ {xs:List V} {us:List Value} (n:Nat),Vals xs us→Vals (xs.take n) (us.take n)
  | _,_,0,_=>.nil
  | _,_,_+1,.nil=>.nil
  | _,_,n+1,.cons r t=>.cons r (Vals.take n t)
theorem Vals.drop:∀ {xs:List V} {us:List Value} (n:Nat),Vals xs us→Vals (xs.drop n) (us.drop n)
  | _,_,0,r=>r
  | _,_,_+1,.nil=>.nil
  | _,_,n+1,.cons _ t=>Vals.drop n t
def jX:Option V→Option Value→Prop
  | some v,some u=>RelV v u
  | none,none=>True
  | _,_=>False
def KV {κ:Type}:List (κ×V)→List (κ×Value)→Prop:=Paired fun (p:κ×V) (q:κ×Value)=>p.1=q.1∧RelV p.2 q.2
def kV:Key→V
  | .inl i=>.int i
  | .inr x=>.str x
inductive HO where
    | lst (xs:List V)
    | tup (xs:List V)
    | dK (kvs:List (Key×V)) | dT (kvs:List (List Key×V))
    | set (S:Int→Bool) (n:Nat)
    | ins (C dx:Addr) (fs:List (Str×V))
    | own (x:Addr)
    | xd (fs:List (Str×V))
    | met (f x:Addr)
    | rng (lo hi:Int)
    | frz (o:Obj) (u:HO)
    | tbl (ps:Array Value)
    | ext (φ:Heap→Prop)
abbrev Hp:=Addr→Option HO
def upd (H:Hp)(a:Addr)(o:HO):Hp:=fun b=>if b=a then some o else H b
theorem aF {H:Hp}{a:Addr}{o:HO}:upd H a o a=some o:=by unfold upd;rw[if_pos rfl]
theorem aA {H:Hp}{a b:Addr}{o:HO}(h:b≠a):upd H a o b=H b:=by unfold upd;rw[if_neg h]
theorem pw {H:Hp}{a:Addr}{o u:HO}:upd (upd H a o) a u=upd H a u:=by
  funext b;unfold upd;split<;>rfl
theorem Jy {H:Hp}{a b:Addr}{o u:HO}(h:H a=some o)(h':H b=some u)(d:o≠u):a≠b:=by
  intro e;subst e;rw[h] at h';exact d (Option.some.inj h')
theorem aQ {H:Hp}{a b:Addr}{o:HO}(h:H a=some o)(h':H b=none):a≠b:=by
  intro e;subst e;rw[h] at h';cases h'
def qT (h:Heap)(a:Addr)(items:Array Value):Prop:=∃ n,h.get? a=some { cls:=.type "tuple", data:=.seq items n }
theorem qT.tup {h:Heap}{a:Addr}{items:Array Value}(p:qT h a items):IsTup h a items:=by obtain ⟨n,e⟩:=p;exact ⟨_,e,rfl,n,rfl⟩
theorem qT.new (h:Heap)(items:Array Value):qT (h.push { cls:=.type "tuple", data:=.seq items }) h.objs.size items:=⟨_,Heap.get?_push_size _ rfl⟩
section
variable (P:Program) (w:World)
def bU (H:Hp)(h:Heap)(a:Addr):HO→Prop
  | .lst xs=>xs.length≤sizeLine∧∃ (its:List Value) (n:Nat),Vals xs its∧h.get? a=some { cls:=.type "list", data:=.seq its.toArray n }
  | .tup xs=>xs.length≤sizeLine∧∃ its:List Value,Vals xs its∧qT h a its.toArray
  | .dK kvs=>kvs.length≤sizeLine∧(a == sysModules)=false∧∃ vs,KV kvs vs∧h.DictOf (bF P w) a vs
  | .dT kvs=>kvs.length≤sizeLine∧(a == sysModules)=false∧∃ xs:List (List Key×Addr×Value),
      Paired (fun (p:List Key×V) (q:List Key×Addr×Value)=>p.1=q.1∧H q.2.1=some (.tup (p.1.map kV))∧RelV p.2 q.2.2) kvs xs∧
      ∃ o es ep,h.get? a=some o∧o.ExactDict∧o.data=.dict es ep∧es.toList=xs.map (entryOfKey (tupleKind (bF P w)))∧(xs.map (·.1)).Nodup
  | .set S n=>h.SetOf (intKind P w) a S n
  | .ins C dx fs=>H dx=some (.own a)∧fs.length≤1000∧dx≠a∧h.get? a=some (PySem.W.instObj C dx)∧
      ∃ mA,h.Ns1 dx mA∧(∀ f,jX (fs.lookup f) (mA f))∧PySem.Within mA (fs.map (·.1))
  | .own _=>∃ o,h.get? a=some o
  | .xd fs=>∃ mA,h.Ns1 a mA∧∀ f,jX (fs.lookup f) (mA f)
  | .rng lo hi=>∃ t u v,h.get? a=some { cls:=.type "range", data:=.fields #[.int lo t,.int hi u,.int 1 v] }
  | .frz o u=>h.get? a=some o∧bU H h a u
  | .tbl ps=>h.get? a=some { cls:=.none,data:=.fields ps }
  | .met f x=>h.get? a=some (PySem.W.methodObj (.ref f) (.ref x))
  | .ext φ=>φ h∧(∃ o,h.get? a=some o)∧∀ h1 h2:Heap,φ h1→(∀ o,h1.get? a=some o→h2.get? a=some o)→φ h2
def HOk (H:Hp)(h:Heap):Prop:=∀ a o,H a=some o→bU P w H h a o
end
section
variable {P:Program} {w:World} {H H':Hp} {h h':Heap} {a:Addr} {o:HO}
theorem bU.lt (x:bU P w H h a o):a < h.objs.size:=by
  cases o with
  | lst xs=>obtain ⟨_,_,_,_,e⟩:=x;exact Heap.lt_size e
  | tup xs=>obtain ⟨_,_,_,p⟩:=x;exact p.tup.lt
  | dK kvs=>obtain ⟨_,_,_,_,o,_,_,e,_⟩:=x;exact Heap.lt_size e
  | dT kvs=>obtain ⟨_,_,_,_,o,_,_,e,_⟩:=x;exact Heap.lt_size e
  | set S n=>obtain ⟨o,_,_,_,e,_⟩:=x;exact Heap.lt_size e
  | ins C dx fs=>obtain ⟨_,_,_,e,_⟩:=x;exact Heap.lt_size e
  | own y=>obtain ⟨_,e⟩:=x;exact Heap.lt_size e
  | xd fs=>obtain ⟨_,⟨_,_,_,e,_⟩,_⟩:=x;exact Heap.lt_size e
  | rng lo hi=>obtain ⟨_,_,_,e⟩:=x;exact Heap.lt_size e
  | frz ob u=>obtain ⟨e,_⟩:=x;exact Heap.lt_size e
  | tbl ps=>exact Heap.lt_size (show h.get? a=some _ from x)
  | met f y=>exact Heap.lt_size (show h.get? a=some _ from x)
  | ext φ=>obtain ⟨_,⟨_,e⟩,_⟩:=x;exact Heap.lt_size e
theorem Paired.Hi {α β:Type}{F G:α→β→Prop}:∀ {l₁:List α} {l₂:List β},Paired F l₁ l₂→(∀ a b,F a b→G a b)→Paired G l₁ l₂
  | _,_,.nil,_=>.nil
  | _,_,.cons r t,f=>.cons (f _ _ r) (Paired.Hi t f)
theorem bU.jW (x:bU P w H h a o)(k:∀ b u,(b=a∨H b=some (.own a))→h.get? b=some u→h'.get? b=some u)
    (ho:∀ b,H b=some (.own a)→H' b=some (.own a)) (ht:∀ b xs,H b=some (.tup xs)→H' b=some (.tup xs)):bU P w H' h' a o:=by
  induction o with
  | lst xs=>obtain ⟨z,its,n,r,e⟩:=x;exact ⟨z,its,n,r,k _ _ (.inl rfl) e⟩
  | tup xs=>obtain ⟨z,its,r,m,e⟩:=x;exact ⟨z,its,r,m,k _ _ (.inl rfl) e⟩
  | dK kvs=>obtain ⟨z,y,vs,r,ob,es,ep,e,c⟩:=x;exact ⟨z,y,vs,r,ob,es,ep,k _ _ (.inl rfl) e,c⟩
  | dT kvs=>
    obtain ⟨z,y,xs,r,ob,es,ep,e,c⟩:=x
    exact ⟨z,y,xs,Paired.Hi r fun p q z=>⟨z.1,ht _ _ z.2.1,z.2.2⟩,ob,es,ep,k _ _ (.inl rfl) e,c⟩
  | set S n=>obtain ⟨ob,es,ep,t,e,c⟩:=x;exact ⟨ob,es,ep,t,k _ _ (.inl rfl) e,c⟩
  | ins C dx fs=>
    obtain ⟨d,z,ne,e,mA,⟨od,es,ep,e2,c⟩,r⟩:=x
    exact ⟨ho _ d,z,ne,k _ _ (.inl rfl) e,mA,⟨od,es,ep,k _ _ (.inr d) e2,c⟩,r⟩
  | own y=>obtain ⟨ob,e⟩:=x;exact ⟨ob,k _ _ (.inl rfl) e⟩
  | xd fs=>obtain ⟨mA,⟨od,es,ep,e,c⟩,r⟩:=x;exact ⟨mA,⟨od,es,ep,k _ _ (.inl rfl) e,c⟩,r⟩
  | rng lo hi=>obtain ⟨t,u,v,e⟩:=x;exact ⟨t,u,v,k _ _ (.inl rfl) e⟩
  | frz ob u ih=>obtain ⟨e,q⟩:=x;exact ⟨k _ _ (.inl rfl) e,ih q⟩
  | tbl ps=>
    have e:h.get? a=some { cls:=.none,data:=.fields ps }:=x
    show h'.get? a=some { cls:=.none,data:=.fields ps }
    exact k a _ (.inl rfl) e
  | met f y=>
    have e:h.get? a=some (PySem.W.methodObj (.ref f) (.ref y)):=x
    show h'.get? a=some (PySem.W.methodObj (.ref f) (.ref y))
    exact k a _ (.inl rfl) e
  | ext φ=>obtain ⟨p,⟨o,e⟩,st⟩:=x;exact ⟨st _ _ p fun o q=>k _ _ (.inl rfl) q,⟨o,k _ _ (.inl rfl) e⟩,st⟩
theorem HOk.lt (x:HOk P w H h)(e:H a=some o):a < h.objs.size:=(x a o e).lt
theorem HOk.fresh (x:HOk P w H h)(e:h.objs.size≤a):H a=none:=by
  cases q:H a with
  | none=>rfl
  | some u=>exact absurd (Nat.lt_of_lt_of_le (x.lt q) e) (Nat.lt_irrefl _)
theorem HOk.kept (x:HOk P w H h)(k:∀ b u,h.get? b=some u→h'.get? b=some u):HOk P w H h':=fun a o e=>
  (x a o e).jW (fun b u _ q=>k b u q) (fun _ q=>q) fun _ _ q=>q
theorem HOk.laid (x:HOk P w H h)(k:∀ b u,h.get? b=some u→h'.get? b=some u)(hp:h.objs.size≤a)(new:bU P w (upd H a o) h' a o):HOk P w (upd H a o) h':=fun b u e=>by
  have hn:=x.fresh hp
  by_cases hb:b=a
  · subst hb;rw[aF] at e;cases e;exact new
  · rw[aA hb] at e
    exact (x b u e).jW (fun c v _ q=>k c v q) (fun c q=>by rw[aA (aQ q hn)];exact q) fun c xs q=>by rw[aA (aQ q hn)];exact q
end
def Rd (H:Hp)(a:Addr)(u:HO):Prop:=H a=some u∨∃ o,H a=some (.frz o u)
theorem Rd.of {H:Hp}{a:Addr}{u:HO}(h:H a=some u):Rd H a u:=.inl h
theorem Rd.ok {P:Program}{w:World}{H:Hp}{h:Heap}{a:Addr}{u:HO}(r:Rd H a u)(x:HOk P w H h):bU P w H h a u:=by
  rcases r with r | ⟨o,r⟩
  · exact x a u r
  · obtain ⟨_,q⟩:=x a _ r
    exact q
def Mut:Option HO→Prop
  | some (.lst _)=>True
  | some (.dK _)=>True
  | some (.dT _)=>True
  | some (.set _ _)=>True
  | some (.ins _ _ _)=>True
  | some (.ext _)=>True
  | _=>False
section
variable {P:Program} {w:World} {H:Hp} {h h':Heap} {x e:Addr} {o':HO}
theorem HOk.write (ok:HOk P w H h)(mu:Mut (H x))(he:e=x∨H e=some (.own x))(k:∀ b u,b≠e→h.get? b=some u→h'.get? b=some u)(heo:∃ u,h'.get? e=some u)
    (new:bU P w (upd H x o') h' x o'):HOk P w (upd H x o') h':=fun b u q=>by
  have Jt:∀ c y,H c=some (.own y)→c≠x:=fun c y r z=>by subst z;rw[r] at mu;exact mu
  have KU:∀ c xs,H c=some (.tup xs)→c≠x:=fun c xs r z=>by subst z;rw[r] at mu;exact mu
  by_cases hb:b=x
  · subst hb;rw[aF] at q;cases q;exact new
  · rw[aA hb] at q
    by_cases hbe:b=e
    · have q':H b=some (.own x):=by
        rcases he with z | z
        · exact absurd (hbe.trans z) hb
        · rw[hbe];exact z
      rw[q] at q';cases q'
      obtain ⟨v,hv⟩:=heo
      exact ⟨v,by rw[hbe];exact hv⟩
    · refine (ok b u q).jW (fun c v hc r=>k c v ?_ r) (fun c r=>by rw[aA (Jt c b r)];exact r) fun c xs r=>by rw[aA (KU c xs r)];exact r
      rcases hc with rfl | hc
      · exact hbe
      · rintro rfl
        rcases he with z | z
        · exact Jt c b hc z
        · rw[hc] at z;cases z;exact hb rfl
end
structure Un (fs ex:List Addr) (H H':Hp) (h h':Heap):Prop where
  keep:∀ b o,h.get? b=some o→H b=none→b ∉ fs→b ∉ ex→h'.get? b=some o
  slot:∀ b o,h.get? b=some o→H b=none→b∈fs→b ∉ ex→∃ sl,h'.get? b=some { o with slots:=sl }
  free:∀ b o,h.get? b=some o→H b=none→b ∉ ex→H' b=none
  there:∀ b o,h.get? b=some o→b ∉ ex→∃ o',h'.get? b=some o'
  jm:∀ b xs,H b=some (.tup xs)→H' b=some (.tup xs)
  gT:∀ b o u,H b=some (.frz o u)→H' b=some (.frz o u)
  i7:∀ b ps,H b=some (.tbl ps)→∃ more,H' b=some (.tbl (ps++more))
section
variable {fs fs' ex ex':List Addr} {H H1 H2:Hp} {h h1 h2 h':Heap} {a x e:Addr} {o:HO}
theorem Un.any (u:Un fs ex H H1 h h1){b:Addr}{ob:Obj}(q:h.get? b=some ob)(n:H b=none)(hx:b ∉ ex):∃ sl,h1.get? b=some { ob with slots:=sl }:=by
  by_cases hb:b∈fs
  · exact u.slot b ob q n hb hx
  · exact ⟨ob.slots,u.keep b ob q n hb hx⟩
theorem Un.trans (a:Un fs ex H H1 h h1)(b:Un fs ex H1 H2 h1 h2):Un fs ex H H2 h h2 where
  keep:=fun c ob q n hc hx=>b.keep c ob (a.keep c ob q n hc hx) (a.free c ob q n hx) hc hx
  slot:=fun c ob q n hc hx=>by
    obtain ⟨sl,e1⟩:=a.slot c ob q n hc hx
    obtain ⟨sl',e2⟩:=b.slot c _ e1 (a.free c ob q n hx) hc hx
    exact ⟨sl',e2⟩
  free:=fun c ob q n hx=>by
    obtain ⟨o',e1⟩:=a.there c ob q hx
    exact b.free c o' e1 (a.free c ob q n hx) hx
  there:=fun c ob q hx=>by
    obtain ⟨o',e1⟩:=a.there c ob q hx
    exact b.there c o' e1 hx
  jm:=fun c xs q=>b.jm c xs (a.jm c xs q)
  gT:=fun c ob xs q=>b.gT c ob xs (a.gT c ob xs q)
  i7:=fun c ps q=>by
    obtain ⟨m1,e1⟩:=a.i7 c ps q
    obtain ⟨m2,e2⟩:=b.i7 c _ e1
    exact ⟨m1++m2,by rw[e2,Array.append_assoc]⟩
theorem Un.kept (k:∀ b u,h.get? b=some u→h'.get? b=some u):Un fs ex H H h h':=
  ⟨fun b ob q _ _ _=>k b ob q,fun b ob q _ _ _=>⟨ob.slots,k b ob q⟩,fun _ _ _ n _=>n,fun b ob q _=>⟨ob,k b ob q⟩,fun _ _ q=>q,fun _ _ _ q=>q,fun _ ps q=>⟨#[],by rw[q];simp⟩⟩
theorem Un.refl:Un fs ex H H h h:=Un.kept fun _ _ q=>q
theorem Un.laid (k:∀ b u,h.get? b=some u→h'.get? b=some u)(hp:h.objs.size≤a)(hn:H a=none):Un fs ex H (upd H a o) h h' where
  keep:=fun b u q _ _ _=>k b u q
  slot:=fun b u q _ _ _=>⟨u.slots,k b u q⟩
  free:=fun b u q n _=>by rw[aA (Nat.ne_of_lt (Nat.lt_of_lt_of_le (Heap.lt_size q) hp))];exact n
  there:=fun b u q _=>⟨u,k b u q⟩
  jm:=fun b xs q=>by rw[aA (aQ q hn)];exact q
  gT:=fun b u xs q=>by rw[aA (aQ q hn)];exact q
  i7:=fun b ps q=>⟨#[],by rw[aA (aQ q hn),q];simp⟩
theorem Un.write (mu:Mut (H x))(he:e=x∨H e=some (.own x))(k:∀ b u,b≠e→h.get? b=some u→h'.get? b=some u)(heo:∃ u,h'.get? e=some u):Un fs ex H (upd H x o) h h':=by
  have hx:∀ b,H b=none→b≠x:=fun b n z=>by subst z;rw[n] at mu;exact mu
  have hb:∀ b,H b=none→b≠e:=fun b n z=>by
    subst z
    rcases he with r | r
    · exact hx b n r
    · rw[n] at r;cases r
  have hm:∀ b u,H b=some u→¬ Mut (some u)→b≠x:=fun b u q nm z=>by subst z;rw[q] at mu;exact nm mu
  refine ⟨fun b u q n _ _=>k b u (hb b n) q,fun b u q n _ _=>⟨u.slots,k b u (hb b n) q⟩,fun b u q n _=>by rw[aA (hx b n)];exact n,fun b u q _=>?_,
    fun b xs q=>by rw[aA (hm b _ q fun z=>z)];exact q,fun b u xs q=>by rw[aA (hm b _ q fun z=>z)];exact q,fun b ps q=>⟨#[],by rw[aA (hm b _ q fun z=>z),q];simp⟩⟩
  by_cases hbe:b=e
  · subst hbe;exact heo
  · exact ⟨u,k b u hbe q⟩
theorem Un.mono (u:Un fs ex H H1 h h1)(hs:∀ b∈fs,b∈fs')(hx:∀ b∈ex,b∈ex'):Un fs' ex' H H1 h h1:=
  ⟨fun b ob q n hb he=>u.keep b ob q n (fun z=>hb (hs b z)) fun z=>he (hx b z),fun _ _ q n _ he=>u.any q n fun z=>he (hx _ z),fun b ob q n he=>u.free b ob q n fun z=>he (hx b z),fun b ob q he=>u.there b ob q fun z=>he (hx b z),u.jm,u.gT,u.i7⟩
end
def trk (h:Heap)(H:Hp):List Addr:=(List.range h.objs.size).filter fun a=>(H a).isSome
def pM (h:Heap)(H:Hp):Heap:=PySem.W.hideAll h (trk h H)
theorem wM (h:Heap)(H:Hp):(pM h H).objs.size=h.objs.size:=PySem.W.hideAll_size _ _
theorem BA {h:Heap}{H:Hp}{b:Addr}{o:Obj}(e:h.get? b=some o)(n:H b=none):(pM h H).get? b=some o:=
  PySem.W.hideAll_get _ e fun hm=>by
    have q:(H b).isSome=true:=(List.mem_filter.mp hm).2
    rw[n] at q;simp at q
theorem DY {h:Heap}{H:Hp}{b:Addr}{o:Obj}(e:(pM h H).get? b=some o):h.get? b=some o∧H b=none:=by
  have e':h.get? b=some o:=PySem.W.of_hideAll (trk h H) e
  refine ⟨e',?_⟩
  cases q:H b with
  | none=>rfl
  | some x=>
    have hm:b∈trk h H:=List.mem_filter.mpr ⟨List.mem_range.mpr (Heap.lt_size e'),by simp[q]⟩
    have z:(pM h H).get? b=none:=PySem.W.hideAll_none (trk h H) hm
    rw[z] at e;cases e
def D6 (g h:Heap)(L:Addr):List (Addr×Obj):=(List.range h.objs.size).filterMap fun a=>if a=L∨(g.get? a).isSome=true then none else (h.get? a).map fun o=>(a,o)
def rest (g h:Heap)(L d:Addr):List (Addr×Obj):=(D6 g h L).filter fun p=>decide (p.1≠d)
end L2
namespace L2
open PySem PySem.Spec PyProof.Rows
structure Mod (K:PySem.W.Frag) (mg:Str→Option Value) (base:Heap):Prop where
  kin:K.In base
  glob:base.Ns mainGlobals mg
  blt:∃ mb,base.Ns builtinsNs mb∧∀ x:Str,x ≠ "__name__" → mb x=bootBuiltins x
  nolimit:base.NoLimit
structure Cx where
  prog:Program
  w:World
  K:PySem.W.Frag
  mg:Str→Option Value
  base:Heap
  A:Around
  N:List Str
  s₀:Shared
  H₀:Hp
  env:Env
  outer:List Env
  stack:List Env
  ex:List Addr
  fn:Str→Bool
  calm:Bool
  pn:List (Addr×Obj)
  xe:Value→Shared→Prop
def frs (l:List Env):List Addr:=l.filterMap (·.frame)
abbrev Cx.fs (X:Cx):List Addr:=frs X.outer
def Vis (sc:Scope)(x:Str):Prop:=sc.names.lookup x=some .local∨sc.names.lookup x=some .cell∨sc.names.lookup x=some .free
def Loc (sc:Scope)(x:Str):Prop:=sc.names.lookup x=some .local∨sc.names.lookup x=some .cell
def Look (env:Env)(h:Heap)(m:Str→Option Value)(x:Str)(u:Value):Prop:=
  (env.kindOf x=some .local∧m x=some u)∨((env.kindOf x=some .cell∨env.kindOf x=some .free)∧∃ c,env.cells.lookup x=some c∧h.IsCell c (some u))
structure Cx.Ok (X:Cx):Prop where
  mod:Mod X.K X.mg X.base
  kind:X.env.scope.kind=.function
  glob:X.env.globals=mainGlobals
  blt:X.env.builtins=builtinsNs
  above:X.s₀.heap.objs.size≤X.env.locals
  inj:∀ x y c,X.env.cells.lookup x=some c→X.env.cells.lookup y=some c→x=y
  has:∀ x,(X.env.kindOf x=some .cell∨X.env.kindOf x=some .free)→∃ c,X.env.cells.lookup x=some c
  cab:∀ x c,X.fn x=true→X.env.cells.lookup x=some c→X.s₀.heap.objs.size≤c
  hd:X.calm=true→X.A.handled=none
  frames:X.A.frames=some X.stack
  stk:X.stack=X.outer∨(X.stack=X.env::X.outer∧X.env.frame=some X.env.locals)
  exf:∀ b∈X.ex,b≠X.env.locals∧∀ x c,X.env.cells.lookup x=some c→c≠b
  bs:∀ b o,X.base.get? b=some o→X.s₀.heap.get? b=some o∧X.H₀ b=none
  bsz:X.base.objs.size≤X.s₀.heap.objs.size
  A0:∀ b o,X.base.get? b=some o→b ∉ X.ex
  zE:∀ b∈X.ex,b ∉ X.fs
  jQ:X.s₀.heap.FunFrames X.base X.outer
  frf:∀ b∈X.fs,X.H₀ b=none
structure Inv (X:Cx) (pins:List (Addr×Obj)) (σ:List (Option V)) (H:Hp) (s:Shared):Prop where
  ok:X.Ok
  os:s.os=X.s₀.os
  bare:AllBare s.gens
  base:Un X.fs X.ex X.H₀ H X.s₀.heap s.heap
  loc:∃ m,s.heap.Ns X.env.locals m∧∀ (i:Nat) (x:Str) (v:V),X.N[i]? = some x→σ[i]? = some (some v)→Vis X.env.scope x→∃ u,RelV v u∧Look X.env s.heap m x u
  cell:∀ x c,X.env.cells.lookup x=some c→∃ v,s.heap.IsCell c v
  free:H X.env.locals=none
  fH:∀ x c,X.env.cells.lookup x=some c→H c=none
  pin:∀ p∈X.pn++pins,s.heap.get? p.1=some p.2∧H p.1=none∧p.1≠X.env.locals∧p.1 ∉ X.fs∧∀ v,p.2.data≠.cell v
  hok:HOk X.prog X.w H s.heap
  len:σ.length=X.N.length
section
variable {X:Cx} {pins:List (Addr×Obj)} {σ:List (Option V)} {H H':Hp} {s:Shared} {h':Heap}
theorem Cx.Ok.K9 (ok:X.Ok){b:Addr}{o:Obj}(e:X.base.get? b=some o):b ∉ X.fs:=fun hb=>by
  have:=(ok.jQ.mem hb).1
  rw[e] at this;cases this
theorem Inv.bs (I:Inv X pins σ H s):∀ b o,X.base.get? b=some o→s.heap.get? b=some o∧H b=none:=fun b o e=>
  ⟨I.base.keep b o (I.ok.bs b o e).1 (I.ok.bs b o e).2 (I.ok.K9 e) (I.ok.A0 b o e),I.base.free b o (I.ok.bs b o e).1 (I.ok.bs b o e).2 (I.ok.A0 b o e)⟩
theorem Inv.bk (I:Inv X pins σ H s):∀ b o,X.base.get? b=some o→s.heap.get? b=some o:=fun b o e=>(I.bs b o e).1
theorem Inv.mod (I:Inv X pins σ H s):Mod X.K X.mg X.base:=I.ok.mod
theorem Inv.kIn (I:Inv X pins σ H s):X.K.In s.heap:=I.ok.mod.kin.keeps I.bk
theorem Inv.nolimit (I:Inv X pins σ H s):s.heap.NoLimit:=I.ok.mod.nolimit.keeps I.bk
theorem Inv.fr (I:Inv X pins σ H s):∃ m,Fr X.base X.env.locals s.heap m:=
  let ⟨m,hn,_⟩:=I.loc
  ⟨m,hn,I.bk,Nat.le_trans I.ok.bsz I.ok.above⟩
theorem Inv.lt (I:Inv X pins σ H s):X.env.locals < s.heap.objs.size:=let ⟨_,hn,_⟩:=I.loc;hn.lt
theorem Inv.sz (I:Inv X pins σ H s):X.s₀.heap.objs.size≤s.heap.objs.size:=Nat.le_trans I.ok.above (Nat.le_of_lt I.lt)
theorem Inv.K6 (I:Inv X pins σ H s){a:Addr}(h:s.heap.objs.size≤a):a ∉ X.fs:=fun hb=>by
  obtain ⟨_,o,ho,_⟩:=I.ok.jQ.mem hb
  exact absurd (Nat.lt_of_lt_of_le (Heap.lt_size ho) (Nat.le_trans I.sz h)) (Nat.lt_irrefl _)
theorem Inv.cne (I:Inv X pins σ H s):∀ x c,X.env.cells.lookup x=some c→c≠X.env.locals:=fun x c e z=>by
  obtain ⟨v,o,ho,hd⟩:=I.cell x c e
  obtain ⟨m,⟨o',es,ep,ho',hd',_⟩,_⟩:=I.loc
  rw[z,ho'] at ho;cases ho;rw[hd'] at hd;cases hd
theorem Inv.jQ (I:Inv X pins σ H s):s.heap.FunFrames X.base X.outer:=by
  have all:∀ (l:List Env),(∀ b∈frs l,b∈X.fs)→X.s₀.heap.FunFrames X.base l→s.heap.FunFrames X.base l:=by
    intro l
    induction l with
    | nil=>intro _ _;trivial
    | cons env r ih=>
      intro hs hl
      obtain ⟨hk,⟨L,o,hf,hn,ho,hd⟩,hr⟩:=hl
      have hL:L∈X.fs:=hs L (by unfold frs;rw[List.filterMap_cons,hf];exact List.mem_cons_self)
      obtain ⟨sl,e⟩:=I.base.slot L o ho (I.ok.frf L hL) hL fun z=>I.ok.zE L z hL
      exact ⟨hk,⟨L,_,hf,hn,e,hd⟩,ih (fun b hb=>hs b (by unfold frs;rw[List.filterMap_cons,hf];exact List.mem_cons_of_mem _ hb)) hr⟩
  exact all X.outer (fun _ hb=>hb) I.ok.jQ
theorem Inv.stack (I:Inv X pins σ H s):s.heap.FunFrames X.base X.stack:=by
  rcases I.ok.stk with e | ⟨e,hf⟩
  · rw[e];exact I.jQ
  · rw[e]
    obtain ⟨m,hn,_⟩:=I.loc
    refine .cons (by rw[I.ok.kind];decide) hf hn ?_ I.jQ
    exact Heap.get?_none_of_le (Nat.le_trans I.ok.bsz I.ok.above)
theorem Inv.tZ (I:Inv X pins σ H s):∀ b∈frs X.stack,b∈X.env.locals::X.fs:=fun b hb=>by
  rcases I.ok.stk with e | ⟨e,hf⟩
  · rw[e] at hb;exact List.mem_cons_of_mem _ hb
  · rw[e] at hb
    unfold frs at hb
    rw[List.filterMap_cons,hf] at hb
    exact hb
theorem Inv.vA (I:Inv X pins σ H s):∀ b∈frs X.stack,H b=none:=fun b hb=>by
  rcases List.mem_cons.mp (I.tZ b hb) with e | hb
  · rw[e];exact I.free
  · obtain ⟨_,o,ho,_⟩:=I.ok.jQ.mem hb
    exact I.base.free b o ho (I.ok.frf b hb) fun z=>I.ok.zE b z hb
theorem Inv.step {g':Array GenState}{t':Nat}{d':Drawn}{ch:List Addr}(I:Inv X pins σ H s)
    (hch:∀ b∈ch,(b∈X.ex∨X.s₀.heap.objs.size≤b)∧b≠X.env.locals∧(∀ x c,X.env.cells.lookup x=some c→c≠b)∧∀ p∈X.pn++pins,p.1≠b)
    (keep:∀ b o,b≠X.env.locals→b ∉ X.fs→b ∉ ch→s.heap.get? b=some o→H b=none→h'.get? b=some o)
    (slot:∀ b o,b≠X.env.locals→b∈X.fs→b ∉ ch→s.heap.get? b=some o→H b=none→∃ sl,h'.get? b=some { o with slots:=sl }) (free:∀ b o,b ∉ ch→s.heap.get? b=some o→H b=none→H' b=none)
    (there:∀ b o,b ∉ ch→s.heap.get? b=some o→∃ o',h'.get? b=some o')
    (jm:∀ b xs,H b=some (.tup xs)→H' b=some (.tup xs)) (gT:∀ b o u,H b=some (.frz o u)→H' b=some (.frz o u)) (i7:∀ b ps,H b=some (.tbl ps)→∃ more,H' b=some (.tbl (ps++more)))
    (ns:∀ m,s.heap.Ns X.env.locals m→h'.Ns X.env.locals m) (hok:HOk X.prog X.w H' h') (hg:AllBare g') :
    Inv X pins σ H' { s with heap:=h',gens:=g',drawn:=d',toks:=t' }:=by
  have neL:∀ b o,X.s₀.heap.get? b=some o→b≠X.env.locals:=fun b o e=>Nat.ne_of_lt (Nat.lt_of_lt_of_le (Heap.lt_size e) I.ok.above)
  have neC:∀ b o,X.s₀.heap.get? b=some o→b ∉ X.ex→b ∉ ch:=fun b o e hx hb=>by
    rcases (hch b hb).1 with z | z
    · exact hx z
    · exact absurd (Nat.lt_of_lt_of_le (Heap.lt_size e) z) (Nat.lt_irrefl _)
  have cellK:∀ x c,X.env.cells.lookup x=some c→∀ v,s.heap.IsCell c v→h'.IsCell c v:=fun x c e v ⟨o,ho,hd⟩=>by
    have nch:c ∉ ch:=fun z=>(hch c z).2.2.1 x c e rfl
    by_cases hc:c∈X.fs
    · obtain ⟨sl,q⟩:=slot c o (I.cne x c e) hc nch ho (I.fH x c e)
      exact ⟨_,q,hd⟩
    · exact ⟨o,keep c o (I.cne x c e) hc nch ho (I.fH x c e),hd⟩
  refine ⟨I.ok,I.os,hg,⟨fun b o e n hb hx=>?_,fun b o e n hb hx=>?_,fun b o e n hx=>?_,fun b o e hx=>?_,fun b xs e=>jm b xs (I.base.jm b xs e),fun b o xs e=>gT b o xs (I.base.gT b o xs e),fun b ps e=>?_⟩,?_,fun x c e=>?_,?_,fun x c e=>?_,fun p hp=>?_,hok,I.len⟩
  · exact keep b o (neL b o e) hb (neC b o e hx) (I.base.keep b o e n hb hx) (I.base.free b o e n hx)
  · obtain ⟨sl,e1⟩:=I.base.slot b o e n hb hx
    obtain ⟨sl',e2⟩:=slot b _ (neL b o e) hb (neC b o e hx) e1 (I.base.free b o e n hx)
    exact ⟨sl',e2⟩
  · obtain ⟨o',e1⟩:=I.base.there b o e hx
    exact free b o' (neC b o e hx) e1 (I.base.free b o e n hx)
  · obtain ⟨o',e1⟩:=I.base.there b o e hx
    exact there b o' (neC b o e hx) e1
  · obtain ⟨m1,e1⟩:=I.base.i7 b ps e
    obtain ⟨m2,e2⟩:=i7 b _ e1
    exact ⟨m1++m2,by rw[e2,Array.append_assoc]⟩
  · obtain ⟨m,hn,hl⟩:=I.loc
    refine ⟨m,ns m hn,fun i x v e1 e2 e3=>?_⟩
    obtain ⟨u,r,l⟩:=hl i x v e1 e2 e3
    refine ⟨u,r,?_⟩
    rcases l with l | ⟨k,c,e,z⟩
    · exact .inl l
    · exact .inr ⟨k,c,e,cellK x c e _ z⟩
  · obtain ⟨v,z⟩:=I.cell x c e
    exact ⟨v,cellK x c e v z⟩
  · obtain ⟨m,⟨o,_,_,ho,_⟩,_⟩:=I.loc
    exact free _ o (fun z=>(hch _ z).2.1 rfl) ho I.free
  · obtain ⟨v,o,ho,hd⟩:=I.cell x c e
    exact free c o (fun z=>(hch c z).2.2.1 x c e rfl) ho (I.fH x c e)
  · obtain ⟨e,n,ne,nf,d⟩:=I.pin p hp
    have nch:p.1 ∉ ch:=fun z=>(hch p.1 z).2.2.2 p hp rfl
    exact ⟨keep p.1 p.2 ne nf nch e n,free p.1 p.2 nch e n,ne,nf,d⟩
theorem Inv.un {t':Nat}(I:Inv X pins σ H s)(u:Un X.fs [] H H' s.heap h')(hok:HOk X.prog X.w H' h'):Inv X pins σ H' { s with heap:=h',toks:=t' }:=by
  obtain ⟨m,⟨o,es,ep,ho,r⟩,_⟩:=id I.loc
  obtain ⟨sl,hL⟩:=u.any ho I.free (by simp)
  exact I.step (g':=s.gens) (d':=s.drawn) (ch:=[]) (fun _ z=>nomatch z) (fun b o _ hb _ e n=>u.keep b o e n hb (by simp)) (fun b o _ hb _ e n=>u.slot b o e n hb (by simp)) (fun b o _ e n=>u.free b o e n (by simp)) (fun b o _ e=>u.there b o e (by simp)) u.jm u.gT u.i7 (fun m' hm=>by
    obtain ⟨o',es',ep',ho',r'⟩:=hm
    rw[ho] at ho';cases ho'
    exact ⟨_,es',ep',hL,r'⟩) hok I.bare
theorem Inv.call {g':Array GenState}{t':Nat}{d':Drawn}{ch:List Addr}(I:Inv X pins σ H s)(u:Un (frs X.stack) ch H H' s.heap h')(hok:HOk X.prog X.w H' h')(hg:AllBare g')
    (hch:∀ b∈ch,(b∈X.ex∨X.s₀.heap.objs.size≤b)∧b≠X.env.locals∧(∀ x c,X.env.cells.lookup x=some c→c≠b)∧∀ p∈X.pn++pins,p.1≠b) :
    Inv X pins σ H' { s with heap:=h',gens:=g',drawn:=d',toks:=t' }:=by
  obtain ⟨m,⟨o,es,ep,ho,r⟩,_⟩:=id I.loc
  obtain ⟨sl,hL⟩:=u.any ho I.free fun z=>(hch _ z).2.1 rfl
  exact I.step (ch:=ch) hch (fun b o hL hb hc e n=>u.keep b o e n (fun z=>(List.mem_cons.mp (I.tZ b z)).elim hL hb) hc) (fun b o _ _ hc e n=>u.any e n hc) (fun b o hc e n=>u.free b o e n hc) (fun b o hc e=>u.there b o e hc) u.jm u.gT u.i7 (fun m' hm=>by
    obtain ⟨o',es',ep',ho',r'⟩:=hm
    rw[ho] at ho';cases ho'
    exact ⟨_,es',ep',hL,r'⟩) hok hg
theorem Inv.turned {t':Nat}{it:Addr}(I:Inv X pins σ H s)(k:∀ b o,b≠it→s.heap.get? b=some o→h'.get? b=some o)(hn:H it=none)(hL:it≠X.env.locals)
    (h1:it∈X.ex∨X.s₀.heap.objs.size≤it) (h2:∀ x c,X.env.cells.lookup x=some c→c≠it) (h3:∀ p∈X.pn++pins,p.1≠it):Inv X pins σ H { s with heap:=h',toks:=t' }:=by
  have nit:∀ b u,H b=some u→b≠it:=fun b u e z=>by rw[z,hn] at e;cases e
  refine I.step (g':=s.gens) (d':=s.drawn) (ch:=[it]) (fun b hb=>?_) (fun b o _ _ hc e _=>k b o (fun z=>hc (by simp[z])) e) (fun b o _ _ hc e _=>⟨o.slots,k b o (fun z=>hc (by simp[z])) e⟩) (fun _ _ _ _ n=>n)
    (fun b o hc e=>⟨o,k b o (fun z=>hc (by simp[z])) e⟩) (fun _ _ e=>e) (fun _ _ _ e=>e) (fun b ps e=>⟨#[],by rw[e];simp⟩) (fun m hm=>?_) (fun b u e=>?_) I.bare
  · have e:b=it:=by simpa using hb
    subst e
    exact ⟨h1,hL,h2,h3⟩
  · obtain ⟨o,es,ep,ho,r⟩:=hm
    exact ⟨o,es,ep,k _ o (Ne.symm hL) ho,r⟩
  · refine (I.hok b u e).jW (fun c v hc q=>k c v ?_ q) (fun _ q=>q) fun _ _ q=>q
    rcases hc with z | z
    · rw[z];exact nit b u e
    · exact nit c _ z
theorem Inv.tok (I:Inv X pins σ H s)(t:Nat):Inv X pins σ H { s with toks:=t }:=I.un (h':=s.heap) (t':=t) Un.refl I.hok
theorem Inv.kept {t':Nat}(I:Inv X pins σ H s)(k:∀ b u,s.heap.get? b=some u→h'.get? b=some u):Inv X pins σ H { s with heap:=h',toks:=t' }:=I.un (Un.kept k) (I.hok.kept k)
theorem Inv.laid {a:Addr}{o:HO}{t':Nat}(I:Inv X pins σ H s)(k:∀ b u,s.heap.get? b=some u→h'.get? b=some u)(hp:s.heap.objs.size≤a)(new:bU X.prog X.w (upd H a o) h' a o) :
    Inv X pins σ (upd H a o) { s with heap:=h',toks:=t' }:=I.un (Un.laid k hp (I.hok.fresh hp)) (I.hok.laid k hp new)
theorem Inv.write {x e:Addr}{o:HO}{t':Nat}(I:Inv X pins σ H s)(mu:Mut (H x))(he:e=x∨H e=some (.own x))(k:∀ b u,b≠e→s.heap.get? b=some u→h'.get? b=some u)(heo:∃ u,h'.get? e=some u)
    (new:bU X.prog X.w (upd H x o) h' x o):Inv X pins σ (upd H x o) { s with heap:=h',toks:=t' }:=I.un (Un.write mu he k heo) (I.hok.write mu he k heo new)
theorem Inv.weak {σ':List (Option V)}(I:Inv X pins σ H s)(hl:σ'.length=σ.length)(w:∀ (i:Nat) v,σ'[i]? = some (some v)→σ[i]? = some (some v)):Inv X pins σ' H s:=
  ⟨I.ok,I.os,I.bare,I.base,let ⟨m,hn,hl'⟩:=I.loc;⟨m,hn,fun i x v e1 e2 e3=>hl' i x v e1 (w i v e2) e3⟩,I.cell,I.free,I.fH,I.pin,I.hok,hl.trans I.len⟩
theorem Inv.vY {pins':List (Addr×Obj)}(I:Inv X pins σ H s)(h:∀ p∈pins',s.heap.get? p.1=some p.2∧H p.1=none∧p.1≠X.env.locals∧p.1 ∉ X.fs∧∀ v,p.2.data≠.cell v):Inv X pins' σ H s:=
  ⟨I.ok,I.os,I.bare,I.base,I.loc,I.cell,I.free,I.fH,fun p hp=>(List.mem_append.mp hp).elim (fun z=>I.pin p (List.mem_append_left _ z)) (h p),I.hok,I.len⟩
theorem sA {N:List Str}(hN:N.Nodup){i j:Nat}{x:Str}(a:N[i]? = some x)(b:N[j]? = some x):i=j:=by
  obtain ⟨h1,e1⟩:=List.getElem?_eq_some_iff.mp a
  obtain ⟨h2,e2⟩:=List.getElem?_eq_some_iff.mp b
  exact (List.getElem_inj hN).mp (e1.trans e2.symm)
theorem xU {M:Model}{A:Around}{E:Value→Shared→Prop}{i:Nat}{x:Str}{v:V}{u:Value}{Q:Unit→Shared→Prop}(I:Inv X pins σ H s)(hN:X.N.Nodup)(hi:X.N[i]? = some x)(hx:Loc X.env.scope x)(r:RelV v u)
    (h:∀ s',Inv X pins (σ.set i (some v)) H s'→(∃ a,Heap.SameBut a s.heap s'.heap∧(a=X.env.locals∨X.env.cells.lookup x=some a))→Q () s') (hf:X.fn x=true∨X.env.scope.names.lookup x=some .local:=by first | exact .inl rfl | exact .inr rfl | assumption):wpAny M A (storeName X.env x u) Q E s:=by
  obtain ⟨m,hn,hl⟩:=id I.loc
  have Ls:(X.env.scope.kind == .class || (X.env.scope.kind == .module&&X.env.locals != X.env.globals))=false:=by rw[I.ok.kind];rfl
  have hiσ:i < σ.length:=by rw[I.len];exact (List.getElem?_eq_some_iff.mp hi).1
  have cne:=I.cne
  have tracked:∀ {a:Addr} {h':Heap},(∃ o,s.heap.get? a=some o∧H a=none)→Heap.SameBut a s.heap h'→HOk X.prog X.w H h':=fun {a h'} ha hs b ob e=>by
    obtain ⟨_,_,hfree⟩:=ha
    refine (I.hok b ob e).jW (fun c w' hc q=>(hs.2 c ?_).trans q) (fun _ q=>q) fun _ _ q=>q
    rintro rfl
    rcases hc with rfl | hc
    · rw[hfree] at e;cases e
    · rw[hfree] at hc;cases hc
  rcases hx with hk | hk
  · refine wpAny_storeName_local hk hn (fun h' hn' hs=>?_) Ls
    obtain ⟨oL,_,_,hoL,_⟩:=id hn
    refine h _ ⟨I.ok,I.os,I.bare,⟨fun b o e n hb hx=>?_,fun b o e n hb hx=>?_,I.base.free,fun b o e hx=>?_,I.base.jm,I.base.gT,I.base.i7⟩,⟨_,hn',fun j y v' e1 e2 e3=>?_⟩,fun y c e=>?_,I.free,I.fH,fun p hp=>?_,tracked ⟨oL,hoL,I.free⟩ hs,by simpa using I.len⟩ ⟨_,hs,.inl rfl⟩
    · exact (hs.2 b (Nat.ne_of_lt (Nat.lt_of_lt_of_le (Heap.lt_size e) I.ok.above))).trans (I.base.keep b o e n hb hx)
    · obtain ⟨sl,e1⟩:=I.base.slot b o e n hb hx
      exact ⟨sl,(hs.2 b (Nat.ne_of_lt (Nat.lt_of_lt_of_le (Heap.lt_size e) I.ok.above))).trans e1⟩
    · obtain ⟨o',e1⟩:=I.base.there b o e hx
      exact ⟨o',(hs.2 b (Nat.ne_of_lt (Nat.lt_of_lt_of_le (Heap.lt_size e) I.ok.above))).trans e1⟩
    · by_cases hj:j=i
      · subst hj
        rw[hi] at e1;cases e1
        rw[List.getElem?_set_self hiσ] at e2
        cases e2
        exact ⟨u,r,.inl ⟨hk,by simp⟩⟩
      · rw[List.getElem?_set_ne (Ne.symm hj)] at e2
        obtain ⟨u',r',q⟩:=hl j y v' e1 e2 e3
        refine ⟨u',r',?_⟩
        rcases q with ⟨k,e⟩ | ⟨k,c,e,z⟩
        · refine .inl ⟨k,?_⟩
          have:y≠x:=fun e=>hj (sA hN e1 (e ▸ hi))
          simp[this,e]
        · exact .inr ⟨k,c,e,z.sameBut hs (cne y c e)⟩
    · obtain ⟨w',z⟩:=I.cell y c e
      exact ⟨w',z.sameBut hs (cne y c e)⟩
    · obtain ⟨e,n,ne,nf,d⟩:=I.pin p hp
      exact ⟨(hs.2 p.1 ne).trans e,n,ne,nf,d⟩
  · have hfn:X.fn x=true:=by
      rcases hf with z | z
      · exact z
      · rw[z] at hk;cases hk
    obtain ⟨c,hc⟩:=I.ok.has x (.inl hk)
    obtain ⟨w',z⟩:=I.cell x c hc
    refine wpAny_storeName_cell I.ok.kind hk hc z (fun h' hc' hs=>?_)
    obtain ⟨oc,hoc,hocd⟩:=id z
    refine h { s with heap:=h' } ⟨I.ok,I.os,I.bare,⟨fun b o e n hb hx=>?_,fun b o e n hb hx=>?_,I.base.free,fun b o e hx=>?_,I.base.jm,I.base.gT,I.base.i7⟩,⟨m,hn.sameBut hs (Ne.symm (cne x c hc)),fun j y v' e1 e2 e3=>?_⟩,fun y c' e=>?_,I.free,I.fH,fun p hp=>?_,tracked ⟨oc,hoc,I.fH x c hc⟩ hs,by simpa using I.len⟩ ⟨c,hs,.inr hc⟩
    · exact (hs.2 b (Nat.ne_of_lt (Nat.lt_of_lt_of_le (Heap.lt_size e) (I.ok.cab x c hfn hc)))).trans (I.base.keep b o e n hb hx)
    · obtain ⟨sl,e1⟩:=I.base.slot b o e n hb hx
      exact ⟨sl,(hs.2 b (Nat.ne_of_lt (Nat.lt_of_lt_of_le (Heap.lt_size e) (I.ok.cab x c hfn hc)))).trans e1⟩
    · obtain ⟨o',e1⟩:=I.base.there b o e hx
      exact ⟨o',(hs.2 b (Nat.ne_of_lt (Nat.lt_of_lt_of_le (Heap.lt_size e) (I.ok.cab x c hfn hc)))).trans e1⟩
    · by_cases hj:j=i
      · subst hj
        rw[hi] at e1;cases e1
        rw[List.getElem?_set_self hiσ] at e2
        cases e2
        exact ⟨u,r,.inr ⟨.inl hk,c,hc,hc'⟩⟩
      · rw[List.getElem?_set_ne (Ne.symm hj)] at e2
        obtain ⟨u',r',q⟩:=hl j y v' e1 e2 e3
        refine ⟨u',r',?_⟩
        rcases q with q | ⟨k,c',e,z'⟩
        · exact .inl q
        · refine .inr ⟨k,c',e,z'.sameBut hs ?_⟩
          rintro rfl
          exact hj (sA hN e1 (I.ok.inj _ _ _ e hc ▸ hi))
    · by_cases hcc:c'=c
      · subst hcc;exact ⟨_,hc'⟩
      · obtain ⟨w2,z2⟩:=I.cell y c' e
        exact ⟨w2,z2.sameBut hs hcc⟩
    · obtain ⟨e,n,ne,nf,d⟩:=I.pin p hp
      refine ⟨(hs.2 p.1 ?_).trans e,n,ne,nf,d⟩
      intro q
      rw[q,hoc] at e
      have q':oc=p.2:=Option.some.inj e
      exact d w' (by rw[← q'];exact hocd)
theorem ft {M:Model}{A:Around}{E:Value→Shared→Prop}{i:Nat}{x:Str}{v:V}{u:Value}{Q:Unit→Shared→Prop}(I:Inv X pins σ H s)(hN:X.N.Nodup)(hi:X.N[i]? = some x)(hx:Loc X.env.scope x)(r:RelV v u)
    (h:∀ s',Inv X pins (σ.set i (some v)) H s'→Q () s') (hf:X.fn x=true∨X.env.scope.names.lookup x=some .local:=by first | exact .inl rfl | exact .inr rfl | assumption):wpAny M A (storeName X.env x u) Q E s:=
  xU I hN hi hx r (fun s' I' _=>h s' I') hf
theorem Inv.Jl {s':Shared}{ch:List Addr}(I:Inv X pins σ H s)(ho:s'.os=s.os)(u:Un (frs X.stack) ch H H' s.heap s'.heap)(hok:HOk X.prog X.w H' s'.heap)(hg:AllBare s'.gens)
    (hch:∀ b∈ch,(b∈X.ex∨X.s₀.heap.objs.size≤b)∧b≠X.env.locals∧(∀ x c,X.env.cells.lookup x=some c→c≠b)∧∀ p∈X.pn++pins,p.1≠b):Inv X pins σ H' s':=by
  obtain ⟨h',g',d',t',o'⟩:=s'
  have e:o'=s.os:=ho
  subst e
  exact I.call (g':=g') (t':=t') (d':=d') u hok hg hch
end
abbrev XK:=Value→Option Addr→Hp→Prop
abbrev St:=List (Option V)
abbrev VK:=V→Hp→Prop
abbrev TE:=St→Hp→VK→Prop
abbrev TT:=St→Hp→(Bool→Hp→Prop)→Prop
abbrev TA:=St→Hp→(List V→Hp→Prop)→Prop
structure Ends where
  nx:St→Hp→Prop
  rt:VK
  bk:St→Hp→Prop:=fun _ _=>False
  ct:St→Hp→Prop:=fun _ _=>False
abbrev TS:=Ends→St→Hp→Prop
def EP (X:Cx)(pins:List (Addr×Obj))(σ:St)(Q:VK)(u:Value)(s':Shared):Prop:=∃ v H',Inv X pins σ H' s'∧RelV v u∧Q v H'
def TP (X:Cx)(pins:List (Addr×Obj))(σ:St)(Q:Bool→Hp→Prop)(b:Bool)(s':Shared):Prop:=∃ H',Inv X pins σ H' s'∧Q b H'
def AP (X:Cx)(pins:List (Addr×Obj))(σ:St)(Q:List V→Hp→Prop)(us:List Value)(s':Shared):Prop:=∃ vs H',Inv X pins σ H' s'∧Vals vs us∧Q vs H'
def SP (X:Cx)(pins:List (Addr×Obj))(D:Ends)(f:Flow)(s':Shared):Prop:=
  match f with
  | .next=>∃ σ' H',Inv X pins σ' H' s'∧D.nx σ' H'
  | .brk=>∃ σ' H',Inv X pins σ' H' s'∧D.bk σ' H'
  | .cont=>∃ σ' H',Inv X pins σ' H' s'∧D.ct σ' H'
  | .ret u=>∃ v σ' H',Inv X pins σ' H' s'∧RelV v u∧D.rt v H'
def PE (X:Cx)(e:Expr)(t:TE):Prop:=
  ∀ (pins:List (Addr×Obj)) (s:Shared) (σ:St) (H:Hp) (Q:VK),Inv X pins σ H s→t σ H Q→wpAny (model X.prog X.w) X.A (eval e X.env) (EP X pins σ Q) X.xe s
def PT (X:Cx)(e:Expr)(t:TT):Prop:=
  ∀ (pins:List (Addr×Obj)) (s:Shared) (σ:St) (H:Hp) (Q:Bool→Hp→Prop),Inv X pins σ H s→t σ H Q→wpAny (model X.prog X.w) X.A (isTrue e X.env (eval e X.env)) (TP X pins σ Q) X.xe s
def PW (X:Cx)(e:Expr)(t:TT):Prop:=
  ∀ (whole:Sem Value) (pins:List (Addr×Obj)) (s:Shared) (σ:St) (H:Hp) (Q:Bool→Hp→Prop),Inv X pins σ H s→t σ H Q→wpAny (model X.prog X.w) X.A (isTrue e X.env whole) (TP X pins σ Q) X.xe s
theorem PW.pt {X:Cx}{e:Expr}{t:TT}(h:PW X e t):PT X e t:=h _
def PA (X:Cx)(es:List Expr)(t:TA):Prop:=
  ∀ (pos:Pos) (pins:List (Addr×Obj)) (s:Shared) (σ:St) (H:Hp) (Q:List V→Hp→Prop),Inv X pins σ H s→t σ H Q→wpAny (model X.prog X.w) X.A (spliced (backTo pos (starEach es X.env))) (AP X pins σ Q) X.xe s
def PS (X:Cx)(st:Stmt)(t:TS):Prop:=
  ∀ (pins:List (Addr×Obj)) (s:Shared) (σ:St) (H:Hp) (D:Ends),Inv X pins σ H s→t D σ H→wpAny (model X.prog X.w) X.A (exec st X.env) (SP X pins D) X.xe s
def PSs (X:Cx)(st:List Stmt)(t:TS):Prop:=
  ∀ (pins:List (Addr×Obj)) (s:Shared) (σ:St) (H:Hp) (D:Ends),Inv X pins σ H s→t D σ H→wpAny (model X.prog X.w) X.A (execs st X.env) (SP X pins D) X.xe s
theorem thn {α:Type}{t:Sem α}{Q Q':α→Shared→Prop}{M:Model}{A:Around}{E:Value→Shared→Prop}{s:Shared}(h:wpAny M A t Q E s)(hQ:∀ a s,Q a s→Q' a s):wpAny M A t Q' E s:=wpAny_mono h hQ fun _ _ x=>x
end L2
namespace L2
open PySem PySem.Spec PyProof.Rows
section
variable {X:Cx}
def I0 (i:Nat):TE:=fun σ H Q=>∃ v,σ[i]? = some (some v)∧Q v H
def tC (v:V):TE:=fun _ H Q=>Q v H
theorem Ao {i:Nat}{x:Str}{pos:Pos}(hN:X.N[i]? = some x)(hv:Vis X.env.scope x)(hd:(x == ("__debug__" : Str))=false:=by decide)(hcd:(x == ("__classdict__" : Str))=false:=by decide):PE X (.Name x pos) (I0 i):=by
  intro pins s σ H Q I h
  obtain ⟨v,e,h⟩:=h
  obtain ⟨m,hn,hl⟩:=I.loc
  obtain ⟨u,r,l⟩:=hl i x v hN e hv
  have fin:EP X pins σ Q u s:=⟨v,H,I,r,h⟩
  rcases l with ⟨hk,hm⟩ | ⟨hk,c,hc,hcell⟩
  · exact wpAny_Name (wpAny_loadName_local I.ok.kind hk hn hm fin) hd
  · rcases hk with hk | hk
    · exact wpAny_Name (wpAny_loadName_cell I.ok.kind hk hc hcell fin) hd
    · exact wpAny_Name (wpAny_loadName_free I.ok.kind hk hc hcell fin hcd) hd
theorem Il {i j pos}:PE X (.Constant (.int i) j pos) (tC (.int i)):=fun _ _ _ H _ I h=>wpAny_Constant_int ⟨.int i,H,I.tok _,⟨_,rfl⟩,h⟩
theorem JU {b j pos}:PE X (.Constant (.bool b) j pos) (tC (.bl b)):=fun _ _ _ H _ I h=>Constant_bool ⟨.bl b,H,I,rfl,h⟩
theorem Ig {j pos}:PE X (.Constant .none j pos) (tC .non):=fun _ _ _ H _ I h=>Constant_none ⟨.non,H,I,rfl,h⟩
theorem GJ {x j pos}:PE X (.Constant (.str x) j pos) (tC (.str x)):=fun _ _ _ H _ I h=>Calls.Constant_str ⟨.str x,H,I.tok _,⟨_,rfl⟩,h⟩
def Gl (X:Cx)(x:Str):Prop:=X.env.kindOf x=some .globalImplicit
theorem vI {E:Value→Shared→Prop}{pins:List (Addr×Obj)}{s:Shared}{σ:St}{H:Hp}{x:Str}{u:Value}{pos:Pos}{Q:Value→Shared→Prop}(I:Inv X pins σ H s)(hg:Gl X x)(hm:X.mg x=some u)(h:Q u s)
    (hd:(x == ("__debug__" : Str))=false:=by decide):wpAny (model X.prog X.w) X.A (eval (.Name x pos) X.env) Q E s:=
  Calls.Name_function_global I.ok.kind hg (Calls.loadGlobal_global (by rw[I.ok.glob];exact I.mod.glob.keeps I.bk) hm h) hd
theorem gL {E:Value→Shared→Prop}{pins:List (Addr×Obj)}{s:Shared}{σ:St}{H:Hp}{x:Str}{u:Value}{pos:Pos}{Q:Value→Shared→Prop}(I:Inv X pins σ H s)(hg:Gl X x)(hm:X.mg x=none)(hv:bootBuiltins x=some u)(h:Q u s)
    (hn:x ≠ "__name__" := by decide) (hd:(x == ("__debug__" : Str))=false:=by decide):wpAny (model X.prog X.w) X.A (eval (.Name x pos) X.env) Q E s:=by
  obtain ⟨mb,h1,h2⟩:=I.mod.blt
  exact Calls.Name_function_global I.ok.kind hg (Calls.loadGlobal_builtin (by rw[I.ok.glob];exact I.mod.glob.keeps I.bk) hm (by rw[I.ok.blt];exact h1.keeps I.bk) ((h2 x hn).trans hv) h) hd
theorem Dh {x:Str}{v:V}{u:Value}{pos:Pos}(hg:Gl X x)(hm:X.mg x=some u)(r:RelV v u)(hd:(x == ("__debug__" : Str))=false:=by decide):PE X (.Name x pos) (tC v):=
  fun _ _ _ H _ I h=>vI I hg hm ⟨v,H,I,r,h⟩ hd
theorem EC {x:Str}{v:V}{u:Value}{pos:Pos}(hg:Gl X x)(hm:X.mg x=none)(hv:bootBuiltins x=some u)(r:RelV v u)(hn:x ≠ "__name__" := by decide)(hd:(x == ("__debug__" : Str))=false:=by decide):PE X (.Name x pos) (tC v):=
  fun _ _ _ H _ I h=>gL I hg hm hv ⟨v,H,I,r,h⟩ hn hd
variable {a b:Expr} {ta tb:TE} {pos:Pos}
def tB (t:TE):TT:=fun σ H Q=>t σ H fun x H1=>∃ c,x=.bl c∧Q c H1
theorem Gb {e:Expr}{t:TE}(h:PE X e t)(he:∀ whole,isTrue e X.env whole=(do let v ← whole;standAt e.pos;holding [v] (truthy v)):=by intro _;rfl):PT X e (tB t):=by
  intro pins s σ H Q I hw
  refine isTrue_plain (thn (h pins s σ H _ I hw) fun v s1 ⟨x,H1,I1,r1,q1⟩=>?_) (he _)
  obtain ⟨d,rfl,q⟩:=q1
  cases r1
  exact wpAny_truthy_bool ⟨H1,I1,q⟩
variable {tA tB':TT} {rest:List Expr}
def Lg (t u:TT):TT:=fun σ H Q=>t σ H fun c H1=>if c=true then u σ H1 Q else Q false H1
def tOr (t u:TT):TT:=fun σ H Q=>t σ H fun c H1=>if c=true then Q true H1 else u σ H1 Q
def KO (t:TT):TT:=fun σ H Q=>t σ H fun c H1=>Q (!c) H1
theorem pw_and1 (ha:PT X a tA):PW X (.BoolOp .And [a] pos) tA:=by
  intro wh pins s σ H Q I h
  refine isTrue_and (thn (ha pins s σ H Q I h) fun c s1 e=>?_)
  cases c with
  | true=>exact isTrue_and_nil e
  | false=>exact e
theorem pw_or1 (ha:PT X a tA):PW X (.BoolOp .Or [a] pos) tA:=by
  intro wh pins s σ H Q I h
  refine isTrue_or (thn (ha pins s σ H Q I h) fun c s1 e=>?_)
  cases c with
  | false=>exact isTrue_or_nil e
  | true=>exact e
theorem pw_and (ha:PT X a tA)(hb:PW X (.BoolOp .And (b::rest) pos) tB'):PW X (.BoolOp .And (a::b::rest) pos) (Lg tA tB'):=by
  intro wh pins s σ H Q I h
  refine isTrue_and (thn (ha pins s σ H _ I h) fun c s1 ⟨H1,I1,q1⟩=>?_)
  cases c with
  | true=>exact hb wh pins s1 σ H1 Q I1 q1
  | false=>exact ⟨H1,I1,q1⟩
theorem pw_or (ha:PT X a tA)(hb:PW X (.BoolOp .Or (b::rest) pos) tB'):PW X (.BoolOp .Or (a::b::rest) pos) (tOr tA tB'):=by
  intro wh pins s σ H Q I h
  refine isTrue_or (thn (ha pins s σ H _ I h) fun c s1 ⟨H1,I1,q1⟩=>?_)
  cases c with
  | true=>exact ⟨H1,I1,q1⟩
  | false=>exact hb wh pins s1 σ H1 Q I1 q1
theorem Fu (ha:PT X a tA):PT X (.UnaryOp .Not a pos) (KO tA):=by
  intro pins s σ H Q I h
  exact isTrue_not (ha pins s σ H (fun c H1=>Q (!c) H1) I h)
def IS (ta tb:TE):TE:=fun σ H Q=>ta σ H fun x H1=>∃ c,x=.bl c∧if c=true then tb σ H1 Q else Q (.bl false) H1
def Ld (ta tb:TE):TE:=fun σ H Q=>ta σ H fun x H1=>∃ c,x=.bl c∧if c=true then Q (.bl true) H1 else tb σ H1 Q
def J5 (ta:TE):TE:=fun σ H Q=>ta σ H fun x H1=>∃ c,x=.bl c∧Q (.bl (!c)) H1
theorem GC {op}{t:TE}(h:PE X a t):PE X (.BoolOp op [a] pos) t:=fun pins s σ H Q I hw=>BoolOp_one (h pins s σ H Q I hw)
theorem GO (ha:PE X a ta)(hb:PE X (.BoolOp .And (b::rest) pos) tb):PE X (.BoolOp .And (a::b::rest) pos) (IS ta tb):=by
  intro pins s σ H Q I h
  refine BoolOp_and (thn (ha pins s σ H _ I h) fun v s1 ⟨x,H1,I1,r1,q1⟩=>?_)
  obtain ⟨c,rfl,q1⟩:=q1
  cases r1
  refine wpAny_truthy_bool ?_
  cases c with
  | true=>exact hb pins s1 σ H1 Q I1 q1
  | false=>exact ⟨.bl false,H1,I1,rfl,q1⟩
theorem Kd (ha:PE X a ta)(hb:PE X (.BoolOp .Or (b::rest) pos) tb):PE X (.BoolOp .Or (a::b::rest) pos) (Ld ta tb):=by
  intro pins s σ H Q I h
  refine BoolOp_or (thn (ha pins s σ H _ I h) fun v s1 ⟨x,H1,I1,r1,q1⟩=>?_)
  obtain ⟨c,rfl,q1⟩:=q1
  cases r1
  refine wpAny_truthy_bool ?_
  cases c with
  | false=>exact hb pins s1 σ H1 Q I1 q1
  | true=>exact ⟨.bl true,H1,I1,rfl,q1⟩
theorem GU (ha:PE X a ta):PE X (.UnaryOp .Not a pos) (J5 ta):=by
  intro pins s σ H Q I h
  refine UnaryOp_ (thn (ha pins s σ H _ I h) fun v s1 ⟨x,H1,I1,r1,q1⟩=>?_)
  obtain ⟨c,rfl,q1⟩:=q1
  cases r1
  exact not_of (wpAny_truthy_bool ⟨.bl (!c),H1,I1,rfl,q1⟩)
end
end L2
namespace L2
open PySem PySem.Spec PyProof.Rows
def SqL (K:PySem.W.Frag)(H:Hp)(a:Addr)(xs:List V):Prop:=
  Rd H a (.lst xs)∨
    ∃ (o:Obj) (its:Array Value) (n:Nat),K.lookup a=some o∧o.cls=.type "list" ∧ o.dict=none∧o.data=.seq its n∧its.size≤sizeLine∧Vals xs its.toList
def SqT (K:PySem.W.Frag)(H:Hp)(a:Addr)(xs:List V):Prop:=
  Rd H a (.tup xs)∨
    ∃ (o:Obj) (its:Array Value) (n:Nat),K.lookup a=some o∧o.cls=.type "tuple" ∧ o.dict=none∧o.data=.seq its n∧its.size≤sizeLine∧Vals xs its.toList
def KH:Value→Option V
  | .none=>some .non
  | .bool b=>some (.bl b)
  | .int i _=>some (.int i)
  | .str x _=>some (.str x)
  | .bytes b _=>some (.byt b)
  | .float b _=>some (.flt b)
  | .ref a=>some (.ref a)
  | .type n=>some (.ty n)
  | _=>none
theorem RelV.abs {x:V}{u:Value}(r:RelV x u):KH u=some x:=by
  cases x with
  | non=>cases r;rfl
  | bl _=>cases r;rfl
  | int _=>obtain ⟨t,rfl⟩:=r;rfl
  | str _=>obtain ⟨t,rfl⟩:=r;rfl
  | byt _=>obtain ⟨t,rfl⟩:=r;rfl
  | flt _=>obtain ⟨t,rfl⟩:=r;rfl
  | ref _=>cases r;rfl
  | ty _=>cases r;rfl
theorem RelV.inj {x y:V}{u:Value}(r:RelV x u)(q:RelV y u):x=y:=Option.some.inj (r.abs.symm.trans q.abs)
theorem Vals.inj:∀ {xs ys:List V} {us:List Value},Vals xs us→Vals ys us→xs=ys
  | _,_,_,.nil,.nil=>rfl
  | _,_,_,.cons r t,.cons r' t'=>by rw[r.inj r',Vals.inj t t']
section
variable {X:Cx} {pins:List (Addr×Obj)} {σ:St} {H:Hp} {s:Shared} {a:Addr} {xs ys:List V}
theorem SqL.of {K:PySem.W.Frag}(h:H a=some (.lst xs)):SqL K H a xs:=.inl (.inl h)
theorem SqT.of {K:PySem.W.Frag}(h:H a=some (.tup xs)):SqT K H a xs:=.inl (.inl h)
theorem Inv.list (I:Inv X pins σ H s)(h:SqL X.K H a xs):∃ its:List Value,Vals xs its∧PlainL s.heap a its.toArray∧xs.length≤sizeLine:=by
  rcases h with h | ⟨o,its,n,hk,hc,hd,hs,hz,r⟩
  · obtain ⟨z,its,n,r,e⟩:=h.ok I.hok
    exact ⟨its,r,⟨_,n,e,rfl,rfl,rfl⟩,z⟩
  · refine ⟨its.toList,r,⟨o,n,I.kIn a o hk,hc,hd,by simpa using hs⟩,?_⟩
    have e:=r.length
    simp only[Array.length_toList] at e
    omega
theorem Inv.tuple (I:Inv X pins σ H s)(h:SqT X.K H a xs):∃ its:List Value,Vals xs its∧IsTup s.heap a its.toArray∧xs.length≤sizeLine:=by
  rcases h with h | ⟨o,its,n,hk,hc,hdn,hs,hz,r⟩
  · obtain ⟨z,its,r,p⟩:=h.ok I.hok
    exact ⟨its,r,p.tup,z⟩
  · refine ⟨its.toList,r,⟨o,I.kIn a o hk,hc,n,by simpa using hs⟩,?_⟩
    have e:=r.length
    simp only[Array.length_toList] at e
    omega
theorem Inv.GS (I:Inv X pins σ H s)(h:SqT X.K H a xs):∃ o,s.heap.get? a=some o∧o.cls=.type "tuple" ∧ o.dict=none:=by
  rcases h with h | ⟨o,its,n,hk,hc,hdn,hs,hz,r⟩
  · obtain ⟨z,its,r,n,e⟩:=h.ok I.hok
    exact ⟨_,e,rfl,rfl⟩
  · exact ⟨o,I.kIn a o hk,hc,hdn⟩
theorem Inv.rG (I:Inv X pins σ H s)(h:SqL X.K H a xs)(h':SqL X.K H a ys):xs=ys:=by
  obtain ⟨its,r,⟨o,n,e,_,_,d⟩,_⟩:=I.list h
  obtain ⟨its',r',⟨o',n',e',_,_,d'⟩,_⟩:=I.list h'
  rw[e] at e';cases e'
  rw[d] at d'
  injection d' with d1 _
  have:its=its':=by simpa using congrArg Array.toList d1
  subst this
  exact r.inj r'
theorem Inv.og (I:Inv X pins σ H s)(h:SqT X.K H a xs)(h':SqT X.K H a ys):xs=ys:=by
  obtain ⟨its,r,⟨o,e,_,n,d⟩,_⟩:=I.tuple h
  obtain ⟨its',r',⟨o',e',_,n',d'⟩,_⟩:=I.tuple h'
  rw[e] at e';cases e'
  rw[d] at d'
  injection d' with d1 _
  have:its=its':=by simpa using congrArg Array.toList d1
  subst this
  exact r.inj r'
end
abbrev Cx.jO (X:Cx)(E:Value→Shared→Prop):Cx:={ X with xe:=E }
abbrev Cx.nox (X:Cx):Cx:=X.jO fun _ _=>False
theorem Cx.Ok.jO {X:Cx}(ok:X.Ok)(E:Value→Shared→Prop):(X.jO E).Ok:=
  ⟨ok.mod,ok.kind,ok.glob,ok.blt,ok.above,ok.inj,ok.has,ok.cab,ok.hd,ok.frames,ok.stk,ok.exf,ok.bs,ok.bsz,ok.A0,ok.zE,ok.jQ,ok.frf⟩
theorem Cx.Ok.dA {X:Cx}{E:Value→Shared→Prop}(ok:(X.jO E).Ok):X.Ok:=
  ⟨ok.mod,ok.kind,ok.glob,ok.blt,ok.above,ok.inj,ok.has,ok.cab,ok.hd,ok.frames,ok.stk,ok.exf,ok.bs,ok.bsz,ok.A0,ok.zE,ok.jQ,ok.frf⟩
section
variable {X:Cx} {pins:List (Addr×Obj)} {σ:St} {H:Hp} {s:Shared} {E:Value→Shared→Prop}
theorem Inv.jO (I:Inv X pins σ H s)(E:Value→Shared→Prop):Inv (X.jO E) pins σ H s:=⟨I.ok.jO E,I.os,I.bare,I.base,I.loc,I.cell,I.free,I.fH,I.pin,I.hok,I.len⟩
theorem Inv.dA (I:Inv (X.jO E) pins σ H s):Inv X pins σ H s:=⟨I.ok.dA,I.os,I.bare,I.base,I.loc,I.cell,I.free,I.fH,I.pin,I.hok,I.len⟩
theorem SP.dA {D:Ends}{f:Flow}{s':Shared}(h:SP (X.jO E) pins D f s'):SP X pins D f s':=by
  cases f with
  | next=>obtain ⟨σ',H',I,q⟩:=h;exact ⟨σ',H',I.dA,q⟩
  | brk=>obtain ⟨σ',H',I,q⟩:=h;exact ⟨σ',H',I.dA,q⟩
  | cont=>obtain ⟨σ',H',I,q⟩:=h;exact ⟨σ',H',I.dA,q⟩
  | ret u=>obtain ⟨v,σ',H',I,r,q⟩:=h;exact ⟨v,σ',H',I.dA,r,q⟩
theorem PE.nox {e:Expr}{t:TE}(h:PE X.nox e t):PE X e t:=fun pins s σ H Q I hw=>
  wpAny_mono (h pins s σ H Q (I.jO _) hw) (fun _ _ ⟨v,H',I',r,q⟩=>⟨v,H',I'.dA,r,q⟩) fun _ _ z=>False.elim z
theorem PT.nox {e:Expr}{t:TT}(h:PT X.nox e t):PT X e t:=fun pins s σ H Q I hw=>
  wpAny_mono (h pins s σ H Q (I.jO _) hw) (fun _ _ ⟨H',I',q⟩=>⟨H',I'.dA,q⟩) fun _ _ z=>False.elim z
theorem PSs.nox {st:List Stmt}{t:TS}(h:PSs X.nox st t):PSs X st t:=fun pins s σ H D I hw=>
  wpAny_mono (h pins s σ H D (I.jO _) hw) (fun _ _ q=>q.dA) fun _ _ z=>False.elim z
end
section
variable {X:Cx} {st:Stmt} {rest:List Stmt} {t u:TS} {e:Expr} {te:TE} {pos:Pos}
def JO:TS:=fun D σ H=>D.nx σ H
def KI (t u:TS):TS:=fun D σ H=>t { D with nx:=u D } σ H
theorem Dt:PSs X [] JO:=fun _ _ σ H _ I h=>wpAny_execs_nil ⟨σ,H,I,h⟩
theorem z0 (h1:PS X st t)(h2:PSs X rest u):PSs X (st::rest) (KI t u):=by
  intro pins s σ H D I h
  refine wpAny_execs_cons (thn (h1 pins s σ H { D with nx:=u D } I h) fun f s1 q=>?_)
  cases f with
  | next=>
    obtain ⟨σ',H',I',q⟩:=q
    exact h2 pins s1 σ' H' D I' q
  | ret v=>exact q
  | brk=>exact q
  | cont=>exact q
theorem Ey (h1:PS X st t):PSs X [st] t:=by
  intro pins s σ H D I h
  refine wpAny_execs_cons (thn (h1 pins s σ H D I h) fun f s1 q=>?_)
  cases f with
  | next=>exact wpAny_execs_nil q
  | ret v=>exact q
  | brk=>exact q
  | cont=>exact q
theorem Inv.quiet {pins:List (Addr×Obj)}{σ:St}{H:Hp}{s:Shared}(I:Inv X pins σ H s):interactive X.env=false:=by simp[interactive,I.ok.kind]
def Iq (te:TE):TS:=fun D σ H=>te σ H fun _ H1=>D.nx σ H1
theorem D4 (he:PE X e te)(hs:swapsWith e none pos.line X.env=pure false:=by rfl):PS X (.Expr e pos) (Iq te):=by
  intro pins s σ H D I h
  exact wpAny_Expr_any (thn (he pins s σ H _ I h) fun v s1 ⟨x,H1,I1,r1,q1⟩=>⟨σ,H1,I1,q1⟩) I.quiet hs
def K4 (te:TE):TS:=fun D σ H=>te σ H D.rt
theorem HG (he:PE X e te):PS X (.Return (some e) pos) (K4 te):=by
  intro pins s σ H D I h
  exact wpAny_Return_some (thn (he pins s σ H _ I h) fun v s1 ⟨x,H1,I1,r1,q1⟩=>⟨x,σ,H1,I1,r1,q1⟩)
def Lb (c:TT)(t u:TS):TS:=fun D σ H=>c σ H fun b H1=>if b=true then t D σ H1 else u D σ H1
theorem Jv {c:Expr}{a b:List Stmt}{tc:TT}(hc:PT X c tc)(ha:PSs X a t)(hb:PSs X b u):PS X (.If c a b pos) (Lb tc t u):=by
  intro pins s σ H D I h
  refine wpAny_If (thn (hc pins s σ H _ I h) fun d s1 ⟨H1,I1,q1⟩=>?_)
  cases d with
  | true=>exact ha pins s1 σ H1 D I1 q1
  | false=>exact hb pins s1 σ H1 D I1 q1
end
abbrev TG:=V→St→Hp→(St→Hp→Prop)→Prop
abbrev TGs:=List V→St→Hp→(St→Hp→Prop)→Prop
def PG (X:Cx)(target:Expr)(t:TG):Prop:=
  ∀ (pins:List (Addr×Obj)) (s:Shared) (σ:St) (H:Hp) (v:V) (u:Value) (Q:St→Hp→Prop),Inv X pins σ H s→RelV v u→t v σ H Q→
    wpAny (model X.prog X.w) X.A (assign target X.env u) (fun _ s'=>∃ σ' H',Inv X pins σ' H' s'∧Q σ' H') X.xe s
def PGs (X:Cx)(ts:List Expr)(t:TGs):Prop:=
  ∀ (pins:List (Addr×Obj)) (s:Shared) (σ:St) (H:Hp) (vs:List V) (us:List Value) (Q:St→Hp→Prop),Inv X pins σ H s→Vals vs us→t vs σ H Q→
    wpAny (model X.prog X.w) X.A (assignInOrder ((assignEach ts X.env).map (·.2)) us) (fun _ s'=>∃ σ' H',Inv X pins σ' H' s'∧Q σ' H') X.xe s
abbrev Gj:=V→V→V→Hp→(Hp→Prop)→Prop
def Je (X:Cx)(t:Gj):Prop:=
  ∀ (pins:List (Addr×Obj)) (s:Shared) (σ:St) (H:Hp) (o i v:V) (ov iv u:Value) (Q:Hp→Prop),Inv X pins σ H s→RelV o ov→RelV i iv→RelV v u→t o i v H Q→
    wpAny (model X.prog X.w) X.A (setItem ov iv u) (fun _ s'=>∃ H',Inv X pins σ H' s'∧Q H') X.xe s
abbrev TIp:=V→V→Hp→VK→Prop
def PIp (X:Cx)(op:Operator)(t:TIp):Prop:=
  ∀ (pins:List (Addr×Obj)) (s:Shared) (σ:St) (H:Hp) (x y:V) (v u:Value) (Q:VK),Inv X pins σ H s→RelV x v→RelV y u→t x y H Q→
    wpAny (model X.prog X.w) X.A (inplaceOp op v u) (EP X pins σ Q) X.xe s
section
variable {X:Cx} {pos:Pos}
def yT (i:Nat):TG:=fun v σ H Q=>Q (σ.set i (some v)) H
theorem ki {i:Nat}{x:Str}(hN:X.N.Nodup)(hi:X.N[i]? = some x)(hx:Loc X.env.scope x)(hf:X.fn x=true∨X.env.scope.names.lookup x=some .local:=by first | exact .inl rfl | exact .inr rfl | assumption):PG X (.Name x pos) (yT i):=by
  intro pins s σ H v u Q I r h
  exact wpAny_assign_Name (ft I hN hi hx r (fun s' I'=>⟨_,H,I',h⟩) hf)
def KJ:TGs:=fun vs σ H Q=>vs=[]∧Q σ H
def JF (t:TG)(u:TGs):TGs:=fun vs σ H Q=>∃ v r,vs=v::r∧t v σ H fun σ' H'=>u r σ' H' Q
theorem vD:PGs X [] KJ:=by
  intro pins s σ H vs us Q I r h
  obtain ⟨e,h⟩:=h
  subst e
  cases r
  exact assignInOrder_nil ⟨σ,H,I,h⟩
theorem sN {e:Expr}{es:List Expr}{t:TG}{u:TGs}(h1:PG X e t)(h2:PGs X es u)
    (hs:(assignEach (e::es) X.env).map (·.2)=assign e X.env::(assignEach es X.env).map (·.2):=by rfl):PGs X (e::es) (JF t u):=by
  intro pins s σ H vs us Q I r h
  obtain ⟨v,vr,e1,h⟩:=h
  subst e1
  cases r with
  | cons r rr=>
    rw[hs]
    refine assignInOrder_cons (thn (h1 pins s σ H _ _ _ I r h) fun _ s1 ⟨σ1,H1,I1,q1⟩=>?_)
    exact h2 pins s1 σ1 H1 _ _ Q I1 rr q1
def Lu (K:PySem.W.Frag)(n:Nat)(t:TGs):TG:=fun v σ H Q=>∃ a xs,v=.ref a∧SqT K H a xs∧xs.length=n∧t xs σ H Q
theorem BC {es:List Expr}{k:Nat}{t:TGs}{n:Nat}(hc:X.calm=true)(h:PGs X es t)
    (hn:(assignEach es X.env).length=n:=by rfl) (hst:(assignEach es X.env).findIdx? (·.1)=none:=by rfl):PG X (.Tuple es k pos) (Lu X.K n t):=by
  intro pins s σ H v u Q I r hw
  obtain ⟨a,xs,e1,hq,hl,hw⟩:=hw
  subst e1
  cases r
  obtain ⟨its,rv,ht,hz⟩:=I.tuple hq
  refine assign_Tuple_tuple (I.ok.hd hc) ht (by simp[hn,← hl,rv.length]) hst fun h' hx=>?_
  have I1:Inv X pins σ H { s with heap:=h' }:=I.kept (t':=s.toks) fun b o e=>hx b o (Nat.ne_of_lt (Heap.lt_size e)) e
  exact h pins _ σ H xs _ Q I1 (by simpa using rv) hw
def Lh (to ti:TE)(t:Gj):TG:=fun v σ H Q=>to σ H fun o H1=>ti σ H1 fun i H2=>t o i v H2 fun H3=>Q σ H3
theorem HM {o i:Expr}{to ti:TE}{t:Gj}(ho:PE X o to)(hi:PE X i ti)(hs:Je X t)
    (ha:∀ v,assign (.Subscript o i pos) X.env v=(do
      let ov ← holding [v] (eval o X.env)
      let iv ← holding [v,ov] (eval i X.env)
      standAt pos
      holding [v,ov,iv] (setItem ov iv v)
      release [v,ov,iv] []):=by intro _;rfl):PG X (.Subscript o i pos) (Lh to ti t):=by
  intro pins s σ H v u Q I r h
  rw[ha]
  refine wpAny_bind (wpAny_holding (thn (ho pins s σ H _ I h) fun ov s1 ⟨x,H1,I1,r1,q1⟩=>?_))
  refine wpAny_bind (wpAny_holding (thn (hi pins s1 σ H1 _ I1 q1) fun iv s2 ⟨y,H2,I2,r2,q2⟩=>?_))
  refine wpAny_bind (wpAny_standAt (wpAny_bind (wpAny_holding (thn (hs pins s2 σ H2 x y v ov iv u _ I2 r1 r2 r q2) fun _ s3 ⟨H3,I3,q3⟩=>?_))))
  exact wpAny_release ⟨σ,H3,I3,q3⟩
def JR (te:TE)(g:TG):TS:=fun D σ H=>te σ H fun x H1=>g x σ H1 D.nx
theorem Ce {tg e:Expr}{te:TE}{g:TG}(he:PE X e te)(hg:PG X tg g)(hs:swapsWithSole [tg] e pos.line X.env=pure false:=by rfl)(hw:swappedStores [tg] e X.env=pure none:=by rfl)
    (h1:(assignEach [tg] X.env).map (·.2)=[assign tg X.env]:=by rfl):PS X (.Assign [tg] e pos) (JR te g):=by
  intro pins s σ H D I h
  refine wpAny_Assign_stores (thn (he pins s σ H _ I h) fun v s1 ⟨x,H1,I1,r1,q1⟩=>?_) hs hw
  rw[h1]
  exact thn (hg pins s1 σ H1 x v _ I1 r1 q1) fun _ s2 q=>q
theorem Fv {i:Nat}{x:Str}{e:Expr}{te:TE}{pos':Pos}(hN:X.N.Nodup)(hi:X.N[i]? = some x)(hx:Loc X.env.scope x)(he:PE X e te)(hs:swapsWith e (some (.Name x pos')) pos.line X.env=pure false:=by rfl)(hf:X.fn x=true∨X.env.scope.names.lookup x=some .local:=by first | exact .inl rfl | exact .inr rfl | assumption) :
    PS X (.Assign [.Name x pos'] e pos) (JR te (yT i)):=by
  intro pins s σ H D I h
  refine wpAny_Assign_Name (thn (he pins s σ H _ I h) fun v s1 ⟨y,H1,I1,r1,q1⟩=>?_) hs
  exact ft I1 hN hi hx r1 (fun s2 I2=>⟨_,H1,I2,q1⟩) hf
def Lp (i j:Nat)(ta:TA):TS:=fun D σ H=>ta σ H fun vs H1=>∃ v w,vs=[v,w]∧D.nx ((σ.set i (some v)).set j (some w)) H1
theorem HF {i j:Nat}{x y:Str}{a b:Expr}{ta:TA}{px py pt:Pos}{kt k2 pt2}(hc:X.calm=true)(hN:X.N.Nodup)(hi:X.N[i]? = some x)(hj:X.N[j]? = some y)(hij:i≠j)
    (hx:X.env.scope.names.lookup x=some .local) (hy:X.env.scope.names.lookup y=some .local) (ha:PA X [a,b] ta)
    (hw:swappedStores [.Tuple [.Name x px,.Name y py] kt pt] (.Tuple [a,b] k2 pt2) X.env=pure (some [x,y]))
    (hs:swapsWithSole [.Tuple [.Name x px,.Name y py] kt pt] (.Tuple [a,b] k2 pt2) pos.line X.env=pure false:=by rfl) :
    PS X (.Assign [.Tuple [.Name x px,.Name y py] kt pt] (.Tuple [a,b] k2 pt2) pos) (Lp i j ta):=by
  intro pins s σ H D I h
  rw[exec_Assign_arm]
  refine wpAny_bind (wpAny_standAt ?_)
  rw[hs]
  refine wpAny_bind (wpAny_pure ?_)
  rw[if_neg (by decide)]
  refine wpAny_bind (Tuple_ (thn (ha _ pins s σ H _ I h) fun us s1 ⟨vs,H1,I1,r1,q1⟩=>?_))
  obtain ⟨v,w,e1,q1⟩:=q1
  subst e1
  obtain ⟨u1,u2,rfl,rv,rw'⟩:∃ u1 u2,us=[u1,u2]∧RelV v u1∧RelV w u2:=by
    cases r1 with
    | cons p q=>
      cases q with
      | cons p' q'=>
        cases q'
        exact ⟨_,_,rfl,p,p'⟩
  refine wpAny_newObj_type ?_ (by show 2≤sizeLine;decide)
  have I2:Inv X pins σ H1 { s1 with heap:=s1.heap.push { cls:=.type "tuple", data:=.seq [u1,u2].toArray } }:=I1.kept (t':=s1.toks) fun b o e=>Heap.get?_push_of_some _ e
  rw[hw]
  refine wpAny_bind (wpAny_pure ?_)
  show wpAny (model X.prog X.w) X.A (do rule "assign.swapped-stores";let items ← unpackItems (.ref s1.heap.objs.size) 2 none;assignInOrder [fun v=>bindName X.env y v,fun v=>bindName X.env x v] items.reverse;pure Flow.next) _ _ _
  refine wpAny_bind (wpAny_rule (wpAny_bind (unpackItems_tuple (items:=#[u1,u2]) (I.ok.hd hc) (IsTup.new s1.heap _) fun h' hx'=>?_)))
  have I3:=I2.kept (h':=h') (t':=s1.toks) fun b o e=>hx' b o (Nat.ne_of_lt (Heap.lt_size e)) e
  show wpAny _ _ (assignInOrder [fun v=>bindName X.env y v,fun v=>bindName X.env x v] [u2,u1] >>= fun _=>pure Flow.next) _ _ _
  refine wpAny_bind (assignInOrder_cons (wpAny_bindName (ft I3 hN hj (.inl hy) rw' (fun s2 I4=>?_) (.inr hy))))
  refine assignInOrder_cons (wpAny_bindName (ft I4 hN hi (.inl hx) rv (fun s3 I5=>assignInOrder_nil (wpAny_pure ?_)) (.inr hx)))
  rw[List.set_comm _ _ (Ne.symm hij)] at I5
  exact ⟨_,H1,I5,q1⟩
def JJ (i:Nat)(te:TE)(ti:TIp):TS:=fun D σ H=>∃ x,σ[i]? = some (some x)∧te σ H fun y H1=>ti x y H1 fun z H2=>D.nx (σ.set i (some z)) H2
theorem HJ {i:Nat}{x:Str}{e:Expr}{te:TE}{op:Operator}{ti:TIp}{pos':Pos}(hN:X.N.Nodup)(hi:X.N[i]? = some x)(hx:Loc X.env.scope x)(he:PE X e te)(ho:PIp X op ti)(hf:X.fn x=true∨X.env.scope.names.lookup x=some .local:=by first | exact .inl rfl | exact .inr rfl | assumption) :
    PS X (.AugAssign (.Name x pos') op e pos) (JJ i te ti):=by
  intro pins s σ H D I h
  obtain ⟨v,e1,h⟩:=h
  obtain ⟨m,hn,hl⟩:=I.loc
  have vis:Vis X.env.scope x:=by rcases hx with k | k;exact .inl k;exact .inr (.inl k)
  obtain ⟨u,r,l⟩:=hl i x v hi e1 vis
  refine wpAny_AugAssign_Name ?_
  have go:wpAny (model X.prog X.w) X.A (eval e X.env) (fun w s₂=>wpAny (model X.prog X.w) X.A (inplaceOp op u w) (fun r s₃=>wpAny (model X.prog X.w) X.A (storeName X.env x r) (fun _=>SP X pins D .next) X.xe s₃) X.xe s₂) X.xe s:=by
    refine thn (he pins s σ H _ I h) fun w s1 ⟨y,H1,I1,r1,q1⟩=>?_
    refine thn (ho pins s1 σ H1 v y u w _ I1 r r1 q1) fun z s2 ⟨zv,H2,I2,r2,q2⟩=>?_
    exact ft I2 hN hi hx r2 (fun s3 I3=>⟨_,H2,I3,q2⟩) hf
  rcases l with ⟨hk,hm⟩ | ⟨hk,c,hc,hcell⟩
  · exact wpAny_loadName_local I.ok.kind hk hn hm go
  · rcases hk with hk | hk
    · exact wpAny_loadName_cell I.ok.kind hk hc hcell go
    · rcases hx with k | k
      · have:X.env.scope.names.lookup x=some .free:=hk
        rw[k] at this;cases this
      · have:X.env.scope.names.lookup x=some .free:=hk
        rw[k] at this;cases this
def ipI (f:Int→Int→Int):TIp:=fun x y H Q=>∃ i j,x=.int i∧y=.int j∧Q (.int (f i j)) H
theorem FJ:PIp X .Add (ipI fun i j=>i+j):=by
  intro pins s σ H x y v u Q I r1 r2 h
  obtain ⟨i,j,e1,e2,q⟩:=h
  subst e1;subst e2
  obtain ⟨t,rfl⟩:=r1
  obtain ⟨t',rfl⟩:=r2
  exact iadd_int ⟨.int _,H,I.tok _,⟨_,rfl⟩,q⟩
end
section
variable {X:Cx} {pos:Pos}
def HK (c:TT)(tb:TS):TS:=fun D σ H=>∃ W:Nat→St→Hp→Prop,(∃ m,W m σ H)∧∀ m σ H,W m σ H→
  c σ H fun b H1=>if b=true then ∃ N:St→Hp→Prop,(∀ σ' H',N σ' H'→∃ m',m' < m∧W m' σ' H')∧tb { D with nx:=N,ct:=N,bk:=D.nx } σ H1 else D.nx σ H1
theorem yV {c:Expr}{body:List Stmt}{tc:TT}{tb:TS}(hp:PassesOwn (model X.prog X.w) X.A X.env X.xe)(hc:PT X c tc)(hb:PSs X body tb):PS X (.While c body [] pos) (HK tc tb):=by
  intro pins s σ H D I h
  obtain ⟨W,⟨m0,w0⟩,turn⟩:=h
  refine wpAny_While (codeAny_whileLoop (fun n s'=>∃ σ' H',Inv X pins σ' H' s'∧W n σ' H') ?_ m0 ⟨σ,H,I,w0⟩)
  rintro n s1 ⟨σ1,H1,I1,w1⟩
  refine wpAny_passesOwn hp (thn (hc pins s1 σ1 H1 _ I1 (turn n σ1 H1 w1)) fun b s2 ⟨H2,I2,q2⟩=>?_)
  cases b with
  | true=>
    obtain ⟨N,hN,q2⟩:=q2
    rw[if_pos rfl]
    refine wpAny_passesOwn hp (thn (hb pins s2 σ1 H2 _ I2 q2) fun f s3 q3=>?_)
    cases f with
    | next=>
      obtain ⟨σ3,H3,I3,n3⟩:=q3
      obtain ⟨m',hm,w3⟩:=hN σ3 H3 n3
      exact ⟨m',hm,σ3,H3,I3,w3⟩
    | cont=>
      obtain ⟨σ3,H3,I3,n3⟩:=q3
      obtain ⟨m',hm,w3⟩:=hN σ3 H3 n3
      exact ⟨m',hm,σ3,H3,I3,w3⟩
    | brk=>exact q3
    | ret v=>exact q3
  | false=>
    rw[if_neg Bool.false_ne_true]
    exact wpAny_execs_nil ⟨σ1,H2,I2,q2⟩
end
structure It where
  go:Nat→Hp→Prop
  yld:Nat→Hp→V→Hp→Prop
  stop:Nat→Hp→Prop
def qJ (X:Cx)(pins:List (Addr×Obj))(H:Hp)(b:Addr):Prop:=
  H b=none∧b≠X.env.locals∧b ∉ X.fs∧(b∈X.ex∨X.s₀.heap.objs.size≤b)∧(∀ x c,X.env.cells.lookup x=some c→c≠b)∧∀ p∈X.pn++pins,p.1≠b
theorem Inv.DN {X:Cx}{pins:List (Addr×Obj)}{σ:St}{H H':Hp}{s:Shared}{b:Addr}(I:Inv X pins σ H s)(hb:s.heap.objs.size≤b)(hn:H' b=none):qJ X pins H' b:=by
  refine ⟨hn,Nat.ne_of_gt (Nat.lt_of_lt_of_le I.lt hb),I.K6 hb,.inr (Nat.le_trans I.sz hb),fun x c e z=>?_,fun p hp z=>?_⟩
  · obtain ⟨v,q⟩:=I.cell x c e
    exact absurd (Nat.lt_of_lt_of_le q.lt (by rw[z];exact hb)) (Nat.lt_irrefl _)
  · exact absurd (Nat.lt_of_lt_of_le (Heap.lt_size (I.pin p hp).1) (by rw[z];exact hb)) (Nat.lt_irrefl _)
structure Turn (P:Program) (w:World) (K:PySem.W.Frag) (tg:Expr) (J:It) (fp:List Addr) (it:Addr) (tn:Nat→Heap→Prop):Prop where
  mem:it∈fp
  obj:∀ i h,tn i h→∀ b∈fp,∃ o,h.get? b=some o∧∀ v,o.data≠.cell v
  keep:∀ i h h',tn i h→(∀ b∈fp,∀ o,h.get? b=some o→h'.get? b=some o)→tn i h'
  item:∀ (X:Cx),X.prog=P→X.w=w→X.K=K→X.calm=true→∀ (i:Nat) (pins:List (Addr×Obj)) (s:Shared) (σ:St) (H:Hp) (E:Value→Shared→Prop),Inv X pins σ H s→(∀ b∈fp,qJ X pins H b)→tn i s.heap→J.go i H→
    wpAny (model P w) X.A (pyNext (.ref it)) (fun r s1=>∃ u,r=some u∧
      wpAny (model P w) X.A (letOwnedTupleGo tg (.ref it) u) (fun _ s2=>∃ x H',Inv X pins σ H' s2∧RelV x u∧J.yld i H x H'∧tn (i+1) s2.heap∧∀ b∈fp,H' b=none) E s1) E s
  done:∀ (X:Cx),X.prog=P→X.w=w→X.K=K→X.calm=true→∀ (i:Nat) (pins:List (Addr×Obj)) (s:Shared) (σ:St) (H:Hp) (E:Value→Shared→Prop),Inv X pins σ H s→(∀ b∈fp,qJ X pins H b)→tn i s.heap→J.stop i H→
    wpAny (model P w) X.A (pyNext (.ref it)) (fun r s1=>r=none∧Inv X pins σ H s1) E s
  self:∀ (A:Around) (i:Nat) (s:Shared) (Q:Value→Shared→Prop) (E:Value→Shared→Prop),tn i s.heap→Q (.ref it) s→wpAny (model P w) A (pyIter (.ref it)) Q E s
abbrev TI:=St→Hp→(It→Hp→Prop)→Prop
def PIE (X:Cx)(pins:List (Addr×Obj))(σ:St)(tg:Expr)(R:It→Hp→Prop)(itv:Value)(s2:Shared):Prop:=
  ∃ (it:Addr) (fp:List Addr) (tn:Nat→Heap→Prop) (J:It) (H':Hp),itv=.ref it∧Inv X pins σ H' s2∧Turn X.prog X.w X.K tg J fp it tn∧tn 0 s2.heap∧(∀ b∈fp,qJ X pins H' b)∧R J H'
def PI (X:Cx)(tg iter:Expr)(wi:TI):Prop:=
  ∀ (pins:List (Addr×Obj)) (s:Shared) (σ:St) (H:Hp) (R:It→Hp→Prop),Inv X pins σ H s→wi σ H R→
    wpAny (model X.prog X.w) X.A (eval iter X.env) (fun v s1=>wpAny (model X.prog X.w) X.A (pyIter v) (PIE X pins σ tg R) X.xe s1) X.xe s
theorem Bu {M:Model}{A:Around}{E:Value→Shared→Prop}{s:Shared}{tg:Expr}{it:Addr}{u:Value}{o:Obj}{n:String}{vs:Array Value}{Q:Unit→Shared→Prop}(ho:s.heap.get? it=some o)(hc:o.cls=.type n)(hd:o.data=.fields vs)
    (hn:["enumerate", "zip", "dict_itemiterator", "dict_reverseitemiterator", "odict_iterator", "itertools.zip_longest", "itertools.pairwise"].contains n=false) (hQ:Q () s):wpAny M A (letOwnedTupleGo tg (.ref it) u) Q E s:=by
  unfold letOwnedTupleGo
  cases tg<;>first
    | exact wpAny_pure hQ
    | (cases u<;>first
        | exact wpAny_pure hQ
        | (refine wpAny_bind (wpAny_load ho ?_)
           rw[hc,hd]
           show wpAny M A (if (["enumerate", "zip", "dict_itemiterator", "dict_reverseitemiterator", "odict_iterator", "itertools.zip_longest", "itertools.pairwise"].contains n&&vs[0]? == some (rawInt _))=true then _ else _) Q E s
           rw[if_neg (by intro h;rw[hn,Bool.false_and] at h;cases h)]
           exact wpAny_pure hQ))
def Itl (K:PySem.W.Frag)(a:Addr):It:=
  ⟨fun i H=>∃ xs x,SqL K H a xs∧xs[i]? = some x,fun i H x H'=>H'=H∧∀ xs,SqL K H a xs→xs[i]? = some x,fun i H=>∃ xs,SqL K H a xs∧xs.length≤i⟩
def Itt (K:PySem.W.Frag)(a:Addr):It:=
  ⟨fun i H=>∃ xs x,SqT K H a xs∧xs[i]? = some x,fun i H x H'=>H'=H∧∀ xs,SqT K H a xs→xs[i]? = some x,fun i H=>∃ xs,SqT K H a xs∧xs.length≤i⟩
def Itr (lo:Int)(n:Nat):It:=⟨fun i _=>i < n,fun i H x H'=>H'=H∧x=.int (lo+i),fun i _=>n≤i⟩
theorem xK {P:Program}{w:World}{K:PySem.W.Frag}{tg:Expr}(a it:Addr):Turn P w K tg (Itl K a) [it] it (fun i h=>h.IsListIter it a i) where
  mem:=by simp
  obj:=fun i h st b hb=>by
    have e:b=it:=by simpa using hb
    subst e
    obtain ⟨o,e,c,d⟩:=st
    exact ⟨o,e,fun v z=>by rw[d] at z;cases z⟩
  keep:=fun i h h' st k=>st.at fun o e=>k it (by simp) o e
  item:=by
    intro X hP hw hK hc i pins s σ H E I hf st hg
    subst hP hw hK
    obtain ⟨xs,x,hq,hx⟩:=hg
    obtain ⟨its,rv,p,hz⟩:=I.list hq
    obtain ⟨u,hu,ru⟩:=rv.get hx
    obtain ⟨f0,f1,f2,f3,f4,f5⟩:=hf it (by simp)
    refine wpAny_pyNext_list_item st p.isList (x:=u) (by simpa using hu) fun h' st' sb=>?_
    have I1:Inv X pins σ H { s with heap:=h' }:=I.turned (t':=s.toks) (fun b o hb e=>(sb.2 b hb).trans e) f0 f1 f3 f4 f5
    obtain ⟨o,e,c,d⟩:=id st'
    exact ⟨u,rfl,Bu (s:={ s with heap:=h' }) e c d (by decide) ⟨x,H,I1,ru,⟨rfl,fun ys hy=>by rw[I.rG hy hq];exact hx⟩,st',fun b hb=>(hf b hb).1⟩⟩
  done:=by
    intro X hP hw hK hc i pins s σ H E I hf st hg
    subst hP hw hK
    obtain ⟨xs,hq,hx⟩:=hg
    obtain ⟨its,rv,p,hz⟩:=I.list hq
    obtain ⟨f0,f1,f2,f3,f4,f5⟩:=hf it (by simp)
    have hl:=rv.length
    exact wpAny_pyNext_list_end (I.ok.hd hc) st p.isList (by simp;omega) fun h' eb=>⟨rfl,I.turned (t':=s.toks) (fun b o hb e=>eb b o hb e) f0 f1 f3 f4 f5⟩
  self:=fun _ _ _ _ _ st h=>wpAny_pyIter_listiter st h
theorem uN {P:Program}{w:World}{K:PySem.W.Frag}{tg:Expr}(a it:Addr):Turn P w K tg (Itt K a) [it] it (fun i h=>h.IsTupleIter it a i) where
  mem:=by simp
  obj:=fun i h st b hb=>by
    have e:b=it:=by simpa using hb
    subst e
    obtain ⟨o,e,c,d⟩:=st
    exact ⟨o,e,fun v z=>by rw[d] at z;cases z⟩
  keep:=fun i h h' st k=>st.at fun o e=>k it (by simp) o e
  item:=by
    intro X hP hw hK hc i pins s σ H E I hf st hg
    subst hP hw hK
    obtain ⟨xs,x,hq,hx⟩:=hg
    obtain ⟨its,rv,p,hz⟩:=I.tuple hq
    obtain ⟨u,hu,ru⟩:=rv.get hx
    obtain ⟨f0,f1,f2,f3,f4,f5⟩:=hf it (by simp)
    refine wpAny_pyNext_tuple_item st (show s.heap.IsTuple a its.toArray from p) (x:=u) (by simpa using hu) fun h' st' sb=>?_
    have I1:Inv X pins σ H { s with heap:=h' }:=I.turned (t':=s.toks) (fun b o hb e=>(sb.2 b hb).trans e) f0 f1 f3 f4 f5
    obtain ⟨o,e,c,d⟩:=id st'
    exact ⟨u,rfl,Bu (s:={ s with heap:=h' }) e c d (by decide) ⟨x,H,I1,ru,⟨rfl,fun ys hy=>by rw[I.og hy hq];exact hx⟩,st',fun b hb=>(hf b hb).1⟩⟩
  done:=by
    intro X hP hw hK hc i pins s σ H E I hf st hg
    subst hP hw hK
    obtain ⟨xs,hq,hx⟩:=hg
    obtain ⟨its,rv,p,hz⟩:=I.tuple hq
    obtain ⟨f0,f1,f2,f3,f4,f5⟩:=hf it (by simp)
    have hl:=rv.length
    exact wpAny_pyNext_tuple_end (I.ok.hd hc) st (show s.heap.IsTuple a its.toArray from p) (by simp;omega) fun h' eb=>⟨rfl,I.turned (t':=s.toks) (fun b o hb e=>eb b o hb e) f0 f1 f3 f4 f5⟩
  self:=fun _ _ _ _ _ st h=>wpAny_pyIter_tupleiter st h
theorem vg {P:Program}{w:World}{K:PySem.W.Frag}{tg:Expr}(it:Addr)(lo:Int)(n:Nat):Turn P w K tg (Itr lo n) [it] it (fun i h=>IsRangeIter h it (lo+(i:Nat)*1) ((n:Int) - (i:Nat)) 1) where
  mem:=by simp
  obj:=fun i h st b hb=>by
    have e:b=it:=by simpa using hb
    subst e
    exact ⟨_,st,fun v z=>by
      have z':Data.fields _=Data.cell v:=z
      cases z'⟩
  keep:=fun i h h' st k=>k it (by simp) _ st
  item:=by
    intro X hP hw hK hc i pins s σ H E I hf st hg
    subst hP hw hK
    obtain ⟨f0,f1,f2,f3,f4,f5⟩:=hf it (by simp)
    have W:=Walks.range (prog:=X.prog) (w:=X.w) (I.ok.hd hc) it lo 1 n
    refine W.item i s _ _ hg st fun v h' tk hv st' kk=>?_
    obtain ⟨t,rfl⟩:=hv
    have I1:Inv X pins σ H { s with heap:=h',toks:=tk }:=I.turned (fun b o hb e=>kk b o (by simpa using hb) e) f0 f1 f3 f4 f5
    refine ⟨_,rfl,Bu (s:={ s with heap:=h',toks:=tk }) (n := "range_iterator") st' rfl rfl (by decide) ⟨.int (lo+i),H,I1,⟨t,?_⟩,⟨rfl,rfl⟩,st',fun b hb=>(hf b hb).1⟩⟩
    rw[Int.mul_one]
  done:=by
    intro X hP hw hK hc i pins s σ H E I hf st hg
    subst hP hw hK
    obtain ⟨f0,f1,f2,f3,f4,f5⟩:=hf it (by simp)
    exact wpAny_pyNext_range_end (I.ok.hd hc) st (by have:n≤i:=hg;omega) fun h' eb=>⟨rfl,I.turned (t':=s.toks) (fun b o hb e=>eb b o hb e) f0 f1 f3 f4 f5⟩
  self:=fun _ _ _ _ _ st h=>wpAny_pyIter_rangeiter st h
end L2
namespace L2
open PySem PySem.Spec PyProof.Rows
section
variable {X:Cx} {tg:Expr}
theorem qM {pins:List (Addr×Obj)}{σ:St}{H:Hp}{s:Shared}{R:It→Hp→Prop}{E:Value→Shared→Prop}{lo hi:Int}{t u v:Tok}{tk:Nat}(I:Inv X pins σ H s)(h1:-(2 ^ 62)≤lo)(h2:lo < 2 ^ 62)(h3:-(2 ^ 62)≤hi)(h4:hi < 2 ^ 62)
    (q:R (Itr lo (hi - lo).toNat) H):wpAny (model X.prog X.w) X.A (pyIter (.ref s.heap.objs.size)) (PIE X pins σ tg R) E { s with heap:=s.heap.push { cls:=.type "range", data:=.fields #[.int lo t,.int hi u,.int 1 v] },toks:=tk }:=by
  refine wpAny_pyIter_range (IsRange.new ..) (small_one h1 h2 h3 h4) ?_
  have I1:Inv X pins σ H { s with heap:=s.heap.push { cls:=.type "range", data:=.fields #[.int lo t,.int hi u,.int 1 v] },toks:=tk }:=I.kept fun b o e=>Heap.get?_push_of_some _ e
  refine ⟨(s.heap.push { cls:=.type "range", data:=.fields #[.int lo t,.int hi u,.int 1 v] }).objs.size,[(s.heap.push { cls:=.type "range", data:=.fields #[.int lo t,.int hi u,.int 1 v] }).objs.size],_,_,H,rfl,
    I1.kept (t':=tk) fun b o e=>Heap.get?_push_of_some _ e,vg _ lo (hi - lo).toNat,?_,fun b hb=>?_,q⟩
  · have e1:lo+((0:Nat):Int)*1=lo:=by simp
    have e2:(((hi - lo).toNat:Nat):Int) - ((0:Nat):Int)=Builtin.Range.rangeSize lo hi 1:=by rw[rangeSize_one];split<;>omega
    show IsRangeIter _ _ (lo+((0:Nat):Int)*1) ((((hi - lo).toNat:Nat):Int) - ((0:Nat):Int)) 1
    rw[e1,e2]
    exact Heap.get?_push_size _ rfl
  · have e:b=(s.heap.push { cls:=.type "range", data:=.fields #[.int lo t,.int hi u,.int 1 v] }).objs.size:=by simpa using hb
    subst e
    exact I1.DN (Nat.le_refl _) (I1.hok.fresh (Nat.le_refl _))
def Jc (ta:TA):TI:=fun σ H R=>ta σ H fun vs H1=>∃ j:Int,vs=[.int j]∧-(2 ^ 62)≤j∧j < 2 ^ 62∧R (Itr 0 j.toNat) H1
def IC (ta:TA):TI:=fun σ H R=>ta σ H fun vs H1=>∃ i j:Int,vs=[.int i,.int j]∧(-(2 ^ 62)≤i∧i < 2 ^ 62∧-(2 ^ 62)≤j∧j < 2 ^ 62)∧R (Itr i (j - i).toNat) H1
theorem xb {a:Expr}{ta:TA}{p pos:Pos}(hg:Gl X "range")(hm:X.mg "range" = none)(ha:PA X [a] ta)(hs:starEach [a] X.env=[(false,eval a X.env)]:=by rfl):PI X tg (.Call (.Name "range" p) [a] [] pos) (Jc ta):=by
  intro pins s σ H R I h
  refine Call_ (gL I hg hm boot_range (PyProof.Rows.callWith_type1 (thn (ha pos pins s σ H _ I h) fun us s1 ⟨vs,H1,I1,r1,q1⟩=>?_) hs rfl))
  obtain ⟨j,e,q1,q2,q⟩:=q1
  subst e
  cases r1 with
  | cons r rr=>
    cases rr
    obtain ⟨t,rfl⟩:=r
    exact call_range_1 (qM I1 (by omega) (by omega) q1 q2 (by simpa using q))
theorem w6 {a b:Expr}{ta:TA}{p pos:Pos}(hg:Gl X "range")(hm:X.mg "range" = none)(ha:PA X [a,b] ta)(hs:starEach [a,b] X.env=[(false,eval a X.env),(false,eval b X.env)]:=by rfl)(hs2:starEach [b] X.env=[(false,eval b X.env)]:=by rfl) :
    PI X tg (.Call (.Name "range" p) [a,b] [] pos) (IC ta):=by
  intro pins s σ H R I h
  refine Call_ (gL I hg hm boot_range (PyProof.Rows.callWith_type1 (thn (ha pos pins s σ H _ I h) fun us s1 ⟨vs,H1,I1,r1,q1⟩=>?_) (by rw[hs,hs2]) (by rw[hs2];rfl)))
  obtain ⟨i,j,e,⟨q1,q2,q3,q4⟩,q⟩:=q1
  subst e
  cases r1 with
  | cons r rr=>
    cases rr with
    | cons r' rr=>
      cases rr
      obtain ⟨t,rfl⟩:=r
      obtain ⟨t',rfl⟩:=r'
      exact call_range_2 (qM I1 q1 q2 q3 q4 q)
def La (wi:TI)(g:TG)(tb:TS):TS:=fun D σ H=>wi σ H fun J H1=>∃ W:Nat→Nat→St→Hp→Prop,(∃ m,W 0 m σ H1)∧∀ i m σ H,W i m σ H→
  (J.stop i H∧D.nx σ H)∨(J.go i H∧∃ N:St→Hp→Prop,(∀ σ' H',N σ' H'→∃ m',m' < m∧W (i+1) m' σ' H')∧∀ x H',J.yld i H x H'→g x σ H' fun σ2 H2=>tb { D with nx:=N,ct:=N,bk:=D.nx } σ2 H2)
def lN (fp:List Addr)(h:Heap):List (Addr×Obj):=fp.filterMap fun b=>(h.get? b).map fun o=>(b,o)
theorem eI {fp:List Addr}{h:Heap}{b:Addr}{o:Obj}(hb:b∈fp)(e:h.get? b=some o):(b,o)∈lN fp h:=List.mem_filterMap.mpr ⟨b,hb,by rw[e];rfl⟩
theorem yo {fp:List Addr}{h:Heap}{p:Addr×Obj}(hp:p∈lN fp h):p.1∈fp∧h.get? p.1=some p.2:=by
  obtain ⟨b,hb,e⟩:=List.mem_filterMap.mp hp
  cases q:h.get? b with
  | none=>rw[q] at e;cases e
  | some o=>
    rw[q] at e
    have e':(b,o)=p:=Option.some.inj e
    subst e'
    exact ⟨hb,q⟩
theorem Inv.pinned {pins:List (Addr×Obj)}{σ:St}{H:Hp}{s:Shared}{fp:List Addr}(I:Inv X pins σ H s)(hf:∀ b∈fp,qJ X pins H b)(ho:∀ b∈fp,∃ o,s.heap.get? b=some o∧∀ v,o.data≠.cell v):Inv X (pins++lN fp s.heap) σ H s:=
  I.vY fun p hp=>(List.mem_append.mp hp).elim (fun z=>I.pin p (List.mem_append_right _ z)) fun z=>by
    obtain ⟨hb,e⟩:=yo z
    obtain ⟨f0,f1,f2,_⟩:=hf p.1 hb
    obtain ⟨o,e',d⟩:=ho p.1 hb
    rw[e] at e';cases e'
    exact ⟨e,f0,f1,f2,d⟩
theorem Inv.iL {pins pl:List (Addr×Obj)}{σ:St}{H:Hp}{s:Shared}(I:Inv X (pins++pl) σ H s):Inv X pins σ H s:=I.vY fun p hp=>I.pin p (List.mem_append_right _ (List.mem_append_left _ hp))
theorem G5 {iter:Expr}{body:List Stmt}{wi:TI}{g:TG}{tb:TS}{pos:Pos}(hp:PassesOwn (model X.prog X.w) X.A X.env X.xe)(hc:X.calm=true)(hi:PI X tg iter wi)(hg:PG X tg g)(hb:PSs X body tb)
    (hs:∀ x,foldedSetIterable iter X.env x=pure x:=by intro _;rfl):PS X (.For tg iter body [] pos) (La wi g tb):=by
  intro pins s σ H D I h
  refine wpAny_For (thn (hi pins s σ H _ I h) fun v s1 h1=>thn h1 fun itv s2 h2=>?_) hs
  obtain ⟨it,fp,tn,J,H2,e,I2,T,st2,f2,W,⟨m0,w0⟩,turn⟩:=h2
  subst e
  -- what stays true of the iterator's objects through the loop
  have vt:∀ {H':Hp},(∀ b∈fp,H' b=none)→∀ b∈fp,qJ X pins H' b:=fun hn b hb=>⟨hn b hb,(f2 b hb).2⟩
  refine codeAny_forLoop_any (fun n s'=>∃ i σ' H',Inv X pins σ' H' s'∧tn i s'.heap∧(∀ b∈fp,H' b=none)∧W i n σ' H') ?_ m0 ⟨0,σ,H2,I2,st2,fun b hb=>(f2 b hb).1,w0⟩
  rintro n s3 ⟨i,σ3,H3,I3,st3,fr3,w3⟩
  rcases turn i n σ3 H3 w3 with ⟨stop,qn⟩ | ⟨go,N,hN,step⟩
  · refine wpAny_passesOwn hp (thn (T.done X rfl rfl rfl hc i pins s3 σ3 H3 X.xe I3 (vt fr3) st3 stop) fun r s4 ⟨hr,I4⟩=>?_)
    subst hr
    exact wpAny_execs_nil ⟨σ3,H3,I4,qn⟩
  · refine wpAny_passesOwn hp (thn (T.item X rfl rfl rfl hc i pins s3 σ3 H3 X.xe I3 (vt fr3) st3 go) fun r s4 ⟨u,hr,h4⟩=>?_)
    subst hr
    refine wpAny_passesOwn hp (thn h4 fun _ s5 ⟨x,H5,I5,r5,y5,st5,fr5⟩=>?_)
    have I5':=I5.pinned (vt fr5) (T.obj _ _ st5)
    refine wpAny_passesOwn hp (thn (hg _ s5 σ3 H5 x u _ I5' r5 (step x H5 y5)) fun _ s6 ⟨σ6,H6,I6,q6⟩=>?_)
    refine wpAny_passesOwn hp (thn (hb _ s6 σ6 H6 _ I6 q6) fun f s7 q7=>?_)
    have again:∀ {σ7:St} {H7:Hp},Inv X (pins++lN fp s5.heap) σ7 H7 s7→N σ7 H7→∃ m,m < n∧∃ i σ' H',Inv X pins σ' H' s7∧tn i s7.heap∧(∀ b∈fp,H' b=none)∧W i m σ' H':=fun {σ7 H7} I7 n7=>by
      obtain ⟨m',hm,w7⟩:=hN σ7 H7 n7
      refine ⟨m',hm,i+1,σ7,H7,I7.iL,T.keep _ _ _ st5 fun b hb o e=>(I7.pin (b,o) (List.mem_append_right _ (List.mem_append_right _ (eI hb e)))).1,fun b hb=>?_,w7⟩
      obtain ⟨o,e,d⟩:=T.obj _ _ st5 b hb
      exact (I7.pin (b,o) (List.mem_append_right _ (List.mem_append_right _ (eI hb e)))).2.1
    cases f with
    | next=>obtain ⟨σ7,H7,I7,n7⟩:=q7;exact again I7 n7
    | cont=>obtain ⟨σ7,H7,I7,n7⟩:=q7;exact again I7 n7
    | brk=>obtain ⟨σ7,H7,I7,q7⟩:=q7;exact ⟨σ7,H7,I7.iL,q7⟩
    | ret v=>obtain ⟨x7,σ7,H7,I7,r7,q7⟩:=q7;exact ⟨x7,σ7,H7,I7.iL,r7,q7⟩
end
end L2
namespace L2
open PySem PySem.Spec PyProof.Rows
abbrev R2:=V→V→Hp→VK→Prop
def OpR (X:Cx)(f:Value→Value→Sem Value)(r:R2):Prop:=
  ∀ (pins:List (Addr×Obj)) (s:Shared) (σ:St) (H:Hp) (x y:V) (v u:Value) (Q:VK),Inv X pins σ H s→RelV x v→RelV y u→r x y H Q→
    wpAny (model X.prog X.w) X.A (f v u) (EP X pins σ Q) X.xe s
def UnR (X:Cx)(f:Value→Sem Value)(r:V→Hp→VK→Prop):Prop:=
  ∀ (pins:List (Addr×Obj)) (s:Shared) (σ:St) (H:Hp) (x:V) (v:Value) (Q:VK),Inv X pins σ H s→RelV x v→r x H Q→
    wpAny (model X.prog X.w) X.A (f v) (EP X pins σ Q) X.xe s
def bG (X:Cx)(f:Value)(r:List V→Hp→VK→Prop):Prop:=
  ∀ (pins:List (Addr×Obj)) (s:Shared) (σ:St) (H:Hp) (xs:List V) (us:List Value) (Q:VK),Inv X pins σ H s→Vals xs us→r xs H Q→
    wpAny (model X.prog X.w) X.A (call f us) (EP X pins σ Q) X.xe s
def tOp (r:R2)(ta tb:TE):TE:=fun σ H Q=>ta σ H fun x H1=>tb σ H1 fun y H2=>r x y H2 Q
def tUn (r:V→Hp→VK→Prop)(ta:TE):TE:=fun σ H Q=>ta σ H fun x H1=>r x H1 Q
def rI (C:Int→Int→Prop)(g:Int→Int→V):R2:=fun x y H Q=>∃ i j,x=.int i∧y=.int j∧C i j∧Q (g i j) H
def rI0 (g:Int→Int→V):R2:=fun x y H Q=>∃ i j,x=.int i∧y=.int j∧Q (g i j) H
def rU (g:Int→V):V→Hp→VK→Prop:=fun x H Q=>∃ i,x=.int i∧Q (g i) H
section
variable {X:Cx} {a b c:Expr} {ta tb tc:TE} {pos:Pos}
theorem F6 (ha:PE X a ta)(hb:PE X b tb){pins:List (Addr×Obj)}{s:Shared}{σ:St}{H:Hp}{R:V→V→Hp→Prop}(I:Inv X pins σ H s)
    (h:ta σ H fun x H1=>tb σ H1 fun y H2=>R x y H2) {Q:Value→Shared→Prop} {f:Value→Value→Sem Value}
    (hf:∀ v u s2 x y H2,Inv X pins σ H2 s2→RelV x v→RelV y u→R x y H2→wpAny (model X.prog X.w) X.A (f v u) Q X.xe s2) :
    wpAny (model X.prog X.w) X.A (eval a X.env) (fun v s₁=>wpAny (model X.prog X.w) X.A (eval b X.env) (fun u s₂=>wpAny (model X.prog X.w) X.A (f v u) Q X.xe s₂) X.xe s₁) X.xe s:=by
  refine thn (ha pins s σ H _ I h) fun v s1 ⟨x,H1,I1,r1,q1⟩=>?_
  refine thn (hb pins s1 σ H1 _ I1 q1) fun u s2 ⟨y,H2,I2,r2,q2⟩=>?_
  exact hf v u s2 x y H2 I2 r1 r2 q2
theorem E4 {op:Operator}{r:R2}(ho:OpR X (binaryOp op) r)(ha:PE X a ta)(hb:PE X b tb):PE X (.BinOp a op b pos) (tOp r ta tb):=by
  intro pins s σ H Q I h
  exact wpAny_BinOp (F6 ha hb I h fun v u s2 x y H2 I2 rx ry q=>ho pins s2 σ H2 x y v u Q I2 rx ry q)
theorem JQ {op:UnaryOp}{r:V→Hp→VK→Prop}(ho:UnR X (unaryOp op) r)(ha:PE X a ta):PE X (.UnaryOp op a pos) (tUn r ta):=by
  intro pins s σ H Q I h
  exact UnaryOp_ (thn (ha pins s σ H _ I h) fun v s1 ⟨x,H1,I1,r1,q1⟩=>ho pins s1 σ H1 x v Q I1 r1 q1)
theorem opI {f:Value→Value→Sem Value}{C:Int→Int→Prop}{g:Int→Int→Int}
    (rule:∀ (i j:Int) (t u:Tok) (s:Shared) (Q:Value→Shared→Prop) (E:Value→Shared→Prop),C i j→Q (.int (g i j) s.toks) { s with toks:=s.toks+1 }→wpAny (model X.prog X.w) X.A (f (.int i t) (.int j u)) Q E s) :
    OpR X f (rI C fun i j=>.int (g i j)):=by
  intro pins s σ H x y v u Q I rx ry h
  obtain ⟨i,j,rfl,rfl,hc,q⟩:=h
  obtain ⟨t,rfl⟩:=rx
  obtain ⟨t',rfl⟩:=ry
  exact rule i j t t' s _ _ hc ⟨.int (g i j),H,I.tok _,⟨_,rfl⟩,q⟩
theorem Fs {f:Value→Value→Sem Value}{g:Int→Int→Int}
    (rule:∀ (i j:Int) (t u:Tok) (s:Shared) (Q:Value→Shared→Prop) (E:Value→Shared→Prop),Q (.int (g i j) s.toks) { s with toks:=s.toks+1 }→wpAny (model X.prog X.w) X.A (f (.int i t) (.int j u)) Q E s) :
    OpR X f (rI0 fun i j=>.int (g i j)):=by
  intro pins s σ H x y v u Q I rx ry h
  obtain ⟨i,j,rfl,rfl,q⟩:=h
  obtain ⟨t,rfl⟩:=rx
  obtain ⟨t',rfl⟩:=ry
  exact rule i j t t' s _ _ ⟨.int (g i j),H,I.tok _,⟨_,rfl⟩,q⟩
theorem EB {f:Value→Value→Sem Value}{g:Int→Int→Bool}
    (rule:∀ (i j:Int) (t u:Tok) (s:Shared) (Q:Value→Shared→Prop) (E:Value→Shared→Prop),Q (.bool (g i j)) s→wpAny (model X.prog X.w) X.A (f (.int i t) (.int j u)) Q E s) :
    OpR X f (rI0 fun i j=>.bl (g i j)):=by
  intro pins s σ H x y v u Q I rx ry h
  obtain ⟨i,j,rfl,rfl,q⟩:=h
  obtain ⟨t,rfl⟩:=rx
  obtain ⟨t',rfl⟩:=ry
  exact rule i j t t' s _ _ ⟨.bl (g i j),H,I,rfl,q⟩
def JX (i j:Int):Prop:=0≤j∧j≤1000000∧i.natAbs < 2 ^ 64
def IT (i j:Int):Prop:=(-(2 ^ 64) < i∧i < 2 ^ 64)∨(-(2 ^ 64) < j∧j < 2 ^ 64)
theorem IT.ok {i j:Int}(h:IT i j):IntMulOk i j:=by
  rcases h with ⟨h1,h2⟩ | ⟨h1,h2⟩
  · exact .of_left (intBits_le_64 h1 h2)
  · exact .of_right (intBits_le_64 h1 h2)
theorem t8 (k:Nat):(0:Int)≤2 ^ k:=by
  rw[two_pow_cast]
  exact Int.natCast_nonneg _
theorem Gh:OpR X (binaryOp .Add) (rI0 fun i j=>.int (i+j)):=Fs fun _ _ _ _ _ _ _ q=>add_int q
theorem GZ:OpR X (binaryOp .Sub) (rI0 fun i j=>.int (i - j)):=Fs fun _ _ _ _ _ _ _ q=>sub_int q
theorem CP:OpR X (binaryOp .Mod) (rI (fun _ j=>j≠0) fun i j=>.int (i.fmod j)):=opI fun _ _ _ _ _ _ _ hc q=>mod_int' hc q
theorem HV:OpR X (binaryOp .Pow) (rI JX fun i j=>.int (i ^ j.toNat)):=opI fun _ _ _ _ _ _ _ hc q=>pow_int_small hc.1 hc.2.1 hc.2.2 q
theorem zh:OpR X (binaryOp .LShift) (rI JX fun i j=>.int (i*2 ^ j.toNat)):=opI fun _ _ _ _ _ _ _ hc q=>lshift_int_small hc.1 hc.2.1 hc.2.2 q
theorem zc:OpR X (binaryOp .RShift) (rI (fun _ j=>0≤j) fun i j=>.int (i / 2 ^ j.toNat)):=opI fun i j _ _ _ _ _ hc q=>
  rshift_int hc (by rw[Int.fdiv_eq_ediv_of_nonneg i (t8 _)];exact q)
theorem unI {f:Value→Sem Value}{g:Int→Int}
    (rule:∀ (i:Int) (t:Tok) (s:Shared) (Q:Value→Shared→Prop) (E:Value→Shared→Prop),Q (.int (g i) s.toks) { s with toks:=s.toks+1 }→wpAny (model X.prog X.w) X.A (f (.int i t)) Q E s) :
    UnR X f (rU fun i=>.int (g i)):=by
  intro pins s σ H x v Q I rx h
  obtain ⟨i,rfl,q⟩:=h
  obtain ⟨t,rfl⟩:=rx
  exact rule i t s _ _ ⟨.int (g i),H,I.tok _,⟨_,rfl⟩,q⟩
theorem FG:UnR X (unaryOp .USub) (rU fun i=>.int (-i)):=unI fun _ _ _ _ _ q=>neg_int q
end
def IA:V→V→Bool
  | .non,.non=>true | .non,.int _=>true | .int _,.non=>true | .non,.bl _=>true | .bl _,.non=>true | .non,.str _=>true | .str _,.non=>true
  | .int _,.int _=>true | .bl _,.bl _=>true | .str _,.str _=>true | .byt _,.byt _=>true
  | .int _,.str _=>true | .str _,.int _=>true | .bl _,.str _=>true | .str _,.bl _=>true
  | _,_=>false
def rEq:R2:=fun x y H Q=>IA x y=true∧Q (.bl (decide (x=y))) H
def rNe:R2:=fun x y H Q=>IA x y=true∧Q (.bl (!decide (x=y))) H
section
variable {X:Cx} {a b c:Expr} {ta tb tc:TE} {pos:Pos}
theorem E8:OpR X (compareOp .Lt) (rI0 fun i j=>.bl (decide (i < j))):=EB fun _ _ _ _ _ _ _ q=>lt_int q
theorem Jo:OpR X (compareOp .LtE) (rI0 fun i j=>.bl (decide (i≤j))):=EB fun _ _ _ _ _ _ _ q=>le_int q
theorem Jx:OpR X (compareOp .Gt) (rI0 fun i j=>.bl (decide (j < i))):=EB fun _ _ _ _ _ _ _ q=>gt_int q
theorem E6:OpR X (compareOp .GtE) (rI0 fun i j=>.bl (decide (j≤i))):=EB fun _ _ _ _ _ _ _ q=>ge_int q
theorem OpR.or {f:Value→Value→Sem Value}{r r':R2}(h:OpR X f r)(h':OpR X f r'):OpR X f (fun x y H Q=>r x y H Q∨r' x y H Q):=by
  intro pins s σ H x y v u Q I rx ry q
  rcases q with q | q
  · exact h pins s σ H x y v u Q I rx ry q
  · exact h' pins s σ H x y v u Q I rx ry q
theorem dR (b:Expr){op:CmpOp}(h:op≠.In:=by decide)(h2:op≠.NotIn:=by decide):behindInMarks op b=false:=by
  have e1:(op == CmpOp.In)=false:=by cases op<;>first | rfl | exact absurd rfl h
  have e2:(op == CmpOp.NotIn)=false:=by cases op<;>first | rfl | exact absurd rfl h2
  cases b<;>simp[behindInMarks,e1,e2]
theorem Dl {op:CmpOp}{r:R2}(ho:OpR X (compareOp op) r)(ha:PE X a ta)(hb:PE X b tb)(hm:behindInMarks op b=false):PE X (.Compare a [op] [b] pos) (tOp r ta tb):=by
  intro pins s σ H Q I h
  exact wpAny_Compare1 (F6 ha hb I h fun v u s2 x y H2 I2 rx ry q=>ho pins s2 σ H2 x y v u Q I2 rx ry q) hm
def ED (t:TE):TT:=fun σ H Q=>t σ H fun x H'=>∃ k,x=.bl k∧Q k H'
theorem Ex {op:CmpOp}{r:R2}(ho:OpR X (compareOp op) r)(ha:PE X a ta)(hb:PE X b tb)(hm:behindInMarks op b=false):PT X (.Compare a [op] [b] pos) (ED (tOp r ta tb)):=by
  intro pins s σ H Q I h
  refine wpAny_isTrue_Compare1 (thn (ha pins s σ H _ I h) fun v s1 ⟨x,H1,I1,r1,q1⟩=>thn (hb pins s1 σ H1 _ I1 q1) fun u s2 ⟨y,H2,I2,r2,q2⟩=>
    thn (ho pins s2 σ H2 x y v u _ I2 r1 r2 q2) fun c s3 ⟨z,H3,I3,r3,k,e,q3⟩=>?_) hm
  subst e
  cases r3
  exact wpAny_truthy_bool ⟨H3,I3,q3⟩
theorem iX:(sizeLine:Nat) < 2 ^ 63:=by rw[sizeLine_eq];decide
theorem vk:OpR X (binaryOp .Add) (fun x y H Q=>∃ i j,x=.str i∧y=.str j∧i.length+j.length≤sizeLine∧Q (.str (i++j)) H):=by
  intro pins s σ H x y v u Q I rx ry h
  obtain ⟨i,j,rfl,rfl,hz,q⟩:=h
  obtain ⟨t,rfl⟩:=rx
  obtain ⟨t',rfl⟩:=ry
  exact add_str (fun t' tk=>⟨.str (i++j),H,I.tok _,⟨_,rfl⟩,q⟩) hz
theorem vals1 {x:V}{us:List Value}(r:Vals [x] us):∃ u,us=[u]∧RelV x u:=by
  cases r with
  | cons r1 r2=>cases r2;exact ⟨_,rfl,r1⟩
theorem vals2 {x y:V}{us:List Value}(r:Vals [x,y] us):∃ u w',us=[u,w']∧RelV x u∧RelV y w':=by
  cases r with
  | cons r1 r2=>
    cases r2 with
    | cons r3 r4=>cases r4;exact ⟨_,_,rfl,r1,r3⟩
theorem gO:bG X (.builtin "abs") (fun xs H Q=>∃ i,xs=[.int i]∧Q (.int (if i < 0 then -i else i)) H):=by
  intro pins s σ H xs us Q I r h
  obtain ⟨i,rfl,q⟩:=h
  obtain ⟨u,rfl,t,rfl⟩:=vals1 r
  exact call_abs_int fun u tk=>⟨.int (if i < 0 then -i else i),H,I.tok _,⟨_,rfl⟩,q⟩
theorem jj (hc:X.calm=true):bG X (.builtin "min") (fun xs H Q=>∃ i j,xs=[.int i,.int j]∧Q (.int (if j < i then j else i)) H):=by
  intro pins s σ H xs us Q I r h
  obtain ⟨i,j,rfl,q⟩:=h
  obtain ⟨u,w',rfl,⟨t,rfl⟩,⟨t',rfl⟩⟩:=vals2 r
  refine min_two_ints (I.ok.hd hc) fun h' tk k=>⟨_,H,I.kept k,?_,q⟩
  by_cases hj:j < i
  · rw[if_pos hj,if_pos hj];exact ⟨_,rfl⟩
  · rw[if_neg hj,if_neg hj];exact ⟨_,rfl⟩
end
end L2
namespace L2
open PySem PySem.Spec PyProof.Rows
structure Ip (h:Heap) (x dx C:Addr) (mA:Str→Option Value):Prop where
  obj:h.get? x=some (PySem.W.instObj C dx)
  ns:h.Ns1 dx mA
  ne:dx≠x
theorem xS {h:Heap}{dx:Addr}{mA:Str→Option Value}(n:h.Ns1 dx mA):∃ od,h.get? dx=some od∧∀ name,PySem.W.lookIn name od=some (mA name):=by
  obtain ⟨o,es,ep,ho,hd,hk,_,hm⟩:=n
  refine ⟨o,ho,fun name=>?_⟩
  have e:=hm name
  unfold nsFind findBy at e
  rw[← Array.find?_toList] at e
  unfold PySem.W.lookIn
  rw[hd]
  dsimp only
  split
  · rename_i y q
    rw[q] at e
    exact congrArg some e
  · rename_i q
    rw[q] at e
    have a:es.toList.any (·.refKey)=false:=by
      rw[List.any_eq_false]
      intro y hy
      obtain ⟨z,t,hkey⟩:=hk y (Array.mem_toList_iff.mp hy)
      simp[DictEntry.refKey,hkey]
    have a':¬ es.toList.any (·.refKey)=true:=by rw[a];exact Bool.false_ne_true
    rw[if_neg a']
    exact congrArg some e
theorem Ip.look {h:Heap}{x dx C:Addr}{mA:Str→Option Value}(I:Ip h x dx C mA):∃ od,PySem.W.InstAt h x (PySem.W.instObj C dx) C (some od)∧∀ name,PySem.W.lookIn name od=some (mA name):=
  let ⟨od,ho,hl⟩:=xS I.ns
  ⟨od,⟨I.obj,rfl,rfl,ho⟩,hl⟩
section
variable {prog:Program} {w:World} {A:Around} {E:Value→Shared→Prop} {s:Shared} {K:PySem.W.Frag} {x dx C f:Addr} {mA:Str→Option Value} {name:Str} {v:Value}
end
theorem jX.some_of {v:V}{o:Option Value}(r:jX (some v) o):∃ u,o=some u∧RelV v u:=by
  cases o with
  | none=>exact (show False from r).elim
  | some u=>exact ⟨u,rfl,r⟩
section
variable {P:Program} {w:World} {H H':Hp} {h h':Heap} {a C dx:Addr} {fs fs':List (Str×V)}
end
structure Cls (K:PySem.W.Frag) (C:Addr):Prop where
  pg:PySem.W.plainGet K C Str.empty=true
  hd:PySem.W.hasDictIn K C=true
  po:PySem.W.plainOver K C=true
  sa:PySem.W.findIn K (.ref C) "__setattr__" = some (some (.builtin "object.__setattr__"))
theorem Cls.get {K:PySem.W.Frag}{C:Addr}(c:Cls K C)(f:Str):PySem.W.plainGet K C f=true:=c.pg
section
variable {X:Cx} {pins:List (Addr×Obj)} {σ:St} {H:Hp} {s:Shared} {a C dx:Addr} {fs:List (Str×V)} {f:Str} {v:V} {A:Around} {E:Value→Shared→Prop}
end
section
variable {X:Cx} {o e value:Expr} {f:Str} {pos pos' tpos:Pos} {ta tv:TE}
def j5:V→V→Hp→VK→Prop:=fun x y H Q=>∃ i j,x=.int i∧y=.int j∧Q (.int (i - j)) H
end
section
variable {X:Cx} {pins:List (Addr×Obj)} {σ:St} {H:Hp} {s:Shared} {A:Around} {E:Value→Shared→Prop} {Q:Value→Shared→Prop} {c:Value} {b:Bool}
end
end L2
namespace L2
open PySem PySem.Spec PyProof.Rows
structure cL (k:Nat) (A:Around):Prop where
  hd:A.handled=none
  dp:A.depth+3*k+5 < recursionLimit
  un:A.units+16*k+200 < cLine
theorem cL.mono {j k:Nat}{A:Around}(r:cL k A)(h:j≤k):cL j A:=⟨r.hd,by have:=r.dp;omega,by have:=r.un;omega⟩
theorem cL.deeper {k:Nat}{A:Around}(r:cL (k+1) A)(env:Env):cL k (A.deeper env):=
  ⟨r.hd,by have:=r.dp;show A.depth+1+3*k+5 < _;omega,by have:=r.un;show A.units+3+16*k+200 < _;omega⟩
theorem cL.in1 {k:Nat}{A:Around}(r:cL (k+1) A):cL k A.in1:=
  ⟨r.hd,by have:=r.dp;show A.depth+3*k+5 < _;omega,by have:=r.un;show A.units+1+16*k+200 < _;omega⟩
theorem cL.depth {k:Nat}{A:Around}(r:cL k A):A.depth < recursionLimit:=by have:=r.dp;omega
theorem cL.units {k:Nat}{A:Around}(r:cL k A):A.units+64 < cLine:=by have:=r.un;omega
def K5:TA:=fun _ H Q=>Q [] H
def Kg (ta:TE)(tr:TA):TA:=fun σ H Q=>ta σ H fun x H1=>tr σ H1 fun xs H2=>Q (x::xs) H2
section
variable {X:Cx} {e:Expr} {es:List Expr} {te:TE} {t:TA} {pos:Pos}
theorem fQ:PA X [] K5:=fun _ _ _ _ H Q I h=>Calls.spliced_nil ⟨[],H,I,.nil,h⟩
theorem cz (ha:PE X e te)(hr:PA X es t)(hs:starEach (e::es) X.env=(false,eval e X.env)::starEach es X.env:=by rfl):PA X (e::es) (Kg te t):=by
  intro pos pins s σ H Q I h
  rw[hs]
  show wpAny _ _ (spliced ((false,eval e X.env)::backTo pos (starEach es X.env))) _ _ s
  refine Calls.spliced_cons (thn (ha pins s σ H _ I h) fun u s1 ⟨x,H1,I1,r1,q1⟩=>?_)
  exact thn (hr pos pins s1 σ H1 _ I1 q1) fun us s2 ⟨xs,H2,I2,r2,q2⟩=>⟨x::xs,H2,I2,.cons r1 r2,q2⟩
def KL (t:TA):TE:=fun σ H Q=>t σ H fun xs H1=>xs.length≤sizeLine∧∀ p,H1 p=none→Q (.ref p) (upd H1 p (.tup xs))
def Kx (t:TA):TE:=fun σ H Q=>t σ H fun xs H1=>xs.length≤sizeLine∧∀ p,H1 p=none→Q (.ref p) (upd H1 p (.lst xs))
theorem Hs {x1}(h:PA X es t):PE X (.Tuple es x1 pos) (KL t):=by
  intro pins s σ H Q I hq
  refine wpAny_Tuple_spliced (thn (h pos pins s σ H _ I hq) fun us s1 ⟨xs,H1,I1,r,z,q⟩=>⟨by rw[← r.length];exact z,?_⟩)
  have hf:H1 s1.heap.objs.size=none:=I1.hok.fresh (Nat.le_refl _)
  refine ⟨.ref s1.heap.objs.size,upd H1 s1.heap.objs.size (.tup xs),I1.laid (t':=s1.toks) (fun b u e=>Heap.get?_push_of_some _ e) (Nat.le_refl _) ?_,rfl,q _ hf⟩
  exact ⟨z,us,r,⟨_,Heap.get?_push_size _ rfl⟩⟩
theorem zb (h:PA X es t):PE X (.List es pos) (Kx t):=by
  intro pins s σ H Q I hq
  refine wpAny_List_spliced (thn (h pos pins s σ H _ I hq) fun us s1 ⟨xs,H1,I1,r,z,q⟩=>⟨by rw[← r.length];exact z,?_⟩)
  have hf:H1 s1.heap.objs.size=none:=I1.hok.fresh (Nat.le_refl _)
  refine ⟨.ref s1.heap.objs.size,upd H1 s1.heap.objs.size (.lst xs),I1.laid (t':=s1.toks) (fun b u e=>Heap.get?_push_of_some _ e) (Nat.le_refl _) ?_,rfl,q _ hf⟩
  exact ⟨z,us,0,r,Heap.get?_push_size _ rfl⟩
end
abbrev Sp:=List V→Hp→VK→XK→Prop
abbrev CXT:=List Env→Hp→Shared→XK→Value→Shared→Prop
structure ub (P:Program) (w:World) (K:PySem.W.Frag) (mg:Str→Option Value) (base:Heap) (A:Around) (outer:List Env) (s:Shared) (H:Hp):Prop where
  frames:A.frames=some outer
  mod:Mod K mg base
  bs:∀ b o,base.get? b=some o→s.heap.get? b=some o∧H b=none
  bsz:base.objs.size≤s.heap.objs.size
  jQ:s.heap.FunFrames base outer
  frf:∀ b∈frs outer,H b=none
  hok:HOk P w H s.heap
  bare:AllBare s.gens
def CE (outer:List Env)(P:Program)(w:World)(H:Hp)(s:Shared)(Q:VK)(u:Value)(s':Shared):Prop:=
  ∃ v H',s'.os=s.os∧AllBare s'.gens∧Un (frs outer) [] H H' s.heap s'.heap∧HOk P w H' s'.heap∧RelV v u∧Q v H'
def CR (CX:CXT)(outer:List Env)(P:Program)(w:World)(H:Hp)(s:Shared)(Q:VK)(E:XK)(r:Result)(s':Shared):Prop:=
  match r with
  | .ok (.ret u)=>CE outer P w H s Q u s'
  | .ok _=>False
  | .error e=>CX outer H s E e s'
structure fk (P:Program) (w:World) (K:PySem.W.Frag) (mg:Str→Option Value) (base:Heap) (CX:CXT) (k:Nat) (f:Addr) (fd:FuncData) (ps:List Str) (sp:Sp):Prop where
  len:∀ vs H Q E,sp vs H Q E→vs.length=ps.length
  run:∀ (A:Around) (outer:List Env) (s:Shared) (H:Hp) (args:Args) (us:List Value) (vs:List V) (Q:VK) (E:XK),cL k A→ub P w K mg base A outer s H→BindsTo s fd args (ps.zip us)→Vals vs us→sp vs H Q E→
    codeAny (model P w) A (.call (.ref f) args) (CR CX outer P w H s Q E) s
theorem fk.mono {P:Program}{w:World}{K:PySem.W.Frag}{mg:Str→Option Value}{base:Heap}{CX:CXT}{j k:Nat}{f:Addr}{fd:FuncData}{ps:List Str}{sp:Sp}(F:fk P w K mg base CX j f fd ps sp)(h:j≤k) :
    fk P w K mg base CX k f fd ps sp:=⟨F.len,fun A outer s H args us vs Q E hr=>F.run A outer s H args us vs Q E (hr.mono h)⟩
theorem fk.imp {P:Program}{w:World}{K:PySem.W.Frag}{mg:Str→Option Value}{base:Heap}{CX:CXT}{k:Nat}{f:Addr}{fd:FuncData}{ps:List Str}{sp sp':Sp}(F:fk P w K mg base CX k f fd ps sp)
    (h:∀ vs H Q E,sp' vs H Q E→sp vs H Q E):fk P w K mg base CX k f fd ps sp':=
  ⟨fun vs H Q E q=>F.len vs H Q E (h _ _ _ _ q),fun A outer s H args us vs Q E hr he hb hv hs=>F.run A outer s H args us vs Q E hr he hb hv (h _ _ _ _ hs)⟩
theorem ub.in1 {P:Program}{w:World}{K:PySem.W.Frag}{mg:Str→Option Value}{base:Heap}{A:Around}{outer:List Env}{s:Shared}{H:Hp}(e:ub P w K mg base A outer s H) :
    ub P w K mg base A.in1 outer s H:=⟨e.frames,e.mod,e.bs,e.bsz,e.jQ,e.frf,e.hok,e.bare⟩
section
variable {X:Cx} {pins:List (Addr×Obj)} {σ:St} {H:Hp} {s s':Shared}
theorem Inv.KD (I:Inv X pins σ H s):ub X.prog X.w X.K X.mg X.base X.A X.stack s H:=
  ⟨I.ok.frames,I.ok.mod,I.bs,Nat.le_trans I.ok.bsz I.sz,I.stack,I.vA,I.hok,I.bare⟩
theorem Inv.after {Q:VK}{u:Value}(I:Inv X pins σ H s)(h:CE X.stack X.prog X.w H s Q u s'):EP X pins σ Q u s':=by
  obtain ⟨v,H',os,bare,un,hok,r,q⟩:=h
  obtain ⟨hh,g,d,t,os'⟩:=s'
  obtain rfl:os'=s.os:=os
  exact ⟨v,H',I.call (h':=hh) (g':=g) (d':=d) (t':=t) (ch:=[]) un hok bare (fun b z=>absurd z (by simp)),r,q⟩
end
def JA (sp:Sp)(dvs:List V)(E:XK)(t:TA):TE:=fun σ H Q=>t σ H fun vs H1=>sp (vs++dvs) H1 Q E
def Binds (K:PySem.W.Frag)(fd:FuncData)(ps:List Str)(ds:List Value):Prop:=
  ∀ (s:Shared) (us:List Value),K.In s.heap→(us++ds).length=ps.length→BindsTo s fd ⟨us,[]⟩ (ps.zip (us++ds))
theorem Binds.all {K:PySem.W.Frag}{fd:FuncData}{ps:List Str}(h:∀ us:List Value,us.length=ps.length→bindArgs fd ⟨us,[]⟩=pure (ps.zip us)):Binds K fd ps []:=fun s us _ hl=>by
  rw[List.append_nil] at hl ⊢
  exact .of_eq (h us hl)
def Passes (CX:CXT)(X:Cx)(E:XK):Prop:=∀ (pins:List (Addr×Obj)) (σ:St) (H:Hp) (s:Shared) (e:Value) (s':Shared),Inv X pins σ H s→CX X.stack H s E e s'→X.xe e s'
section
variable {X:Cx} {CX:CXT} {k:Nat} {f C:Addr} {fd:FuncData} {ps:List Str} {sp:Sp} {dvs:List V} {ds:List Value} {E:XK} {x m:Str} {p pos apos:Pos} {e o:Expr} {es:List Expr} {ta:TE} {t:TA}
theorem Ij {pins:List (Addr×Obj)}{σ:St}{H:Hp}{s:Shared}{Q:VK}{us:List Value}{vs:List V}(F:fk X.prog X.w X.K X.mg X.base CX k f fd ps sp)(hr:cL k X.A)(hb:Binds X.K fd ps ds)(hd:Vals dvs ds)(hx:Passes CX X E)
    (I:Inv X pins σ H s) (r:Vals vs us) (h:sp (vs++dvs) H Q E):wpAny (model X.prog X.w) X.A (call (.ref f) us) (EP X pins σ Q) X.xe s:=by
  have r2:Vals (vs++dvs) (us++ds):=r.append hd
  have hl:(us++ds).length=ps.length:=by rw[← r2.length];exact F.len _ _ _ _ h
  refine wpAny_call (codeAny_mono (F.run X.A X.stack s H ⟨us,[]⟩ (us++ds) (vs++dvs) Q E hr I.KD (hb s us I.kIn hl) r2 h) fun r s' hq=>?_)
  cases r with
  | error e=>exact hx pins σ H s e s' I hq
  | ok fl=>
    cases fl with
    | ret u=>exact I.after hq
    | next=>exact False.elim hq
    | brk=>exact False.elim hq
    | cont=>exact False.elim hq
theorem Cm (F:fk X.prog X.w X.K X.mg X.base CX k f fd ps sp)(hr:cL k X.A)(hg:Gl X x)(hm:X.mg x=some (.ref f))(hk:PySem.W.keepIn X.K (.ref f)=true)(hb:Binds X.K fd ps ds)(hd:Vals dvs ds)(hx:Passes CX X E)
    (ha:PA X (e::es) t) (hdb:(x == ("__debug__" : Str))=false:=by decide) (he:starEach (e::es) X.env=(false,eval e X.env)::starEach es X.env:=by rfl) (hpl:(backTo pos (starEach es X.env)).any (·.1)=false:=by rfl) :
    PE X (.Call (.Name x p) (e::es) [] pos) (JA sp dvs E t):=by
  intro pins s σ H Q I h
  refine wpAny_Call_Name_kw (vI I hg hm ?_ hdb)
  refine PySem.W.callWith_K (h₀:=X.base) I.ok.mod.kin hk (thn (ha pos pins s σ H _ I h) fun us s1 ⟨vs,H1,I1,r,q⟩=>⟨I1.kIn,?_⟩) he hpl
  exact Ij F hr hb hd hx I1 r q
end
section
variable {X:Cx} {CX:CXT} {k:Nat} {f C:Addr} {fd:FuncData} {ps ks:List Str} {sp:Sp} {E:XK} {x m:Str} {p pos apos kpos:Pos} {e o:Expr} {es:List Expr} {kws:List Keyword} {te ta:TE} {t tk:TA} {nm:Option Str}
variable {g:List Value→List Value→List Value} {gV:List V→List V→List V}
end
structure aD (N P:List Str) (sc:Scope):Prop where
  kind:sc.kind=.function
  co:sc.isCoroutine=false
  gen:sc.isGenerator=false
  nd:N.Nodup
  pre:N.take P.length=P
  par:∀ x∈P,sc.names.lookup x=some .local∨sc.names.lookup x=some .cell
  Ih:∀ y∈sc.names,y.2≠.free
theorem oA {kindOf:Str→Option NameKind}{x:Str}:∀ {binds:List (Str×Value)} {m:Str→Option Value},(∀ v,(x,v) ∉ binds)→bindL kindOf binds m x=m x
  | [],_,_=>rfl
  | (n,v)::r,m,h=>by
    unfold bindL
    rw[oA fun w hw=>h w (List.mem_cons_of_mem _ hw)]
    split
    · have:x≠n:=by rintro rfl;exact h v List.mem_cons_self
      simp[this]
    · rfl
theorem nZ {kindOf:Str→Option NameKind}{x:Str}:∀ {binds:List (Str×Value)} {m:Str→Option Value},(∀ v,(x,v) ∉ binds)→bindC kindOf binds m x=m x
  | [],_,_=>rfl
  | (n,v)::r,m,h=>by
    unfold bindC
    rw[nZ fun w hw=>h w (List.mem_cons_of_mem _ hw)]
    split
    · rfl
    · have:x≠n:=by rintro rfl;exact h v List.mem_cons_self
      simp[this]
theorem oF {kindOf:Str→Option NameKind}{x:Str}{v:Value}:∀ {P:List Str} {vs:List Value} {i:Nat} {m:Str→Option Value},P.Nodup→P[i]? = some x→vs[i]? = some v→kindOf x=some .local→
    bindL kindOf (P.zip vs) m x=some v
  | [],_,_,_,_,h,_,_=>by simp at h
  | _::_,[],_,_,_,_,h,_=>by simp at h
  | p::P,w::vs,0,m,nd,h1,h2,hk=>by
    simp at h1 h2;subst h1;subst h2
    show bindL kindOf ((p,w)::P.zip vs) m p=_
    unfold bindL
    rw[oA fun v hv=>(List.nodup_cons.mp nd).1 (List.of_mem_zip hv).1,if_pos hk]
    simp
  | p::P,w::vs,i+1,m,nd,h1,h2,hk=>by
    show bindL kindOf ((p,w)::P.zip vs) m x=_
    unfold bindL
    exact oF (i:=i) (List.nodup_cons.mp nd).2 (by simpa using h1) (by simpa using h2) hk
theorem nR {kindOf:Str→Option NameKind}{x:Str}{v:Value}:∀ {P:List Str} {vs:List Value} {i:Nat} {m:Str→Option Value},P.Nodup→P[i]? = some x→vs[i]? = some v→kindOf x≠some .local→
    bindC kindOf (P.zip vs) m x=some v
  | [],_,_,_,_,h,_,_=>by simp at h
  | _::_,[],_,_,_,_,h,_=>by simp at h
  | p::P,w::vs,0,m,nd,h1,h2,hk=>by
    simp at h1 h2;subst h1;subst h2
    show bindC kindOf ((p,w)::P.zip vs) m p=_
    unfold bindC
    rw[nZ fun v hv=>(List.nodup_cons.mp nd).1 (List.of_mem_zip hv).1,if_neg hk]
    simp
  | p::P,w::vs,i+1,m,nd,h1,h2,hk=>by
    show bindC kindOf ((p,w)::P.zip vs) m x=_
    unfold bindC
    exact nR (i:=i) (List.nodup_cons.mp nd).2 (by simpa using h1) (by simpa using h2) hk
def start (N:List Str)(vs:List V):St:=vs.map some++List.replicate (N.length - vs.length) none
def sk (CX:CXT)(P:Program)(w:World)(K:PySem.W.Frag)(mg:Str→Option Value)(base:Heap)(N:List Str)(qual:Str)(scope:Scope)(f:Addr)(cd:Value)(A:Around)(outer:List Env)(s:Shared)(H:Hp)(E:XK):Cx where
  prog:=P
  w:=w
  K:=K
  mg:=mg
  base:=base
  A:=A.deeper (envOfC qual scope s.heap.objs.size f cd)
  N:=N
  s₀:=s
  H₀:=H
  env:=envOfC qual scope s.heap.objs.size f cd
  outer:=outer
  stack:=envOfC qual scope s.heap.objs.size f cd::outer
  ex:=[]
  calm:=true
  fn:=fun _=>true
  pn:=[]
  xe:=fun e s'=>wpAny (model P w) (A.deeper (envOfC qual scope s.heap.objs.size f cd)) (leaving (envOfC qual scope s.heap.objs.size f cd) e) (fun _ s''=>CX outer H s E e s'') (fun e' s''=>CX outer H s E e' s'') s'
theorem sQ {sc:Scope}{n:Nat}{x:Str}(h:sc.names.lookup x=some .cell):∃ c,(cellsFrom n sc.names []).lookup x=some c:=by
  have q:=PySem.W.cellsFrom_some sc.names n [] (.inl h)
  exact Option.isSome_iff_exists.mp q
theorem yf {CX:CXT}{P:Program}{w:World}{K:PySem.W.Frag}{mg:Str→Option Value}{base:Heap}{N ps:List Str}{qual:Str}{scope:Scope}{f:Addr}{cd:Value}{A:Around}{outer:List Env}{s s1:Shared}{H:Hp}{E:XK}{us:List Value}{vs:List V}
    (S:aD N ps scope) (hd:A.handled=none) (e0:ub P w K mg base A outer s H) (hl:vs.length=ps.length) (r:Vals vs us)
    (x:InCallC s s.heap.objs.size (bindL (envOfC qual scope s.heap.objs.size f cd).kindOf (ps.zip us) fun _=>none) (cellsFrom (s.heap.objs.size+1) scope.names []) (bindC (envOfC qual scope s.heap.objs.size f cd).kindOf (ps.zip us) fun _=>none) s1) :
    Inv (sk CX P w K mg base N qual scope f cd A outer s H E) [] (start N vs) H s1:=by
  have hpl:ps.length≤N.length:=by have:=congrArg List.length S.pre;rw[List.length_take] at this;omega
  obtain ⟨h1,tk,rfl,hk⟩:=x.done
  have noA:∀ b:Addr,b ∉ (sk CX P w K mg base N qual scope f cd A outer s H E).ex:=fun b z=>absurd (show b∈([]:List Addr) from z) (by simp)
  refine ⟨⟨e0.mod,S.kind,rfl,rfl,Nat.le_refl _,fun y z c h1 h2=>?_,fun y hy=>?_,fun y c _ h=>?_,fun _=>hd,Around.frames_deeper e0.frames,.inr ⟨rfl,rfl⟩,fun b z=>absurd z (noA b),e0.bs,e0.bsz,fun b _ _=>noA b,fun b z=>absurd z (noA b),e0.jQ,e0.frf⟩,
    rfl,e0.bare,Un.kept hk,⟨_,x.toInCall.ns,fun i y v h1 h2 h3=>?_⟩,fun y c h=>⟨_,x.cell y c h⟩,e0.hok.fresh (Nat.le_refl _),fun y c h=>?_,fun p hp=>absurd (show p∈([]:List (Addr×Obj)) from hp) (by simp),e0.hok.kept hk,?_⟩
  · exact name_of_addr x.apart (PySem.mem_of_lookup h1) (PySem.mem_of_lookup h2)
  · have hy:scope.names.lookup y=some .cell∨scope.names.lookup y=some .free:=hy
    rcases hy with hy | hy
    · exact sQ hy
    · exact absurd rfl (S.Ih _ (PySem.mem_of_lookup hy))
  · exact Nat.le_of_lt (x.above y c (PySem.mem_of_lookup h))
  · have hi:i < vs.length:=by
      unfold start at h2
      by_cases hi:i < vs.length
      · exact hi
      · rw[List.getElem?_append_right (by simpa using hi)] at h2
        rw[List.getElem?_replicate] at h2
        split at h2<;>cases h2
    have ha:vs[i]? = some v:=by
      unfold start at h2
      rw[List.getElem?_append_left (by simpa using hi),List.getElem?_map] at h2
      cases e:vs[i]? with
      | none=>rw[e] at h2;cases h2
      | some a=>rw[e] at h2;cases h2;rfl
    obtain ⟨u,hu,rv⟩:=r.get ha
    have hp:ps[i]? = some y:=by
      rw[← S.pre,List.getElem?_take_of_lt (by omega)];exact h1
    have ndP:ps.Nodup:=by rw[← S.pre];exact S.nd.sublist (List.take_sublist _ _)
    refine ⟨u,rv,?_⟩
    rcases S.par y (List.mem_of_getElem? hp) with k | k
    · exact .inl ⟨k,oF ndP hp hu k⟩
    · obtain ⟨c,e⟩:=sQ (n:=s.heap.objs.size+1) k
      refine .inr ⟨.inl k,c,e,?_⟩
      have q:=x.cell y c e
      rw[nR ndP hp hu (by show scope.names.lookup y≠_;rw[k];decide)] at q
      exact q
  · exact e0.hok.fresh (Nat.le_of_lt (x.above y c (PySem.mem_of_lookup h)))
  · unfold start
    show _=N.length
    rw[List.length_append,List.length_map,List.length_replicate]
    omega
theorem Jg {CX:CXT}{P:Program}{w:World}{K:PySem.W.Frag}{mg:Str→Option Value}{base:Heap}{k:Nat}{f:Addr}{name qual:Str}{params:Arguments}{body:List Stmt}{scope:Scope}{dV kV doc pm cdv ct oc:Value}{an od:Option Addr}
    {osl:Array (Option Value)} {N ps:List Str} {sp:Sp} (lk:K.lookup f=some ⟨oc,od,.func (PySem.W.fnOf name qual params body scope dV kV doc pm an cdv ct),osl⟩) (hcd:PySem.W.codeIn K cdv qual=true) (S:aD N ps scope)
    (len:∀ vs H Q E,sp vs H Q E→vs.length=ps.length)
    (hbody:∀ (A:Around) (outer:List Env) (s:Shared) (H:Hp) (vs:List V) (Q:VK) (E:XK),cL k (A.deeper (envOfC qual scope s.heap.objs.size f cdv))→sp vs H Q E→
      ∃ t,PSs (sk CX P w K mg base N qual scope f cdv A outer s H E) body t∧t { nx:=fun _ H'=>Q .non H',rt:=Q } (start N vs) H) :
    fk P w K mg base CX (k+1) f (PySem.W.fnOf name qual params body scope dV kV doc pm an cdv ct) ps sp:=by
  refine ⟨len,fun A outer s H args us vs Q E hr e0 hb r hsp=>?_⟩
  have hl:=len _ _ _ _ hsp
  have KX:K.In s.heap:=e0.mod.kin.keeps fun b o e=>(e0.bs b o e).1
  have lim:s.heap.NoLimit:=e0.mod.nolimit.keeps fun b o e=>(e0.bs b o e).1
  have lB:∀ y∈ps.zip us,scope.names.lookup y.1=some .local∨(scope.names.lookup y.1=some .cell∧((cellsFrom (s.heap.objs.size+1) scope.names []).lookup y.1).isSome=true):=fun ⟨n,v⟩ hy=>by
    rcases S.par n (List.of_mem_zip hy).1 with q | q
    · exact .inl q
    · exact .inr ⟨q,PySem.W.cellsFrom_some _ _ _ (.inl q)⟩
  refine codeAny_call_function hr.depth (KX _ _ lk) rfl S.co S.gen rfl (PySem.W.codeRec_of KX hcd) (hb _ _ _ _ ?_)
  refine wpAny_newFunctionEnv_cells S.kind lB fun env he s1 x=>?_
  subst he
  refine ⟨lim.keeps x.toInCall.keep,codeAny_func ?_⟩
  obtain ⟨t,ht,hq⟩:=hbody A outer s H vs Q E (hr.deeper _) hsp
  have I:Inv (sk CX P w K mg base N qual scope f cdv A outer s H E) [] (start N vs) H s1:=yf S hr.hd e0 hl r x
  refine wpAny_mono (ht [] s1 (start N vs) H _ I hq) (fun fl s' hs=>?_) fun e s' hs=>hs
  have fin:∀ {σ':St} {H':Hp} {v:V} {u:Value},Inv (sk CX P w K mg base N qual scope f cdv A outer s H E) [] σ' H' s'→RelV v u→Q v H'→CE outer P w H s Q u s':=
    fun {σ' H' v u} J rv q=>⟨v,H',J.os,J.bare,J.base,J.hok,rv,q⟩
  cases fl with
  | ret u=>
    obtain ⟨v,σ',H',J,rv,q⟩:=hs
    exact fin J rv q
  | next=>
    obtain ⟨σ',H',J,q⟩:=hs
    exact fin (v:=V.non) (u:=Value.none) J rfl q
  | brk=>
    obtain ⟨_,_,_,q⟩:=hs
    exact False.elim q
  | cont=>
    obtain ⟨_,_,_,q⟩:=hs
    exact False.elim q
end L2
namespace L2
open PySem PySem.Spec PyProof.Rows
section
variable {X:Cx} {x:Str} {p pos:Pos} {e:Expr} {es:List Expr} {t:TA} {id T:String} {r:List V→Hp→VK→Prop}
def tCB (r:List V→Hp→VK→Prop)(t:TA):TE:=fun σ H Q=>t σ H fun vs H1=>r vs H1 Q
theorem lV (hc:bG X (.builtin id) r)(hg:Gl X x)(hm:X.mg x=none)(hv:bootBuiltins x=some (.builtin id))(ha:PA X (e::es) t)(hn:x ≠ "__name__" := by decide)(hdb:(x == ("__debug__" : Str))=false:=by decide)
    (he:starEach (e::es) X.env=(false,eval e X.env)::starEach es X.env:=by rfl) (hpl:(backTo pos (starEach es X.env)).any (·.1)=false:=by rfl):PE X (.Call (.Name x p) (e::es) [] pos) (tCB r t):=by
  intro pins s σ H Q I h
  refine wpAny_Call_Name_kw (gL I hg hm hv ?_ hn hdb)
  exact PyProof.Rows.callWith_builtin1 (thn (ha pos pins s σ H _ I h) fun us s1 ⟨vs,H1,I1,r1,q1⟩=>hc pins s1 σ H1 vs us Q I1 r1 q1) he hpl
theorem xp (hc:bG X (.type T) r)(hg:Gl X x)(hm:X.mg x=none)(hv:bootBuiltins x=some (.type T))(ha:PA X (e::es) t)(hn:x ≠ "__name__" := by decide)(hdb:(x == ("__debug__" : Str))=false:=by decide)
    (he:starEach (e::es) X.env=(false,eval e X.env)::starEach es X.env:=by rfl) (hpl:(backTo pos (starEach es X.env)).any (·.1)=false:=by rfl):PE X (.Call (.Name x p) (e::es) [] pos) (tCB r t):=by
  intro pins s σ H Q I h
  refine wpAny_Call_Name_kw (gL I hg hm hv ?_ hn hdb)
  exact PyProof.Rows.callWith_type1 (thn (ha pos pins s σ H _ I h) fun us s1 ⟨vs,H1,I1,r1,q1⟩=>hc pins s1 σ H1 vs us Q I1 r1 q1) he hpl
end
end L2
namespace HT
open PySem PyProof.Rows
section
open PySem.SeqAt
open PySem.AutoSeq1 (wpAny_loadPart')
open PySem.MeetsSeq PySem.MeetsSeq2 PySem.MeetsSeq3
end
section
variable {prog:Program} {w:World} {A:Around} {E:Value→Shared→Prop} {s:Shared}
theorem Cr {t b:Addr}{vs ws:List Value}{Q:Value→Shared→Prop}(ht:IsTup s.heap t vs.toArray)(hb:IsTup s.heap b ws.toArray)(hv:vs≠[])
    (h1:ws=[]→Q (.ref t) s) (h2:ws≠[]→Q (.ref s.heap.objs.size) { s with heap:=s.heap.push { cls:=.type "tuple", data:=.seq (vs++ws).toArray } })
    (hsz:vs.length+ws.length≤sizeLine):wpAny (model prog w) A (binaryOp .Add (.ref t) (.ref b)) Q E s:=by
  obtain ⟨⟨cls,dd,data,sl⟩,ho,hc,n,hd⟩:=id ht
  obtain ⟨⟨cls2,dd2,data2,sl2⟩,ho2,hc2,n2,hd2⟩:=id hb
  simp only at hc hd hc2 hd2
  subst hc hd hc2 hd2
  have e:vs.toArray++ws.toArray=(vs++ws).toArray:=by simp
  by_cases hw:ws=[]
  · exact concat_meets ⟨_,ho,rfl⟩ ⟨_,ho2,rfl⟩ noFill_tuple_add seq_tuple_add PySem.F.slot_tuple_add PySem.F.entry_tuple_add (PySem.F.args_tuple_add_2 _ _)
      (tuple_addW1 t b vs.toArray ws.toArray n n2 dd dd2 sl sl2 (by simpa using hv) (by simp[hw])) ⟨ho,ho2,h1 hw⟩
  · refine concat_meets ⟨_,ho,rfl⟩ ⟨_,ho2,rfl⟩ noFill_tuple_add seq_tuple_add PySem.F.slot_tuple_add PySem.F.entry_tuple_add (PySem.F.args_tuple_add_2 _ _)
      (tuple_addW2 t b vs.toArray ws.toArray n n2 dd dd2 sl sl2 (by simpa using hv) (by simpa using hw) (by rw[List.size_toArray,List.size_toArray];exact hsz)) ⟨ho,ho2,?_⟩
    rw[e]
    exact h2 hw
def sIx (n d:Nat):Option Int→Nat
  | none=>d
  | some v=>if v < 0 then (v+(n:Int)).toNat else min v.toNat n
theorem qN (n d:Nat):sIx n d none=d:=rfl
theorem vR (n d k:Nat):sIx n d (some (k:Int))=min k n:=by
  show (if (k:Int) < 0 then ((k:Int)+(n:Int)).toNat else min (k:Int).toNat n)=min k n
  rw[if_neg (by omega),Int.toNat_natCast]
theorem Ft (n d:Nat)(hd:d≤n)(o:Option Int):sIx n d o≤n:=by
  cases o with
  | none=>exact hd
  | some v=>
    show (if v < 0 then (v+(n:Int)).toNat else min v.toNat n)≤n
    by_cases hv:v < 0
    · rw[if_pos hv];omega
    · rw[if_neg hv];exact Nat.min_le_right _ _
theorem wc (v:Int)(n d:Nat):(if v < 0 then max (v+(n:Int)) 0 else min v (n:Int))=((sIx n d (some v):Nat):Int):=by
  show (if v < 0 then max (v+(n:Int)) 0 else min v (n:Int))=(((if v < 0 then (v+(n:Int)).toNat else min v.toNat n):Nat):Int)
  by_cases hv:v < 0
  · simp only[if_pos hv];omega
  · simp only[if_neg hv];omega
theorem vj (lo hi:Option Int)(n:Nat):Builtin.Slice.sliceAdjust lo hi 1 (n:Int)=(((sIx n 0 lo:Nat):Int),((sIx n n hi:Nat):Int)):=by
  have h1:¬ ((1:Int) < 0):=by omega
  unfold Builtin.Slice.sliceAdjust
  simp only[h1,if_false]
  refine Prod.ext ?_ ?_
  · cases lo with
    | none=>rfl
    | some v=>exact wc v n 0
  · cases hi with
    | none=>rfl
    | some v=>exact wc v n n
theorem tO (i j:Nat):Builtin.Slice.slicePlaces (i:Int) (j:Int) 1=j - i:=by
  unfold Builtin.Slice.slicePlaces
  have h1:(1:Int) > 0:=by omega
  simp only[h1,if_true,Int.ediv_one]
  split<;>omega
theorem kA {v:Value}{o:Option Int}{Q:Option Int→Shared→Prop}(p:IsPart v o)(h:Q o s):wpAny (model prog w) A (Builtin.Slice.slicePartIndex v) Q E s:=by
  cases p with
  | none=>exact slicePart_none h
  | int i t=>exact slicePart_int h
theorem eh {sl:Addr}{vl vu:Value}{lo hi:Option Int}{n:Nat}{Q:Int×Int×Nat→Shared→Prop}(hs:s.heap.IsSliceOf sl vl vu .none)(pl:IsPart vl lo)(pu:IsPart vu hi)
    (h:Q (((sIx n 0 lo:Nat):Int),1,sIx n n hi - sIx n 0 lo) s):wpAny (model prog w) A (Builtin.Slice.sliceApplied (.ref sl) (pure (n:Int))) Q E s:=by
  obtain ⟨os,hos,hcs,hds⟩:=id hs
  unfold Builtin.Slice.sliceApplied Builtin.Slice.sliceFields
  refine wpAny_bind (wpAny_bind (wpAny_field hos hds (x:=vl) rfl (wpAny_bind (wpAny_field hos hds (x:=vu) rfl (wpAny_bind (wpAny_field hos hds (x:=.none) rfl (wpAny_pure ?_)))))))
  refine wpAny_bind (slicePart_none ?_)
  show wpAny _ _ (if ((1:Int) == 0)=true then _ else _) _ _ s
  rw[if_neg (by decide)]
  refine wpAny_bind (kA pl (wpAny_bind (kA pu (wpAny_bind (wpAny_pure ?_)))))
  show wpAny _ _ (match Builtin.Slice.sliceAdjust lo hi 1 (n:Int) with | (lo,hi)=>pure (lo,(1:Int),Builtin.Slice.slicePlaces lo hi 1)) _ _ s
  rw[vj lo hi n]
  show wpAny _ _ (pure (((sIx n 0 lo:Nat):Int),(1:Int),Builtin.Slice.slicePlaces ((sIx n 0 lo:Nat):Int) ((sIx n n hi:Nat):Int) 1)) _ _ s
  rw[tO]
  exact wpAny_pure h
theorem As (xs:Array Value)(i k:Nat):((List.range k).filterMap fun (m:Nat)=>xs[((i:Int)+(m:Int)*1).toNat]?).toArray=((xs.toList.drop i).take k).toArray:=by
  have e:(fun (m:Nat)=>xs[((i:Int)+(m:Int)*1).toNat]?)=fun m=>xs[i+m]?:=by
    funext m
    have:((i:Int)+(m:Int)*1).toNat=i+m:=by omega
    rw[this]
  rw[e]
  have:=pick_run xs i k
  rw[List.filterMap_map] at this
  have e2:((fun x=>xs[x]?) ∘ fun x=>i+x)=fun m=>xs[i+m]?:=rfl
  rw[e2] at this
  rw[this]
theorem iw {t sl:Addr}{items:Array Value}{vl vu:Value}{lo hi:Option Int}{Q:Value→Shared→Prop}(ht:IsTup s.heap t items)(hs:s.heap.IsSliceOf sl vl vu .none)(pl:IsPart vl lo)(pu:IsPart vu hi)
    (hw:¬ (sIx items.size 0 lo=0∧sIx items.size items.size hi=items.size))
    (h:Q (.ref s.heap.objs.size) { s with heap:=s.heap.push { cls:=.type "tuple", data:=.seq ((items.toList.drop (sIx items.size 0 lo)).take (sIx items.size items.size hi - sIx items.size 0 lo)).toArray } })
    (hsz:items.size≤sizeLine):wpAny (model prog w) A (getItem (.ref t) (.ref sl)) Q E s:=by
  have vW:sizeOk (.seq ((items.toList.drop (sIx items.size 0 lo)).take (sIx items.size items.size hi - sIx items.size 0 lo)).toArray):=by
    show ((items.toList.drop (sIx items.size 0 lo)).take (sIx items.size items.size hi - sIx items.size 0 lo)).toArray.size≤sizeLine
    rw[List.size_toArray,List.length_take,List.length_drop,Array.length_toList]
    omega
  have hj:sIx items.size items.size hi≤items.size:=Ft _ _ (Nat.le_refl _) hi
  obtain ⟨os,hos,hcs,hds⟩:=id hs
  have hTs:s.TypeIs (.ref sl) "slice" := ⟨os,hos,hcs⟩
  unfold getItem
  try with_reducible refine wpAny_holding ?_
  first | refine wpAny_bind (wpAny_pure ?_) | skip
  refine wpAny_bind (wpAny_sequenceKey ht.typeIs (by decide) ?_)
  refine wpAny_bind (wpAny_callSpecial?_slot (name:=Str.ofString "__getitem__") ht.typeIs PyProof.Rows.slot_tuple_getitem
    (wpAny_call_entry PyProof.Rows.slot_tuple_getitem ht.typeIs entry_tuple_getitem ?_ (args_tuple_getitem _ _)))
  show wpAny _ _ (Builtin.Tuple.tupleItemsOf (.ref t) >>= _) _ _ s
  refine wpAny_bind (tupleItemsOf_ ht ?_)
  refine wpAny_bind (wpAny_typeOf hTs ?_)
  rw[if_pos (by decide)]
  refine wpAny_bind (eh hs pl pu ?_)
  have hno:¬ ((((sIx items.size 0 lo:Nat):Int) == 0&&(1:Int) == 1&&(sIx items.size items.size hi - sIx items.size 0 lo) == items.size)=true):=by
    intro q
    rw[Bool.and_eq_true,Bool.and_eq_true] at q
    have q1:((sIx items.size 0 lo:Nat):Int)=0:=eq_of_beq q.1.1
    have q2:sIx items.size items.size hi - sIx items.size 0 lo=items.size:=eq_of_beq q.2
    exact hw ⟨by omega,by omega⟩
  show wpAny _ _ (if (((sIx items.size 0 lo:Nat):Int) == 0&&(1:Int) == 1&&(sIx items.size items.size hi - sIx items.size 0 lo) == items.size)=true then _ else _) _ _ s
  rw[if_neg hno,As]
  first
    | exact wpAny_bind (m:=Builtin.Tuple.tupleExact _) (wpAny_newObj_type (wpAny_pure ⟨_,rfl,wpAny_pure h⟩) vW)
    | exact wpAny_bind (m:=Builtin.Tuple.tupleExact _) (wpAny_newObj_type (wpAny_bind (wpAny_pure (wpAny_pure ⟨_,rfl,wpAny_pure h⟩))) vW)
    | exact wpAny_bind (wpAny_bind (m:=Builtin.Tuple.tupleExact _) (wpAny_newObj_type (wpAny_pure (wpAny_pure ⟨_,rfl,wpAny_pure h⟩)) vW))
    | exact wpAny_bind (wpAny_bind (m:=Builtin.Tuple.tupleExact _) (wpAny_newObj_type (wpAny_pure ⟨_,rfl,wpAny_pure h⟩) vW))
end
end HT
namespace L2
open PySem PySem.Spec PyProof.Rows
abbrev TO:=St→Hp→(Option Int→Hp→Prop)→Prop
def PO (X:Cx)(e:Option Expr)(t:TO):Prop:=
  ∀ (pins:List (Addr×Obj)) (s:Shared) (σ:St) (H:Hp) (Q:Option Int→Hp→Prop),Inv X pins σ H s→t σ H Q→
    wpAny (model X.prog X.w) X.A (evalPart e X.env) (fun u s'=>∃ o H',Inv X pins σ H' s'∧IsPart u o∧Q o H') X.xe s
def C2:TO:=fun _ H Q=>Q none H
def JK (t:TE):TO:=fun σ H Q=>t σ H fun x H1=>∃ i,x=.int i∧Q (some i) H1
theorem intsAre_of {ns:List Int}:∀ {us:List Value},Vals (ns.map V.int) us→IntsAre us ns:=by
  induction ns with
  | nil=>intro us r;rw[List.map_nil] at r;cases r;exact .nil
  | cons n ns ih=>
    intro us r
    rw[List.map_cons] at r
    cases r with
    | cons r1 r2=>
      obtain ⟨t,e⟩:=r1
      subst e
      exact .cons n t (ih r2)
section
variable {X:Cx} {e:Expr} {te:TE} {lo hi:Option Expr} {tl th:TO} {pos p2:Pos}
theorem CU:PO X none C2:=by
  intro pins s σ H Q I h
  rw[evalPart_none]
  exact wpAny_pure ⟨none,H,I,.none,h⟩
theorem DQ (h:PE X e te):PO X (some e) (JK te):=by
  intro pins s σ H Q I hw
  rw[evalPart_some]
  refine thn (h pins s σ H _ I hw) fun u s1 ⟨x,H1,I1,r1,q1⟩=>?_
  obtain ⟨i,rfl,q⟩:=q1
  obtain ⟨t,rfl⟩:=r1
  exact ⟨some i,H1,I1,.int i t,q⟩
def SlR (X:Cx)(r:V→Option Int→Option Int→Hp→VK→Prop):Prop:=
  ∀ (pins:List (Addr×Obj)) (s:Shared) (σ:St) (H:Hp) (x:V) (v vl vu:Value) (lo hi:Option Int) (sl:Addr) (Q:VK),Inv X pins σ H s→RelV x v→s.heap.IsSliceOf sl vl vu .none→IsPart vl lo→IsPart vu hi→r x lo hi H Q→
    ∃ T id,typeLookup (.type T) "__getitem__" = pure (some (.builtin id))∧s.TypeIs v T∧wpAny (model X.prog X.w) X.A (getItem v (.ref sl)) (EP X pins σ Q) X.xe s
theorem SlR.or {r r':V→Option Int→Option Int→Hp→VK→Prop}(h:SlR X r)(h':SlR X r'):SlR X (fun x lo hi H Q=>r x lo hi H Q∨r' x lo hi H Q):=by
  intro pins s σ H x v vl vu lo hi sl Q I rx hs pl pu q
  rcases q with q | q
  · exact h pins s σ H x v vl vu lo hi sl Q I rx hs pl pu q
  · exact h' pins s σ H x v vl vu lo hi sl Q I rx hs pl pu q
def tSl (r:V→Option Int→Option Int→Hp→VK→Prop)(te:TE)(tl th:TO):TE:=fun σ H Q=>te σ H fun x H1=>tl σ H1 fun l H2=>th σ H2 fun u H3=>r x l u H3 Q
theorem sO {r:V→Option Int→Option Int→Hp→VK→Prop}(hr:SlR X r)(he:PE X e te)(hl:PO X lo tl)(hu:PO X hi th):PE X (.Subscript e (.Slice lo hi none p2) pos) (tSl r te tl th):=by
  intro pins s σ H Q I h
  refine Subscript_ (thn (he pins s σ H _ I h) fun v s1 ⟨x,H1,I1,r1,q1⟩=>?_)
  refine wpAny_Slice (thn (hl pins s1 σ H1 _ I1 q1) fun vl s2 ⟨l,H2,I2,pl,q2⟩=>thn (hu pins s2 σ H2 _ I2 q2) fun vu s3 ⟨u,H3,I3,pu,q3⟩=>?_)
  rw[evalPart_none]
  refine wpAny_pure ?_
  have I4:Inv X pins σ H3 { s3 with heap:=s3.heap.push { cls:=.type "slice", data:=.fields #[vl,vu,.none] } }:=I3.kept (t':=s3.toks) fun b ob q=>Heap.get?_push_of_some _ q
  obtain ⟨T,id,hT,ht,hg⟩:=hr pins { s3 with heap:=s3.heap.push { cls:=.type "slice", data:=.fields #[vl,vu,.none] } } σ H3 x v vl vu l u s3.heap.objs.size Q I4 r1 (Heap.IsSliceOf.new ..) pl pu q3
  show wpAny (model X.prog X.w) X.A (subscriptTail e (.Slice lo hi none p2) v (.ref s3.heap.objs.size)) (EP X pins σ Q) X.xe { s3 with heap:=s3.heap.push { cls:=.type "slice", data:=.fields #[vl,vu,.none] } }
  exact tail_any (ops:=[.ref s3.heap.objs.size,v]) ht hT hg (by with_unfolding_all rfl)
def sG (xs:List V)(lo hi:Option Int):List V:=(xs.drop (HT.sIx xs.length 0 lo)).take (HT.sIx xs.length xs.length hi - HT.sIx xs.length 0 lo)
theorem jr (xs:List V)(lo hi:Option Int):(sG xs lo hi).length≤xs.length:=by
  unfold sG
  rw[List.length_take,List.length_drop]
  omega
def Kz (K:PySem.W.Frag):V→Option Int→Option Int→Hp→VK→Prop:=fun x lo hi H Q=>∃ a xs,x=.ref a∧SqT K H a xs∧
  ¬ (HT.sIx xs.length 0 lo=0∧HT.sIx xs.length xs.length hi=xs.length)∧∀ p,H p=none→Q (.ref p) (upd H p (.tup (sG xs lo hi)))
theorem Gp:SlR X (Kz X.K):=by
  intro pins s σ H x v vl vu lo hi sl Q I rx hs pl pu h
  obtain ⟨a,xs,rfl,hx,hw,q⟩:=h
  cases rx
  obtain ⟨its,r,ht,hz⟩:=I.tuple hx
  have hlen:its.toArray.size=xs.length:=by rw[List.size_toArray];exact r.length.symm
  refine ⟨"tuple", _,PyProof.Rows.slot_tuple_getitem.lookup,ht.typeIs,?_⟩
  refine HT.iw ht hs pl pu (by rw[hlen];exact hw) ?_ (by rw[hlen];exact hz)
  rw[hlen]
  refine ⟨.ref s.heap.objs.size,_,I.laid (t':=s.toks) (o:=.tup (sG xs lo hi)) (fun b ob q=>Heap.get?_push_of_some _ q) (Nat.le_refl _) ?_,rfl,q _ (I.hok.fresh (Nat.le_refl _))⟩
  exact ⟨Nat.le_trans (jr xs lo hi) hz,_,(r.drop (HT.sIx xs.length 0 lo)).take (HT.sIx xs.length xs.length hi - HT.sIx xs.length 0 lo),qT.new _ _⟩
def E2 (K:PySem.W.Frag):R2:=fun x y H Q=>∃ a b xs ys,x=.ref a∧y=.ref b∧SqT K H a xs∧SqT K H b ys∧xs≠[]∧xs.length+ys.length≤sizeLine∧
  (ys=[]→Q (.ref a) H)∧(ys≠[]→∀ p,H p=none→Q (.ref p) (upd H p (.tup (xs++ys))))
theorem Vals.qC {xs:List V}{us:List Value}(r:Vals xs us):us=[]↔xs=[]:=by
  cases r with
  | nil=>simp
  | cons _ _=>simp
theorem El:OpR X (binaryOp .Add) (E2 X.K):=by
  intro pins s σ H x y v u Q I rx ry h
  obtain ⟨a,b,xs,ys,rfl,rfl,ha,hb,hx,hz,q1,q2⟩:=h
  cases rx
  cases ry
  obtain ⟨its,r1,p1,_⟩:=I.tuple ha
  obtain ⟨its2,r2,p2,_⟩:=I.tuple hb
  refine HT.Cr p1 p2 (fun z=>hx (r1.qC.mp z)) (fun z=>⟨.ref a,H,I,rfl,q1 (r2.qC.mp z)⟩) (fun z=>?_) (by rw[← r1.length,← r2.length];exact hz)
  refine ⟨.ref s.heap.objs.size,_,I.laid (t':=s.toks) (o:=.tup (xs++ys)) (fun b ob q=>Heap.get?_push_of_some _ q) (Nat.le_refl _) ?_,rfl,q2 (fun w=>z (r2.qC.mpr w)) _ (I.hok.fresh (Nat.le_refl _))⟩
  exact ⟨by rw[List.length_append];exact hz,_,r1.append r2,qT.new _ _⟩
end
end L2
namespace L2
open PySem PySem.Spec PyProof.Rows
def ixN (n:Nat)(i:Int):Option Nat:=if 0≤i then (if i < n then some i.toNat else none) else if -(n:Int)≤i then some (i+n).toNat else none
def atI {α:Type}(xs:List α)(i:Int):Option α:=(ixN xs.length i).bind fun j=>xs[j]?
theorem vC {n:Nat}{i:Int}{j:Nat}(h:ixN n i=some j):seqIndex? i n=some j∧j < n∧-(n:Int)≤i∧i < n:=by
  unfold ixN at h
  by_cases h0:0≤i
  · rw[if_pos h0] at h
    by_cases h1:i < n
    · rw[if_pos h1] at h
      have e:i.toNat=j:=Option.some.inj h
      exact ⟨by rw[seqIndex_of h0 h1,e],by omega,by omega,h1⟩
    · rw[if_neg h1] at h;cases h
  · rw[if_neg h0] at h
    by_cases h1:-(n:Int)≤i
    · rw[if_pos h1] at h
      have e:(i+n).toNat=j:=Option.some.inj h
      exact ⟨by rw[seqIndex_neg (by omega) h1,e],by omega,h1,by omega⟩
    · rw[if_neg h1] at h;cases h
theorem pQ {α:Type}{xs:List α}{i:Int}{v:α}(h:atI xs i=some v):∃ j,seqIndex? i xs.length=some j∧xs[j]? = some v∧j < xs.length∧-(xs.length:Int)≤i∧i < xs.length:=by
  unfold atI at h
  cases e:ixN xs.length i with
  | none=>rw[e] at h;cases h
  | some j=>
    rw[e] at h
    obtain ⟨h1,h2,h3,h4⟩:=vC e
    exact ⟨j,h1,h,h2,h3,h4⟩
def kd (b:Expr):Prop:=∀ o i,subscripted b false o i=operate [o,i] (getItem o i)
def IxR (X:Cx)(r:R2):Prop:=
  ∀ (value slice:Expr) (pins:List (Addr×Obj)) (s:Shared) (σ:St) (H:Hp) (x y:V) (v u:Value) (Q:VK),Inv X pins σ H s→RelV x v→RelV y u→r x y H Q→
    subscripted slice false v u=operate [v,u] (getItem v u)→wpAny (model X.prog X.w) X.A (subscriptTail value slice v u) (EP X pins σ Q) X.xe s
def MtR (X:Cx)(id:String)(r:V→List V→Hp→VK→Prop):Prop:=
  ∀ (pins:List (Addr×Obj)) (s:Shared) (σ:St) (H:Hp) (x:V) (xs:List V) (v:Value) (us:List Value) (Q:VK),Inv X pins σ H s→RelV x v→Vals xs us→r x xs H Q→
    wpAny (model X.prog X.w) X.A (call (.builtin id) (v::us)) (EP X pins σ Q) X.xe s
section
variable {X:Cx} {a b:Expr} {ta tb:TE} {pos:Pos}
theorem IxR.or {r r':R2}(h:IxR X r)(h':IxR X r'):IxR X (fun x y H Q=>r x y H Q∨r' x y H Q):=by
  intro value slice pins s σ H x y v u Q I rx ry q hs
  rcases q with q | q
  · exact h value slice pins s σ H x y v u Q I rx ry q hs
  · exact h' value slice pins s σ H x y v u Q I rx ry q hs
theorem MtR.or {id:String}{r r':V→List V→Hp→VK→Prop}(h:MtR X id r)(h':MtR X id r'):MtR X id (fun x xs H Q=>r x xs H Q∨r' x xs H Q):=by
  intro pins s σ H x xs v us Q I rx rs q
  rcases q with q | q
  · exact h pins s σ H x xs v us Q I rx rs q
  · exact h' pins s σ H x xs v us Q I rx rs q
theorem zU {r:R2}(hr:IxR X r)(ha:PE X a ta)(hb:PE X b tb)(hs:kd b):PE X (.Subscript a b pos) (tOp r ta tb):=by
  intro pins s σ H Q I h
  exact Subscript_ (F6 ha hb I h fun v u s2 x y H2 I2 rx ry q=>hr a b pins s2 σ H2 x y v u Q I2 rx ry q (hs _ _))
def IK (K:PySem.W.Frag):R2:=fun x y H Q=>∃ p xs i v,x=.ref p∧y=.int i∧SqL K H p xs∧atI xs i=some v∧Q v H
def Jw (K:PySem.W.Frag):R2:=fun x y H Q=>∃ p xs i v,x=.ref p∧y=.int i∧SqT K H p xs∧atI xs i=some v∧Q v H
def Ii:R2:=fun x y H Q=>∃ z i c,x=.str z∧y=.int i∧z.length≤sizeLine∧atI z.cps.toList i=some c∧Q (.str ⟨#[c]⟩) H
theorem DC:IxR X (IK X.K):=by
  intro value slice pins s σ H x y v u Q I rx ry h hs
  obtain ⟨p,xs,i,z,rfl,rfl,hq,he,q⟩:=h
  cases rx
  obtain ⟨t,rfl⟩:=ry
  obtain ⟨its,r,pl,hz⟩:=I.list hq
  obtain ⟨j,h1,h2,h3,h4,h5⟩:=pQ he
  obtain ⟨w,ew,rw'⟩:=r.get h2
  have hl:=r.length
  have hn:=iX
  have fin:EP X pins σ Q w s:=⟨z,H,I,rw',q⟩
  by_cases h0:0≤i
  · have hj:i.toNat=j:=by
      rw[seqIndex_of h0 h5] at h1
      exact Option.some.inj h1
    exact item_listR pl.isList h0 (by omega) (by rw[hj];simpa using ew) fin hs
  · have hj:(i+(its.toArray.size:Int)).toNat=j:=by
      rw[seqIndex_neg (by omega) h4] at h1
      rw[List.size_toArray,← hl]
      exact Option.some.inj h1
    exact subscriptTail_builtinR (x:=w) pl.isList.typeIs slot_list_getitem.lookup
      (wpAny_getItem_list_neg (Q:=fun r s'=>r=w∧EP X pins σ Q r s') pl.isList (by omega) (by rw[List.size_toArray]<;>omega) (by omega) (by rw[hj];simpa using ew) ⟨rfl,fin⟩) hs
theorem Gq:IxR X (Jw X.K):=by
  intro value slice pins s σ H x y v u Q I rx ry h hs
  obtain ⟨p,xs,i,z,rfl,rfl,hq,he,q⟩:=h
  cases rx
  obtain ⟨t,rfl⟩:=ry
  obtain ⟨its,r,pl,hz⟩:=I.tuple hq
  obtain ⟨j,h1,h2,h3,h4,h5⟩:=pQ he
  obtain ⟨w,ew,rw'⟩:=r.get h2
  have hl:=r.length
  have hn:=iX
  have fin:EP X pins σ Q w s:=⟨z,H,I,rw',q⟩
  exact subscriptTail_builtinR (x:=w) pl.typeIs slot_tuple_getitem.lookup
    (getItem_tuple (j:=j) (Q:=fun r s'=>r=w∧EP X pins σ Q r s') pl (by omega) (by omega) (by rw[List.size_toArray,← hl];exact h1) (by simpa using ew) ⟨rfl,fin⟩) hs
theorem zT:IxR X Ii:=by
  intro value slice pins s σ H x y v u Q I rx ry h hs
  obtain ⟨z,i,c,rfl,rfl,hz,he,q⟩:=h
  obtain ⟨t,rfl⟩:=rx
  obtain ⟨t',rfl⟩:=ry
  obtain ⟨j,h1,h2,h3,h4,h5⟩:=pQ he
  have hl:z.cps.toList.length=z.length:=by simp[Str.length]
  rw[hl] at h1 h4 h5
  have hn:=iX
  exact tail_any (typeIs_str s z t) slot_str_getitem.lookup (getItem_str (c:=c) (by
    have e1:decide (i < -(2 ^ 63:Int))=false:=decide_eq_false (by omega)
    have e2:decide (i ≥ 2 ^ 63)=false:=decide_eq_false (by omega)
    rw[e1,e2,Bool.or_false]) (by rw[h1];simpa using h2) ⟨.str ⟨#[c]⟩,H,I.tok _,⟨_,rfl⟩,q⟩) hs
def rIx (K:PySem.W.Frag):R2:=fun x y H Q=>IK K x y H Q∨Jw K x y H Q∨Ii x y H Q
theorem yt:IxR X (rIx X.K):=DC.or (Gq.or zT)
theorem uB (its:List Value)(n j:Nat)(u:Value):Obj.mapSeq (·.setIfInBounds j u) { cls:=.type "list", data:=.seq its.toArray n }={ cls:=.type "list", data:=.seq (its.set j u).toArray n }:=by
  simp[Obj.mapSeq]
theorem Inv.lst {pins:List (Addr×Obj)}{σ:St}{H:Hp}{s:Shared}{p:Addr}{xs:List V}(I:Inv X pins σ H s)(h:H p=some (.lst xs)) :
    ∃ (its:List Value) (n:Nat),Vals xs its∧s.heap.get? p=some { cls:=.type "list", data:=.seq its.toArray n }∧xs.length≤sizeLine:=by
  obtain ⟨z,its,n,r,e⟩:=I.hok p _ h
  exact ⟨its,n,r,e,z⟩
theorem Inv.Hf {pins:List (Addr×Obj)}{σ:St}{H:Hp}{s:Shared}{p:Addr}{xs ys:List V}{its its':List Value}{n n':Nat}{f:Obj→Obj}(I:Inv X pins σ H s)(h:H p=some (.lst xs))
    (ho:s.heap.get? p=some { cls:=.type "list", data:=.seq its.toArray n }) (hf:f { cls:=.type "list", data:=.seq its.toArray n }={ cls:=.type "list", data:=.seq its'.toArray n' }) (r:Vals ys its') (hz:ys.length≤sizeLine) (t:Nat) :
    Inv X pins σ (upd H p (.lst ys)) { s with heap:=s.heap.update p f,toks:=t }:=by
  have e:(s.heap.update p f).get? p=some { cls:=.type "list", data:=.seq its'.toArray n' }:=by
    rw[Heap.get?_update_self f ho (by rw[hf]<;>rfl),hf]
  refine I.write (x:=p) (e:=p) (by rw[h];trivial) (.inl rfl) (fun b u hb q=>(Heap.get?_update_other _ _ (Ne.symm hb)).trans q) ⟨_,e⟩ ?_
  exact ⟨hz,its',n',r,e⟩
def JL:V→V→V→Hp→(Hp→Prop)→Prop:=fun o i v H Q=>∃ p xs k j,o=.ref p∧i=.int k∧H p=some (.lst xs)∧ixN xs.length k=some j∧Q (upd H p (.lst (xs.set j v)))
theorem set_list:Je X JL:=by
  intro pins s σ H o i v ov iv u Q I ro ri rv h
  obtain ⟨p,xs,k,j,rfl,rfl,hp,hj,q⟩:=h
  cases ro
  obtain ⟨t,rfl⟩:=ri
  obtain ⟨its,n,r,ho,hz⟩:=I.lst hp
  obtain ⟨h1,h2,h3,h4⟩:=vC hj
  have hl:=r.length
  have hn:=iX
  have I':Inv X pins σ (upd H p (.lst (xs.set j v))) { s with heap:=s.heap.update p (Obj.mapSeq (·.setIfInBounds j u)) }:=
    I.Hf hp ho (uB its n j u) (r.set rv j) (by rw[List.length_set];exact hz) s.toks
  by_cases h0:0≤k
  · have hk:k.toNat=j:=by
      rw[seqIndex_of h0 h4] at h1
      exact Option.some.inj h1
    exact PySem.W.ki_setAt ho h0 (by omega) (by rw[List.size_toArray,← hl];exact h4) (by rw[hk];exact ⟨_,I',q⟩)
  · have hk:(k+(its.toArray.size:Int)).toNat=j:=by
      rw[seqIndex_neg (by omega) h3] at h1
      rw[List.size_toArray,← hl]
      exact Option.some.inj h1
    exact PySem.W.ki_setBack ho (by omega) (by rw[List.size_toArray,← hl];exact h3) (by omega) (by rw[hk];exact ⟨_,I',q⟩)
theorem pV (lo hi:Option Int)(n:Nat):(sliceBounds lo hi none n).1=((HT.sIx n 0 lo:Nat):Int)∧(sliceBounds lo hi none n).2.1=((HT.sIx n n hi:Nat):Int)∧(sliceBounds lo hi none n).2.2=1:=by
  refine ⟨?_,?_,rfl⟩
  · cases lo with
    | none=>simp[sliceBounds,HT.sIx]
    | some i=>
      simp only[sliceBounds,HT.sIx,Option.getD_none,show (1:Int) > 0 by decide,if_true]
      by_cases h:i < 0
      · simp only[h,if_true]<;>omega
      · simp only[h,if_false]<;>omega
  · cases hi with
    | none=>simp[sliceBounds,HT.sIx]
    | some i=>
      simp only[sliceBounds,HT.sIx,Option.getD_none,show (1:Int) > 0 by decide,if_true]
      by_cases h:i < 0
      · simp only[h,if_true]<;>omega
      · simp only[h,if_false]<;>omega
theorem mL (its:List Value)(lo hi:Option Int):slicePick its.toArray lo hi none=((its.drop (HT.sIx its.length 0 lo)).take (HT.sIx its.length its.length hi - HT.sIx its.length 0 lo)).toArray:=by
  obtain ⟨h1,h2,h3⟩:=pV lo hi its.toArray.size
  unfold slicePick
  rw[h1,h2,h3]
  simp only[sliceRange_one,pick_run,List.size_toArray]<;>rfl
def Lv (K:PySem.W.Frag):V→Option Int→Option Int→Hp→VK→Prop:=fun x lo hi H Q=>∃ a xs,x=.ref a∧SqL K H a xs∧∀ p,H p=none→Q (.ref p) (upd H p (.lst (sG xs lo hi)))
theorem DD:SlR X (Lv X.K):=by
  intro pins s σ H x v vl vu lo hi sl Q I rx hs pl pu h
  obtain ⟨a,xs,rfl,hx,q⟩:=h
  cases rx
  obtain ⟨its,r,ht,hz⟩:=I.list hx
  have hlen:=r.length
  refine ⟨"list", _,slot_list_getitem.lookup,ht.isList.typeIs,?_⟩
  refine wpAny_getItem_list_slice ht.isList hs pl pu .none (by simp) ?_ (by rw[List.size_toArray]<;>omega)
  rw[mL,← hlen]
  refine ⟨.ref s.heap.objs.size,_,I.laid (t':=s.toks) (o:=.lst (sG xs lo hi)) (fun b ob q=>Heap.get?_push_of_some _ q) (Nat.le_refl _) ?_,rfl,q _ (I.hok.fresh (Nat.le_refl _))⟩
  exact ⟨Nat.le_trans (jr xs lo hi) hz,_,0,(r.drop (HT.sIx xs.length 0 lo)).take (HT.sIx xs.length xs.length hi - HT.sIx xs.length 0 lo),Heap.get?_push_size _ rfl⟩
def E5:V→Bool
  | .non=>true
  | .bl _=>true
  | .int _=>true
  | .str _=>true
  | _=>false
def eqV:V→V→Bool
  | .non,.non=>true
  | .bl a,.bl b=>a == b
  | .bl a,.int b=>(if a then 1 else 0) == b
  | .int a,.bl b=>a == (if b then 1 else 0)
  | .int a,.int b=>a == b
  | .str a,.str b=>a == b
  | _,_=>false
def inV (x:V)(xs:List V):Bool:=xs.any fun y=>eqV y x
def rIn (K:PySem.W.Frag)(neg:Bool):R2:=fun x y H Q=>∃ p xs,y=.ref p∧(SqL K H p xs∨SqT K H p xs)∧E5 x=true∧xs.all E5=true∧Q (.bl (if neg then !inV x xs else inV x xs)) H
theorem pB:bG X (.builtin "len") (fun xs H Q=>∃ p ys,xs=[.ref p]∧(SqL X.K H p ys∨SqT X.K H p ys)∧Q (.int ys.length) H):=by
  intro pins s σ H xs us Q I r h
  obtain ⟨p,ys,rfl,hq,q⟩:=h
  obtain ⟨u,rfl,rx⟩:=vals1 r
  cases rx
  have hn:=iX
  rcases hq with hq | hq
  · obtain ⟨its,r',pl,hz⟩:=I.list hq
    have hlen:=r'.length
    exact Calls.call_len_list pl.isList (by simp only[List.size_toArray]<;>omega) ⟨.int ys.length,H,I.tok _,⟨s.toks+1,by rw[List.size_toArray,hlen]⟩,q⟩
  · obtain ⟨its,r',pl,hz⟩:=I.tuple hq
    have hlen:=r'.length
    exact len_tuple pl (by simp only[List.size_toArray]<;>omega) ⟨.int ys.length,H,I.tok _,⟨s.toks+1,by rw[List.size_toArray,hlen]⟩,q⟩
theorem oS:bG X (.builtin "len") (fun xs H Q=>∃ z,xs=[.str z]∧z.length≤sizeLine∧Q (.int z.length) H):=by
  intro pins s σ H xs us Q I r h
  obtain ⟨z,rfl,hz,q⟩:=h
  obtain ⟨u,rfl,t,rfl⟩:=vals1 r
  have hn:=iX
  exact len_str (by omega) ⟨.int z.length,H,I.tok _,⟨_,rfl⟩,q⟩
theorem bG.or {f:Value}{r r':List V→Hp→VK→Prop}(h:bG X f r)(h':bG X f r'):bG X f (fun xs H Q=>r xs H Q∨r' xs H Q):=by
  intro pins s σ H xs us Q I rs q
  rcases q with q | q
  · exact h pins s σ H xs us Q I rs q
  · exact h' pins s σ H xs us Q I rs q
theorem cC:bG X (.type "tuple") (fun xs H Q=>∃ p ys,xs=[.ref p]∧((SqL X.K H p ys∧∀ l,H l=none→Q (.ref l) (upd H l (.tup ys)))∨(SqT X.K H p ys∧Q (.ref p) H))):=by
  intro pins s σ H xs us Q I r h
  obtain ⟨p,ys,rfl,h⟩:=h
  obtain ⟨u,rfl,rx⟩:=vals1 r
  cases rx
  rcases h with ⟨hq,q⟩ | ⟨hq,q⟩
  · obtain ⟨its,r',pl,hz⟩:=I.list hq
    have hlen:=r'.length
    refine call_tuple_list pl.isList (fun h' kp=>?_) (by simp only[List.size_toArray]<;>omega)
    have I1:Inv X pins σ H { s with heap:=h' }:=I.kept (t':=s.toks) kp
    have I2:Inv X pins σ (upd H h'.objs.size (.tup ys)) { s with heap:=h'.push { cls:=.type "tuple", data:=.seq its.toArray } }:=
      I1.laid (t':=s.toks) (fun b o e=>Heap.get?_push_of_some _ e) (Nat.le_refl _) (show bU X.prog X.w _ _ _ (.tup ys) from ⟨hz,its,r',qT.new _ _⟩)
    exact ⟨.ref h'.objs.size,_,I2,rfl,q _ (I1.hok.fresh (Nat.le_refl _))⟩
  · obtain ⟨its,r',pl,hz⟩:=I.tuple hq
    exact call_tuple_same pl ⟨.ref p,H,I,rfl,q⟩
def tyV (K:PySem.W.Frag)(T:String)(x:V)(H:Hp):Prop:=match x with
  | .str _=>T = "str"
  | .int _=>T = "int"
  | .ref p=>(T = "list" ∧ ∃ xs,SqL K H p xs)∨(T = "tuple" ∧ ∃ o,K.lookup p=some o∧o.cls=.type "tuple" ∧ o.dict=none)∨
      (T = "dict" ∧ ((∃ kvs,H p=some (.dK kvs))∨∃ kvs,H p=some (.dT kvs)))∨(T = "set" ∧ ∃ S n,H p=some (.set S n))
  | _=>False
theorem Gk {pins:List (Addr×Obj)}{σ:St}{H:Hp}{s:Shared}{T:String}{x:V}{v:Value}(I:Inv X pins σ H s)(r:RelV x v)(ty:tyV X.K T x H) :
    s.TypeIs v T∧∀ a,v=.ref a→∃ ob,s.heap.get? a=some ob∧ob.dict=none:=by
  cases x with
  | str z=>
    obtain ⟨t,rfl⟩:=r
    cases (show T = "str" from ty)
    exact ⟨typeIs_str s z t,fun _ e=>nomatch e⟩
  | int i=>
    obtain ⟨t,rfl⟩:=r
    cases (show T = "int" from ty)
    exact ⟨typeIs_int s i t,fun _ e=>nomatch e⟩
  | ref p=>
    cases r
    rcases ty with ⟨rfl,xs,hq⟩ | ⟨rfl,o,hk,hc,hd⟩ | ⟨rfl,hk⟩ | ⟨rfl,S,n,hk⟩
    · obtain ⟨its,_,pl,_⟩:=I.list hq
      refine ⟨pl.isList.typeIs,fun a e=>?_⟩
      cases e
      obtain ⟨o,n,e,c,hd,_⟩:=pl
      exact ⟨o,e,hd⟩
    · refine ⟨⟨o,I.kIn p o hk,hc⟩,fun a e=>?_⟩
      cases e
      exact ⟨o,I.kIn _ o hk,hd⟩
    · have z:∃ o,s.heap.get? p=some o∧o.ExactDict:=by
        rcases hk with ⟨kvs,hk⟩ | ⟨kvs,hk⟩
        · obtain ⟨_,_,_,_,o,_,_,e,ex,_⟩:=I.hok p _ hk
          exact ⟨o,e,ex⟩
        · obtain ⟨_,_,_,_,o,_,_,e,ex,_⟩:=I.hok p _ hk
          exact ⟨o,e,ex⟩
      obtain ⟨o,e,ex⟩:=z
      refine ⟨⟨o,e,ex.1⟩,fun a e2=>?_⟩
      cases e2
      exact ⟨o,e,ex.2.1⟩
    · obtain ⟨o,_,_,_,e,ex,_⟩:=I.hok p _ hk
      refine ⟨⟨o,e,ex.1⟩,fun a e2=>?_⟩
      cases e2
      exact ⟨o,e,ex.2.1⟩
  | _=>exact False.elim ty
def tBM (K:PySem.W.Frag)(T:String)(r:V→List V→Hp→VK→Prop)(to:TE)(t:TA):TE:=fun σ H Q=>to σ H fun x H1=>tyV K T x H1∧t σ H1 fun xs H2=>r x xs H2 Q
variable {o e:Expr} {es:List Expr} {to:TE} {t:TA} {name:Str} {apos cpos:Pos} {T id:String} {r:V→List V→Hp→VK→Prop}
theorem Fc (pa:PlainAttrs T)(slot:Slot T name id)(hty:typeOf (.builtin id)=pure (.type "method_descriptor"))(hm:MtR X id r)(ho:PE X o to)(ha:PA X (e::es) t)
    (hbase:attributeBase o name X.env (eval o X.env)=eval o X.env:=by rfl)
    (hfew:((backTo cpos (starEach (e::es) X.env)).all (fun x=>!x.1)&&(backToKw cpos (keywordEach [] X.env)).all (fun x=>x.1.isSome)
      && decide ((e::es).length+([]:List Keyword).length+(if ([]:List Keyword).isEmpty then 0 else 1) < 30))=true:=by rfl)
    (hline:(apos.endLine == cpos.line)=true:=by rfl) (hs:starEach (e::es) X.env=(false,eval e X.env)::starEach es X.env:=by rfl) (hplain:(backTo cpos (starEach es X.env)).any (·.1)=false:=by rfl) :
    PE X (.Call (.Attribute o name apos) (e::es) [] cpos) (tBM X.K T r to t):=by
  intro pins s σ H Q I h
  refine wpAny_Call_method_late hbase hfew hline rfl (thn (ho pins s σ H _ I h) fun v s1 ⟨x,H1,I1,r1,ty,q1⟩=>?_)
  obtain ⟨h1,h2⟩:=Gk I1 r1 ty
  refine ⟨T,id,pa,slot,hty,h1,h2,?_⟩
  have hA:=ha cpos pins s1 σ H1 _ I1 q1
  rw[hs] at hA ⊢
  refine Calls.callWith_builtin (by show (false || (backTo cpos (starEach es X.env)).any (·.1))=false;rw[hplain]<;>rfl) (Calls.evalArgs_plain ?_)
  exact thn hA fun us s2 ⟨vs,H2,I2,r2,q2⟩=>hm pins s2 σ H2 x vs v us Q I2 r1 r2 q2
end
end L2
namespace L2
open PySem PySem.Spec PyProof.Rows
def MtM (X:Cx)(id:String)(r:V→List V→Hp→VK→Prop):Prop:=
  ∀ (pins:List (Addr×Obj)) (s:Shared) (σ:St) (H:Hp) (x:V) (xs:List V) (v:Value) (us:List Value) (Q:VK),Inv X pins σ H s→RelV x v→Vals xs us→r x xs H Q→
    wpAny (model X.prog X.w) X.A (call (.builtin id) (v::us)) (EP X pins σ Q) X.xe s
theorem Vals.one:∀ {x:V} {us:List Value},Vals [x] us→∃ u,us=[u]∧RelV x u
  | _,_,.cons r .nil=>⟨_,rfl,r⟩
theorem Vals.zero:∀ {us:List Value},Vals [] us→us=[]
  | _,.nil=>rfl
theorem Vals.eraseIdx:∀ {xs:List V} {us:List Value} (i:Nat),Vals xs us→Vals (xs.eraseIdx i) (us.eraseIdx i)
  | _,_,_,.nil=>.nil
  | _,_,0,.cons _ t=>t
  | _,_,i+1,.cons r t=>.cons r (Vals.eraseIdx i t)
theorem Vals.reverse {xs:List V}{us:List Value}(h:Vals xs us):Vals xs.reverse us.reverse:=by
  induction h with
  | nil=>exact .nil
  | cons r t ih=>rw[List.reverse_cons,List.reverse_cons];exact Vals.append ih (.cons r .nil)
theorem Vals.rep {xs:List V}{us:List Value}(h:Vals xs us):∀ k:Nat,Vals (List.replicate k xs).flatten (List.replicate k us).flatten
  | 0=>.nil
  | k+1=>by
    rw[List.replicate_succ,List.replicate_succ,List.flatten_cons,List.flatten_cons]
    exact Vals.append h (Vals.rep h k)
theorem nU {α:Type}:∀ (l:List α) (i:Nat),(l.eraseIdx i).length≤l.length
  | [],_=>Nat.le_refl _
  | _::_,0=>Nat.le_succ _
  | _::r,i+1=>Nat.succ_le_succ (nU r i)
section
variable {X:Cx} {pins:List (Addr×Obj)} {σ:St} {H:Hp} {s:Shared} {l b:Addr} {xs ys zs:List V}
theorem Inv.JW {its its':List Value}{n:Nat}{f:Array Value→Array Value}{t':Nat}(I:Inv X pins σ H s)(hH:H l=some (.lst xs))
    (e:s.heap.get? l=some { cls:=.type "list", data:=.seq its.toArray n }) (hf:f its.toArray=its'.toArray) (hv:Vals ys its') (hz:ys.length≤sizeLine) :
    Inv X pins σ (upd H l (.lst ys)) { s with heap:=s.heap.update l (Obj.mapSeq f),toks:=t' }:=by
  have q:=PySem.IsL.update e f
  rw[hf] at q
  refine I.write (x:=l) (e:=l) (by rw[hH];exact trivial) (.inl rfl) (fun b' u hb hu=>(Heap.get?_update_other s.heap (Obj.mapSeq f) (Ne.symm hb)).trans hu) ⟨_,q⟩ ?_
  exact ⟨hz,its',_,hv,q⟩
theorem Inv.K7 {its:List Value}{t':Nat}(I:Inv X pins σ H s)(hv:Vals ys its)(hz:ys.length≤sizeLine) :
    Inv X pins σ (upd H s.heap.objs.size (.lst ys)) { s with heap:=s.heap.push { cls:=.type "list", data:=.seq its.toArray },toks:=t' }:=
  I.laid (fun _ _ q=>Heap.get?_push_of_some _ q) (Nat.le_refl _) ⟨hz,its,0,hv,Heap.get?_push_size _ rfl⟩
theorem Inv.fresh (I:Inv X pins σ H s):H s.heap.objs.size=none:=I.hok.fresh (Nat.le_refl _)
theorem Inv.JM (I:Inv X pins σ H s)(hH:H l=some (.lst xs)):xs.length≤sizeLine∧∃ (its:List Value) (n:Nat),Vals xs its∧xs.length=its.length∧s.heap.get? l=some { cls:=.type "list", data:=.seq its.toArray n }:=by
  obtain ⟨z,its,n,r,e⟩:=I.hok l _ hH
  exact ⟨z,its,n,r,r.length,e⟩
end
section
variable {X:Cx}
def Cj:V→List V→Hp→VK→Prop:=fun x vs H Q=>∃ l xs y,x=.ref l∧vs=[y]∧H l=some (.lst xs)∧xs.length < sizeLine∧Q .non (upd H l (.lst (xs++[y])))
theorem nS:MtM X "list.append" Cj:=by
  intro pins s σ H x vs v us Q I rx rv h
  obtain ⟨l,xs,y,rfl,rfl,hH,hz,q⟩:=h
  cases rx
  obtain ⟨u,rfl,ru⟩:=rv.one
  obtain ⟨z,its,n,r,hl,e⟩:=I.JM hH
  refine call_meets F.slot_list_append ⟨_,e,rfl⟩ F.entry_list_append (F.args_list_append_2 _ _) (PySem.list_append l its.toArray n u (by rw[List.size_toArray];omega)) ⟨e,?_⟩
  refine ⟨.non,_,I.JW (its':=its++[u]) hH e (by simp) (r.append (.cons ru .nil)) ?_,rfl,q⟩
  rw[List.length_append,List.length_singleton]
  omega
def Hc:V→List V→Hp→VK→Prop:=fun x vs H Q=>∃ l xs i k y,x=.ref l∧vs=[.int i]∧H l=some (.lst xs)∧-(2 ^ 63)≤i∧i < 2 ^ 63∧seqIndex? i xs.length=some k∧xs[k]? = some y∧Q y (upd H l (.lst (xs.eraseIdx k)))
theorem zF:MtM X "list.pop" Hc:=by
  intro pins s σ H x vs v us Q I rx rv h
  obtain ⟨l,xs,i,k,y,rfl,rfl,hH,h1,h2,hk,hy,q⟩:=h
  cases rx
  obtain ⟨u,rfl,ru⟩:=rv.one
  obtain ⟨t,rfl⟩:=ru
  obtain ⟨z,its,n,r,hl,e⟩:=I.JM hH
  obtain ⟨w,hw,rw'⟩:=r.get hy
  refine call_meets F.slot_list_pop ⟨_,e,rfl⟩ F.entry_list_pop (F.args_list_pop_2 _ _)
    (MeetsSeq.list_pop_at l its.toArray n i t k w (fitsIndex_both h1 h2) (by rw[List.size_toArray,← hl];exact hk) (by rw[← Array.getElem?_toList];exact hw) (by rw[List.size_toArray];omega)) ⟨e,?_⟩
  refine ⟨y,_,I.JW (its':=its.eraseIdx k) hH e ?_ (r.eraseIdx k) ?_,rw',q⟩
  · show its.toArray.eraseIdxIfInBounds k=(its.eraseIdx k).toArray
    rw[List.eraseIdxIfInBounds_toArray]
  · have:=nU xs k
    omega
end
section
variable {prog:Program} {w:World} {A:Around} {E:Value→Shared→Prop} {s:Shared}
end
section
variable {X:Cx}
end
end L2
namespace Att
open PySem PySem.W PySem.Calls PyProof.Rows
theorem jS {P:Params}{h:Heap}:∀ (ns:List Int) (vs:List Value),WellAll P h vs (ns.map WData.int)→IntsAre vs ns:=by
  intro ns
  induction ns with
  | nil=>
    intro vs w
    rw[List.map_nil] at w
    cases w
    exact .nil
  | cons n ns ih=>
    intro vs w
    rw[List.map_cons] at w
    cases w with
    | cons a b=>
      cases a
      exact .cons _ _ (ih _ b)
theorem xB {l:OpenLaw}{n:Nat}(hn:l.most=some n){P:Params}{h:Heap}{args:List WData}{vals:List Value}
    (hpre:l.row.toRowW.claim.pre args=true) (hwl:WellAll P h vals args) :
    ∃ a vs ns,vals=[Value.ref a]∧args=[WData.list (ns.map WData.int)]∧h.get? a=some { cls:=.type "list", data:=.seq vs.toArray }∧IntsAre vs ns∧ns.length≤n:=by
  have hsh:WShape.hasAll [] args [.list .int]=true:=(pre_splitW hpre).1
  have hc:l.pre.holds [] { args:=args }=true:=(pre_splitW hpre).2
  obtain ⟨d,r,rfl,h1,h2⟩:=hasAllW_cons hsh
  obtain rfl:=hasAllW_nil h2
  obtain ⟨xs,rfl,h3⟩:=hasW_list h1
  obtain ⟨ns,rfl⟩:=items_int h3
  have hlen:ns.length≤n:=by
    unfold OpenLaw.pre at hc
    have h4:(WTm.not (.lt (.lit (.int (n:Int))) (.len (.arg 0)))).holds [] { args:=[.list (ns.map .int)] }=true:=by
      have h4:=(holds_andW hc).1
      rw[hn] at h4
      exact h4
    have h5:=condW_of h4 (w_not (w_lt w_lit (w_len_list (w_arg rfl))))
    rw[List.length_map] at h5
    refine Nat.le_of_not_lt fun q=>?_
    have q':(n:Int) < ((ns.length:Nat):Int):=by omega
    first
      | (rw[decide_eq_true q'] at h5;exact absurd h5 (by decide))
      | (simp at h5;omega)
  cases hwl with
  | cons w1 w2=>
    cases w2
    cases w1 with
    | list ho hall=>exact ⟨_,_,ns,rfl,rfl,ho,jS ns _ hall,hlen⟩
theorem wY (l:OpenLaw)(args:List WData):l.row.toRowW.claim.post args (.bool true) args=true:=
  postW_of (r:=l.row.toRowW) (X:=(true == true))
    (show WShape.has [] (.bool true) .bool=true by first | rfl | decide | simp[WShape.has,WShape.arms,WShape.armsAll])
    (show (WTm.eq .res (.lit (.bool true))).value [] { args:=args,res:=some (.bool true),after:=args }=some (.bool (true == true)) from w_eq_bool (w_res rfl) w_lit) rfl
theorem sx {l:OpenLaw}{n:Nat}{q:Program}{loose:List Str}{XP:(Str→Option Value)→Heap→Prop}{YP:World→Heap→Prop}{d:DefRec}
    (hn:l.most=some n) (hdf:d.params.defaults=[])
    (call:∀ (w:World) (s₀ s₁:Shared) (mg mb:Str→Option Value) (fa:Addr) (o:Obj) (pm cd doc:Value) (a:Addr) (vs:List Value) (ns:List Int),
      Ground q loose [] XP w s₀ mg mb s₁.heap→YP w s₁.heap→
      s₁.heap.get? fa=some o→o.data=.func (docDef d.name d.params d.body d.scope pm cd doc)→s₁.heap.CodeRec cd d.name→mg d.name=some (.ref fa)→
      s₁.heap.get? a=some { cls:=.type "list", data:=.seq vs.toArray }→IntsAre vs ns→ns.length≤n→s₁.gens = #[]→
      codeAny (model l.prog w) callerA (.call (.ref fa) ⟨[.ref a],[]⟩) (fun r s'=>r=.ok (.ret (.bool true))∧OldK s₁.heap s'.heap∧s'.os=s₁.os∧AllBare s'.gens) s₁) :
    WalkO q loose XP YP l.row.toRowW d [] (fun f vs=>PySem.call f vs):=by
  intro w s₀ s₁ mg mb G Y fa o pm cd doc dV kV ho hd hcd hD hmg hg args vals as hpre hlay hrd hwl hlo
  obtain rfl:dV=.none:=Dflts.none hD hdf
  obtain rfl:kV=.none:=Dflts.noKw hD
  obtain ⟨a,vs,ns,rfl,rfl,hobj,hints,hlen⟩:=xB hn hpre hwl
  refine enter_call (codeAny_mono (call w s₀ s₁ mg mb fa o pm cd doc a vs ns G Y ho (fd_plain hd) hcd hmg hobj hints hlen hg) fun r s' hq=>?_)
  obtain ⟨rfl,h2,h3,h4⟩:=hq
  exact ⟨.inl ⟨.bool true,.bool true,[],rfl,fun _=>rfl,.bool true,wY l _,fun _=>⟨List.Pairwise.nil,fun _ hm=>(nomatch hm)⟩⟩,h2,h3,h4⟩
section
variable {prog:Program} {w:World} {A:Around} {E:Value→Shared→Prop} {s:Shared} {K:Frag}
end
end Att
namespace L2
open PySem PySem.Spec PyProof.Rows
theorem oo:∀ {vs:List Value} {ns:List Int},IntsAre vs ns→Vals (ns.map V.int) vs
  | _,_,.nil=>.nil
  | _,_,.cons n t h=>.cons ⟨t,rfl⟩ (oo h)
def CG (H:Hp):Prop:=∀ b,H b=none∨∃ o xs,H b=some (.frz o (.lst xs))
theorem Bj {P:Program}{w:World}{K:PySem.W.Frag}{mg mb:Str→Option Value}{CX:CXT}{k:Nat}{fa a:Addr}{fd:FuncData}{x:Str}{sp:Sp}{s₁:Shared}{vs:List Value}{ns:List Int}
    (KX:K.In s₁.heap) (hns:s₁.heap.Ns mainGlobals mg) (hb:s₁.heap.Ns builtinsNs mb) (hbb:∀ x:Str,x ≠ "__name__" → mb x=bootBuiltins x) (hlim:s₁.heap.NoLimit) (hg:s₁.gens = #[])
    (ha:s₁.heap.get? a=some { cls:=.type "list", data:=.seq vs.toArray }) (hi:IntsAre vs ns) (hl:ns.length≤sizeLine) (hr:cL k callerA)
    (F:∀ base:Heap,K.In base→base.Ns mainGlobals mg→fk P w K mg base CX k fa fd [x] sp) (hbind:∀ (s:Shared) (u:Value),BindsTo s fd ⟨[u],[]⟩ [(x,u)])
    (hsp:∀ H:Hp,CG H→SqL K H a (ns.map V.int)→sp [.ref a] H (fun v _=>v=.bl true) fun _ _ _=>False)
    (hCX:∀ H e s',CX [] H s₁ (fun _ _ _=>False) e s'→False) :
    codeAny (model P w) callerA (.call (.ref fa) ⟨[.ref a],[]⟩) (fun r s'=>r=.ok (.ret (.bool true))∧OldK s₁.heap s'.heap∧s'.os=s₁.os∧AllBare s'.gens) s₁:=by
  have rv:=oo hi
  have Lm:=hi.length
  -- from an abstract heap in which nothing but the script may be tracked
  have core:∀ H:Hp,CG H→SqL K H a (ns.map V.int)→HOk P w H s₁.heap→(∀ b,H b≠none→b=a)→(H a≠none→K.lookup a=none)→
      codeAny (model P w) callerA (.call (.ref fa) ⟨[.ref a],[]⟩) (fun r s'=>r=.ok (.ret (.bool true))∧OldK s₁.heap s'.heap∧s'.os=s₁.os∧AllBare s'.gens) s₁:=by
    intro H hO hS hok hA hK
    have base_of:∀ {b:Addr} {o:Obj},s₁.heap.get? b=some o→H b=none→(pM s₁.heap H).get? b=some o:=fun e n=>BA e n
    have noA:∀ {b:Addr} {o:Obj} {es:Array DictEntry} {ep:Nat},s₁.heap.get? b=some o→o.data=.dict es ep→H b=none:=fun {b o es ep} e d=>by
      cases q:H b with
      | none=>rfl
      | some u=>
        have e':b=a:=hA b (by rw[q];simp)
        subst e'
        rw[ha] at e;cases e
        have d':Data.seq vs.toArray _=Data.dict es ep:=d
        cases d'
    have nsK:∀ {b:Addr} {m:Str→Option Value},s₁.heap.Ns b m→(pM s₁.heap H).Ns b m:=fun {b m} ⟨o,es,ep,e,d,r⟩=>⟨o,es,ep,base_of e (noA e d),d,r⟩
    have hKb:K.In (pM s₁.heap H):=fun b o e=>base_of (KX b o e) (by
      cases q:H b with
      | none=>rfl
      | some u=>
        have e':b=a:=hA b (by rw[q];simp)
        subst e'
        rw[hK (by rw[q];simp)] at e;cases e)
    have hM:Mod K mg (pM s₁.heap H):=⟨hKb,nsK hns,⟨mb,nsK hb,hbb⟩,let ⟨mc,h1,h2⟩:=hlim;⟨mc,nsK h1,h2⟩⟩
    have e0:ub P w K mg (pM s₁.heap H) callerA [] s₁ H:=⟨rfl,hM,fun b o e=>DY e,Nat.le_of_eq (wM _ _),trivial,fun b hb=>absurd (show b∈([]:List Addr) from hb) (by simp),hok,.of_eq hg⟩
    refine codeAny_mono ((F _ hKb (nsK hns)).run callerA [] s₁ H ⟨[.ref a],[]⟩ [.ref a] [.ref a] _ _ hr e0 (hbind s₁ (.ref a)) (.cons rfl .nil) (hsp H hO hS)) fun r s' h=>?_
    cases r with
    | error e=>exact (hCX H e s' h).elim
    | ok fl=>
      cases fl with
      | next=>exact False.elim h
      | brk=>exact False.elim h
      | cont=>exact False.elim h
      | ret u=>
        obtain ⟨v,H',os,bare,un,hok',r',q⟩:=h
        have q':v=.bl true:=q
        subst q'
        obtain rfl:u=Value.bool true:=r'
        refine ⟨rfl,OldK.of_keep fun b o e=>?_,os,bare⟩
        cases q:H b with
        | none=>exact un.keep b o e q (by intro z;exact absurd (show b∈([]:List Addr) from z) (by simp)) (by simp)
        | some u=>
          rcases hO b with z | ⟨ob,xs,z⟩
          · rw[q] at z;cases z
          · have z2:=un.gT b ob _ z
            obtain ⟨e1,_⟩:=hok b _ z
            obtain ⟨e2,_⟩:=hok' b _ z2
            rw[e] at e1;cases e1
            exact e2
  cases hk:K.lookup a with
  | some o=>
    -- the script is one of the module's own objects
    have e:=KX a o hk
    rw[ha] at e
    cases e
    refine core (fun _=>none) (fun _=>.inl rfl) (.inr ⟨_,vs.toArray,_,hk,rfl,rfl,rfl,by rw[List.size_toArray,Lm];exact hl,by simpa using rv⟩) (fun b u z=>by have z':(none:Option HO)=some u:=z;cases z') (fun b z=>absurd rfl z) fun z=>absurd rfl z
  | none=>
    refine core (fun b=>if b=a then some (.frz { cls:=.type "list", data:=.seq vs.toArray } (.lst (ns.map V.int))) else none) (fun b=>?_) (.inl (.inr ⟨{ cls:=.type "list", data:=.seq vs.toArray },if_pos rfl⟩)) (fun b u z=>?_) (fun b z=>?_) fun _=>hk
    · by_cases hb:b=a
      · exact .inr ⟨_,_,if_pos hb⟩
      · exact .inl (if_neg hb)
    · by_cases hb:b=a
      · have z':=(if_pos hb).symm.trans z
        cases z'
        subst hb
        exact ⟨ha,by rw[List.length_map];exact hl,vs,_,rv,ha⟩
      · have z':=(if_neg hb).symm.trans z
        cases z'
    · by_cases hb:b=a
      · exact hb
      · exact absurd (if_neg hb) z
end L2
namespace L2
open PySem PySem.Spec PyProof.Rows
theorem Cz {l:PySem.W.OpenLaw}{n k:Nat}{q:Program}{loose:List Str}{XP:(Str→Option Value)→Heap→Prop}{YP:World→Heap→Prop}{d:DefRec}{K:Params→PySem.W.Frag}{CX:World→CXT}{sp:World→Sp}{x:Str}
    (hn:l.most=some n) (hn2:n≤sizeLine) (hdf:d.params.defaults=[]) (hr:cL k callerA)
    (hY:∀ (w:World) (h:Heap),YP w h→(K w.params).In h)
    (F:∀ (w:World) (mg:Str→Option Value) (fa:Addr) (h:Heap),(K w.params).In h→h.Ns mainGlobals mg→mg d.name=some (.ref fa)→
      ∃ fd:FuncData,(∀ (s:Shared) (u:Value),BindsTo s fd ⟨[u],[]⟩ [(x,u)])∧
        ∀ base:Heap,(K w.params).In base→base.Ns mainGlobals mg→fk l.prog w (K w.params) mg base (CX w) k fa fd [x] (sp w))
    (hsp:∀ (w:World) (H:Hp) (a:Addr) (ns:List Int),ns.length≤n→CG H→SqL (K w.params) H a (ns.map V.int)→sp w [.ref a] H (fun v _=>v=.bl true) fun _ _ _=>False)
    (hCX:∀ (w:World) (H:Hp) (s:Shared) (e:Value) (s':Shared),CX w [] H s (fun _ _ _=>False) e s'→False) :
    PySem.W.WalkO q loose XP YP l.row.toRowW d [] (fun f vs=>PySem.call f vs):=by
  refine Att.sx hn hdf fun w s₀ s₁ mg mb fa o pm cd doc a vs ns G Y ho hd hcd hmg hobj hints hlen hg=>?_
  have KX:=hY w _ Y
  obtain ⟨fd,hb,hF⟩:=F w mg fa _ KX G.T.g hmg
  exact Bj KX G.T.g G.T.b G.T.builtins G.T.nolimit hg hobj hints (Nat.le_trans hlen hn2) hr hF hb (fun H hO hS=>hsp w H a ns hlen hO hS) fun H e s'=>hCX w H s₁ e s'
end L2
namespace L2
open PySem PySem.Spec PyProof.Rows
def iR (s:Stmt):Arguments:=match s with
  | .FunctionDef _ a _ _ _ _ _ _ _ _=>a
  | _=>{ posonlyargs:=[],args:=[],vararg:=none,kwonlyargs:=[],kw_defaults:=[],kwarg:=none,defaults:=[] }
def df (s:Stmt):List Stmt:=match s with
  | .FunctionDef _ _ b _ _ _ _ _ _ _=>b
  | _=>[]
def ar (s:Stmt):Scope:=match s with
  | .FunctionDef _ _ _ _ _ _ sc _ _ _=>sc
  | _=>{ kind:=.function,names:=[],isGenerator:=false,isCoroutine:=false }
abbrev CX0:CXT:=fun _ _ _ _ _ _=>False
abbrev E0:XK:=fun _ _ _=>False
theorem J3 {X:Cx}:Passes CX0 X E0:=fun _ _ _ _ _ _ _ h=>h.elim
structure Fun (K:PySem.W.Frag) (x qual:Str) (st:Stmt) (f:Addr) (fd:FuncData):Prop where
  ex:∃ (oc:Value) (od:Option Addr) (kV doc pm:Value) (an:Option Addr) (cdv ct:Value) (osl:Array (Option Value)),
    fd=PySem.W.fnOf x qual (iR st) (df st) (ar st) .none kV doc pm an cdv ct∧K.lookup f=some ⟨oc,od,.func fd,osl⟩∧PySem.W.codeIn K cdv qual=true
  kp:PySem.W.keepIn K (.ref f)=true
section
variable {P:Program} {w:World} {K:PySem.W.Frag} {mg:Str→Option Value} {base:Heap}
theorem Fun.ok {x qual:Str}{st:Stmt}{f:Addr}{fd:FuncData}{N ps:List Str}{k:Nat}{sp:Sp}(F:Fun K x qual st f fd)(S:aD N ps (ar st))(len:∀ vs H Q E,sp vs H Q E→vs.length=ps.length)
    (hbody:∀ (cdv:Value) (A:Around) (outer:List Env) (s:Shared) (H:Hp) (vs:List V) (Q:VK) (E:XK),cL k (A.deeper (envOfC qual (ar st) s.heap.objs.size f cdv))→sp vs H Q E→
      ∃ t,PSs (sk CX0 P w K mg base N qual (ar st) f cdv A outer s H E).nox (df st) t∧t { nx:=fun _ H'=>Q .non H',rt:=Q } (start N vs) H):fk P w K mg base CX0 (k+1) f fd ps sp:=by
  obtain ⟨oc,od,kV,doc,pm,an,cdv,ct,osl,rfl,lk,hcd⟩:=F.ex
  refine Jg lk hcd S len fun A outer s H vs Q E hr hsp=>?_
  obtain ⟨t,h,q⟩:=hbody cdv A outer s H vs Q E hr hsp
  exact ⟨t,h.nox,q⟩
theorem Fun.binds {x qual:Str}{st:Stmt}{f:Addr}{fd:FuncData}{ps:List Str}(F:Fun K x qual st f fd)
    (h:∀ (kV doc pm:Value) (an:Option Addr) (cdv ct:Value) (us:List Value),us.length=ps.length→bindArgs (PySem.W.fnOf x qual (iR st) (df st) (ar st) .none kV doc pm an cdv ct) ⟨us,[]⟩=pure (ps.zip us)):Binds K fd ps []:=by
  obtain ⟨oc,od,kV,doc,pm,an,cdv,ct,osl,rfl,lk,hcd⟩:=F.ex
  exact .all (h kV doc pm an cdv ct)
theorem aL {x qual:Str}{st:Stmt}{f:Addr}{oc:Value}{od an:Option Addr}{osl:Array (Option Value)}{kV doc pm cdv ct:Value}(l:K.lookup f=some ⟨oc,od,.func (PySem.W.fnOf x qual (iR st) (df st) (ar st) .none kV doc pm an cdv ct),osl⟩)
    (c:PySem.W.codeIn K cdv qual=true) (k:PySem.W.keepIn K (.ref f)=true):Fun K x qual st f (PySem.W.fnOf x qual (iR st) (df st) (ar st) .none kV doc pm an cdv ct):=⟨⟨oc,od,kV,doc,pm,an,cdv,ct,osl,rfl,l,c⟩,k⟩
end
section
variable {X:Cx}
theorem pv (i:Nat){x:Str}{pos:Pos}(hN:X.N[i]? = some x:=by rfl)(hv:Vis X.env.scope x:=by first | exact Or.inl rfl | exact Or.inr (Or.inl rfl) | exact Or.inr (Or.inr rfl))(hd:(x == ("__debug__" : Str))=false:=by decide)
    (hcd:(x == ("__classdict__" : Str))=false:=by decide):PE X (.Name x pos) (I0 i):=Ao hN hv hd hcd
end
theorem sP {A B:Prop}(h:B):if false=true then A else B:=by
  rw[if_neg Bool.false_ne_true]
  exact h
theorem sE {A B:Prop}(h:A):if true=true then A else B:=by
  rw[if_pos rfl]
  exact h
def mM (H H':Hp):Prop:=∀ b o,H b=some o→H' b=some o
theorem mM.refl (H:Hp):mM H H:=fun _ _ h=>h
theorem mM.trans {H H1 H2:Hp}(a:mM H H1)(b:mM H1 H2):mM H H2:=fun c o h=>b c o (a c o h)
theorem mM.free {H H':Hp}(e:mM H H'){l:Addr}(h:H' l=Option.none):H l=Option.none:=by
  cases q:H l with
  | none=>rfl
  | some o=>
    rw[e l o q] at h
    cases h
theorem mM.seq {K:PySem.W.Frag}{H H':Hp}{a:Addr}{xs:List V}(e:mM H H')(h:SqL K H a xs):SqL K H' a xs:=by
  rcases h with (h | ⟨o,h⟩) | h
  · exact .inl (.inl (e _ _ h))
  · exact .inl (.inr ⟨o,e _ _ h⟩)
  · exact .inr h
end L2
namespace L2
open PySem PySem.Spec PyProof.Rows
section
variable {κ:Type} [DecidableEq κ]
def fY (kvs:List (κ×V))(k:κ):Option V:=(kvs.find? fun kv=>decide (kv.1=k)).map (·.2)
def putK (kvs:List (κ×V))(k:κ)(v:V):List (κ×V):=
  if (kvs.any fun kv=>decide (kv.1=k))=true then kvs.map (fun kv=>if kv.1=k then (kv.1,v) else kv) else kvs++[(k,v)]
def EV (kvs:List (κ×V))(k:κ):List (κ×V):=kvs.filter fun kv=>decide (kv.1≠k)
theorem ij {p:κ×V}{r:List (κ×V)}{k:κ}(e:p.1=k):fY (p::r) k=some p.2:=by simp[fY,List.find?_cons,e]
theorem gR {p:κ×V}{r:List (κ×V)}{k:κ}(e:¬ p.1=k):fY (p::r) k=fY r k:=by simp[fY,List.find?_cons,e]
theorem rO (k:κ):∀ kvs:List (κ×V),(kvs.any fun kv=>decide (kv.1=k))=(fY kvs k).isSome
  | []=>rfl
  | p::r=>by
    rw[List.any_cons]
    by_cases e:p.1=k
    · simp only[ij e,decide_eq_true e,Bool.true_or,Option.isSome_some]
    · rw[gR e,decide_eq_false e,Bool.false_or];exact rO k r
theorem fD (kvs:List (κ×V))(k:κ)(v:V):(putK kvs k v).length≤kvs.length+1:=by
  unfold putK
  split
  · rw[List.length_map];omega
  · rw[List.length_append,List.length_cons,List.length_nil];omega
theorem jX.xg {o:Option V}{u:Option Value}(r:jX o u):o.isSome=u.isSome:=by
  cases o with
  | none=>cases u with
    | none=>rfl
    | some _=>exact (show False from r).elim
  | some _=>cases u with
    | none=>exact (show False from r).elim
    | some _=>rfl
theorem jX.getD {o:Option V}{u:Option Value}{d:V}{d':Value}(r:jX o u)(rd:RelV d d'):RelV (o.getD d) (u.getD d'):=by
  cases o with
  | none=>cases u with
    | none=>exact rd
    | some _=>exact (show False from r).elim
  | some _=>cases u with
    | none=>exact (show False from r).elim
    | some _=>exact r
theorem KV.val {kvs:List (κ×V)}{vs:List (κ×Value)}(r:KV kvs vs)(k:κ):jX (fY kvs k) (valueAt vs k):=by
  unfold KV at r
  induction r with
  | nil=>exact True.intro
  | @cons p q ps qs h t ih=>
    obtain ⟨h1,h2⟩:=h
    by_cases e:p.1=k
    · have e':q.1=k:=h1.symm.trans e
      have b:valueAt (q::qs) k=some q.2:=by simp[valueAt,List.find?_cons,e']
      rw[ij e,b];exact h2
    · have e':¬ q.1=k:=fun z=>e (h1.trans z)
      have b:valueAt (q::qs) k=valueAt qs k:=by simp[valueAt,List.find?_cons,e']
      rw[gR e,b];exact ih
theorem KV.any {kvs:List (κ×V)}{vs:List (κ×Value)}(r:KV kvs vs)(k:κ):(kvs.any fun kv=>decide (kv.1=k))=vs.any fun kv=>decide (kv.1=k):=by
  unfold KV at r
  induction r with
  | nil=>rfl
  | cons h t ih=>rw[List.any_cons,List.any_cons,ih,h.1]
theorem KV.Hh {kvs:List (κ×V)}{vs:List (κ×Value)}(r:KV kvs vs)(k:κ){y:V}{u:Value}(ry:RelV y u) :
    KV (kvs.map fun kv=>if kv.1=k then (kv.1,y) else kv) (vs.map fun kv=>if kv.1=k then (kv.1,u) else kv):=by
  unfold KV at r ⊢
  induction r with
  | nil=>exact .nil
  | @cons p q ps qs h t ih=>
    rw[List.map_cons,List.map_cons]
    refine .cons ?_ ih
    obtain ⟨h1,h2⟩:=h
    by_cases e:p.1=k
    · rw[if_pos e,if_pos (h1.symm.trans e)];exact ⟨h1,ry⟩
    · rw[if_neg e,if_neg (fun z=>e (h1.trans z))];exact ⟨h1,h2⟩
theorem KV.put {kvs:List (κ×V)}{vs:List (κ×Value)}(r:KV kvs vs)(k:κ){y:V}{u:Value}(ry:RelV y u):KV (putK kvs k y) (stored vs k u):=by
  unfold putK stored
  rw[r.any k]
  by_cases e:(vs.any fun kv=>decide (kv.1=k))=true
  · rw[if_pos e,if_pos e];exact r.Hh k ry
  · rw[if_neg e,if_neg e];exact Paired.snoc r ⟨rfl,ry⟩
theorem KV.drop {kvs:List (κ×V)}{vs:List (κ×Value)}(r:KV kvs vs)(k:κ):KV (EV kvs k) (without vs k):=by
  unfold KV at r ⊢
  unfold EV without
  induction r with
  | nil=>exact .nil
  | @cons p q ps qs h t ih=>
    obtain ⟨h1,h2⟩:=h
    rw[List.filter_cons,List.filter_cons]
    by_cases e:p.1=k
    · have a:¬ decide (p.1≠k)=true:=by simp[e]
      have b:¬ decide (q.1≠k)=true:=by simp[h1.symm.trans e]
      rw[if_neg a,if_neg b];exact ih
    · have e':¬ q.1=k:=fun z=>e (h1.trans z)
      have a:decide (p.1≠k)=true:=by simp[e]
      have b:decide (q.1≠k)=true:=by simp[e']
      rw[if_pos a,if_pos b];exact .cons ⟨h1,h2⟩ ih
theorem KV.keys {kvs:List (κ×V)}{vs:List (κ×Value)}(r:KV kvs vs):kvs.map (·.1)=vs.map (·.1):=by
  unfold KV at r
  induction r with
  | nil=>rfl
  | cons h t ih=>rw[List.map_cons,List.map_cons,ih,h.1]
theorem KV.length {kvs:List (κ×V)}{vs:List (κ×Value)}(r:KV kvs vs):kvs.length=vs.length:=Paired.length r
end
theorem vO {P:Program}{w:World}{k:Key}{u:Value}(r:RelV (kV k) u):(bF P w).is k u=true:=by
  cases k with
  | inl i=>obtain ⟨t,e⟩:=(show ∃ t,u=Value.int i t from r);subst e;exact sf P w i t
  | inr x=>obtain ⟨t,e⟩:=(show ∃ t,u=Value.str x t from r);subst e;exact qS P w x t
theorem nV {P:Program}{w:World}:∀ {ks:List Key} {us:List Value},Vals (ks.map kV) us→ItemsAre (bF P w) ks us
  | [],_,r=>by rw[List.map_nil] at r;cases r;exact .nil
  | k::ks,_,r=>by
    rw[List.map_cons] at r
    cases r with
    | cons h t=>exact .cons (vO h) (nV t)
abbrev KT (H:Hp):List (List Key×V)→List (List Key×Addr×Value)→Prop:=Paired fun p q=>p.1=q.1∧H q.2.1=some (.tup (p.1.map kV))∧RelV p.2 q.2.2
theorem KT.val {H:Hp}{kvs:List (List Key×V)}{xs:List (List Key×Addr×Value)}(r:KT H kvs xs)(k:List Key):jX (fY kvs k) ((atKey xs k).map (·.2)):=by
  induction r with
  | nil=>exact True.intro
  | @cons p q ps qs h t ih=>
    obtain ⟨h1,_,h2⟩:=h
    by_cases e:p.1=k
    · have e':q.1=k:=h1.symm.trans e
      have b:atKey (q::qs) k=some q.2:=by simp[atKey,List.find?_cons,e']
      rw[ij e,b];exact h2
    · have e':¬ q.1=k:=fun z=>e (h1.trans z)
      have b:atKey (q::qs) k=atKey qs k:=by simp[atKey,List.find?_cons,e']
      rw[gR e,b];exact ih
theorem KT.Hh {H:Hp}{kvs:List (List Key×V)}{xs:List (List Key×Addr×Value)}(r:KT H kvs xs)(k:List Key){y:V}{u:Value}(ry:RelV y u) :
    KT H (kvs.map fun kv=>if kv.1=k then (kv.1,y) else kv) (xs.map (putAt k u)):=by
  induction r with
  | nil=>exact .nil
  | @cons p q ps qs h t ih=>
    rw[List.map_cons,List.map_cons]
    refine .cons ?_ ih
    obtain ⟨h1,h2,h3⟩:=h
    unfold putAt
    by_cases e:p.1=k
    · rw[if_pos e,if_pos (h1.symm.trans e)];exact ⟨h1,h2,ry⟩
    · rw[if_neg e,if_neg (fun z=>e (h1.trans z))];exact ⟨h1,h2,h3⟩
theorem KT.put {H:Hp}{kvs:List (List Key×V)}{xs:List (List Key×Addr×Value)}(r:KT H kvs xs)(k:List Key){b:Addr}{y:V}{u:Value}(hb:H b=some (.tup (k.map kV)))(ry:RelV y u) :
    KT H (putK kvs k y) (storedH xs k b u):=by
  have e:(kvs.any fun kv=>decide (kv.1=k))=(atKey xs k).isSome:=by
    rw[rO,(r.val k).xg,Option.isSome_map]
  unfold putK storedH
  rw[e]
  by_cases q:(atKey xs k).isSome=true
  · rw[if_pos q,if_pos q];exact r.Hh k ry
  · rw[if_neg q,if_neg q];exact Paired.snoc r ⟨rfl,hb,ry⟩
theorem KT.keeps {H H':Hp}{kvs:List (List Key×V)}{xs:List (List Key×Addr×Value)}(r:KT H kvs xs)(ht:∀ b ys,H b=some (.tup ys)→H' b=some (.tup ys)):KT H' kvs xs:=
  Paired.Hi r fun _ _ z=>⟨z.1,ht _ _ z.2.1,z.2.2⟩
section
variable {P:Program} {w:World} {H:Hp} {h:Heap} {a:Addr}
theorem EN {u:HO}(ok:HOk P w H h)(e:Rd H a u):bU P w H h a u:=e.ok ok
theorem y8 {kvs:List (Key×V)}(ok:HOk P w H h)(e:Rd H a (.dK kvs)):kvs.length≤sizeLine∧(a == sysModules)=false∧∃ vs,KV kvs vs∧h.DictOf (bF P w) a vs:=
  show bU P w H h a (.dK kvs) from EN ok e
theorem Jp {kvs:List (Key×V)}(ok:HOk P w H h)(e:H a=some (.dK kvs)):kvs.length≤sizeLine∧(a == sysModules)=false∧∃ vs,KV kvs vs∧h.DictOf (bF P w) a vs:=y8 ok (.inl e)
theorem tj {ks:List Key}(ok:HOk P w H h)(e:H a=some (.tup (ks.map kV))):(tupleKind (bF P w)).is h ks a:=by
  obtain ⟨_,its,r,n,h1⟩:=(show bU P w H h a (.tup (ks.map kV)) from ok a _ e)
  exact ⟨_,its.toArray,n,h1,rfl,rfl,by simpa using nV r⟩
theorem BZ {kvs:List (List Key×V)}(ok:HOk P w H h)(e:Rd H a (.dT kvs)):kvs.length≤sizeLine∧(a == sysModules)=false∧
    ∃ xs,KT H kvs xs∧h.DictOfH (tupleKind (bF P w)) a xs:=by
  obtain ⟨z,y,xs,r,o,es,ep,h1,h2,h3,h4,h5⟩:=(show bU P w H h a (.dT kvs) from EN ok e)
  refine ⟨z,y,xs,r,o,es,ep,h1,h2,h3,h4,fun x hx=>?_,h5⟩
  have all:∀ {l:List (List Key×V)} {m:List (List Key×Addr×Value)},KT H l m→∀ x∈m,(tupleKind (bF P w)).is h x.1 x.2.1:=by
    intro l m q
    induction q with
    | nil=>intro x hx;exact nomatch hx
    | @cons p q ps qs hq t ih=>
      intro x hx
      rcases List.mem_cons.mp hx with e | hx
      · subst e
        exact tj ok (by rw[← hq.1];exact hq.2.1)
      · exact ih x hx
  exact all r x hx
theorem J9 {kvs:List (List Key×V)}(ok:HOk P w H h)(e:H a=some (.dT kvs)):kvs.length≤sizeLine∧(a == sysModules)=false∧
    ∃ xs,KT H kvs xs∧h.DictOfH (tupleKind (bF P w)) a xs:=BZ ok (.inl e)
end
def sD (H:Hp)(a:Addr)(y:V)(r:Option V):Prop:=
  (∃ kvs k,Rd H a (.dK kvs)∧y=kV k∧r=fY kvs k)∨∃ kvs k b,Rd H a (.dT kvs)∧y=.ref b∧H b=some (.tup (k.map kV))∧r=fY kvs k
def tR (H:Hp)(a:Addr)(y v:V)(H':Hp):Prop:=
  (∃ kvs k,H a=some (.dK kvs)∧y=kV k∧kvs.length < sizeLine∧H'=upd H a (.dK (putK kvs k v)))∨
  ∃ kvs k b,H a=some (.dT kvs)∧y=.ref b∧H b=some (.tup (k.map kV))∧kvs.length < sizeLine∧H'=upd H a (.dT (putK kvs k v))
theorem sD.k {H:Hp}{a:Addr}{kvs:List (Key×V)}{k:Key}(e:H a=some (.dK kvs)):sD H a (kV k) (fY kvs k):=.inl ⟨kvs,k,.inl e,rfl,rfl⟩
theorem sD.t {H:Hp}{a b:Addr}{kvs:List (List Key×V)}{k:List Key}(e:H a=some (.dT kvs))(eb:H b=some (.tup (k.map kV))):sD H a (.ref b) (fY kvs k):=.inr ⟨kvs,k,b,.inl e,rfl,eb,rfl⟩
theorem tR.k {H:Hp}{a:Addr}{kvs:List (Key×V)}{k:Key}{v:V}(e:H a=some (.dK kvs))(hl:kvs.length < sizeLine):tR H a (kV k) v (upd H a (.dK (putK kvs k v))):=.inl ⟨kvs,k,e,rfl,hl,rfl⟩
theorem tR.t {H:Hp}{a b:Addr}{kvs:List (List Key×V)}{k:List Key}{v:V}(e:H a=some (.dT kvs))(eb:H b=some (.tup (k.map kV)))(hl:kvs.length < sizeLine) :
    tR H a (.ref b) v (upd H a (.dT (putK kvs k v))):=.inr ⟨kvs,k,b,e,rfl,eb,hl,rfl⟩
section
variable {X:Cx} {pins:List (Addr×Obj)} {σ:St} {H:Hp} {s:Shared} {a:Addr} {y v:V} {u r:Value} {o:Option V} {A:Around} {E:Value→Shared→Prop}
theorem Inv.big (I:Inv X pins σ H s):sysModules < s.heap.objs.size:=by
  have h:mainGlobals < s.heap.objs.size:=(I.mod.glob.keeps I.bk).lt
  exact Nat.lt_trans (by decide) h
theorem xI {Q:Value→Shared→Prop}(hu:A.units+1 < cLine)(I:Inv X pins σ H s)(g:sD H a y (some v))(ry:RelV y u)(h:∀ w' s',Inv X pins σ H s'→RelV v w'→Q w' s') :
    wpAny (model X.prog X.w) A (getItem (.ref a) u) Q E s:=by
  rcases g with ⟨kvs,k,e,ey,l⟩ | ⟨kvs,k,b,e,ey,eb,l⟩
  · subst ey
    obtain ⟨z,hd,vs,rel,dd⟩:=y8 I.hok e
    obtain ⟨w',hw,rw'⟩:=jX.some_of (v:=v) (o:=valueAt vs k) (by rw[l];exact rel.val k)
    exact wpAny_getItem_of (vO ry) dd.mapOf hw (h w' _ (I.tok _) rw')
  · subst ey
    cases (show u=Value.ref b from ry)
    obtain ⟨z,hd,xs,rel,dd⟩:=BZ I.hok e
    obtain ⟨w',hw,rw'⟩:=jX.some_of (v:=v) (o:=(atKey xs k).map (·.2)) (by rw[l];exact rel.val k)
    obtain ⟨p,hp,hp2⟩:=Option.map_eq_some_iff.mp hw
    refine wpAny_getItem_heap (tupleKind_room_in1 hu) (tj I.hok eb) dd hp ?_
    rw[hp2]
    exact h w' _ (I.tok _) rw'
theorem vG {h':Heap}{t':Nat}{ob:HO}(I:Inv X pins σ H s)(mu:Mut (H a))(hs:Heap.SameBut a s.heap h')(he:∃ q,h'.get? a=some q)(new:bU X.prog X.w (upd H a ob) h' a ob) :
    Inv X pins σ (upd H a ob) { s with heap:=h',toks:=t' }:=
  I.write (x:=a) (e:=a) mu (.inl rfl) (fun b q hb z=>(hs.2 b hb).trans z) he new
theorem A3 {P:Program}{w:World}{H':Hp}{h':Heap}{kvs:List (Key×V)}{vs:List (Key×Value)}(z:kvs.length≤sizeLine)(hd:(a == sysModules)=false)(rel:KV kvs vs)(dd:h'.DictOf (bF P w) a vs) :
    bU P w H' h' a (.dK kvs):=⟨z,hd,vs,rel,dd⟩
theorem wU {H':Hp}{Q:Unit→Shared→Prop}(hu:A.units+1 < cLine)(I:Inv X pins σ H s)(g:tR H a y v H')(ry:RelV y u)(rv:RelV v r)(h:∀ s',Inv X pins σ H' s'→Q () s') :
    wpAny (model X.prog X.w) A (setItem (.ref a) u r) Q E s:=by
  rcases g with ⟨kvs,k,e,ey,l,eH⟩ | ⟨kvs,k,b,e,ey,eb,l,eH⟩
  · subst ey eH
    obtain ⟨z,hd,vs,rel,dd⟩:=Jp I.hok e
    have hz:vs.length≤sizeLine:=by rw[← rel.length];exact z
    have hl:(putK kvs k v).length≤sizeLine:=by have:=fD kvs k v;omega
    refine wpAny_setItem_pairs (hsz:=hz) (vO ry) dd fun h' dd' hs=>h _ ?_
    have he:∃ q,h'.get? a=some q:=let ⟨q,_,_,hq,_⟩:=dd';⟨q,hq⟩
    exact vG I (by rw[e];exact True.intro) hs he (A3 hl hd (rel.put k rv) dd')
  · subst ey eH
    cases (show u=Value.ref b from ry)
    obtain ⟨z,hd,xs,rel,dd⟩:=J9 I.hok e
    have hz:xs.length≤sizeLine:=by rw[← Paired.length rel];exact z
    have hl:(putK kvs k v).length≤sizeLine:=by have:=fD kvs k v;omega
    refine wpAny_setItem_heap (hsz:=hz) (tupleKind_room_in1 hu) (tj I.hok eb) dd fun h' dd' hs=>h _ ?_
    obtain ⟨q,es,ep,hq,h2,h3,h4,_,h5⟩:=dd'
    refine vG I (by rw[e];exact True.intro) hs ⟨q,hq⟩ ⟨hl,hd,_,(rel.put k eb rv).keeps fun c ys ec=>?_,q,es,ep,hq,h2,h3,h4,h5⟩
    rw[aA (Jy ec e (fun z=>nomatch z))]
    exact ec
end
section
variable {X:Cx} {pins:List (Addr×Obj)} {σ:St} {H:Hp} {s:Shared} {a:Addr} {kvs:List (Key×V)} {k:Key} {u:Value} {A:Around} {E:Value→Shared→Prop}
end
def Gi (i:Expr):Prop:=∀ ov iv,subscripted i false ov iv=operate [ov,iv] (getItem ov iv)
theorem Ds {prog:Program}{w:World}{A:Around}{E:Value→Shared→Prop}{s:Shared}{env:Env}{value slice:Expr}{pos:Pos}{T id:String}{Q:Value→Shared→Prop}
    (hl:typeLookup (.type T) "__getitem__" = pure (some (.builtin id))) (hs:Gi slice)
    (h:wpAny (model prog w) A (eval value env) (fun o s₁=>wpAny (model prog w) A (eval slice env) (fun i s₂=>s₂.TypeIs o T∧wpAny (model prog w) A (getItem o i) Q E s₂) E s₁) E s) :
    wpAny (model prog w) A (eval (.Subscript value slice pos) env) Q E s:=by
  refine Subscript_ (wpAny_mono h (fun o s₁ h₁=>wpAny_mono h₁ (fun i s₂ h₂=>?_) fun _ _ x=>x) fun _ _ x=>x)
  obtain ⟨hT,h₂⟩:=h₂
  unfold subscriptTail
  refine wpAny_bind ?_
  rw[getitemInPython_of_ne hT.not_modules]
  refine wpAny_bind (wpAny_specialOf hT hl ?_)
  have fin:wpAny (model prog w) A (subscripted slice false o i) (fun r s₃=>wpAny (model prog w) A (letTemporaryGo value o r >>= fun _=>pure r) Q E s₃) E s₂:=by
    rw[hs o i]
    exact wpAny_operating (wpAny_mono h₂ (fun r s₃ h₃=>wpAny_bind (wpAny_letTemporaryGo (wpAny_pure h₃))) fun _ _ x=>x)
  first
    | exact wpAny_pure (wpAny_bind fin)
    | exact wpAny_bind (wpAny_pure (wpAny_bind fin))
    | exact wpAny_bind fin
theorem qL {X:Cx}{pins:List (Addr×Obj)}{σ:St}{H:Hp}{s:Shared}{a:Addr}{y:V}{o:Option V}(I:Inv X pins σ H s)(g:sD H a y o):s.TypeIs (.ref a) "dict" := by
  rcases g with ⟨kvs,k,e,_,_⟩ | ⟨kvs,k,b,e,_,_,_⟩
  · obtain ⟨_,_,vs,_,dd⟩:=y8 I.hok e
    exact dd.typeIs
  · obtain ⟨_,_,xs,_,dd⟩:=BZ I.hok e
    exact dd.typeIs
def Iy (td ty:TE):TE:=fun σ H Q=>td σ H fun x H1=>ty σ H1 fun y H2=>∃ a v,x=.ref a∧sD H2 a y (some v)∧Q v H2
def Jz (td ty tv:TE):TS:=fun D σ H=>tv σ H fun v H1=>td σ H1 fun x H2=>ty σ H2 fun y H3=>∃ a H4,x=.ref a∧tR H3 a y v H4∧D.nx σ H4
section
variable {X:Cx} {o i e value:Expr} {pos pos' tpos:Pos} {td ty tv:TE}
theorem CV (hu:X.A.units+1 < cLine)(ho:PE X o td)(hi:PE X i ty)(hs:Gi i):PE X (.Subscript o i pos) (Iy td ty):=by
  intro pins s σ H Q I h
  refine Ds PySem.F.slot_dict_getitem.lookup hs (thn (ho pins s σ H _ I h) fun u s1 ⟨x,H1,I1,rx,q1⟩=>thn (hi pins s1 σ H1 _ I1 q1) fun iv s2 ⟨y,H2,I2,ry,a,v,ex,g,q2⟩=>?_)
  subst ex
  obtain rfl:u=Value.ref a:=rx
  exact ⟨qL I2 g,xI hu I2 g ry fun w' s3 I3 rw'=>⟨v,H2,I3,rw',q2⟩⟩
theorem Dq (hu:X.A.units+1 < cLine)(ho:PE X o td)(hi:PE X i ty)(hv:PE X value tv)(hs:swapsWith value (some (.Subscript o i pos')) pos.line X.env=pure false) :
    PS X (.Assign [.Subscript o i pos'] value pos) (Jz td ty tv):=by
  intro pins s σ H D I h
  refine wpAny_Assign_Subscript (thn (hv pins s σ H _ I h) fun r s1 ⟨v,H1,I1,rv,q1⟩=>thn (ho pins s1 σ H1 _ I1 q1) fun u s2 ⟨x,H2,I2,rx,q2⟩=>thn (hi pins s2 σ H2 _ I2 q2) fun iv s3 ⟨y,H3,I3,ry,a,H4,ex,g,q3⟩=>?_) hs
  subst ex
  obtain rfl:u=Value.ref a:=rx
  exact wU hu I3 g ry rv fun s4 I4=>⟨σ,H4,I4,q3⟩
end
theorem zQ {P:Program}{w:World}{H:Hp}(h:Heap)(hb:sysModules < h.objs.size):bU P w H (h.push { cls:=.type "dict", data:=.dict #[] }) h.objs.size (.dK []):=
  ⟨Nat.zero_le _,beq_eq_false_iff_ne.mpr (Ne.symm (Nat.ne_of_lt hb)),[],.nil,Heap.DictOf.new h⟩
def Hr:TE:=fun _ H Q=>∀ p,H p=none→Q (.ref p) (upd H p (.dK []))
section
variable {X:Cx} {pos:Pos}
theorem zN:PE X (.Dict [] [] pos) Hr:=fun pins s σ H Q I h=>
  wpAny_Dict_empty ⟨.ref s.heap.objs.size,_,I.laid (a:=s.heap.objs.size) (o:=.dK []) (t':=s.toks) (fun _ _ q=>Heap.get?_push_of_some _ q) (Nat.le_refl _) (zQ s.heap I.big),rfl,h _ (I.hok.fresh (Nat.le_refl _))⟩
end
def eP (kvs more:List (Key×V)):List (Key×V):=more.foldl (fun acc kv=>putK acc kv.1 kv.2) kvs
theorem KV.merge:∀ {more:List (Key×V)} {rs:List (Key×Value)} {kvs:List (Key×V)} {vs:List (Key×Value)},KV more rs→KV kvs vs→KV (eP kvs more) (merged vs rs):=by
  intro more rs kvs vs r
  unfold KV at r
  induction r generalizing kvs vs with
  | nil=>intro q;exact q
  | @cons p q ps qs h t ih=>
    intro r0
    have e:KV (putK kvs p.1 p.2) (stored vs q.1 q.2):=by
      have:=r0.put p.1 h.2
      rw[← h.1];exact this
    exact ih e
theorem gw:∀ (more kvs:List (Key×V)),(eP kvs more).length≤kvs.length+more.length
  | [],kvs=>by show kvs.length≤kvs.length+0;omega
  | p::r,kvs=>by
    have h1:=gw r (putK kvs p.1 p.2)
    have h2:=fD kvs p.1 p.2
    show (eP (putK kvs p.1 p.2) r).length≤_
    rw[List.length_cons];omega
section
variable {X:Cx} {pins:List (Addr×Obj)} {σ:St} {H:Hp} {s:Shared} {a:Addr} {y d:V} {u r:Value} {o:Option V} {A:Around} {E:Value→Shared→Prop}
end
section
variable {X:Cx} {o e f:Expr} {apos cpos:Pos} {td ty tx:TE}
end
section
variable {X:Cx} {pins:List (Addr×Obj)} {σ:St} {H:Hp} {s:Shared} {a:Addr} {kvs:List (Key×V)} {A:Around} {E:Value→Shared→Prop}
end
section
variable {X:Cx} {pins:List (Addr×Obj)} {σ:St} {H:Hp} {s:Shared} {a:Addr} {y:V} {u:Value} {A:Around} {E:Value→Shared→Prop}
end
end L2
namespace L3
open PySem
local macro_rules | `(tactic| walk_at "ln")=>`(tactic| (intro ds μ Q h;split at h;rfl;exact h.elim))
theorem Jn {p q:Prop}(a:p)(b:q):p∧q:=⟨a,b⟩
inductive D where
  | non | bl (b:Bool) | int (i:Int) | str (x:Str) | ty (n:String) | tup (ds:List D) | ls (ds:List D) | obj (a:Addr)
inductive MO where
  | lst (ds:List D)
  | dct (kvs:List (L2.Key×D))
abbrev Mu:=Addr→Option MO
def up (μ:Mu)(a:Addr)(o:MO):Mu:=fun b=>if b=a then some o else μ b
theorem aM {μ:Mu}{a:Addr}{o:MO}:up μ a o a=some o:=by unfold up;rw[if_pos rfl]
theorem aV {μ:Mu}{a b:Addr}{o:MO}(h:b≠a):up μ a o b=μ b:=by unfold up;rw[if_neg h]
theorem rg {μ:Mu}{a:Addr}{o u:MO}:up (up μ a o) a u=up μ a u:=by
  funext b;unfold up;split<;>rfl
abbrev ST:=List (Option D)
abbrev DK:=D→Mu→Prop
abbrev ETr:=ST→Mu→DK→Prop
abbrev TTr:=ST→Mu→(Bool→Mu→Prop)→Prop
abbrev ATr:=ST→Mu→(List D→Mu→Prop)→Prop
abbrev DR:=D→Mu→DK→Prop
abbrev DR2:=D→D→Mu→DK→Prop
abbrev FSp:=List D→Mu→DK→Prop
structure En where
  nx:ST→Mu→Prop
  rt:DK
  bk:ST→Mu→Prop:=fun _ _=>False
  ct:ST→Mu→Prop:=fun _ _=>False
abbrev STr:=En→ST→Mu→Prop
abbrev GTr:=D→ST→Mu→(ST→Mu→Prop)→Prop
def kIf (c:Bool)(A B:Prop):Prop:=match c with
  | true=>A
  | false=>B
def kB (x:D)(f:Bool→Prop):Prop:=match x with
  | .bl c=>f c
  | _=>False
def kI (x:D)(f:Int→Prop):Prop:=match x with
  | .int c=>f c
  | _=>False
def kO (x:Option D)(f:D→Prop):Prop:=match x with
  | some d=>f d
  | none=>False
def kS (x:D)(f:List D→Prop):Prop:=match x with
  | .tup ds=>f ds
  | .ls ds=>f ds
  | _=>False
def k2 (ds:List D)(f:D→D→Prop):Prop:=match ds with
  | [v,w]=>f v w
  | _=>False
def kL (μ:Mu)(a:Addr)(f:List D→Prop):Prop:=match μ a with
  | some (.lst ds)=>f ds
  | _=>False
def kD (μ:Mu)(a:Addr)(f:List (L2.Key×D)→Prop):Prop:=match μ a with
  | some (.dct ds)=>f ds
  | _=>False
def kN (x:Option Nat)(f:Nat→Prop):Prop:=match x with
  | some d=>f d
  | none=>False
def lk:ST→Nat→Option D
  | [],_=>none
  | o::_,0=>o
  | _::r,n+1=>lk r n
def ag (i:Nat):ETr:=fun ρ μ Q=>kO (lk ρ i) fun d=>Q d μ
def TC (d:D):ETr:=fun _ μ Q=>Q d μ
def ak (r:DR2)(a b:ETr):ETr:=fun ρ μ Q=>a ρ μ fun x μ1=>b ρ μ1 fun y μ2=>r x y μ2 Q
def TUn (r:DR)(a:ETr):ETr:=fun ρ μ Q=>a ρ μ fun x μ1=>r x μ1 Q
def S64 (i:Int):Prop:=-18446744073709551616 < i∧i < 18446744073709551616
def cg (i:Int):Prop:=-115792089237316195423570985008687907853269984665640564039457584007913129639936 < i∧i < 115792089237316195423570985008687907853269984665640564039457584007913129639936
def MulOk (i j:Int):Prop:=(S64 i∨S64 j)∨(cg i∧cg j)
def fc (j:Int):Prop:=j≠0∧cg j
def qY (i j:Int):Prop:=0≤j∧j≤1000000∧i.natAbs < 18446744073709551616
def j5:DR2:=fun x y μ Q=>match x,y with
  | .int i,.int j=>Q (.int (i - j)) μ
  | _,_=>False
def d7:DR2:=fun x y μ Q=>match x,y with
  | .int i,.int j=>MulOk i j∧Q (.int (i*j)) μ
  | _,_=>False
def ig:DR2:=fun x y μ Q=>match x,y with
  | .int i,.int j=>fc j∧Q (.int (i.fdiv j)) μ
  | _,_=>False
def kG:DR2:=fun x y μ Q=>match x,y with
  | .int i,.int j=>j≠0∧Q (.int (i.fmod j)) μ
  | _,_=>False
def z5:DR2:=fun x y μ Q=>match x,y with
  | .int i,.int j=>qY i j∧Q (.int (i ^ j.toNat)) μ
  | _,_=>False
def pH:DR:=fun x μ Q=>match x with
  | .int i=>Q (.int (-i)) μ
  | _=>False
def Aw (p:Int→Int→Bool):DR2:=fun x y μ Q=>match x,y with
  | .int i,.int j=>Q (.bl (p i j)) μ
  | _,_=>False
def rLt:DR2:=Aw fun i j=>decide (i < j)
def rLe:DR2:=Aw fun i j=>decide (i≤j)
def rGt:DR2:=Aw fun i j=>decide (j < i)
def rGe:DR2:=Aw fun i j=>decide (j≤i)
mutual
def eqD:D→D→Bool
  | .non,.non=>true
  | .bl a,.bl b=>a == b
  | .int a,.int b=>decide (a=b)
  | .bl a,.int b=>decide ((if a then 1 else 0:Int)=b)
  | .int a,.bl b=>decide (a=(if b then 1 else 0:Int))
  | .str a,.str b=>decide (a=b)
  | .tup a,.tup b=>mO a b
  | .ls a,.ls b=>mO a b
  | _,_=>false
def mO:List D→List D→Bool
  | [],[]=>true
  | a::r,b::s=>eqD a b&&mO r s
  | _,_=>false
end
mutual
def okD:Nat→D→Bool
  | _,.non=>true
  | _,.bl _=>true
  | _,.int _=>true
  | _,.str x=>PyData.strOk x
  | n+1,.tup ds=>bW n ds
  | n+1,.ls ds=>bW n ds
  | _,_=>false
def bW:Nat→List D→Bool
  | _,[]=>true
  | n,d::ds=>okD n d&&bW n ds
end
def rEq:DR2:=fun x y μ Q=>(okD 40 x=true∧okD 40 y=true)∧Q (.bl (eqD x y)) μ
def rNe:DR2:=fun x y μ Q=>(okD 40 x=true∧okD 40 y=true)∧Q (.bl (!eqD x y)) μ
def rIs:DR2:=fun x y μ Q=>match y with
  | .non=>(match x with
    | .non=>Q (.bl true) μ
    | _=>Q (.bl false) μ)
  | _=>False
def vf:DR2:=fun x y μ Q=>match y with
  | .non=>(match x with
    | .non=>Q (.bl false) μ
    | _=>Q (.bl true) μ)
  | _=>False
def fO (a b:ETr):ETr:=fun ρ μ Q=>a ρ μ fun x μ1=>kB x fun c=>kIf c (b ρ μ1 Q) (Q (.bl false) μ1)
def xu (a b:ETr):ETr:=fun ρ μ Q=>a ρ μ fun x μ1=>kB x fun c=>kIf c (Q (.bl true) μ1) (b ρ μ1 Q)
def jG (a:ETr):ETr:=fun ρ μ Q=>a ρ μ fun x μ1=>kB x fun c=>Q (.bl (!c)) μ1
def TB (t:ETr):TTr:=fun ρ μ Q=>t ρ μ fun x μ1=>kB x fun c=>Q c μ1
def xk (t u:TTr):TTr:=fun ρ μ Q=>t ρ μ fun c μ1=>kIf c (u ρ μ1 Q) (Q false μ1)
def TOr (t u:TTr):TTr:=fun ρ μ Q=>t ρ μ fun c μ1=>kIf c (Q true μ1) (u ρ μ1 Q)
def iY (t:TTr):TTr:=fun ρ μ Q=>t ρ μ fun c μ1=>Q (!c) μ1
def Ie (c:TTr)(a b:ETr):ETr:=fun ρ μ Q=>c ρ μ fun k μ1=>kIf k (a ρ μ1 Q) (b ρ μ1 Q)
def u4 (r r':DR2)(a b c:ETr):ETr:=fun ρ μ Q=>a ρ μ fun x μ1=>b ρ μ1 fun y μ2=>r x y μ2 fun z μ3=>kB z fun k=>kIf k (c ρ μ3 fun y' μ4=>r' y y' μ4 Q) (Q (.bl false) μ3)
def au:ATr:=fun _ μ Q=>Q [] μ
def af (a:ETr)(r:ATr):ATr:=fun ρ μ Q=>a ρ μ fun x μ1=>r ρ μ1 fun xs μ2=>Q (x::xs) μ2
def cq (t:ATr):ETr:=fun ρ μ Q=>t ρ μ fun ds μ1=>ds.length≤1000000∧Q (.tup ds) μ1
def f6 (t:ATr):ETr:=fun ρ μ Q=>t ρ μ fun ds μ1=>ds.length≤1000000∧Q (.ls ds) μ1
def rB (t:ATr):ETr:=fun ρ μ Q=>t ρ μ fun ds μ1=>ds.length≤1000000∧∀ p,μ1 p=none→Q (.obj p) (up μ1 p (.lst ds))
def aq (sp:FSp)(t:ATr):ETr:=fun ρ μ Q=>t ρ μ fun ds μ1=>sp ds μ1 Q
def atD (ds:List D)(i:Int):Option D:=L2.atI ds i
def rIx:DR2:=fun x y μ Q=>match x,y with
  | .tup ds,.int i=>kO (atD ds i) fun d=>Q d μ
  | .ls ds,.int i=>kO (atD ds i) fun d=>Q d μ
  | .obj a,.int i=>kL μ a fun ds=>kO (atD ds i) fun d=>Q d μ
  | _,_=>False
def rN:FSp:=fun ds μ Q=>match ds with
  | [.int i]=>Q (.int (if i < 0 then -i else i)) μ
  | _=>False
def J6:FSp:=fun ds μ Q=>match ds with
  | [.int i,.int j]=>Q (.int (if j > i then j else i)) μ
  | _=>False
def lC:FSp:=fun ds μ Q=>match ds with
  | [.int i,.int j]=>Q (.int (if j < i then j else i)) μ
  | _=>False
def J1:FSp:=fun ds μ Q=>match ds with
  | [.int i]=>Q (.int i) μ
  | [.bl k]=>Q (.int (if k then 1 else 0)) μ
  | _=>False
def c5:FSp:=fun ds μ Q=>match ds with
  | [.tup xs]=>Q (.int xs.length) μ
  | [.ls xs]=>Q (.int xs.length) μ
  | [.str x]=>x.length≤1000000∧Q (.int x.length) μ
  | [.obj a]=>kL μ a fun xs=>Q (.int xs.length) μ
  | _=>False
def tyD:D→Option String
  | .non=>some "NoneType"
  | .bl _=>some "bool"
  | .int _=>some "int"
  | .str _=>some "str"
  | .tup _=>some "tuple"
  | .ls _=>some "list"
  | _=>none
def a5 (t c:String):Bool:=t == c || (t == "bool" && c == "int")
def fZ (c:String):DR:=fun x μ Q=>match tyD x with
  | some t=>Q (.bl (a5 t c)) μ
  | none=>False
def bA:STr:=fun E ρ μ=>E.nx ρ μ
def aG (t u:STr):STr:=fun E ρ μ=>t { E with nx:=u E } ρ μ
def ui:STr:=fun E ρ μ=>E.bk ρ μ
def AD:STr:=fun E ρ μ=>E.ct ρ μ
def jx (e:ETr):STr:=fun E ρ μ=>e ρ μ fun _ μ1=>E.nx ρ μ1
def aS (e:ETr):STr:=fun E ρ μ=>e ρ μ E.rt
def BE:STr:=fun E _ μ=>E.rt .non μ
def cG (c:TTr)(t u:STr):STr:=fun E ρ μ=>c ρ μ fun b μ1=>kIf b (t E ρ μ1) (u E ρ μ1)
def aw (i:Nat):GTr:=fun d ρ μ k=>k (ρ.set i (some d)) μ
def aP (e:ETr)(g:GTr):STr:=fun E ρ μ=>e ρ μ fun d μ1=>g d ρ μ1 E.nx
def vm (i j:Nat)(a:ATr):STr:=fun E ρ μ=>a ρ μ fun ds μ1=>k2 ds fun v w=>E.nx ((ρ.set i (some v)).set j (some w)) μ1
def Cy (x z y:D)(μ:Mu)(f:Mu→Prop):Prop:=match x,z with
  | .obj a,.int n=>kL μ a fun ds=>kN (L2.ixN ds.length n) fun j=>f (up μ a (.lst (ds.set j y)))
  | _,_=>False
def gF (o k e:ETr):STr:=fun E ρ μ=>e ρ μ fun y μ1=>o ρ μ1 fun x μ2=>k ρ μ2 fun z μ3=>Cy x z y μ3 fun μ4=>E.nx ρ μ4
def qe (c:TTr)(b:STr):STr:=fun E ρ μ=>∃ (P:ST→Mu→Prop) (m:ST→Mu→Nat),P ρ μ∧∀ ρ μ,P ρ μ→
  c ρ μ fun k μ1=>kIf k (b { E with nx:=fun ρ' μ'=>P ρ' μ'∧m ρ' μ' < m ρ μ,ct:=fun ρ' μ'=>P ρ' μ'∧m ρ' μ' < m ρ μ,bk:=E.nx } ρ μ1) (E.nx ρ μ1)
def forR (g:GTr)(b:STr)(E:En):List D→ST→Mu→Prop
  | [],ρ,μ=>E.nx ρ μ
  | d::r,ρ,μ=>g d ρ μ fun ρ1 μ1=>b { E with nx:=forR g b E r,ct:=forR g b E r,bk:=E.nx } ρ1 μ1
def iZ (it:ATr)(g:GTr)(b:STr):STr:=fun E ρ μ=>it ρ μ fun ds μ1=>forR g b E ds ρ μ1
def dN (lo:Int)(n:Nat):List D:=(List.range n).map fun i=>.int (lo+(i:Nat))
def di (a:ETr):ATr:=fun ρ μ Q=>a ρ μ fun x μ1=>kI x fun j=>(-4611686018427387904≤j∧j < 4611686018427387904)∧Q (dN 0 j.toNat) μ1
def f7 (a:ETr):ATr:=fun ρ μ Q=>a ρ μ fun x μ1=>kS x fun ds=>Q ds μ1
def dn (μ:Mu)(a:Addr):Mu:=fun b=>if b=a then none else μ b
theorem E1 {μ:Mu}{a:Addr}{o:MO}(h:μ a=none):dn (up μ a o) a=μ:=by
  funext b
  unfold dn up
  by_cases hb:b=a
  · subst hb;simp[h]
  · simp[hb]
def gH (ρ:ST)(n:Nat)(caps:List Nat):ST:=List.replicate n none++caps.map (lk ρ)
def eC (p:Addr)(G:GTr)(tt:TTr)(te:ETr)(ρc:ST)(K:Mu→Prop):List D→Mu→Prop
  | [],μ=>K μ
  | d::r,μ=>G d ρc μ fun ρ1 μ1=>tt ρ1 μ1 fun b μ2=>kIf b (te ρ1 μ2 fun y μ3=>kL μ3 p fun zs=>zs.length < 1000000∧eC p G tt te ρc K r (up μ3 p (.lst (zs++[y])))) (eC p G tt te ρc K r μ2)
def cZ (it:ATr)(G:GTr)(tt:TTr)(te:ETr)(n:Nat)(caps:List Nat):ETr:=fun ρ μ Q=>it ρ μ fun ds μ1=>∀ p,μ1 p=none→
  eC p G tt te (gH ρ n caps) (fun μ'=>kL μ' p fun zs=>Q (.ls zs) (dn μ' p)) ds (up μ1 p (.lst []))
def jd:TTr:=fun _ μ Q=>Q true μ
def Es:FSp:=fun ds μ Q=>match ds with
  | [.ls xs]=>∃ bs:List Bool,xs=bs.map .bl∧Q (.bl (bs.all id)) μ
  | _=>False
theorem cn {g:GTr}{b:STr}{E:En}(P:List D→ST→Mu→Prop)(hnil:∀ ρ μ,P [] ρ μ→E.nx ρ μ)
    (hcons:∀ d r ρ μ (N:ST→Mu→Prop),P (d::r) ρ μ→(∀ ρ' μ',P r ρ' μ'→N ρ' μ')→g d ρ μ fun ρ1 μ1=>b { E with nx:=N,ct:=N,bk:=E.nx } ρ1 μ1) :
    ∀ (ds:List D) (ρ:ST) (μ:Mu),P ds ρ μ→forR g b E ds ρ μ
  | [],ρ,μ,h=>hnil ρ μ h
  | d::r,ρ,μ,h=>hcons d r ρ μ _ h fun ρ' μ' q=>cn P hnil hcons r ρ' μ' q
section
open PySem PySem.Spec PyProof.Rows L2
def SqF (K:PySem.W.Frag)(H:Hp)(a:Addr)(xs:List V):Prop:=
  (∃ o,H a=some (.frz o (.lst xs)))∨
    ∃ (o:Obj) (its:Array Value) (n:Nat),K.lookup a=some o∧o.cls=.type "list" ∧ o.dict=none∧o.data=.seq its n∧its.size≤sizeLine∧Vals xs its.toList
theorem SqF.sq {K:PySem.W.Frag}{H:Hp}{a:Addr}{xs:List V}(h:SqF K H a xs):SqL K H a xs:=by
  rcases h with h | h
  · exact .inl (.inr h)
  · exact .inr h
mutual
inductive Dp (K:PySem.W.Frag) (H:Hp):V→D→Prop
  | non:Dp K H .non .non
  | bl (b:Bool):Dp K H (.bl b) (.bl b)
  | int (n:Int):Dp K H (.int n) (.int n)
  | str (z:Str):Dp K H (.str z) (.str z)
  | ty (n:String):Dp K H (.ty n) (.ty n)
  | tup {a:Addr} {xs:List V} {ds:List D}:SqT K H a xs→DpL K H xs ds→Dp K H (.ref a) (.tup ds)
  | ls {a:Addr} {xs:List V} {ds:List D}:SqF K H a xs→DpL K H xs ds→Dp K H (.ref a) (.ls ds)
  | obj (a:Addr):Dp K H (.ref a) (.obj a)
inductive DpL (K:PySem.W.Frag) (H:Hp):List V→List D→Prop
  | nil:DpL K H [] []
  | cons {v:V} {d:D} {vs:List V} {ds:List D}:Dp K H v d→DpL K H vs ds→DpL K H (v::vs) (d::ds)
end
structure Tk (H H':Hp):Prop where
  tup:∀ a xs,H a=some (.tup xs)→H' a=some (.tup xs)
  frz:∀ a o u,H a=some (.frz o u)→H' a=some (.frz o u)
theorem Tk.refl (H:Hp):Tk H H:=⟨fun _ _ h=>h,fun _ _ _ h=>h⟩
theorem Tk.trans {H H1 H2:Hp}(a:Tk H H1)(b:Tk H1 H2):Tk H H2:=⟨fun c xs h=>b.tup c xs (a.tup c xs h),fun c o u h=>b.frz c o u (a.frz c o u h)⟩
theorem Tk.upd {H:Hp}{a:Addr}{o:HO}(h1:∀ xs,H a≠some (.tup xs))(h2:∀ o u,H a≠some (.frz o u)):Tk H (L2.upd H a o):=
  ⟨fun b xs h=>by rw[aA (fun z=>by subst z;exact h1 _ h)];exact h,fun b o u h=>by rw[aA (fun z=>by subst z;exact h2 _ _ h)];exact h⟩
theorem Tk.new {H:Hp}{a:Addr}{o:HO}(h:H a=none):Tk H (L2.upd H a o):=.upd (fun _ e=>by rw[h] at e;cases e) fun _ _ e=>by rw[h] at e;cases e
theorem Tk.sqT {K:PySem.W.Frag}{H H':Hp}{a:Addr}{xs:List V}(t:Tk H H')(h:SqT K H a xs):SqT K H' a xs:=by
  rcases h with (h | ⟨o,h⟩) | h
  · exact .inl (.inl (t.tup _ _ h))
  · exact .inl (.inr ⟨o,t.frz _ _ _ h⟩)
  · exact .inr h
theorem Tk.sqF {K:PySem.W.Frag}{H H':Hp}{a:Addr}{xs:List V}(t:Tk H H')(h:SqF K H a xs):SqF K H' a xs:=by
  rcases h with ⟨o,h⟩ | h
  · exact .inl ⟨o,t.frz _ _ _ h⟩
  · exact .inr h
mutual
theorem Dp.mono {K:PySem.W.Frag}{H H':Hp}(t:Tk H H'):∀ {v:V} {d:D},Dp K H v d→Dp K H' v d
  | _,_,.non=>.non
  | _,_,.bl b=>.bl b
  | _,_,.int i=>.int i
  | _,_,.str x=>.str x
  | _,_,.ty n=>.ty n
  | _,_,.tup h l=>.tup (t.sqT h) (DpL.mono t l)
  | _,_,.ls h l=>.ls (t.sqF h) (DpL.mono t l)
  | _,_,.obj a=>.obj a
theorem DpL.mono {K:PySem.W.Frag}{H H':Hp}(t:Tk H H'):∀ {vs:List V} {ds:List D},DpL K H vs ds→DpL K H' vs ds
  | _,_,.nil=>.nil
  | _,_,.cons h l=>.cons (Dp.mono t h) (DpL.mono t l)
end
theorem DpL.length {K:PySem.W.Frag}{H:Hp}:∀ {vs:List V} {ds:List D},DpL K H vs ds→vs.length=ds.length
  | _,_,.nil=>rfl
  | _,_,.cons _ l=>by rw[List.length_cons,List.length_cons,DpL.length l]
theorem DpL.get {K:PySem.W.Frag}{H:Hp}:∀ {vs:List V} {ds:List D} {i:Nat} {d:D},DpL K H vs ds→ds[i]? = some d→∃ v,vs[i]? = some v∧Dp K H v d
  | _,_,_,_,.nil,e=>by simp at e
  | _,_,0,_,.cons h _,e=>by simp at e;subst e;exact ⟨_,rfl,h⟩
  | _,_,i+1,d,.cons _ l,e=>by
    obtain ⟨v,e1,h⟩:=DpL.get (i:=i) (d:=d) l (by simpa using e)
    exact ⟨v,by simpa using e1,h⟩
theorem DpL.get' {K:PySem.W.Frag}{H:Hp}:∀ {vs:List V} {ds:List D} {i:Nat} {v:V},DpL K H vs ds→vs[i]? = some v→∃ d,ds[i]? = some d∧Dp K H v d
  | _,_,_,_,.nil,e=>by simp at e
  | _,_,0,_,.cons h _,e=>by simp at e;subst e;exact ⟨_,rfl,h⟩
  | _,_,i+1,d,.cons _ l,e=>by
    obtain ⟨v,e1,h⟩:=DpL.get' (i:=i) (v:=d) l (by simpa using e)
    exact ⟨v,by simpa using e1,h⟩
theorem DpL.set {K:PySem.W.Frag}{H:Hp}{v:V}{d:D}(h:Dp K H v d):∀ {vs:List V} {ds:List D} (i:Nat),DpL K H vs ds→DpL K H (vs.set i v) (ds.set i d)
  | _,_,_,.nil=>.nil
  | _,_,0,.cons _ l=>.cons h l
  | _,_,i+1,.cons q l=>.cons q (DpL.set h i l)
theorem DpL.append {K:PySem.W.Frag}{H:Hp}:∀ {vs ws:List V} {ds es:List D},DpL K H vs ds→DpL K H ws es→DpL K H (vs++ws) (ds++es)
  | _,_,_,_,.nil,s=>s
  | _,_,_,_,.cons h l,s=>.cons h (DpL.append l s)
theorem DpL.at {K:PySem.W.Frag}{H:Hp}{vs:List V}{ds:List D}{i:Int}{d:D}(l:DpL K H vs ds)(e:atD ds i=some d):∃ v,atI vs i=some v∧Dp K H v d:=by
  unfold atD atI at e
  unfold atI
  rw[l.length]
  cases q:ixN ds.length i with
  | none=>rw[q] at e;cases e
  | some j=>
    rw[q] at e
    exact l.get e
def DpK (K:PySem.W.Frag)(H:Hp)(xs:List (Key×V))(kvs:List (Key×D)):Prop:=xs.map (·.1)=kvs.map (·.1)∧DpL K H (xs.map (·.2)) (kvs.map (·.2))
theorem DpK.mono {K:PySem.W.Frag}{H H':Hp}(t:Tk H H'){xs:List (Key×V)}{kvs:List (Key×D)}(h:DpK K H xs kvs):DpK K H' xs kvs:=⟨h.1,h.2.mono t⟩
def tu (K:PySem.W.Frag)(H:Hp)(a:Addr):MO→Prop
  | .lst ds=>∃ xs,H a=some (.lst xs)∧DpL K H xs ds
  | .dct kvs=>∃ xs,H a=some (.dK xs)∧DpK K H xs kvs
theorem tu.go {K:PySem.W.Frag}{H H':Hp}{a:Addr}{o:MO}(h:tu K H a o)(t:Tk H H')(k:∀ u,H a=some u→H' a=some u):tu K H' a o:=by
  cases o with
  | lst ds=>obtain ⟨xs,z,l⟩:=h;exact ⟨xs,k _ z,l.mono t⟩
  | dct kvs=>obtain ⟨xs,z,l⟩:=h;exact ⟨xs,k _ z,l.mono t⟩
theorem tu.ne {K:PySem.W.Frag}{H:Hp}{a q:Addr}{o:MO}{u:HO}(h:tu K H a o)(t:Tk H (L2.upd H q u))(k:a≠q):tu K (L2.upd H q u) a o:=h.go t fun _ e=>by rw[aA k];exact e
def bE (K:PySem.W.Frag)(H:Hp)(μ:Mu):Prop:=∀ a o,μ a=some o→tu K H a o
theorem bE.free {K:PySem.W.Frag}{H:Hp}{μ:Mu}(h:bE K H μ){a:Addr}(e:H a=none):μ a=none:=by
  cases q:μ a with
  | none=>rfl
  | some o=>
    cases o with
    | lst ds=>obtain ⟨xs,z,_⟩:=h a _ q;rw[e] at z;cases z
    | dct ds=>obtain ⟨xs,z,_⟩:=h a _ q;rw[e] at z;cases z
theorem bE.keep {K:PySem.W.Frag}{H H':Hp}{μ:Mu}(h:bE K H μ)(t:Tk H H')(k:∀ a u,μ a≠none→H a=some u→H' a=some u):bE K H' μ:=fun a o e=>by
  exact (h a _ e).go t fun u z=>k a u (by rw[e];simp) z
def Sub (μ μ':Mu):Prop:=∀ a o,μ a=some o→μ' a=some o
theorem Sub.refl (μ:Mu):Sub μ μ:=fun _ _ h=>h
theorem Sub.new {μ:Mu}{p:Addr}{o:MO}(h:μ p=none):Sub μ (up μ p o):=fun a u e=>by
  rw[aV (fun z=>by subst z;rw[h] at e;cases e)];exact e
theorem Sub.trans {μ μ1 μ2:Mu}(a:Sub μ μ1)(b:Sub μ1 μ2):Sub μ μ2:=fun c o h=>b c o (a c o h)
theorem bE.sub {K:PySem.W.Frag}{H:Hp}{μ μ':Mu}(h:bE K H μ')(s:Sub μ μ'):bE K H μ:=fun a o e=>h a o (s a o e)
structure Rl (K:PySem.W.Frag) (σ:L2.St) (H:Hp) (ρ:ST) (μ:Mu):Prop where
  len:ρ.length=σ.length
  loc:∀ i d,lk ρ i=some d→∃ v,σ[i]? = some (some v)∧Dp K H v d
  mu:bE K H μ
theorem Rl.go {K:PySem.W.Frag}{σ:L2.St}{H H':Hp}{ρ:ST}{μ μ':Mu}(r:Rl K σ H ρ μ)(t:Tk H H')(m:bE K H' μ'):Rl K σ H' ρ μ':=
  ⟨r.len,fun i d e=>let ⟨v,h1,h2⟩:=r.loc i d e;⟨v,h1,h2.mono t⟩,m⟩
theorem AF:∀ (ρ:ST) (i j:Nat) (d:D),lk (ρ.set i (some d)) j=if i=j∧i < ρ.length then some d else lk ρ j
  | [],i,j,d=>by simp[lk]
  | o::r,0,0,d=>by simp[lk]
  | o::r,0,j+1,d=>by simp[lk]
  | o::r,i+1,0,d=>by simp[lk]
  | o::r,i+1,j+1,d=>by
    show lk (r.set i (some d)) j=_
    rw[AF r i j d]
    simp[lk]
theorem Rl.set {K:PySem.W.Frag}{σ:L2.St}{H:Hp}{ρ:ST}{μ:Mu}(r:Rl K σ H ρ μ){v:V}{d:D}(h:Dp K H v d)(i:Nat):Rl K (σ.set i (some v)) H (ρ.set i (some d)) μ:=by
  refine ⟨by simp[r.len],fun j e q=>?_,r.mu⟩
  rw[AF] at q
  split at q
  · rename_i hc
    obtain ⟨rfl,hlt⟩:=hc
    cases q
    exact ⟨v,by rw[List.getElem?_set_self (by rw[← r.len];exact hlt)],h⟩
  · rename_i hc
    obtain ⟨u,h1,h2⟩:=r.loc j e q
    by_cases hij:i=j
    · subst hij
      have:¬ i < ρ.length:=fun z=>hc ⟨rfl,z⟩
      have hn:σ[i]? = none:=List.getElem?_eq_none_iff.mpr (by rw[← r.len];omega)
      rw[hn] at h1;cases h1
    · exact ⟨u,by rw[List.getElem?_set_ne hij];exact h1,h2⟩
abbrev fN (K:PySem.W.Frag)(H:Hp)(Q:DK)(Q':VK):Prop:=∀ v H' d μ',Tk H H'→bE K H' μ'→Dp K H' v d→Q d μ'→Q' v H'
def Sim (K:PySem.W.Frag)(t:TE)(T:ETr):Prop:=∀ σ H ρ μ (Q:DK) (Q':VK),Rl K σ H ρ μ→T ρ μ Q→fN K H Q Q'→t σ H Q'
def CM (K:PySem.W.Frag)(t:TT)(T:TTr):Prop:=∀ σ H ρ μ (Q:Bool→Mu→Prop) (Q':Bool→Hp→Prop),Rl K σ H ρ μ→T ρ μ Q→(∀ b H' μ',Tk H H'→bE K H' μ'→Q b μ'→Q' b H')→t σ H Q'
def Jr (K:PySem.W.Frag)(t:TA)(T:ATr):Prop:=∀ σ H ρ μ (Q:List D→Mu→Prop) (Q':List V→Hp→Prop),Rl K σ H ρ μ→T ρ μ Q→(∀ vs H' ds μ',Tk H H'→bE K H' μ'→DpL K H' vs ds→Q ds μ'→Q' vs H')→t σ H Q'
abbrev qQ (K:PySem.W.Frag)(H:Hp)(N:ST→Mu→Prop)(N':L2.St→Hp→Prop):Prop:=∀ σ' H' ρ' μ',Tk H H'→Rl K σ' H' ρ' μ'→N ρ' μ'→N' σ' H'
structure Af (K:PySem.W.Frag) (H:Hp) (E:En) (E':Ends):Prop where
  nx:qQ K H E.nx E'.nx
  rt:fN K H E.rt E'.rt
  bk:qQ K H E.bk E'.bk
  ct:qQ K H E.ct E'.ct
theorem Af.go {K:PySem.W.Frag}{H H1:Hp}{E:En}{E':Ends}(e:Af K H E E')(t:Tk H H1):Af K H1 E E':=
  ⟨fun _ _ _ _ t'=>e.nx _ _ _ _ (t.trans t'),fun _ _ _ _ t'=>e.rt _ _ _ _ (t.trans t'),fun _ _ _ _ t'=>e.bk _ _ _ _ (t.trans t'),fun _ _ _ _ t'=>e.ct _ _ _ _ (t.trans t')⟩
def D3 (K:PySem.W.Frag)(t:TS)(T:STr):Prop:=∀ σ H ρ μ (E:En) (E':Ends),Rl K σ H ρ μ→T E ρ μ→Af K H E E'→t E' σ H
def G7 (K:PySem.W.Frag)(g:TG)(G:GTr):Prop:=∀ σ H ρ μ v d (k:ST→Mu→Prop) (k':L2.St→Hp→Prop),Rl K σ H ρ μ→Dp K H v d→G d ρ μ k→qQ K H k k'→g v σ H k'
structure LE (X:Cx) (e:Expr) (T:ETr):Prop where
  ex:∃ t,PE X e t∧Sim X.K t T
structure LT (X:Cx) (e:Expr) (T:TTr):Prop where
  ex:∃ t,PT X e t∧CM X.K t T
structure LW (X:Cx) (e:Expr) (T:TTr):Prop where
  ex:∃ t,PW X e t∧CM X.K t T
structure LA (X:Cx) (es:List Expr) (T:ATr):Prop where
  ex:∃ t,PA X es t∧Jr X.K t T
structure LS (X:Cx) (st:Stmt) (T:STr):Prop where
  ex:∃ t,PS X st t∧D3 X.K t T
structure LSs (X:Cx) (sts:List Stmt) (T:STr):Prop where
  ex:∃ t,PSs X sts t∧D3 X.K t T
structure LG (X:Cx) (tg:Expr) (G:GTr):Prop where
  ex:∃ g,PG X tg g∧G7 X.K g G
section
variable {X:Cx} {a b c e:Expr} {Ta Tb Tc:ETr} {pos:Pos}
theorem ae (i:Nat){x:Str}(hN:X.N[i]? = some x:=by rfl)(hv:Vis X.env.scope x:=by first | exact Or.inl rfl | exact Or.inr (Or.inl rfl) | exact Or.inr (Or.inr rfl))(hd:(x == ("__debug__" : Str))=false:=by decide)
    (hcd:(x == ("__classdict__" : Str))=false:=by decide):LE X (.Name x pos) (ag i):=
  ⟨_,Ao hN hv hd hcd,fun σ H ρ μ Q Q' r h k=>by
    have h:kO (lk ρ i) fun d=>Q d μ:=h
    cases q:lk ρ i with
    | none=>rw[q] at h;exact False.elim h
    | some d=>
      rw[q] at h
      have h:Q d μ:=h
      obtain ⟨v,e1,p⟩:=r.loc i d q
      exact ⟨v,e1,k v H d μ (.refl H) r.mu p h⟩⟩
theorem le_int {i:Int}{j}:LE X (.Constant (.int i) j pos) (TC (.int i)):=⟨_,Il,fun σ H ρ μ Q Q' r h k=>k _ H _ μ (.refl H) r.mu (.int i) h⟩
theorem iD {b:Bool}{j}:LE X (.Constant (.bool b) j pos) (TC (.bl b)):=⟨_,JU,fun σ H ρ μ Q Q' r h k=>k _ H _ μ (.refl H) r.mu (.bl b) h⟩
theorem Bh {j}:LE X (.Constant .none j pos) (TC .non):=⟨_,Ig,fun σ H ρ μ Q Q' r h k=>k _ H _ μ (.refl H) r.mu .non h⟩
theorem le_str {x:Str}{j}:LE X (.Constant (.str x) j pos) (TC (.str x)):=⟨_,GJ,fun σ H ρ μ Q Q' r h k=>k _ H _ μ (.refl H) r.mu (.str x) h⟩
def dj (K:PySem.W.Frag)(r:R2)(R:DR2):Prop:=∀ H μ x y dx dy (Q:DK) (Q':VK),bE K H μ→Dp K H x dx→Dp K H y dy→R dx dy μ Q→fN K H Q Q'→r x y H Q'
def IP (K:PySem.W.Frag)(r:V→Hp→VK→Prop)(R:DR):Prop:=∀ H μ x dx (Q:DK) (Q':VK),bE K H μ→Dp K H x dx→R dx μ Q→fN K H Q Q'→r x H Q'
theorem fN.go {K:PySem.W.Frag}{H H1:Hp}{Q:DK}{Q':VK}(k:fN K H Q Q')(t:Tk H H1):fN K H1 Q Q':=fun v H' d μ' t'=>k v H' d μ' (t.trans t')
theorem fU {K:PySem.W.Frag}{r:R2}{R:DR2}{ta tb:TE}(hr:dj K r R)(ha:Sim K ta Ta)(hb:Sim K tb Tb):Sim K (tOp r ta tb) (ak R Ta Tb):=fun σ H ρ μ Q Q' rl h k=>
  ha σ H ρ μ _ _ rl h fun x H1 dx μ1 t1 m1 p1 h1=>hb σ H1 ρ μ1 _ _ (rl.go t1 m1) h1 fun y H2 dy μ2 t2 m2 p2 h2=>hr H2 μ2 x y dx dy Q Q' m2 (p1.mono t2) p2 h2 (k.go (t1.trans t2))
theorem fu {op:Operator}{r:R2}{R:DR2}(ho:OpR X (binaryOp op) r)(hr:dj X.K r R)(ha:LE X a Ta)(hb:LE X b Tb):LE X (.BinOp a op b pos) (ak R Ta Tb):=by
  obtain ⟨ta,pa,sa⟩:=ha.ex
  obtain ⟨tb,pb,sb⟩:=hb.ex
  exact ⟨_,E4 ho pa pb,fU hr sa sb⟩
theorem iQ {op:CmpOp}{r:R2}{R:DR2}(ho:OpR X (compareOp op) r)(hr:dj X.K r R)(ha:LE X a Ta)(hb:LE X b Tb)(hm:behindInMarks op b=false):LE X (.Compare a [op] [b] pos) (ak R Ta Tb):=by
  obtain ⟨ta,pa,sa⟩:=ha.ex
  obtain ⟨tb,pb,sb⟩:=hb.ex
  exact ⟨_,Dl ho pa pb hm,fU hr sa sb⟩
theorem HY {K:PySem.W.Frag}{t:TE}{T:ETr}(h:Sim K t T):CM K (ED t) (TB T):=fun σ H ρ μ Q Q' rl hh k=>
  h σ H ρ μ _ _ rl hh fun v H' d μ' t' m' p' h'=>by
    cases p' with
    | bl c=>exact ⟨c,rfl,k c H' μ' t' m' h'⟩
    | _=>exact False.elim h'
theorem Fi {K:PySem.W.Frag}{t:TE}{T:ETr}(h:Sim K t T):CM K (tB t) (TB T):=fun σ H ρ μ Q Q' rl hh k=>
  h σ H ρ μ _ _ rl hh fun v H' d μ' t' m' p' h'=>by
    cases p' with
    | bl c=>exact ⟨c,rfl,k c H' μ' t' m' h'⟩
    | _=>exact False.elim h'
theorem fX {op:CmpOp}{r:R2}{R:DR2}(ho:OpR X (compareOp op) r)(hr:dj X.K r R)(ha:LE X a Ta)(hb:LE X b Tb)(hm:behindInMarks op b=false):LT X (.Compare a [op] [b] pos) (TB (ak R Ta Tb)):=by
  obtain ⟨ta,pa,sa⟩:=ha.ex
  obtain ⟨tb,pb,sb⟩:=hb.ex
  exact ⟨_,Ex ho pa pb hm,HY (fU hr sa sb)⟩
theorem OpR.or {f:Value→Value→Sem Value}{r r':R2}(h:OpR X f r)(h':OpR X f r'):OpR X f (fun x y H Q=>r x y H Q∨r' x y H Q):=fun pins s σ H x y v u Q I rx ry q=>by
  rcases q with q | q
  · exact h pins s σ H x y v u Q I rx ry q
  · exact h' pins s σ H x y v u Q I rx ry q
theorem je {K:PySem.W.Frag}{C:Int→Int→Prop}{g:Int→Int→V}{R:DR2}(f:Int→Int→D)(hg:∀ H i j,Dp K H (g i j) (f i j))(hR:∀ i j μ Q,R (.int i) (.int j) μ Q→C i j∧Q (f i j) μ)
    (hn:∀ dx dy μ Q,R dx dy μ Q→(∃ i,dx=.int i)∧∃ j,dy=.int j):dj K (rI C g) R:=fun H μ x y dx dy Q Q' m px py h k=>by
  obtain ⟨⟨i,rfl⟩,j,rfl⟩:=hn _ _ _ _ h
  cases px;cases py
  obtain ⟨h1,h2⟩:=hR _ _ _ _ h
  exact ⟨i,j,rfl,rfl,h1,k _ H _ μ (.refl H) m (hg H i j) h2⟩
theorem qg {K:PySem.W.Frag}{g:Int→Int→V}{R:DR2}(f:Int→Int→D)(hg:∀ H i j,Dp K H (g i j) (f i j))(hR:∀ i j μ Q,R (.int i) (.int j) μ Q→Q (f i j) μ)
    (hn:∀ dx dy μ Q,R dx dy μ Q→(∃ i,dx=.int i)∧∃ j,dy=.int j):dj K (rI0 g) R:=fun H μ x y dx dy Q Q' m px py h k=>by
  obtain ⟨⟨i,rfl⟩,j,rfl⟩:=hn _ _ _ _ h
  cases px;cases py
  exact ⟨i,j,rfl,rfl,k _ H _ μ (.refl H) m (hg H i j) (hR _ _ _ _ h)⟩
theorem jg (ha:LE X a Ta)(hb:LE X b Tb):LE X (.BinOp a .Sub b pos) (ak j5 Ta Tb):=fu GZ (qg (fun i j=>.int (i - j)) (fun _ _ _=>.int _) (fun _ _ _ _ h=>h) (fun dx dy μ Q h=>by cases dx<;>cases dy<;>first | exact ⟨⟨_,rfl⟩,_,rfl⟩ | exact False.elim h)) ha hb
theorem cg.abs {j:Int}(h:cg j):j.natAbs < 2 ^ 256:=by
  have e:(2:Nat) ^ 256=115792089237316195423570985008687907853269984665640564039457584007913129639936:=by decide +kernel
  rw[e]
  obtain ⟨h1,h2⟩:=h
  omega
theorem MulOk.ok {i j:Int}(h:MulOk i j):IntMulOk i j:=by
  rcases h with (⟨h1,h2⟩ | ⟨h1,h2⟩) | ⟨h1,h2⟩
  · exact .of_left (intBits_le_64 h1 h2)
  · exact .of_right (intBits_le_64 h1 h2)
  · exact .of_le (PyProof.Rows.intBits_le h1.abs) (PyProof.Rows.intBits_le h2.abs) (by decide)
theorem D5:OpR X (binaryOp .Mult) (rI MulOk fun i j=>.int (i*j)):=opI fun _ _ _ _ _ _ _ hc q=>mul_int q hc.ok
theorem fc.np {i j:Int}(h:fc j):Builtin.divisionGoesByPylong i j=false:=by
  refine PyProof.noPylong_of_log2 ?_
  have h0:j.natAbs≠0:=by have:=h.1;omega
  have:=(Nat.log2_lt h0).mpr h.2.abs
  omega
theorem Eh:OpR X (binaryOp .FloorDiv) (rI (fun _ j=>fc j) fun i j=>.int (i.fdiv j)):=opI fun _ _ _ _ _ _ _ hc q=>floordiv_int hc.1 q (.inl hc.np)
theorem dG (ha:LE X a Ta)(hb:LE X b Tb):LE X (.BinOp a .FloorDiv b pos) (ak ig Ta Tb):=fu Eh (je (fun i j=>.int (i.fdiv j)) (fun _ _ _=>.int _) (fun _ _ _ _ h=>⟨h.1,h.2⟩) (fun dx dy μ Q h=>by cases dx<;>cases dy<;>first | exact ⟨⟨_,rfl⟩,_,rfl⟩ | exact False.elim h)) ha hb
theorem le_mul (ha:LE X a Ta)(hb:LE X b Tb):LE X (.BinOp a .Mult b pos) (ak d7 Ta Tb):=fu D5 (je (fun i j=>.int (i*j)) (fun _ _ _=>.int _) (fun _ _ _ _ h=>⟨h.1,h.2⟩) (fun dx dy μ Q h=>by cases dx<;>cases dy<;>first | exact ⟨⟨_,rfl⟩,_,rfl⟩ | exact False.elim h)) ha hb
theorem fJ (ha:LE X a Ta)(hb:LE X b Tb):LE X (.BinOp a .Mod b pos) (ak kG Ta Tb):=fu CP (je (fun i j=>.int (i.fmod j)) (fun _ _ _=>.int _) (fun _ _ _ _ h=>⟨h.1,h.2⟩) (fun dx dy μ Q h=>by cases dx<;>cases dy<;>first | exact ⟨⟨_,rfl⟩,_,rfl⟩ | exact False.elim h)) ha hb
theorem le_pow (ha:LE X a Ta)(hb:LE X b Tb):LE X (.BinOp a .Pow b pos) (ak z5 Ta Tb):=fu HV (je (fun i j=>.int (i ^ j.toNat)) (fun _ _ _=>.int _) (fun _ _ _ _ h=>⟨h.1,h.2⟩) (fun dx dy μ Q h=>by cases dx<;>cases dy<;>first | exact ⟨⟨_,rfl⟩,_,rfl⟩ | exact False.elim h)) ha hb
theorem fR {K:PySem.W.Frag}(p:Int→Int→Bool):dj K (rI0 fun i j=>.bl (p i j)) (Aw p):=qg (fun i j=>.bl (p i j)) (fun _ _ _=>.bl _) (fun _ _ _ _ h=>h) (fun dx dy μ Q h=>by cases dx<;>cases dy<;>first | exact ⟨⟨_,rfl⟩,_,rfl⟩ | exact False.elim h)
theorem Jf (ha:LE X a Ta)(hb:LE X b Tb):LE X (.Compare a [.Lt] [b] pos) (ak rLt Ta Tb):=iQ E8 (fR _) ha hb (dR _)
theorem ER (ha:LE X a Ta)(hb:LE X b Tb):LE X (.Compare a [.LtE] [b] pos) (ak rLe Ta Tb):=iQ Jo (fR _) ha hb (dR _)
theorem IV (ha:LE X a Ta)(hb:LE X b Tb):LE X (.Compare a [.GtE] [b] pos) (ak rGe Ta Tb):=iQ E6 (fR _) ha hb (dR _)
theorem EE (ha:LE X a Ta)(hb:LE X b Tb):LT X (.Compare a [.Lt] [b] pos) (TB (ak rLt Ta Tb)):=fX E8 (fR _) ha hb (dR _)
theorem rF (ha:LE X a Ta)(hb:LE X b Tb):LT X (.Compare a [.Gt] [b] pos) (TB (ak rGt Ta Tb)):=fX Jx (fR _) ha hb (dR _)
theorem Ff (ha:LE X a Ta)(hb:LE X b Tb):LT X (.Compare a [.GtE] [b] pos) (TB (ak rGe Ta Tb)):=fX E6 (fR _) ha hb (dR _)
theorem J8 {op:UnaryOp}{r:V→Hp→VK→Prop}{R:DR}(ho:UnR X (unaryOp op) r)(hr:IP X.K r R)(ha:LE X a Ta):LE X (.UnaryOp op a pos) (TUn R Ta):=by
  obtain ⟨ta,pa,sa⟩:=ha.ex
  exact ⟨_,JQ ho pa,fun σ H ρ μ Q Q' rl h k=>sa σ H ρ μ _ _ rl h fun x H1 dx μ1 t1 m1 p1 h1=>hr H1 μ1 x dx Q Q' m1 p1 h1 (k.go t1)⟩
theorem eO (ha:LE X a Ta)(he:∀ whole,isTrue a X.env whole=(do let v ← whole;standAt a.pos;holding [v] (truthy v)):=by intro _;rfl):LT X a (TB Ta):=by
  obtain ⟨ta,pa,sa⟩:=ha.ex
  exact ⟨_,Gb pa he,Fi sa⟩
variable {tA tB' tC':TTr} {rest:List Expr}
theorem fo (ha:LT X a tA):LT X (.UnaryOp .Not a pos) (iY tA):=by
  obtain ⟨ta,pa,sa⟩:=ha.ex
  exact ⟨_,Fu pa,fun σ H ρ μ Q Q' rl h k=>sa σ H ρ μ _ _ rl h fun c H1 μ1 t1 m1 h1=>k (!c) H1 μ1 t1 m1 h1⟩
theorem LW.lt (h:LW X a tA):LT X a tA:=by
  obtain ⟨ta,pa,sa⟩:=h.ex
  exact ⟨_,pa.pt,sa⟩
theorem Ee (ha:LT X a tA):LW X (.BoolOp .And [a] pos) tA:=by
  obtain ⟨ta,pa,sa⟩:=ha.ex
  exact ⟨_,pw_and1 pa,sa⟩
theorem uj (ha:LT X a tA):LW X (.BoolOp .Or [a] pos) tA:=by
  obtain ⟨ta,pa,sa⟩:=ha.ex
  exact ⟨_,pw_or1 pa,sa⟩
theorem Ic (ha:LT X a tA)(hb:LW X (.BoolOp .And (b::rest) pos) tB'):LW X (.BoolOp .And (a::b::rest) pos) (xk tA tB'):=by
  obtain ⟨ta,pa,sa⟩:=ha.ex
  obtain ⟨tb,pb,sb⟩:=hb.ex
  refine ⟨_,pw_and pa pb,fun σ H ρ μ Q Q' rl h k=>sa σ H ρ μ _ _ rl h fun c H1 μ1 t1 m1 h1=>?_⟩
  cases c with
  | true=>exact sE (sb σ H1 ρ μ1 Q Q' (rl.go t1 m1) h1 fun b H2 μ2 t2=>k b H2 μ2 (t1.trans t2))
  | false=>exact sP (k false H1 μ1 t1 m1 h1)
theorem oI (ha:LT X a tA)(hb:LW X (.BoolOp .Or (b::rest) pos) tB'):LW X (.BoolOp .Or (a::b::rest) pos) (TOr tA tB'):=by
  obtain ⟨ta,pa,sa⟩:=ha.ex
  obtain ⟨tb,pb,sb⟩:=hb.ex
  refine ⟨_,pw_or pa pb,fun σ H ρ μ Q Q' rl h k=>sa σ H ρ μ _ _ rl h fun c H1 μ1 t1 m1 h1=>?_⟩
  cases c with
  | true=>exact sE (k true H1 μ1 t1 m1 h1)
  | false=>exact sP (sb σ H1 ρ μ1 Q Q' (rl.go t1 m1) h1 fun b H2 μ2 t2=>k b H2 μ2 (t1.trans t2))
theorem iW {op}(h:LE X a Ta):LE X (.BoolOp op [a] pos) Ta:=by
  obtain ⟨ta,pa,sa⟩:=h.ex
  exact ⟨_,GC pa,sa⟩
theorem jo (ha:LE X a Ta)(hb:LE X (.BoolOp .And (b::rest) pos) Tb):LE X (.BoolOp .And (a::b::rest) pos) (fO Ta Tb):=by
  obtain ⟨ta,pa,sa⟩:=ha.ex
  obtain ⟨tb,pb,sb⟩:=hb.ex
  refine ⟨_,GO pa pb,fun σ H ρ μ Q Q' rl h k=>sa σ H ρ μ _ _ rl h fun x H1 dx μ1 t1 m1 p1 h1=>?_⟩
  cases p1 with
  | bl c=>
    refine ⟨c,rfl,?_⟩
    cases c with
    | true=>exact sE (sb σ H1 ρ μ1 Q Q' (rl.go t1 m1) h1 (k.go t1))
    | false=>exact sP (k _ H1 _ μ1 t1 m1 (.bl _) h1)
  | _=>exact False.elim h1
theorem Kc (ha:LE X a Ta)(hb:LE X (.BoolOp .Or (b::rest) pos) Tb):LE X (.BoolOp .Or (a::b::rest) pos) (xu Ta Tb):=by
  obtain ⟨ta,pa,sa⟩:=ha.ex
  obtain ⟨tb,pb,sb⟩:=hb.ex
  refine ⟨_,Kd pa pb,fun σ H ρ μ Q Q' rl h k=>sa σ H ρ μ _ _ rl h fun x H1 dx μ1 t1 m1 p1 h1=>?_⟩
  cases p1 with
  | bl c=>
    refine ⟨c,rfl,?_⟩
    cases c with
    | true=>exact sE (k _ H1 _ μ1 t1 m1 (.bl _) h1)
    | false=>exact sP (sb σ H1 ρ μ1 Q Q' (rl.go t1 m1) h1 (k.go t1))
  | _=>exact False.elim h1
theorem tV (ha:LE X a Ta):LE X (.UnaryOp .Not a pos) (jG Ta):=by
  obtain ⟨ta,pa,sa⟩:=ha.ex
  refine ⟨_,GU pa,fun σ H ρ μ Q Q' rl h k=>sa σ H ρ μ _ _ rl h fun x H1 dx μ1 t1 m1 p1 h1=>?_⟩
  cases p1 with
  | bl c=>exact ⟨c,rfl,k _ H1 _ μ1 t1 m1 (.bl _) h1⟩
  | _=>exact False.elim h1
variable {es:List Expr} {At:ATr}
theorem ah:LA X [] au:=⟨_,fQ,fun σ H ρ μ Q Q' rl h k=>k [] H [] μ (.refl H) rl.mu .nil h⟩
theorem aa (ha:LE X e Ta)(hr:LA X es At)(hs:starEach (e::es) X.env=(false,eval e X.env)::starEach es X.env:=by rfl):LA X (e::es) (af Ta At):=by
  obtain ⟨ta,pa,sa⟩:=ha.ex
  obtain ⟨tr,pr,sr⟩:=hr.ex
  exact ⟨_,cz pa pr hs,fun σ H ρ μ Q Q' rl h k=>sa σ H ρ μ _ _ rl h fun x H1 dx μ1 t1 m1 p1 h1=>sr σ H1 ρ μ1 _ _ (rl.go t1 m1) h1 fun xs H2 ds μ2 t2 m2 p2 h2=>k _ H2 _ μ2 (t1.trans t2) m2 (.cons (p1.mono t2) p2) h2⟩
theorem cm {K:PySem.W.Frag}{H:Hp}{μ:Mu}{p:Addr}{o:HO}(m:bE K H μ)(hp:H p=none):bE K (L2.upd H p o) μ:=m.keep (.new hp) fun a' xs' _ e=>by rw[aA (aQ e hp)];exact e
theorem big {n:Nat}(h:n≤1000000):n≤sizeLine:=Nat.le_trans h (by decide)
theorem a7 {x1}(h:LA X es At):LE X (.Tuple es x1 pos) (cq At):=by
  obtain ⟨ta,pa,sa⟩:=h.ex
  refine ⟨_,Hs pa,fun σ H ρ μ Q Q' rl h k=>sa σ H ρ μ _ _ rl h fun xs H1 ds μ1 t1 m1 p1 h1=>⟨by rw[p1.length];exact big h1.1,fun p hp=>?_⟩⟩
  exact k _ _ _ μ1 (t1.trans (.new hp)) (cm m1 hp) (.tup (SqT.of aF) (p1.mono (.new hp))) h1.2
theorem vn (h:LA X es At):LE X (.List es pos) (rB At):=by
  obtain ⟨ta,pa,sa⟩:=h.ex
  refine ⟨_,zb pa,fun σ H ρ μ Q Q' rl h k=>sa σ H ρ μ _ _ rl h fun xs H1 ds μ1 t1 m1 p1 h1=>⟨by rw[p1.length];exact big h1.1,fun p hp=>?_⟩⟩
  refine k _ _ _ (up μ1 p (.lst ds)) (t1.trans (.new hp)) (fun a o e=>?_) (.obj p) (h1.2 p (m1.free hp))
  by_cases ha:a=p
  · subst ha
    rw[aM] at e;cases e
    exact ⟨xs,aF,p1.mono (.new hp)⟩
  · rw[aV ha] at e
    exact cm m1 hp a o e
def JD (t:TE):TE:=fun σ H Q=>t σ H fun v H1=>∃ a xs,v=.ref a∧H1 a=some (.lst xs)∧∀ o,Q v (L2.upd H1 a (.frz o (.lst xs)))
theorem lA {t:TE}(h:PE X e t):PE X e (JD t):=by
  intro pins s σ H Q I hh
  refine thn (h pins s σ H _ I hh) fun u s1 ⟨v,H1,I1,r,a,xs,ev,ea,q⟩=>?_
  obtain ⟨z,its,n,rv,hg⟩:=(show bU X.prog X.w H1 s1.heap a (.lst xs) from I1.hok a _ ea)
  have nl:∀ b o,H1 b=some o→(∀ ys,o≠.lst ys)→b≠a:=fun b o e1 e2 z=>by subst z;rw[ea] at e1;cases e1;exact e2 _ rfl
  refine ⟨v,_,I1.un (h':=s1.heap) (t':=s1.toks) (H':=L2.upd H1 a (.frz { cls:=.type "list", data:=.seq its.toArray n } (.lst xs))) ⟨fun b o e _ _ _=>e,fun b o e _ _ _=>⟨o.slots,e⟩,fun b o e n _=>?_,fun b o e _=>⟨o,e⟩,fun b ys e=>?_,fun b o u e=>?_,fun b ps e=>⟨#[],?_⟩⟩ (fun b u e=>?_),r,q _⟩
  · rw[aA (fun z=>by subst z;rw[ea] at n;cases n)];exact n
  · rw[aA (nl b _ e (fun _=>nofun))];exact e
  · rw[aA (nl b _ e (fun _=>nofun))];exact e
  · rw[aA (nl b _ e (fun _=>nofun)),e];simp
  · by_cases hb:b=a
    · subst hb
      rw[aF] at e;cases e
      exact ⟨hg,z,its,n,rv,hg⟩
    · rw[aA hb] at e
      refine (I1.hok b u e).jW (fun c w _ q=>q) (fun c q=>?_) fun c ys q=>?_
      · rw[aA (nl c _ q (fun _=>nofun))];exact q
      · rw[aA (nl c _ q (fun _=>nofun))];exact q
theorem cU (h:LA X es At):LE X (.List es pos) (f6 At):=by
  obtain ⟨ta,pa,sa⟩:=h.ex
  refine ⟨_,lA (zb pa),fun σ H ρ μ Q Q' rl h k=>sa σ H ρ μ _ _ rl h fun xs H1 ds μ1 t1 m1 p1 h1=>⟨by rw[p1.length];exact big h1.1,fun p hp=>⟨p,xs,rfl,aF,fun o=>?_⟩⟩⟩
  have e:L2.upd (L2.upd H1 p (.lst xs)) p (.frz o (.lst xs))=L2.upd H1 p (.frz o (.lst xs)):=pw
  rw[e]
  exact k _ _ _ μ1 (t1.trans (.new hp)) (cm m1 hp) (.ls (.inl ⟨o,aF⟩) (p1.mono (.new hp))) h1.2
end
end
section
open PySem PySem.Spec PyProof.Rows L2
mutual
def toP:D→PyData
  | .non=>.none
  | .bl b=>.bool b
  | .int i=>.int i
  | .str x=>.str x
  | .tup ds=>.tuple (iP ds)
  | .ls ds=>.list (iP ds)
  | .ty _=>.none
  | .obj _=>.none
def iP:List D→List PyData
  | []=>[]
  | d::r=>toP d::iP r
end
mutual
theorem eQ:∀ (n:Nat) (d:D),okD n d=true→(toP d).canLay0=true∧(toP d).depth≤n
  | n,.non,_=>⟨rfl,Nat.zero_le _⟩
  | n,.bl b,_=>⟨rfl,Nat.zero_le _⟩
  | n,.int i,_=>⟨rfl,Nat.zero_le _⟩
  | n,.str x,h=>⟨by cases n<;>exact h,Nat.zero_le _⟩
  | n+1,.tup ds,h=>by
    obtain ⟨h1,h2⟩:=kE n ds h
    exact ⟨h1,Nat.succ_le_succ h2⟩
  | n+1,.ls ds,h=>by
    obtain ⟨h1,h2⟩:=kE n ds h
    exact ⟨h1,Nat.succ_le_succ h2⟩
  | 0,.tup ds,h=>by cases h
  | 0,.ls ds,h=>by cases h
  | n,.ty _,h=>by cases n<;>cases h
  | n,.obj _,h=>by cases n<;>cases h
theorem kE:∀ (n:Nat) (ds:List D),bW n ds=true→PyData.canLayAll0 (iP ds)=true∧PyData.depthAll (iP ds)≤n
  | n,[],_=>⟨rfl,Nat.zero_le _⟩
  | n,d::r,h=>by
    have h':okD n d=true∧bW n r=true:=by simpa[bW] using h
    obtain ⟨a1,a2⟩:=eQ n d h'.1
    obtain ⟨b1,b2⟩:=kE n r h'.2
    refine ⟨?_,?_⟩
    · show (PyData.canLay0 (toP d)&&PyData.canLayAll0 (iP r))=true
      rw[a1,b1];rfl
    · show max (PyData.depth (toP d)) (PyData.depthAll (iP r))≤n
      exact Nat.max_le.mpr ⟨a2,b2⟩
end
theorem str_beq (a b:Str):(a == b)=decide (a=b):=by
  by_cases h:a=b
  · subst h;simp
  · rw[decide_eq_false h];exact beq_eq_false_iff_ne.mpr h
mutual
theorem ke:∀ (n m:Nat) (a b:D),okD n a=true→okD m b=true→PyData.eqv (toP a) (toP b)=eqD a b
  | n,m,.non,b,_,hb=>by cases b<;>first | rfl | (cases m<;>cases hb)
  | n,m,.bl x,b,_,hb=>by
    cases b with
    | int y=>simp only[toP,PyData.eqv,eqD];rw[Bool.beq_eq_decide_eq]
    | ty _=>cases m<;>cases hb
    | obj _=>cases m<;>cases hb
    | _=>rfl
  | n,m,.int x,b,_,hb=>by
    cases b with
    | int y=>simp only[toP,PyData.eqv,eqD];rw[Bool.beq_eq_decide_eq]
    | bl y=>simp only[toP,PyData.eqv,eqD];rw[Bool.beq_eq_decide_eq]
    | ty _=>cases m<;>cases hb
    | obj _=>cases m<;>cases hb
    | _=>rfl
  | n,m,.str x,b,_,hb=>by
    cases b with
    | str y=>simp only[toP,PyData.eqv,eqD];exact str_beq x y
    | ty _=>cases m<;>cases hb
    | obj _=>cases m<;>cases hb
    | _=>rfl
  | n+1,m,.tup xs,b,ha,hb=>by
    cases b with
    | tup ys=>
      cases m with
      | zero=>cases hb
      | succ m=>simp only[toP,PyData.eqv,eqD];exact l7 n m xs ys ha hb
    | ty _=>cases m<;>cases hb
    | obj _=>cases m<;>cases hb
    | _=>rfl
  | n+1,m,.ls xs,b,ha,hb=>by
    cases b with
    | ls ys=>
      cases m with
      | zero=>cases hb
      | succ m=>simp only[toP,PyData.eqv,eqD];exact l7 n m xs ys ha hb
    | ty _=>cases m<;>cases hb
    | obj _=>cases m<;>cases hb
    | _=>rfl
  | 0,_,.tup ds,_,h,_=>by cases h
  | 0,_,.ls ds,_,h,_=>by cases h
  | n,_,.ty _,_,h,_=>by cases n<;>cases h
  | n,_,.obj _,_,h,_=>by cases n<;>cases h
theorem l7:∀ (n m:Nat) (a b:List D),bW n a=true→bW m b=true→PyData.eqvAll (iP a) (iP b)=mO a b
  | _,_,[],[],_,_=>rfl
  | _,_,[],_::_,_,_=>by simp[iP,PyData.eqvAll,mO]
  | _,_,_::_,[],_,_=>by simp[iP,PyData.eqvAll,mO]
  | n,m,a::r,b::s,ha,hb=>by
    have ha':okD n a=true∧bW n r=true:=by simpa[bW] using ha
    have hb':okD m b=true∧bW m s=true:=by simpa[bW] using hb
    show (PyData.eqv (toP a) (toP b)&&PyData.eqvAll (iP r) (iP s))=(eqD a b&&mO r s)
    rw[ke n m a b ha'.1 hb'.1,l7 n m r s ha'.2 hb'.2]
end
section
variable {X:Cx} {pins:List (Addr×Obj)} {σ:L2.St} {H:Hp} {s:Shared}
mutual
theorem cD (I:Inv X pins σ H s):∀ {n:Nat} {v:V} {d:D} {u:Value},Dp X.K H v d→okD n d=true→RelV v u→∃ as,Reads s.heap u (toP d) as
  | n,_,_,u,.non,_,r=>by cases (show u=Value.none from r);exact ⟨_,.none⟩
  | n,_,_,u,.bl b,_,r=>by cases (show u=Value.bool b from r);exact ⟨_,.bool b⟩
  | n,_,_,u,.int i,_,r=>by obtain ⟨t,e⟩:=(show ∃ t,u=Value.int i t from r);subst e;exact ⟨_,.int i t⟩
  | n,_,_,u,.str x,_,r=>by obtain ⟨t,e⟩:=(show ∃ t,u=Value.str x t from r);subst e;exact ⟨_,.str x t⟩
  | n,_,_,u,.ty _,h,_=>by cases n<;>cases h
  | n+1,_,_,u,@Dp.tup _ _ a xs ds q l,h,r=>by
    cases (show u=Value.ref a from r)
    obtain ⟨its,rv,⟨o,e1,e2,k,e3⟩,_⟩:=I.tuple q
    obtain ⟨as,ra⟩:=fG I (n:=n) l h rv
    exact ⟨_,.tuple e1 e2 e3 (by simpa using ra)⟩
  | n+1,_,_,u,@Dp.ls _ _ a xs ds q l,h,r=>by
    cases (show u=Value.ref a from r)
    obtain ⟨its,rv,⟨o,k,e1,e2,_,e3⟩,_⟩:=I.list q.sq
    obtain ⟨as,ra⟩:=fG I (n:=n) l h rv
    exact ⟨_,.list e1 e2 e3 (by simpa using ra)⟩
  | 0,_,_,u,@Dp.tup _ _ a xs ds q l,h,r=>by cases h
  | 0,_,_,u,@Dp.ls _ _ a xs ds q l,h,r=>by cases h
  | n,_,_,u,.obj _,h,_=>by cases n<;>cases h
theorem fG (I:Inv X pins σ H s):∀ {n:Nat} {vs:List V} {ds:List D} {us:List Value},DpL X.K H vs ds→bW n ds=true→Vals vs us→∃ as,ReadsAll s.heap us (iP ds) as
  | n,_,_,_,.nil,_,.nil=>⟨_,.nil⟩
  | n,_,_,_,@DpL.cons _ _ v d vs ds h l,ho,.cons r rs=>by
    have ho':okD n d=true∧bW n ds=true:=by simpa[bW] using ho
    obtain ⟨as,ra⟩:=cD I h ho'.1 r
    obtain ⟨bs,rb⟩:=fG I l ho'.2 rs
    exact ⟨_,.cons ra rb⟩
end
end
def Cn (K:PySem.W.Frag)(f:Bool→Bool):R2:=fun x y H Q=>∃ dx dy,Dp K H x dx∧Dp K H y dy∧okD 40 dx=true∧okD 40 dy=true∧Q (.bl (f (eqD dx dy))) H
section
variable {X:Cx} {a b c e:Expr} {Ta Tb Tc:ETr} {pos:Pos}
theorem AM (hu:X.A.units+64 < cLine):OpR X (compareOp .Eq) (Cn X.K id):=fun pins s σ H x y v u Q I rx ry ⟨dx,dy,px,py,ox,oy,q⟩=>by
  obtain ⟨as,ra⟩:=cD I px ox rx
  obtain ⟨bs,rb⟩:=cD I py oy ry
  obtain ⟨l1,d1⟩:=eQ 40 dx ox
  obtain ⟨l2,d2⟩:=eQ 40 dy oy
  exact SeqAt.compareEq_reads ra rb l1 l2 (by have:=Nat.min_le_left (toP dx).depth (toP dy).depth;omega) ⟨.bl _,H,I,rfl,by rw[ke 40 40 dx dy ox oy];exact q⟩
theorem G6 (hu:X.A.units+64 < cLine):OpR X (compareOp .NotEq) (Cn X.K not):=fun pins s σ H x y v u Q I rx ry ⟨dx,dy,px,py,ox,oy,q⟩=>by
  obtain ⟨as,ra⟩:=cD I px ox rx
  obtain ⟨bs,rb⟩:=cD I py oy ry
  obtain ⟨l1,d1⟩:=eQ 40 dx ox
  obtain ⟨l2,d2⟩:=eQ 40 dy oy
  exact SeqAt.compareNe_reads ra rb l1 l2 (by have:=Nat.min_le_left (toP dx).depth (toP dy).depth;omega) ⟨.bl _,H,I,rfl,by rw[ke 40 40 dx dy ox oy];exact q⟩
theorem yC {K:PySem.W.Frag}:dj K (Cn K id) rEq:=fun H μ x y dx dy Q Q' m px py h k=>⟨dx,dy,px,py,h.1.1,h.1.2,k _ H _ μ (.refl H) m (.bl _) h.2⟩
theorem FA {K:PySem.W.Frag}:dj K (Cn K not) rNe:=fun H μ x y dx dy Q Q' m px py h k=>⟨dx,dy,px,py,h.1.1,h.1.2,k _ H _ μ (.refl H) m (.bl _) h.2⟩
theorem le_eq (hu:X.A.units+64 < cLine)(ha:LE X a Ta)(hb:LE X b Tb):LE X (.Compare a [.Eq] [b] pos) (ak rEq Ta Tb):=iQ (AM hu) yC ha hb (dR _)
theorem lt_eq (hu:X.A.units+64 < cLine)(ha:LE X a Ta)(hb:LE X b Tb):LT X (.Compare a [.Eq] [b] pos) (TB (ak rEq Ta Tb)):=fX (AM hu) yC ha hb (dR _)
theorem AE (hu:X.A.units+64 < cLine)(ha:LE X a Ta)(hb:LE X b Tb):LT X (.Compare a [.NotEq] [b] pos) (TB (ak rNe Ta Tb)):=fX (G6 hu) FA ha hb (dR _)
theorem CD {K:PySem.W.Frag}:IP K (rU fun i=>.int (-i)) pH:=fun H μ x dx Q Q' m px h k=>by
  cases px with
  | int i=>exact ⟨i,rfl,k _ H _ μ (.refl H) m (.int _) h⟩
  | _=>exact False.elim h
theorem le_neg (ha:LE X a Ta):LE X (.UnaryOp .USub a pos) (TUn pH Ta):=J8 FG CD ha
theorem jn {o:Option D}{f:D→Prop}(h:kO o f):∃ d,o=some d∧f d:=by
  cases o with
  | none=>exact False.elim h
  | some d=>exact ⟨d,rfl,h⟩
theorem ck {μ:Mu}{a:Addr}{f:List D→Prop}(h:kL μ a f):∃ ds,μ a=some (.lst ds)∧f ds:=by
  unfold kL at h
  cases e:μ a with
  | none=>rw[e] at h;exact False.elim h
  | some o=>cases o with
    | lst ds=>rw[e] at h;exact ⟨ds,rfl,h⟩
    | dct ds=>rw[e] at h;exact False.elim h
theorem Ai {μ:Mu}{a:Addr}{f:List (Key×D)→Prop}(h:kD μ a f):∃ ds,μ a=some (.dct ds)∧f ds:=by
  unfold kD at h
  cases e:μ a with
  | none=>rw[e] at h;exact False.elim h
  | some o=>cases o with
    | lst ds=>rw[e] at h;exact False.elim h
    | dct ds=>rw[e] at h;exact ⟨ds,rfl,h⟩
theorem oT {o:Option Nat}{f:Nat→Prop}(h:kN o f):∃ d,o=some d∧f d:=by
  cases o with
  | none=>exact False.elim h
  | some d=>exact ⟨d,rfl,h⟩
theorem BH {K:PySem.W.Frag}:dj K (L2.rIx K) L3.rIx:=fun H μ x y dx dy Q Q' m px py h k=>by
  cases px with
  | @tup a xs ds q l=>
    cases py with
    | int i=>
      obtain ⟨d,e,h'⟩:=jn h
      obtain ⟨v,e1,p⟩:=l.at e
      exact .inr (.inl ⟨a,xs,i,v,rfl,rfl,q,e1,k _ H _ μ (.refl H) m p h'⟩)
    | _=>exact False.elim h
  | @ls a xs ds q l=>
    cases py with
    | int i=>
      obtain ⟨d,e,h'⟩:=jn h
      obtain ⟨v,e1,p⟩:=l.at e
      exact .inl ⟨a,xs,i,v,rfl,rfl,q.sq,e1,k _ H _ μ (.refl H) m p h'⟩
    | _=>exact False.elim h
  | obj a=>
    cases py with
    | int i=>
      obtain ⟨ds,e0,h1⟩:=ck h
      obtain ⟨d,e,h'⟩:=jn h1
      obtain ⟨xs,ex,l⟩:=m a _ e0
      obtain ⟨v,e1,p⟩:=l.at e
      exact .inl ⟨a,xs,i,v,rfl,rfl,SqL.of ex,e1,k _ H _ μ (.refl H) m p h'⟩
    | _=>exact False.elim h
  | _=>cases py<;>exact False.elim h
theorem az (ha:LE X a Ta)(hb:LE X b Tb)(hs:kd b:=by intro _ _;rfl):LE X (.Subscript a b pos) (ak L3.rIx Ta Tb):=by
  obtain ⟨ta,pa,sa⟩:=ha.ex
  obtain ⟨tb,pb,sb⟩:=hb.ex
  exact ⟨_,zU yt pa pb hs,fU BH sa sb⟩
variable {es:List Expr} {At:ATr} {x:Str} {p:Pos} {id T:String}
def lL (K:PySem.W.Frag)(r:List V→Hp→VK→Prop)(R:FSp):Prop:=∀ H μ xs ds (Q:DK) (Q':VK),bE K H μ→DpL K H xs ds→R ds μ Q→fN K H Q Q'→r xs H Q'
theorem oO {K:PySem.W.Frag}{r:List V→Hp→VK→Prop}{R:FSp}{ta:TA}(hr:lL K r R)(ha:Jr K ta At):Sim K (tCB r ta) (aq R At):=fun σ H ρ μ Q Q' rl h k=>
  ha σ H ρ μ _ _ rl h fun xs H1 ds μ1 t1 m1 p1 h1=>hr H1 μ1 xs ds Q Q' m1 p1 h1 (k.go t1)
theorem aO {r:List V→Hp→VK→Prop}{R:FSp}(hc:bG X (.builtin id) r)(hr:lL X.K r R)(hg:Gl X x)(hm:X.mg x=none)(hv:bootBuiltins x=some (.builtin id))(ha:LA X (e::es) At)(hn:x ≠ "__name__" := by decide)(hdb:(x == ("__debug__" : Str))=false:=by decide)
    (h1:starEach (e::es) X.env=(false,eval e X.env)::starEach es X.env:=by rfl) (h2:(backTo pos (starEach es X.env)).any (·.1)=false:=by rfl):LE X (.Call (.Name x p) (e::es) [] pos) (aq R At):=by
  obtain ⟨ta,pa,sa⟩:=ha.ex
  exact ⟨_,lV hc hg hm hv pa hn hdb h1 h2,oO hr sa⟩
theorem dW {r:List V→Hp→VK→Prop}{R:FSp}(hc:bG X (.type T) r)(hr:lL X.K r R)(hg:Gl X x)(hm:X.mg x=none)(hv:bootBuiltins x=some (.type T))(ha:LA X (e::es) At)(hn:x ≠ "__name__" := by decide)(hdb:(x == ("__debug__" : Str))=false:=by decide)
    (h1:starEach (e::es) X.env=(false,eval e X.env)::starEach es X.env:=by rfl) (h2:(backTo pos (starEach es X.env)).any (·.1)=false:=by rfl):LE X (.Call (.Name x p) (e::es) [] pos) (aq R At):=by
  obtain ⟨ta,pa,sa⟩:=ha.ex
  exact ⟨_,xp hc hg hm hv pa hn hdb h1 h2,oO hr sa⟩
theorem kg {K:PySem.W.Frag}:lL K (fun xs H Q=>∃ i,xs=[.int i]∧Q (.int (if i < 0 then -i else i)) H) rN:=fun H μ xs ds Q Q' m p h k=>by
  unfold rN at h
  split at h
  · cases p with | cons p1 p2=>cases p2;cases p1;exact ⟨_,rfl,k _ H _ μ (.refl H) m (.int _) h⟩
  · exact False.elim h
theorem lY {K:PySem.W.Frag}:lL K (fun xs H Q=>∃ i j,xs=[.int i,.int j]∧Q (.int (if j < i then j else i)) H) lC:=fun H μ xs ds Q Q' m p h k=>by
  unfold lC at h
  split at h
  · cases p with | cons p1 p2=>cases p2 with | cons p2 p3=>cases p3;cases p1;cases p2;exact ⟨_,_,rfl,k _ H _ μ (.refl H) m (.int _) h⟩
  · exact False.elim h
theorem bG.or {f:Value}{r r':List V→Hp→VK→Prop}(h:bG X f r)(h':bG X f r'):bG X f (fun xs H Q=>r xs H Q∨r' xs H Q):=fun pins s σ H xs us Q I rx q=>by
  rcases q with q | q
  · exact h pins s σ H xs us Q I rx q
  · exact h' pins s σ H xs us Q I rx q
theorem bX {K:PySem.W.Frag}:lL K (fun xs H Q=>(∃ p ys,xs=[.ref p]∧(SqL K H p ys∨SqT K H p ys)∧Q (.int ys.length) H)∨∃ z,xs=[.str z]∧z.length≤sizeLine∧Q (.int z.length) H) c5:=fun H μ xs ds Q Q' m p h k=>by
  unfold c5 at h
  split at h
  · cases p with | cons p1 p2=>cases p2;cases p1 with | tup q l=>exact .inl ⟨_,_,rfl,.inr q,k _ H _ μ (.refl H) m (by rw[l.length];exact .int _) h⟩
  · cases p with | cons p1 p2=>cases p2;cases p1 with | ls q l=>exact .inl ⟨_,_,rfl,.inl q.sq,k _ H _ μ (.refl H) m (by rw[l.length];exact .int _) h⟩
  · cases p with | cons p1 p2=>cases p2;cases p1;exact .inr ⟨_,rfl,big h.1,k _ H _ μ (.refl H) m (.int _) h.2⟩
  · rename_i a
    cases p with | cons p1 p2=>
    cases p2;cases p1
    obtain ⟨ys,e0,h⟩:=ck h
    obtain ⟨xs,ex,l⟩:=m a _ e0
    exact .inl ⟨_,_,rfl,.inl (SqL.of ex),k _ H _ μ (.refl H) m (by rw[l.length];exact .int _) h⟩
  · exact False.elim h
theorem ba:bG X (.builtin "len") (fun xs H Q=>(∃ p ys,xs=[.ref p]∧(SqL X.K H p ys∨SqT X.K H p ys)∧Q (.int ys.length) H)∨∃ z,xs=[.str z]∧z.length≤sizeLine∧Q (.int z.length) H):=bG.or pB oS
end
end
section
open PySem PySem.Spec PyProof.Rows L2
def tys:List String:=["NoneType", "bool", "int", "str", "tuple", "list"]
def D9:List String:=["bool", "int", "str", "tuple", "list", "dict"]
theorem Di (K:PySem.W.Frag):∀ t∈tys,∀ c∈D9,PySem.W.kitOne K (.type t) (.type c)=some (a5 t c):=by
  intro t ht c hc
  simp only[tys,List.mem_cons,List.not_mem_nil,or_false] at ht
  simp only[D9,List.mem_cons,List.not_mem_nil,or_false] at hc
  rcases ht with rfl | rfl | rfl | rfl | rfl | rfl<;>rcases hc with rfl | rfl | rfl | rfl | rfl | rfl<;>with_unfolding_all rfl
theorem Hq {d:D}{t:String}(h:tyD d=some t):t∈tys:=by
  cases d<;>simp[tyD] at h<;>subst h<;>decide
def JS (K:PySem.W.Frag):List V→Hp→VK→Prop:=fun xs H Q=>∃ x d t c,xs=[x,.ty c]∧Dp K H x d∧tyD d=some t∧c∈D9∧Q (.bl (a5 t c)) H
theorem yR {X:Cx}:bG X (.builtin "isinstance") (JS X.K):=fun pins s σ H xs us Q I rx ⟨x,d,t,c,ex,px,et,hc,q⟩=>by
  subst ex
  cases rx with | @cons _ u _ _ r1 r2=>cases r2 with | cons r2 r3=>
  cases r3
  cases (show _=Value.type c from r2)
  have e:=Di X.K t (Hq et) c hc
  have fin:∀ tk,EP X pins σ Q (.bool (a5 t c)) { s with toks:=tk }:=fun tk=>⟨.bl _,H,I.tok tk,rfl,q⟩
  cases px with
  | non=>cases et;cases (show u=Value.none from r1);exact PySem.W.kia_one PySem.W.kitx_none I.kIn True.intro e (fun z=>nomatch z) fin
  | bl y=>cases et;cases (show u=Value.bool y from r1);exact PySem.W.kia_one PySem.W.kitx_bool I.kIn True.intro e (fun z=>nomatch z) fin
  | int i=>cases et;obtain ⟨t,z⟩:=(show ∃ t,u=Value.int i t from r1);cases z;exact PySem.W.kia_one PySem.W.kitx_int I.kIn True.intro e (fun z=>nomatch z) fin
  | str y=>cases et;obtain ⟨t,z⟩:=(show ∃ t,u=Value.str y t from r1);cases z;exact PySem.W.kia_one PySem.W.kitx_str I.kIn True.intro e (fun z=>nomatch z) fin
  | ty _=>cases et
  | obj _=>cases et
  | @tup a xs ds sq l=>
    cases et
    cases (show u=Value.ref a from r1)
    obtain ⟨its,_,⟨o,h1,h2,_⟩,_⟩:=I.tuple sq
    exact PySem.W.kia_one PySem.W.kitx_tuple I.kIn ⟨o,h1,h2⟩ e (fun z=>nomatch z) fin
  | @ls a xs ds sq l=>
    cases et
    cases (show u=Value.ref a from r1)
    obtain ⟨its,_,⟨o,n,h1,h2,_⟩,_⟩:=I.list sq.sq
    exact PySem.W.kia_one PySem.W.kitx_list I.kIn ⟨o,h1,h2⟩ e (fun z=>nomatch z) fin
theorem lg {X:Cx}{x y:Str}{p p2 pos:Pos}{c:String}{e:Expr}{Ta:ETr}(hg:Gl X x)(hm:X.mg x=none)(hv:bootBuiltins x=some (.builtin "isinstance"))(ha:LE X e Ta)(hg2:Gl X y)(hm2:X.mg y=none)(hv2:bootBuiltins y=some (.type c))(hc:c∈D9:=by decide)
    (hn:x ≠ "__name__" := by decide) (hdb:(x == ("__debug__" : Str))=false:=by decide) (hn2:y ≠ "__name__" := by decide) (hdb2:(y == ("__debug__" : Str))=false:=by decide)
    (h0:starEach [.Name y p2] X.env=[(false,eval (.Name y p2) X.env)]:=by rfl) (h1:starEach (e::[.Name y p2]) X.env=(false,eval e X.env)::starEach [.Name y p2] X.env:=by rfl) (h2:(backTo pos (starEach [.Name y p2] X.env)).any (·.1)=false:=by rfl) :
    LE X (.Call (.Name x p) [e,.Name y p2] [] pos) (TUn (fZ c) Ta):=by
  obtain ⟨ta,pa,sa⟩:=ha.ex
  refine ⟨_,lV yR hg hm hv (cz pa (cz (EC hg2 hm2 hv2 (v:=.ty c) rfl hn2 hdb2) fQ h0) h1) hn hdb h1 h2,fun σ H ρ μ Q Q' rl h k=>sa σ H ρ μ _ _ rl h fun v H1 d μ1 t1 m1 p1 h1=>?_⟩
  have h1':(match tyD d with | some t=>Q (.bl (a5 t c)) μ1 | none=>False):=h1
  cases et:tyD d with
  | none=>rw[et] at h1';exact False.elim h1'
  | some t=>rw[et] at h1';exact ⟨v,d,t,c,rfl,p1,et,hc,k _ H1 _ μ1 t1 m1 (.bl _) h1'⟩
section
variable {X:Cx} {a b c e tg o:Expr} {Ta Tb Tc:ETr} {pos:Pos} {es:List Expr} {At:ATr} {x:Str} {p:Pos} {id T:String} {st:Stmt} {rest:List Stmt} {T1 T2:STr} {tA:TTr}
theorem aY:LSs X [] bA:=⟨_,Dt,fun σ H ρ μ E E' rl h k=>k.nx _ _ _ _ (.refl H) rl h⟩
theorem aj (h1:LS X st T1)(h2:LSs X rest T2):LSs X (st::rest) (aG T1 T2):=by
  obtain ⟨t1,p1,s1⟩:=h1.ex
  obtain ⟨t2,p2,s2⟩:=h2.ex
  exact ⟨_,z0 p1 p2,fun σ H ρ μ E E' rl h k=>s1 σ H ρ μ _ _ rl h ⟨fun σ' H' ρ' μ' t' r' q=>s2 σ' H' ρ' μ' E E' r' q (k.go t'),k.rt,k.bk,k.ct⟩⟩
theorem av (h1:LS X st T1):LSs X [st] T1:=by
  obtain ⟨t1,p1,s1⟩:=h1.ex
  exact ⟨_,Ey p1,s1⟩
theorem pN (he:LE X e Ta)(hs:swapsWith e none pos.line X.env=pure false:=by rfl):LS X (.Expr e pos) (jx Ta):=by
  obtain ⟨ta,pa,sa⟩:=he.ex
  exact ⟨_,D4 pa hs,fun σ H ρ μ E E' rl h k=>sa σ H ρ μ _ _ rl h fun v H' d μ' t' m' p' h'=>k.nx _ _ _ _ t' (rl.go t' m') h'⟩
theorem aE (he:LE X e Ta):LS X (.Return (some e) pos) (aS Ta):=by
  obtain ⟨ta,pa,sa⟩:=he.ex
  exact ⟨_,HG pa,fun σ H ρ μ E E' rl h k=>sa σ H ρ μ _ _ rl h k.rt⟩
theorem bT {sa sb:List Stmt}(hc:LT X c tA)(ha:LSs X sa T1)(hb:LSs X sb T2):LS X (.If c sa sb pos) (cG tA T1 T2):=by
  obtain ⟨tc,pc,sc⟩:=hc.ex
  obtain ⟨t1,p1,s1⟩:=ha.ex
  obtain ⟨t2,p2,s2⟩:=hb.ex
  refine ⟨_,Jv pc p1 p2,fun σ H ρ μ E E' rl h k=>sc σ H ρ μ _ _ rl h fun q H1 μ1 t1' m1 h1=>?_⟩
  cases q with
  | true=>exact sE (s1 σ H1 ρ μ1 E E' (rl.go t1' m1) h1 (k.go t1'))
  | false=>exact sP (s2 σ H1 ρ μ1 E E' (rl.go t1' m1) h1 (k.go t1'))
theorem oG {K:PySem.W.Frag}(i:Nat):G7 K (yT i) (aw i):=fun σ H ρ μ v d k k' rl p h q=>q _ _ _ _ (.refl H) (rl.set p i) h
theorem eM (i:Nat)(hN:X.N.Nodup)(hi:X.N[i]? = some x:=by rfl)(hx:Loc X.env.scope x:=by first | exact Or.inl rfl | exact Or.inr rfl)(hf:X.fn x=true∨X.env.scope.names.lookup x=some .local:=by first | exact .inl rfl | exact .inr rfl | assumption):LG X (.Name x pos) (aw i):=
  ⟨_,ki hN hi hx hf,oG i⟩
theorem ay (i:Nat){pos':Pos}(hN:X.N.Nodup)(he:LE X e Ta)(hi:X.N[i]? = some x:=by rfl)(hx:Loc X.env.scope x:=by first | exact Or.inl rfl | exact Or.inr rfl)(hs:swapsWith e (some (.Name x pos')) pos.line X.env=pure false:=by rfl)
    (hf:X.fn x=true∨X.env.scope.names.lookup x=some .local:=by first | exact .inl rfl | exact .inr rfl | assumption):LS X (.Assign [.Name x pos'] e pos) (aP Ta (aw i)):=by
  obtain ⟨ta,pa,sa⟩:=he.ex
  exact ⟨_,Fv hN hi hx pa hs hf,fun σ H ρ μ E E' rl h k=>sa σ H ρ μ _ _ rl h fun v H' d μ' t' m' p' h'=>oG i σ H' ρ μ' v d _ _ (rl.go t' m') p' h' (k.go t').nx⟩
theorem zg (i j:Nat){y:Str}{px py pt:Pos}{kt k2 pt2}(hc:X.calm=true)(hN:X.N.Nodup)(ha:LA X [a,b] At)(hi:X.N[i]? = some x:=by rfl)(hj:X.N[j]? = some y:=by rfl)(hij:i≠j:=by decide)
    (hx:X.env.scope.names.lookup x=some .local:=by rfl) (hy:X.env.scope.names.lookup y=some .local:=by rfl)
    (hw:swappedStores [.Tuple [.Name x px,.Name y py] kt pt] (.Tuple [a,b] k2 pt2) X.env=pure (some [x,y]):=by rfl)
    (hs:swapsWithSole [.Tuple [.Name x px,.Name y py] kt pt] (.Tuple [a,b] k2 pt2) pos.line X.env=pure false:=by rfl) :
    LS X (.Assign [.Tuple [.Name x px,.Name y py] kt pt] (.Tuple [a,b] k2 pt2) pos) (vm i j At):=by
  obtain ⟨ta,pa,sa⟩:=ha.ex
  refine ⟨_,HF hc hN hi hj hij hx hy pa hw hs,fun σ H ρ μ E E' rl h k=>sa σ H ρ μ _ _ rl h fun vs H' ds μ' t' m' p' h'=>?_⟩
  unfold L3.k2 at h'
  split at h'
  · rename_i dv dw
    cases p' with | cons p1 p2=>cases p2 with | cons p2 p3=>
    cases p3
    exact ⟨_,_,rfl,k.nx _ _ _ _ t' (((rl.go t' m').set p1 i).set p2 j) h'⟩
  · exact False.elim h'
theorem rf {Tk':ETr}{tpos:Pos}(ho:LE X o Ta)(hi:LE X b Tk')(he:LE X e Tb)
    (ha:∀ v,assign (.Subscript o b tpos) X.env v=(do
      let ov ← holding [v] (eval o X.env)
      let iv ← holding [v,ov] (eval b X.env)
      standAt tpos
      holding [v,ov,iv] (setItem ov iv v)
      release [v,ov,iv] []):=by intro _;rfl)
    (hs:swapsWithSole [.Subscript o b tpos] e pos.line X.env=pure false:=by rfl) (hw:swappedStores [.Subscript o b tpos] e X.env=pure none:=by rfl)
    (h1:(assignEach [.Subscript o b tpos] X.env).map (·.2)=[assign (.Subscript o b tpos) X.env]:=by rfl):LS X (.Assign [.Subscript o b tpos] e pos) (gF Ta Tk' Tb):=by
  obtain ⟨to,po,so⟩:=ho.ex
  obtain ⟨ti,pi,si⟩:=hi.ex
  obtain ⟨te,pe,se⟩:=he.ex
  refine ⟨_,Ce pe (HM po pi set_list ha) hs hw h1,fun σ H ρ μ E E' rl h k=>se σ H ρ μ _ _ rl h fun y H1 dy μ1 t1 m1 p1 h1=>so σ H1 ρ μ1 _ _ (rl.go t1 m1) h1 fun ov H2 dov μ2 t2 m2 p2 h2=>
    si σ H2 ρ μ2 _ _ (rl.go (t1.trans t2) m2) h2 fun iv H3 div μ3 t3 m3 p3 h3=>?_⟩
  cases p2 with
  | obj q=>
    cases p3 with
    | int n=>
      obtain ⟨ds,e0,h3'⟩:=ck h3
      obtain ⟨j,e1,h4⟩:=oT h3'
      obtain ⟨xs,ex,l⟩:=m3 q _ e0
      refine ⟨q,xs,n,j,rfl,rfl,ex,by rw[l.length];exact e1,?_⟩
      have t4:Tk H3 (L2.upd H3 q (.lst (xs.set j y))):=.upd (fun ys z=>by rw[ex] at z;cases z) fun o' u z=>by rw[ex] at z;cases z
      have t14:=t1.trans (t2.trans (t3.trans t4))
      refine k.nx _ _ ρ _ t14 (rl.go t14 (fun a' o' e'=>?_)) h4
      by_cases haq:a'=q
      · subst haq
        rw[aM] at e';cases e'
        exact ⟨_,aF,(l.set (p1.mono (t2.trans t3)) j).mono t4⟩
      · rw[aV haq] at e'
        exact (m3 a' _ e').ne t4 haq
    | _=>exact False.elim h3
  | _=>cases p3<;>exact False.elim h3
theorem mv {body:List Stmt}(hp:PassesOwn (model X.prog X.w) X.A X.env X.xe)(hc:LT X c tA)(hb:LSs X body T1):LS X (.While c body [] pos) (qe tA T1):=by
  obtain ⟨tc,pc,sc⟩:=hc.ex
  obtain ⟨t1,p1,s1⟩:=hb.ex
  refine ⟨_,yV hp pc p1,fun σ H ρ μ E E' rl h k=>?_⟩
  obtain ⟨P,m,h0,hs⟩:=h
  refine ⟨fun n σ' H'=>∃ ρ' μ',Tk H H'∧Rl X.K σ' H' ρ' μ'∧P ρ' μ'∧n=m ρ' μ',⟨_,ρ,μ,.refl H,rl,h0,rfl⟩,?_⟩
  rintro n σ1 H1 ⟨ρ1,μ1,t1',rl1,hP,rfl⟩
  refine sc σ1 H1 ρ1 μ1 _ _ rl1 (hs ρ1 μ1 hP) fun q H2 μ2 t2 m2 h2=>?_
  have t12:=t1'.trans t2
  cases q with
  | true=>
    refine sE ⟨fun σ' H'=>∃ ρ' μ',Tk H H'∧Rl X.K σ' H' ρ' μ'∧P ρ' μ'∧m ρ' μ' < m ρ1 μ1,fun σ' H' ⟨ρ',μ',a1,a2,a3,a4⟩=>⟨_,a4,ρ',μ',a1,a2,a3,rfl⟩,?_⟩
    have h2':=h2
    refine s1 σ1 H2 ρ1 μ2 _ _ (rl1.go t2 m2) h2' ⟨fun σ' H' ρ' μ' t' r' q=>⟨ρ',μ',t12.trans t',r',q.1,q.2⟩,(k.go t12).rt,(k.go t12).nx,fun σ' H' ρ' μ' t' r' q=>⟨ρ',μ',t12.trans t',r',q.1,q.2⟩⟩
  | false=>exact sP (k.nx _ _ _ _ t12 (rl1.go t2 m2) h2)
end
def lift (K:PySem.W.Frag)(sp:FSp):Sp:=fun vs H Q _=>∃ ds μ QQ,DpL K H vs ds∧bE K H μ∧sp ds μ QQ∧fN K H QQ Q
def RT (Q:DK):DK:=fun d μ'=>∃ μ,Sub μ μ'∧Q d μ
def ini (n:Nat)(ds:List D):ST:=ds.map some++List.replicate (n - ds.length) none
theorem GD:∀ (ds:List D) (n i:Nat) (d:D),lk (ini n ds) i=some d→ds[i]? = some d:=by
  intro ds
  have rep:∀ m i (d:D),lk (List.replicate m none) i=some d→False:=by
    intro m
    induction m with
    | zero=>intro i d h;cases i<;>cases h
    | succ m ih=>intro i d h;cases i with
      | zero=>cases h
      | succ i=>exact ih i d h
  have gen:∀ (ds:List D) m i d,lk (ds.map some++List.replicate m none) i=some d→ds[i]? = some d:=by
    intro ds
    induction ds with
    | nil=>intro m i d h;exact (rep m i d h).elim
    | cons x r ih=>intro m i d h;cases i with
      | zero=>simpa[lk] using h
      | succ i=>simpa using ih m i d h
  exact fun n i d h=>gen ds _ i d h
section
variable {P:Program} {w:World} {K:PySem.W.Frag} {mg:Str→Option Value} {base:Heap}
theorem E3 {x qual:Str}{st:Stmt}{f:Addr}{fd:FuncData}{N ps:List Str}{k:Nat}{sp:FSp}{T:STr}(F:Fun K x qual st f fd)(S:aD N ps (ar st))(len:∀ ds μ Q,sp ds μ Q→ds.length=ps.length)
    (hb:∀ (cdv:Value) (A:Around) (outer:List Env) (s:Shared) (H:Hp) (E:XK),cL k (A.deeper (envOfC qual (ar st) s.heap.objs.size f cdv))→
      LSs (sk CX0 P w K mg base N qual (ar st) f cdv A outer s H E).nox (df st) T)
    (hr:∀ ds μ Q,sp ds μ Q→T { nx:=fun _ μ'=>RT Q .non μ',rt:=RT Q } (ini N.length ds) μ):fk P w K mg base CX0 (k+1) f fd ps (lift K sp):=by
  refine F.ok S (fun vs H Q E h=>?_) (fun cdv A outer s H vs Q E hroom h=>?_)
  · obtain ⟨ds,μ,QQ,l,m,h1,k⟩:=h
    rw[l.length];exact len ds μ QQ h1
  · obtain ⟨ds,μ,QQ,l,m,h1,k⟩:=h
    obtain ⟨t,pt,stt⟩:=(hb cdv A outer s H E hroom).ex
    have hl:vs.length=ds.length:=l.length
    refine ⟨t,pt,stt (L2.start N vs) H (ini N.length ds) μ _ _ ⟨?_,fun i d e=>?_,m⟩ (hr ds μ QQ h1) ⟨fun σ' H' ρ' μ' t' r' q=>?_,fun v H' d μ' t' m' p' q=>?_,fun _ _ _ _ _ _ q=>q,fun _ _ _ _ _ _ q=>q⟩⟩
    · unfold ini L2.start;simp[hl]
    · have e':=GD ds _ i d e
      obtain ⟨v,e1,p⟩:=l.get e'
      refine ⟨v,?_,p⟩
      unfold L2.start
      have hi:i < vs.length:=(List.getElem?_eq_some_iff.mp e1).1
      rw[List.getElem?_append_left (by simpa using hi),List.getElem?_map,e1]
      rfl
    · obtain ⟨μ2,s2,q2⟩:=q
      exact k _ _ _ μ2 t' (r'.mu.sub s2) .non q2
    · obtain ⟨μ2,s2,q2⟩:=q
      exact k _ _ _ μ2 t' (m'.sub s2) p' q2
end
section
variable {X:Cx} {k:Nat} {f:Addr} {fd:FuncData} {ps:List Str} {sp:FSp} {x:Str} {p pos:Pos} {e:Expr} {es:List Expr} {At:ATr}
theorem Dz (F:fk X.prog X.w X.K X.mg X.base CX0 k f fd ps (lift X.K sp))(hr:cL k X.A)(hg:Gl X x)(hm:X.mg x=some (.ref f))(hk:PySem.W.keepIn X.K (.ref f)=true)(hb:Binds X.K fd ps [])
    (ha:LA X (e::es) At) (hdb:(x == ("__debug__" : Str))=false:=by decide) (he:starEach (e::es) X.env=(false,eval e X.env)::starEach es X.env:=by rfl) (hpl:(backTo pos (starEach es X.env)).any (·.1)=false:=by rfl) :
    LE X (.Call (.Name x p) (e::es) [] pos) (aq sp At):=by
  obtain ⟨ta,pa,sa⟩:=ha.ex
  refine ⟨_,Cm F hr hg hm hk hb .nil J3 pa hdb he hpl,fun σ H ρ μ Q Q' rl h k=>sa σ H ρ μ _ _ rl h fun xs H1 ds μ1 t1 m1 p1 h1=>?_⟩
  rw[List.append_nil]
  exact ⟨ds,μ1,Q,p1,m1,h1,k.go t1⟩
end
end
section
open PySem PySem.Spec PyProof.Rows L2
theorem DpL.ints {K:PySem.W.Frag}{H:Hp}:∀ ns:List Int,DpL K H (ns.map V.int) (ns.map D.int)
  | []=>.nil
  | n::r=>.cons (.int n) (DpL.ints r)
theorem SqF.only {K:PySem.W.Frag}{H:Hp}{a:Addr}{xs:List V}(hO:CG H)(h:SqL K H a xs):SqF K H a xs:=by
  rcases h with (h | h) | h
  · rcases hO a with z | ⟨o,ys,z⟩
    · rw[h] at z;cases z
    · rw[h] at z;cases z
  · exact .inl h
  · exact .inr h
theorem Kq {l:PySem.W.OpenLaw}{k:Nat}{q:Program}{loose:List Str}{XP:(Str→Option Value)→Heap→Prop}{YP:World→Heap→Prop}{d:DefRec}{K:Params→PySem.W.Frag}{sp:FSp}{x:Str}
    (hn:l.most=some 63) (hdf:d.params.defaults=[]) (hr:cL k callerA) (hY:∀ (w:World) (h:Heap),YP w h→(K w.params).In h)
    (hl:∀ ns:List Int,ns.length≤63→∀ μ,sp [.ls (ns.map .int)] μ (fun d _=>d=.bl true))
    (F:∀ (w:World) (mg:Str→Option Value) (fa:Addr) (h:Heap),(K w.params).In h→h.Ns mainGlobals mg→mg d.name=some (.ref fa)→
      ∃ fd:FuncData,(∀ (s:Shared) (u:Value),BindsTo s fd ⟨[u],[]⟩ [(x,u)])∧∀ base:Heap,(K w.params).In base→base.Ns mainGlobals mg→fk l.prog w (K w.params) mg base CX0 k fa fd [x] (lift (K w.params) sp)) :
    PySem.W.WalkO q loose XP YP l.row.toRowW d [] (fun f vs=>PySem.call f vs):=
  L2.Cz (n:=63) (k:=k) (x:=x) (CX:=fun _=>CX0) (sp:=fun w=>lift (K w.params) sp) hn (by decide) hdf hr hY F
    (fun w H a ns hl' hO hS=>⟨[.ls (ns.map .int)],fun _=>none,_,.cons (.ls (.only hO hS) (.ints ns)) .nil,(fun a o e=>by cases e),hl ns hl' _,fun v H' d μ' _ _ p e=>by
      have e':d=.bl true:=e
      subst e'
      cases p;rfl⟩) fun _ _ _ _ _ z=>z
end
section
open PySem PySem.Spec PyProof.Rows L2
structure aK (P:Program) (w:World) (K:PySem.W.Frag) (mg:Str→Option Value) (base:Heap) (k:Nat) (x:Str) (ps:List Str) (sp:FSp):Prop where
  ex:∃ f fd,fk P w K mg base CX0 k f fd ps (lift K sp)∧mg x=some (.ref f)∧PySem.W.keepIn K (.ref f)=true∧Binds K fd ps []
section
variable {P:Program} {w:World} {K:PySem.W.Frag} {mg:Str→Option Value} {base:Heap}
theorem aH {x qual:Str}{st:Stmt}{f:Addr}{fd:FuncData}{N ps:List Str}{k:Nat}{sp:FSp}{T:STr}(m:mg x=some (.ref f))(F:Fun K x qual st f fd)(S:aD N ps (ar st))(len:∀ ds μ Q,sp ds μ Q→ds.length=ps.length)
    (hr:∀ ds μ Q,sp ds μ Q→T { nx:=fun _ μ'=>RT Q .non μ',rt:=RT Q } (ini N.length ds) μ)
    (b:∀ (kV doc pm:Value) (an:Option Addr) (cdv ct:Value) (us:List Value),us.length=ps.length→bindArgs (PySem.W.fnOf x qual (iR st) (df st) (ar st) .none kV doc pm an cdv ct) ⟨us,[]⟩=pure (ps.zip us))
    (hb:∀ (cdv:Value) (A:Around) (outer:List Env) (s:Shared) (H:Hp) (E:XK),cL k (A.deeper (envOfC qual (ar st) s.heap.objs.size f cdv))→(A.deeper (envOfC qual (ar st) s.heap.objs.size f cdv)).units+64 < cLine→
      LSs (sk CX0 P w K mg base N qual (ar st) f cdv A outer s H E).nox (df st) T):aK P w K mg base (k+1) x ps sp:=
  ⟨f,fd,E3 F S len (fun cdv A outer s H E h=>hb cdv A outer s H E h h.units) hr,m,F.kp,F.binds b⟩
end
theorem ai {X:Cx}{k n:Nat}{x:Str}{ps:List Str}{sp:FSp}{e:Expr}{es:List Expr}{At:ATr}{p pos:Pos}(C:aK X.prog X.w X.K X.mg X.base k x ps sp)(hr:cL n X.A)(hg:Gl X x)
    (ha:LA X (e::es) At) (hle:k≤n:=by decide) (hdb:(x == ("__debug__" : Str))=false:=by decide) (he:starEach (e::es) X.env=(false,eval e X.env)::starEach es X.env:=by rfl) (hpl:(backTo pos (starEach es X.env)).any (·.1)=false:=by rfl) :
    LE X (.Call (.Name x p) (e::es) [] pos) (aq sp At):=by
  obtain ⟨f,fd,F,m,kp,b⟩:=C.ex
  exact Dz F (hr.mono hle) hg m kp b ha hdb he hpl
end
section
open PySem PySem.Spec PyProof.Rows L2
def b7 (X:Cx)(scope:Scope)(Nc:List Str)(cl:List (Str×Addr))(C:Addr)(s₀:Shared)(H₀:Hp)(ex:List Addr):Cx:=
  { X with env:=compEnvC scope cl C X.env,N:=Nc,s₀:=s₀,H₀:=H₀,outer:=X.stack,ex:=ex,fn:=fun _=>false,pn:=[] }
theorem tP {scope:Scope}{env:Env}(h:∀ y∈scope.names,y.2=.free→∃ c,env.cells.lookup y.1=some c) :
    ∃ cl,closureFor scope env=pure cl∧(∀ x c,cl.lookup x=some c→env.cells.lookup x=some c)∧∀ y∈scope.names,y.2=.free→∃ c,cl.lookup y.1=some c:=by
  have gen:∀ (ns:List (Str×NameKind)) (cs:List (Str×Addr)),(∀ y∈ns,y.2=.free→∃ c,env.cells.lookup y.1=some c)→(∀ x c,cs.lookup x=some c→env.cells.lookup x=some c)→
      ∃ cl,(forIn ns cs fun x r=>if (x.2 == NameKind.free)=true then do let c ← cellOf env x.1;pure (ForInStep.yield ((x.1,c)::r)) else pure (ForInStep.yield r):Sem _)=pure cl∧(∀ x c,cl.lookup x=some c→env.cells.lookup x=some c)∧
        (∀ x,(cs.lookup x).isSome=true→(cl.lookup x).isSome=true)∧∀ y∈ns,y.2=.free→∃ c,cl.lookup y.1=some c:=by
    intro ns
    induction ns with
    | nil=>intro cs _ h2;exact ⟨cs,rfl,h2,fun _ z=>z,fun _ z=>nomatch z⟩
    | cons y r ih=>
      intro cs h1 h2
      obtain ⟨n,k⟩:=y
      by_cases hk:k=.free
      · subst hk
        obtain ⟨c,hc⟩:=h1 (n,.free) List.mem_cons_self rfl
        have h2':∀ x c',((n,c)::cs).lookup x=some c'→env.cells.lookup x=some c':=fun x c' e=>by
          rw[List.lookup_cons] at e
          split at e
          · rename_i hx
            cases e
            have:x=n:=by simpa using hx
            subst this;exact hc
          · exact h2 x c' e
        obtain ⟨cl,e1,e2,e3,e4⟩:=ih ((n,c)::cs) (fun y hy=>h1 y (List.mem_cons_of_mem _ hy)) h2'
        refine ⟨cl,?_,e2,fun x hx=>e3 x ?_,fun y hy hf=>?_⟩
        · rw[List.forIn_cons]
          have:cellOf env n=pure c:=by unfold cellOf;rw[hc]
          simp only[beq_self_eq_true,if_true,this,pure_bind]
          exact e1
        · rw[List.lookup_cons];split
          · rfl
          · exact hx
        · obtain rfl | hy:=List.mem_cons.mp hy
          · have:(cl.lookup n).isSome=true:=e3 n (by simp[List.lookup_cons])
            exact Option.isSome_iff_exists.mp this
          · exact e4 y hy hf
      · obtain ⟨cl,e1,e2,e3,e4⟩:=ih cs (fun y hy=>h1 y (List.mem_cons_of_mem _ hy)) h2
        refine ⟨cl,?_,e2,e3,fun y hy hf=>?_⟩
        · rw[List.forIn_cons]
          have:(k == NameKind.free)=false:=by simpa using hk
          simp only[this,Bool.false_eq_true,if_false,pure_bind]
          exact e1
        · obtain rfl | hy:=List.mem_cons.mp hy
          · exact absurd hf hk
          · exact e4 y hy hf
  obtain ⟨cl,e1,e2,_,e4⟩:=gen scope.names [] h fun x c e=>by cases e
  refine ⟨cl,?_,e2,e4⟩
  show ((forIn scope.names ([]:List (Str×Addr)) fun x r=>if (x.2 == NameKind.free)=true then do let c ← cellOf env x.1;pure (ForInStep.yield ((x.1,c)::r)) else pure (ForInStep.yield r):Sem _) >>= fun s=>pure s)=pure cl
  rw[e1]
  rfl
def DT (Y:Cx)(ifs:List Expr)(t:TT):Prop:=
  ∀ (pins:List (Addr×Obj)) (s:Shared) (σ:L2.St) (H:Hp) (Q:Bool→Hp→Prop),Inv Y pins σ H s→t σ H Q→
    wpAny (model Y.prog Y.w) Y.A (forIn ifs true fun c r=>if r=true then do let ok ← isTrue c Y.env (eval c Y.env);pure (ForInStep.yield ok) else pure (ForInStep.yield r)) (TP Y pins σ Q) Y.xe s
def KZ:TT:=fun _ H Q=>Q true H
theorem CF {Y:Cx}:DT Y [] KZ:=fun pins s σ H Q I h=>wpAny_tests_nil ⟨H,I,h⟩
theorem Ec {Y:Cx}{c:Expr}{t:TT}(h:PT Y c t):DT Y [c] t:=fun pins s σ H Q I hh=>wpAny_tests_one (h pins s σ H Q I hh)
def iI (σ:L2.St)(n:Nat)(caps:List Nat):L2.St:=List.replicate n none++caps.map fun i=>(σ[i]?).join
def Wk (σ' σ:L2.St):Prop:=σ'.length=σ.length∧∀ (i:Nat) v,σ'[i]? = some (some v)→σ[i]? = some (some v)
def EM (wi:TI)(g:TG)(tt:TT)(te:TE)(n:Nat)(caps:List Nat):TE:=fun σ H Q=>wi σ H fun J H1=>∀ D,H1 D=none→
  ∃ W:Nat→Nat→List V→Hp→Prop,(∃ m,W 0 m [] (L2.upd H1 D (.lst [])))∧∀ i m ys H2,W i m ys H2→
    (J.stop i H2∧Q (.ref D) H2)∨(J.go i H2∧∃ N:List V→Hp→Prop,(∀ ys' H',N ys' H'→∃ m',m' < m∧W (i+1) m' ys' H')∧
      ∀ x H3,J.yld i H2 x H3→g x (iI σ n caps) H3 fun σ4 H4=>Wk (iI σ n caps) σ4∧tt σ4 H4 fun b H5=>if b=true then te σ4 H5 fun y H6=>∃ zs,H6 D=some (.lst zs)∧zs.length < sizeLine∧N (zs++[y]) (L2.upd H6 D (.lst (zs++[y]))) else N ys H5)
theorem xt {prog:Program}{w:World}{A:Around}{R:Result→Shared→Prop}{s:Shared}{elt target iter:Expr}{ifs:List Expr}{scope:Scope}{pos:Pos}{it acc:Value}{env:Env}(J:Nat→Shared→Prop)
    (turn:∀ n s,J n s→wpAny (model prog w) A (pyNext it) (fun o t₁=>match o with
      | none=>R (.ok .next) t₁
      | some v=>wpAny (model prog w) A (letOwnedTupleGo target it v) (fun _ t₁=>wpAny (model prog w) A (assign target env v) (fun _ t₂=>
          wpAny (model prog w) A (forIn ifs true fun c r=>
            if r=true then do let ok ← isTrue c env (eval c env);pure (ForInStep.yield ok) else pure (ForInStep.yield r)) (fun ok t₃=>
            if ok=true then wpAny (model prog w) A (eval elt env) (fun x t₄=>
              wpAny (model prog w) A (call (.builtin "list.append") [acc,x]) (fun _ t₅=>∃ m,m < n∧J m t₅) (fun _ _=>False) t₄) (fun _ _=>False) t₃
            else ∃ m,m < n∧J m t₃) (fun _ _=>False) t₂) (fun _ _=>False) t₁) (fun _ _=>False) t₁) (fun _ _=>False) s)
    (n:Nat) (h:J n s):codeAny (model prog w) A (.compLoop (.ListComp elt [⟨target,iter,ifs,0⟩] scope pos) 0 it acc env) R s:=by
  refine codeAny_loop rfl J (fun n s hJ=>?_) n h
  show wpAny _ A ((compTurn (.ListComp elt [⟨target,iter,ifs,0⟩] scope pos) 0 it acc env).onRaise
    (fun x=>do noteFrame x env;theTreesLotGoes x)) _ _ s
  refine wpAny_noted ?_
  rw[compTurn_list]
  refine wpAny_bind (wpAny_standAt (wpAny_bind (wpAny_mono (turn n s hJ) (fun r t₁ g₁=>?_) fun _ _ h'=>h'.elim)))
  cases r with
  | none=>exact wpAny_pure g₁
  | some v=>
    refine wpAny_bind (wpAny_mono g₁ (fun _ t₁' g₁'=>?_) fun _ _ h'=>h'.elim)
    refine wpAny_bind (wpAny_mono g₁' (fun _ t₂ g₂=>wpAny_bind (wpAny_mono g₂ (fun ok t₃ g₃=>?_) fun _ _ h'=>h'.elim)) fun _ _ h'=>h'.elim)
    cases ok with
    | false=>exact wpAny_pure ⟨rfl,g₃⟩
    | true=>
      exact wpAny_bind (wpAny_bind (wpAny_mono g₃ (fun x t₄ g₄=>wpAny_bind (wpAny_mono g₄ (fun _ t₅ g₅=>wpAny_pure (wpAny_pure ⟨rfl,g₅⟩)) fun _ _ h'=>h'.elim)) fun _ _ h'=>h'.elim))
theorem mw {σ:L2.St}{n:Nat}{caps:List Nat}{i:Nat}{v:V}(h:(iI σ n caps)[i]? = some (some v)):∃ j k,i=n+j∧caps[j]? = some k∧σ[k]? = some (some v):=by
  unfold iI at h
  by_cases hi:i < n
  · rw[List.getElem?_append_left (by simpa using hi),List.getElem?_replicate,if_pos hi] at h
    cases h
  · rw[List.getElem?_append_right (by simpa using hi)] at h
    rw[List.length_replicate,List.getElem?_map] at h
    cases e:caps[i - n]? with
    | none=>rw[e] at h;cases h
    | some k=>
      rw[e] at h
      have h':(σ[k]?).join=some v:=Option.some.inj h
      cases e2:σ[k]? with
      | none=>rw[e2] at h';cases h'
      | some o=>
        rw[e2] at h'
        have h'':o=some v:=h'
        subst h''
        exact ⟨i - n,k,by omega,e,e2⟩
theorem cO {env:Env}(hk:env.scope.kind=.function):∀ {names:List (Str×NameKind)} {x:Str},env.kindOf x=some .cell→names.lookup x=some .free→
    (names.map fun (n,k)=>if (k == NameKind.free&&env.scope.kind == .function&&env.kindOf n == some .cell) then (n,NameKind.cell) else (n,k)).lookup x=some .cell
  | [],_,_,h=>by simp at h
  | (n,k)::r,x,hc,h=>by
    have ih:=@cO env hk r x hc
    show List.lookup x ((if (k == NameKind.free&&env.scope.kind == .function&&env.kindOf n == some .cell)=true
      then (n,NameKind.cell) else (n,k))::_)=_
    cases hx:x == n with
    | true=>
      simp only[hx,List.lookup_cons] at h
      cases h
      have e:x=n:=by simpa using hx
      subst e
      simp[List.lookup_cons,hk,hc]
    | false=>
      simp only[hx,List.lookup_cons] at h
      by_cases hcc:(k == NameKind.free&&env.scope.kind == .function&&env.kindOf n == some .cell)=true
      · rw[if_pos hcc];simp only[List.lookup_cons,hx];exact ih h
      · rw[if_neg hcc];simp only[List.lookup_cons,hx];exact ih h
theorem jy {env:Env}:∀ {names:List (Str×NameKind)} {x:Str} {k':NameKind},(∀ y∈names,y.2≠.cell)→(k'=.cell∨k'=.free)→
    (x,k')∈(names.map fun (n,k)=>if (k == NameKind.free&&env.scope.kind == .function&&env.kindOf n == some .cell) then (n,NameKind.cell) else (n,k))→(x,NameKind.free)∈names:=by
  intro names x k' hn hk h
  obtain ⟨⟨n,k⟩,hm,e⟩:=List.mem_map.mp h
  dsimp only at e
  split at e
  · rename_i hc
    cases e
    have:k=.free:=by simp at hc;exact hc.1.1
    subst this;exact hm
  · cases e
    rcases hk with rfl | rfl
    · exact absurd rfl (hn _ hm)
    · exact hm
theorem wo {X:Cx}{tg iter elt:Expr}{ifs:List Expr}{scope:Scope}{pos:Pos}{wi:TI}{g:TG}{tt:TT}{te:TE}{Nc:List Str}{n:Nat}{caps:List Nat}
    (hxe:X.xe=fun _ _=>False) (hcalm:X.calm=true) (hi:PI X tg iter wi)
    (hbody:∀ (cl:List (Str×Addr)) (C:Addr) (s₀:Shared) (H₀:Hp) (ex:List Addr),PG (b7 X scope Nc cl C s₀ H₀ ex) tg g∧DT (b7 X scope Nc cl C s₀ H₀ ex) ifs tt∧PE (b7 X scope Nc cl C s₀ H₀ ex) elt te)
    (hfree:∀ y∈scope.names,y.2=.free→X.env.kindOf y.1=some .cell) (hcell:∀ y∈scope.names,y.2≠.cell) (lB:scope.kind=.function)
    (hnames:∀ y∈scope.names,y.2=.local→scope.names.lookup y.1=some .local) (hlen:Nc.length=n+caps.length)
    (hcap:∀ (j k:Nat),caps[j]? = some k→∃ x,Nc[n+j]? = some x∧X.N[k]? = some x∧scope.names.lookup x=some .free)
    (hs:∀ x,foldedSetIterable iter X.env x=pure x:=by intro _;rfl) :
    PE X (.ListComp elt [⟨tg,iter,ifs,0⟩] scope pos) (EM wi g tt te n caps):=by
  intro pins s σ H Q I h
  rw[hxe]
  obtain ⟨cl,hclos,clin,clfree⟩:=tP (scope:=scope) (env:=X.env) fun y hy hf=>I.ok.has y.1 (.inl (hfree y hy hf))
  rw[eval_ListComp]
  refine wpAny_comprehension_free (use:=none) rfl hs hclos lB hnames ?_
  have hi':=hi pins s σ H _ I h
  rw[hxe] at hi'
  refine wpAny_mono hi' (fun xv s1 h1=>wpAny_mono h1 (fun itv s2 h2=>?_) fun _ _ z=>z) fun _ _ z=>z
  obtain ⟨it,fp,tn,J,H1,rfl,I2,T,st2,f2,hh⟩:=h2
  -- the new list
  refine wpAny_newObj_type ?_
  have hD:H1 s2.heap.objs.size=none:=I2.hok.fresh (Nat.le_refl _)
  obtain ⟨W,⟨m0,w0⟩,turn⟩:=hh _ hD
  have I3:Inv X pins σ (L2.upd H1 s2.heap.objs.size (.lst [])) { s2 with heap:=s2.heap.push { cls:=.type "list", dict:=none,data:=.seq ([]:List Value).toArray } }:=
    I2.laid (t':=s2.toks) (fun b u e=>Heap.get?_push_of_some _ e) (Nat.le_refl _) ⟨Nat.zero_le _,[],0,.nil,Heap.get?_push_size _ rfl⟩
  have k3:∀ b u,s2.heap.get? b=some u→(s2.heap.push { cls:=.type "list", dict:=none,data:=.seq ([]:List Value).toArray }).get? b=some u:=fun b u e=>Heap.get?_push_of_some _ e
  have fne:∀ b∈fp,b≠s2.heap.objs.size:=fun b hb=>by
    obtain ⟨o,ho,_⟩:=T.obj 0 _ st2 b hb
    exact Nat.ne_of_lt (Heap.lt_size ho)
  generalize eD:s2.heap.objs.size=D at *
  generalize eh3:s2.heap.push { cls:=.type "list", dict:=none,data:=.seq ([]:List Value).toArray }=h3 at *
  generalize eH3:L2.upd H1 D (.lst [])=H3 at *
  have st3:tn 0 h3:=T.keep 0 _ _ st2 fun b hb o e=>k3 b o e
  have f3:∀ b∈fp,qJ X pins H3 b:=fun b hb=>⟨by rw[← eH3,aA (fne b hb)];exact (f2 b hb).1,(f2 b hb).2⟩
  have lt3:∀ b∈fp,b < h3.objs.size:=fun b hb=>by
    obtain ⟨o,ho,_⟩:=T.obj 0 _ st3 b hb
    exact Heap.lt_size ho
  generalize es3:({ s2 with heap:=h3 }:Shared)=s3 at *
  have hs3:s3.heap=h3:=by rw[← es3]
  refine wpAny_newFunctionEnv hcell (fun y hy=>(by cases hy)) (fun h4 hns hsb=>?_) lB
  show codeAny _ _ (.compStart _ 0 (.ref it) (.ref D) (compEnvC scope cl s3.heap.objs.size X.env)) (compPost _ _ _ none _ (.ref D) s3.heap.objs.size) _
  have k4:∀ b u,s3.heap.get? b=some u→h4.get? b=some u:=fun b u e=>hsb.extBut b u (Nat.ne_of_lt (Heap.lt_size e)) (Heap.get?_push_of_some _ e)
  have okY:(b7 X scope Nc cl s3.heap.objs.size s3 H3 fp).Ok:=by
    refine ⟨I3.ok.mod,lB,I3.ok.glob,I3.ok.blt,Nat.le_refl _,fun x y c e1 e2=>I3.ok.inj x y c (clin _ _ e1) (clin _ _ e2),fun x hx=>?_,fun x c hf=>(by cases hf),I3.ok.hd,I3.ok.frames,.inl rfl,fun b hb=>⟨?_,fun x c e z=>?_⟩,I3.bs,Nat.le_trans I3.ok.bsz I3.sz,fun b o e hb=>?_,fun b hb hz=>?_,I3.stack,I3.vA⟩
    · have hx':(relabel scope X.env).names.lookup x=some .cell∨(relabel scope X.env).names.lookup x=some .free:=hx
      have hm:(x,NameKind.free)∈scope.names:=by
        rcases hx' with q | q
        · exact jy hcell (.inl rfl) (PySem.mem_of_lookup q)
        · exact jy hcell (.inr rfl) (PySem.mem_of_lookup q)
      exact clfree _ hm rfl
    · show b≠s3.heap.objs.size
      rw[hs3];exact Nat.ne_of_lt (lt3 b hb)
    · exact (f3 b hb).2.2.2.2.1 x c (clin _ _ e) z
    · rcases (f3 b hb).2.2.2.1 with z | z
      · exact I3.ok.A0 b o e z
      · exact absurd (Nat.lt_of_lt_of_le (Heap.lt_size e) (Nat.le_trans I3.ok.bsz z)) (Nat.lt_irrefl _)
    · rcases List.mem_cons.mp (I3.tZ b hz) with z | z
      · exact (f3 b hb).2.1 z
      · exact (f3 b hb).2.2.1 z
  have JC:∀ c v,s3.heap.IsCell c v→h4.IsCell c v:=fun c v ⟨o,ho,hd⟩=>⟨o,k4 c o ho,hd⟩
  have J0:Inv (b7 X scope Nc cl s3.heap.objs.size s3 H3 fp) [] (iI σ n caps) H3 { s3 with heap:=h4,toks:=s3.toks+([]:List (Str×Value)).length }:=by
    refine ⟨okY,rfl,I3.bare,Un.kept k4,⟨_,hns,fun i x v e1 e2 e3=>?_⟩,fun x c e=>?_,I3.hok.fresh (Nat.le_refl _),fun x c e=>I3.fH x c (clin _ _ e),(fun p hp=>(by cases hp)),I3.hok.kept k4,?_⟩
    · obtain ⟨j,k,rfl,ej,ek⟩:=mw e2
      obtain ⟨x',n1,n2,n3⟩:=hcap j k ej
      have e1':Nc[n+j]? = some x:=e1
      rw[n1] at e1';cases e1'
      have hmem:(x,NameKind.free)∈scope.names:=PySem.mem_of_lookup n3
      have hcellx:X.env.kindOf x=some .cell:=hfree _ hmem rfl
      obtain ⟨m,hn,hl⟩:=I3.loc
      obtain ⟨u,ru,lk⟩:=hl k x v n2 ek (.inr (.inl hcellx))
      refine ⟨u,ru,.inr ⟨.inl (cO I3.ok.kind hcellx n3),?_⟩⟩
      rcases lk with ⟨q,_⟩ | ⟨_,c,ec,ic⟩
      · rw[hcellx] at q;cases q
      · obtain ⟨c',ec'⟩:=clfree _ hmem rfl
        have:=clin _ _ ec'
        rw[ec] at this;cases this
        exact ⟨c,ec',JC _ _ ic⟩
    · obtain ⟨v,q⟩:=I3.cell x c (clin _ _ e)
      exact ⟨v,JC _ _ q⟩
    · unfold iI
      show _=Nc.length
      rw[List.length_append,List.length_replicate,List.length_map,hlen]
  obtain ⟨pg,pifs,pelt⟩:=hbody cl s3.heap.objs.size s3 H3 fp
  generalize eY:b7 X scope Nc cl s3.heap.objs.size s3 H3 fp=Y at *
  have yP:Y.prog=X.prog:=by rw[← eY];rfl
  have yw:Y.w=X.w:=by rw[← eY];rfl
  have yK:Y.K=X.K:=by rw[← eY];rfl
  have yA:Y.A=X.A:=by rw[← eY];rfl
  have yx:Y.xe=fun _ _=>False:=by rw[← eY];exact hxe
  have yc:Y.calm=true:=by rw[← eY];exact hcalm
  have ye:Y.env=compEnvC scope cl s3.heap.objs.size X.env:=by rw[← eY];rfl
  have yfs:Y.fs=frs X.stack:=by rw[← eY];rfl
  have yex:Y.ex=fp:=by rw[← eY];rfl
  have ys0:Y.s₀=s3:=by rw[← eY];rfl
  have yH0:Y.H₀=H3:=by rw[← eY];rfl
  have ypn:Y.pn=[]:=by rw[← eY];rfl
  have vt:∀ {H':Hp},(∀ b∈fp,H' b=none)→∀ b∈fp,qJ Y [] H' b:=fun hn b hb=>⟨hn b hb,by rw[ye];show b≠s3.heap.objs.size;rw[hs3];exact Nat.ne_of_lt (lt3 b hb),okY.zE b (by rw[yex];exact hb),.inl (by rw[yex];exact hb),
    fun x c e=>by rw[ye] at e;exact (f3 b hb).2.2.2.2.1 x c (clin _ _ e),fun p hp=>by rw[ypn] at hp;exact nomatch hp⟩
  have tn4:∀ t,tn 0 ({ s3 with heap:=h4,toks:=t }:Shared).heap:=fun t=>T.keep 0 _ _ st3 fun b hb o e=>k4 b o (by rw[hs3];exact e)
  -- the end
  have fin:∀ (s5:Shared) (H5:Hp),Inv Y [] (iI σ n caps) H5 s5→Q (.ref D) H5→compPost (model X.prog X.w) X.A (fun _ _=>False) none (EP X pins σ Q) (.ref D) s3.heap.objs.size (.ok .next) s5:=fun s5 H5 I5 q5=>by
    obtain ⟨m,hn,_⟩:=I5.loc
    rw[ye] at hn
    refine ⟨m,hn,fun h6 hs6=>⟨.ref D,H5,?_,rfl,q5⟩⟩
    have nC:∀ b o,s3.heap.get? b=some o→b≠s3.heap.objs.size:=fun b o e=>Nat.ne_of_lt (Heap.lt_size e)
    have un:=I5.base
    rw[yfs,yex,yH0,ys0] at un
    have hfreeC0:=I5.free
    rw[ye] at hfreeC0
    have hfreeC:H5 s3.heap.objs.size=none:=hfreeC0
    refine I3.Jl (ch:=fp) (s':={ s5 with heap:=h6 }) (by have:=I5.os;rw[ys0] at this;exact this) ⟨fun b o e n1 n2 n3=>(hs6.2 b (nC b o e)).trans (un.keep b o e n1 n2 n3),fun b o e n1 n2 n3=>?_,un.free,fun b o e n1=>?_,un.jm,un.gT,un.i7⟩ (fun b u e=>?_) I5.bare fun b hb=>?_
    · obtain ⟨sl,q⟩:=un.slot b o e n1 n2 n3
      exact ⟨sl,(hs6.2 b (nC b o e)).trans q⟩
    · obtain ⟨o',q⟩:=un.there b o e n1
      exact ⟨o',(hs6.2 b (nC b o e)).trans q⟩
    · have hok5:=I5.hok
      rw[yP,yw] at hok5
      refine (hok5 b u e).jW (fun c w' hc q=>(hs6.2 c ?_).trans q) (fun _ q=>q) fun _ _ q=>q
      rintro rfl
      rcases hc with z | z
      · rw[← z,hfreeC] at e;cases e
      · rw[hfreeC] at z;cases z
    · exact ⟨(f3 b hb).2.2.2.1,(f3 b hb).2.1,(f3 b hb).2.2.2.2.1,(f3 b hb).2.2.2.2.2⟩
  have loop:codeAny (model X.prog X.w) X.A (.compLoop (.ListComp elt [⟨tg,iter,ifs,0⟩] scope pos) 0 (.ref it) (.ref D) (compEnvC scope cl s3.heap.objs.size X.env)) (compPost (model X.prog X.w) X.A (fun _ _=>False) none (EP X pins σ Q) (.ref D) s3.heap.objs.size)
      { s3 with heap:=h4,toks:=s3.toks+([]:List (Str×Value)).length }:=by
    refine xt (fun k s'=>∃ i ys H',Inv Y [] (iI σ n caps) H' s'∧tn i s'.heap∧(∀ b∈fp,H' b=none)∧W i k ys H') ?_ m0 ⟨0,[],H3,J0,tn4 _,fun b hb=>(f3 b hb).1,w0⟩
    rintro k s5 ⟨i,ys,H5,I5,st5,fr5,w5⟩
    rcases turn i k ys H5 w5 with ⟨stop,q⟩ | ⟨go,N,hN,step⟩
    · have d:=T.done Y yP yw yK yc i [] s5 _ H5 (fun _ _=>False) I5 (vt fr5) st5 stop
      rw[yA] at d
      refine thn d fun r s6 ⟨hr,I6⟩=>?_
      subst hr
      exact fin s6 H5 I6 q
    · have d:=T.item Y yP yw yK yc i [] s5 _ H5 (fun _ _=>False) I5 (vt fr5) st5 go
      rw[yA] at d
      refine thn d fun r s6 ⟨u,hr,h6⟩=>?_
      subst hr
      refine thn h6 fun _ s7 ⟨x,H7,I7,r7,y7,st7,fr7⟩=>?_
      have I7':=I7.pinned (vt fr7) (T.obj _ _ st7)
      have a:=pg _ s7 _ H7 x u _ I7' r7 (step x H7 y7)
      rw[yP,yw,yA,yx,ye] at a
      refine thn a fun _ s8 ⟨σ8,H8,I8,wk,q8⟩=>?_
      have b:=pifs _ s8 σ8 H8 _ I8 q8
      rw[yP,yw,yA,yx,ye] at b
      have again:∀ {s9:Shared} {ys9:List V} {H9:Hp},Inv Y ([]++lN fp s7.heap) σ8 H9 s9→N ys9 H9→∃ m,m < k∧∃ i ys H',Inv Y [] (iI σ n caps) H' s9∧tn i s9.heap∧(∀ b∈fp,H' b=none)∧W i m ys H':=fun {s9 ys9 H9} I9 n9=>by
        obtain ⟨m',hm,w9⟩:=hN ys9 H9 n9
        have hp:∀ b∈fp,∀ o,s7.heap.get? b=some o→s9.heap.get? b=some o∧H9 b=none:=fun b hb o e=>
          ⟨(I9.pin (b,o) (List.mem_append_right _ (List.mem_append_right _ (eI hb e)))).1,(I9.pin (b,o) (List.mem_append_right _ (List.mem_append_right _ (eI hb e)))).2.1⟩
        refine ⟨m',hm,i+1,ys9,H9,I9.iL.weak wk.1 wk.2,T.keep _ _ _ st7 fun b hb o e=>(hp b hb o e).1,fun b hb=>?_,w9⟩
        obtain ⟨o,e,_⟩:=T.obj _ _ st7 b hb
        exact (hp b hb o e).2
      refine thn b fun ok s9 ⟨H9,I9,q9⟩=>?_
      cases ok with
      | false=>
        rw[if_neg Bool.false_ne_true] at q9 ⊢
        exact again I9 q9
      | true=>
        rw[if_pos rfl] at q9 ⊢
        have c:=pelt _ s9 σ8 H9 _ I9 q9
        rw[yP,yw,yA,yx,ye] at c
        refine thn c fun v s10 ⟨y,H10,I10,r10,zs,ez,lz,n10⟩=>?_
        have d:=nS (X:=Y) _ s10 σ8 H10 (.ref D) [y] (.ref D) [v] (fun _ H'=>N (zs++[y]) H') I10 rfl (.cons r10 .nil) ⟨D,zs,y,rfl,rfl,ez,lz,n10⟩
        rw[yP,yw,yA,yx] at d
        exact thn d fun _ s11 ⟨_,H11,I11,_,q11⟩=>again I11 q11
  refine codeAny_compStart_list loop ?_
  exact T.self X.A 0 _ _ _ (tn4 _) loop
end
section
open PySem PySem.Spec PyProof.Rows L2
structure AB (K:PySem.W.Frag) (J:It) (H1:Hp) (ds:List D):Prop where
  go:∀ i H',Tk H1 H'→i < ds.length→J.go i H'
  yld:∀ i H' x H'',Tk H1 H'→i < ds.length→J.yld i H' x H''→Tk H' H''∧(∃ d,ds[i]? = some d∧Dp K H'' x d)∧∀ μ,bE K H' μ→bE K H'' μ
  stop:∀ i H',Tk H1 H'→ds.length≤i→J.stop i H'
def Ki (K:PySem.W.Frag)(wi:TI)(It':ATr):Prop:=∀ σ H ρ μ (Q:List D→Mu→Prop) (R:It→Hp→Prop),Rl K σ H ρ μ→It' ρ μ Q→(∀ J H1 ds μ1,Tk H H1→bE K H1 μ1→AB K J H1 ds→Q ds μ1→R J H1)→wi σ H R
structure LI (X:Cx) (tg iter:Expr) (It':ATr):Prop where
  ex:∃ wi,PI X tg iter wi∧Ki X.K wi It'
section
variable {X:Cx} {tg a b c e elt iter:Expr} {Ta Tb Te:ETr} {Tt:TTr} {pos:Pos} {It':ATr} {G:GTr}
theorem yN {K:PySem.W.Frag}{H:Hp}{p:Addr}{xs:List V}{ds:List D}(q:SqT K H p xs)(l:DpL K H xs ds):AB K (Itt K p) H ds where
  go:=fun i H' t hi=>by
    have hl:=l.length
    exact ⟨xs,xs[i],t.sqT q,by simp[show i < xs.length by omega]⟩
  yld:=fun i H' x H'' t hi ⟨e,y⟩=>by
    subst e
    have ex:=y xs (t.sqT q)
    obtain ⟨d,ed,p⟩:=l.get' ex
    exact ⟨.refl _,⟨d,ed,p.mono t⟩,fun _ m=>m⟩
  stop:=fun i H' t hi=>⟨xs,t.sqT q,by rw[l.length];exact hi⟩
theorem C8 {K:PySem.W.Frag}{H:Hp}{p:Addr}{xs:List V}{ds:List D}(q:SqF K H p xs)(l:DpL K H xs ds):AB K (Itl K p) H ds where
  go:=fun i H' t hi=>by
    have hl:=l.length
    exact ⟨xs,xs[i],(t.sqF q).sq,by simp[show i < xs.length by omega]⟩
  yld:=fun i H' x H'' t hi ⟨e,y⟩=>by
    subst e
    have ex:=y xs (t.sqF q).sq
    obtain ⟨d,ed,p⟩:=l.get' ex
    exact ⟨.refl _,⟨d,ed,p.mono t⟩,fun _ m=>m⟩
  stop:=fun i H' t hi=>⟨xs,(t.sqF q).sq,by rw[l.length];exact hi⟩
theorem gI (lo:Int)(n:Nat):(dN lo n).length=n:=by unfold dN;simp
theorem su {K:PySem.W.Frag}{H:Hp}(lo:Int)(n:Nat):AB K (Itr lo n) H (dN lo n) where
  go:=fun i H' t hi=>by rw[gI] at hi;exact hi
  yld:=fun i H' x H'' t hi ⟨e,y⟩=>by
    rw[gI] at hi
    subst e y
    exact ⟨.refl _,⟨.int (lo+i),by unfold dN;simp[hi],.int _⟩,fun _ m=>m⟩
  stop:=fun i H' t hi=>by rw[gI] at hi;exact hi
def Io (a:ETr):ATr:=fun ρ μ Q=>a ρ μ fun x μ1=>match x with
  | .tup ds=>Q ds μ1
  | _=>False
def ILs (a:ETr):ATr:=fun ρ μ Q=>a ρ μ fun x μ1=>match x with
  | .ls ds=>Q ds μ1
  | _=>False
theorem ji {rp rpos:Pos}(hg:Gl X "range")(hm:X.mg "range" = none)(ha:LE X a Ta)(hs:starEach [a] X.env=[(false,eval a X.env)]:=by rfl):LI X tg (.Call (.Name "range" rp) [a] [] rpos) (di Ta):=by
  obtain ⟨ta,pa,sa⟩:=ha.ex
  refine ⟨_,xb hg hm (cz pa fQ hs) hs,fun σ H ρ μ Q R rl h k=>sa σ H ρ μ _ _ rl h fun x H1 d μ1 t1 m1 p1 h1=>?_⟩
  cases p1 with
  | int j=>
    obtain ⟨⟨h2,h3⟩,h4⟩:=h1
    exact ⟨j,rfl,by simpa using h2,by simpa using h3,k _ H1 _ μ1 t1 m1 (su 0 _) h4⟩
  | _=>exact False.elim h1
theorem Kf {t1:TS}{T1:STr}{g:TG}{E:En}{E':Ends}{K:PySem.W.Frag}{H0 H1:Hp}{J:It}{ds:List D}(sg:G7 K g G)(s1:D3 K t1 T1)(k:Af K H0 E E')(Y:AB K J H1 ds){σ:L2.St}{ρ:ST}{μ:Mu}(t0:Tk H0 H1)(rl:Rl K σ H1 ρ μ)(h:forR G T1 E ds ρ μ) :
    ∃ W:Nat→Nat→L2.St→Hp→Prop,(∃ m,W 0 m σ H1)∧∀ i m σ H,W i m σ H→
      (J.stop i H∧E'.nx σ H)∨(J.go i H∧∃ N:L2.St→Hp→Prop,(∀ σ' H',N σ' H'→∃ m',m' < m∧W (i+1) m' σ' H')∧∀ x H',J.yld i H x H'→g x σ H' fun σ2 H2=>t1 { E' with nx:=N,ct:=N,bk:=E'.nx } σ2 H2):=by
  refine ⟨fun i m σ' H'=>m=ds.length - i∧i≤ds.length∧Tk H1 H'∧∃ ρ' μ',Rl K σ' H' ρ' μ'∧forR G T1 E (ds.drop i) ρ' μ',⟨ds.length,by simp,Nat.zero_le _,.refl _,ρ,μ,rl,by simpa using h⟩,?_⟩
  rintro i m σ1 H2 ⟨rfl,hi,t12,ρ1,μ1,r1,h1⟩
  by_cases hlt:i < ds.length
  · refine .inr ⟨Y.go i H2 t12 hlt,fun σ' H'=>Tk H1 H'∧∃ ρ' μ',Rl K σ' H' ρ' μ'∧forR G T1 E (ds.drop (i+1)) ρ' μ',fun σ' H' ⟨t',ρ',μ',r',h'⟩=>⟨ds.length - (i+1),by omega,rfl,hlt,t',ρ',μ',r',h'⟩,fun x H3 y=>?_⟩
    obtain ⟨t23,⟨d,ed,pd⟩,mk⟩:=Y.yld i H2 x H3 t12 hlt y
    have e:ds.drop i=d::ds.drop (i+1):=by
      refine (List.drop_eq_getElem_cons hlt).trans ?_
      congr 1
      rw[List.getElem?_eq_getElem hlt] at ed
      exact Option.some.inj ed
    rw[e] at h1
    have t13:=t12.trans t23
    refine sg σ1 H3 ρ1 μ1 _ _ _ _ (r1.go t23 (mk _ r1.mu)) pd h1 fun σ4 H4 ρ4 μ4 t4 r4 h4=>?_
    have t14:=t13.trans t4
    have t04:=t0.trans t14
    exact s1 σ4 H4 ρ4 μ4 _ _ r4 h4 ⟨fun σ' H' ρ' μ' t' r' q=>⟨t14.trans t',ρ',μ',r',q⟩,(k.go t04).rt,(k.go t04).nx,fun σ' H' ρ' μ' t' r' q=>⟨t14.trans t',ρ',μ',r',q⟩⟩
  · have e:i=ds.length:=by omega
    subst e
    rw[List.drop_length] at h1
    exact .inl ⟨Y.stop _ H2 t12 (Nat.le_refl _),k.nx _ _ _ _ (t0.trans t12) r1 h1⟩
theorem fK {body:List Stmt}{T1:STr}(hp:PassesOwn (model X.prog X.w) X.A X.env X.xe)(hc:X.calm=true)(hi:LI X tg iter It')(hG:LG X tg G)(hb:LSs X body T1)(hf:∀ x,foldedSetIterable iter X.env x=pure x:=by intro _;rfl) :
    LS X (.For tg iter body [] pos) (iZ It' G T1):=by
  obtain ⟨wi,pi,si⟩:=hi.ex
  obtain ⟨g,pg,sg⟩:=hG.ex
  obtain ⟨t1,p1,s1⟩:=hb.ex
  exact ⟨_,G5 hp hc pi pg p1 hf,fun σ H ρ μ E E' rl h k=>si σ H ρ μ _ _ rl h fun J H1 ds μ1 t1' m1 Y h1=>Kf sg s1 k Y t1' (rl.go t1' m1) h1⟩
def wD (K:PySem.W.Frag)(T:ETr):TE:=fun σ H Q'=>∃ ρ μ Q,Rl K σ H ρ μ∧T ρ μ Q∧fN K H Q Q'
def liftT (K:PySem.W.Frag)(T:TTr):TT:=fun σ H Q'=>∃ ρ μ Q,Rl K σ H ρ μ∧T ρ μ Q∧∀ b H' μ',Tk H H'→bE K H' μ'→Q b μ'→Q' b H'
abbrev EL (K:PySem.W.Frag)(n:Nat)(σ:L2.St)(H:Hp)(k:ST→Mu→Prop)(k':L2.St→Hp→Prop):Prop:=∀ σ' H' ρ' μ',Tk H H'→Rl K σ' H' ρ' μ'→(σ'.length=σ.length∧∀ j,n≤j→σ'[j]? = σ[j]?)→k ρ' μ'→k' σ' H'
def vB (K:PySem.W.Frag)(n:Nat)(G:GTr):TG:=fun v σ H k'=>∃ ρ μ d k,Rl K σ H ρ μ∧Dp K H v d∧G d ρ μ k∧EL K n σ H k k'
theorem LE.pe (h:LE X e Te):PE X e (wD X.K Te):=by
  obtain ⟨t,p,s⟩:=h.ex
  exact fun pins st σ H Q I ⟨ρ,μ,Q0,rl,hT,k⟩=>p pins st σ H Q I (s σ H ρ μ Q0 Q rl hT k)
structure BW (X:Cx) (ifs:List Expr) (Tt:TTr):Prop where
  pe:DT X ifs (liftT X.K Tt)
theorem dg:BW X [] jd:=⟨fun pins s σ H Q I ⟨ρ,μ,Q0,rl,hT,k⟩=>CF pins s σ H Q I (k true H μ (.refl H) rl.mu hT)⟩
theorem pP (h:LT X c Tt):BW X [c] Tt:=by
  obtain ⟨t,p,s⟩:=h.ex
  exact ⟨fun pins st σ H Q I ⟨ρ,μ,Q0,rl,hT,k⟩=>Ec p pins st σ H Q I (s σ H ρ μ Q0 Q rl hT k)⟩
structure LGc (X:Cx) (n:Nat) (tg:Expr) (G:GTr):Prop where
  pe:PG X tg (vB X.K n G)
theorem cI {x:Str}{n:Nat}(i:Nat)(hN:X.N.Nodup)(hin:i < n:=by decide)(hi:X.N[i]? = some x:=by rfl)(hx:Loc X.env.scope x:=by first | exact Or.inl rfl | exact Or.inr rfl)(hf:X.fn x=true∨X.env.scope.names.lookup x=some .local:=by first | exact .inr rfl | exact .inl rfl | assumption):LGc X n (.Name x pos) (aw i):=
  ⟨fun pins s σ H v u k' I r ⟨ρ,μ,d,k,rl,p,h,post⟩=>ki hN hi hx hf pins s σ H v u k' I r (post _ H _ μ (.refl H) (rl.set p i) ⟨by simp,fun j hj=>by rw[List.getElem?_set_ne (by omega)]⟩ h)⟩
theorem wB {K:PySem.W.Frag}{σ:L2.St}{H:Hp}{ρ:ST}{μ:Mu}(rl:Rl K σ H ρ μ)(n:Nat)(caps:List Nat):Rl K (iI σ n caps) H (gH ρ n caps) μ:=by
  refine ⟨by unfold iI gH;simp,fun i d e=>?_,rl.mu⟩
  have gen:∀ (n i:Nat),lk (List.replicate n none++caps.map (lk ρ)) i=some d→∃ j,i=n+j∧∃ k,caps[j]? = some k∧lk ρ k=some d:=by
    intro n
    induction n with
    | zero=>
      intro i h
      have h':lk (caps.map (lk ρ)) i=some d:=by simpa using h
      have g2:∀ (cs:List Nat) (i:Nat),lk (cs.map (lk ρ)) i=some d→∃ k,cs[i]? = some k∧lk ρ k=some d:=by
        intro cs
        induction cs with
        | nil=>intro i h;cases i<;>cases h
        | cons c r ih=>intro i h;cases i with
          | zero=>exact ⟨c,rfl,h⟩
          | succ i=>simpa using ih i h
      exact ⟨i,by omega,g2 caps i h'⟩
    | succ n ih=>
      intro i h
      cases i with
      | zero=>cases h
      | succ i=>
        obtain ⟨j,rfl,k,h1,h2⟩:=ih i h
        exact ⟨j,by omega,k,h1,h2⟩
  obtain ⟨j,rfl,k,h1,h2⟩:=gen n i e
  obtain ⟨v,h3,h4⟩:=rl.loc k d h2
  refine ⟨v,?_,h4⟩
  unfold iI
  rw[List.getElem?_append_right (by simp)]
  simp[h1,h3]
theorem DB {ifs:List Expr}{scope:Scope}{Nc:List Str}{n:Nat}{caps:List Nat}(hxe:X.xe=fun _ _=>False)(hcalm:X.calm=true)(hi:LI X tg iter It')
    (hbody:∀ (cl:List (Str×Addr)) (C:Addr) (s₀:Shared) (H₀:Hp) (ex:List Addr),LGc (b7 X scope Nc cl C s₀ H₀ ex) n tg G∧BW (b7 X scope Nc cl C s₀ H₀ ex) ifs Tt∧LE (b7 X scope Nc cl C s₀ H₀ ex) elt Te)
    (hfree:∀ y∈scope.names,y.2=.free→X.env.kindOf y.1=some .cell) (hcell:∀ y∈scope.names,y.2≠.cell) (lB:scope.kind=.function)
    (hnames:∀ y∈scope.names,y.2=.local→scope.names.lookup y.1=some .local) (hlen:Nc.length=n+caps.length)
    (hcap:∀ (j k:Nat),caps[j]? = some k→∃ x,Nc[n+j]? = some x∧X.N[k]? = some x∧scope.names.lookup x=some .free)
    (hs:∀ x,foldedSetIterable iter X.env x=pure x:=by intro _;rfl) :
    LE X (.ListComp elt [⟨tg,iter,ifs,0⟩] scope pos) (cZ It' G Tt Te n caps):=by
  obtain ⟨wi,pi,si⟩:=hi.ex
  refine ⟨_,lA (wo (g:=vB X.K n G) (tt:=liftT X.K Tt) (te:=wD X.K Te) hxe hcalm pi (fun cl C s₀ H₀ ex=>let ⟨h1,h2,h3⟩:=hbody cl C s₀ H₀ ex;⟨h1.pe,h2.pe,h3.pe⟩) hfree hcell lB hnames hlen hcap hs),?_⟩
  intro σ H ρ μ Q Q' rl h k
  refine si σ H ρ μ _ _ rl h fun J H1 ds μ1 t1 m1 Y h1 D hD=>?_
  have hp:=h1 D (m1.free hD)
  have tD:Tk H1 (L2.upd H1 D (.lst [])):=.new hD
  have mD:bE X.K (L2.upd H1 D (.lst [])) (up μ1 D (.lst [])):=fun a o e=>by
    by_cases ha:a=D
    · subst ha
      rw[aM] at e;cases e
      exact ⟨[],aF,.nil⟩
    · rw[aV ha] at e
      exact cm m1 hD a o e
  refine ⟨fun i m ys H2=>m=ds.length - i∧i≤ds.length∧Tk H1 H2∧∃ μ2,bE X.K H2 μ2∧eC D G Tt Te (gH ρ n caps) (fun μ'=>kL μ' D fun zs=>Q (.ls zs) (dn μ' D)) (ds.drop i) μ2,
    ⟨ds.length,by simp,Nat.zero_le _,tD,_,mD,by simpa using hp⟩,?_⟩
  rintro i m ys H2 ⟨rfl,hi,t12,μ2,m2,h2⟩
  by_cases hlt:i < ds.length
  · refine .inr ⟨Y.go i H2 t12 hlt,fun ys' H'=>Tk H1 H'∧∃ μ',bE X.K H' μ'∧eC D G Tt Te (gH ρ n caps) (fun μ'=>kL μ' D fun zs=>Q (.ls zs) (dn μ' D)) (ds.drop (i+1)) μ',fun ys' H' ⟨t',μ',m',h'⟩=>⟨ds.length - (i+1),by omega,rfl,hlt,t',μ',m',h'⟩,fun x H3 y=>?_⟩
    obtain ⟨t23,⟨d,ed,pd⟩,mk⟩:=Y.yld i H2 x H3 t12 hlt y
    have e:ds.drop i=d::ds.drop (i+1):=by
      refine (List.drop_eq_getElem_cons hlt).trans ?_
      congr 1
      rw[List.getElem?_eq_getElem hlt] at ed
      exact Option.some.inj ed
    rw[e] at h2
    have t13:=t12.trans t23
    have r3:Rl X.K (iI σ n caps) H3 (gH ρ n caps) μ2:=wB (rl.go (t1.trans t13) (mk _ m2)) n caps
    refine ⟨_,_,d,_,r3,pd,h2,fun σ4 H4 ρ4 μ4 t4 r4 kp h4=>⟨⟨kp.1.symm,fun j v ej=>?_⟩,_,_,_,r4,h4,fun b H5 μ5 t5 m5 h5=>?_⟩⟩
    · by_cases hj:n≤j
      · rw[kp.2 j hj];exact ej
      · obtain ⟨j',k',e1,_⟩:=mw ej
        omega
    · have t15:=t13.trans (t4.trans t5)
      cases b with
      | false=>exact sP ⟨t15,μ5,m5,h5⟩
      | true=>
        refine sE ⟨_,_,_,r4.go t5 m5,h5,fun v H6 d6 μ6 t6 m6 p6 h6=>?_⟩
        obtain ⟨zs,ez,lz,h7⟩:=ck h6
        obtain ⟨xs,ex,lx⟩:=m6 D _ ez
        have t67:Tk H6 (L2.upd H6 D (.lst (xs++[v]))):=.upd (fun ys z=>by rw[ex] at z;cases z) fun o' u z=>by rw[ex] at z;cases z
        refine ⟨xs,ex,by rw[lx.length];exact Nat.lt_of_lt_of_le lz (by decide),(t15.trans t6).trans t67,up μ6 D (.lst (zs++[d6])),fun a o ea=>?_,h7⟩
        by_cases ha:a=D
        · subst ha
          rw[aM] at ea;cases ea
          exact ⟨_,aF,(lx.append (.cons p6 .nil)).mono t67⟩
        · rw[aV ha] at ea
          exact (m6 a _ ea).ne t67 ha
  · have e:i=ds.length:=by omega
    subst e
    rw[List.drop_length] at h2
    obtain ⟨zs,ez,hq⟩:=ck (show kL μ2 D fun zs=>Q (.ls zs) (dn μ2 D) from h2)
    obtain ⟨xs,ex,lx⟩:=m2 D _ ez
    refine .inl ⟨Y.stop _ H2 t12 (Nat.le_refl _),D,xs,rfl,ex,fun o=>?_⟩
    have t2f:Tk H2 (L2.upd H2 D (.frz o (.lst xs))):=.upd (fun ys z=>by rw[ex] at z;cases z) fun o' u z=>by rw[ex] at z;cases z
    refine k _ _ _ (dn μ2 D) ((t1.trans t12).trans t2f) (fun a o' ea=>?_) (.ls (.inl ⟨o,aF⟩) (lx.mono t2f)) hq
    have ha:a≠D:=fun z=>by subst z;unfold dn at ea;rw[if_pos rfl] at ea;cases ea
    have ea':μ2 a=some o':=by unfold dn at ea;rw[if_neg ha] at ea;exact ea
    exact (m2 a _ ea').ne t2f ha
end
end
section
open PySem PySem.Spec PyProof.Rows L2
def qr (fn:List (Str×NameKind))(XN:List Str)(sc:Scope)(Nc:List Str)(n:Nat)(caps:List Nat):Bool:=
  sc.names.all (fun y=>(y.2 != .free || fn.lookup y.1 == some .cell)&&y.2 != .cell&&(y.2 != .local || sc.names.lookup y.1 == some .local))&&sc.kind == .function&&Nc.length == n+caps.length &&
  (List.range caps.length).all fun j=>match caps[j]? with
    | some k=>(match XN[k]? with
      | some x=>Nc[n+j]? == some x&&sc.names.lookup x == some .free
      | none=>false)
    | none=>false
section
variable {X:Cx} {tg a b c e elt iter:Expr} {Ta Tb Te:ETr} {Tt:TTr} {pos:Pos} {It':ATr} {G:GTr}
theorem bS {ifs:List Expr}{scope fsc:Scope}(XN Nc:List Str)(n:Nat)(caps:List Nat)(hxe:X.xe=fun _ _=>False)(hcalm:X.calm=true)(hi:LI X tg iter It')
    (hbody:∀ (cl:List (Str×Addr)) (C:Addr) (s₀:Shared) (H₀:Hp) (ex:List Addr),LGc (b7 X scope Nc cl C s₀ H₀ ex) n tg G∧BW (b7 X scope Nc cl C s₀ H₀ ex) ifs Tt∧LE (b7 X scope Nc cl C s₀ H₀ ex) elt Te)
    (hsc:X.env.scope=fsc) (hXN:X.N=XN) (hok:qr fsc.names XN scope Nc n caps=true)
    (hs:∀ x,foldedSetIterable iter X.env x=pure x:=by intro _;rfl) :
    LE X (.ListComp elt [⟨tg,iter,ifs,0⟩] scope pos) (cZ It' G Tt Te n caps):=by
  unfold qr at hok
  simp only[Bool.and_eq_true,List.all_eq_true] at hok
  obtain ⟨⟨⟨h1,h2⟩,h3⟩,h4⟩:=hok
  refine DB hxe hcalm hi hbody (fun y hy hf=>?_) (fun y hy hf=>?_) (by simpa using h2) (fun y hy hf=>?_) (by simpa using h3) (fun j k hj=>?_) hs
  · have:=(h1 y hy).1.1
    show X.env.scope.names.lookup y.1=_
    rw[hsc]
    simpa[hf] using this
  · have:=(h1 y hy).1.2
    simp[hf] at this
  · have:=(h1 y hy).2
    simpa[hf] using this
  · have hl:j < caps.length:=(List.getElem?_eq_some_iff.mp hj).1
    have:=h4 j (List.mem_range.mpr hl)
    rw[hj] at this
    dsimp only at this
    rw[hXN]
    cases e:XN[k]? with
    | none=>rw[e] at this;cases this
    | some x=>
      rw[e] at this
      dsimp only at this
      rw[Bool.and_eq_true] at this
      exact ⟨x,by simpa using this.1,rfl,by simpa using this.2⟩
end
theorem jB:∀ {bs:List Bool} {us:List Value},Vals (bs.map V.bl) us→LSm.BoolsAre us bs
  | [],_,.nil=>.nil
  | b::r,_,.cons h t=>by
    cases (show _=Value.bool b from h)
    exact .cons b (jB t)
theorem oJ {X:Cx}(hc:X.calm=true):bG X (.builtin "all") (fun xs H Q=>∃ (p:Addr) (ys:List V) (bs:List Bool),xs=[.ref p]∧SqL X.K H p ys∧ys=bs.map V.bl∧Q (.bl (bs.all id)) H):=fun pins s σ H xs us Q I rx ⟨p,ys,bs,e1,sq,e2,q⟩=>by
  subst e1 e2
  cases rx with | cons r1 r2=>
  cases r2
  cases (show _=Value.ref p from r1)
  obtain ⟨its,rv,pl,_⟩:=I.list sq
  have ils:s.heap.IsList p its.toArray:=by
    obtain ⟨o,n,h1,h2,_,h3⟩:=pl
    exact ⟨o,h1,h2,n,h3⟩
  have bls:=jB rv
  have hlt:p < s.heap.objs.size:=by obtain ⟨_,e,_⟩:=ils;exact Heap.lt_size e
  refine call_all_walk (wpAny_pyIter_list ils ?_)
  refine ⟨s.heap.objs.size,[s.heap.objs.size,p],[s.heap.objs.size],its.toArray.size,_,_,fun i=>(bs[i]?).getD true,rfl,Walks.list (A:=X.A.in1) (I.ok.hd hc) _ p (Nat.ne_of_lt hlt) its.toArray,
    ⟨⟨_,Heap.get?_push_size _ rfl,rfl,rfl⟩,ils.push _⟩,fun i v s' Q' E' gP gQ=>?_,fun h' tk hk=>?_⟩
  · obtain ⟨b,e,rfl⟩:=bls.get i v (by simpa using gP)
    simp only[e,Option.getD_some] at gQ
    exact wpAny_truthy_bool gQ
  · have e:((List.range its.toArray.size).all fun i=>(bs[i]?).getD true)=bs.all id:=by
      rw[List.size_toArray,bls.length];exact LSm.range_all bs
    rw[e]
    exact ⟨.bl _,H,I.kept (LSm.kept_iter hk),rfl,q⟩
theorem DpL.bools {K:PySem.W.Frag}{H:Hp}:∀ {xs:List V} {bs:List Bool},DpL K H xs (bs.map .bl)→xs=bs.map V.bl
  | _,[],.nil=>rfl
  | _,b::r,.cons h l=>by cases h;rw[DpL.bools l];rfl
theorem vQ {K:PySem.W.Frag}:lL K (fun xs H Q=>∃ (p:Addr) (ys:List V) (bs:List Bool),xs=[.ref p]∧SqL K H p ys∧ys=bs.map V.bl∧Q (.bl (bs.all id)) H) Es:=fun H μ xs ds Q Q' m p h k=>by
  unfold Es at h
  split at h
  · obtain ⟨bs,rfl,h⟩:=h
    cases p with | cons p1 p2=>cases p2;cases p1 with | ls q l=>exact ⟨_,_,bs,rfl,q.sq,l.bools,k _ H _ μ (.refl H) m (.bl _) h⟩
  · exact h.elim
end
section
open PySem PySem.Spec PyProof.Rows L2
def GV (K:PySem.W.Frag)(mg:Str→Option Value)(x:Str)(d:D):Prop:=∃ u v,mg x=some u∧RelV v u∧∀ H,Dp K H v d
theorem aR {X:Cx}{x:Str}{pos:Pos}{d:D}(hg:Gl X x)(h:GV X.K X.mg x d)(hd:(x == ("__debug__" : Str))=false:=by decide):LE X (.Name x pos) (TC d):=by
  obtain ⟨u,v,hm,r,p⟩:=h
  exact ⟨_,Dh hg hm r hd,fun σ H ρ μ Q Q' rl h k=>k v H d μ (.refl H) rl.mu (p H) h⟩
section
variable {K:PySem.W.Frag} {h:Heap} {mg:Str→Option Value} {x:Str}
theorem cK {i:Int}{t:Tok}(X:K.In h)(G:h.Ns mainGlobals mg)(a:PySem.W.nsIn K mainGlobals x=some (some (.int i t))):GV K mg x (.int i):=⟨_,.int i,PySem.W.mg_of X G a,⟨t,rfl⟩,fun _=>.int i⟩
theorem FI {p:Addr}{o:Obj}{its:Array Value}{n:Nat}{xs:List V}{ds:List D}(X:K.In h)(G:h.Ns mainGlobals mg)(a:PySem.W.nsIn K mainGlobals x=some (some (.ref p)))(l:K.lookup p=some o)(c:o.cls=.type "tuple")(dn:o.dict=none)(d:o.data=.seq its n)
    (z:its.size≤sizeLine) (r:Vals xs its.toList) (q:∀ H,DpL K H xs ds):GV K mg x (.tup ds):=⟨_,.ref p,PySem.W.mg_of X G a,rfl,fun H=>.tup (.inr ⟨o,its,n,l,c,dn,d,z,r⟩) (q H)⟩
end
def fE:ST→List Nat→List D→ST
  | ρ,i::is,d::ds=>fE (ρ.set i (some d)) is ds
  | ρ,_,_=>ρ
def fm (is:List Nat):GTr:=fun d ρ μ k=>match d with
  | .tup ds=>ds.length=is.length∧k (fE ρ is ds) μ
  | _=>False
def IW (K:PySem.W.Frag)(t:TGs)(is:List Nat):Prop:=∀ σ H ρ μ vs ds (k:ST→Mu→Prop) (k':L2.St→Hp→Prop),Rl K σ H ρ μ→DpL K H vs ds→ds.length=is.length→k (fE ρ is ds) μ→qQ K H k k'→t vs σ H k'
structure LGs (X:Cx) (es:List Expr) (is:List Nat):Prop where
  ex:∃ t,PGs X es t∧IW X.K t is
section
variable {X:Cx} {e tg:Expr} {es:List Expr} {is:List Nat} {pos:Pos} {x:Str} {Ta:ETr} {G:GTr}
theorem qy:LGs X [] []:=⟨_,vD,fun σ H ρ μ vs ds k k' rl l hl h q=>by
  cases ds with
  | nil=>cases l;exact ⟨rfl,q _ _ _ _ (.refl H) rl h⟩
  | cons=>cases hl⟩
theorem bV (i:Nat)(hN:X.N.Nodup)(h2:LGs X es is)(hi:X.N[i]? = some x:=by rfl)(hx:Loc X.env.scope x:=by first | exact Or.inl rfl | exact Or.inr rfl)(hf:X.fn x=true∨X.env.scope.names.lookup x=some .local:=by first | exact .inl rfl | exact .inr rfl | assumption)
    (hs:(assignEach (.Name x pos::es) X.env).map (·.2)=assign (.Name x pos) X.env::(assignEach es X.env).map (·.2):=by rfl):LGs X (.Name x pos::es) (i::is):=by
  obtain ⟨t,pt,st⟩:=h2.ex
  refine ⟨_,sN (ki hN hi hx hf) pt hs,fun σ H ρ μ vs ds k k' rl l hl h q=>?_⟩
  cases l with
  | nil=>cases hl
  | @cons v d vs ds p l=>exact ⟨v,vs,rfl,st _ H _ μ vs ds k k' (rl.set p i) l (by simpa using hl) h q⟩
theorem vx {k:Nat}(hc:X.calm=true)(h:LGs X es is)(hn:(assignEach es X.env).length=is.length:=by rfl)(hst:(assignEach es X.env).findIdx? (·.1)=none:=by rfl):LG X (.Tuple es k pos) (fm is):=by
  obtain ⟨t,pt,st⟩:=h.ex
  refine ⟨_,BC hc pt hn hst,fun σ H ρ μ v d k k' rl p h q=>?_⟩
  cases p with
  | @tup a xs ds sq l=>exact ⟨a,xs,rfl,sq,by rw[l.length];exact h.1,st σ H ρ μ xs ds k k' rl l h.1 h.2 q⟩
  | _=>exact False.elim h
theorem zf (he:LE X e Ta)(hG:LG X tg G)(hs:swapsWithSole [tg] e pos.line X.env=pure false:=by rfl)(hw:swappedStores [tg] e X.env=pure none:=by rfl)
    (h1:(assignEach [tg] X.env).map (·.2)=[assign tg X.env]:=by rfl):LS X (.Assign [tg] e pos) (aP Ta G):=by
  obtain ⟨ta,pa,sa⟩:=he.ex
  obtain ⟨g,pg,sg⟩:=hG.ex
  exact ⟨_,Ce pa pg hs hw h1,fun σ H ρ μ E E' rl h k=>sa σ H ρ μ _ _ rl h fun v H' d μ' t' m' p' h'=>sg σ H' ρ μ' v d _ _ (rl.go t' m') p' h' (k.go t').nx⟩
end
end
section
open PySem PySem.Spec PyProof.Rows L2
def d8 (tp:Bool)(h:Heap)(it a:Addr)(i:Nat):Prop:=match tp with
  | true=>h.IsTupleIter it a i
  | false=>h.IsListIter it a i
def cS (tp:Bool)(h:Heap)(a:Addr)(xs:Array Value):Prop:=match tp with
  | true=>h.IsTuple a xs
  | false=>h.IsList a xs
theorem d8.at {tp:Bool}{h g:Heap}{it a:Addr}{i:Nat}(x:d8 tp h it a i)(k:∀ o,h.get? it=some o→g.get? it=some o):d8 tp g it a i:=by
  cases tp with
  | true=>obtain ⟨o,e,r⟩:=x;exact ⟨o,k o e,r⟩
  | false=>obtain ⟨o,e,r⟩:=x;exact ⟨o,k o e,r⟩
theorem cS.at {tp:Bool}{h g:Heap}{a:Addr}{xs:Array Value}(x:cS tp h a xs)(k:∀ o,h.get? a=some o→g.get? a=some o):cS tp g a xs:=by
  cases tp with
  | true=>obtain ⟨o,e,r⟩:=x;exact ⟨o,k o e,r⟩
  | false=>obtain ⟨o,e,r⟩:=x;exact ⟨o,k o e,r⟩
theorem d8.ex {tp:Bool}{h:Heap}{it a:Addr}{i:Nat}(x:d8 tp h it a i):∃ o,h.get? it=some o∧∃ vs,o.data=.fields vs:=by
  cases tp with
  | true=>obtain ⟨o,e,_,d⟩:=x;exact ⟨o,e,_,d⟩
  | false=>obtain ⟨o,e,_,d⟩:=x;exact ⟨o,e,_,d⟩
section
variable {prog:Program} {w:World} {A:Around} {E:Value→Shared→Prop} {s:Shared}
theorem BD {it t:Addr}{i:Nat}{xs:Array Value}{x:Value}{Q:Value→Shared→Prop}(hi:s.heap.IsTupleIter it t i)(ht:s.heap.IsTuple t xs)(hx:xs[i]? = some x)
    (k:∀ g,g.IsTupleIter it t (i+1)→Heap.SameBut it s.heap g→Q x { s with heap:=g }):wpAny (model prog w) A (Builtin.SmallTypes.nextOf (.ref it)) Q E s:=by
  obtain ⟨ob,gb,cb,db⟩:=id hi
  obtain ⟨ot,gt,_,nt,dt⟩:=ht
  delta Builtin.SmallTypes.nextOf
  refine wpAny_bind (wpAny_callSpecial?_slot (name:=Str.ofString "__next__") hi.typeIs F.slot_tuple_iterator_next (wpAny_call_entry F.slot_tuple_iterator_next hi.typeIs F.entry_tuple_iterator_next ?_ (F.args_tuple_iterator_next_1 _)))
  refine wpAny_bind (m:=field (.ref it) 0) (wpAny_field gb db (x:=.ref t) rfl ?_)
  refine (show wpAny _ _ (if (Value.ref t == Value.none)=true then _ else _) _ _ s from ?_)
  rw[if_neg (show ¬ ((Value.ref t == Value.none)=true) by intro z;cases z)]
  refine wpAny_bind (m:=field (.ref it) 1) (wpAny_field gb db (x:=.int i 0) rfl ?_)
  refine wpAny_bind (m:=seqItems? (.ref t)) (wpAny_seqItems gt dt ?_)
  simp only[hx,Int.toNat_natCast]
  refine wpAny_bind (wpAny_setField gb db (by simp) (wpAny_pure ⟨x,rfl,wpAny_pure (k _ ⟨_,Heap.get?_update_self _ gb (Obj.isFreed_of_fields (Obj.data_mapFields db _)),(Obj.cls_mapFields ..).trans cb,?_⟩ (Heap.SameBut.update ..))⟩))
  rw[Obj.data_mapFields db];simp[rawInt]
theorem kh {tp:Bool}{it a:Addr}{i:Nat}{xs:Array Value}{x:Value}{Q:Value→Shared→Prop}(hi:d8 tp s.heap it a i)(hs:cS tp s.heap a xs)(hx:xs[i]? = some x)
    (k:∀ g,d8 tp g it a (i+1)→Heap.SameBut it s.heap g→Q x { s with heap:=g }):wpAny (model prog w) A (Builtin.SmallTypes.nextOf (.ref it)) Q E s:=by
  cases tp with
  | true=>exact BD hi hs hx k
  | false=>exact wpAny_nextOf_list_item hi hs hx k
theorem CO {it t:Addr}{i:Nat}{xs:Array Value}{Q:Value→Shared→Prop}(hh:A.handled=none)(hi:s.heap.IsTupleIter it t i)(ht:s.heap.IsTuple t xs)(hx:xs[i]? = none)
    (k:∀ g e,Heap.ExtBut it s.heap g→(∃ o,g.get? e=some o∧o.cls=.type "StopIteration")→E (.ref e) { s with heap:=g }):wpAny (model prog w) A (Builtin.SmallTypes.nextOf (.ref it)) Q E s:=by
  obtain ⟨ob,gb,cb,db⟩:=id hi
  obtain ⟨ot,gt,_,nt,dt⟩:=ht
  delta Builtin.SmallTypes.nextOf
  refine wpAny_bind (wpAny_callSpecial?_slot (name:=Str.ofString "__next__") hi.typeIs F.slot_tuple_iterator_next (wpAny_call_entry F.slot_tuple_iterator_next hi.typeIs F.entry_tuple_iterator_next ?_ (F.args_tuple_iterator_next_1 _)))
  refine wpAny_bind (m:=field (.ref it) 0) (wpAny_field gb db (x:=.ref t) rfl ?_)
  refine (show wpAny _ _ (if (Value.ref t == Value.none)=true then _ else _) _ _ s from ?_)
  rw[if_neg (show ¬ ((Value.ref t == Value.none)=true) by intro z;cases z)]
  refine wpAny_bind (m:=field (.ref it) 1) (wpAny_field gb db (x:=.int i 0) rfl ?_)
  refine wpAny_bind (m:=seqItems? (.ref t)) (wpAny_seqItems gt dt ?_)
  simp only[hx,Int.toNat_natCast]
  refine wpAny_bind (wpAny_rule (wpAny_bind (wpAny_setField gb db (by simp) (wpAny_bind (m:=newExc (.type "StopIteration") []) ?_))))
  simp only[newExc,newTuple]
  refine wpAny_bind (wpAny_newObj_type (wpAny_bind (m:=firstArgMember _ _) (wpAny_of_eq (a:=Value.none) (by first | rfl | (simp only[firstArgMember];rfl)) (wpAny_newObj_type ?_ (by size_fits)))) (by size_fits))
  simp only[raiseNew]
  refine wpAny_bind <| wpAny_handled ?_
  rw[(show A.in1.handled=none from hh)]
  exact wpAny_bind (wpAny_pure (wpAny_throw (k _ _ (((Heap.SameBut.update ..).extBut.push _).push _) ⟨_,Heap.get?_push_size _ rfl,rfl⟩)))
theorem uG {tp:Bool}{it a:Addr}{i:Nat}{xs:Array Value}{Q:Value→Shared→Prop}(hh:A.handled=none)(hi:d8 tp s.heap it a i)(hs:cS tp s.heap a xs)(hx:xs[i]? = none)
    (k:∀ g e,Heap.ExtBut it s.heap g→(∃ o,g.get? e=some o∧o.cls=.type "StopIteration")→E (.ref e) { s with heap:=g }):wpAny (model prog w) A (Builtin.SmallTypes.nextOf (.ref it)) Q E s:=by
  cases tp with
  | true=>exact CO hh hi hs hx k
  | false=>exact wpAny_nextOf_list_end hh hi hs hx k
structure Zp (z ti to i j a b:Addr):Prop where
  nd:[z,ti,to,i,j].Nodup
  na:a ∉ [z,to,i,j]
  nb:b ∉ [z,to,i,j]
structure ZAt (ta tb:Bool) (h:Heap) (z ti to i j a b:Addr) (k:Nat):Prop where
  zz:PySem.IsZip h z ti to .none
  zt:PySem.IsPair h ti (.ref i) (.ref j)
  zo:∃ u v,PySem.IsPair h to u v
  zi:d8 ta h i a k
  zj:d8 tb h j b k
theorem w4 {ta tb:Bool}{z ti to i j a b:Addr}{k:Nat}{xs ys:Array Value}{x y:Value}{Q:Option Value→Shared→Prop}(Z:Zp z ti to i j a b)(S:ZAt ta tb s.heap z ti to i j a b k)(ha:cS ta s.heap a xs)(hb:cS tb s.heap b ys)(hx:xs[k]? = some x)(hy:ys[k]? = some y)
    (q:∀ g,PySem.IsZip g z ti to (rawInt s.heap.objs.size)→PySem.IsPair g ti (.ref i) (.ref j)→PySem.IsPair g to x y→d8 ta g i a (k+1)→d8 tb g j b (k+1)→PySem.IsPair g s.heap.objs.size x y→
      (∀ c o,c≠z→c≠to→c≠i→c≠j→s.heap.get? c=some o→g.get? c=some o)→Q (some (.ref s.heap.objs.size)) { s with heap:=g }):wpAny (model prog w) A (pyNext (.ref z)) Q E s:=by
  obtain ⟨zz,zt,⟨u,v,zo⟩,zi,zj⟩:=S
  obtain ⟨nd,na,nb⟩:=Z
  simp only[List.nodup_cons,List.mem_cons,List.not_mem_nil,or_false,not_or] at nd na nb
  obtain ⟨⟨n1,n2,n3,n4⟩,⟨n5,n6,n7⟩,⟨n8,n9⟩,n10,_⟩:=nd
  obtain ⟨a1,a2,a3,a4⟩:=na
  obtain ⟨b1,b2,b3,b4⟩:=nb
  have hT:s.TypeIs (.ref z) "zip" := ⟨_,zz,rfl⟩
  unfold pyNext
  refine wpAny_bind (wpAny_attempt (wpAny_callSpecial?_slot (name:=Str.ofString "__next__") hT F.slot_zip_next (wpAny_call_entry F.slot_zip_next hT F.entry_zip_next ?_ (F.args_zip_next_1 _))))
  refine wpAny_bind (m:=field (.ref z) 2) (wpAny_field zz rfl (x:=.bool false) rfl ?_)
  refine wpAny_bind (m:=field (.ref z) 3) (wpAny_field zz rfl (x:=.ref ti) rfl (wpAny_bind (wpAny_seqItems zt rfl (wpAny_bind (m:=Builtin.SmallTypes.ownedTupleIsFree (.ref z)) ?_))))
  delta Builtin.SmallTypes.ownedTupleIsFree
  refine wpAny_bind (wpAny_field zz rfl (x:=.none) rfl (wpAny_pure ?_))
  simp only[if_true]
  refine wpAny_bind (wpAny_rule (wpAny_bind (wpAny_field zz rfl (x:=.ref to) rfl (wpAny_bind (wpAny_setField_rec zz (by simp) fun g1 zz1 k1=>wpAny_bind ?_)))))
  have zz1:PySem.IsZip g1 z ti to .ellipsis:=zz1
  simp only[List.zipIdx_nil,List.zipIdx_cons,List.forIn_nil,List.forIn_cons]
  refine wpAny_bind (wpAny_bind (wpAny_onRaise (wpAny_bind (m:=Builtin.SmallTypes.nextOf (.ref i)) (kh (s:={ s with heap:=g1 }) (zi.at fun o e=>(k1.2 i (Ne.symm n3)).trans e) (ha.at fun o e=>(k1.2 a a1).trans e) hx fun g2 zi2 k2=>wpAny_pure ?_))))
  have zo2:PySem.IsPair g2 to u v:=(k2.2 to n8).trans ((k1.2 to (Ne.symm n2)).trans zo)
  refine wpAny_bind (wpAny_seqItems zo2 rfl (wpAny_bind (PySem.wpAny_updateSeq_pair zo2 fun g3 zo3 k3=>wpAny_bind (wpAny_letGo (wpAny_pure ?_)))))
  have zo3:PySem.IsPair g3 to x v:=zo3
  refine wpAny_bind (wpAny_bind (wpAny_onRaise (wpAny_bind (m:=Builtin.SmallTypes.nextOf (.ref j)) (kh (s:={ s with heap:=g3 }) (zj.at fun o e=>(k3.2 j (Ne.symm n9)).trans ((k2.2 j (Ne.symm n10)).trans ((k1.2 j (Ne.symm n4)).trans e)))
    (hb.at fun o e=>(k3.2 b b2).trans ((k2.2 b b3).trans ((k1.2 b b1).trans e))) hy fun g4 zj4 k4=>wpAny_pure ?_))))
  have zo4:PySem.IsPair g4 to x v:=(k4.2 to n9).trans zo3
  refine wpAny_bind (wpAny_seqItems zo4 rfl (wpAny_bind (PySem.wpAny_updateSeq_pair zo4 fun g5 zo5 k5=>wpAny_bind (wpAny_letGo (wpAny_pure (wpAny_pure ?_))))))
  have zo5:PySem.IsPair g5 to x y:=zo5
  refine wpAny_bind (wpAny_seqItems zo5 rfl (wpAny_bind (wpAny_newTuple (wpAny_bind (m:=Builtin.SmallTypes.ownedTupleHandOut (.ref z) (.ref g5.objs.size)) ?_))))
  have sz:g5.objs.size=s.heap.objs.size:=by rw[k5.1,k4.1,k3.1,k2.1,k1.1]
  have zz5:PySem.IsZip g5 z ti to .ellipsis:=(k5.2 z n2).trans ((k4.2 z n4).trans ((k3.2 z n2).trans ((k2.2 z n3).trans zz1)))
  have zlt:z < g5.objs.size:=Heap.lt_size zz5
  delta Builtin.SmallTypes.ownedTupleHandOut
  have zz6:PySem.IsZip (g5.push { cls:=.type "tuple", data:=.seq #[x,y] }) z ti to .ellipsis:=Heap.get?_push_of_some _ zz5
  refine wpAny_bind (wpAny_setField_rec zz6 (by simp) fun g7 zz7 k7=>?_)
  have zz7:PySem.IsZip g7 z ti to (rawInt g5.objs.size):=zz7
  refine wpAny_setField_rec zz7 (by simp) fun g8 zz8 k8=>wpAny_pure ⟨_,rfl,wpAny_pure ?_⟩
  have up5:∀ c o,c≠z→g5.get? c=some o→g8.get? c=some o:=fun c o c1 e=>(k8.2 c c1).trans ((k7.2 c c1).trans (Heap.get?_push_of_some _ e))
  have Jk:PySem.IsPair g8 g5.objs.size x y:=(k8.2 _ (Nat.ne_of_gt zlt)).trans ((k7.2 _ (Nat.ne_of_gt zlt)).trans (Heap.get?_push_size _ rfl))
  have zz8:PySem.IsZip g8 z ti to (rawInt g5.objs.size):=zz8
  rw[sz] at zz8 Jk
  have all:∀ c o,c≠z→c≠to→c≠i→c≠j→s.heap.get? c=some o→g8.get? c=some o:=fun c o c1 c2 c3 c4 e=>up5 c o c1 ((k5.2 c c2).trans ((k4.2 c c4).trans ((k3.2 c c2).trans ((k2.2 c c3).trans ((k1.2 c c1).trans e)))))
  have fin:=q g8 zz8 (all ti _ (Ne.symm n1) n5 n6 n7 zt) (up5 to _ (Ne.symm n2) zo5) (zi2.at fun o e=>up5 i o (Ne.symm n3) ((k5.2 i (Ne.symm n8)).trans ((k4.2 i n10).trans ((k3.2 i (Ne.symm n8)).trans e)))) (zj4.at fun o e=>up5 j o (Ne.symm n4) ((k5.2 j (Ne.symm n9)).trans e)) Jk all
  rw[← sz] at fin
  exact fin
theorem Aq {ta tb:Bool}{z ti to i j a b:Addr}{k:Nat}{xs ys:Array Value}{Q:Option Value→Shared→Prop}(hh:A.handled=none)(Z:Zp z ti to i j a b)(S:ZAt ta tb s.heap z ti to i j a b k)(ha:cS ta s.heap a xs)(hb:cS tb s.heap b ys)(he:xs[k]? = none∨ys[k]? = none)
    (q:∀ g,(∀ c o,c≠z→c≠to→c≠i→c≠j→s.heap.get? c=some o→g.get? c=some o)→Q none { s with heap:=g }):wpAny (model prog w) A (pyNext (.ref z)) Q E s:=by
  obtain ⟨zz,zt,⟨u,v,zo⟩,zi,zj⟩:=S
  obtain ⟨nd,na,nb⟩:=Z
  simp only[List.nodup_cons,List.mem_cons,List.not_mem_nil,or_false,not_or] at nd na nb
  obtain ⟨⟨n1,n2,n3,n4⟩,⟨n5,n6,n7⟩,⟨n8,n9⟩,n10,_⟩:=nd
  obtain ⟨a1,a2,a3,a4⟩:=na
  obtain ⟨b1,b2,b3,b4⟩:=nb
  have hT:s.TypeIs (.ref z) "zip" := ⟨_,zz,rfl⟩
  have stop:∀ g e,(∃ o,g.get? e=some o∧o.cls=.type "StopIteration")→(∀ c o,c≠z→c≠to→c≠i→c≠j→s.heap.get? c=some o→g.get? c=some o)→
      wpAny (model prog w) A (isInstance (.ref e) (.type "StopIteration") >>= fun y=>if y=true then pure none else throw (.ref e)) Q E { s with heap:=g }:=fun g e ⟨o,ho,hc⟩ al=>by
    refine wpAny_bind <| wpAny_isInstance (T := "StopIteration") (b:=true) ⟨o,ho,hc⟩ isSubtype_stop ?_
    exact wpAny_pure (q g al)
  unfold pyNext
  refine wpAny_bind (wpAny_attempt (wpAny_callSpecial?_slot (name:=Str.ofString "__next__") hT F.slot_zip_next (wpAny_call_entry F.slot_zip_next hT F.entry_zip_next ?_ (F.args_zip_next_1 _))))
  refine wpAny_bind (m:=field (.ref z) 2) (wpAny_field zz rfl (x:=.bool false) rfl ?_)
  refine wpAny_bind (m:=field (.ref z) 3) (wpAny_field zz rfl (x:=.ref ti) rfl (wpAny_bind (wpAny_seqItems zt rfl (wpAny_bind (m:=Builtin.SmallTypes.ownedTupleIsFree (.ref z)) ?_))))
  delta Builtin.SmallTypes.ownedTupleIsFree
  refine wpAny_bind (wpAny_field zz rfl (x:=.none) rfl (wpAny_pure ?_))
  simp only[if_true]
  refine wpAny_bind (wpAny_rule (wpAny_bind (wpAny_field zz rfl (x:=.ref to) rfl (wpAny_bind (wpAny_setField_rec zz (by simp) fun g1 zz1 k1=>wpAny_bind ?_)))))
  have zz1:PySem.IsZip g1 z ti to .ellipsis:=zz1
  simp only[List.zipIdx_nil,List.zipIdx_cons,List.forIn_nil,List.forIn_cons]
  have zi1:d8 ta g1 i a k:=zi.at fun o e=>(k1.2 i (Ne.symm n3)).trans e
  have ha1:cS ta g1 a xs:=ha.at fun o e=>(k1.2 a a1).trans e
  refine wpAny_bind (wpAny_bind (wpAny_onRaise (wpAny_bind (m:=Builtin.SmallTypes.nextOf (.ref i)) ?_)))
  cases hx:xs[k]? with
  | none=>
    refine uG (s:={ s with heap:=g1 }) hh zi1 ha1 hx fun g2 e k2 he2=>?_
    obtain ⟨oe,ge,ce⟩:=he2
    have zz2:PySem.IsZip g2 z ti to .ellipsis:=k2 z _ n3 zz1
    have ez:e≠z:=fun y=>by subst y;rw[zz2] at ge;cases ge;simp at ce
    refine wpAny_setField_rec zz2 (by simp) fun g3 _ k3=>stop g3 e ⟨oe,(k3.2 e ez).trans ge,ce⟩ fun c o c1 _ c3 _ y=>(k3.2 c c1).trans (k2 c o c3 ((k1.2 c c1).trans y))
  | some x=>
    have hy:ys[k]? = none:=by rcases he with h | h;rw[hx] at h;cases h;exact h
    refine kh (s:={ s with heap:=g1 }) zi1 ha1 hx fun g2 zi2 k2=>wpAny_pure ?_
    have zo2:PySem.IsPair g2 to u v:=(k2.2 to n8).trans ((k1.2 to (Ne.symm n2)).trans zo)
    refine wpAny_bind (wpAny_seqItems zo2 rfl (wpAny_bind (PySem.wpAny_updateSeq_pair zo2 fun g3 zo3 k3=>wpAny_bind (wpAny_letGo (wpAny_pure ?_)))))
    refine wpAny_bind (wpAny_bind (wpAny_onRaise (wpAny_bind (m:=Builtin.SmallTypes.nextOf (.ref j)) (uG (s:={ s with heap:=g3 }) hh (zj.at fun o e=>(k3.2 j (Ne.symm n9)).trans ((k2.2 j (Ne.symm n10)).trans ((k1.2 j (Ne.symm n4)).trans e)))
      (hb.at fun o e=>(k3.2 b b2).trans ((k2.2 b b3).trans ((k1.2 b b1).trans e))) hy fun g4 e k4 he4=>?_))))
    obtain ⟨oe,ge,ce⟩:=he4
    have zz4:PySem.IsZip g4 z ti to .ellipsis:=k4 z _ n4 ((k3.2 z n2).trans ((k2.2 z n3).trans zz1))
    have ez:e≠z:=fun y=>by subst y;rw[zz4] at ge;cases ge;simp at ce
    refine wpAny_setField_rec zz4 (by simp) fun g5 _ k5=>stop g5 e ⟨oe,(k5.2 e ez).trans ge,ce⟩ fun c o c1 c2 c3 c4 y=>(k5.2 c c1).trans (k4 c o c4 ((k3.2 c c2).trans ((k2.2 c c3).trans ((k1.2 c c1).trans y))))
abbrev itO (tp:Bool)(a:Addr):Obj:={ cls:=.type (match tp with | true => "tuple_iterator" | false => "list_iterator"),data:=.fields #[.ref a,.int 0 0] }
theorem DH {tp:Bool}{a:Addr}{xs:Array Value}{Q:Value→Shared→Prop}(h:cS tp s.heap a xs)(q:Q (.ref s.heap.objs.size) { s with heap:=s.heap.push (itO tp a) }):wpAny (model prog w) A (pyIter (.ref a)) Q E s:=by
  cases tp with
  | true=>exact wpAny_pyIter_tuple h q
  | false=>exact wpAny_pyIter_list h q
abbrev zg1 (ta:Bool)(h:Heap)(a:Addr):Heap:=h.push (itO ta a)
abbrev zg2 (ta tb:Bool)(h:Heap)(a b:Addr):Heap:=(zg1 ta h a).push (itO tb b)
abbrev zg3 (ta tb:Bool)(h:Heap)(a b:Addr):Heap:=(zg2 ta tb h a b).push { cls:=.type "tuple", data:=.seq #[.ref h.objs.size,.ref (zg1 ta h a).objs.size] }
abbrev zg4 (ta tb:Bool)(h:Heap)(a b:Addr):Heap:=(zg3 ta tb h a b).push { cls:=.type "tuple", data:=.seq #[.none,.none] }
abbrev zg5 (ta tb:Bool)(h:Heap)(a b:Addr):Heap:=(zg4 ta tb h a b).push { cls:=.type "zip", data:=.fields #[.none,.bool false,.bool false,.ref (zg2 ta tb h a b).objs.size,.ref (zg3 ta tb h a b).objs.size] }
theorem Bx (ta tb:Bool)(a b:Addr)(xs ys:Array Value):Meets (Builtin.«zip.__new__» ⟨[.type "zip", .ref a,.ref b],[]⟩) (fun _ R s=>cS ta s.heap a xs∧cS tb s.heap b ys∧R (.ok (.ret (.ref (zg4 ta tb s.heap a b).objs.size))) { s with heap:=zg5 ta tb s.heap a b }):=
  .of_wp fun prog w A R s h=>by
    rcases s with ⟨hp,g,d,tk,os⟩
    obtain ⟨h1,h2,h⟩:=h
    have hs0:=PySem.sub_zip
    have H1:cS ta (Shared.heap ⟨hp,g,d,tk,os⟩) a xs:=h1
    have H2:cS tb (Shared.heap ⟨hp.push (itO ta a),g,d,tk,os⟩) b ys:=cS.at h2 fun o e=>Heap.get?_push_of_some _ e
    wp_walk using DH H1,DH H2
    exact ⟨_,rfl,h⟩
theorem xQ {ta tb:Bool}{a b:Addr}{xs ys:Array Value}{Q:Value→Shared→Prop}(h1:cS ta s.heap a xs)(h2:cS tb s.heap b ys)
    (q:∀ g,ZAt ta tb g (s.heap.objs.size+4) (s.heap.objs.size+2) (s.heap.objs.size+3) s.heap.objs.size (s.heap.objs.size+1) a b 0→(∀ c o,s.heap.get? c=some o→g.get? c=some o)→Q (.ref (s.heap.objs.size+4)) { s with heap:=g }) :
    wpAny (model prog w) A (call (.type "zip") [.ref a,.ref b]) Q E s:=by
  refine callType_new F.called_zip (by decide) (F.typeCall_zip_2 _ _) (F.newCall_zip_2 _ _) (fun obj=>F.args_object_init_3 obj _ _) F.entry_zip_new (Bx ta tb a b xs ys) ⟨h1,h2,?_⟩
  have s1:(zg1 ta s.heap a).objs.size=s.heap.objs.size+1:=Heap.size_push ..
  have s2:(zg2 ta tb s.heap a b).objs.size=s.heap.objs.size+2:=by rw[Heap.size_push,s1]
  have s3:(zg3 ta tb s.heap a b).objs.size=s.heap.objs.size+3:=by rw[Heap.size_push,s2]
  have s4:(zg4 ta tb s.heap a b).objs.size=s.heap.objs.size+4:=by rw[Heap.size_push,s3]
  have p5:(zg5 ta tb s.heap a b).get? (zg4 ta tb s.heap a b).objs.size=some _:=Heap.get?_push_size _ rfl
  have p4:(zg5 ta tb s.heap a b).get? (zg3 ta tb s.heap a b).objs.size=some _:=Heap.get?_push_of_some _ (Heap.get?_push_size _ rfl)
  have p3:(zg5 ta tb s.heap a b).get? (zg2 ta tb s.heap a b).objs.size=some _:=Heap.get?_push_of_some _ (Heap.get?_push_of_some _ (Heap.get?_push_size _ rfl))
  have p2:(zg5 ta tb s.heap a b).get? (zg1 ta s.heap a).objs.size=some (itO tb b):=Heap.get?_push_of_some _ (Heap.get?_push_of_some _ (Heap.get?_push_of_some _ (Heap.get?_push_size _ rfl)))
  have p1:(zg5 ta tb s.heap a b).get? s.heap.objs.size=some (itO ta a):=Heap.get?_push_of_some _ (Heap.get?_push_of_some _ (Heap.get?_push_of_some _ (Heap.get?_push_of_some _ (Heap.get?_push_size _ rfl))))
  have i1:d8 ta (zg5 ta tb s.heap a b) s.heap.objs.size a 0:=by cases ta<;>exact ⟨_,p1,rfl,rfl⟩
  have i2:d8 tb (zg5 ta tb s.heap a b) (zg1 ta s.heap a).objs.size b 0:=by cases tb<;>exact ⟨_,p2,rfl,rfl⟩
  show _∧_
  rw[s2,s3,s4] at p5
  rw[s1,s2] at p3
  rw[s3] at p4
  rw[s1] at i2
  rw[s4]
  exact ⟨⟨_,p5,rfl⟩,q _ ⟨p5,p3,⟨_,_,p4⟩,i1,i2⟩ fun c o x=>Heap.get?_push_of_some _ (Heap.get?_push_of_some _ (Heap.get?_push_of_some _ (Heap.get?_push_of_some _ (Heap.get?_push_of_some _ x))))⟩
end
def Sq (tp:Bool)(K:PySem.W.Frag)(H:Hp)(a:Addr)(xs:List V):Prop:=match tp with
  | true=>SqT K H a xs
  | false=>SqF K H a xs
theorem Inv.sq {X:Cx}{pins:List (Addr×Obj)}{σ:L2.St}{H:Hp}{s:Shared}{tp:Bool}{a:Addr}{xs:List V}(I:Inv X pins σ H s)(h:Sq tp X.K H a xs):∃ its:List Value,Vals xs its∧cS tp s.heap a its.toArray:=by
  cases tp with
  | true=>obtain ⟨its,r,p,_⟩:=I.tuple h;exact ⟨its,r,p⟩
  | false=>
    obtain ⟨its,r,⟨o,n,e1,e2,_,e3⟩,_⟩:=I.list (SqF.sq h)
    exact ⟨its,r,o,e1,e2,n,e3⟩
theorem Inv.tQ {X:Cx}{pins:List (Addr×Obj)}{σ:L2.St}{H:Hp}{s:Shared}{tp:Bool}{a:Addr}{xs ys:List V}(I:Inv X pins σ H s)(h:Sq tp X.K H a xs)(h':Sq tp X.K H a ys):xs=ys:=by
  cases tp with
  | true=>exact I.og h h'
  | false=>exact I.rG (SqF.sq h) (SqF.sq h')
def Itz (ta tb:Bool)(K:PySem.W.Frag)(a b:Addr):It:=
  ⟨fun i H=>∃ xs ys x y,Sq ta K H a xs∧Sq tb K H b ys∧xs[i]? = some x∧ys[i]? = some y,
   fun i H v H'=>∃ x y p,(∀ xs,Sq ta K H a xs→xs[i]? = some x)∧(∀ ys,Sq tb K H b ys→ys[i]? = some y)∧v=.ref p∧H p=none∧H'=L2.upd H p (.tup [x,y]),
   fun i H=>∃ xs ys,Sq ta K H a xs∧Sq tb K H b ys∧(xs.length≤i∨ys.length≤i)⟩
theorem zR {P:Program}{w:World}{K:PySem.W.Frag}{es:List Expr}{ek:Nat}{ep:Pos}{ta tb:Bool}{z ti to i j a b:Addr}(Z:Zp z ti to i j a b) :
    Turn P w K (.Tuple es ek ep) (Itz ta tb K a b) [z,ti,to,i,j] z (fun k h=>ZAt ta tb h z ti to i j a b k) where
  mem:=by simp
  obj:=fun k h S c hc=>by
    obtain ⟨zz,zt,⟨u,v,zo⟩,zi,zj⟩:=S
    simp only[List.mem_cons,List.not_mem_nil,or_false] at hc
    rcases hc with rfl | rfl | rfl | rfl | rfl
    · exact ⟨_,zz,fun v y=>by cases y⟩
    · exact ⟨_,zt,fun v y=>by cases y⟩
    · exact ⟨_,zo,fun v y=>by cases y⟩
    · obtain ⟨o,e,vs,d⟩:=zi.ex;exact ⟨o,e,fun v y=>by rw[d] at y;cases y⟩
    · obtain ⟨o,e,vs,d⟩:=zj.ex;exact ⟨o,e,fun v y=>by rw[d] at y;cases y⟩
  keep:=fun k h g S kp=>by
    obtain ⟨zz,zt,⟨u,v,zo⟩,zi,zj⟩:=S
    exact ⟨kp z (by simp) _ zz,kp ti (by simp) _ zt,⟨u,v,kp to (by simp) _ zo⟩,zi.at fun o e=>kp i (by simp) o e,zj.at fun o e=>kp j (by simp) o e⟩
  item:=by
    intro X hP hw hK hc k pins s σ H E I hf S hg
    subst hP hw hK
    obtain ⟨xs,ys,x,y,qa,qb,ex,ey⟩:=hg
    obtain ⟨ia,ra,sa⟩:=Inv.sq I qa
    obtain ⟨ib,rb,sb⟩:=Inv.sq I qb
    obtain ⟨ux,hux,rx⟩:=ra.get ex
    obtain ⟨uy,huy,ry⟩:=rb.get ey
    refine w4 Z S sa sb (x:=ux) (y:=uy) (by simpa using hux) (by simpa using huy) fun g zz zt zo zi zj new al=>⟨_,rfl,wpAny_letOwnedTupleGo_zip zz fun g2 zz2 k2=>?_⟩
    have nd:=Z.nd
    simp only[List.nodup_cons,List.mem_cons,List.not_mem_nil,or_false,not_or] at nd
    obtain ⟨⟨n1,n2,n3,n4⟩,_⟩:=nd
    have zlt:z < s.heap.objs.size:=Heap.lt_size S.zz
    have fr:H s.heap.objs.size=none:=I.hok.fresh (Nat.le_refl _)
    have new2:PySem.IsPair g2 s.heap.objs.size ux uy:=(k2.2 _ (Nat.ne_of_gt zlt)).trans new
    have all:∀ c o,c ∉ [z,ti,to,i,j]→s.heap.get? c=some o→g2.get? c=some o:=fun c o hc e=>by
      simp only[List.mem_cons,List.not_mem_nil,or_false,not_or] at hc
      exact (k2.2 c hc.1).trans (al c o hc.1 hc.2.2.1 hc.2.2.2.1 hc.2.2.2.2 e)
    have nfp:∀ c u,H c=some u→c ∉ [z,ti,to,i,j]:=fun c u e hc=>by rw[(hf c hc).1] at e;cases e
    refine ⟨.ref s.heap.objs.size,L2.upd H s.heap.objs.size (.tup [x,y]),?_,rfl,⟨x,y,_,fun xs' q=>by rw[Inv.tQ I q qa];exact ex,fun ys' q=>by rw[Inv.tQ I q qb];exact ey,rfl,fr,rfl⟩,⟨zz2,(k2.2 ti (Ne.symm n1)).trans zt,⟨_,_,(k2.2 to (Ne.symm n2)).trans zo⟩,zi.at fun o e=>(k2.2 i (Ne.symm n3)).trans e,zj.at fun o e=>(k2.2 j (Ne.symm n4)).trans e⟩,fun c hc=>?_⟩
    · refine L2.Inv.step (s:=s) (H:=H) (H':=L2.upd H s.heap.objs.size (.tup [x,y])) (g':=s.gens) (d':=s.drawn) (t':=s.toks) (h':=g2) (ch:=[z,ti,to,i,j]) I (fun c hc=>⟨(hf c hc).2.2.2.1,(hf c hc).2.1,(hf c hc).2.2.2.2.1,(hf c hc).2.2.2.2.2⟩) (fun c o _ _ hc e _=>all c o hc e) (fun c o _ _ hc e _=>⟨o.slots,all c o hc e⟩) (fun c o hc e n=>?_) (fun c o hc e=>⟨o,all c o hc e⟩)
        (fun c xs e=>?_) (fun c o u e=>?_) (fun c ps e=>⟨#[],?_⟩) (fun m hm=>?_) (fun c u e=>?_) I.bare
      · rw[aA (Nat.ne_of_lt (Heap.lt_size e))];exact n
      · rw[aA (aQ e fr)];exact e
      · rw[aA (aQ e fr)];exact e
      · rw[aA (aQ e fr),e];simp
      · obtain ⟨o,es',ep',ho,r⟩:=hm
        exact ⟨o,es',ep',all _ o (fun hc=>(hf _ hc).2.1 rfl) ho,r⟩
      · by_cases hcT:c=s.heap.objs.size
        · subst hcT
          rw[aF] at e;cases e
          exact ⟨by show 2≤sizeLine;decide,[ux,uy],.cons rx (.cons ry .nil),⟨_,new2⟩⟩
        · rw[aA hcT] at e
          refine (I.hok c u e).jW (fun c' v hc' q=>all c' v ?_ q) (fun c' q=>by rw[aA (aQ q fr)];exact q) fun c' xs q=>by rw[aA (aQ q fr)];exact q
          rcases hc' with rfl | hc'
          · exact nfp _ _ e
          · exact nfp _ _ hc'
    · have hcl:c≠s.heap.objs.size:=by
        obtain ⟨zz,zt,⟨u,v,zo⟩,zi,zj⟩:=S
        simp only[List.mem_cons,List.not_mem_nil,or_false] at hc
        rcases hc with rfl | rfl | rfl | rfl | rfl
        · exact Nat.ne_of_lt (Heap.lt_size zz)
        · exact Nat.ne_of_lt (Heap.lt_size zt)
        · exact Nat.ne_of_lt (Heap.lt_size zo)
        · obtain ⟨o,e,_⟩:=zi.ex;exact Nat.ne_of_lt (Heap.lt_size e)
        · obtain ⟨o,e,_⟩:=zj.ex;exact Nat.ne_of_lt (Heap.lt_size e)
      rw[aA hcl];exact (hf c hc).1
  done:=by
    intro X hP hw hK hc k pins s σ H E I hf S hg
    subst hP hw hK
    obtain ⟨xs,ys,qa,qb,he⟩:=hg
    obtain ⟨ia,ra,sa⟩:=Inv.sq I qa
    obtain ⟨ib,rb,sb⟩:=Inv.sq I qb
    have la:=ra.length
    have lb:=rb.length
    refine Aq (I.ok.hd hc) Z S sa sb (he.imp (fun h=>by simp;omega) fun h=>by simp;omega) fun g al=>⟨rfl,?_⟩
    have all:∀ c o,c ∉ [z,ti,to,i,j]→s.heap.get? c=some o→g.get? c=some o:=fun c o hc e=>by
      simp only[List.mem_cons,List.not_mem_nil,or_false,not_or] at hc
      exact al c o hc.1 hc.2.2.1 hc.2.2.2.1 hc.2.2.2.2 e
    have nfp:∀ c u,H c=some u→c ∉ [z,ti,to,i,j]:=fun c u e hc=>by rw[(hf c hc).1] at e;cases e
    refine L2.Inv.step (s:=s) (H:=H) (H':=H) (g':=s.gens) (d':=s.drawn) (t':=s.toks) (h':=g) (ch:=[z,ti,to,i,j]) I (fun c hc=>⟨(hf c hc).2.2.2.1,(hf c hc).2.1,(hf c hc).2.2.2.2.1,(hf c hc).2.2.2.2.2⟩) (fun c o _ _ hc e _=>all c o hc e) (fun c o _ _ hc e _=>⟨o.slots,all c o hc e⟩) (fun c o hc e n=>n) (fun c o hc e=>⟨o,all c o hc e⟩)
      (fun c xs e=>e) (fun c o u e=>e) (fun c ps e=>⟨#[],by rw[e];simp⟩) (fun m hm=>?_) (fun c u e=>?_) I.bare
    · obtain ⟨o,es',ep',ho,r⟩:=hm
      exact ⟨o,es',ep',all _ o (fun hc=>(hf _ hc).2.1 rfl) ho,r⟩
    · refine (I.hok c u e).jW (fun c' v hc' q=>all c' v ?_ q) (fun c' q=>q) fun c' xs q=>q
      rcases hc' with rfl | hc'
      · exact nfp _ _ e
      · exact nfp _ _ hc'
  self:=fun _ _ _ _ _ S h=>wpAny_pyIter_zip S.zz h
theorem IX (n a b:Nat)(ha:a < n)(hb:b < n):Zp (n+4) (n+2) (n+3) n (n+1) a b:=by
  refine ⟨?_,?_,?_⟩
  · show ([n+4,n+2,n+3,n,n+1]:List Nat).Nodup
    simp only[List.nodup_cons,List.mem_cons,List.not_mem_nil,or_false,not_or,List.nodup_nil,and_true,not_false_eq_true]
    and_intros<;>omega
  · show a ∉ ([n+4,n+3,n,n+1]:List Nat)
    simp only[List.mem_cons,List.not_mem_nil,or_false,not_or]
    omega
  · show b ∉ ([n+4,n+3,n,n+1]:List Nat)
    simp only[List.mem_cons,List.not_mem_nil,or_false,not_or]
    omega
theorem EW (n c:Nat)(h:c∈([n+4,n+2,n+3,n,n+1]:List Nat)):n≤c:=by
  simp only[List.mem_cons,List.not_mem_nil,or_false] at h
  omega
section
variable {X:Cx} {ea eb:Expr} {es:List Expr} {ek:Nat} {ep p pos:Pos}
def kQ (tp:Bool)(x:D)(f:List D→Prop):Prop:=match tp,x with
  | true,.tup ds=>f ds
  | false,.ls ds=>f ds
  | _,_=>False
theorem uZ {K:PySem.W.Frag}{H:Hp}{tp:Bool}{v:V}{x:D}{f:List D→Prop}(p:Dp K H v x)(h:kQ tp x f):∃ a xs ds,v=.ref a∧Sq tp K H a xs∧DpL K H xs ds∧f ds:=by
  cases tp with
  | true=>cases p with
    | @tup a xs ds q l=>exact ⟨a,xs,ds,rfl,q,l,h⟩
    | _=>exact False.elim h
  | false=>cases p with
    | @ls a xs ds q l=>exact ⟨a,xs,ds,rfl,q,l,h⟩
    | _=>exact False.elim h
theorem Tk.sq {K:PySem.W.Frag}{H H':Hp}{tp:Bool}{a:Addr}{xs:List V}(t:Tk H H')(h:Sq tp K H a xs):Sq tp K H' a xs:=by
  cases tp with
  | true=>exact t.sqT h
  | false=>exact t.sqF h
end
end
section
open PySem PySem.Spec PyProof.Rows L2
def kObj (x:D)(f:Addr→Prop):Prop:=match x with
  | .obj a=>f a
  | _=>False
theorem kU (a:Addr)(f):kObj (.obj a) f=f a:=rfl
section
variable {X:Cx} {o a b c e:Expr} {To Ta Tb Tc Te T T':ETr} {pos:Pos}
theorem LE.imp (h:LE X e T)(k:∀ ρ μ Q,T' ρ μ Q→T ρ μ Q):LE X e T':=by
  obtain ⟨t,p,s⟩:=h.ex
  exact ⟨t,p,fun σ H ρ μ Q Q' rl hh post=>s σ H ρ μ Q Q' rl (k _ _ _ hh) post⟩
theorem JE {K:PySem.W.Frag}{H:Hp}{μ:Mu}{q:Addr}{u:HO}(m:bE K H μ)(t:Tk H (L2.upd H q u)):bE K (L2.upd H q u) (dn μ q):=fun z y ez=>by
  have zq:z≠q:=fun w=>by subst w;unfold dn at ez;rw[if_pos rfl] at ez;cases ez
  have ez':μ z=some y:=by unfold dn at ez;rw[if_neg zq] at ez;exact ez
  exact (m z _ ez').ne t zq
theorem jb {H:Hp}{q:Addr}{u:HO}{xs:List V}(ex:H q=some (.lst xs)):Tk H (L2.upd H q u):=
  .upd (fun ys z=>by rw[ex] at z;cases z) fun o' w z=>by rw[ex] at z;cases z
theorem E7 {K:PySem.W.Frag}{H:Hp}{μ:Mu}{q:Addr}{xs ys:List V}{ds:List D}(m:bE K H μ)(ex:H q=some (.lst xs))(l:DpL K H ys ds):bE K (L2.upd H q (.lst ys)) (up μ q (.lst ds)):=fun z y ez=>by
  by_cases zq:z=q
  · subst zq
    rw[aM] at ez;cases ez
    exact ⟨ys,aF,l.mono (jb ex)⟩
  · rw[aV zq] at ez
    exact (m z _ ez).ne (jb ex) zq
def xV (T:ETr):ETr:=fun ρ μ Q=>T ρ μ fun x μ1=>kObj x fun a=>kL μ1 a fun ds=>Q (.ls ds) (dn μ1 a)
theorem Fo (h:LE X e T):LE X e (xV T):=by
  obtain ⟨t,p,s⟩:=h.ex
  refine ⟨_,lA p,fun σ H ρ μ Q Q' rl h k=>s σ H ρ μ _ _ rl h fun v H1 d μ1 t1 m1 p1 h1=>?_⟩
  cases p1 with
  | obj q=>
    obtain ⟨ds,e0,h2⟩:=ck h1
    obtain ⟨xs,ex,l⟩:=m1 q _ e0
    refine ⟨q,xs,rfl,ex,fun u=>?_⟩
    have t2:Tk H1 (L2.upd H1 q (.frz u (.lst xs))):=jb ex
    exact k _ _ _ (dn μ1 q) (t1.trans t2) (JE m1 t2) (.ls (.inl ⟨u,aF⟩) (l.mono t2)) h2
  | _=>exact False.elim h1
def uT (To Te:ETr):ETr:=fun ρ μ Q=>To ρ μ fun x μ1=>kObj x fun a=>kL μ1 a fun _=>Te ρ μ1 fun y μ2=>kL μ2 a fun ds=>ds.length < 1000000∧Q .non (up μ2 a (.lst (ds++[y])))
theorem le_app {apos cpos:Pos}(ho:LE X o To)(he:LE X e Te)
    (hbase:attributeBase o (Str.ofString "append") X.env (eval o X.env)=eval o X.env:=by rfl)
    (hfew:((backTo cpos (starEach [e] X.env)).all (fun x=>!x.1)&&(backToKw cpos (keywordEach [] X.env)).all (fun x=>x.1.isSome)
      && decide ([e].length+([]:List Keyword).length+(if ([]:List Keyword).isEmpty then 0 else 1) < 30))=true:=by rfl)
    (hline:(apos.endLine == cpos.line)=true:=by rfl) (hs:starEach [e] X.env=(false,eval e X.env)::starEach [] X.env:=by rfl) (hplain:(backTo cpos (starEach [] X.env)).any (·.1)=false:=by rfl) :
    LE X (.Call (.Attribute o (Str.ofString "append") apos) [e] [] cpos) (uT To Te):=by
  obtain ⟨to,po,so⟩:=ho.ex
  obtain ⟨te,pe,se⟩:=he.ex
  refine ⟨_,Fc PySem.F.plainAttrs_list PySem.F.slot_list_append PySem.F.type_list_append nS po (cz pe fQ hs) hbase hfew hline hs hplain,fun σ H ρ μ Q Q' rl h k=>so σ H ρ μ _ _ rl h fun x H1 dx μ1 t1 m1 p1 h1=>?_⟩
  cases p1 with
  | obj q=>
    obtain ⟨ds0,e0,h2⟩:=ck h1
    obtain ⟨xs0,ex0,_⟩:=m1 q _ e0
    refine ⟨.inl ⟨rfl,_,SqL.of ex0⟩,se σ H1 ρ μ1 _ _ (rl.go t1 m1) h2 fun y H2 dy μ2 t2 m2 p2 h3=>?_⟩
    obtain ⟨ds,e1,lz,h4⟩:=ck h3
    obtain ⟨xs,ex,l⟩:=m2 q _ e1
    exact ⟨q,xs,y,rfl,rfl,ex,by rw[l.length];exact Nat.lt_of_lt_of_le lz (by decide),k _ _ _ _ ((t1.trans t2).trans (jb ex)) (E7 m2 ex (l.append (.cons p2 .nil))) .non h4⟩
  | _=>exact False.elim h1
def cX:FSp:=fun ds μ Q=>match ds with
  | [.tup xs]=>Q (.tup xs) μ
  | [.ls xs]=>Q (.tup xs) μ
  | [.obj a]=>kL μ a fun xs=>Q (.tup xs) μ
  | _=>False
theorem fV {K:PySem.W.Frag}:lL K (fun xs H Q=>∃ p ys,xs=[.ref p]∧((SqL K H p ys∧∀ l,H l=none→Q (.ref l) (L2.upd H l (.tup ys)))∨(SqT K H p ys∧Q (.ref p) H))) cX:=fun H μ xs ds Q Q' m p h k=>by
  unfold cX at h
  split at h
  · cases p with | cons p1 p2=>cases p2;cases p1 with | tup q l=>exact ⟨_,_,rfl,.inr ⟨q,k _ H _ μ (.refl H) m (.tup q l) h⟩⟩
  · cases p with | cons p1 p2=>cases p2;cases p1 with | ls q l=>exact ⟨_,_,rfl,.inl ⟨q.sq,fun z hz=>k _ _ _ μ (.new hz) (cm m hz) (.tup (SqT.of aF) (l.mono (.new hz))) h⟩⟩
  · rename_i q
    cases p with | cons p1 p2=>
    cases p2;cases p1
    obtain ⟨ys,e0,h⟩:=ck h
    obtain ⟨xs,ex,l⟩:=m q _ e0
    exact ⟨_,_,rfl,.inl ⟨SqL.of ex,fun z hz=>k _ _ _ μ (.new hz) (cm m hz) (.tup (SqT.of aF) (l.mono (.new hz))) h⟩⟩
  · exact False.elim h
def tW:FSp:=fun ds μ Q=>match ds with
  | [.tup xs]=>∀ p,μ p=none→Q (.obj p) (up μ p (.lst xs))
  | [.ls xs]=>∀ p,μ p=none→Q (.obj p) (up μ p (.lst xs))
  | [.obj a]=>kL μ a fun xs=>∀ p,μ p=none→Q (.obj p) (up μ p (.lst xs))
  | _=>False
def ur:FSp:=fun ds μ Q=>match ds with
  | [.tup xs]=>Q (.ls xs) μ
  | [.ls xs]=>Q (.ls xs) μ
  | [.obj a]=>kL μ a fun xs=>Q (.ls xs) μ
  | _=>False
def Ke (Q:VK):VK:=fun v H1=>∃ a xs,v=.ref a∧H1 a=some (.lst xs)∧∀ o,Q v (L2.upd H1 a (.frz o (.lst xs)))
theorem oQ {K:PySem.W.Frag}{H:Hp}{μ:Mu}{ys:List V}{ds:List D}{Q:DK}{Q':VK}{z:Addr}(m:bE K H μ)(l:DpL K H ys ds)(h:Q (.ls ds) μ)(k:fN K H Q Q')(hz:H z=none):Ke Q' (.ref z) (L2.upd H z (.lst ys)):=
  ⟨z,ys,rfl,aF,fun o=>by
    have e:L2.upd (L2.upd H z (.lst ys)) z (.frz o (.lst ys))=L2.upd H z (.frz o (.lst ys)):=pw
    rw[e]
    exact k _ _ _ μ (.new hz) (cm m hz) (.ls (.inl ⟨o,aF⟩) (l.mono (.new hz))) h⟩
def fg:D→Bool
  | .non=>true
  | .bl _=>true
  | .int _=>true
  | .str _=>true
  | _=>false
def inD (x:D)(xs:List D):Bool:=xs.any fun y=>eqD y x
def rIn (neg:Bool):DR2:=fun x y μ Q=>match y with
  | .tup xs=>(fg x=true∧xs.all fg=true)∧Q (.bl (if neg then !inD x xs else inD x xs)) μ
  | .ls xs=>(fg x=true∧xs.all fg=true)∧Q (.bl (if neg then !inD x xs else inD x xs)) μ
  | .obj a=>kL μ a fun xs=>(fg x=true∧xs.all fg=true)∧Q (.bl (if neg then !inD x xs else inD x xs)) μ
  | _=>False
end
end
section
open PySem PySem.Spec PyProof.Rows L2
section
variable {X:Cx} {a b e:Expr} {Ta Tb T:ETr} {pos:Pos}
def IG (t:TE):TE:=fun σ H Q=>t σ H fun v H1=>Q v H1∨Ke Q v H1
theorem wI {t:TE}(h:PE X e t):PE X e (IG t):=by
  have g:PE X e (fun σ H Q=>∃ P:VK,JD t σ H P∧∀ v H',P v H'→Q v H'):=fun pins s σ H Q I ⟨P,hP,k⟩=>
    thn (lA h pins s σ H P I hP) fun u s1 ⟨v,H1,I1,r,q⟩=>⟨v,H1,I1,r,k _ _ q⟩
  intro pins s σ H Q I hh
  refine thn (h pins s σ H _ I hh) fun u s1 ⟨v,H1,I1,r,q⟩=>?_
  rcases q with q | ⟨c,xs,rfl,ec,q⟩
  · exact ⟨v,H1,I1,r,q⟩
  · have hz:=I1.hok c _ ec
    obtain ⟨z,its,n,rv,hg⟩:=hz
    have nl:∀ d o,H1 d=some o→(∀ ys,o≠.lst ys)→d≠c:=fun d o e1 e2 w=>by subst w;rw[ec] at e1;cases e1;exact e2 _ rfl
    refine ⟨.ref c,_,I1.un (h':=s1.heap) (t':=s1.toks) (H':=L2.upd H1 c (.frz { cls:=.type "list", data:=.seq its.toArray n } (.lst xs))) ⟨fun d o e _ _ _=>e,fun d o e _ _ _=>⟨o.slots,e⟩,fun d o e w _=>?_,fun d o e _=>⟨o,e⟩,fun d ys e=>?_,fun d o u e=>?_,fun d ps e=>⟨#[],?_⟩⟩ (fun d u e=>?_),r,q _⟩
    · rw[aA (fun z=>by subst z;rw[ec] at w;cases w)];exact w
    · rw[aA (nl d _ e (fun _=>nofun))];exact e
    · rw[aA (nl d _ e (fun _=>nofun))];exact e
    · rw[aA (nl d _ e (fun _=>nofun)),e];simp
    · by_cases hd:d=c
      · subst hd
        rw[aF] at e;cases e
        exact ⟨hg,z,its,n,rv,hg⟩
      · rw[aA hd] at e
        refine (I1.hok d u e).jW (fun k w _ q=>q) (fun k q=>?_) fun k ys q=>?_
        · rw[aA (nl k _ q (fun _=>nofun))];exact q
        · rw[aA (nl k _ q (fun _=>nofun))];exact q
def E9 (K:PySem.W.Frag):R2:=fun x y H Q=>∃ p q ys,x=.ref p∧y=.ref q∧SqT K H p []∧SqT K H q ys∧Q (.ref q) H
theorem D8:OpR X (binaryOp .Add) (E9 X.K):=fun pins s σ H x y v u Q I rx ry ⟨p,q,ys,e1,e2,hp,hq,h⟩=>by
  subst e1 e2
  cases rx
  cases ry
  obtain ⟨its,r1,p1,_⟩:=I.tuple hp
  obtain ⟨its2,r2,p2,_⟩:=I.tuple hq
  cases r1
  obtain ⟨⟨c1,d1,t1,l1⟩,ho,hc,n,hd⟩:=id p1
  obtain ⟨⟨c2,d2,t2,l2⟩,ho2,hc2,n2,hd2⟩:=id p2
  simp only at hc hd hc2 hd2
  subst hc hd hc2 hd2
  exact concat_meets ⟨_,ho,rfl⟩ ⟨_,ho2,rfl⟩ noFill_tuple_add seq_tuple_add PySem.F.slot_tuple_add PySem.F.entry_tuple_add (PySem.F.args_tuple_add_2 _ _)
    (tuple_addW0 p q #[] its2.toArray n n2 d1 d2 l1 l2 rfl) ⟨ho,ho2,⟨.ref q,H,I,rfl,h⟩⟩
def Fe (K:PySem.W.Frag):R2:=fun x y H Q=>∃ p q xs ys,x=.ref p∧y=.ref q∧SqL K H p xs∧SqL K H q ys∧xs.length+ys.length≤sizeLine∧∀ z,H z=none→Q (.ref z) (L2.upd H z (.lst (xs++ys)))
theorem Cw:OpR X (binaryOp .Add) (Fe X.K):=fun pins s σ H x y v u Q I rx ry ⟨p,q,xs,ys,e1,e2,hp,hq,hz,h⟩=>by
  subst e1 e2
  cases rx
  cases ry
  obtain ⟨its,r1,p1,_⟩:=I.list hp
  obtain ⟨its2,r2,p2,_⟩:=I.list hq
  obtain ⟨⟨c1,d1,t1,l1⟩,n,ho,hc,hx,hd⟩:=id p1
  obtain ⟨⟨c2,d2,t2,l2⟩,n2,ho2,hc2,hx2,hd2⟩:=id p2
  simp only at hc hd hc2 hd2
  subst hc hd hc2 hd2
  have z1:=r1.length
  have z2:=r2.length
  refine concat_meets ⟨_,ho,rfl⟩ ⟨_,ho2,rfl⟩ PySem.noFill_list_add PySem.seq_list_add PySem.F.slot_list_add PySem.F.entry_list_add (PySem.F.args_list_add_2 _ _)
    (list_addW p q its.toArray its2.toArray n n2 d1 d2 l1 l2 (by rw[List.size_toArray,List.size_toArray];omega)) ⟨ho,ho2,?_⟩
  have ea:its.toArray++its2.toArray=(its++its2).toArray:=by simp
  rw[ea]
  exact ⟨.ref _,_,I.K7 (t':=s.toks) (r1.append r2) (by rw[List.length_append];omega),rfl,h _ I.fresh⟩
def aI:DR2:=fun x y μ Q=>match x,y with
  | .int i,.int j=>Q (.int (i+j)) μ
  | .str i,.str j=>i.length+j.length≤1000000∧Q (.str (i++j)) μ
  | .tup a,.tup b=>a.length+b.length≤1000000∧Q (.tup (a++b)) μ
  | .ls a,.ls b=>a.length+b.length≤1000000∧Q (.ls (a++b)) μ
  | _,_=>False
def rPl (K:PySem.W.Frag):R2:=fun x y H Q=>(rI0 fun i j=>.int (i+j)) x y H Q∨(∃ i j,x=.str i∧y=.str j∧i.length+j.length≤sizeLine∧Q (.str (i++j)) H)∨E2 K x y H Q∨E9 K x y H Q∨Fe K x y H Q
theorem Ez:OpR X (binaryOp .Add) (rPl X.K):=fun pins s σ H x y v u Q I rx ry h=>by
  rcases h with h | h | h | h | h
  · exact Gh pins s σ H x y v u Q I rx ry h
  · exact vk pins s σ H x y v u Q I rx ry h
  · exact El pins s σ H x y v u Q I rx ry h
  · exact D8 pins s σ H x y v u Q I rx ry h
  · exact Cw pins s σ H x y v u Q I rx ry h
theorem aB (ha:LE X a Ta)(hb:LE X b Tb):LE X (.BinOp a .Add b pos) (ak aI Ta Tb):=by
  obtain ⟨ta,pa,sa⟩:=ha.ex
  obtain ⟨tb,pb,sb⟩:=hb.ex
  refine ⟨_,wI (E4 Ez pa pb),fun σ H ρ μ Q Q' rl h k=>sa σ H ρ μ _ _ rl h fun x H1 dx μ1 t1 m1 p1 h1=>sb σ H1 ρ μ1 _ _ (rl.go t1 m1) h1 fun y H2 dy μ2 t2 m2 p2 h2=>?_⟩
  have p1:=p1.mono t2
  have k:=k.go (t1.trans t2)
  cases p1 with
  | int i=>
    cases p2 with
    | int j=>exact .inl ⟨i,j,rfl,rfl,.inl (k _ H2 _ μ2 (.refl H2) m2 (.int _) h2)⟩
    | _=>exact False.elim h2
  | str i=>
    cases p2 with
    | str j=>exact .inr (.inl ⟨i,j,rfl,rfl,big h2.1,.inl (k _ H2 _ μ2 (.refl H2) m2 (.str _) h2.2)⟩)
    | _=>exact False.elim h2
  | @tup q xs ds sq l=>
    cases p2 with
    | @tup q' ys es sq' l'=>
      obtain ⟨hz,h3⟩:=h2
      by_cases hx:xs=[]
      · subst hx
        cases l
        exact .inr (.inr (.inr (.inl ⟨q,q',ys,rfl,rfl,sq,sq',.inl (k _ H2 _ μ2 (.refl H2) m2 (.tup sq' l') h3)⟩)))
      · refine .inr (.inr (.inl ⟨q,q',xs,ys,rfl,rfl,sq,sq',hx,by rw[l.length,l'.length];exact big hz,fun hy=>?_,fun _ z hzn=>.inl ?_⟩))
        · subst hy
          cases l'
          rw[List.append_nil] at h3
          exact .inl (k _ H2 _ μ2 (.refl H2) m2 (.tup sq l) h3)
        · exact k _ _ _ μ2 (.new hzn) (cm m2 hzn) (.tup (SqT.of aF) ((l.append l').mono (.new hzn))) h3
    | _=>exact False.elim h2
  | @ls q xs ds sq l=>
    cases p2 with
    | @ls q' ys es sq' l'=>exact .inr (.inr (.inr (.inr ⟨q,q',xs,ys,rfl,rfl,sq.sq,sq'.sq,by rw[l.length,l'.length];exact big h2.1,fun z hz=>.inr (oQ m2 (l.append l') h2.2 k hz)⟩)))
    | _=>exact False.elim h2
  | _=>cases p2<;>exact False.elim h2
abbrev OTr:=ST→Mu→(Option Int→Mu→Prop)→Prop
def ONo:OTr:=fun _ μ Q=>Q none μ
def fC (T:ETr):OTr:=fun ρ μ Q=>T ρ μ fun x μ1=>kI x fun i=>Q (some i) μ1
def Lk (K:PySem.W.Frag)(t:TO)(T:OTr):Prop:=∀ σ H ρ μ (Q:Option Int→Mu→Prop) (Q':Option Int→Hp→Prop),Rl K σ H ρ μ→T ρ μ Q→(∀ i H' μ',Tk H H'→bE K H' μ'→Q i μ'→Q' i H')→t σ H Q'
structure LO (X:Cx) (o:Option Expr) (T:OTr):Prop where
  ex:∃ t,PO X o t∧Lk X.K t T
theorem eU:LO X none ONo:=⟨_,CU,fun σ H ρ μ Q Q' rl h k=>k none H μ (.refl H) rl.mu h⟩
theorem cN (h:LE X e T):LO X (some e) (fC T):=by
  obtain ⟨t,p,s⟩:=h.ex
  refine ⟨_,DQ p,fun σ H ρ μ Q Q' rl h k=>s σ H ρ μ _ _ rl h fun v H1 d μ1 t1 m1 p1 h1=>?_⟩
  cases p1 with
  | int i=>exact ⟨i,rfl,k _ H1 μ1 t1 m1 h1⟩
  | _=>exact False.elim h1
def cutD {α:Type}(xs:List α)(lo hi:Option Int):List α:=(xs.drop (HT.sIx xs.length 0 lo)).take (HT.sIx xs.length xs.length hi - HT.sIx xs.length 0 lo)
theorem uV {α:Type}{xs:List α}{lo hi:Option Int}(h:HT.sIx xs.length 0 lo=0∧HT.sIx xs.length xs.length hi=xs.length):cutD xs lo hi=xs:=by
  unfold cutD;rw[h.1,h.2];simp
theorem DpL.take {K:PySem.W.Frag}{H:Hp}:∀ {vs:List V} {ds:List D} (n:Nat),DpL K H vs ds→DpL K H (vs.take n) (ds.take n)
  | _,_,0,_=>.nil
  | _,_,_+1,.nil=>.nil
  | _,_,n+1,.cons h l=>.cons h (DpL.take n l)
theorem DpL.drop {K:PySem.W.Frag}{H:Hp}:∀ {vs:List V} {ds:List D} (n:Nat),DpL K H vs ds→DpL K H (vs.drop n) (ds.drop n)
  | _,_,0,l=>l
  | _,_,_+1,.nil=>.nil
  | _,_,n+1,.cons _ l=>DpL.drop n l
theorem DpL.cut {K:PySem.W.Frag}{H:Hp}{vs:List V}{ds:List D}(lo hi:Option Int)(l:DpL K H vs ds):DpL K H (sG vs lo hi) (cutD ds lo hi):=by
  unfold sG cutD;rw[l.length];exact (l.drop _).take _
theorem rP {prog:Program}{w:World}{A:Around}{E:Value→Shared→Prop}{s:Shared}{t sl:Addr}{items:Array Value}{vl vu:Value}{lo hi:Option Int}{Q:Value→Shared→Prop}(ht:IsTup s.heap t items)(hs:s.heap.IsSliceOf sl vl vu .none)(pl:IsPart vl lo)(pu:IsPart vu hi)
    (hw:HT.sIx items.size 0 lo=0∧HT.sIx items.size items.size hi=items.size) (h:Q (.ref t) s):wpAny (model prog w) A (getItem (.ref t) (.ref sl)) Q E s:=by
  obtain ⟨os,hos,hcs,hds⟩:=id hs
  have hTs:s.TypeIs (.ref sl) "slice" := ⟨os,hos,hcs⟩
  unfold getItem
  try with_reducible refine wpAny_holding ?_
  first | refine wpAny_bind (wpAny_pure ?_) | skip
  refine wpAny_bind (wpAny_sequenceKey ht.typeIs (by decide) ?_)
  refine wpAny_bind (wpAny_callSpecial?_slot (name:=Str.ofString "__getitem__") ht.typeIs PyProof.Rows.slot_tuple_getitem (wpAny_call_entry PyProof.Rows.slot_tuple_getitem ht.typeIs entry_tuple_getitem ?_ (args_tuple_getitem _ _)))
  show wpAny _ _ (Builtin.Tuple.tupleItemsOf (.ref t) >>= _) _ _ s
  refine wpAny_bind (tupleItemsOf_ ht ?_)
  refine wpAny_bind <| wpAny_typeOf hTs ?_
  rw[if_pos (by decide)]
  refine wpAny_bind (HT.eh hs pl pu ?_)
  rw[hw.1,hw.2]
  refine (show wpAny _ _ (if (((0:Nat):Int) == 0&&(1:Int) == 1&&(items.size - 0) == items.size)=true then _ else _) _ _ s from ?_)
  rw[if_pos (by simp)]
  unfold Builtin.Tuple.tupleIsExact
  refine wpAny_bind (wpAny_bind (wpAny_typeOf ht.typeIs (wpAny_pure ?_)))
  rw[if_pos (by decide)]
  first
    | exact wpAny_bind (wpAny_rule (wpAny_bind (wpAny_pure (wpAny_pure ⟨_,rfl,wpAny_pure h⟩))))
    | exact wpAny_bind (wpAny_rule (wpAny_pure ⟨_,rfl,wpAny_pure h⟩))
    | exact wpAny_bind (wpAny_bind (wpAny_rule (wpAny_pure (wpAny_pure ⟨_,rfl,wpAny_pure h⟩))))
def KY (K:PySem.W.Frag):V→Option Int→Option Int→Hp→VK→Prop:=fun x lo hi H Q=>∃ a xs,x=.ref a∧SqT K H a xs∧(HT.sIx xs.length 0 lo=0∧HT.sIx xs.length xs.length hi=xs.length)∧Q (.ref a) H
theorem Ar:SlR X (KY X.K):=fun pins s σ H x v vl vu lo hi sl Q I rx hs pl pu ⟨q,xs,e,hx,hw,h⟩=>by
  subst e
  cases rx
  obtain ⟨its,r,ht,_⟩:=I.tuple hx
  have hlen:its.toArray.size=xs.length:=by rw[List.size_toArray];exact r.length.symm
  exact ⟨"tuple", _,PyProof.Rows.slot_tuple_getitem.lookup,ht.typeIs,rP ht hs pl pu (by rw[hlen];exact hw) ⟨.ref q,H,I,rfl,h⟩⟩
def rSl:D→Option Int→Option Int→Mu→DK→Prop:=fun x lo hi μ Q=>match x with
  | .tup xs=>Q (.tup (cutD xs lo hi)) μ
  | .ls xs=>Q (.ls (cutD xs lo hi)) μ
  | .obj a=>kL μ a fun xs=>Q (.ls (cutD xs lo hi)) μ
  | _=>False
def TSl (a:ETr)(lo hi:OTr):ETr:=fun ρ μ Q=>a ρ μ fun x μ1=>lo ρ μ1 fun l μ2=>hi ρ μ2 fun h μ3=>rSl x l h μ3 Q
theorem gD {lo hi:Option Expr}{Tl Th:OTr}{p2:Pos}(ha:LE X a Ta)(hl:LO X lo Tl)(hh:LO X hi Th):LE X (.Subscript a (.Slice lo hi none p2) pos) (TSl Ta Tl Th):=by
  obtain ⟨ta,pa,sa⟩:=ha.ex
  obtain ⟨tl,pl,sl⟩:=hl.ex
  obtain ⟨th,ph,sh⟩:=hh.ex
  refine ⟨_,wI (sO (SlR.or Ar (SlR.or Gp DD)) pa pl ph),fun σ H ρ μ Q Q' rl h k=>sa σ H ρ μ _ _ rl h fun x H1 dx μ1 t1 m1 p1 h1=>sl σ H1 ρ μ1 _ _ (rl.go t1 m1) h1 fun i H2 μ2 t2 m2 h2=>sh σ H2 ρ μ2 _ _ (rl.go (t1.trans t2) m2) h2 fun j H3 μ3 t3 m3 h3=>?_⟩
  have p1:=p1.mono (t2.trans t3)
  have k:=k.go (t1.trans (t2.trans t3))
  cases p1 with
  | @tup q xs ds sq l=>
    by_cases hw:HT.sIx xs.length 0 i=0∧HT.sIx xs.length xs.length j=xs.length
    · refine .inl ⟨q,xs,rfl,sq,hw,.inl (k _ H3 _ μ3 (.refl H3) m3 (.tup sq l) ?_)⟩
      rw[l.length] at hw
      have h3:Q (.tup (cutD ds i j)) μ3:=h3
      rw[uV hw] at h3;exact h3
    · exact .inr (.inl ⟨q,xs,rfl,sq,hw,fun z hz=>.inl (k _ _ _ μ3 (.new hz) (cm m3 hz) (.tup (SqT.of aF) ((l.cut i j).mono (.new hz))) h3)⟩)
  | @ls q xs ds sq l=>exact .inr (.inr ⟨q,xs,rfl,sq.sq,fun z hz=>.inr (oQ m3 (l.cut i j) h3 k hz)⟩)
  | obj q=>
    obtain ⟨ds,e0,h4⟩:=ck h3
    obtain ⟨xs,ex,l⟩:=m3 q _ e0
    exact .inr (.inr ⟨q,xs,rfl,SqL.of ex,fun z hz=>.inr (oQ m3 (l.cut i j) h4 k hz)⟩)
  | _=>exact False.elim h3
theorem qm {α:Type}(xs:List α)(k:Nat):cutD xs none (some (k:Int))=xs.take k:=by
  unfold cutD
  rw[HT.qN,HT.vR,List.drop_zero,Nat.sub_zero]
  rcases Nat.le_total k xs.length with h | h
  · rw[Nat.min_eq_left h]
  · rw[Nat.min_eq_right h,List.take_length,List.take_of_length_le h]
theorem xN {α:Type}(xs:List α)(k:Nat):cutD xs (some (k:Int)) none=xs.drop k:=by
  unfold cutD
  rw[HT.qN,HT.vR]
  rcases Nat.le_total k xs.length with h | h
  · rw[Nat.min_eq_left h,List.take_of_length_le (by rw[List.length_drop];omega)]
  · rw[Nat.min_eq_right h,List.drop_length,List.drop_of_length_le h];simp
end
end
section
open PySem PySem.Spec PyProof.Rows L2
theorem DpL.ints_of {K:PySem.W.Frag}{H:Hp}:∀ {xs:List V} {ns:List Int},DpL K H xs (ns.map .int)→xs=ns.map V.int
  | _,[],.nil=>rfl
  | _,n::r,.cons h l=>by cases h;rw[DpL.ints_of l];rfl
end
section
open PySem PySem.Spec PyProof.Rows L2
theorem _root_.L2.Inv.frz {X:Cx}{pins:List (Addr×Obj)}{σ:L2.St}{H:Hp}{s:Shared}{c:Addr}{xs:List V}(I1:Inv X pins σ H s)(ec:H c=some (.lst xs)):∃ o,Inv X pins σ (L2.upd H c (.frz o (.lst xs))) s:=by
  obtain ⟨z,its,n,rv,hg⟩:=I1.hok c _ ec
  have nl:∀ d o,H d=some o→(∀ ys,o≠.lst ys)→d≠c:=fun d o e1 e2 w=>by subst w;rw[ec] at e1;cases e1;exact e2 _ rfl
  refine ⟨_,I1.un (h':=s.heap) (t':=s.toks) (H':=L2.upd H c (.frz { cls:=.type "list", data:=.seq its.toArray n } (.lst xs))) ⟨fun d o e _ _ _=>e,fun d o e _ _ _=>⟨o.slots,e⟩,fun d o e w _=>?_,fun d o e _=>⟨o,e⟩,fun d ys e=>?_,fun d o u e=>?_,fun d ps e=>⟨#[],?_⟩⟩ (fun d u e=>?_)⟩
  · rw[aA (fun z=>by subst z;rw[ec] at w;cases w)];exact w
  · rw[aA (nl d _ e (fun _=>nofun))];exact e
  · rw[aA (nl d _ e (fun _=>nofun))];exact e
  · rw[aA (nl d _ e (fun _=>nofun)),e];simp
  · by_cases hd:d=c
    · subst hd
      rw[aF] at e;cases e
      exact ⟨hg,z,its,n,rv,hg⟩
    · rw[aA hd] at e
      refine (I1.hok d u e).jW (fun k w _ q=>q) (fun k q=>?_) fun k ys q=>?_
      · rw[aA (nl k _ q (fun _=>nofun))];exact q
      · rw[aA (nl k _ q (fun _=>nofun))];exact q
end
section
open PySem PySem.Spec PyProof.Rows L2
section
variable {X:Cx} {ea:Expr} {es:List Expr} {ek:Nat} {ep p pos:Pos}
def ip (ds:List D):List D:=(List.range ds.length).zipWith (fun i d=>.tup [.int (i:Nat),d]) ds
def Ks (t:ATr):ATr:=fun ρ μ Q=>t ρ μ fun vs μ1=>match vs with
  | [.ls ds]=>Q (ip ds) μ1
  | _=>False
theorem oB (ds:List D)(i:Nat):(ip ds)[i]? = (ds[i]?).map fun d=>.tup [.int (i:Nat),d]:=by
  unfold ip
  rw[List.getElem?_zipWith]
  by_cases h:i < ds.length
  · rw[List.getElem?_range h,List.getElem?_eq_getElem h];rfl
  · rw[List.getElem?_eq_none_iff.mpr (by simpa using h),List.getElem?_eq_none_iff.mpr (by simpa using h)];rfl
theorem oM (ds:List D):(ip ds).length=ds.length:=by unfold ip;simp
variable {eb:Expr} {tg:Expr} {Ta Tb:ETr}
def pE (a b:ETr):ATr:=fun ρ μ Q=>a ρ μ fun x μ1=>b ρ μ1 fun y μ2=>kI x fun i=>kI y fun j=>((-4611686018427387904≤i∧i < 4611686018427387904)∧-4611686018427387904≤j∧j < 4611686018427387904)∧Q (dN i (j - i).toNat) μ2
theorem xC {rp rpos:Pos}(hg:Gl X "range")(hm:X.mg "range" = none)(ha:LE X ea Ta)(hb:LE X eb Tb)(hs:starEach [ea,eb] X.env=[(false,eval ea X.env),(false,eval eb X.env)]:=by rfl)(hs2:starEach [eb] X.env=[(false,eval eb X.env)]:=by rfl):LI X tg (.Call (.Name "range" rp) [ea,eb] [] rpos) (pE Ta Tb):=by
  obtain ⟨ta,pa,sa⟩:=ha.ex
  obtain ⟨tb,pb,sb⟩:=hb.ex
  refine ⟨_,w6 hg hm (cz pa (cz pb fQ hs2) (by rw[hs,hs2])) hs hs2,fun σ H ρ μ Q R rl h k=>sa σ H ρ μ _ _ rl h fun x H1 d μ1 t1 m1 p1 h1=>sb σ H1 ρ μ1 _ _ (rl.go t1 m1) h1 fun y H2 d2 μ2 t2 m2 p2 h2=>?_⟩
  cases p1 with
  | int i=>
    cases p2 with
    | int j=>
      obtain ⟨⟨⟨h3,h4⟩,h5,h6⟩,h7⟩:=h2
      exact ⟨i,j,rfl,⟨by simpa using h3,by simpa using h4,by simpa using h5,by simpa using h6⟩,k _ H2 _ μ2 (t1.trans t2) m2 (su i _) h7⟩
    | _=>exact False.elim h2
  | _=>exact False.elim h2
end
end
section
open PySem PySem.Spec PyProof PyProof.Rows L2
theorem dH:∀ {us:List Value} {ns:List Int},IntsAre us ns→∃ ps:List (Int×Tok),us=ps.map (fun p=>Value.int p.1 p.2)∧ps.map Prod.fst=ns
  | _,_,.nil=>⟨[],⟨rfl,rfl⟩⟩
  | _,_,.cons n t h=>by
    obtain ⟨ps,e1,e2⟩:=dH h
    exact ⟨(n,t)::ps,by rw[e1];rfl,by rw[← e2];rfl⟩
theorem ky (ps:List (Int×Tok))(i:Nat):numAt ps.toArray i=((ps.map Prod.fst)[i]?).getD 0:=by
  unfold numAt
  simp only[List.getElem?_toArray,List.getElem?_map]
theorem yj {X:Cx}(hc:X.calm=true):bG X (.builtin "max") (fun xs H Q=>∃ (p:Addr) (ns:List Int),xs=[.ref p]∧SqL X.K H p (ns.map V.int)∧ns≠[]∧∀ M,M∈ns→(∀ a∈ns,a≤M)→Q (.int M) H):=fun pins s σ H xs us Q I rx ⟨p,ns,e1,sq,ne,q⟩=>by
  subst e1
  obtain ⟨u,rfl,ru⟩:=vals1 rx
  cases ru
  obtain ⟨its,rv,pl,_⟩:=I.list sq
  obtain ⟨ps,rfl,rfl⟩:=dH (intsAre_of rv)
  have hn:0 < ps.length:=by cases ps with | nil=>exact absurd rfl ne | cons=>simp
  have il:s.heap.IsList p (intItems ps.toArray):=by
    have:=pl.isList
    simpa[intItems] using this
  refine max_intList (I.ok.hd hc) il (by simpa using hn) fun v h' tk hv hk=>?_
  rcases intItems_at hv with ⟨t,rfl⟩
  obtain ⟨b1,b2⟩:=argBest_gt (numAt ps.toArray) (ps.toArray.size - 1)
  generalize argBest (fun i j=>decide (numAt ps.toArray i > numAt ps.toArray j)) (ps.toArray.size - 1)=k at hv b1 b2
  have hs:ps.toArray.size=ps.length:=by simp
  rw[hs] at b1 b2
  have hk':k < (ps.map Prod.fst).length:=by rw[List.length_map];omega
  refine ⟨.int _,H,I.kept hk,⟨t,rfl⟩,q _ ?_ fun a ha=>?_⟩
  · rw[ky,List.getElem?_eq_getElem hk']
    exact List.getElem_mem hk'
  · obtain ⟨j,hj,rfl⟩:=List.getElem_of_mem ha
    have:=b2 j (by rw[List.length_map] at hj;omega)
    rw[ky ps j,List.getElem?_eq_getElem hj] at this
    exact this
def v9:FSp:=fun ds μ Q=>match ds with
  | [.ls xs]=>∃ ns:List Int,(xs=ns.map .int∧ns≠[])∧∀ M,M∈ns→(∀ a∈ns,a≤M)→Q (.int M) μ
  | _=>False
theorem zG {K:PySem.W.Frag}:lL K (fun xs H Q=>∃ (p:Addr) (ns:List Int),xs=[.ref p]∧SqL K H p (ns.map V.int)∧ns≠[]∧∀ M,M∈ns→(∀ a∈ns,a≤M)→Q (.int M) H) v9:=fun H μ xs ds Q Q' m p h k=>by
  unfold v9 at h
  split at h
  · obtain ⟨ns,⟨rfl,ne⟩,h⟩:=h
    cases p with | cons p1 p2=>
    cases p2
    cases p1 with
    | @ls q xs ds sq l=>
      have ex:=l.ints_of
      subst ex
      exact ⟨q,ns,rfl,sq.sq,ne,fun M h1 h2=>k _ H _ μ (.refl H) m (.int _) (h M h1 h2)⟩
  · exact h.elim
section
variable {X:Cx} {a b:Expr} {Ta Tb:ETr} {pos:Pos}
end
end
theorem pL (i j:Int)(μ Q):aI (.int i) (.int j) μ Q=Q (.int (i+j)) μ:=rfl
theorem pO (i j:Str)(μ Q):aI (.str i) (.str j) μ Q=(i.length+j.length≤1000000∧Q (.str (i++j)) μ):=rfl
theorem p7 (a b:List D)(μ Q):aI (.tup a) (.tup b) μ Q=(a.length+b.length≤1000000∧Q (.tup (a++b)) μ):=rfl
theorem p9 (a b:List D)(μ Q):aI (.ls a) (.ls b) μ Q=(a.length+b.length≤1000000∧Q (.ls (a++b)) μ):=rfl
theorem lO (a:List D)(μ Q):cX [.tup a] μ Q=Q (.tup a) μ:=rfl
theorem ly (a:List D)(μ Q):cX [.ls a] μ Q=Q (.tup a) μ:=rfl
theorem lJ (a:Addr)(μ Q):cX [.obj a] μ Q=kL μ a fun xs=>Q (.tup xs) μ:=rfl
theorem kC (a:List D)(μ Q):ur [.tup a] μ Q=Q (.ls a) μ:=rfl
theorem kP (a:List D)(μ Q):ur [.ls a] μ Q=Q (.ls a) μ:=rfl
theorem mf (a:Addr)(μ Q):ur [.obj a] μ Q=kL μ a fun xs=>Q (.ls xs) μ:=rfl
theorem mh (a:List D)(μ Q):tW [.tup a] μ Q = ∀ p,μ p=none→Q (.obj p) (up μ p (.lst a)):=rfl
theorem l9 (a:List D)(μ Q):tW [.ls a] μ Q = ∀ p,μ p=none→Q (.obj p) (up μ p (.lst a)):=rfl
theorem l6 (a:Addr)(μ Q):tW [.obj a] μ Q=kL μ a fun xs=>∀ p,μ p=none→Q (.obj p) (up μ p (.lst xs)):=rfl
theorem AH (a:List D)(lo hi)(μ Q):rSl (.tup a) lo hi μ Q=Q (.tup (cutD a lo hi)) μ:=rfl
theorem BG (a:List D)(lo hi)(μ Q):rSl (.ls a) lo hi μ Q=Q (.ls (cutD a lo hi)) μ:=rfl
theorem Cd (a:Addr)(lo hi)(μ Q):rSl (.obj a) lo hi μ Q=kL μ a fun xs=>Q (.ls (cutD xs lo hi)) μ:=rfl
theorem A5 (n:Bool)(x:D)(a:List D)(μ Q):L3.rIn n x (.tup a) μ Q=((fg x=true∧a.all fg=true)∧Q (.bl (if n then !inD x a else inD x a)) μ):=rfl
theorem BV (n:Bool)(x:D)(a:List D)(μ Q):L3.rIn n x (.ls a) μ Q=((fg x=true∧a.all fg=true)∧Q (.bl (if n then !inD x a else inD x a)) μ):=rfl
theorem y9 (n:Bool)(x:D)(a:Addr)(μ Q):L3.rIn n x (.obj a) μ Q=kL μ a fun xs=>(fg x=true∧xs.all fg=true)∧Q (.bl (if n then !inD x xs else inD x xs)) μ:=rfl
theorem vy (a:Addr)(μ Q):c5 [.obj a] μ Q=kL μ a fun xs=>Q (.int xs.length) μ:=rfl
theorem tw (x:Str)(μ Q):c5 [.str x] μ Q=(x.length≤1000000∧Q (.int x.length) μ):=rfl
theorem Ay (μ Q):rIs .non .non μ Q=Q (.bl true) μ:=rfl
theorem yE (i:Int)(μ Q):rIs (.int i) .non μ Q=Q (.bl false) μ:=rfl
theorem Ac (i:List D)(μ Q):rIs (.tup i) .non μ Q=Q (.bl false) μ:=rfl
theorem lq (μ Q):vf .non .non μ Q=Q (.bl false) μ:=rfl
theorem kq (i:Int)(μ Q):vf (.int i) .non μ Q=Q (.bl true) μ:=rfl
theorem lP (i:List D)(μ Q):vf (.tup i) .non μ Q=Q (.bl true) μ:=rfl
theorem uA (c:String)(i:List D)(μ Q):fZ c (.ls i) μ Q=Q (.bl (a5 "list" c)) μ:=rfl
theorem tK (c:String)(i:Str)(μ Q):fZ c (.str i) μ Q=Q (.bl (a5 "str" c)) μ:=rfl
theorem tL (c:String)(μ Q):fZ c .non μ Q=Q (.bl (a5 "NoneType" c)) μ:=rfl
theorem cA (k:Nat)(ds:List D):atD ds (k:Int)=ds[k]?:=by
  unfold atD L2.atI L2.ixN
  rw[if_pos (Int.natCast_nonneg k)]
  by_cases h:k < ds.length
  · rw[if_pos (by omega)];simp
  · rw[if_neg (by omega)];simp;omega
theorem v8 (ds:List D):atD ds 0=ds[0]?:=cA 0 ds
theorem wH (ds:List D):atD ds 1=ds[1]?:=cA 1 ds
theorem wy (ds:List D):atD ds 2=ds[2]?:=cA 2 ds
theorem vX (ds:List D):atD ds 3=ds[3]?:=cA 3 ds
theorem vP (ds:List D):atD ds 4=ds[4]?:=cA 4 ds
theorem vF (ds:List D):atD ds 5=ds[5]?:=cA 5 ds
theorem qc (n k:Nat):L2.ixN n (k:Int)=if k < n then some k else none:=by
  unfold L2.ixN
  rw[if_pos (Int.natCast_nonneg k)]
  by_cases h:k < n
  · rw[if_pos (by omega),if_pos h];simp
  · rw[if_neg (by omega),if_neg h]
theorem iS:a5 "int" "int" = true:=by decide
theorem gX:a5 "int" "bool" = false:=by decide
theorem hX:a5 "bool" "bool" = true:=by decide
theorem iC:a5 "bool" "int" = true:=by decide
theorem hU:a5 "tuple" "tuple" = true:=by decide
theorem iB:a5 "int" "tuple" = false:=by decide
theorem iy:a5 "bool" "tuple" = false:=by decide
theorem fm0 {a n:Int}(h:0 < n):0≤a.fmod n:=Int.fmod_nonneg_of_pos a h
theorem fm1 {a n:Int}(h:0 < n):a.fmod n < n:=Int.fmod_lt_of_pos a h
theorem Ap (A B:Prop):kIf true A B=A:=rfl
theorem zB (A B:Prop):kIf false A B=B:=rfl
theorem B0 (p:Prop) [Decidable p] (A B:Prop):kIf (decide p) A B=if p then A else B:=by by_cases h:p<;>simp[h,kIf]
theorem AN (c:Bool)(A B:Prop):kIf (!c) A B=kIf c B A:=by cases c<;>rfl
theorem yB (c:Bool)(f):kB (.bl c) f=f c:=rfl
theorem uR (c:Int)(f):kI (.int c) f=f c:=rfl
theorem o9 (c:D)(f):kO (some c) f=f c:=rfl
theorem vo (c:List D)(f):kS (.tup c) f=f c:=rfl
theorem AI (c:List D)(f):kS (.ls c) f=f c:=rfl
theorem tT (a b:D)(f):k2 [a,b] f=f a b:=rfl
theorem pT (c:Nat)(f):kN (some c) f=f c:=rfl
theorem wm (μ:Mu)(a:Addr)(ds:List D)(f):kL (up μ a (.lst ds)) a f=f ds:=by unfold kL;rw[aM]
theorem IQ {μ:Mu}{a:Addr}{ds:List D}(h:μ a=some (.lst ds))(f):kL μ a f=f ds:=by unfold kL;rw[h]
theorem ko (a:Addr)(n:Int)(y:D)(μ:Mu)(f):Cy (.obj a) (.int n) y μ f=kL μ a fun ds=>kN (L2.ixN ds.length n) fun j=>f (up μ a (.lst (ds.set j y))):=rfl
theorem uD (i j:Int)(μ Q):j5 (.int i) (.int j) μ Q=Q (.int (i - j)) μ:=rfl
theorem uS (i j:Int)(μ Q):d7 (.int i) (.int j) μ Q=(MulOk i j∧Q (.int (i*j)) μ):=rfl
theorem uv (i j:Int)(μ Q):ig (.int i) (.int j) μ Q=(fc j∧Q (.int (i.fdiv j)) μ):=rfl
theorem uq (i j:Int)(μ Q):kG (.int i) (.int j) μ Q=(j≠0∧Q (.int (i.fmod j)) μ):=rfl
theorem vv (i j:Int)(μ Q):z5 (.int i) (.int j) μ Q=(qY i j∧Q (.int (i ^ j.toNat)) μ):=rfl
theorem tG (i:Int)(μ Q):pH (.int i) μ Q=Q (.int (-i)) μ:=rfl
theorem BS (i j:Int)(μ Q):rLt (.int i) (.int j) μ Q=Q (.bl (decide (i < j))) μ:=rfl
theorem Cg (i j:Int)(μ Q):rLe (.int i) (.int j) μ Q=Q (.bl (decide (i≤j))) μ:=rfl
theorem BL (i j:Int)(μ Q):rGt (.int i) (.int j) μ Q=Q (.bl (decide (j < i))) μ:=rfl
theorem zw (i j:Int)(μ Q):rGe (.int i) (.int j) μ Q=Q (.bl (decide (j≤i))) μ:=rfl
theorem yz (x y:D)(μ Q):L3.rEq x y μ Q=((okD 40 x=true∧okD 40 y=true)∧Q (.bl (eqD x y)) μ):=rfl
theorem zX (x y:D)(μ Q):L3.rNe x y μ Q=((okD 40 x=true∧okD 40 y=true)∧Q (.bl (!eqD x y)) μ):=rfl
theorem rY (ds:List D)(i:Int)(μ Q):L3.rIx (.tup ds) (.int i) μ Q=kO (atD ds i) fun d=>Q d μ:=rfl
theorem zk (ds:List D)(i:Int)(μ Q):L3.rIx (.ls ds) (.int i) μ Q=kO (atD ds i) fun d=>Q d μ:=rfl
theorem Ae (a:Addr)(i:Int)(μ Q):L3.rIx (.obj a) (.int i) μ Q=kL μ a fun ds=>kO (atD ds i) fun d=>Q d μ:=rfl
theorem vw (c:String)(i:Int)(μ Q):fZ c (.int i) μ Q=Q (.bl (a5 "int" c)) μ:=rfl
theorem tM (c:String)(i:Bool)(μ Q):fZ c (.bl i) μ Q=Q (.bl (a5 "bool" c)) μ:=rfl
theorem sW (c:String)(i:List D)(μ Q):fZ c (.tup i) μ Q=Q (.bl (a5 "tuple" c)) μ:=rfl
theorem tS (i:Int)(μ Q):rN [.int i] μ Q=Q (.int (if i < 0 then -i else i)) μ:=rfl
theorem uP (i j:Int)(μ Q):J6 [.int i,.int j] μ Q=Q (.int (if j > i then j else i)) μ:=rfl
theorem uc (i j:Int)(μ Q):lC [.int i,.int j] μ Q=Q (.int (if j < i then j else i)) μ:=rfl
theorem uw (i:Int)(μ Q):J1 [.int i] μ Q=Q (.int i) μ:=rfl
theorem ud (i:Bool)(μ Q):J1 [.bl i] μ Q=Q (.int (if i then 1 else 0)) μ:=rfl
theorem uM (i:List D)(μ Q):c5 [.tup i] μ Q=Q (.int i.length) μ:=rfl
theorem sZ (i:List D)(μ Q):c5 [.ls i] μ Q=Q (.int i.length) μ:=rfl
local macro_rules | `(tactic| walk_at "rd")=>`(tactic| try simp only[ag,TC,ak,TUn,fO,xu,jG,TB,xk,TOr,iY,Ie,u4,au,af,cq,f6,rB,aq,bA,aG,ui,AD,jx,aS,BE,cG,aw,aP,vm,gF,iZ,di,f7, 
  Ap,zB,B0,AN,yB,uR,o9,vo,AI,tT,pT,wm,ko,pL,pO,p7,p9,uT,kU,xV,lO,ly,lJ,kC,kP,mf,mh,l9,l6,TSl,ONo,fC,AH,BG,Cd,A5,BV,y9,vy,tw,Ay,yE,Ac,lq,kq,lP,uA,tK,tL,uD,uS,uv,uq,vv,tG,BS,Cg,BL,zw,yz,zX,rY,zk,Ae,vw,tM,sW,tS,uP,uc,uw,ud,uM,sZ,
  lk,ini,List.map,List.length,List.replicate,List.append,List.set,List.cons_append,List.nil_append,Nat.sub_self,Nat.reduceSub,Nat.reduceAdd,
  v8,wH,wy,vX,vP,vF,List.getElem?_cons_zero,List.getElem?_cons_succ,aM,Nat.reduceLT,Nat.reduceLeDiff,if_true,if_false,true_and,and_true,Bool.not_true,Bool.not_false,Nat.lt_add_one,Nat.zero_lt_succ,Nat.succ_lt_succ_iff,Nat.zero_lt_one,
  decide_eq_true_eq,Bool.false_eq_true,ite_false,ite_true,ne_eq,not_false_eq_true,Int.reduceToNat,Int.reducePow,Int.reduceNeg,Int.reduceSub,Int.reduceAdd,Int.reduceMul,Int.reduceEq,okD,bW,eqD,mO,Bool.and_self,Bool.and_true,Bool.true_and,iS,gX,hX,iC,hU,iB,iy])
local macro_rules | `(tactic| walk_at "ok")=>`(tactic| (simp only[L3.fc,L3.MulOk,L3.S64,L3.cg,L3.qY] at *;omega))
def Box (μ:Mu)(b:Addr):Prop:=∃ g s c:Int,μ b=some (.lst [.int g,.int s,.int c])∧0≤s∧s < 2147483647
structure my (b:Addr) (μ μ':Mu):Prop where
  box:Box μ' b
  oth:∀ a,a≠b→μ' a=μ a
theorem my.trans {b:Addr}{μ μ1 μ2:Mu}(x:my b μ μ1)(y:my b μ1 μ2):my b μ μ2:=⟨y.box,fun a h=>(y.oth a h).trans (x.oth a h)⟩
theorem sm (x y:Int):Int.gcd y (x.fmod y)=Int.gcd x y:=by
  rw[Int.fmod_def,Int.gcd_sub_mul_left_right,Int.gcd_comm]
theorem z3 (a:Int):(if a < 0 then -a else a)=(a.natAbs:Int):=by
  split<;>omega
def mz (i:Nat):ST→Mu→Nat:=fun ρ _=>match lk ρ i with
  | some (.int z)=>z.toNat
  | _=>0
structure Fr (p q:Int):Prop where
  q0:0 < q
  q1:q < 100000000000
  p0:-100000000000 < p
  p1:p < 100000000000
  g:Int.gcd p q=1
theorem dY {a b:Int}(h:0 < b):a.fdiv b=a / b:=Int.fdiv_eq_ediv_of_nonneg a (Int.le_of_lt h)
def cy:FSp:=fun ds μ Q=>match ds with
  | [.ls xs]=>(∃ ns:List Int,xs=ns.map .int∧ns.length≤63)∧∀ μ',Q (.bl true) μ'
  | _=>False
theorem o6:∀ ds μ Q,cy ds μ Q→ds.length=1:=by
  unfold cy
  walk_at "ln"
theorem jf (ns:List Int)(h:ns.length≤63)(μ:Mu):cy [.ls (ns.map .int)] μ (fun d _=>d=.bl true):=⟨⟨ns,rfl,h⟩,fun _=>rfl⟩
local macro_rules | `(tactic| walk_at "rd")=>`(tactic| try simp only[ag,TC,ak,TUn,fO,xu,jG,TB,xk,TOr,iY,Ie,u4,au,af,cq,f6,rB,aq,bA,aG,ui,AD,jx,aS,BE,cG,aw,aP,vm,gF,iZ,di,f7,cZ,eC,gH,jd,Io,ILs,
  Ap,zB,B0,AN,yB,uR,o9,vo,AI,tT,pT,wm,ko,pL,pO,p7,p9,uT,kU,xV,lO,ly,lJ,kC,kP,mf,mh,l9,l6,TSl,ONo,fC,AH,BG,Cd,A5,BV,y9,vy,tw,Ay,yE,Ac,lq,kq,lP,uA,tK,tL,uD,uS,uv,uq,vv,tG,BS,Cg,BL,zw,yz,zX,rY,zk,Ae,vw,tM,sW,tS,uP,uc,uw,ud,uM,sZ,
  lk,ini,List.map,List.length,List.replicate,List.append,List.set,List.cons_append,List.nil_append,Nat.sub_self,Nat.reduceSub,Nat.reduceAdd,
  v8,wH,wy,vX,vP,vF,List.getElem?_cons_zero,List.getElem?_cons_succ,aM,rg,Nat.reduceLT,Nat.reduceLeDiff,if_true,if_false,true_and,and_true,Bool.not_true,Bool.not_false,Nat.lt_add_one,Nat.zero_lt_succ,Nat.succ_lt_succ_iff,Nat.zero_lt_one,
  decide_eq_true_eq,Bool.false_eq_true,ite_false,ite_true,ne_eq,not_false_eq_true,Int.reduceToNat,Int.reducePow,Int.reduceNeg,Int.reduceSub,Int.reduceAdd,Int.reduceMul,Int.reduceEq,okD,bW,eqD,mO,Bool.and_self,Bool.and_true,Bool.true_and,iS,gX,hX,iC,hU,iB,iy])
structure IsPart (a b p q:Int):Prop where
  q0:0 < q
  g:Int.gcd p q=1
  e:p*b=a*q
  pa:p.natAbs≤a.natAbs
  qb:q.natAbs≤b.natAbs
theorem mB {g c:Int}(hg:0 < g):c.natAbs≤(g*c).natAbs:=by
  rw[Int.natAbs_mul]
  exact Nat.le_mul_of_pos_left _ (by omega)
theorem D0 {a b:Int}(hb:b≠0):IsPart a b (a.fdiv (if b < 0 then -(Int.gcd a b:Int) else Int.gcd a b)) (b.fdiv (if b < 0 then -(Int.gcd a b:Int) else Int.gcd a b)):=by
  have gp:0 < Int.gcd a b:=Int.gcd_pos_of_ne_zero_right a hb
  have gz:0 < (Int.gcd a b:Int):=by omega
  obtain ⟨c,hc⟩:=Int.gcd_dvd_left a b
  obtain ⟨d,hd⟩:=Int.gcd_dvd_right a b
  have g1:=Int.gcd_ediv_gcd_ediv_gcd gp
  have e1:a / (Int.gcd a b:Int)=c:=Int.ediv_eq_of_eq_mul_right (by omega) hc
  have e2:b / (Int.gcd a b:Int)=d:=Int.ediv_eq_of_eq_mul_right (by omega) hd
  rw[e1,e2] at g1
  generalize (Int.gcd a b:Int)=g at *
  clear e1 e2 gp
  subst hc hd
  have p1:=mB (c:=c) gz
  have p2:=mB (c:=d) gz
  split
  · rename_i hneg
    have d0:d < 0:=by
      rcases Int.lt_trichotomy d 0 with h | h | h
      · exact h
      · subst h;omega
      · have:=Int.mul_pos gz h;omega
    have x1:(g*c).fdiv (-g) = -c:=by rw[show g*c = -g * -c by rw[Int.neg_mul_neg]];exact Int.mul_fdiv_cancel_left _ (by omega)
    have x2:(g*d).fdiv (-g) = -d:=by rw[show g*d = -g * -d by rw[Int.neg_mul_neg]];exact Int.mul_fdiv_cancel_left _ (by omega)
    rw[x1,x2]
    refine ⟨by omega,by rw[Int.neg_gcd,Int.gcd_neg];exact g1,?_,by omega,by omega⟩
    rw[Int.neg_mul,Int.mul_neg,Int.mul_left_comm,Int.mul_assoc]
  · rename_i hneg
    have d0:0 < d:=by
      rcases Int.lt_trichotomy d 0 with h | h | h
      · have:=Int.mul_neg_of_pos_of_neg gz h;omega
      · subst h;omega
      · exact h
    have x1:(g*c).fdiv g=c:=Int.mul_fdiv_cancel_left _ (by omega)
    have x2:(g*d).fdiv g=d:=Int.mul_fdiv_cancel_left _ (by omega)
    rw[x1,x2]
    refine ⟨d0,g1,?_,by omega,by omega⟩
    rw[Int.mul_left_comm,Int.mul_assoc]
theorem C0 {p q p' q':Int}(q0:0 < q)(q0':0 < q')(g:Int.gcd p q=1)(g':Int.gcd p' q'=1)(e:p*q'=p'*q):p=p'∧q=q':=by
  have h1:q ∣ q':=by
    have:q ∣ p*q':=⟨p',by rw[e,Int.mul_comm]⟩
    have h:=Int.dvd_gcd_mul_iff_dvd_mul.mpr this
    rw[Int.gcd_comm,g] at h
    simpa using h
  have h2:q' ∣ q:=by
    have:q' ∣ p'*q:=⟨p,by rw[← e,Int.mul_comm]⟩
    have h:=Int.dvd_gcd_mul_iff_dvd_mul.mpr this
    rw[Int.gcd_comm,g'] at h
    simpa using h
  have e3:q=q':=Int.dvd_antisymm (by omega) (by omega) h1 h2
  subst e3
  exact ⟨Int.eq_of_mul_eq_mul_right (by omega) e,rfl⟩
theorem IsPart.same {a b p q a' b' p' q':Int}(h:IsPart a b p q)(h':IsPart a' b' p' q')(hb:b≠0)(hb':b'≠0)(e:a*b'=a'*b):p=p'∧q=q':=by
  refine C0 h.q0 h'.q0 h.g h'.g ?_
  have e1:=h.e
  have e2:=h'.e
  have x:(p*q')*(b*b')=(p'*q)*(b*b'):=by
    calc (p*q')*(b*b')=(p*b)*(q'*b'):=by ac_rfl
      _=(a*q)*(q'*b'):=by rw[e1]
      _=(a*b')*(q*q'):=by ac_rfl
      _=(a'*b)*(q*q'):=by rw[e]
      _=(a'*q')*(q*b):=by ac_rfl
      _=(p'*b')*(q*b):=by rw[e2]
      _=(p'*q)*(b*b'):=by ac_rfl
  exact Int.eq_of_mul_eq_mul_right (Int.mul_ne_zero hb hb') x
def bD:FSp:=fun ds μ Q=>match ds with
  | [.int a,.int b]=>Q (.int (Int.gcd a b)) μ
  | _=>False
theorem mK:∀ ds μ Q,bD ds μ Q→ds.length=2:=by
  unfold bD
  walk_at "ln"
def js:STr:=aG (aP (aq rN (af (ag 0) (au))) (aw 2)) (aG (aP (aq rN (af (ag 1) (au))) (aw 3)) (aG (qe (TB (ak rGt (ag 3) (TC (.int 0)))) (aG (aP (ak kG (ag 2) (ag 3)) (aw 4)) (aG (aP (ag 3) (aw 2)) (aP (ag 4) (aw 3))))) (aS (ag 2))))
theorem qk:∀ ds μ Q,bD ds μ Q→js { nx:=fun _ μ'=>RT Q .non μ',rt:=RT Q } (ini 5 ds) μ:=by
  intro ds μ Q k
  unfold bD at k
  split at k
  case h_2=>exact k.elim
  rename_i a b
  unfold js
  walk_at "rd"
  refine ⟨fun ρ μ'=>μ'=μ∧∃ (x y:Int) (z:Option D),ρ=[some (.int a),some (.int b),some (.int x),some (.int y),z]∧0≤x∧0≤y∧Int.gcd x y=Int.gcd a b,mz 3,⟨rfl,_,_,_,rfl,?_,?_,?_⟩,?_⟩
  · split<;>omega
  · split<;>omega
  · rw[z3,z3];unfold Int.gcd;rw[Int.natAbs_natCast,Int.natAbs_natCast]
  · rintro ρ _ ⟨rfl,x,y,z,rfl,x0,y0,e⟩
    walk_at "rd"
    split
    · rename_i hy
      refine ⟨by omega,⟨_,_,_,rfl,y0,fm0 hy,?_⟩,?_⟩
      · rw[sm];exact e
      · have:=fm1 (a:=x) hy
        have:=fm0 (a:=x) hy
        simp only[mz,lk]
        omega
    · rename_i hy
      have hy0:y=0:=by omega
      subst hy0
      rw[Int.gcd_zero_right] at e
      have hx:x=(Int.gcd a b:Int):=by omega
      subst hx
      exact ⟨_,.refl _,k⟩
def cB:FSp:=fun ds μ Q=>match ds with
  | [.int a,.int b]=>(b≠0∧cg b)∧∀ p q,IsPart a b p q→Q (.tup [.int p,.int q]) μ
  | _=>False
theorem BY:∀ ds μ Q,cB ds μ Q→ds.length=2:=by
  unfold cB
  walk_at "ln"
def yL:STr:=aG (aP (aq bD (af (ag 0) (af (ag 1) (au)))) (aw 2)) (aG (cG (TB (ak rLt (ag 1) (TC (.int 0)))) (aP (TUn pH (ag 2)) (aw 2)) (bA)) (aS (cq (af (ak ig (ag 0) (ag 2)) (af (ak ig (ag 1) (ag 2)) (au))))))
theorem Dw:∀ ds μ Q,cB ds μ Q→yL { nx:=fun _ μ'=>RT Q .non μ',rt:=RT Q } (ini 3 ds) μ:=by
  intro ds μ Q h
  unfold cB at h
  split at h
  case h_2=>exact h.elim
  rename_i a b
  obtain ⟨⟨hb,hm⟩,k⟩:=h
  have P:=k _ _ (D0 (a:=a) hb)
  have gp:0 < Int.gcd a b:=Int.gcd_pos_of_ne_zero_right a hb
  have gl:Int.gcd a b≤b.natAbs:=Int.gcd_le_natAbs_right a hb
  unfold yL
  walk_at "rd"
  show (if b < 0 then _ else _)
  split
  · rename_i hn
    rw[if_pos hn] at P
    have dv:fc (-(Int.gcd a b:Int)):=by walk_at "ok"
    exact ⟨dv,dv,_,.refl _,P⟩
  · rename_i hn
    rw[if_neg hn] at P
    have dv:fc (Int.gcd a b:Int):=by walk_at "ok"
    exact ⟨dv,dv,_,.refl _,P⟩
structure FrB (lo hi p q:Int):Prop where
  q0:0 < q
  q1:q≤10000002
  g:Int.gcd p q=1
  ge:lo*q≤p
  le:p≤hi*q
structure FrA (lo hi p q:Int):Prop extends FrB lo hi p q where
  ab:lo*q < p
structure FrL (hi p q:Int):Prop extends FrB 0 hi p q where
  ab:0 < p
  be:p < hi*q
theorem ya {a b:Int}(b0:0 < b):∃ g p q:Int,0 < g∧a=g*p∧b=g*q∧a.fdiv (Int.gcd a b)=p∧b.fdiv (Int.gcd a b)=q∧0 < q∧q≤b∧Int.gcd p q=1:=by
  have gp:0 < Int.gcd a b:=Int.gcd_pos_of_ne_zero_right a (by omega)
  have gz:0 < (Int.gcd a b:Int):=by omega
  obtain ⟨c,hc⟩:=Int.gcd_dvd_left a b
  obtain ⟨d,hd⟩:=Int.gcd_dvd_right a b
  have g1:=Int.gcd_ediv_gcd_ediv_gcd gp
  have e1:a / (Int.gcd a b:Int)=c:=Int.ediv_eq_of_eq_mul_right (by omega) hc
  have e2:b / (Int.gcd a b:Int)=d:=Int.ediv_eq_of_eq_mul_right (by omega) hd
  rw[e1,e2] at g1
  refine ⟨_,c,d,gz,hc,hd,by rw[dY gz];exact e1,by rw[dY gz];exact e2,?_,?_,g1⟩
  all_goals generalize (Int.gcd a b:Int)=g at *
  · rcases Int.lt_trichotomy d 0 with h | h | h
    · have:=Int.mul_neg_of_pos_of_neg gz h;omega
    · subst h;omega
    · exact h
  · have d0:0 < d:=by
      rcases Int.lt_trichotomy d 0 with h | h | h
      · have:=Int.mul_neg_of_pos_of_neg gz h;omega
      · subst h;omega
      · exact h
    have h:=Int.mul_le_mul_of_nonneg_right (show (1:Int)≤g by omega) (show (0:Int)≤d by omega)
    omega
theorem ni:(Str.ofString "still" = Str.ofString "step")=False:=eq_false (by decide +kernel)
theorem kK:(Str.ofString "still" = Str.ofString "swell")=False:=eq_false (by decide +kernel)
theorem nG:(Str.ofString "still" = Str.ofString "heed")=False:=eq_false (by decide +kernel)
theorem nE:(Str.ofString "still" = Str.ofString "calm")=False:=eq_false (by decide +kernel)
theorem mE:(Str.ofString "step" = Str.ofString "still")=False:=eq_false (by decide +kernel)
theorem m8:(Str.ofString "step" = Str.ofString "swell")=False:=eq_false (by decide +kernel)
theorem pR:(Str.ofString "step" = Str.ofString "heed")=False:=eq_false (by decide +kernel)
theorem pX:(Str.ofString "step" = Str.ofString "calm")=False:=eq_false (by decide +kernel)
theorem mj:(Str.ofString "swell" = Str.ofString "still")=False:=eq_false (by decide +kernel)
theorem mH:(Str.ofString "swell" = Str.ofString "step")=False:=eq_false (by decide +kernel)
theorem nh:(Str.ofString "swell" = Str.ofString "heed")=False:=eq_false (by decide +kernel)
theorem mW:(Str.ofString "swell" = Str.ofString "calm")=False:=eq_false (by decide +kernel)
theorem mN:(Str.ofString "heed" = Str.ofString "still")=False:=eq_false (by decide +kernel)
theorem pI:(Str.ofString "heed" = Str.ofString "step")=False:=eq_false (by decide +kernel)
theorem mP:(Str.ofString "heed" = Str.ofString "swell")=False:=eq_false (by decide +kernel)
theorem qv:(Str.ofString "heed" = Str.ofString "calm")=False:=eq_false (by decide +kernel)
theorem mV:(Str.ofString "calm" = Str.ofString "still")=False:=eq_false (by decide +kernel)
theorem pK:(Str.ofString "calm" = Str.ofString "step")=False:=eq_false (by decide +kernel)
theorem mY:(Str.ofString "calm" = Str.ofString "swell")=False:=eq_false (by decide +kernel)
theorem o5:(Str.ofString "calm" = Str.ofString "heed")=False:=eq_false (by decide +kernel)
theorem nN:PyData.strOk (Str.ofString "still")=true:=by decide +kernel
theorem sC:PyData.strOk (Str.ofString "step")=true:=by decide +kernel
theorem oK:PyData.strOk (Str.ofString "swell")=true:=by decide +kernel
theorem sy:PyData.strOk (Str.ofString "heed")=true:=by decide +kernel
theorem rj:PyData.strOk (Str.ofString "calm")=true:=by decide +kernel
abbrev fr (p q:Int):D:=.tup [.int p,.int q]
inductive uX:Str→D→Prop
  | jI {p q:Int} (w:FrB 1 60 p q):uX (Str.ofString "still") (.tup [.str "still", fr p q])
  | calm {p q r s x y l h:Int} (w:FrB 1 60 p q) (t:FrB 1 60 r s) (wt:p*s≤r*q) (u:FrA 0 60 x y) (l0:0≤l) (lh:l≤h) (h1:h≤60):uX (Str.ofString "calm") (.tup [.str "calm", fr p q,fr x y,.int l,.int h,fr r s])
  | AR {p q r s x y a b:Int} (w:FrB 1 60 p q) (t:FrB 1 60 r s) (wt:p*s≤r*q) (u:FrA 0 60 x y) (g:FrA 0 1 a b):uX (Str.ofString "heed") (.tup [.str "heed", fr p q,fr x y,fr a b,fr r s])
  | step {p q r s x y a b:Int} (w:FrB 1 60 p q) (t:FrB 1 60 r s) (wt:p*s≤r*q) (u:FrA 0 60 x y) (g:FrL 1 a b):uX (Str.ofString "step") (.tup [.str "step", fr p q,fr x y,fr a b,fr r s])
  | kZ {p q r s x y a b:Int} (w:FrB 1 60 p q) (t:FrB 1 60 r s) (wt:p*s≤r*q) (u:FrA 1 60 x y) (g:FrL 1 a b):uX (Str.ofString "swell") (.tup [.str "swell", fr p q,fr x y,fr a b,fr r s])
theorem dD (i:Decidable (Str.ofString "still" = Str.ofString "step")):@decide (Str.ofString "still" = Str.ofString "step") i=false:=by cases i with | isTrue h=>exact absurd h (by rw[ni];exact not_false) | isFalse _=>rfl
theorem cY (i:Decidable (Str.ofString "still" = Str.ofString "swell")):@decide (Str.ofString "still" = Str.ofString "swell") i=false:=by cases i with | isTrue h=>exact absurd h (by rw[kK];exact not_false) | isFalse _=>rfl
theorem dq (i:Decidable (Str.ofString "still" = Str.ofString "heed")):@decide (Str.ofString "still" = Str.ofString "heed") i=false:=by cases i with | isTrue h=>exact absurd h (by rw[nG];exact not_false) | isFalse _=>rfl
theorem dB (i:Decidable (Str.ofString "still" = Str.ofString "calm")):@decide (Str.ofString "still" = Str.ofString "calm") i=false:=by cases i with | isTrue h=>exact absurd h (by rw[nE];exact not_false) | isFalse _=>rfl
theorem dQ (i:Decidable (Str.ofString "step" = Str.ofString "still")):@decide (Str.ofString "step" = Str.ofString "still") i=false:=by cases i with | isTrue h=>exact absurd h (by rw[mE];exact not_false) | isFalse _=>rfl
theorem dU (i:Decidable (Str.ofString "step" = Str.ofString "swell")):@decide (Str.ofString "step" = Str.ofString "swell") i=false:=by cases i with | isTrue h=>exact absurd h (by rw[m8];exact not_false) | isFalse _=>rfl
theorem eT (i:Decidable (Str.ofString "step" = Str.ofString "heed")):@decide (Str.ofString "step" = Str.ofString "heed") i=false:=by cases i with | isTrue h=>exact absurd h (by rw[pR];exact not_false) | isFalse _=>rfl
theorem eG (i:Decidable (Str.ofString "step" = Str.ofString "calm")):@decide (Str.ofString "step" = Str.ofString "calm") i=false:=by cases i with | isTrue h=>exact absurd h (by rw[pX];exact not_false) | isFalse _=>rfl
theorem cW (i:Decidable (Str.ofString "swell" = Str.ofString "still")):@decide (Str.ofString "swell" = Str.ofString "still") i=false:=by cases i with | isTrue h=>exact absurd h (by rw[mj];exact not_false) | isFalse _=>rfl
theorem dC (i:Decidable (Str.ofString "swell" = Str.ofString "step")):@decide (Str.ofString "swell" = Str.ofString "step") i=false:=by cases i with | isTrue h=>exact absurd h (by rw[mH];exact not_false) | isFalse _=>rfl
theorem dS (i:Decidable (Str.ofString "swell" = Str.ofString "heed")):@decide (Str.ofString "swell" = Str.ofString "heed") i=false:=by cases i with | isTrue h=>exact absurd h (by rw[nh];exact not_false) | isFalse _=>rfl
theorem dE (i:Decidable (Str.ofString "swell" = Str.ofString "calm")):@decide (Str.ofString "swell" = Str.ofString "calm") i=false:=by cases i with | isTrue h=>exact absurd h (by rw[mW];exact not_false) | isFalse _=>rfl
theorem dm (i:Decidable (Str.ofString "heed" = Str.ofString "still")):@decide (Str.ofString "heed" = Str.ofString "still") i=false:=by cases i with | isTrue h=>exact absurd h (by rw[mN];exact not_false) | isFalse _=>rfl
theorem eE (i:Decidable (Str.ofString "heed" = Str.ofString "step")):@decide (Str.ofString "heed" = Str.ofString "step") i=false:=by cases i with | isTrue h=>exact absurd h (by rw[pI];exact not_false) | isFalse _=>rfl
theorem dF (i:Decidable (Str.ofString "heed" = Str.ofString "swell")):@decide (Str.ofString "heed" = Str.ofString "swell") i=false:=by cases i with | isTrue h=>exact absurd h (by rw[mP];exact not_false) | isFalse _=>rfl
theorem eS (i:Decidable (Str.ofString "heed" = Str.ofString "calm")):@decide (Str.ofString "heed" = Str.ofString "calm") i=false:=by cases i with | isTrue h=>exact absurd h (by rw[qv];exact not_false) | isFalse _=>rfl
theorem dI (i:Decidable (Str.ofString "calm" = Str.ofString "still")):@decide (Str.ofString "calm" = Str.ofString "still") i=false:=by cases i with | isTrue h=>exact absurd h (by rw[mV];exact not_false) | isFalse _=>rfl
theorem eF (i:Decidable (Str.ofString "calm" = Str.ofString "step")):@decide (Str.ofString "calm" = Str.ofString "step") i=false:=by cases i with | isTrue h=>exact absurd h (by rw[pK];exact not_false) | isFalse _=>rfl
theorem dO (i:Decidable (Str.ofString "calm" = Str.ofString "swell")):@decide (Str.ofString "calm" = Str.ofString "swell") i=false:=by cases i with | isTrue h=>exact absurd h (by rw[mY];exact not_false) | isFalse _=>rfl
theorem eN (i:Decidable (Str.ofString "calm" = Str.ofString "heed")):@decide (Str.ofString "calm" = Str.ofString "heed") i=false:=by cases i with | isTrue h=>exact absurd h (by rw[o5];exact not_false) | isFalse _=>rfl
theorem qh (a:Str)(i:Decidable (a=a)):@decide (a=a) i=true:=by cases i with | isTrue _=>rfl | isFalse h=>exact absurd rfl h
def kLs (x:D)(f:List D→Prop):Prop:=match x with
  | .ls ds=>f ds
  | _=>False
def cE (sp:FSp)(ds:List D)(μ:Mu)(Q:DK):Prop:=sp ds μ Q
def LEN (ds:List D)(P:Prop):Prop:=ds.length≤1000000∧P
theorem F7 (d:D)(r:ST)(μ:Mu)(Q:DK):ag 0 (some d::r) μ Q=Q d μ:=propext Iff.rfl
theorem Eo (x0:Option D)(r:ST)(d:D)(μ:Mu)(k:ST→Mu→Prop):aw 0 d (x0::r) μ k=k (some d::r) μ:=propext Iff.rfl
theorem HX (x0:Option D)(d:D)(r:ST)(μ:Mu)(Q:DK):ag 1 (x0::some d::r) μ Q=Q d μ:=propext Iff.rfl
theorem Cv (x0 x1:Option D)(r:ST)(d:D)(μ:Mu)(k:ST→Mu→Prop):aw 1 d (x0::x1::r) μ k=k (x0::some d::r) μ:=propext Iff.rfl
theorem HQ (x0 x1:Option D)(d:D)(r:ST)(μ:Mu)(Q:DK):ag 2 (x0::x1::some d::r) μ Q=Q d μ:=propext Iff.rfl
theorem DU (x0 x1 x2:Option D)(r:ST)(d:D)(μ:Mu)(k:ST→Mu→Prop):aw 2 d (x0::x1::x2::r) μ k=k (x0::x1::some d::r) μ:=propext Iff.rfl
theorem GB (x0 x1 x2:Option D)(d:D)(r:ST)(μ:Mu)(Q:DK):ag 3 (x0::x1::x2::some d::r) μ Q=Q d μ:=propext Iff.rfl
theorem DI (x0 x1 x2 x3:Option D)(r:ST)(d:D)(μ:Mu)(k:ST→Mu→Prop):aw 3 d (x0::x1::x2::x3::r) μ k=k (x0::x1::x2::some d::r) μ:=propext Iff.rfl
theorem Ik (x0 x1 x2 x3:Option D)(d:D)(r:ST)(μ:Mu)(Q:DK):ag 4 (x0::x1::x2::x3::some d::r) μ Q=Q d μ:=propext Iff.rfl
theorem CN (x0 x1 x2 x3 x4:Option D)(r:ST)(d:D)(μ:Mu)(k:ST→Mu→Prop):aw 4 d (x0::x1::x2::x3::x4::r) μ k=k (x0::x1::x2::x3::some d::r) μ:=propext Iff.rfl
theorem F9 (x0 x1 x2 x3 x4:Option D)(d:D)(r:ST)(μ:Mu)(Q:DK):ag 5 (x0::x1::x2::x3::x4::some d::r) μ Q=Q d μ:=propext Iff.rfl
theorem Cq (x0 x1 x2 x3 x4 x5:Option D)(r:ST)(d:D)(μ:Mu)(k:ST→Mu→Prop):aw 5 d (x0::x1::x2::x3::x4::x5::r) μ k=k (x0::x1::x2::x3::x4::some d::r) μ:=propext Iff.rfl
theorem F5 (x0 x1 x2 x3 x4 x5:Option D)(d:D)(r:ST)(μ:Mu)(Q:DK):ag 6 (x0::x1::x2::x3::x4::x5::some d::r) μ Q=Q d μ:=propext Iff.rfl
theorem CJ (x0 x1 x2 x3 x4 x5 x6:Option D)(r:ST)(d:D)(μ:Mu)(k:ST→Mu→Prop):aw 6 d (x0::x1::x2::x3::x4::x5::x6::r) μ k=k (x0::x1::x2::x3::x4::x5::some d::r) μ:=propext Iff.rfl
theorem Gu (x0 x1 x2 x3 x4 x5 x6:Option D)(d:D)(r:ST)(μ:Mu)(Q:DK):ag 7 (x0::x1::x2::x3::x4::x5::x6::some d::r) μ Q=Q d μ:=propext Iff.rfl
theorem Em (x0 x1 x2 x3 x4 x5 x6 x7:Option D)(r:ST)(d:D)(μ:Mu)(k:ST→Mu→Prop):aw 7 d (x0::x1::x2::x3::x4::x5::x6::x7::r) μ k=k (x0::x1::x2::x3::x4::x5::x6::some d::r) μ:=propext Iff.rfl
theorem GA (x0 x1 x2 x3 x4 x5 x6 x7:Option D)(d:D)(r:ST)(μ:Mu)(Q:DK):ag 8 (x0::x1::x2::x3::x4::x5::x6::x7::some d::r) μ Q=Q d μ:=propext Iff.rfl
theorem Dy (x0 x1 x2 x3 x4 x5 x6 x7 x8:Option D)(r:ST)(d:D)(μ:Mu)(k:ST→Mu→Prop):aw 8 d (x0::x1::x2::x3::x4::x5::x6::x7::x8::r) μ k=k (x0::x1::x2::x3::x4::x5::x6::x7::some d::r) μ:=propext Iff.rfl
theorem Hx (x0 x1 x2 x3 x4 x5 x6 x7 x8:Option D)(d:D)(r:ST)(μ:Mu)(Q:DK):ag 9 (x0::x1::x2::x3::x4::x5::x6::x7::x8::some d::r) μ Q=Q d μ:=propext Iff.rfl
theorem Dk (x0 x1 x2 x3 x4 x5 x6 x7 x8 x9:Option D)(r:ST)(d:D)(μ:Mu)(k:ST→Mu→Prop):aw 9 d (x0::x1::x2::x3::x4::x5::x6::x7::x8::x9::r) μ k=k (x0::x1::x2::x3::x4::x5::x6::x7::x8::some d::r) μ:=propext Iff.rfl
theorem Ep (x0 x1 x2 x3 x4 x5 x6 x7 x8 x9:Option D)(d:D)(r:ST)(μ:Mu)(Q:DK):ag 10 (x0::x1::x2::x3::x4::x5::x6::x7::x8::x9::some d::r) μ Q=Q d μ:=propext Iff.rfl
theorem yJ (x0 x1 x2 x3 x4 x5 x6 x7 x8 x9 x10:Option D)(r:ST)(d:D)(μ:Mu)(k:ST→Mu→Prop):aw 10 d (x0::x1::x2::x3::x4::x5::x6::x7::x8::x9::x10::r) μ k=k (x0::x1::x2::x3::x4::x5::x6::x7::x8::x9::some d::r) μ:=propext Iff.rfl
theorem Ew (x0 x1 x2 x3 x4 x5 x6 x7 x8 x9 x10:Option D)(d:D)(r:ST)(μ:Mu)(Q:DK):ag 11 (x0::x1::x2::x3::x4::x5::x6::x7::x8::x9::x10::some d::r) μ Q=Q d μ:=propext Iff.rfl
theorem yu (x0 x1 x2 x3 x4 x5 x6 x7 x8 x9 x10 x11:Option D)(r:ST)(d:D)(μ:Mu)(k:ST→Mu→Prop):aw 11 d (x0::x1::x2::x3::x4::x5::x6::x7::x8::x9::x10::x11::r) μ k=k (x0::x1::x2::x3::x4::x5::x6::x7::x8::x9::x10::some d::r) μ:=propext Iff.rfl
theorem Er (x0 x1 x2 x3 x4 x5 x6 x7 x8 x9 x10 x11:Option D)(d:D)(r:ST)(μ:Mu)(Q:DK):ag 12 (x0::x1::x2::x3::x4::x5::x6::x7::x8::x9::x10::x11::some d::r) μ Q=Q d μ:=propext Iff.rfl
theorem BQ (x0 x1 x2 x3 x4 x5 x6 x7 x8 x9 x10 x11 x12:Option D)(r:ST)(d:D)(μ:Mu)(k:ST→Mu→Prop):aw 12 d (x0::x1::x2::x3::x4::x5::x6::x7::x8::x9::x10::x11::x12::r) μ k=k (x0::x1::x2::x3::x4::x5::x6::x7::x8::x9::x10::x11::some d::r) μ:=propext Iff.rfl
theorem DM (x0 x1 x2 x3 x4 x5 x6 x7 x8 x9 x10 x11 x12:Option D)(d:D)(r:ST)(μ:Mu)(Q:DK):ag 13 (x0::x1::x2::x3::x4::x5::x6::x7::x8::x9::x10::x11::x12::some d::r) μ Q=Q d μ:=propext Iff.rfl
theorem BM (x0 x1 x2 x3 x4 x5 x6 x7 x8 x9 x10 x11 x12 x13:Option D)(r:ST)(d:D)(μ:Mu)(k:ST→Mu→Prop):aw 13 d (x0::x1::x2::x3::x4::x5::x6::x7::x8::x9::x10::x11::x12::x13::r) μ k=k (x0::x1::x2::x3::x4::x5::x6::x7::x8::x9::x10::x11::x12::some d::r) μ:=propext Iff.rfl
theorem CH (x0 x1 x2 x3 x4 x5 x6 x7 x8 x9 x10 x11 x12 x13:Option D)(d:D)(r:ST)(μ:Mu)(Q:DK):ag 14 (x0::x1::x2::x3::x4::x5::x6::x7::x8::x9::x10::x11::x12::x13::some d::r) μ Q=Q d μ:=propext Iff.rfl
theorem zY (x0 x1 x2 x3 x4 x5 x6 x7 x8 x9 x10 x11 x12 x13 x14:Option D)(r:ST)(d:D)(μ:Mu)(k:ST→Mu→Prop):aw 14 d (x0::x1::x2::x3::x4::x5::x6::x7::x8::x9::x10::x11::x12::x13::x14::r) μ k=k (x0::x1::x2::x3::x4::x5::x6::x7::x8::x9::x10::x11::x12::x13::some d::r) μ:=propext Iff.rfl
theorem KQ (d:D)(ρ:ST)(μ:Mu)(Q:DK):TC d ρ μ Q=Q d μ:=propext Iff.rfl
theorem FX (r:DR2)(a b:ETr)(ρ:ST)(μ:Mu)(Q:DK):ak r a b ρ μ Q=a ρ μ fun x μ1=>b ρ μ1 fun y μ2=>r x y μ2 Q:=propext Iff.rfl
theorem JN (r:DR)(a:ETr)(ρ:ST)(μ:Mu)(Q:DK):TUn r a ρ μ Q=a ρ μ fun x μ1=>r x μ1 Q:=propext Iff.rfl
theorem CT (a b:ETr)(ρ:ST)(μ:Mu)(Q:DK):fO a b ρ μ Q=a ρ μ fun x μ1=>kB x fun c=>kIf c (b ρ μ1 Q) (Q (.bl false) μ1):=propext Iff.rfl
theorem FV (a b:ETr)(ρ:ST)(μ:Mu)(Q:DK):xu a b ρ μ Q=a ρ μ fun x μ1=>kB x fun c=>kIf c (Q (.bl true) μ1) (b ρ μ1 Q):=propext Iff.rfl
theorem Df (a:ETr)(ρ:ST)(μ:Mu)(Q:DK):jG a ρ μ Q=a ρ μ fun x μ1=>kB x fun c=>Q (.bl (!c)) μ1:=propext Iff.rfl
theorem KC (t:ETr)(ρ:ST)(μ:Mu)(Q:Bool→Mu→Prop):TB t ρ μ Q=t ρ μ fun x μ1=>kB x fun c=>Q c μ1:=propext Iff.rfl
theorem G1 (t u:TTr)(ρ:ST)(μ:Mu)(Q:Bool→Mu→Prop):xk t u ρ μ Q=t ρ μ fun c μ1=>kIf c (u ρ μ1 Q) (Q false μ1):=propext Iff.rfl
theorem IL (t u:TTr)(ρ:ST)(μ:Mu)(Q:Bool→Mu→Prop):TOr t u ρ μ Q=t ρ μ fun c μ1=>kIf c (Q true μ1) (u ρ μ1 Q):=propext Iff.rfl
theorem GG (t:TTr)(ρ:ST)(μ:Mu)(Q:Bool→Mu→Prop):iY t ρ μ Q=t ρ μ fun c μ1=>Q (!c) μ1:=propext Iff.rfl
theorem Gs (ρ:ST)(μ:Mu)(Q:List D→Mu→Prop):au ρ μ Q=Q [] μ:=propext Iff.rfl
theorem Ef (a:ETr)(r:ATr)(ρ:ST)(μ:Mu)(Q:List D→Mu→Prop):af a r ρ μ Q=a ρ μ fun x μ1=>r ρ μ1 fun xs μ2=>Q (x::xs) μ2:=propext Iff.rfl
theorem GI (t:ATr)(ρ:ST)(μ:Mu)(Q:DK):cq t ρ μ Q=t ρ μ fun ds μ1=>LEN ds (Q (.tup ds) μ1):=propext Iff.rfl
theorem GY (t:ATr)(ρ:ST)(μ:Mu)(Q:DK):f6 t ρ μ Q=t ρ μ fun ds μ1=>LEN ds (Q (.ls ds) μ1):=propext Iff.rfl
theorem Fh (t:ATr)(ρ:ST)(μ:Mu)(Q:DK):rB t ρ μ Q=t ρ μ fun ds μ1=>LEN ds (∀ p,μ1 p=none→Q (.obj p) (up μ1 p (.lst ds))):=propext Iff.rfl
theorem DA (sp:FSp)(t:ATr)(ρ:ST)(μ:Mu)(Q:DK):aq sp t ρ μ Q=t ρ μ fun ds μ1=>cE sp ds μ1 Q:=propext Iff.rfl
theorem C1 (nx:ST→Mu→Prop)(rt:DK)(bk ct:ST→Mu→Prop)(ρ:ST)(μ:Mu):bA ⟨nx,rt,bk,ct⟩ ρ μ=nx ρ μ:=propext Iff.rfl
theorem Fx (t u:STr)(nx:ST→Mu→Prop)(rt:DK)(bk ct:ST→Mu→Prop)(ρ:ST)(μ:Mu):aG t u ⟨nx,rt,bk,ct⟩ ρ μ=t ⟨u ⟨nx,rt,bk,ct⟩,rt,bk,ct⟩ ρ μ:=propext Iff.rfl
theorem Ed (e:ETr)(nx:ST→Mu→Prop)(rt:DK)(bk ct:ST→Mu→Prop)(ρ:ST)(μ:Mu):jx e ⟨nx,rt,bk,ct⟩ ρ μ=e ρ μ fun _ μ1=>nx ρ μ1:=propext Iff.rfl
theorem FU (e:ETr)(nx:ST→Mu→Prop)(rt:DK)(bk ct:ST→Mu→Prop)(ρ:ST)(μ:Mu):aS e ⟨nx,rt,bk,ct⟩ ρ μ=e ρ μ rt:=propext Iff.rfl
theorem Hb (c:TTr)(t u:STr)(nx:ST→Mu→Prop)(rt:DK)(bk ct:ST→Mu→Prop)(ρ:ST)(μ:Mu):cG c t u ⟨nx,rt,bk,ct⟩ ρ μ=c ρ μ fun b μ1=>kIf b (t ⟨nx,rt,bk,ct⟩ ρ μ1) (u ⟨nx,rt,bk,ct⟩ ρ μ1):=propext Iff.rfl
theorem Gv (e:ETr)(g:GTr)(nx:ST→Mu→Prop)(rt:DK)(bk ct:ST→Mu→Prop)(ρ:ST)(μ:Mu):aP e g ⟨nx,rt,bk,ct⟩ ρ μ=e ρ μ fun d μ1=>g d ρ μ1 nx:=propext Iff.rfl
theorem GR (i j:Nat)(a:ATr)(nx:ST→Mu→Prop)(rt:DK)(bk ct:ST→Mu→Prop)(ρ:ST)(μ:Mu):vm i j a ⟨nx,rt,bk,ct⟩ ρ μ=a ρ μ fun ds μ1=>k2 ds fun v w=>aw i v ρ μ1 fun ρ2 μ2=>aw j w ρ2 μ2 nx:=propext Iff.rfl
theorem By (o k e:ETr)(nx:ST→Mu→Prop)(rt:DK)(bk ct:ST→Mu→Prop)(ρ:ST)(μ:Mu):gF o k e ⟨nx,rt,bk,ct⟩ ρ μ=e ρ μ fun y μ1=>o ρ μ1 fun x μ2=>k ρ μ2 fun z μ3=>Cy x z y μ3 fun μ4=>nx ρ μ4:=propext Iff.rfl
theorem Im (it:ATr)(g:GTr)(b:STr)(nx:ST→Mu→Prop)(rt:DK)(bk ct:ST→Mu→Prop)(ρ:ST)(μ:Mu):iZ it g b ⟨nx,rt,bk,ct⟩ ρ μ=it ρ μ fun ds μ1=>forR g b ⟨nx,rt,bk,ct⟩ ds ρ μ1:=propext Iff.rfl
theorem xc (a:ETr)(ρ:ST)(μ:Mu)(Q:List D→Mu→Prop):di a ρ μ Q=a ρ μ fun x μ1=>kI x fun j=>(-4611686018427387904≤j∧j < 4611686018427387904)∧Q (dN 0 j.toNat) μ1:=propext Iff.rfl
theorem wG (a:ETr)(ρ:ST)(μ:Mu)(Q:List D→Mu→Prop):Ks (af a au) ρ μ Q=a ρ μ fun x μ1=>kLs x fun ds=>Q (ip ds) μ1:=propext (Iff.of_eq (congrArg (a ρ μ) (funext fun x=>funext fun μ1=>by cases x<;>rfl)))
theorem xM (a b:ETr)(ρ:ST)(μ:Mu)(Q:List D→Mu→Prop):pE a b ρ μ Q=a ρ μ fun x μ1=>b ρ μ1 fun y μ2=>kI x fun i=>kI y fun j=>((-4611686018427387904≤i∧i < 4611686018427387904)∧-4611686018427387904≤j∧j < 4611686018427387904)∧Q (dN i (j - i).toNat) μ2:=propext Iff.rfl
theorem Hk (a:ETr)(ρ:ST)(μ:Mu)(Q:DK):xV a ρ μ Q=a ρ μ fun x μ1=>kObj x fun b=>kL μ1 b fun ds=>Q (.ls ds) (dn μ1 b):=propext Iff.rfl
theorem FF (To Te:ETr)(ρ:ST)(μ:Mu)(Q:DK):uT To Te ρ μ Q=To ρ μ fun x μ1=>kObj x fun a=>kL μ1 a fun _=>Te ρ μ1 fun y μ2=>kL μ2 a fun ds=>ds.length < 1000000∧Q .non (up μ2 a (.lst (ds++[y]))):=propext Iff.rfl
theorem Ja (a:ETr)(lo hi:OTr)(ρ:ST)(μ:Mu)(Q:DK):TSl a lo hi ρ μ Q=a ρ μ fun x μ1=>lo ρ μ1 fun l μ2=>hi ρ μ2 fun h μ3=>rSl x l h μ3 Q:=propext Iff.rfl
theorem Jm (ρ:ST)(μ:Mu)(Q:Option Int→Mu→Prop):ONo ρ μ Q=Q none μ:=propext Iff.rfl
theorem FP (T:ETr)(ρ:ST)(μ:Mu)(Q:Option Int→Mu→Prop):fC T ρ μ Q=T ρ μ fun x μ1=>kI x fun i=>Q (some i) μ1:=propext Iff.rfl
theorem HH (i0 i1:Nat)(d0 d1:D)(ρ:ST)(μ:Mu)(k:ST→Mu→Prop):fm [i0,i1] (.tup [d0,d1]) ρ μ k=aw i0 d0 ρ μ fun ρ1 _=>aw i1 d1 ρ1 μ fun ρ2 _=>k ρ2 μ:=by simp[fm,fE,aw]
theorem Hj (i0 i1 i2:Nat)(d0 d1 d2:D)(ρ:ST)(μ:Mu)(k:ST→Mu→Prop):fm [i0,i1,i2] (.tup [d0,d1,d2]) ρ μ k=aw i0 d0 ρ μ fun ρ1 _=>aw i1 d1 ρ1 μ fun ρ2 _=>aw i2 d2 ρ2 μ fun ρ3 _=>k ρ3 μ:=by simp[fm,fE,aw]
theorem GP (i0 i1 i2 i3 i4:Nat)(d0 d1 d2 d3 d4:D)(ρ:ST)(μ:Mu)(k:ST→Mu→Prop):fm [i0,i1,i2,i3,i4] (.tup [d0,d1,d2,d3,d4]) ρ μ k=aw i0 d0 ρ μ fun ρ1 _=>aw i1 d1 ρ1 μ fun ρ2 _=>aw i2 d2 ρ2 μ fun ρ3 _=>aw i3 d3 ρ3 μ fun ρ4 _=>aw i4 d4 ρ4 μ fun ρ5 _=>k ρ5 μ:=by simp[fm,fE,aw]
theorem JB (P:Prop):LEN [] P=P:=by simp[LEN]
theorem Iu (x0:D)(P:Prop):LEN [x0] P=P:=by simp[LEN]
theorem JV (x0 x1:D)(P:Prop):LEN [x0,x1] P=P:=by simp[LEN]
theorem Ku (x0 x1 x2:D)(P:Prop):LEN [x0,x1,x2] P=P:=by simp[LEN]
theorem Jb (x0 x1 x2 x3:D)(P:Prop):LEN [x0,x1,x2,x3] P=P:=by simp[LEN]
theorem Jh (x0 x1 x2 x3 x4:D)(P:Prop):LEN [x0,x1,x2,x3,x4] P=P:=by simp[LEN]
theorem IF (x0 x1 x2 x3 x4 x5:D)(P:Prop):LEN [x0,x1,x2,x3,x4,x5] P=P:=by simp[LEN]
theorem G2 (x0:D)(r:List D)(μ:Mu)(Q:DK):L3.rIx (.tup (x0::r)) (.int 0) μ Q=Q x0 μ:=by rw[rY];exact congrArg (fun o=>kO o fun d=>Q d μ) (cA 0 _)
theorem Gy (x0 x1:D)(r:List D)(μ:Mu)(Q:DK):L3.rIx (.tup (x0::x1::r)) (.int 1) μ Q=Q x1 μ:=by rw[rY];exact congrArg (fun o=>kO o fun d=>Q d μ) (cA 1 _)
theorem HW (i j:Int)(μ:Mu)(Q:DK):L3.rEq (.int i) (.int j) μ Q=Q (.bl (decide (i=j))) μ:=by simp[L3.rEq,okD,eqD]
theorem Gf (i j:Int)(μ:Mu)(Q:DK):L3.rNe (.int i) (.int j) μ Q=Q (.bl (!decide (i=j))) μ:=by simp[L3.rNe,okD,eqD]
theorem FL (i j:Str)(μ:Mu)(Q:DK):L3.rEq (.str i) (.str j) μ Q=((PyData.strOk i=true∧PyData.strOk j=true)∧Q (.bl (decide (i=j))) μ):=by simp[L3.rEq,okD,eqD]
theorem GF (i j:Str)(μ:Mu)(Q:DK):L3.rNe (.str i) (.str j) μ Q=((PyData.strOk i=true∧PyData.strOk j=true)∧Q (.bl (!decide (i=j))) μ):=by simp[L3.rNe,okD,eqD]
theorem Ho (i:Int)(μ:Mu)(Q:DK):cE rN [.int i] μ Q=Q (.int (if i < 0 then -i else i)) μ:=propext Iff.rfl
theorem HR (i j:Int)(μ:Mu)(Q:DK):cE lC [.int i,.int j] μ Q=Q (.int (min i j)) μ:=by show Q (.int (if j < i then j else i)) μ=_;congr 2;omega
theorem A1 (a:List D)(μ:Mu)(Q:DK):cE cX [.ls a] μ Q=Q (.tup a) μ:=propext Iff.rfl
theorem Bk (a:Addr)(μ:Mu)(Q:DK):cE cX [.obj a] μ Q=kL μ a fun xs=>Q (.tup xs) μ:=propext Iff.rfl
theorem F4 (a:Addr)(μ:Mu)(Q:DK):cE c5 [.obj a] μ Q=kL μ a fun xs=>Q (.int xs.length) μ:=propext Iff.rfl
theorem Fp (x:Str)(μ:Mu)(Q:DK):cE c5 [.str x] μ Q=(x.length≤1000000∧Q (.int x.length) μ):=propext Iff.rfl
theorem zy (a:List D)(μ:Mu)(Q:DK):cE c5 [.tup a] μ Q=Q (.int a.length) μ:=propext Iff.rfl
theorem Au (a:List D)(μ:Mu)(Q:DK):cE c5 [.ls a] μ Q=Q (.int a.length) μ:=propext Iff.rfl
theorem JP (n:Nat)(i:Int):okD n (.int i)=true:=by cases n<;>simp[okD]
theorem Ko (n:Nat)(x:Str):okD n (.str x)=PyData.strOk x:=by cases n<;>simp[okD]
theorem EX (i j:Int):eqD (.int i) (.int j)=decide (i=j):=by simp[eqD]
theorem EG (i j:Str):eqD (.str i) (.str j)=decide (i=j):=by simp[eqD]
theorem De (A B:Prop):kIf true A B=A:=propext Iff.rfl
theorem DO (A B:Prop):kIf false A B=B:=propext Iff.rfl
theorem Dv (c:Bool)(f):kB (.bl c) f=f c:=propext Iff.rfl
theorem Ca (c:Int)(f):kI (.int c) f=f c:=propext Iff.rfl
theorem zu (c:List D)(f):kS (.tup c) f=f c:=propext Iff.rfl
theorem CZ (c:List D)(f):kS (.ls c) f=f c:=propext Iff.rfl
theorem yy (a b:D)(f):k2 [a,b] f=f a b:=propext Iff.rfl
theorem yb (c:Nat)(f):kN (some c) f=f c:=propext Iff.rfl
theorem u6 (a:Addr)(n:Int)(y:D)(μ:Mu)(f):Cy (.obj a) (.int n) y μ f=kL μ a fun ds=>kN (L2.ixN ds.length n) fun j=>f (up μ a (.lst (ds.set j y))):=propext Iff.rfl
theorem xi (i j:Int)(μ Q):aI (.int i) (.int j) μ Q=Q (.int (i+j)) μ:=propext Iff.rfl
theorem wN (i j:Str)(μ Q):aI (.str i) (.str j) μ Q=(i.length+j.length≤1000000∧Q (.str (i++j)) μ):=propext Iff.rfl
theorem xH (a b:List D)(μ Q):aI (.tup a) (.tup b) μ Q=(a.length+b.length≤1000000∧Q (.tup (a++b)) μ):=propext Iff.rfl
theorem Cc (i j:Int)(μ Q):j5 (.int i) (.int j) μ Q=Q (.int (i - j)) μ:=propext Iff.rfl
theorem yD (i j:Int)(μ Q):d7 (.int i) (.int j) μ Q=(MulOk i j∧Q (.int (i*j)) μ):=propext Iff.rfl
theorem z7 (i j:Int)(μ Q):ig (.int i) (.int j) μ Q=(fc j∧Q (.int (i.fdiv j)) μ):=propext Iff.rfl
theorem zm (i j:Int)(μ Q):kG (.int i) (.int j) μ Q=(j≠0∧Q (.int (i.fmod j)) μ):=propext Iff.rfl
theorem BX (i j:Int)(μ Q):z5 (.int i) (.int j) μ Q=(qY i j∧Q (.int (i ^ j.toNat)) μ):=propext Iff.rfl
theorem Ab (i:Int)(μ Q):pH (.int i) μ Q=Q (.int (-i)) μ:=propext Iff.rfl
theorem DX (i j:Int)(μ Q):rLt (.int i) (.int j) μ Q=Q (.bl (decide (i < j))) μ:=propext Iff.rfl
theorem CB (i j:Int)(μ Q):rLe (.int i) (.int j) μ Q=Q (.bl (decide (i≤j))) μ:=propext Iff.rfl
theorem Du (i j:Int)(μ Q):rGt (.int i) (.int j) μ Q=Q (.bl (decide (j < i))) μ:=propext Iff.rfl
theorem C3 (i j:Int)(μ Q):rGe (.int i) (.int j) μ Q=Q (.bl (decide (j≤i))) μ:=propext Iff.rfl
theorem DW (a:Addr)(i:Int)(μ Q):L3.rIx (.obj a) (.int i) μ Q=kL μ a fun ds=>kO (atD ds i) fun d=>Q d μ:=propext Iff.rfl
theorem BR (c:String)(i:Int)(μ Q):fZ c (.int i) μ Q=Q (.bl (a5 "int" c)) μ:=propext Iff.rfl
theorem Bv (c:String)(i:Bool)(μ Q):fZ c (.bl i) μ Q=Q (.bl (a5 "bool" c)) μ:=propext Iff.rfl
theorem Al (c:String)(i:List D)(μ Q):fZ c (.tup i) μ Q=Q (.bl (a5 "tuple" c)) μ:=propext Iff.rfl
theorem zS (c:String)(i:Str)(μ Q):fZ c (.str i) μ Q=Q (.bl (a5 "str" c)) μ:=propext Iff.rfl
theorem Dc (a:List D)(lo hi)(μ Q):rSl (.tup a) lo hi μ Q=Q (.tup (cutD a lo hi)) μ:=propext Iff.rfl
theorem Eg (a:List D)(lo hi)(μ Q):rSl (.ls a) lo hi μ Q=Q (.ls (cutD a lo hi)) μ:=propext Iff.rfl
theorem vE (ds:List D)(i:Int)(μ Q):L3.rIx (.tup ds) (.int i) μ Q=kO (atD ds i) fun d=>Q d μ:=propext Iff.rfl
theorem wJ (ds:List D)(i:Int)(μ Q):L3.rIx (.ls ds) (.int i) μ Q=kO (atD ds i) fun d=>Q d μ:=propext Iff.rfl
theorem vM (x y:D)(μ Q):L3.rEq x y μ Q=((okD 40 x=true∧okD 40 y=true)∧Q (.bl (eqD x y)) μ):=propext Iff.rfl
theorem vV (x y:D)(μ Q):L3.rNe x y μ Q=((okD 40 x=true∧okD 40 y=true)∧Q (.bl (!eqD x y)) μ):=propext Iff.rfl
theorem kif {p:Prop} [Decidable p] {A B:Prop}(h1:p→A)(h2:¬ p→B):kIf (decide p) A B:=by
  by_cases h:p
  · rw[decide_eq_true h];exact h1 h
  · rw[decide_eq_false h];exact h2 h
theorem Li {p:Prop} [Decidable p] {A B:Prop}(h1:¬ p→A)(h2:p→B):kIf (!decide p) A B:=by
  by_cases h:p
  · rw[decide_eq_true h];exact h2 h
  · rw[decide_eq_false h];exact h1 h
theorem sV {o:Option D}{d:D}{f:D→Prop}(e:o=some d)(h:f d):kO o f:=by rw[e];exact h
theorem cj {μ:Mu}{a:Addr}{ds:List D}{f:List D→Prop}(e:μ a=some (.lst ds))(h:f ds):kL μ a f:=by rw[IQ e];exact h
section
open PySem PySem.Spec PyProof.Rows L2
def EH (kvs:List (Str×D))(s:Str):Option D:=(kvs.find? fun kv=>decide (kv.1=s)).map (·.2)
def vT (K:PySem.W.Frag):List DictEntry→List (Str×D)→Prop
  | [],[]=>True
  | e::es,(x,d)::r=>(∃ t,e.key=.str x t)∧(∃ v,RelV v e.val∧∀ H,Dp K H v d)∧vT K es r
  | _,_=>False
theorem sj (s x:Str)(t:Tok):Value.isStrOf s (.str x t)=decide (x=s):=by
  by_cases h:x=s
  · subst h;simp[Value.isStrOf]
  · rw[decide_eq_false h];simp[Value.isStrOf];first | exact h | exact fun z=>h z.symm
theorem vT.find {K:PySem.W.Frag}(s:Str):∀ {es:List DictEntry} {kvs:List (Str×D)},vT K es kvs→
    match EH kvs s with
    | none=>(es.find? fun e=>Value.isStrOf s e.key)=none
    | some d=>∃ e v,(es.find? fun e=>Value.isStrOf s e.key)=some e∧RelV v e.val∧∀ H,Dp K H v d
  | [],[],_=>rfl
  | e::es,(x,d)::r,h=>by
    obtain ⟨⟨t,ht⟩,⟨v,rv,pv⟩,hr⟩:=h
    have ih:=vT.find s hr
    unfold EH at ih ⊢
    rw[List.find?_cons,List.find?_cons,ht,sj]
    by_cases hx:x=s
    · simp only[decide_eq_true hx,Option.map_some]
      exact ⟨e,v,rfl,rv,pv⟩
    · simp only[decide_eq_false hx]
      exact ih
  | [],_::_,h=>False.elim h
  | _::_,[],h=>False.elim h
section
variable {X:Cx} {a b c e:Expr} {Ta Tb Te:ETr} {pos gpos:Pos} {x:Str} {kvs:List (Str×D)}
end
def Fm (b:Bool):D→Bool
  | .bl c=>c == b
  | _=>false
def Ck (neg:Bool):DR2:=fun x y μ Q=>match y with
  | .bl b=>Q (.bl (if neg then !Fm b x else Fm b x)) μ
  | _=>False
def iH (b:Bool):V→Bool
  | .bl c=>c == b
  | _=>false
theorem Ax {K:PySem.W.Frag}{H:Hp}{v:V}{d:D}(b:Bool)(h:Dp K H v d):iH b v=Fm b d:=by cases h<;>rfl
theorem Bz {v:V}{u:Value}(b:Bool)(r:RelV v u):plainIs u (.bool b)=true∧(u == .bool b)=iH b v:=by
  cases v with
  | bl c=>cases r;exact ⟨rfl,by cases b<;>cases c<;>decide⟩
  | int i=>obtain ⟨t,rfl⟩:=r;exact ⟨rfl,by simp[iH,beq_eq_false_iff_ne]⟩
  | str i=>obtain ⟨t,rfl⟩:=r;exact ⟨rfl,by simp[iH,beq_eq_false_iff_ne]⟩
  | flt i=>obtain ⟨t,rfl⟩:=r;exact ⟨rfl,by simp[iH,beq_eq_false_iff_ne]⟩
  | byt i=>obtain ⟨t,rfl⟩:=r;exact ⟨rfl,by simp[iH,beq_eq_false_iff_ne]⟩
  | _=>cases r;exact ⟨rfl,by simp[iH,beq_eq_false_iff_ne]⟩
theorem GH {X:Cx}:OpR X (compareOp .Is) (fun x y H Q=>∃ b,y=.bl b∧Q (.bl (iH b x)) H):=by
  intro pins s σ H x y v u Q I rx ry h
  obtain ⟨b,rfl,q⟩:=h
  cases (show u=Value.bool b from ry)
  obtain ⟨h1,h2⟩:=Bz b rx
  exact wpAny_is_plain h1 (by rw[h2];exact ⟨.bl _,H,I,rfl,q⟩)
theorem Et {K:PySem.W.Frag}:dj K (fun x y H Q=>∃ b,y=.bl b∧Q (.bl (iH b x)) H) (Ck false):=fun H μ x y dx dy Q Q' m px py h k=>by
  cases py with
  | bl b=>exact ⟨b,rfl,k _ H _ μ (.refl H) m (by rw[Ax b px];exact .bl _) h⟩
  | _=>exact False.elim h
section
variable {X:Cx} {a b:Expr} {Ta Tb:ETr} {pos:Pos}
theorem Ge (ha:LE X a Ta)(hb:LE X b Tb):LE X (.Compare a [.Is] [b] pos) (ak (Ck false) Ta Tb):=iQ GH Et ha hb (dR _)
end
end
section
open PySem PySem.Spec PyProof.Rows L2
def cJ (kvs:List (Key×D))(k:Key):Option D:=(kvs.find? fun kv=>decide (kv.1=k)).map (·.2)
def putD (kvs:List (Key×D))(k:Key)(v:D):List (Key×D):=
  if (kvs.any fun kv=>decide (kv.1=k))=true then kvs.map (fun kv=>if kv.1=k then (kv.1,v) else kv) else kvs++[(k,v)]
def yr (x:D)(f:Key→Prop):Prop:=match x with
  | .int i=>f (.inl i)
  | .str s=>f (.inr s)
  | _=>False
theorem DpK.nil {K:PySem.W.Frag}{H:Hp}:DpK K H [] []:=⟨rfl,.nil⟩
theorem DpK.cons {K:PySem.W.Frag}{H:Hp}{k:Key}{v:V}{d:D}{xs:List (Key×V)}{kvs:List (Key×D)}(h:Dp K H v d)(r:DpK K H xs kvs):DpK K H ((k,v)::xs) ((k,d)::kvs):=
  ⟨by simp[r.1],.cons h r.2⟩
theorem DpK.ind {K:PySem.W.Frag}{H:Hp}{P:List (Key×V)→List (Key×D)→Prop}(h0:P [] [])(h1:∀ k v d xs kvs,Dp K H v d→DpK K H xs kvs→P xs kvs→P ((k,v)::xs) ((k,d)::kvs)) :
    ∀ {xs:List (Key×V)} {kvs:List (Key×D)},DpK K H xs kvs→P xs kvs
  | [],[],_=>h0
  | [],_::_,h=>by cases h.1
  | _::_,[],h=>by cases h.1
  | (k,v)::xs,(k',d)::kvs,h=>by
    obtain ⟨h2,h3⟩:=h
    simp only[List.map_cons,List.cons.injEq] at h2
    obtain ⟨rfl,h2⟩:=h2
    cases h3 with
    | cons p l=>exact h1 k v d xs kvs p ⟨h2,l⟩ (DpK.ind h0 h1 ⟨h2,l⟩)
theorem DpK.look {K:PySem.W.Frag}{H:Hp}{xs:List (Key×V)}{kvs:List (Key×D)}(h:DpK K H xs kvs)(k:Key) :
    (cJ kvs k=none∧fY xs k=none)∨∃ v d,cJ kvs k=some d∧fY xs k=some v∧Dp K H v d:=by
  refine DpK.ind (P:=fun xs kvs=>(cJ kvs k=none∧fY xs k=none)∨∃ v d,cJ kvs k=some d∧fY xs k=some v∧Dp K H v d) (.inl ⟨rfl,rfl⟩) (fun j v d xs kvs p _ ih=>?_) h
  by_cases e:j=k
  · refine .inr ⟨v,d,?_,ij (p:=(j,v)) e,p⟩
    unfold cJ;rw[List.find?_cons];simp[e]
  · have e1:cJ ((j,d)::kvs) k=cJ kvs k:=by unfold cJ;rw[List.find?_cons];simp[e]
    rw[e1,gR (p:=(j,v)) e]
    exact ih
theorem DpK.any {K:PySem.W.Frag}{H:Hp}{xs:List (Key×V)}{kvs:List (Key×D)}(h:DpK K H xs kvs)(k:Key):(xs.any fun kv=>decide (kv.1=k))=kvs.any fun kv=>decide (kv.1=k):=by
  refine DpK.ind (P:=fun xs kvs=>(xs.any fun kv=>decide (kv.1=k))=kvs.any fun kv=>decide (kv.1=k)) rfl (fun j v d xs kvs p _ ih=>?_) h
  rw[List.any_cons,List.any_cons,ih]
theorem DpK.put {K:PySem.W.Frag}{H:Hp}{xs:List (Key×V)}{kvs:List (Key×D)}(h:DpK K H xs kvs)(k:Key){v:V}{d:D}(p:Dp K H v d):DpK K H (putK xs k v) (putD kvs k d):=by
  unfold putK putD
  rw[h.any k]
  split
  · refine DpK.ind (P:=fun xs kvs=>DpK K H (xs.map fun kv=>if kv.1=k then (kv.1,v) else kv) (kvs.map fun kv=>if kv.1=k then (kv.1,d) else kv)) .nil (fun j v' d' xs kvs p' _ ih=>?_) h
    rw[List.map_cons,List.map_cons]
    by_cases e:j=k
    · rw[if_pos e,if_pos e];exact .cons p ih
    · rw[if_neg e,if_neg e];exact .cons p' ih
  · refine DpK.ind (P:=fun xs kvs=>DpK K H (xs++[(k,v)]) (kvs++[(k,d)])) (.cons p .nil) (fun j v' d' xs kvs p' _ ih=>?_) h
    exact .cons p' ih
theorem DpK.length {K:PySem.W.Frag}{H:Hp}{xs:List (Key×V)}{kvs:List (Key×D)}(h:DpK K H xs kvs):xs.length=kvs.length:=by
  have:=h.2.length
  simpa using this
theorem rR {K:PySem.W.Frag}{H:Hp}{y:V}{dy:D}{f:Key→Prop}(p:Dp K H y dy)(h:yr dy f):∃ k,y=kV k∧f k:=by
  cases p with
  | int i=>exact ⟨.inl i,rfl,h⟩
  | str s=>exact ⟨.inr s,rfl,h⟩
  | _=>exact False.elim h
theorem kj {K:PySem.W.Frag}{H:Hp}{x:V}{dx:D}{f:Addr→Prop}(p:Dp K H x dx)(h:kObj dx f):∃ a,x=.ref a∧f a:=by
  cases p with
  | obj a=>exact ⟨a,rfl,h⟩
  | _=>exact False.elim h
theorem uE {H:Hp}{q:Addr}{u:HO}{xs:List (Key×V)}(ex:H q=some (.dK xs)):Tk H (L2.upd H q u):=
  .upd (fun ys z=>by rw[ex] at z;cases z) fun o' w z=>by rw[ex] at z;cases z
theorem Ib {K:PySem.W.Frag}{H:Hp}{μ:Mu}{q:Addr}{xs ys:List (Key×V)}{ds:List (Key×D)}(m:bE K H μ)(ex:H q=some (.dK xs))(l:DpK K H ys ds):bE K (L2.upd H q (.dK ys)) (up μ q (.dct ds)):=fun z y ez=>by
  by_cases zq:z=q
  · subst zq
    rw[aM] at ez;cases ez
    exact ⟨ys,aF,l.mono (uE ex)⟩
  · rw[aV zq] at ez
    exact (m z _ ez).ne (uE ex) zq
theorem wF {K:PySem.W.Frag}{H:Hp}{μ:Mu}{q:Addr}{ys:List (Key×V)}{ds:List (Key×D)}(m:bE K H μ)(hq:H q=none)(l:DpK K H ys ds):bE K (L2.upd H q (.dK ys)) (up μ q (.dct ds)):=fun z y ez=>by
  by_cases zq:z=q
  · subst zq
    rw[aM] at ez;cases ez
    exact ⟨ys,aF,l.mono (.new hq)⟩
  · rw[aV zq] at ez
    exact cm m hq z y ez
section
variable {X:Cx} {o i a b c e value:Expr} {To Ti Ta Tb Te:ETr} {pos tpos:Pos}
theorem hu1 (hu:X.A.units+64 < cLine):X.A.units+1 < cLine:=by omega
def yG (To Ti:ETr):ETr:=fun ρ μ Q=>To ρ μ fun x μ1=>Ti ρ μ1 fun y μ2=>kObj x fun a=>kD μ2 a fun kvs=>yr y fun k=>kO (cJ kvs k) fun d=>Q d μ2
theorem Ci (hu:X.A.units+64 < cLine)(ho:LE X o To)(hi:LE X i Ti)(hs:Gi i:=by intro _ _;rfl):LE X (.Subscript o i pos) (yG To Ti):=by
  obtain ⟨to,po,so⟩:=ho.ex
  obtain ⟨ti,pi,si⟩:=hi.ex
  refine ⟨_,CV (hu1 hu) po pi hs,fun σ H ρ μ Q Q' rl h k=>so σ H ρ μ _ _ rl h fun x H1 dx μ1 t1 m1 p1 h1=>si σ H1 ρ μ1 _ _ (rl.go t1 m1) h1 fun y H2 dy μ2 t2 m2 p2 h2=>?_⟩
  obtain ⟨q,rfl,h2⟩:=kj p1 h2
  obtain ⟨kvs,e0,h2⟩:=Ai h2
  obtain ⟨kk,rfl,h2⟩:=rR p2 h2
  obtain ⟨d,e1,h2⟩:=jn h2
  obtain ⟨xs,ex,l⟩:=m2 q _ e0
  rcases l.look kk with ⟨z,_⟩ | ⟨v,d',z,ev,pv⟩
  · rw[z] at e1;cases e1
  · rw[z] at e1;cases e1
    exact ⟨q,v,rfl,by rw[← ev];exact sD.k ex,k _ H2 _ μ2 (t1.trans t2) m2 pv h2⟩
def zK (To Ti Te:ETr):STr:=fun E ρ μ=>Te ρ μ fun v μ1=>To ρ μ1 fun x μ2=>Ti ρ μ2 fun y μ3=>kObj x fun a=>kD μ3 a fun kvs=>yr y fun k=>kvs.length < 1000000∧E.nx ρ (up μ3 a (.dct (putD kvs k v)))
theorem Dg (hu:X.A.units+64 < cLine)(ho:LE X o To)(hi:LE X i Ti)(he:LE X value Te)(hs:swapsWith value (some (.Subscript o i tpos)) pos.line X.env=pure false:=by rfl) :
    LS X (.Assign [.Subscript o i tpos] value pos) (zK To Ti Te):=by
  obtain ⟨to,po,so⟩:=ho.ex
  obtain ⟨ti,pi,si⟩:=hi.ex
  obtain ⟨te,pe,se⟩:=he.ex
  refine ⟨_,Dq (hu1 hu) po pi pe hs,fun σ H ρ μ E E' rl h k=>se σ H ρ μ _ _ rl h fun v H1 dv μ1 t1 m1 p1 h1=>so σ H1 ρ μ1 _ _ (rl.go t1 m1) h1 fun x H2 dx μ2 t2 m2 p2 h2=>
    si σ H2 ρ μ2 _ _ (rl.go (t1.trans t2) m2) h2 fun y H3 dy μ3 t3 m3 p3 h3=>?_⟩
  obtain ⟨q,rfl,h3⟩:=kj p2 h3
  obtain ⟨kvs,e0,h3⟩:=Ai h3
  obtain ⟨kk,rfl,h3⟩:=rR p3 h3
  obtain ⟨xs,ex,l⟩:=m3 q _ e0
  have t4:Tk H3 (L2.upd H3 q (.dK (putK xs kk v))):=uE ex
  have t14:=t1.trans (t2.trans (t3.trans t4))
  refine ⟨q,_,rfl,tR.k ex (by rw[l.length];exact Nat.lt_of_lt_of_le h3.1 (by decide)),k.nx _ _ ρ _ t14 (rl.go t14 (Ib m3 ex (l.put kk (p1.mono (t2.trans t3))))) h3.2⟩
def Bm (f:Int→Int→Int)(i:Nat)(Te:ETr):STr:=fun E ρ μ=>kO (lk ρ i) fun d=>kI d fun m=>Te ρ μ fun w μ1=>kI w fun n=>aw i (.int (f m n)) ρ μ1 E.nx
theorem D7 {te:TE}{K:PySem.W.Frag}{f:Int→Int→Int}{j:Nat}(se:Sim K te Te):D3 K (JJ j te (ipI f)) (Bm f j Te):=fun σ H ρ μ E E' rl h k=>by
  obtain ⟨d,e1,h⟩:=jn h
  obtain ⟨v,ev,pv⟩:=rl.loc j d e1
  cases pv with
  | int m=>
    refine ⟨.int m,ev,se σ H ρ μ _ _ rl h fun w H1 dw μ1 t1 m1 p1 h1=>?_⟩
    cases p1 with
    | int n=>exact ⟨m,n,rfl,rfl,k.nx _ _ _ _ t1 ((rl.go t1 m1).set (.int _) j) h1⟩
    | _=>exact False.elim h1
  | _=>exact False.elim h
theorem oC (j:Nat){x:Str}(hN:X.N.Nodup)(he:LE X e Te)(hi:X.N[j]? = some x:=by rfl)(hx:Loc X.env.scope x:=by first | exact Or.inl rfl | exact Or.inr rfl)(hf:X.fn x=true∨X.env.scope.names.lookup x=some .local:=by first | exact .inl rfl | exact .inr rfl | assumption) :
    LS X (.AugAssign (.Name x tpos) .Add e pos) (Bm (fun m n=>m+n) j Te):=by
  obtain ⟨te,pe,se⟩:=he.ex
  exact ⟨_,HJ hN hi hx pe FJ hf,D7 se⟩
theorem DG:LE X (.Dict [] [] pos) (fun ρ μ Q=>∀ p,μ p=none→Q (.obj p) (up μ p (.dct []))):=
  ⟨_,zN,fun σ H ρ μ Q Q' rl h k p hp=>k _ _ _ _ (.new hp) (wF rl.mu hp .nil) (.obj p) (h p (rl.mu.free hp))⟩
theorem DpK.zip {K:PySem.W.Frag}{H:Hp}:∀ {ks:List Key} {vs:List V} {ds:List D},DpL K H vs ds→DpK K H (ks.zip vs) (ks.zip ds)
  | [],_,_,_=>by simp;exact .nil
  | _::_,_,_,.nil=>by simp;exact .nil
  | k::ks,_,_,.cons p l=>.cons p (DpK.zip l)
end
end
section
open PySem PySem.Spec PyProof.Rows L2
theorem xJ:typeLookup (.type "list") (Str.ofString "keys")=pure none:=am_miss_of_fast (by kernel_rfl)
theorem HP {prog:Program}{w:World}{A:Around}{E:Value→Shared→Prop}{s:Shared}{a:Addr}{o:Obj}{xs:Array Value}{k:Nat}{Q:Option Value→Shared→Prop}
    (hx:s.heap.get? a=some o) (hc:o.cls=.type "list") (hdat:o.data=.seq xs k) (hd:o.dict=none) (hA:A.handled=none)
    (h:∀ h' tk,(∀ b ob,s.heap.get? b=some ob→h'.get? b=some ob)→Q none { s with heap:=h',toks:=tk }) :
    wpAny (model prog w) A (getAttr? (.ref a) "keys") Q E s:=by
  obtain ⟨c,dct,dat,sl⟩:=o
  simp only at hc hdat hd
  subst hc hdat hd
  obtain ⟨hp,g,d,tk,os⟩:=s
  have hT:∀ tk',(⟨hp,g,d,tk',os⟩:Shared).TypeIs (.ref a) "list" := fun _=>⟨_,hx,rfl⟩
  have f1:=sub_AttributeError
  have f3:=F.slot_list_getattribute.lookup
  have f4:=F.slot_list_getattribute.bind (.ref a)
  have f5:=am_list_getattr_none
  unfold getAttr? getAttrBy? getAttrBy
  repeat (any_goals (first | assumption | exact hT _ | ((with_reducible show wpAny _ _ (call (Value.builtin "list.__getattribute__") _ _) _ _ _);refine call_meets F.slot_list_getattribute (hT _) am_entry_list_getattribute (F.args_list_getattribute_2 _ _) (meets_getattribute_miss_list a xs k sl (Str.ofString "keys") _ xJ (by decide +kernel) (by decide +kernel)) ⟨hx,hA,fun h' tk' e hx'=>?_⟩) | wp_step))
  obtain ⟨t',u',he⟩:=hx'.there
  show wpAny _ _ (getattributeRaised _ _ _ _ _ _ _) _ _ _
  unfold getattributeRaised
  repeat (any_goals (first | assumption | wp_step))
  exact h _ _ hx'.keeps
theorem ir:plainId "dict.update.loop" = true:=by decide +kernel
theorem rV:entryFor table "dict.update.loop" = some Builtin.«dict.update.loop»:=entryFor_of_fast (by kernel_rfl)
inductive cQ {prog:Program} {w:World} {κ:Type} [DecidableEq κ] (knd:KeyKind prog w κ) (h:Heap):List Value→List (κ×Value)→Prop
  | nil:cQ knd h [] []
  | cons {a:Addr} {u v:Value} {k:κ} {us:List Value} {r:List (κ×Value)}:IsTup h a #[u,v]→knd.is k u=true→cQ knd h us r→cQ knd h (.ref a::us) ((k,v)::r)
section
variable {prog:Program} {w:World} {κ:Type} [DecidableEq κ] {knd:KeyKind prog w κ}
theorem cQ.keeps {h h':Heap}(kp:∀ b o,h.get? b=some o→o.cls=.type "tuple" → h'.get? b=some o):∀ {us:List Value} {r:List (κ×Value)},cQ knd h us r→cQ knd h' us r
  | _,_,.nil=>.nil
  | _,_,.cons t k r=>.cons (by obtain ⟨o,e,c,n,d⟩:=t;exact ⟨o,kp _ o e c,c,n,d⟩) k (r.keeps kp)
theorem qG {A:Around}{R:Result→Shared→Prop}{d it l:Addr}{items:Array Value}(hA:A.handled=none)(n1:d≠it)(n2:l≠it)(n3:l≠d) :
    ∀ (us:List Value) (r:List (κ×Value)) (i:Nat) (kvs:List (κ×Value)) (s:Shared),items.toList.drop i=us→cQ knd s.heap us r→s.heap.IsListIter it l i→s.heap.IsList l items→s.heap.DictOf knd d kvs→kvs.length+r.length≤sizeLine→
      (∀ h' tk,h'.DictOf knd d (merged kvs r)→(∀ b o,b≠it→b≠d→s.heap.get? b=some o→h'.get? b=some o)→R (.ok (.ret .none)) { s with heap:=h',toks:=tk })→
      wpAny (model prog w) A.in1 (Builtin.«dict.update.loop» ⟨[.ref d,.ref it,rawInt i,.none],[]⟩) (fun fin s'=>match fin with | .done f=>R (.ok f) s' | .again c'=>c'.quiet=true∧codeAny (model prog w) A c' R s') (fun e s'=>R (.error e) s') s
  | [],r,i,kvs,s,hd,P,hit,hl,hm,hz,h=>by
    cases P
    have hx:items[i]? = none:=by
      have:items.toList.length≤i:=by
        have:=congrArg List.length hd
        simp at this;simp;omega
      simpa using this
    show wpAny _ _ (pyNext (.ref it) >>= _) _ _ _
    refine wpAny_bind (wpAny_pyNext_list_end (by exact hA) hit hl hx fun h' k=>?_)
    show wpAny _ _ (Builtin.Dict.addKeywords d [] >>= _) _ _ _
    refine wpAny_bind (wpAny_pure (wpAny_pure ?_))
    refine h h' s.toks ?_ fun b o hb _ e=>k b o hb e
    obtain ⟨o,es,ep,ho,rest⟩:=hm
    exact ⟨o,es,ep,k d o n1 ho,rest⟩
  | u::us,r,i,kvs,s,hd,P,hit,hl,hm,hz,h=>by
    cases P with
    | @cons a ku v k _ r tp hk P=>
    have hx:items[i]? = some (.ref a):=by
      have:items.toList[i]? = some (.ref a):=by
        have:=congrArg (fun l=>l[0]?) hd
        simpa using this
      simpa using this
    have hd':items.toList.drop (i+1)=us:=by
      have:=congrArg List.tail hd
      simpa using this
    show wpAny _ _ (pyNext (.ref it) >>= _) _ _ _
    refine wpAny_bind (wpAny_pyNext_list_item hit hl hx fun h1 it1 k1=>?_)
    have ne_it:∀ b o,s.heap.get? b=some o→o.cls≠.type "list_iterator" → b≠it:=fun b o e c z=>by
      subst z
      obtain ⟨o',e',c',_⟩:=hit
      rw[e] at e';cases e';exact c c'
    have tp1:IsTup h1 a #[ku,v]:=by
      obtain ⟨o,e,c,n,dd⟩:=tp
      exact ⟨o,(k1.2 a (ne_it a o e (by rw[c];decide))).trans e,c,n,dd⟩
    obtain ⟨o,e,c,n,dd⟩:=tp1
    have hm1:h1.DictOf knd d kvs:=by
      obtain ⟨o,es,ep,ho,rest⟩:=hm
      exact ⟨o,es,ep,(k1.2 d n1).trans ho,rest⟩
    have hl1:h1.IsList l items:=by
      obtain ⟨o,e,c,n,dd⟩:=hl
      exact ⟨o,(k1.2 l n2).trans e,c,n,dd⟩
    dsimp only
    refine wpAny_bind (wpAny_holding ?_)
    refine wpAny_bind (wpAny_tryCatch ?_)
    unfold Builtin.Dict.pairItems
    refine wpAny_bind (wpAny_typeOf (T := "tuple") ⟨o,e,c⟩ ?_)
    rw[if_pos (by decide)]
    refine wpAny_bind (wpAny_seqItems e dd (wpAny_pure ?_))
    show wpAny _ _ (holding [ku,v] (dictSet d ku v)) _ _ _
    refine wpAny_holding (wpAny_dictSet_pairs (hsz:=by have:=hz;simp at this;omega) hk hm1 fun h2 hm2 k2=>?_)
    refine wpAny_pure ?_
    refine ⟨plainId_quiet ir _,codeAny_builtin rV ?_⟩
    rw[Around.under_plainId ir _]
    have kp:∀ b o,b≠it→b≠d→s.heap.get? b=some o→h2.get? b=some o:=fun b o b1 b2 q=>(k2.2 b b2).trans ((k1.2 b b1).trans q)
    have ci:((i:Int)+1)=((i+1:Nat):Int):=by push_cast;rfl
    have nd:∀ b o,s.heap.get? b=some o→o.cls≠.type "dict" → b≠d:=fun b o q c z=>by
      subst z
      obtain ⟨o',_,_,e',ex,_⟩:=hm
      rw[q] at e';cases e';exact c ex.1
    show wpAny _ _ (Builtin.«dict.update.loop» ⟨[.ref d,.ref it,rawInt ((i:Int)+1),.none],[]⟩) _ _ _
    rw[ci]
    refine qG hA n1 n2 n3 us r (i+1) (stored kvs k v) _ hd' (P.keeps fun b o q c=>kp b o (ne_it b o q (by rw[c];decide)) (nd b o q (by rw[c];decide)) q) ?_ ?_ hm2 ?_ ?_
    · obtain ⟨o,e,c⟩:=it1
      exact ⟨o,(k2.2 it (Ne.symm n1)).trans e,c⟩
    · obtain ⟨o,e,c⟩:=hl1
      exact ⟨o,(k2.2 l n3).trans e,c⟩
    · have:=stored_length_le kvs k v
      simp at hz;omega
    · intro h' tk hm' kp'
      exact h h' tk hm' fun b o b1 b2 q=>kp' b o b1 b2 (kp b o b1 b2 q)
end
end
section
open PySem PySem.Spec PyProof.Rows L2
section
variable {prog:Program} {w:World} {κ:Type} [DecidableEq κ] {knd:KeyKind prog w κ}
theorem jU {A:Around}{E:Value→Shared→Prop}{s:Shared}{l:Addr}{o:Obj}{items:Array Value}{k:Nat}{r:List (κ×Value)}{Q:Value→Shared→Prop}(hA:A.handled=none)
    (hx:s.heap.get? l=some o) (hc:o.cls=.type "list") (hdat:o.data=.seq items k) (hd:o.dict=none) (P:cQ knd s.heap items.toList r) (hz:r.length≤sizeLine)
    (h:∀ h' tk,h'.DictOf knd s.heap.objs.size (merged [] r)→(∀ b o,s.heap.get? b=some o→h'.get? b=some o)→Q (.ref s.heap.objs.size) { s with heap:=h',toks:=tk }) :
    wpAny (model prog w) A (call (.type "dict") [.ref l]) Q E s:=by
  refine callType_codes (Q₁:=fun obj s₁=>obj=.ref s.heap.objs.size∧s₁={ s with heap:=s.heap.push { cls:=.type "dict", data:=.dict #[] } }) F.kt_called_dict (F.kt_typeCall_dict_1 _) F.entry_dict_init (kt_code_dict_new _ ⟨rfl,rfl⟩) ?_
  rintro obj s₁ ⟨rfl,rfl⟩
  have Cp:(s.heap.push { cls:=.type "dict", data:=.dict #[] }).DictOf knd s.heap.objs.size []:=Heap.DictOf.new s.heap
  have hx1:(s.heap.push { cls:=.type "dict", data:=.dict #[] }).get? l=some o:=Heap.get?_push_of_some _ hx
  have ll:l < s.heap.objs.size:=Heap.lt_size hx
  refine ⟨Cp.typeIs,F.args_dict_init_2 _ _,?_⟩
  unfold Builtin.«dict.__init__»
  refine wpAny_bind ?_
  unfold Builtin.Dict.selfAndRest
  refine wpAny_bind (wpAny_notOrdered_dict Cp.typeIs ?_)
  show wpAny _ _ (pure (s.heap.objs.size,[Value.ref l])) _ _ _
  refine wpAny_pure ?_
  show wpAny _ _ (Builtin.Dict.updateFrom "dict.__init__" s.heap.objs.size (.ref l) [] .none) _ _ _
  unfold Builtin.Dict.updateFrom
  refine wpAny_bind (wpAny_typeOf (T := "list") ⟨o,hx1,hc⟩ ?_)
  rw[if_pos (by decide)]
  refine wpAny_bind (HP hx1 hc hdat hd hA fun h1 tk1 kp1=>?_)
  rw[if_pos (by decide)]
  refine wpAny_bind (wpAny_rule ?_)
  have hx2:h1.get? l=some o:=kp1 _ _ hx1
  have hl2:h1.IsList l items:=⟨o,hx2,hc,k,hdat⟩
  have lt1:s.heap.objs.size < h1.objs.size:=by
    obtain ⟨o',es,ep,ho,_⟩:=Cp
    exact Heap.lt_size (kp1 _ _ ho)
  refine wpAny_bind (wpAny_pyIter_list hl2 ?_)
  refine wpAny_bind (wpAny_pure (wpAny_pure ?_))
  refine ⟨plainId_quiet ir _,codeAny_builtin rV ?_⟩
  rw[Around.under_plainId ir _]
  have kp2:∀ b o,s.heap.get? b=some o→(h1.push { cls:=.type "list_iterator", data:=.fields #[.ref l,.int 0 0] }).get? b=some o:=fun b o q=>Heap.get?_push_of_some _ (kp1 _ _ (Heap.get?_push_of_some _ q))
  refine qG (A:=A.in1) (knd:=knd) (it:=h1.objs.size) (d:=s.heap.objs.size) (l:=l) (items:=items) (R:=wants (fun r s₂=>r=Value.none∧Q (Value.ref s.heap.objs.size) s₂) E) hA (Nat.ne_of_lt lt1) (Nat.ne_of_lt (Nat.lt_trans ll lt1)) (Nat.ne_of_lt ll) items.toList r 0 [] _ rfl ?_ ?_ ?_ ?_ (by simpa using hz) ?_
  · exact P.keeps fun b o q _=>kp2 b o q
  · exact ⟨_,Heap.get?_push_size _ rfl,rfl,rfl⟩
  · exact ⟨o,Heap.get?_push_of_some _ hx2,hc,k,hdat⟩
  · obtain ⟨o',es,ep,ho,rest⟩:=Cp
    exact ⟨o',es,ep,Heap.get?_push_of_some _ (kp1 _ _ ho),rest⟩
  · intro h' tk hm' kp'
    refine ⟨rfl,h h' tk hm' fun b o q=>?_⟩
    have hb:b < s.heap.objs.size:=Heap.lt_size q
    exact kp' b o (Nat.ne_of_lt (Nat.lt_trans hb lt1)) (Nat.ne_of_lt hb) (kp2 b o q)
end
def dK:Key→D
  | .inl i=>.int i
  | .inr s=>.str s
def ue (kv:Key×D):D:=.tup [dK kv.1,kv.2]
def fz (kvs more:List (Key×D)):List (Key×D):=more.foldl (fun acc kv=>putD acc kv.1 kv.2) kvs
inductive cM (K:PySem.W.Frag) (H:Hp):List V→List (Key×V)→Prop
  | nil:cM K H [] []
  | cons {a:Addr} {k:Key} {v:V} {ys:List V} {r:List (Key×V)}:SqT K H a [kV k,v]→cM K H ys r→cM K H (.ref a::ys) ((k,v)::r)
theorem cM.at {X:Cx}{pins:List (Addr×Obj)}{σ:L2.St}{H:Hp}{s:Shared}(I:Inv X pins σ H s):∀ {ys:List V} {kvs:List (Key×V)} {us:List Value},cM X.K H ys kvs→Vals ys us→∃ r,cQ (bF X.prog X.w) s.heap us r∧KV kvs r
  | _,_,_,.nil,.nil=>⟨[],.nil,.nil⟩
  | _,_,_,@cM.cons _ _ a k v ys r sq h,.cons ru rs=>by
    cases (show _=Value.ref a from ru)
    obtain ⟨r,p,q⟩:=h.at I rs
    obtain ⟨its,vs,it,_⟩:=I.tuple sq
    cases vs with | @cons _ u1 _ _ r1 vs=>cases vs with | @cons _ u2 _ _ r2 vs=>
    cases vs
    exact ⟨(k,u2)::r,.cons it (vO r1) p,.cons ⟨rfl,r2⟩ q⟩
theorem uW {X:Cx}(hc:X.calm=true):bG X (.type "dict") (fun xs H Q=>∃ l ys kvs,xs=[.ref l]∧SqL X.K H l ys∧cM X.K H ys kvs∧kvs.length≤sizeLine∧∀ p,H p=none→Q (.ref p) (L2.upd H p (.dK (eP [] kvs)))):=by
  intro pins s σ H xs us Q I rx h
  obtain ⟨l,ys,kvs,rfl,sq,pv,hz,q⟩:=h
  obtain ⟨u,rfl,ru⟩:=vals1 rx
  cases (show u=Value.ref l from ru)
  obtain ⟨its,vs,pl,_⟩:=I.list sq
  obtain ⟨o,n,e,c,hd,hdat⟩:=pl
  obtain ⟨r,pr,kv⟩:=pv.at I vs
  refine jU (knd:=bF X.prog X.w) (I.ok.hd hc) e c hdat hd (r:=r) (by simpa using pr) (by rw[← kv.length];exact hz) fun h' tk dd kp=>?_
  have hl:(eP [] kvs).length≤sizeLine:=by have:=gw kvs [];simp at this;omega
  exact ⟨.ref s.heap.objs.size,_,I.laid (a:=s.heap.objs.size) (o:=.dK (eP [] kvs)) kp (Nat.le_refl _) (A3 hl (beq_eq_false_iff_ne.mpr (Ne.symm (Nat.ne_of_lt I.big))) (KV.merge kv .nil) dd),rfl,q _ (I.hok.fresh (Nat.le_refl _))⟩
def vH:FSp:=fun ds μ Q=>match ds with
  | [.ls xs]=>∃ kvs:List (Key×D),xs=kvs.map ue∧kvs.length≤1000000∧∀ p,μ p=none→Q (.obj p) (up μ p (.dct (fz [] kvs)))
  | _=>False
theorem FN {K:PySem.W.Frag}{H:Hp}{v:V}{k:Key}(h:Dp K H v (dK k)):v=kV k:=by
  cases k with
  | inl i=>cases h;rfl
  | inr s=>cases h;rfl
theorem cM.of {K:PySem.W.Frag}{H:Hp}:∀ {kvs:List (Key×D)} {xs:List V},DpL K H xs (kvs.map ue)→∃ r,cM K H xs r∧DpK K H r kvs
  | [],_,h=>by cases h;exact ⟨[],.nil,.nil⟩
  | kv::kvs,_,h=>by
    obtain ⟨k,d⟩:=kv
    cases h with
    | cons p l=>
      obtain ⟨r,h1,h2⟩:=cM.of l
      cases p with
      | tup sq lp=>
        cases lp with | cons p1 lp=>cases lp with | cons p2 lp=>
        cases lp
        cases FN p1
        exact ⟨(k,_)::r,.cons sq h1,.cons p2 h2⟩
theorem DpK.merge {K:PySem.W.Frag}{H:Hp}{xs:List (Key×V)}{kvs:List (Key×D)}(h:DpK K H xs kvs):∀ {axs:List (Key×V)} {akvs:List (Key×D)},DpK K H axs akvs→DpK K H (eP axs xs) (fz akvs kvs):=
  DpK.ind (P:=fun xs kvs=>∀ {axs:List (Key×V)} {akvs:List (Key×D)},DpK K H axs akvs→DpK K H (eP axs xs) (fz akvs kvs)) (fun h=>h) (fun k v d xs kvs p _ ih axs akvs ha=>ih (ha.put k p)) h
theorem BN {K:PySem.W.Frag}:lL K (fun xs H Q=>∃ l ys kvs,xs=[.ref l]∧SqL K H l ys∧cM K H ys kvs∧kvs.length≤sizeLine∧∀ p,H p=none→Q (.ref p) (L2.upd H p (.dK (eP [] kvs)))) vH:=fun H μ xs ds Q Q' m p h k=>by
  unfold vH at h
  split at h
  · obtain ⟨kvs,rfl,hl,h⟩:=h
    cases p with | cons p1 p2=>
    cases p2
    cases p1 with
    | ls q l=>
      obtain ⟨r,h1,h2⟩:=cM.of l
      exact ⟨_,_,r,rfl,q.sq,h1,by rw[h2.length];exact big hl,fun z hz=>k _ _ _ _ (.new hz) (wF m hz (h2.merge .nil)) (.obj z) (h z (m.free hz))⟩
  · exact False.elim h
end
section
open PySem PySem.Spec PyProof.Rows L2
section
variable {X:Cx} {o i a b c e value:Expr} {To Ti Ta Tb Te:ETr} {pos tpos apos cpos:Pos}
def Hv (To Ti:ETr):ETr:=fun ρ μ Q=>To ρ μ fun x μ1=>kObj x fun a=>kL μ1 a fun _=>Ti ρ μ1 fun y μ2=>kI y fun j=>(-9223372036854775808≤j∧j < 9223372036854775808)∧kL μ2 a fun ds=>kN (L2.ixN ds.length j) fun k=>kO ds[k]? fun d=>Q d (up μ2 a (.lst (ds.eraseIdx k)))
theorem Ak {n k:Nat}{j:Int}(h:L2.ixN n j=some k):seqIndex? j n=some k:=by
  unfold L2.ixN at h
  unfold seqIndex?
  split at h
  · split at h
    · cases h
      rename_i h1 h2
      simp[show ¬ (j < 0) by omega,h1,h2]
    · cases h
  · split at h
    · cases h
      rename_i h1 h2
      simp[show j < 0 by omega]
      omega
    · cases h
theorem DpL.erase {K:PySem.W.Frag}{H:Hp}:∀ {vs:List V} {ds:List D} (i:Nat),DpL K H vs ds→DpL K H (vs.eraseIdx i) (ds.eraseIdx i)
  | _,_,_,.nil=>by simp;exact .nil
  | _,_,0,.cons _ l=>l
  | _,_,i+1,.cons q l=>.cons q (DpL.erase i l)
theorem HD (ho:LE X o To)(hi:LE X i Ti)
    (hbase:attributeBase o "pop" X.env (eval o X.env)=eval o X.env:=by rfl)
    (hfew:((backTo cpos (starEach [i] X.env)).all (fun x=>!x.1)&&(backToKw cpos (keywordEach [] X.env)).all (fun x=>x.1.isSome)
      && decide (([i]:List Expr).length+([]:List Keyword).length+(if ([]:List Keyword).isEmpty then 0 else 1) < 30))=true:=by rfl)
    (hline:(apos.endLine == cpos.line)=true:=by rfl) (hs:starEach [i] X.env=(false,eval i X.env)::starEach [] X.env:=by rfl) (hplain:(backTo cpos (starEach [] X.env)).any (·.1)=false:=by rfl) :
    LE X (.Call (.Attribute o "pop" apos) [i] [] cpos) (Hv To Ti):=by
  obtain ⟨to,po,so⟩:=ho.ex
  obtain ⟨ti,pi,si⟩:=hi.ex
  refine ⟨_,Fc PySem.F.plainAttrs_list PySem.F.slot_list_pop PySem.F.type_list_pop zF po (cz pi fQ hs) hbase hfew hline hs hplain,fun σ H ρ μ Q Q' rl h k=>so σ H ρ μ _ _ rl h fun x H1 dx μ1 t1 m1 p1 h1=>?_⟩
  obtain ⟨q,rfl,h1⟩:=kj p1 h1
  obtain ⟨ds0,e0,h1⟩:=ck h1
  obtain ⟨xs0,ex0,_⟩:=m1 q _ e0
  refine ⟨.inl ⟨rfl,_,SqL.of ex0⟩,si σ H1 ρ μ1 _ _ (rl.go t1 m1) h1 fun y H2 dy μ2 t2 m2 p2 h2=>?_⟩
  cases p2 with
  | int j=>
    obtain ⟨hr,h2⟩:=h2
    obtain ⟨ds,e2,h3⟩:=ck (show kL μ2 q _ from h2)
    obtain ⟨kk,e3,h3⟩:=oT h3
    obtain ⟨d,e4,h3⟩:=jn h3
    obtain ⟨xs,ex,l⟩:=m2 q _ e2
    obtain ⟨v,ev,pv⟩:=l.get e4
    have e3':L2.ixN xs.length j=some kk:=by rw[l.length];exact e3
    exact ⟨q,xs,j,kk,v,rfl,rfl,ex,by omega,by omega,Ak e3',ev,k _ _ _ _ ((t1.trans t2).trans (jb ex)) (E7 m2 ex (l.erase kk)) (pv.mono (jb ex)) h3⟩
  | _=>exact False.elim h2
end
noncomputable def lT (h:Heap) (dx:PyData) (y:Value):Bool:=@decide (∃ d as,Reads h y d as∧PyData.canLay0 d=true∧PyData.eqv d dx=true) (Classical.propDecidable _)
theorem CI {h:Heap}{dx d:PyData}{y:Value}{as:List Addr}(r:Reads h y d as)(hd:d.canLay0=true):lT h dx y=PyData.eqv d dx:=by
  unfold lT
  cases e:PyData.eqv d dx with
  | true=>exact @decide_eq_true _ (Classical.propDecidable _) ⟨d,as,r,hd,e⟩
  | false=>
    refine @decide_eq_false _ (Classical.propDecidable _) ?_
    rintro ⟨d',as',r',hd',e'⟩
    cases SeqAt.Reads.unique _ _ _ _ _ hd r r'
    rw[e] at e';cases e'
theorem wq {n:Nat}:∀ {ds:List D} {d:D},bW n ds=true→d∈ds→okD n d=true
  | x::r,d,h,hm=>by
    have h':okD n x=true∧bW n r=true:=by simpa[bW] using h
    rcases List.mem_cons.mp hm with rfl | hm
    · exact h'.1
    · exact wq h'.2 hm
section
variable {X:Cx} {pins:List (Addr×Obj)} {σ:L2.St} {H:Hp} {s:Shared}
theorem item_at (I:Inv X pins σ H s){vs:List V}{ds:List D}{us:List Value}(l:DpL X.K H vs ds)(r:Vals vs us)(ok:bW 38 ds=true){dy:D}{y:Value}{bs:List Addr}(oy:okD 38 dy=true)(ry:Reads s.heap y (toP dy) bs)(hu:X.A.units+64 < cLine)
    {m:Nat} {u:Value} (hm:us[m]? = some u):∃ d,ds[m]? = some d∧lT s.heap (toP dy) u=eqD d dy∧SeqAt.EqAt X.A.in1 s u y (lT s.heap (toP dy) u):=by
  have hlt:m < vs.length:=by rw[r.length];exact (List.getElem?_eq_some_iff.mp hm).1
  obtain ⟨u',e1,rv⟩:=r.get (List.getElem?_eq_getElem hlt)
  rw[hm] at e1;cases e1
  obtain ⟨d,ed,pd⟩:=l.get' (List.getElem?_eq_getElem hlt)
  have od:=wq ok (List.mem_of_getElem? ed)
  obtain ⟨as,ra⟩:=cD I pd od rv
  obtain ⟨l1,d1⟩:=eQ 38 d od
  obtain ⟨l2,d2⟩:=eQ 38 dy oy
  have e:=CI (dx:=toP dy) ra l1
  refine ⟨d,ed,by rw[e,ke 38 38 d dy od oy],?_⟩
  rw[e]
  exact SeqAt.eqAt_reads _ _ _ s _ _ _ _ ra ry l1 l2 (by have:=Nat.min_le_left (toP d).depth (toP dy).depth;rw[Around.in1_units];omega)
end
def wR (ds:List D)(x:D):Option Nat:=ds.findIdx? fun y=>eqD y x
section
variable {X:Cx} {o i a b c e value:Expr} {To Ti Ta Tb Te:ETr} {pos tpos apos cpos:Pos}
def inG (x:D)(ds:List D):Bool:=ds.any fun y=>eqD y x
def Fd (K:PySem.W.Frag)(neg:Bool):L2.R2:=fun x y H Q=>∃ p xs ds dx,y=.ref p∧(SqL K H p xs∨SqT K H p xs)∧DpL K H xs ds∧Dp K H x dx∧bW 38 ds=true∧okD 38 dx=true∧Q (.bl (if neg then !inG dx ds else inG dx ds)) H
theorem Av {pins:List (Addr×Obj)}{σ:L2.St}{H:Hp}{s:Shared}(I:Inv X pins σ H s)(hu:X.A.units+64 < cLine){vs:List V}{ds:List D}{us:List Value}(l:DpL X.K H vs ds)(r:Vals vs us)(ok:bW 38 ds=true){dy:D}{y:Value}{bs:List Addr}(oy:okD 38 dy=true)(ry:Reads s.heap y (toP dy) bs) :
    (∀ w,w∈us.toArray→SeqAt.EqAt X.A.in1 s w y (lT s.heap (toP dy) w))∧us.toArray.any (lT s.heap (toP dy))=inG dy ds:=by
  have hl:ds.length=us.length:=by rw[← l.length,r.length]
  constructor
  · intro w hw
    obtain ⟨m,hm,rfl⟩:=Array.mem_iff_getElem.mp hw
    obtain ⟨d,_,_,e3⟩:=item_at I l r ok oy ry hu (m:=m) (u:=us.toArray[m]) (by simp at hm ⊢)
    exact e3
  · unfold inG
    rw[show us.toArray.any (lT s.heap (toP dy))=us.any (lT s.heap (toP dy)) by simp]
    rw[Bool.eq_iff_iff,List.any_eq_true,List.any_eq_true]
    constructor
    · rintro ⟨w,hw,e⟩
      obtain ⟨m,hm,rfl⟩:=List.mem_iff_getElem.mp hw
      obtain ⟨d,e1,e2,_⟩:=item_at I l r ok oy ry hu (m:=m) (u:=us[m]) (by simp)
      exact ⟨d,List.mem_of_getElem? e1,by rw[← e2];exact e⟩
    · rintro ⟨d,hd,e⟩
      obtain ⟨m,hm,rfl⟩:=List.mem_iff_getElem.mp hd
      obtain ⟨d',e1,e2,_⟩:=item_at I l r ok oy ry hu (m:=m) (u:=us[m]'(by omega)) (by simp)
      rw[List.getElem?_eq_getElem hm] at e1;cases e1
      exact ⟨us[m]'(by omega),List.getElem_mem _,by rw[e2];exact e⟩
theorem Fq (hu:X.A.units+64 < cLine):OpR X (compareOp .In) (Fd X.K false):=by
  intro pins s σ H x y v u Q I rx ry h
  obtain ⟨p,xs,ds,dx,rfl,hq,l,px,o1,o2,q⟩:=h
  cases (show u=Value.ref p from ry)
  obtain ⟨bs,rb⟩:=cD I px o2 rx
  rcases hq with hq | hq
  · obtain ⟨its,r,pl,hz⟩:=I.list hq
    obtain ⟨h1,h2⟩:=Av I hu l r o1 o2 rb
    exact SeqAt.in_listAt _ pl.isList h1 ⟨.bl _,H,I,rfl,by rw[h2];exact q⟩
  · obtain ⟨its,r,pl,hz⟩:=I.tuple hq
    obtain ⟨h1,h2⟩:=Av I hu l r o1 o2 rb
    exact SeqAt.in_tupleAt _ pl h1 ⟨.bl _,H,I,rfl,by rw[h2];exact q⟩
def KR (μ:Mu)(x:D)(f:List D→Prop):Prop:=match x with
  | .tup ds=>f ds
  | .ls ds=>f ds
  | .obj a=>kL μ a f
  | _=>False
def Ek (neg:Bool):DR2:=fun x y μ Q=>KR μ y fun ds=>(bW 38 ds=true∧okD 38 x=true)∧Q (.bl (if neg then !inG x ds else inG x ds)) μ
theorem DE {K:PySem.W.Frag}(neg:Bool):dj K (Fd K neg) (Ek neg):=fun H μ x y dx dy Q Q' m px py h k=>by
  cases py with
  | tup sq l=>exact ⟨_,_,_,dx,rfl,.inr sq,l,px,h.1.1,h.1.2,k _ H _ μ (.refl H) m (.bl _) h.2⟩
  | ls sq l=>exact ⟨_,_,_,dx,rfl,.inl sq.sq,l,px,h.1.1,h.1.2,k _ H _ μ (.refl H) m (.bl _) h.2⟩
  | obj q=>
    obtain ⟨ds,e0,h⟩:=ck (show kL μ q _ from h)
    obtain ⟨xs,ex,l⟩:=m q _ e0
    exact ⟨_,_,_,dx,rfl,.inl (SqL.of ex),l,px,h.1.1,h.1.2,k _ H _ μ (.refl H) m (.bl _) h.2⟩
  | _=>exact False.elim h
theorem FT (hu:X.A.units+64 < cLine)(ha:LE X a Ta)(hb:LE X b Tb)(hm:behindInMarks .In b=false:=by rfl):LT X (.Compare a [.In] [b] pos) (TB (ak (Ek false) Ta Tb)):=fX (Fq hu) (DE false) ha hb hm
end
end
section
open PySem PySem.Spec PyProof.Rows L2
def Gz (K:PySem.W.Frag)(n:Nat)(t:TGs)(is:List Nat):Prop:=∀ σ H ρ μ vs ds (k:ST→Mu→Prop) (k':L2.St→Hp→Prop),Rl K σ H ρ μ→DpL K H vs ds→ds.length=is.length→k (fE ρ is ds) μ→EL K n σ H k k'→t vs σ H k'
structure DF (X:Cx) (n:Nat) (es:List Expr) (is:List Nat):Prop where
  ex:∃ t,PGs X es t∧Gz X.K n t is
section
variable {X:Cx} {e tg:Expr} {es:List Expr} {is:List Nat} {pos:Pos} {x:Str} {n:Nat}
theorem kR:DF X n [] []:=⟨_,vD,fun σ H ρ μ vs ds k k' rl l hl h q=>by
  cases ds with
  | nil=>cases l;exact ⟨rfl,q _ _ _ _ (.refl H) rl ⟨rfl,fun _ _=>rfl⟩ h⟩
  | cons=>cases hl⟩
theorem cT (i:Nat)(hN:X.N.Nodup)(h2:DF X n es is)(hin:i < n:=by decide)(hi:X.N[i]? = some x:=by rfl)(hx:Loc X.env.scope x:=by first | exact Or.inl rfl | exact Or.inr rfl)(hf:X.fn x=true∨X.env.scope.names.lookup x=some .local:=by first | exact .inr rfl | exact .inl rfl | assumption)
    (hs:(assignEach (.Name x pos::es) X.env).map (·.2)=assign (.Name x pos) X.env::(assignEach es X.env).map (·.2):=by rfl):DF X n (.Name x pos::es) (i::is):=by
  obtain ⟨t,pt,st⟩:=h2.ex
  refine ⟨_,sN (ki hN hi hx hf) pt hs,fun σ H ρ μ vs ds k k' rl l hl h q=>?_⟩
  cases l with
  | nil=>cases hl
  | @cons v d vs ds p l=>
    refine ⟨v,vs,rfl,st _ H _ μ vs ds k k' (rl.set p i) l (by simpa using hl) h fun σ' H' ρ' μ' t' r' hk kk=>q σ' H' ρ' μ' t' r' ⟨?_,fun j hj=>?_⟩ kk⟩
    · rw[hk.1];simp
    · rw[hk.2 j hj,List.getElem?_set_ne (by omega)]
theorem pz {k:Nat}(hc:X.calm=true)(h:DF X n es is)(hn:(assignEach es X.env).length=is.length:=by rfl)(hst:(assignEach es X.env).findIdx? (·.1)=none:=by rfl):LGc X n (.Tuple es k pos) (fm is):=by
  obtain ⟨t,pt,st⟩:=h.ex
  refine ⟨fun pins s σ H v u k' I r ⟨ρ,μ,d,k,rl,p,h,post⟩=>BC hc pt hn hst pins s σ H v u k' I r ?_⟩
  cases p with
  | @tup a xs ds sq l=>exact ⟨a,xs,rfl,sq,by rw[l.length];exact h.1,st σ H ρ μ xs ds k k' rl l h.1 h.2 post⟩
  | _=>exact False.elim h
end
section
variable {X:Cx} {o i a b c e value:Expr} {To Ti Ta Tb Te:ETr} {pos tpos apos cpos:Pos}
end
section
variable {P:Program} {w:World} {K:PySem.W.Frag} {mg:Str→Option Value} {base:Heap}
end
end
section
open PySem PySem.Spec PyProof.Rows L2
section
variable {X:Cx} {tg a ea eb:Expr} {Ta:ETr} {es:List Expr} {ek:Nat} {ep p pos:Pos}
def Ky (K:PySem.W.Frag)(tl:TE):TI:=fun σ H R=>tl σ H fun x H1=>∃ q,x=.ref q∧(((∃ xs,SqL K H1 q xs)∧R (Itl K q) H1)∨((∃ xs,SqT K H1 q xs)∧R (Itt K q) H1))
theorem Gg {tl:TE}(hl:PE X a tl):PI X tg a (Ky X.K tl):=by
  intro pins s σ H R I h
  refine thn (hl pins s σ H _ I h) fun v s1 ⟨x,H1,I1,r1,q,ex,qq⟩=>?_
  subst ex
  cases (show v=Value.ref q from r1)
  have fp:∀ b∈[s1.heap.objs.size],_:=fun b hb=>by
    have e:b=s1.heap.objs.size:=by simpa using hb
    subst e
    exact I1.DN (Nat.le_refl _) (I1.hok.fresh (Nat.le_refl _))
  rcases qq with ⟨⟨xs,sq⟩,qq⟩ | ⟨⟨xs,sq⟩,qq⟩
  · obtain ⟨its,rv,pl,hz⟩:=I1.list sq
    exact wpAny_pyIter_list pl.isList ⟨s1.heap.objs.size,[s1.heap.objs.size],_,_,H1,rfl,I1.kept (t':=s1.toks) (fun b o e=>Heap.get?_push_of_some _ e),xK q _,⟨_,Heap.get?_push_size _ rfl,rfl,rfl⟩,fp,qq⟩
  · obtain ⟨its,rv,pl,hz⟩:=I1.tuple sq
    exact wpAny_pyIter_tuple (show s1.heap.IsTuple q its.toArray from pl) ⟨s1.heap.objs.size,[s1.heap.objs.size],_,_,H1,rfl,I1.kept (t':=s1.toks) (fun b o e=>Heap.get?_push_of_some _ e),uN q _,⟨_,Heap.get?_push_size _ rfl,rfl,rfl⟩,fp,qq⟩
theorem c8 (ha:LE X a Ta):LI X tg a (f7 Ta):=by
  obtain ⟨ta,pa,sa⟩:=ha.ex
  refine ⟨_,Gg pa,fun σ H ρ μ Q R rl h k=>sa σ H ρ μ _ _ rl h fun x H1 d μ1 t1 m1 p1 h1=>?_⟩
  cases p1 with
  | @tup p xs ds q l=>exact ⟨p,rfl,.inr ⟨⟨xs,q⟩,k _ H1 ds μ1 t1 m1 (yN q l) h1⟩⟩
  | @ls p xs ds q l=>exact ⟨p,rfl,.inl ⟨⟨xs,q.sq⟩,k _ H1 ds μ1 t1 m1 (C8 q l) h1⟩⟩
  | _=>exact False.elim h1
def Ji (K:PySem.W.Frag)(t:TA):TI:=fun σ H R=>t σ H fun vs H1=>∃ (ta tb:Bool) (a b:Addr),vs=[.ref a,.ref b]∧(∃ xs,Sq ta K H1 a xs)∧(∃ ys,Sq tb K H1 b ys)∧R (Itz ta tb K a b) H1
theorem D1 {t:TA}(hg:Gl X "zip")(hm:X.mg "zip" = none)(ha:PA X [ea,eb] t)(hs:starEach [ea,eb] X.env=[(false,eval ea X.env),(false,eval eb X.env)]:=by rfl)(hs2:starEach [eb] X.env=[(false,eval eb X.env)]:=by rfl) :
    PI X (.Tuple es ek ep) (.Call (.Name "zip" p) [ea,eb] [] pos) (Ji X.K t):=by
  intro pins s σ H R I h
  refine Call_ (gL I hg hm boot_zip (PyProof.Rows.callWith_type1 (thn (ha pos pins s σ H _ I h) fun us s1 ⟨vs,H1,I1,r1,ta,tb,a,b,e,⟨xs,qa⟩,⟨ys,qb⟩,q⟩=>?_) (by rw[hs,hs2]) (by rw[hs2];rfl)))
  subst e
  cases r1 with | cons r rr=>cases rr with | cons r' rr=>
  cases rr
  cases (show _=Value.ref a from r)
  cases (show _=Value.ref b from r')
  obtain ⟨ia,ra,sa⟩:=Inv.sq I1 qa
  obtain ⟨ib,rb,sb⟩:=Inv.sq I1 qb
  have alt:a < s1.heap.objs.size:=by cases ta<;>(obtain ⟨o,e,_⟩:=sa;exact Heap.lt_size e)
  have blt:b < s1.heap.objs.size:=by cases tb<;>(obtain ⟨o,e,_⟩:=sb;exact Heap.lt_size e)
  refine xQ sa sb fun g S kp=>wpAny_pyIter_zip S.zz ⟨s1.heap.objs.size+4,[s1.heap.objs.size+4,s1.heap.objs.size+2,s1.heap.objs.size+3,s1.heap.objs.size,s1.heap.objs.size+1],_,_,H1,rfl,I1.kept (t':=s1.toks) kp,zR (IX _ _ _ alt blt),S,fun c hc=>?_,q⟩
  exact I1.DN (EW _ _ hc) (I1.hok.fresh (EW _ _ hc))
def rM (t:ATr):ATr:=fun ρ μ Q=>t ρ μ fun vs μ1=>k2 vs fun x y=>kS x fun ds=>kS y fun es=>Q (List.zipWith (fun d e=>.tup [d,e]) ds es) μ1
theorem tJ {K:PySem.W.Frag}{H:Hp}{v:V}{x:D}{f:List D→Prop}(p:Dp K H v x)(h:kS x f):∃ (tp:Bool) (a:Addr) (xs:List V) (ds:List D),v=.ref a∧Sq tp K H a xs∧DpL K H xs ds∧kQ tp x f:=by
  cases p with
  | @tup a xs ds q l=>exact ⟨true,a,xs,ds,rfl,q,l,h⟩
  | @ls a xs ds q l=>exact ⟨false,a,xs,ds,rfl,q,l,h⟩
  | _=>exact False.elim h
theorem oV {At:ATr}(hg:Gl X "zip")(hm:X.mg "zip" = none)(ha:LA X [ea,eb] At)
    (hs:starEach [ea,eb] X.env=[(false,eval ea X.env),(false,eval eb X.env)]:=by rfl) (hs2:starEach [eb] X.env=[(false,eval eb X.env)]:=by rfl) :
    LI X (.Tuple es ek ep) (.Call (.Name "zip" p) [ea,eb] [] pos) (rM At):=by
  obtain ⟨t,pt,st⟩:=ha.ex
  refine ⟨_,D1 hg hm pt hs hs2,fun σ H ρ μ Q R rl h k=>st σ H ρ μ _ _ rl h fun vs H1 ds μ1 t1 m1 p1 h1=>?_⟩
  unfold L3.k2 at h1
  split at h1
  case h_2=>exact False.elim h1
  cases p1 with | cons pa p2=>cases p2 with | cons pb p3=>
  cases p3
  obtain ⟨ta,a,xs,dx,rfl,qa,la,h2⟩:=tJ pa h1
  obtain ⟨a',xs',dx',ea',qa',la',h2⟩:=uZ pa h2
  cases ea'
  obtain ⟨tb,b,ys,dy,rfl,qb,lb,h3⟩:=tJ pb h2
  obtain ⟨b',ys',dy',eb',qb',lb',h3⟩:=uZ pb h3
  cases eb'
  refine ⟨ta,tb,a,b,rfl,⟨xs',qa'⟩,⟨ys',qb'⟩,k _ H1 _ μ1 t1 m1 ⟨fun i H' tk hi=>?_,fun i H' v H'' tk hi yv=>?_,fun i H' tk hi=>?_⟩ h3⟩
  · have l1:=la'.length
    have l2:=lb'.length
    rw[List.length_zipWith] at hi
    exact ⟨xs',ys',xs'[i],ys'[i],tk.sq qa',tk.sq qb',by simp[show i < xs'.length by omega],by simp[show i < ys'.length by omega]⟩
  · obtain ⟨x,y,q,fx,fy,rfl,fr,rfl⟩:=yv
    obtain ⟨d,ed,pd⟩:=la'.get' (fx _ (tk.sq qa'))
    obtain ⟨e,ee,pe⟩:=lb'.get' (fy _ (tk.sq qb'))
    have tn:Tk H' (L2.upd H' q (.tup [x,y])):=.new fr
    exact ⟨tn,⟨.tup [d,e],by simp[List.getElem?_zipWith,ed,ee],.tup (SqT.of aF) (.cons ((pd.mono tk).mono tn) (.cons ((pe.mono tk).mono tn) .nil))⟩,fun μ' m'=>cm m' fr⟩
  · have l1:=la'.length
    have l2:=lb'.length
    rw[List.length_zipWith] at hi
    exact ⟨xs',ys',tk.sq qa',tk.sq qb',by omega⟩
variable {i o:Expr} {Ti To:ETr}
end
end
section
open PySem PySem.Spec PyProof.Rows L2
def ltS (x y:Str):Bool:=decide (x.cps.toList < y.cps.toList)
theorem iO:∀ {us:List Value} {ss:List Str},StrsAre us ss→Vals (ss.map V.str) us
  | _,_,.nil=>.nil
  | _,_,.cons n t h=>.cons ⟨t,rfl⟩ (iO h)
theorem we:∀ {us:List Value} {ss:List Str},Vals (ss.map V.str) us→StrsAre us ss
  | _,[],h=>by cases h;exact .nil
  | _,s::r,h=>by
    cases h with
    | cons q h=>obtain ⟨t,rfl⟩:=(show ∃ t,_=Value.str s t from q);exact .cons s t (we h)
def Gm (K:PySem.W.Frag):List V→Hp→VK→Prop:=fun xs H Q=>∃ (p:Addr) (ss:List Str),xs=[.ref p]∧SqL K H p (ss.map V.str)∧ss.length < 64∧∀ ss':List Str,ss'.Perm ss→ss'.Pairwise (fun a b=>ltS b a=false)→∀ z,H z=none→Q (.ref z) (L2.upd H z (.lst (ss'.map V.str)))
theorem xm:∀ (p:Str) (l:List Str),risingS p l=true→(p::l).Pairwise (fun a b=>ltS b a=false):=by
  have tr:∀ a b c:Str,ltS b a=false→ltS c b=false→ltS c a=false:=by
    intro a b c h1 h2
    unfold ltS at *
    rw[decide_eq_false_iff_not,List.not_lt] at *
    exact List.le_trans h1 h2
  intro p l
  induction l generalizing p with
  | nil=>intro _;exact List.pairwise_singleton _ _
  | cons x r ih=>
    intro h
    have h':ltCps x.cps.toList p.cps.toList=false∧risingS x r=true:=by
      have:(!ltCps x.cps.toList p.cps.toList&&risingS x r)=true:=h
      simpa using this
    have hx:=ih x h'.2
    have hpx:ltS x p=false:=by unfold ltS;rw[← ltCps_eq];exact h'.1
    refine List.pairwise_cons.mpr ⟨fun y hy=>?_,hx⟩
    rcases List.mem_cons.mp hy with rfl | hy
    · exact hpx
    · exact tr p x y hpx ((List.pairwise_cons.mp hx).1 y hy)
theorem xw:∀ (l:List Str),sortedS l=true→l.Pairwise (fun a b=>ltS b a=false)
  | [],_=>.nil
  | p::l,h=>xm p l h
theorem vd {X:Cx}:bG X (.builtin "sorted") (Gm X.K):=fun pins s σ H xs us Q I rx ⟨p,ss,e1,sq,hl,q⟩=>by
  subst e1
  obtain ⟨u,rfl,ru⟩:=vals1 rx
  cases (show u=Value.ref p from ru)
  obtain ⟨its,rv,pl,hz⟩:=I.list sq
  have hi:StrsAre its ss:=we rv
  have hlen:its.length < 64:=by have:=rv.length;simp at this;omega
  refine sorted_strs pl.isList hi hlen fun out ss' a1 a2 a3=>?_
  obtain ⟨n,en⟩:=sortedAll_at s.heap its out
  refine ⟨.ref _,_,I.laid (t':=s.toks) (o:=.lst (ss'.map V.str)) (fun b o e=>sortedAll_old e) (Nat.le_succ _) ?_,rfl,q ss' a2 (xw _ a3) _ (I.hok.fresh (Nat.le_succ _))⟩
  have z1:ss'.length=ss.length:=a2.length_eq
  exact ⟨by rw[List.length_map,z1];exact Nat.le_of_lt (Nat.lt_of_lt_of_le hl (by decide)),out.toList,n,iO a1,by simpa[seqObj] using en⟩
def tf:FSp:=fun ds μ Q=>match ds with
  | [.ls xs]=>∃ ss:List Str,(xs=ss.map .str∧ss.length < 64)∧∀ ss':List Str,ss'.Perm ss→ss'.Pairwise (fun a b=>ltS b a=false)→Q (.ls (ss'.map .str)) μ
  | _=>False
theorem DpL.strs {K:PySem.W.Frag}{H:Hp}:∀ ss:List Str,DpL K H (ss.map V.str) (ss.map D.str)
  | []=>.nil
  | s::r=>.cons (.str s) (DpL.strs r)
theorem DpL.iO {K:PySem.W.Frag}{H:Hp}:∀ {xs:List V} {ss:List Str},DpL K H xs (ss.map .str)→xs=ss.map V.str
  | _,[],.nil=>rfl
  | _,s::r,.cons h l=>by cases h;rw[DpL.iO l];rfl
section
variable {X:Cx} {e a b:Expr} {x:Str} {p pos:Pos} {At:ATr} {Ta Tb:ETr}
theorem BI (hg:Gl X x)(hm:X.mg x=none)(hv:bootBuiltins x=some (.builtin "sorted"))(ha:LA X [e] At)(hn:x ≠ "__name__" := by decide)(hdb:(x == ("__debug__" : Str))=false:=by decide)
    (h1:starEach [e] X.env=(false,eval e X.env)::starEach [] X.env:=by rfl) (h2:(backTo pos (starEach [] X.env)).any (·.1)=false:=by rfl):LE X (.Call (.Name x p) [e] [] pos) (aq tf At):=by
  obtain ⟨ta,pa,sa⟩:=ha.ex
  refine ⟨_,lA (lV vd hg hm hv pa hn hdb h1 h2),fun σ H ρ μ Q Q' rl h k=>sa σ H ρ μ _ _ rl h fun xs H1 ds μ1 t1 m1 p1 h1=>?_⟩
  unfold tf at h1
  split at h1
  · obtain ⟨ss,⟨rfl,hl⟩,h2⟩:=h1
    cases p1 with | cons p1 p2=>
    cases p2
    cases p1 with
    | @ls a ys _ q l=>
      cases DpL.iO l
      refine ⟨a,ss,rfl,q.sq,hl,fun ss' a2 a3 z hz=>⟨z,_,rfl,aF,fun o=>?_⟩⟩
      have e:L2.upd (L2.upd H1 z (.lst (ss'.map V.str))) z (.frz o (.lst (ss'.map V.str)))=L2.upd H1 z (.frz o (.lst (ss'.map V.str))):=pw
      rw[e]
      exact k _ _ _ μ1 (t1.trans (.new hz)) (cm m1 hz) (.ls (.inl ⟨o,aF⟩) (.strs ss')) (h2 ss' a2 a3)
  · exact False.elim h1
end
end
section
open PySem PySem.Spec PyProof.Rows L2
end
theorem FW (c b:Bool)(μ:Mu)(Q:DK):Ck false (.bl c) (.bl b) μ Q=Q (.bl (c == b)) μ:=propext Iff.rfl
theorem EA (a b:ETr)(ρ:ST)(μ:Mu)(Q:DK):yG a b ρ μ Q=a ρ μ fun x μ1=>b ρ μ1 fun y μ2=>kObj x fun a=>kD μ2 a fun kvs=>yr y fun k=>kO (cJ kvs k) fun d=>Q d μ2:=propext Iff.rfl
theorem Dm (a b e:ETr)(nx:ST→Mu→Prop)(rt:DK)(bk ct:ST→Mu→Prop)(ρ:ST)(μ:Mu):zK a b e ⟨nx,rt,bk,ct⟩ ρ μ=e ρ μ fun v μ1=>a ρ μ1 fun x μ2=>b ρ μ2 fun y μ3=>kObj x fun a=>kD μ3 a fun kvs=>yr y fun k=>kvs.length < 1000000∧nx ρ (up μ3 a (.dct (putD kvs k v))):=propext Iff.rfl
theorem FO (f:Int→Int→Int)(i:Nat)(e:ETr)(nx:ST→Mu→Prop)(rt:DK)(bk ct:ST→Mu→Prop)(ρ:ST)(μ:Mu):Bm f i e ⟨nx,rt,bk,ct⟩ ρ μ=ag i ρ μ fun d _=>kI d fun m=>e ρ μ fun w μ1=>kI w fun n=>aw i (.int (f m n)) ρ μ1 nx:=propext Iff.rfl
theorem Hn (a b:ETr)(ρ:ST)(μ:Mu)(Q:DK):Hv a b ρ μ Q=a ρ μ fun x μ1=>kObj x fun a=>kL μ1 a fun _=>b ρ μ1 fun y μ2=>kI y fun j=>(-9223372036854775808≤j∧j < 9223372036854775808)∧kL μ2 a fun ds=>kN (L2.ixN ds.length j) fun k=>kO ds[k]? fun d=>Q d (up μ2 a (.lst (ds.eraseIdx k))):=propext Iff.rfl
theorem Gw (a:ETr)(ρ:ST)(μ:Mu)(Q:List D→Mu→Prop):f7 a ρ μ Q=a ρ μ fun x μ1=>kS x fun ds=>Q ds μ1:=propext Iff.rfl
theorem Ea (t:ATr)(ρ:ST)(μ:Mu)(Q:List D→Mu→Prop):rM t ρ μ Q=t ρ μ fun vs μ1=>k2 vs fun x y=>kS x fun ds=>kS y fun es=>Q (List.zipWith (fun d e=>.tup [d,e]) ds es) μ1:=propext Iff.rfl
theorem Ia (n:Bool)(x:D)(ds:List D)(μ:Mu)(Q:DK):Ek n x (.tup ds) μ Q=((bW 38 ds=true∧okD 38 x=true)∧Q (.bl (if n then !inG x ds else inG x ds)) μ):=propext Iff.rfl
theorem HL (s:Str)(f:L2.Key→Prop):yr (.str s) f=f (.inr s):=propext Iff.rfl
theorem IU {μ:Mu}{a:Addr}{ds:List (L2.Key×D)}(h:μ a=some (.dct ds))(f):kD μ a f=f ds:=by unfold kD;rw[h]
theorem Fb {μ:Mu}{a:Addr}{ds:List (L2.Key×D)}{f:List (L2.Key×D)→Prop}(e:μ a=some (.dct ds))(h:f ds):kD μ a f:=by rw[IU e];exact h
theorem C6 (xs:List D)(μ:Mu)(Q:DK):cE vH [.ls xs] μ Q=(∃ kvs:List (L2.Key×D),xs=kvs.map ue∧kvs.length≤1000000∧∀ p,μ p=none→Q (.obj p) (up μ p (.dct (fz [] kvs)))):=propext Iff.rfl
theorem IsPart.of_eq {a b c d x y:Int}(h:IsPart a b x y)(hb:0 < b)(hd:0 < d)(e:a*d=c*b):IsPart c d x y:=by
  have xd:x*d=c*y:=by
    refine Int.eq_of_mul_eq_mul_right (a:=b) (by omega) ?_
    calc x*d*b=(x*b)*d:=by ac_rfl
      _=(a*y)*d:=by rw[h.e]
      _=(a*d)*y:=by ac_rfl
      _=(c*b)*y:=by rw[e]
      _=c*y*b:=by ac_rfl
  have y0:=h.q0
  have dx:x ∣ c:=by
    have:x ∣ y*c:=⟨d,by rw[Int.mul_comm y c];exact xd.symm⟩
    have h':=Int.dvd_gcd_mul_iff_dvd_mul.mpr this
    rw[h.g] at h'
    simpa using h'
  have dy:y ∣ d:=by
    have:y ∣ x*d:=⟨c,by rw[xd,Int.mul_comm]⟩
    have h':=Int.dvd_gcd_mul_iff_dvd_mul.mpr this
    rw[Int.gcd_comm,h.g] at h'
    simpa using h'
  refine ⟨h.q0,h.g,xd,?_,Nat.le_of_dvd (by omega) (Int.natAbs_dvd_natAbs.mpr dy)⟩
  by_cases hc:c=0
  · subst hc
    have:x=0:=by
      rcases Int.mul_eq_zero.mp (show x*d=0 by rw[xd,Int.zero_mul]) with z | z
      · exact z
      · omega
    rw[this];exact Nat.le_refl _
  · exact Nat.le_of_dvd (by omega) (Int.natAbs_dvd_natAbs.mpr dx)
structure Vl (d:D) (a b:Int):Prop where
  ex:∃ p q,d=fr p q∧IsPart a b p q
  b0:0 < b
theorem Vl.of_eq {d:D}{a b a' b':Int}(h:Vl d a b)(hb:0 < b')(e:a*b'=a'*b):Vl d a' b':=by
  obtain ⟨⟨p,q,rfl,P⟩,b0⟩:=h
  exact ⟨⟨p,q,rfl,P.of_eq b0 hb e⟩,hb⟩
theorem HB {lo hi p q:Int}(h:FrB lo hi p q):Vl (fr p q) p q:=⟨⟨p,q,rfl,h.q0,h.g,rfl,Nat.le_refl _,Nat.le_refl _⟩,h.q0⟩
theorem pA {a b x y:Int}(h:IsPart a b x y)(b0:0 < b):Vl (fr x y) a b:=⟨⟨x,y,rfl,h⟩,b0⟩
theorem IY {p q a b:Int}(g:Int)(q0:0 < q)(b0:0 < b)(e:p*b=a*q):p*g / q=a*g / b:=by
  calc p*g / q=(p*g)*b / (q*b):=(Int.mul_ediv_mul_of_pos_left _ _ b0).symm
    _=(a*g)*q / (b*q):=by rw[show p*g*b=(p*b)*g by ac_rfl,e,Int.mul_comm q b,show a*q*g=a*g*q by ac_rfl]
    _=a*g / b:=Int.mul_ediv_mul_of_pos_left _ _ q0
theorem zW {p q a b:Int}(q0:0 < q)(b0:0 < b)(e:p*b=a*q):p / q=a / b:=by
  have:=IY 1 q0 b0 e
  simpa using this
theorem ID {p q r s a b c e:Int}(q0:0 < q)(s0:0 < s)(b0:0 < b)(e0:0 < e)(h1:p*b=a*q)(h2:r*e=c*s):(p*s < r*q)↔(a*e < c*b):=by
  have k1:(p*s)*(b*e)=(a*e)*(q*s):=by
    calc (p*s)*(b*e)=(p*b)*(s*e):=by ac_rfl
      _=(a*q)*(s*e):=by rw[h1]
      _=(a*e)*(q*s):=by ac_rfl
  have k2:(r*q)*(b*e)=(c*b)*(q*s):=by
    calc (r*q)*(b*e)=(r*e)*(q*b):=by ac_rfl
      _=(c*s)*(q*b):=by rw[h2]
      _=(c*b)*(q*s):=by ac_rfl
  have be:0 < b*e:=Int.mul_pos b0 e0
  have qs:0 < q*s:=Int.mul_pos q0 s0
  constructor
  · intro h
    have:=Int.mul_lt_mul_of_pos_right h be
    rw[k1,k2] at this
    exact Int.lt_of_mul_lt_mul_right this (Int.le_of_lt qs)
  · intro h
    have:=Int.mul_lt_mul_of_pos_right h qs
    rw[← k1,← k2] at this
    exact Int.lt_of_mul_lt_mul_right this (Int.le_of_lt be)
def Le (a A:Int):Prop:=-A≤a∧a≤A
theorem Le.mono {a A B:Int}(h:Le a A)(hb:A≤B):Le a B:=⟨by have:=h.1;omega,by have:=h.2;omega⟩
theorem Le.of {a A:Int}(h0:0≤a)(h1:a≤A):Le a A:=⟨by omega,h1⟩
theorem Le.add {a b A B:Int}(h:Le a A)(k:Le b B):Le (a+b) (A+B):=⟨by have:=h.1;have:=k.1;omega,by have:=h.2;have:=k.2;omega⟩
theorem Le.sub {a b A B:Int}(h:Le a A)(k:Le b B):Le (a - b) (A+B):=⟨by have:=h.1;have:=k.2;omega,by have:=h.2;have:=k.1;omega⟩
theorem Le.neg {a A:Int}(h:Le a A):Le (-a) A:=⟨by have:=h.2;omega,by have:=h.1;omega⟩
theorem Le.abs {a A:Int}(h:Le a A):(a.natAbs:Int)≤A:=by have:=h.1;have:=h.2;omega
theorem Le.zI {a A:Int}(h:(a.natAbs:Int)≤A):Le a A:=⟨by omega,by omega⟩
theorem Le.mul {a b A B:Int}(h:Le a A)(k:Le b B):Le (a*b) (A*B):=by
  refine .zI ?_
  rw[Int.natAbs_mul,Int.natCast_mul]
  have a0:(0:Int)≤(a.natAbs:Int):=Int.natCast_nonneg _
  have b0:(0:Int)≤(b.natAbs:Int):=Int.natCast_nonneg _
  exact Int.mul_le_mul h.abs k.abs b0 (Int.le_trans a0 h.abs)
abbrev Bd (a:Int):Prop:=Le a 1000000000000000000000000000000
theorem Bd.m {a:Int}(h:Bd a):cg a:=by have:=h.1;have:=h.2;unfold cg;omega
theorem Bd.mm {a b:Int}(h:Bd a)(k:Bd b):cg (a*b):=by
  have:=(h.mul k).1;have:=(h.mul k).2
  unfold cg;omega
theorem Bd.mul {a b:Int}(h:Bd a)(k:Bd b):MulOk a b:=.inr ⟨h.m,k.m⟩
theorem IsPart.bp {a b x y:Int}(h:IsPart a b x y)(ha:Bd a):Bd x:=.zI (by have:=h.pa;have:=ha.abs;omega)
theorem IsPart.bq {a b x y:Int}(h:IsPart a b x y)(hb:Bd b):Bd y:=.zI (by have:=h.qb;have:=hb.abs;omega)
inductive Wd | jI | step | kZ | AR | calm
  deriving DecidableEq
structure RN where
  wd:Wd
  p:Int
  q:Int
  x:Int
  y:Int
  a:Int
  b:Int
  l:Int
  h:Int
  r:Int
  s:Int
def Wd.str:Wd→Str
  | .jI=>Str.ofString "still"
  | .step=>Str.ofString "step"
  | .kZ=>Str.ofString "swell"
  | .AR=>Str.ofString "heed"
  | .calm=>Str.ofString "calm"
def RN.toD (R:RN):D:=match R.wd with
  | .jI=>.tup [.str "still", fr R.p R.q]
  | .step=>.tup [.str "step", fr R.p R.q,fr R.x R.y,fr R.a R.b,fr R.r R.s]
  | .kZ=>.tup [.str "swell", fr R.p R.q,fr R.x R.y,fr R.a R.b,fr R.r R.s]
  | .AR=>.tup [.str "heed", fr R.p R.q,fr R.x R.y,fr R.a R.b,fr R.r R.s]
  | .calm=>.tup [.str "calm", fr R.p R.q,fr R.x R.y,.int R.l,.int R.h,fr R.r R.s]
structure RN.Ok (R:RN):Prop where
  w:FrB 1 60 R.p R.q
  t:FrB 1 60 R.r R.s
  wt:R.p*R.s≤R.r*R.q
  u:FrA 0 60 R.x R.y
  u1:R.wd=.kZ→R.y < R.x
  g:FrA 0 1 R.a R.b
  d1:R.wd=.step∨R.wd=.kZ→R.a < R.b
  l0:0≤R.l
  lh:R.l≤R.h
  h1:R.h≤60
  st:R.wd=.jI→R.r=R.p∧R.s=R.q
theorem FR {lo hi:Int}(h0:lo < 1)(h1:1≤hi):FrA lo hi 1 1:=⟨⟨by decide,by decide,by decide,by omega,by omega⟩,by omega⟩
theorem EU {p q:Int}(h:FrL 1 p q):FrA 0 1 p q:=⟨h.toFrB,by have:=h.ab;omega⟩
theorem uX.rn {w:Str}{d:D}(h:uX w d):∃ R:RN,R.Ok∧d=R.toD∧R.wd.str=w:=by
  cases h with
  | @jI p q w=>exact ⟨⟨.jI,p,q,1,1,1,1,0,0,p,q⟩,⟨w,w,Int.le_refl _,FR (by decide) (by decide),nofun,FR (by decide) (by decide),(fun z=>by rcases z with z | z<;>cases z),Int.le_refl 0,Int.le_refl 0,(show (0:Int)≤60 by decide),fun _=>⟨rfl,rfl⟩⟩,rfl,rfl⟩
  | @calm p q r s x y l h w t wt u l0 lh h1=>exact ⟨⟨.calm,p,q,x,y,1,1,l,h,r,s⟩,⟨w,t,wt,u,nofun,FR (by decide) (by decide),(fun z=>by rcases z with z | z<;>cases z),l0,lh,h1,nofun⟩,rfl,rfl⟩
  | @AR p q r s x y a b w t wt u g=>exact ⟨⟨.AR,p,q,x,y,a,b,0,0,r,s⟩,⟨w,t,wt,u,nofun,g,(fun z=>by rcases z with z | z<;>cases z),Int.le_refl 0,Int.le_refl 0,(show (0:Int)≤60 by decide),nofun⟩,rfl,rfl⟩
  | @step p q r s x y a b w t wt u g=>
    have d1:a < b:=by have:=g.be;omega
    exact ⟨⟨.step,p,q,x,y,a,b,0,0,r,s⟩,⟨w,t,wt,u,nofun,EU g,fun _=>d1,Int.le_refl 0,Int.le_refl 0,(show (0:Int)≤60 by decide),nofun⟩,rfl,rfl⟩
  | @kZ p q r s x y a b w t wt u g=>
    have d1:a < b:=by have:=g.be;omega
    have y0:=u.q0
    have u2:=u.ab
    have u3:FrA 0 60 x y:=⟨⟨u.q0,u.q1,u.g,by omega,u.le⟩,by omega⟩
    exact ⟨⟨.kZ,p,q,x,y,a,b,0,0,r,s⟩,⟨w,t,wt,u3,fun _=>(by omega:y < x),EU g,fun _=>d1,Int.le_refl 0,Int.le_refl 0,(show (0:Int)≤60 by decide),nofun⟩,rfl,rfl⟩
structure Hd where
  good:Int
  mark:Int
  z9:Int
  wt:Int
structure Hd.Ok (h:Hd):Prop where
  g0:0≤h.good
  g1:h.good≤1000000
  m0:0≤h.mark
  m1:h.mark≤1000000
  l0:0≤h.z9
  l1:h.z9≤1000000
  w0:0≤h.wt
def Hd.toD (h:Hd):D:=.tup [.int h.good,.int h.mark,.int h.z9,.int h.wt]
def Hd.bad (h:Hd):Int:=h.mark+h.z9
def Hd.many (h:Hd):Int:=h.good+h.bad
def RN.idle (R:RN)(h:Hd):Prop:=R.wd=.jI∨h.good+h.mark+h.z9=0
instance (R:RN) (h:Hd):Decidable (R.idle h):=by unfold RN.idle;infer_instance
theorem Le.div {a b A:Int}(h:Le a A)(hb:0 < b)(hA:0≤A):Le (a / b) A:=by
  constructor
  · rw[Int.le_ediv_iff_mul_le hb]
    have:=h.1
    have:A*1≤A*b:=Int.mul_le_mul_of_nonneg_left (by omega) hA
    rw[Int.neg_mul];omega
  · refine Int.ediv_le_of_le_mul hb ?_
    have:=h.2
    have:A*1≤A*b:=Int.mul_le_mul_of_nonneg_left (by omega) hA
    omega
local macro_rules | `(tactic| walk_at "rd")=>`(tactic| try simp only[ag,TC,ak,TUn,fO,xu,jG,TB,xk,TOr,iY,Ie,u4,au,af,cq,f6,rB,aq,bA,aG,ui,AD,jx,aS,BE,cG,aw,aP,vm,gF,iZ,di,f7,cZ,eC,gH,jd,Io,ILs,
  Ap,zB,B0,AN,yB,uR,o9,vo,AI,tT,pT,wm,ko,pL,pO,p7,p9,uT,kU,xV,lO,ly,lJ,kC,kP,mf,mh,l9,l6,TSl,ONo,fC,AH,BG,Cd,A5,BV,y9,vy,tw,Ay,yE,Ac,lq,kq,lP,uA,tK,tL,uD,uS,uv,uq,vv,tG,BS,Cg,BL,zw,yz,zX,rY,zk,Ae,vw,tM,sW,tS,uP,uc,uw,ud,uM,sZ,
  lk,ini,List.map,List.length,List.replicate,List.append,List.set,List.cons_append,List.nil_append,Nat.sub_self,Nat.reduceSub,Nat.reduceAdd,
  v8,wH,wy,vX,vP,vF,List.getElem?_cons_zero,List.getElem?_cons_succ,aM,rg,Nat.reduceLT,Nat.reduceLeDiff,if_true,if_false,true_and,and_true,Bool.not_true,Bool.not_false,Nat.lt_add_one,Nat.zero_lt_succ,Nat.succ_lt_succ_iff,Nat.zero_lt_one,
  decide_eq_true_eq,Bool.false_eq_true,ite_false,ite_true,ne_eq,not_false_eq_true,Int.reduceToNat,Int.reducePow,Int.reduceNeg,Int.reduceSub,Int.reduceAdd,Int.reduceMul,Int.reduceEq,okD,bW,eqD,mO,Bool.and_self,Bool.and_true,Bool.true_and,fm,fE,decide_true,decide_false,Bool.or_true,Bool.or_false,Bool.true_or,Bool.false_or,Bool.and_false,Bool.false_and,and_self,dD,cY,dq,dB,dQ,dU,eT,eG,cW,dC,dS,dE,dm,eE,dF,eS,dI,eF,dO,eN,qh,nN,sC,oK,sy,rj,iS,gX,hX,iC,hU,iB,iy])
def fS:FSp:=fun ds μ Q=>match ds with
  | [d1,d2]=>∃ a b c e,((Vl d1 a b∧Vl d2 c e)∧Bd a∧Bd b∧Bd c∧Bd e)∧∀ z,Vl z (a*e+c*b) (b*e)→Q z μ
  | _=>False
theorem yF:∀ ds μ Q,fS ds μ Q→ds.length=2:=by
  unfold fS
  walk_at "ln"
def AL:STr:=aS (aq cB (af (ak aI (ak d7 (ak L3.rIx (ag 0) (TC (.int 0))) (ak L3.rIx (ag 1) (TC (.int 1)))) (ak d7 (ak L3.rIx (ag 1) (TC (.int 0))) (ak L3.rIx (ag 0) (TC (.int 1))))) (af (ak d7 (ak L3.rIx (ag 0) (TC (.int 1))) (ak L3.rIx (ag 1) (TC (.int 1)))) (au))))
theorem CS:∀ ds μ Q,fS ds μ Q→AL { nx:=fun _ μ'=>RT Q .non μ',rt:=RT Q } (ini 2 ds) μ:=by
  intro ds μ Q h
  unfold fS at h
  split at h
  case h_2=>exact h.elim
  rename_i d1 d2
  unfold AL
  walk_at "rd"
  obtain ⟨a,b,c,e,⟨⟨V1,V2⟩,Ba,Bb,Bc,Be⟩,k⟩:=h
  obtain ⟨⟨p,q,rfl,P⟩,b0⟩:=V1
  obtain ⟨⟨r,s,rfl,S⟩,e0⟩:=V2
  have q0:=P.q0
  have s0:=S.q0
  have be:0 < b*e:=Int.mul_pos b0 e0
  have qs:0 < q*s:=Int.mul_pos q0 s0
  have Bp:=P.bp Ba
  have Bq:=P.bq Bb
  have Br:=S.bp Bc
  have Bs:=S.bq Be
  walk_at "rd"
  refine ⟨Bp.mul Bs,Br.mul Bq,Bq.mul Bs,⟨by omega,Bq.mm Bs⟩,fun x y Pt=>⟨_,.refl _,k _ ⟨⟨x,y,rfl,Pt.of_eq qs be ?_⟩,be⟩⟩⟩
  calc (p*s+r*q)*(b*e)=(p*b)*(s*e)+(r*e)*(q*b):=by rw[Int.add_mul];congr 1<;>ac_rfl
    _=(a*q)*(s*e)+(c*s)*(q*b):=by rw[P.e,S.e]
    _=(a*e+c*b)*(q*s):=by rw[Int.add_mul];congr 1<;>ac_rfl
def fW:FSp:=fun ds μ Q=>match ds with
  | [d1,d2]=>∃ a b c e,((Vl d1 a b∧Vl d2 c e)∧Bd a∧Bd b∧Bd c∧Bd e)∧Q (.bl (decide (a*e < c*b))) μ
  | _=>False
theorem yZ:∀ ds μ Q,fW ds μ Q→ds.length=2:=by
  unfold fW
  walk_at "ln"
def Bg:STr:=aS (ak rLt (ak d7 (ak L3.rIx (ag 0) (TC (.int 0))) (ak L3.rIx (ag 1) (TC (.int 1)))) (ak d7 (ak L3.rIx (ag 1) (TC (.int 0))) (ak L3.rIx (ag 0) (TC (.int 1)))))
theorem Eb:∀ ds μ Q,fW ds μ Q→Bg { nx:=fun _ μ'=>RT Q .non μ',rt:=RT Q } (ini 2 ds) μ:=by
  intro ds μ Q h
  unfold fW at h
  split at h
  case h_2=>exact h.elim
  rename_i d1 d2
  unfold Bg
  walk_at "rd"
  obtain ⟨a,b,c,e,⟨⟨V1,V2⟩,Ba,Bb,Bc,Be⟩,k⟩:=h
  obtain ⟨⟨p,q,rfl,P⟩,b0⟩:=V1
  obtain ⟨⟨r,s,rfl,S⟩,e0⟩:=V2
  walk_at "rd"
  refine ⟨(P.bp Ba).mul (S.bq Be),(S.bp Bc).mul (P.bq Bb),_,.refl _,?_⟩
  rw[show decide (p*s < r*q)=decide (a*e < c*b) from decide_eq_decide.mpr (ID P.q0 S.q0 b0 e0 P.e S.e)]
  exact k
def b8:FSp:=fun ds μ Q=>match ds with
  | [d1]=>∃ a b,(Vl d1 a b∧Bd b)∧Q (.int (a / b)) μ
  | _=>False
theorem qi:∀ ds μ Q,b8 ds μ Q→ds.length=1:=by
  unfold b8
  walk_at "ln"
def l8:STr:=aS (ak ig (ak L3.rIx (ag 0) (TC (.int 0))) (ak L3.rIx (ag 0) (TC (.int 1))))
theorem rC:∀ ds μ Q,b8 ds μ Q→l8 { nx:=fun _ μ'=>RT Q .non μ',rt:=RT Q } (ini 1 ds) μ:=by
  intro ds μ Q h
  unfold b8 at h
  split at h
  case h_2=>exact h.elim
  rename_i d1
  unfold l8
  walk_at "rd"
  obtain ⟨a,b,⟨⟨⟨p,q,rfl,P⟩,b0⟩,Bb⟩,k⟩:=h
  have q0:=P.q0
  walk_at "rd"
  rw[dY q0,zW q0 b0 P.e]
  exact ⟨⟨by omega,(P.bq Bb).m⟩,_,.refl _,k⟩
def bK:FSp:=fun ds μ Q=>match ds with
  | [d1]=>∃ a b,(Vl d1 a b∧Bd b)∧Q (.int (-((-a) / b))) μ
  | _=>False
theorem qW:∀ ds μ Q,bK ds μ Q→ds.length=1:=by
  unfold bK
  walk_at "ln"
def ou:STr:=aS (TUn pH (ak ig (TUn pH (ak L3.rIx (ag 0) (TC (.int 0)))) (ak L3.rIx (ag 0) (TC (.int 1)))))
theorem vb:∀ ds μ Q,bK ds μ Q→ou { nx:=fun _ μ'=>RT Q .non μ',rt:=RT Q } (ini 1 ds) μ:=by
  intro ds μ Q h
  unfold bK at h
  split at h
  case h_2=>exact h.elim
  rename_i d1
  unfold ou
  walk_at "rd"
  obtain ⟨a,b,⟨⟨⟨p,q,rfl,P⟩,b0⟩,Bb⟩,k⟩:=h
  have q0:=P.q0
  walk_at "rd"
  rw[dY q0,zW (p:=-p) (a:=-a) q0 b0 (by rw[Int.neg_mul,Int.neg_mul,P.e])]
  exact ⟨⟨by omega,(P.bq Bb).m⟩,_,.refl _,k⟩
theorem qX {xs:List D}{d:D}(h:xs[xs.length - 1]? = some d)(h0:xs≠[]):atD xs ((xs.length:Int) - 1)=some d:=by
  have:0 < xs.length:=List.length_pos_iff.mpr h0
  have e:((xs.length:Int) - 1)=((xs.length - 1:Nat):Int):=by omega
  rw[e,cA,h]
theorem Cf {xs:List D}{d:D}(h:xs[xs.length - 1]? = some d)(h0:xs≠[]):atD xs (-1)=some d:=by
  have:0 < xs.length:=List.length_pos_iff.mpr h0
  unfold atD L2.atI L2.ixN
  rw[if_neg (by decide),if_pos (by omega)]
  have e:(-1+(xs.length:Int)).toNat=xs.length - 1:=by omega
  show xs[(-1+(xs.length:Int)).toNat]? = some d
  rw[e];exact h
theorem RN.tup (R:RN)(hst:R.wd=.jI→R.r=R.p∧R.s=R.q):∃ xs,R.toD=.tup xs∧xs[0]? = some (.str R.wd.str)∧xs[1]? = some (fr R.p R.q)∧xs[xs.length - 1]? = some (fr R.r R.s)∧xs≠[]:=by
  obtain ⟨wd,p,q,x,y,a,b,l,h,r,s⟩:=R
  cases wd
  · obtain ⟨e1,e2⟩:=hst rfl
    dsimp only at e1 e2
    subst e1 e2
    exact ⟨_,rfl,rfl,rfl,rfl,nofun⟩
  all_goals exact ⟨_,rfl,rfl,rfl,rfl,nofun⟩
def bx:FSp:=fun ds μ Q=>match ds with
  | [d]=>∃ R:RN,(R.Ok∧d=R.toD)∧Q (fr R.r R.s) μ
  | _=>False
theorem lX:∀ ds μ Q,bx ds μ Q→ds.length=1:=by
  unfold bx
  walk_at "ln"
def fF:STr:=aS (ak L3.rIx (ag 0) (ak j5 (aq c5 (af (ag 0) (au))) (TC (.int 1))))
theorem oD:∀ ds μ Q,bx ds μ Q→fF { nx:=fun _ μ'=>RT Q .non μ',rt:=RT Q } (ini 1 ds) μ:=by
  intro ds μ Q h
  unfold bx at h
  split at h
  case h_2=>exact h.elim
  rename_i d
  unfold fF
  walk_at "rd"
  obtain ⟨R,⟨K,rfl⟩,k⟩:=h
  obtain ⟨xs,e,_,_,e3,e4⟩:=R.tup K.st
  rw[e]
  walk_at "rd"
  rw[qX e3 e4]
  exact ⟨_,.refl _,k⟩
def Ka:=Jn @F7 <| Jn @Eo <| Jn @HX <| Jn @Cv <| Jn @HQ <| Jn @DU <| Jn @GB <| Jn @DI <| Jn @Ik <| Jn @CN <| Jn @F9 <| Jn @Cq <| Jn @F5 <| Jn @CJ <| Jn @Gu <| Jn @Em <| Jn @GA <| Jn @Dy <| Jn @Hx <| Jn @Dk <| Jn @Ep <| Jn @yJ <| Jn @Ew <| Jn @yu <| Jn @Er <| Jn @BQ <| Jn @DM <| Jn @BM <| Jn @CH <| Jn @zY <| Jn @KQ <| Jn @FX <| Jn @JN <| Jn @CT <| Jn @FV <| Jn @Df <| Jn @KC <| Jn @G1 <| Jn @IL <| Jn @GG <| Jn @Gs <| Jn @Ef <| Jn @GI <| Jn @GY <| Jn @Fh <| Jn @DA <| Jn @C1 <| Jn @Fx <| Jn @Ed <| Jn @FU <| Jn @Hb <| Jn @Gv <| Jn @GR <| Jn @By <| Jn @Im <| Jn @xc <| Jn @xM <| Jn @Hk <| Jn @FF <| Jn @Ja <| Jn @Jm <| Jn @FP <| Jn @HH <| Jn @Hj <| Jn @GP <| Jn @JB <| Jn @Iu <| Jn @JV <| Jn @Ku <| Jn @Jb <| Jn @Jh <| Jn @IF <| Jn @G2 <| Jn @Gy <| Jn @De <| Jn @DO <| Jn @Dv <| Jn @Ca <| Jn @zu <| Jn @CZ <| Jn @yy <| Jn @yb <| Jn @wm <| Jn @u6 <| Jn @xi <| Jn @wN <| Jn @xH <| Jn @Cc <| Jn @yD <| Jn @z7 <| Jn @zm <| Jn @BX <| Jn @Ab <| Jn @DX <| Jn @CB <| Jn @Du <| Jn @C3 <| Jn @DW <| Jn @BR <| Jn @Bv <| Jn @Al <| Jn @zS <| Jn @Dc <| Jn @Eg <| Jn @HW <| Jn @Gf <| Jn @FL <| Jn @GF <| Jn @Ho <| Jn @HR <| Jn @A1 <| Jn @Bk <| Jn @F4 <| @Fp
def Kl:=Jn @nN <| Jn @sC <| Jn @oK <| Jn @sy <| @rj
local macro_rules | `(tactic| walk_at "go")=>`(tactic| try simp only[↓Ka,Kl,↓wG,↓kU,dD,cY,dq,dB,dQ,dU,eT,eG,cW,dC,dS,dE,dm,eE,dF,eS,dI,eF,dO,eN,qh,JP,Ko,EX,EG,zy,Au,vE,wJ,vM,vV,true_and,and_true,and_self,Bool.not_true,Bool.not_false,decide_true,decide_false,Bool.or_true,Bool.or_false,Bool.true_or,Bool.false_or,Bool.and_false,Bool.false_and,Bool.and_true,Bool.true_and,Int.reduceToNat,Int.reducePow,Int.reduceNeg,Int.reduceSub,Int.reduceAdd,Int.reduceMul,Int.reduceEq,Int.reduceLT,Int.reduceLE,Int.reduceBEq,rg,iS,gX,hX,iC,hU,iB,iy,if_true,if_false,Bool.false_eq_true,reduceCtorEq,decide_eq_true_eq])
local macro_rules | `(tactic| walk_at "ini")=>`(tactic| simp only[ini,List.map,List.length,List.replicate,Nat.reduceSub,Nat.reduceAdd,Nat.sub_self,List.cons_append,List.nil_append,List.append_nil])
theorem Gd {xs:List D}{P:D→Prop}(h:∀ d∈xs,P d){k:Int}(k0:0≤k)(k1:k < xs.length):∃ d,atD xs k=some d∧P d:=by
  obtain ⟨j,rfl⟩:=Int.eq_ofNat_of_zero_le k0
  rw[cA]
  have hj:j < xs.length:=by omega
  exact ⟨xs[j],by simp[hj],h _ (List.getElem_mem hj)⟩
def IsL (hi:Int)(d:D):Prop:=∃ p q,d=fr p q∧FrL hi p q
def IsI (lo hi:Int)(d:D):Prop:=∃ i:Int,d=.int i∧lo≤i∧i≤hi
theorem c6 {P:D→Prop}:∀ d∈([]:List D),P d:=fun _ h=>nomatch h
theorem bY {P:D→Prop}{a:D}{xs:List D}(h:P a)(k:∀ d∈xs,P d):∀ d∈a::xs,P d:=fun d hd=>by
  rcases List.mem_cons.mp hd with e | e
  · rw[e];exact h
  · exact k d e
local macro_rules | `(tactic| walk_at "all")=>`(tactic| repeat' (first | exact c6 | refine bY ?_ ?_))
structure nD (b p:Addr) (xs:List D) (μ μ':Mu):Prop where
  box:Box μ' b
  ne:p≠b
  new:μ p=none
  at':μ' p=some (.lst xs)
  oth:∀ a,a≠b→a≠p→μ' a=μ a
theorem nD.go {b p:Addr}{xs:List D}{μ μ1 μ2:Mu}(h:nD b p xs μ μ1)(B:my b μ1 μ2):nD b p xs μ μ2:=
  ⟨B.box,h.ne,h.new,by rw[B.oth p h.ne];exact h.at',fun a h1 h2=>by rw[B.oth a h1];exact h.oth a h1 h2⟩
theorem nD.set {b p:Addr}{xs ys:List D}{μ μ1:Mu}(h:nD b p xs μ μ1):nD b p ys μ (up μ1 p (.lst ys)):=by
  obtain ⟨g,s,c,e,hh⟩:=h.box
  exact ⟨⟨g,s,c,by rw[aV h.ne.symm];exact e,hh⟩,h.ne,h.new,aM,fun a h1 h2=>by rw[aV h2];exact h.oth a h1 h2⟩
theorem G4 (μ:Mu)(p:Addr):Sub (dn μ p) μ:=fun a o e=>by
  unfold dn at e
  split at e
  · cases e
  · exact e
theorem nD.fin {b p:Addr}{xs:List D}{μ μ1:Mu}(h:nD b p xs μ μ1):my b μ (dn μ1 p):=by
  obtain ⟨g,s,c,e,hh⟩:=h.box
  refine ⟨⟨g,s,c,?_,hh⟩,fun a ha=>?_⟩
  · unfold dn;rw[if_neg h.ne.symm];exact e
  · unfold dn
    split
    · rename_i z;subst z;exact h.new.symm
    · rename_i z;exact h.oth a ha z
theorem nD.rt {b p:Addr}{xs:List D}{μ μ1:Mu}{Q:DK}{d:D}(h:nD b p xs μ μ1)(k:∀ μ',my b μ μ'→Q d μ'):RT Q d μ1:=⟨_,G4 μ1 p,k _ h.fin⟩
theorem vS {n b:Int}(b0:0 < b):-((-n) / b)=(n+b - 1) / b:=by
  have h1:=Int.ediv_mul_le (n+b - 1) (show b≠0 by omega)
  have h2:=Int.lt_ediv_add_one_mul_self (n+b - 1) b0
  generalize (n+b - 1) / b=q at *
  have e:(q+1)*b=q*b+b:=by rw[Int.add_mul,Int.one_mul]
  have k1:-q≤(-n) / b:=by
    rw[Int.le_ediv_iff_mul_le b0,Int.neg_mul];omega
  have k2:(-n) / b < -q+1:=by
    rw[Int.ediv_lt_iff_lt_mul b0,Int.add_mul,Int.neg_mul,Int.one_mul];omega
  omega
theorem fT {p:Addr}{G:GTr}{tt:TTr}{te:ETr}{ρc:ST}{K:Mu→Prop}(P:List D→Mu→Prop)(hnil:∀ μ,P [] μ→K μ)
    (hcons:∀ d r μ (N:Mu→Prop),P (d::r) μ→(∀ μ',P r μ'→N μ')→G d ρc μ fun ρ1 μ1=>tt ρ1 μ1 fun b μ2=>kIf b (te ρ1 μ2 fun y μ3=>kL μ3 p fun zs=>zs.length < 1000000∧N (up μ3 p (.lst (zs++[y])))) (N μ2)) :
    ∀ (ds:List D) (μ:Mu),P ds μ→eC p G tt te ρc K ds μ
  | [],μ,h=>hnil μ h
  | d::r,μ,h=>hcons d r μ _ h fun μ' q=>fT P hnil hcons r μ' q
theorem Kr (d0:D)(r:List D)(f:D→Prop):kO (atD (d0::r) 0) f=f d0:=by rw[v8];rfl
theorem JT (d0 d1:D)(r:List D)(f:D→Prop):kO (atD (d0::d1::r) 1) f=f d1:=by rw[wH];rfl
theorem IE (d0 d1 d2:D)(r:List D)(f:D→Prop):kO (atD (d0::d1::d2::r) 2) f=f d2:=by rw[wy];rfl
theorem J4 (d0 d1 d2 d3:D)(r:List D)(f:D→Prop):kO (atD (d0::d1::d2::d3::r) 3) f=f d3:=by rw[vX];rfl
theorem JI (d0 d1 d2 d3 d4:D)(r:List D)(f:D→Prop):kO (atD (d0::d1::d2::d3::d4::r) 4) f=f d4:=by rw[vP];rfl
theorem Iw (d0 d1 d2 d3 d4 d5:D)(r:List D)(f:D→Prop):kO (atD (d0::d1::d2::d3::d4::d5::r) 5) f=f d5:=by rw[vF];rfl
def Bi (G:GTr)(tt:TTr)(te:ETr)(ρc:ST)(ds:List D)(μ:Mu)(Q:DK):Prop:=∀ p,μ p=none→eC p G tt te ρc (fun μ'=>kL μ' p fun zs=>Q (.ls zs) (dn μ' p)) ds (up μ p (.lst []))
theorem DJ (it:ATr)(G:GTr)(tt:TTr)(te:ETr)(n:Nat)(caps:List Nat)(ρ:ST)(μ:Mu)(Q:DK):cZ it G tt te n caps ρ μ Q=it ρ μ fun ds μ1=>Bi G tt te (gH ρ n caps) ds μ1 Q:=propext Iff.rfl
theorem Ht (ρ:ST)(μ:Mu)(Q:Bool→Mu→Prop):jd ρ μ Q=Q true μ:=propext Iff.rfl
section
variable {G:GTr} {tt:TTr} {te:ETr} {ρc:ST} {ds:List D} {μ:Mu} {Q:DK}
theorem Am (I:List D→List D→Prop)(h0:I ds [])(hl:ds.length≤999999)
    (step:∀ d r zs μ',Sub μ μ'→I (d::r) zs→∀ (N:Option D→Mu→Prop),(∀ oy,I r (zs++oy.toList)→N oy μ')→G d ρc μ' fun ρ1 μ1=>tt ρ1 μ1 fun b μ2=>kIf b (te ρ1 μ2 fun y μ3=>N (some y) μ3) (N none μ2))
    (k:∀ zs,I [] zs→Q (.ls zs) μ):Bi G tt te ρc ds μ Q:=by
  intro p hp
  refine fT (fun r μ'=>∃ zs,I r zs∧zs.length+r.length≤ds.length∧μ'=up μ p (.lst zs)) ?_ ?_ _ _ ⟨[],h0,by simp,rfl⟩
  · rintro μ' ⟨zs,hI,_,rfl⟩
    refine cj aM ?_
    rw[E1 hp];exact k zs hI
  · rintro d r μ' N ⟨zs,hI,hz,rfl⟩ hN
    rw[List.length_cons] at hz
    refine step d r zs _ (Sub.new hp) hI (fun oy μ3=>match oy with
      | some y=>kL μ3 p fun zs=>zs.length < 1000000∧N (up μ3 p (.lst (zs++[y])))
      | none=>N μ3) ?_
    intro oy hoy
    cases oy with
    | none=>exact hN _ ⟨zs,by simpa using hoy,by omega,rfl⟩
    | some y=>
      refine cj aM ⟨by omega,hN _ ⟨zs++[y],hoy,by rw[List.length_append];simp;omega,?_⟩⟩
      rw[rg]
theorem kY {α:Type}(xs:List α)(t:α→D)(h:α→Option D)(hds:ds=xs.map t)(hl:xs.length≤999999)
    (step:∀ x∈xs,∀ μ',Sub μ μ'→∀ (N:Option D→Mu→Prop),N (h x) μ'→G (t x) ρc μ' fun ρ1 μ1=>tt ρ1 μ1 fun b μ2=>kIf b (te ρ1 μ2 fun y μ3=>N (some y) μ3) (N none μ2))
    (k:Q (.ls (xs.filterMap h)) μ):Bi G tt te ρc ds μ Q:=by
  subst hds
  refine Am (fun r zs=>∃ a c,xs=a++c∧r=c.map t∧zs=a.filterMap h) ⟨[],xs,rfl,rfl,rfl⟩ (by simpa using hl) ?_ ?_
  · rintro d r zs μ' sb ⟨a,c,e,er,rfl⟩ N hN
    cases c with
    | nil=>cases er
    | cons x c=>
    cases er
    refine step x (by rw[e];simp) μ' sb N (hN _ ⟨a++[x],c,by rw[e];simp,rfl,?_⟩)
    rw[List.filterMap_append]
    cases hx:h x<;>simp[hx]
  · rintro zs ⟨a,c,e,er,rfl⟩
    have:c=[]:=by cases c with | nil=>rfl | cons=>cases er
    subst this
    rw[List.append_nil] at e
    subst e;exact k
theorem eA {α:Type}(xs:List α)(t:α→D)(h:α→D)(hds:ds=xs.map t)(hl:xs.length≤999999)
    (step:∀ x∈xs,∀ μ',Sub μ μ'→∀ (N:DK),N (h x) μ'→G (t x) ρc μ' fun ρ1 μ1=>te ρ1 μ1 N)
    (k:Q (.ls (xs.map h)) μ):Bi G jd te ρc ds μ Q:=by
  refine kY xs t (fun x=>some (h x)) hds hl (fun x hx μ' s N n=>?_) (by rw[show (fun x=>some (h x))=some ∘ h from rfl,List.filterMap_eq_map];exact k)
  exact step x hx μ' s (fun y μ3=>N (some y) μ3) n
end
section
open PySem PySem.Spec PyProof.Rows L2
section
variable {prog:Program} {w:World} {A:Around} {E:Value→Shared→Prop} {s:Shared}
end
section
variable {X:Cx} {ea eb:Expr} {Ta Tb:ETr} {p p2 pos rpos:Pos}
end
end
section
open PySem PySem.Spec PyProof.Rows L2
section
variable {prog:Program} {w:World} {A:Around} {E:Value→Shared→Prop} {s:Shared}
end
theorem xT {X:Cx}(hc:X.calm=true):bG X (.builtin "sum") (fun xs H Q=>∃ (p:Addr) (ns:List Int),xs=[.ref p]∧SqL X.K H p (ns.map V.int)∧Q (.int ns.sum) H):=fun pins s σ H xs us Q I rx ⟨p,ns,e1,sq,q⟩=>by
  subst e1
  obtain ⟨u,rfl,ru⟩:=vals1 rx
  cases ru
  obtain ⟨its,rv,pl,_⟩:=I.list sq
  obtain ⟨ps,rfl,rfl⟩:=dH (intsAre_of rv)
  have il:s.heap.IsList p (intItems ps.toArray):=by
    have:=pl.isList
    simpa[intItems] using this
  refine sum_intListG (I.ok.hd hc) il fun h' tk t' hk=>?_
  have e:preSum (numAt ps.toArray) ps.toArray.size=(ps.map Prod.fst).sum:=by
    rw[preSum_eq,List.take_of_length_le (by simp)]
  rw[e]
  exact ⟨.int _,H,I.kept hk,⟨t',rfl⟩,q⟩
def vJ:FSp:=fun ds μ Q=>match ds with
  | [.ls xs]=>∃ ns:List Int,xs=ns.map .int∧Q (.int ns.sum) μ
  | _=>False
theorem BF {K:PySem.W.Frag}:lL K (fun xs H Q=>∃ (p:Addr) (ns:List Int),xs=[.ref p]∧SqL K H p (ns.map V.int)∧Q (.int ns.sum) H) vJ:=fun H μ xs ds Q Q' m p h k=>by
  unfold vJ at h
  split at h
  · obtain ⟨ns,rfl,h⟩:=h
    cases p with | cons p1 p2=>
    cases p2
    cases p1 with
    | @ls q xs ds sq l=>
      have ex:=l.ints_of
      subst ex
      exact ⟨q,ns,rfl,sq.sq,k _ H _ μ (.refl H) m (.int _) h⟩
  · exact h.elim
end
section
open PySem PySem.Spec PyProof.Rows L2
section
variable {prog:Program} {w:World} {A:Around} {E:Value→Shared→Prop} {s:Shared}
theorem A8 {tp:Bool}{e it a:Addr}{i:Nat}{xs:Array Value}{x old:Value}{Q:Option Value→Shared→Prop}(en:IsEnum s.heap e it i old)(li:d8 tp s.heap it a i)(se:cS tp s.heap a xs)(hx:xs[i]? = some x)(ne:e≠it)
    (q:∀ g,IsEnumOut g e it ((i:Int)+1) x s.heap.objs.size→d8 tp g it a (i+1)→g.get? s.heap.objs.size=some { cls:=.type "tuple", data:=.seq #[.int i s.toks,x] }→
      (∀ c o,c≠e→c≠it→s.heap.get? c=some o→g.get? c=some o)→Q (some (.ref s.heap.objs.size)) { s with heap:=g,toks:=s.toks+1 }):wpAny (model prog w) A (pyNext (.ref e)) Q E s:=by
  have ty:s.TypeIs (.ref e) "enumerate" := ⟨_,en,rfl⟩
  unfold pyNext
  refine wpAny_bind (wpAny_attempt (wpAny_callSpecial?_slot (name:=Str.ofString "__next__") ty F.slot_enumerate_next (wpAny_call_entry F.slot_enumerate_next ty F.entry_enumerate_next ?_ (F.args_enumerate_next_1 _))))
  refine wpAny_bind (m:=field (.ref e) 2) (wpAny_field en rfl (x:=.ref it) rfl (wpAny_bind (m:=Builtin.SmallTypes.nextOf (.ref it)) (kh li se hx fun g1 li1 k1=>?_)))
  have en1:IsEnum g1 e it i old:=(k1.2 e ne).trans en
  refine wpAny_bind (m:=field (.ref e) 3) (wpAny_field (s:={ s with heap:=g1 }) en1 rfl (x:=rawInt i) rfl (wpAny_bind (m:=field (.ref e) 4) (wpAny_field (s:={ s with heap:=g1 }) en1 rfl (x:=.none) rfl (wpAny_bind (m:=mkInt i) (wpAny_mkInt ?_)))))
  refine wpAny_bind (m:=setField (.ref e) 3 (rawInt ((i:Int)+1))) (wpAny_setField_rec en1 (by simp) fun g2 en2 k2=>?_)
  have en2:IsEnum g2 e it ((i:Int)+1) old:=en2
  refine wpAny_bind (m:=setField (.ref e) 4 .none) (wpAny_setField_rec en2 (by simp) fun g3 en3 k3=>?_)
  have en3:IsEnum g3 e it ((i:Int)+1) old:=en3
  refine wpAny_bind (m:=newTuple [.int i s.toks,x]) (wpAny_newTuple ?_)
  have sz:g3.objs.size=s.heap.objs.size:=by rw[k3.1,k2.1,k1.1]
  have en4:IsEnum (g3.push { cls:=.type "tuple", data:=.seq #[.int i s.toks,x] }) e it ((i:Int)+1) old:=Heap.get?_push_of_some _ en3
  have elt:e < g3.objs.size:=Heap.lt_size en3
  refine wpAny_bind (m:=Builtin.SmallTypes.ownedTupleIsFree (.ref e)) ?_
  delta Builtin.SmallTypes.ownedTupleIsFree
  refine wpAny_bind (wpAny_field (s:={ s with heap:=g3.push { cls:=.type "tuple", data:=.seq #[.int i s.toks,x] },toks:=s.toks+1 }) en4 rfl (x:=.none) rfl (wpAny_pure ?_))
  simp only[if_true]
  refine wpAny_bind (wpAny_rule (wpAny_bind (wpAny_field en4 rfl (x:=old) rfl (wpAny_bind (wpAny_setField_rec en4 (by simp) fun g5 en5 k5=>?_)))))
  have en5:IsEnum g5 e it ((i:Int)+1) x:=en5
  refine wpAny_bind (m:=Builtin.SmallTypes.ownedTupleHandOut (.ref e) (.ref g3.objs.size)) ?_
  delta Builtin.SmallTypes.ownedTupleHandOut
  refine wpAny_bind (wpAny_setField_rec en5 (by simp) fun g6 en6 k6=>?_)
  have en6:IsEnumOut g6 e it ((i:Int)+1) x g3.objs.size:=en6
  refine wpAny_setField_rec en6 (by simp) fun g7 en7 k7=>?_
  have en7:IsEnumOut g7 e it ((i:Int)+1) x g3.objs.size:=en7
  have up3:∀ c o,c≠e→g3.get? c=some o→g7.get? c=some o:=fun c o c1 h=>(k7.2 c c1).trans ((k6.2 c c1).trans ((k5.2 c c1).trans (Heap.get?_push_of_some _ h)))
  have new:g7.get? g3.objs.size=some { cls:=.type "tuple", data:=.seq #[.int i s.toks,x] }:=(k7.2 _ (Nat.ne_of_gt elt)).trans ((k6.2 _ (Nat.ne_of_gt elt)).trans ((k5.2 _ (Nat.ne_of_gt elt)).trans (Heap.get?_push_size _ rfl)))
  rw[sz] at en7 new
  have fin:=q g7 en7 (li1.at fun o h=>up3 it o (Ne.symm ne) ((k3.2 it (Ne.symm ne)).trans ((k2.2 it (Ne.symm ne)).trans h))) new fun c o c1 c2 h=>up3 c o c1 ((k3.2 c c1).trans ((k2.2 c c1).trans ((k1.2 c c2).trans h)))
  rw[← sz] at fin
  exact wpAny_bind (wpAny_letGo (wpAny_pure ⟨_,rfl,wpAny_pure fin⟩))
theorem CA {tp:Bool}{e it a:Addr}{i:Nat}{xs:Array Value}{old:Value}{Q:Option Value→Shared→Prop}(hh:A.handled=none)(en:IsEnum s.heap e it i old)(li:d8 tp s.heap it a i)(se:cS tp s.heap a xs)(hx:xs[i]? = none)
    (q:∀ g,Heap.ExtBut it s.heap g→Q none { s with heap:=g }):wpAny (model prog w) A (pyNext (.ref e)) Q E s:=by
  have ty:s.TypeIs (.ref e) "enumerate" := ⟨_,en,rfl⟩
  unfold pyNext
  refine wpAny_bind (wpAny_attempt (wpAny_callSpecial?_slot (name:=Str.ofString "__next__") ty F.slot_enumerate_next (wpAny_call_entry F.slot_enumerate_next ty F.entry_enumerate_next ?_ (F.args_enumerate_next_1 _))))
  refine wpAny_bind (m:=field (.ref e) 2) (wpAny_field en rfl (x:=.ref it) rfl (wpAny_bind (m:=Builtin.SmallTypes.nextOf (.ref it)) (uG hh li se hx fun g z kp sz=>?_)))
  obtain ⟨o,ho,hc⟩:=sz
  exact wpAny_bind (wpAny_isInstance (T := "StopIteration") (b:=true) ⟨o,ho,hc⟩ isSubtype_stop (wpAny_pure (q _ kp)))
theorem AZ (tp:Bool)(a:Addr)(xs:Array Value):Meets (Builtin.«enumerate.__new__» ⟨[.type "enumerate", .ref a],[]⟩) (fun _ R s=>cS tp s.heap a xs∧
      R (.ok (.ret (.ref (s.heap.push (itO tp a)).objs.size))) { s with heap:=(s.heap.push (itO tp a)).push { cls:=.type "enumerate", data:=.fields #[.none,.bool false,.ref s.heap.objs.size,rawInt 0,.none,.none] } }):=
  .of_wp fun prog w A R s h=>by
    rcases s with ⟨hp,g,d,tk,os⟩
    obtain ⟨h1,h⟩:=h
    have hs0:=sub_enumerate
    have H1:cS tp (Shared.heap ⟨hp,g,d,tk,os⟩) a xs:=h1
    wp_walk
    refine wpAny_stack_any fun stk=>wpAny_pure ?_
    split
    · rename_i c _ _ _ _ _
      cases (c == Value.type "enumerate")<;>(wp_walk using DH H1;exact ⟨_,rfl,h⟩)
    · wp_walk using DH H1
      exact ⟨_,rfl,h⟩
theorem uh {tp:Bool}{a:Addr}{xs:Array Value}{Q:Value→Shared→Prop}(h1:cS tp s.heap a xs)
    (q:∀ g,IsEnum g (s.heap.objs.size+1) s.heap.objs.size 0 .none→d8 tp g s.heap.objs.size a 0→(∀ c o,s.heap.get? c=some o→g.get? c=some o)→Q (.ref (s.heap.objs.size+1)) { s with heap:=g }) :
    wpAny (model prog w) A (call (.type "enumerate") [.ref a]) Q E s:=by
  refine callType_new F.called_enumerate (by decide) (F.typeCall_enumerate_1 _) (F.newCall_enumerate_1 _) (fun obj=>F.args_object_init_2 obj _) F.entry_enumerate_new (AZ tp a xs) ⟨h1,?_⟩
  have s1:(s.heap.push (itO tp a)).objs.size=s.heap.objs.size+1:=Heap.size_push ..
  have new:IsEnum ((s.heap.push (itO tp a)).push { cls:=.type "enumerate", data:=.fields #[.none,.bool false,.ref s.heap.objs.size,rawInt 0,.none,.none] }) (s.heap.push (itO tp a)).objs.size s.heap.objs.size 0 .none:=Heap.get?_push_size _ rfl
  refine ⟨⟨_,new,rfl⟩,?_⟩
  rw[s1] at new ⊢
  refine q _ new ?_ fun c o h=>Heap.get?_push_of_some _ (Heap.get?_push_of_some _ h)
  have z:=Heap.get?_push_of_some { cls:=.type "enumerate", data:=.fields #[.none,.bool false,.ref s.heap.objs.size,rawInt 0,.none,.none] } (Heap.get?_push_size s.heap (o:=itO tp a) (by cases tp<;>rfl))
  cases tp<;>exact ⟨_,z,rfl,rfl⟩
end
def Itn (tp:Bool)(K:PySem.W.Frag)(a:Addr):It:=
  ⟨fun i H=>∃ xs x,Sq tp K H a xs∧xs[i]? = some x,
   fun i H v H'=>∃ x p,(∀ xs,Sq tp K H a xs→xs[i]? = some x)∧v=.ref p∧H p=none∧H'=L2.upd H p (.tup [.int i,x]),
   fun i H=>∃ xs,Sq tp K H a xs∧xs.length≤i⟩
structure NAt (tp:Bool) (h:Heap) (e it a:Addr) (k:Nat):Prop where
  en:∃ old,IsEnum h e it k old
  li:d8 tp h it a k
theorem zZ {P:Program}{w:World}{K:PySem.W.Frag}{es:List Expr}{ek:Nat}{ep:Pos}{tp:Bool}{e it a:Addr}(n1:e≠it) :
    Turn P w K (.Tuple es ek ep) (Itn tp K a) [e,it] e (fun k h=>NAt tp h e it a k) where
  mem:=by simp
  obj:=fun k h S c hc=>by
    obtain ⟨⟨old,en⟩,li⟩:=S
    simp only[List.mem_cons,List.not_mem_nil,or_false] at hc
    rcases hc with rfl | rfl
    · exact ⟨_,en,fun v y=>by cases y⟩
    · obtain ⟨o,ho,vs,hd⟩:=li.ex;exact ⟨o,ho,fun v y=>by rw[hd] at y;cases y⟩
  keep:=fun k h g S kp=>by
    obtain ⟨⟨old,en⟩,li⟩:=S
    exact ⟨⟨old,kp e (by simp) _ en⟩,li.at fun o q=>kp it (by simp) o q⟩
  item:=by
    intro X hP hw hK hc k pins s σ H E I hf S hg
    subst hP hw hK
    obtain ⟨xs,x,qa,ex⟩:=hg
    obtain ⟨⟨old,en⟩,li⟩:=S
    obtain ⟨ia,ra,sa⟩:=Inv.sq I qa
    obtain ⟨ux,hux,rx⟩:=ra.get ex
    have elt:e < s.heap.objs.size:=Heap.lt_size en
    have fr:H s.heap.objs.size=none:=I.hok.fresh (Nat.le_refl _)
    refine A8 en li sa (x:=ux) (by simpa using hux) n1 fun g eo li2 new al=>⟨_,rfl,wpAny_letOwnedTupleGo_enum eo fun g2 en2 k2=>?_⟩
    have k2:Heap.SameBut e g g2:=k2
    have all:∀ c o,c ∉ [e,it]→s.heap.get? c=some o→g2.get? c=some o:=fun c o hc q=>by
      simp only[List.mem_cons,List.not_mem_nil,or_false,not_or] at hc
      exact (k2.2 c hc.1).trans (al c o hc.1 hc.2 q)
    have new2:g2.get? s.heap.objs.size=some { cls:=.type "tuple", data:=.seq #[.int k s.toks,ux] }:=(k2.2 _ (Nat.ne_of_gt elt)).trans new
    have nfp:∀ c u,H c=some u→c ∉ [e,it]:=fun c u q hc=>by rw[(hf c hc).1] at q;cases q
    refine ⟨.ref s.heap.objs.size,L2.upd H s.heap.objs.size (.tup [.int k,x]),?_,rfl,⟨x,_,fun xs' q=>by rw[Inv.tQ I q qa];exact ex,rfl,fr,rfl⟩,⟨⟨_,en2⟩,li2.at fun o q=>(k2.2 it (Ne.symm n1)).trans q⟩,fun c hc=>?_⟩
    · refine L2.Inv.step (s:=s) (H:=H) (H':=L2.upd H s.heap.objs.size (.tup [.int k,x])) (g':=s.gens) (d':=s.drawn) (t':=s.toks+1) (h':=g2) (ch:=[e,it]) I (fun c hc=>⟨(hf c hc).2.2.2.1,(hf c hc).2.1,(hf c hc).2.2.2.2.1,(hf c hc).2.2.2.2.2⟩) (fun c o _ _ hc q _=>all c o hc q) (fun c o _ _ hc q _=>⟨o.slots,all c o hc q⟩) (fun c o hc q n=>?_) (fun c o hc q=>⟨o,all c o hc q⟩)
        (fun c xs q=>?_) (fun c o u q=>?_) (fun c ps q=>⟨#[],?_⟩) (fun m hm=>?_) (fun c u q=>?_) I.bare
      · rw[aA (Nat.ne_of_lt (Heap.lt_size q))];exact n
      · rw[aA (aQ q fr)];exact q
      · rw[aA (aQ q fr)];exact q
      · rw[aA (aQ q fr),q];simp
      · obtain ⟨o,es',ep',ho,r⟩:=hm
        exact ⟨o,es',ep',all _ o (fun hc=>(hf _ hc).2.1 rfl) ho,r⟩
      · by_cases hcT:c=s.heap.objs.size
        · subst hcT
          rw[aF] at q;cases q
          exact ⟨by show 2≤sizeLine;decide,[.int k s.toks,ux],.cons ⟨s.toks,rfl⟩ (.cons rx .nil),⟨_,new2⟩⟩
        · rw[aA hcT] at q
          refine (I.hok c u q).jW (fun c' v hc' z=>all c' v ?_ z) (fun c' z=>by rw[aA (aQ z fr)];exact z) fun c' xs z=>by rw[aA (aQ z fr)];exact z
          rcases hc' with rfl | hc'
          · exact nfp _ _ q
          · exact nfp _ _ hc'
    · have hcl:c≠s.heap.objs.size:=by
        simp only[List.mem_cons,List.not_mem_nil,or_false] at hc
        rcases hc with rfl | rfl
        · exact Nat.ne_of_lt elt
        · obtain ⟨o,q,_⟩:=li.ex;exact Nat.ne_of_lt (Heap.lt_size q)
      rw[aA hcl];exact (hf c hc).1
  done:=by
    intro X hP hw hK hc k pins s σ H E I hf S hg
    subst hP hw hK
    obtain ⟨xs,qa,he⟩:=hg
    obtain ⟨⟨old,en⟩,li⟩:=S
    obtain ⟨ia,ra,sa⟩:=Inv.sq I qa
    have la:=ra.length
    obtain ⟨f0,f1,f2,f3,f4,f5⟩:=hf it (by simp)
    exact CA (I.ok.hd hc) en li sa (by simp;omega) fun g eb=>⟨rfl,I.turned (t':=s.toks) (fun b o hb q=>eb b o hb q) f0 f1 f3 f4 f5⟩
  self:=fun _ _ _ _ _ S h=>by
    obtain ⟨⟨old,en⟩,_⟩:=S
    exact wpAny_pyIter_enum en h
def Lc (K:PySem.W.Frag)(t:TA):TI:=fun σ H R=>t σ H fun vs H1=>∃ (tp:Bool) (a:Addr),vs=[.ref a]∧(∃ xs,Sq tp K H1 a xs)∧R (Itn tp K a) H1
section
variable {X:Cx} {ea:Expr} {es:List Expr} {ek:Nat} {ep p pos:Pos}
theorem Hz {t:TA}(hg:Gl X "enumerate")(hm:X.mg "enumerate" = none)(ha:PA X [ea] t)(hs:starEach [ea] X.env=[(false,eval ea X.env)]:=by rfl) :
    PI X (.Tuple es ek ep) (.Call (.Name "enumerate" p) [ea] [] pos) (Lc X.K t):=by
  intro pins s σ H R I h
  refine Call_ (gL I hg hm boot_enumerate (PyProof.Rows.callWith_type1 (thn (ha pos pins s σ H _ I h) fun us s1 ⟨vs,H1,I1,r1,q1⟩=>?_) (by rw[hs];rfl) rfl))
  obtain ⟨tp,a,e,⟨xs,qa⟩,q⟩:=q1
  subst e
  cases r1 with | cons r rr=>
  cases rr
  cases (show _=Value.ref a from r)
  obtain ⟨ia,ra,sa⟩:=Inv.sq I1 qa
  refine uh sa fun g en li kp=>wpAny_pyIter_enum en ?_
  refine ⟨s1.heap.objs.size+1,[s1.heap.objs.size+1,s1.heap.objs.size],_,_,H1,rfl,I1.kept (t':=s1.toks) kp,zZ (tp:=tp) (a:=a) (Nat.succ_ne_self _),⟨⟨_,en⟩,li⟩,fun c hc=>?_,q⟩
  have hc':s1.heap.objs.size≤c:=by
    simp only[List.mem_cons,List.not_mem_nil,or_false] at hc
    rcases hc with rfl | rfl
    · exact Nat.le_succ _
    · exact Nat.le_refl _
  exact I1.DN hc' (I1.hok.fresh hc')
def yS (t:ATr):ATr:=fun ρ μ Q=>t ρ μ fun vs μ1=>match vs with
  | [x]=>kS x fun ds=>Q (ip ds) μ1
  | _=>False
theorem CY {At:ATr}(hg:Gl X "enumerate")(hm:X.mg "enumerate" = none)(ha:LA X [ea] At)(hs:starEach [ea] X.env=[(false,eval ea X.env)]:=by rfl) :
    LI X (.Tuple es ek ep) (.Call (.Name "enumerate" p) [ea] [] pos) (yS At):=by
  obtain ⟨t,pt,st⟩:=ha.ex
  refine ⟨_,Hz hg hm pt hs,fun σ H ρ μ Q R rl h k=>st σ H ρ μ _ _ rl h fun vs H1 ds μ1 t1 m1 p1 h1=>?_⟩
  split at h1
  case h_2=>exact False.elim h1
  cases p1 with | cons pa p2=>
  cases p2
  obtain ⟨tp,a,xs,dx,rfl,qa,la,h2⟩:=tJ pa h1
  obtain ⟨a',xs',dx',ea',qa',la',h2⟩:=uZ pa h2
  cases ea'
  refine ⟨tp,a,rfl,⟨xs',qa'⟩,k _ H1 _ μ1 t1 m1 ⟨fun i H' tk hi=>?_,fun i H' v H'' tk hi yv=>?_,fun i H' tk hi=>?_⟩ h2⟩
  · have l1:=la'.length
    rw[oM] at hi
    exact ⟨xs',xs'[i],tk.sq qa',by simp[show i < xs'.length by omega]⟩
  · obtain ⟨x,q,fx,rfl,fr,rfl⟩:=yv
    have ex:=fx _ (tk.sq qa')
    obtain ⟨d,ed,pd⟩:=la'.get' ex
    have tn:Tk H' (L2.upd H' q (.tup [.int i,x])):=.new fr
    exact ⟨tn,⟨.tup [.int i,d],by rw[oB,ed];rfl,.tup (SqT.of aF) (.cons (.int _) (.cons ((pd.mono tk).mono tn) .nil))⟩,fun μ' m'=>cm m' fr⟩
  · rw[oM] at hi
    exact ⟨xs',tk.sq qa',by rw[la'.length];exact hi⟩
end
end
section
open PySem PySem.Spec PyProof PyProof.Rows L2
section
variable {w:World} {prog:Program} {A:Around} {E:Value→Shared→Prop}
section
variable {R:Result→Shared→Prop} {I:Addr} {fp wr:List Addr} {n:Nat} {P:Nat→Value→Prop} {St:Nat→Heap→Prop}
end
variable {s:Shared}
end
section
variable {X:Cx} {e d:Expr} {p pos kp:Pos} {Te Td:ETr}
end
end
section
open PySem PySem.Spec PyProof.Rows L2
def ql (It':ATr)(G:GTr)(tt:TTr)(te:ETr)(n:Nat)(caps:List Nat):ETr:=fun ρ μ Q=>It' ρ μ fun ds μ1=>∀ p,μ1 p=none→eC p G tt te (gH ρ n caps) (fun μ'=>Q (.obj p) μ') ds (up μ1 p (.lst []))
theorem xP {K:PySem.W.Frag}{wi:TI}{It':ATr}{G:GTr}{Tt:TTr}{Te:ETr}{n:Nat}{caps:List Nat}(si:Ki K wi It'):Sim K (EM wi (vB K n G) (liftT K Tt) (wD K Te) n caps) (ql It' G Tt Te n caps):=by
  intro σ H ρ μ Q Q' rl h k
  refine si σ H ρ μ _ _ rl h fun J H1 ds μ1 t1 m1 Y h1 D hD=>?_
  have hp:=h1 D (m1.free hD)
  have tD:Tk H1 (L2.upd H1 D (.lst [])):=.new hD
  have mD:bE K (L2.upd H1 D (.lst [])) (up μ1 D (.lst [])):=fun a o e=>by
    by_cases ha:a=D
    · subst ha
      rw[aM] at e;cases e
      exact ⟨[],aF,.nil⟩
    · rw[aV ha] at e
      exact cm m1 hD a o e
  refine ⟨fun i m ys H2=>m=ds.length - i∧i≤ds.length∧Tk H1 H2∧∃ μ2,bE K H2 μ2∧eC D G Tt Te (gH ρ n caps) (fun μ'=>Q (.obj D) μ') (ds.drop i) μ2,
    ⟨ds.length,by simp,Nat.zero_le _,tD,_,mD,by simpa using hp⟩,?_⟩
  rintro i m ys H2 ⟨rfl,hi,t12,μ2,m2,h2⟩
  by_cases hlt:i < ds.length
  · refine .inr ⟨Y.go i H2 t12 hlt,fun ys' H'=>Tk H1 H'∧∃ μ',bE K H' μ'∧eC D G Tt Te (gH ρ n caps) (fun μ'=>Q (.obj D) μ') (ds.drop (i+1)) μ',fun ys' H' ⟨t',μ',m',h'⟩=>⟨ds.length - (i+1),by omega,rfl,hlt,t',μ',m',h'⟩,fun x H3 y=>?_⟩
    obtain ⟨t23,⟨d,ed,pd⟩,mk⟩:=Y.yld i H2 x H3 t12 hlt y
    have e:ds.drop i=d::ds.drop (i+1):=by
      refine (List.drop_eq_getElem_cons hlt).trans ?_
      congr 1
      rw[List.getElem?_eq_getElem hlt] at ed
      exact Option.some.inj ed
    rw[e] at h2
    have t13:=t12.trans t23
    have r3:Rl K (iI σ n caps) H3 (gH ρ n caps) μ2:=wB (rl.go (t1.trans t13) (mk _ m2)) n caps
    refine ⟨_,_,d,_,r3,pd,h2,fun σ4 H4 ρ4 μ4 t4 r4 kp h4=>⟨⟨kp.1.symm,fun j v ej=>?_⟩,_,_,_,r4,h4,fun b H5 μ5 t5 m5 h5=>?_⟩⟩
    · by_cases hj:n≤j
      · rw[kp.2 j hj];exact ej
      · obtain ⟨j',k',e1,_⟩:=mw ej
        omega
    · have t15:=t13.trans (t4.trans t5)
      cases b with
      | false=>exact sP ⟨t15,μ5,m5,h5⟩
      | true=>
        refine sE ⟨_,_,_,r4.go t5 m5,h5,fun v H6 d6 μ6 t6 m6 p6 h6=>?_⟩
        obtain ⟨zs,ez,lz,h7⟩:=ck h6
        obtain ⟨xs,ex,lx⟩:=m6 D _ ez
        have t67:Tk H6 (L2.upd H6 D (.lst (xs++[v]))):=.upd (fun ys z=>by rw[ex] at z;cases z) fun o' u z=>by rw[ex] at z;cases z
        refine ⟨xs,ex,by rw[lx.length];exact Nat.lt_of_lt_of_le lz (by decide),(t15.trans t6).trans t67,up μ6 D (.lst (zs++[d6])),fun a o ea=>?_,h7⟩
        by_cases ha:a=D
        · subst ha
          rw[aM] at ea;cases ea
          exact ⟨_,aF,(lx.append (.cons p6 .nil)).mono t67⟩
        · rw[aV ha] at ea
          exact (m6 a _ ea).ne t67 ha
  · have e:i=ds.length:=by omega
    subst e
    rw[List.drop_length] at h2
    exact .inl ⟨Y.stop _ H2 t12 (Nat.le_refl _),k _ _ _ μ2 (t1.trans t12) m2 (.obj _) h2⟩
section
variable {X:Cx} {o i:Expr} {To Ti:ETr} {apos cpos:Pos}
end
end
section
open PySem PySem.Spec PyProof.Rows L2
section
variable {X:Cx} {o i:Expr} {To Ti:ETr} {apos cpos:Pos}
end
end
section
open PySem PySem.Spec PyProof.Rows L2
theorem AW {M:Model}{A:Around}{E:Value→Shared→Prop}{s:Shared}{β:Type}(f:Nat→β→Sem (ForInStep β))(Iv:Nat→β→Shared→Prop)(Q:β→Shared→Prop)(n:Nat)
    (turn:∀ i b s,i < n→Iv i b s→wpAny M A (f i b) (fun r s'=>match r with | .yield b'=>Iv (i+1) b' s' | .done b'=>Q b' s') E s)
    (fin:∀ b s,Iv n b s→Q b s) (b:β) (h:Iv 0 b s):wpAny M A (forIn [0:n] b f) Q E s:=by
  rw[Std.Legacy.Range.forIn_eq_forIn_range'];refine wpAny_forIn_list f (fun r b s=>∃ i,r=List.range' i (n - i)∧i≤n∧Iv i b s) Q ?_ ?_ _ b ⟨0,by simp[Std.Legacy.Range.size],Nat.zero_le _,h⟩
  · rintro x rest b s ⟨i,e,hi,hv⟩
    cases hn:n - i with
    | zero=>rw[hn] at e;cases e
    | succ k=>
      rw[hn,List.range'_succ] at e
      obtain ⟨rfl,rfl⟩:=List.cons.inj e
      refine wpAny_mono (turn x b s (by omega) hv) (fun r s' q=>?_) fun _ _ q=>q
      cases r with
      | yield b'=>exact ⟨x+1,by rw[show n - (x+1)=k by omega],by omega,q⟩
      | done b'=>exact q
  · rintro b s ⟨i,e,hi,hv⟩
    have:n - i=0:=by
      cases hn:n - i with
      | zero=>rfl
      | succ k=>rw[hn,List.range'_succ] at e;cases e
    rw[show i=n by omega] at hv
    exact fin b s hv
theorem sF (l:Addr)(items:Array Value)(n:Nat)(dd:Option Addr)(sl:Array (Option Value))(x:Value)(e:Value→Bool)(j:Nat)(hj:j < items.size)(hit:e items[j]=true)(hno:∀ m (hm:m < items.size),m < j→e items[m]=false) :
    Meets (Builtin.«tuple.index» ⟨[.ref l,x],[]⟩)
      (fun A R s=>s.heap.get? l=some { cls:=.type "tuple", dict:=dd,data:=.seq items n,slots:=sl }∧(∀ y,y∈items→SeqAt.EqAt A.in1 s y x (e y))∧R (.ok (.ret (.int j s.toks))) { s with toks:=s.toks+1 }):=
  .of_wp fun prog w A R s h=>by
    rcases s with ⟨hp,g,d,tk,os⟩
    obtain ⟨hl,he,h⟩:=h
    wp_walk using AutoSeq1.wpAny_loadPart' hl,AW _ (fun i (b:Option Fin×Unit) s'=>b.1=none∧s'=⟨hp,g,d,tk,os⟩∧i≤j) _ _
    case turn=>
      rintro i b s' hi ⟨hb,rfl,hij⟩
      have hi':i < items.size:=by omega
      rw[show items[i]? = some items[i] from Array.getElem?_eq_getElem hi']
      refine wpAny_bind (he _ (Array.getElem_mem hi') prog w _ _ ?_)
      by_cases z:i=j
      · subst z
        rw[hit]
        wp_walk
        exact ⟨_,rfl,h⟩
      · rw[hno i hi' (by omega)]
        wp_walk
        exact ⟨rfl,rfl,by omega⟩
    case fin=>
      rintro b s' ⟨hb,rfl,hij⟩
      omega
    case h=>exact ⟨rfl,rfl,Nat.zero_le _⟩
theorem An {X:Cx}(hu:X.A.units+64 < cLine):MtM X "tuple.index" (fun x vs H Q=>∃ p xs y ds dy,∃ j:Nat,x=.ref p∧vs=[y]∧SqT X.K H p xs∧DpL X.K H xs ds∧Dp X.K H y dy∧bW 38 ds=true∧okD 38 dy=true∧wR ds dy=some j∧Q (.int j) H):=by
  intro pins s σ H x vs v us Q I rx rv h
  obtain ⟨p,xs,y,ds,dy,j,rfl,rfl,sq,l,py,ok,oy,hj,q⟩:=h
  cases (show v=Value.ref p from rx)
  obtain ⟨u,rfl,ru⟩:=rv.one
  obtain ⟨its,r,⟨o,e,c,n,hdat⟩,_⟩:=I.tuple sq
  obtain ⟨bs,rb⟩:=cD I py oy ru
  have he:s.heap.get? p=some ⟨.type "tuple", o.dict,.seq its.toArray n,o.slots⟩:=by
    rw[e];obtain ⟨c',dd,dt,sl⟩:=o;simp only at c hdat;subst c hdat;rfl
  unfold wR at hj
  rw[List.findIdx?_eq_some_iff_getElem] at hj
  obtain ⟨h1,h2,h3⟩:=hj
  have hl:ds.length=its.length:=by rw[← l.length,r.length]
  have at':∀ m (hm:m < its.toArray.size),∃ d,ds[m]? = some d∧lT s.heap (toP dy) its.toArray[m]=eqD d dy∧SeqAt.EqAt X.A.in1 s its.toArray[m] u (lT s.heap (toP dy) its.toArray[m]):=fun m hm=>
    item_at I l r ok oy rb hu (by simp at hm ⊢)
  refine call_meets F.slot_tuple_index ⟨_,he,rfl⟩ F.entry_tuple_index (F.args_tuple_index_2 _ _) (sF p its.toArray n o.dict o.slots u (lT s.heap (toP dy)) j (by simp;omega) ?_ ?_) ⟨he,fun w hw=>?_,?_⟩
  · obtain ⟨d,e1,e2,_⟩:=at' j (by simp;omega)
    rw[e2]
    rw[List.getElem?_eq_getElem h1] at e1;cases e1
    exact h2
  · intro m hm hlt
    obtain ⟨d,e1,e2,_⟩:=at' m hm
    rw[e2]
    have hm':m < ds.length:=by simp at hm;omega
    rw[List.getElem?_eq_getElem hm'] at e1;cases e1
    have:=h3 m hlt
    simpa using this
  · obtain ⟨m,hm,rfl⟩:=Array.mem_iff_getElem.mp hw
    obtain ⟨d,_,_,e3⟩:=at' m hm
    exact e3
  · exact ⟨.int j,H,I.tok _,⟨_,rfl⟩,q⟩
theorem Gn {X:Cx}{o e:Expr}{es:List Expr}{to:TE}{t:TA}{name:Str}{apos cpos:Pos}{id:String}{r:V→List V→Hp→VK→Prop}(slot:Slot "tuple" name id)(hty:typeOf (.builtin id)=pure (.type "method_descriptor"))(hm:MtM X id r)(ho:PE X o to)(ha:PA X (e::es) t)
    (hbase:attributeBase o name X.env (eval o X.env)=eval o X.env:=by rfl)
    (hfew:((backTo cpos (starEach (e::es) X.env)).all (fun x=>!x.1)&&(backToKw cpos (keywordEach [] X.env)).all (fun x=>x.1.isSome)
      && decide ((e::es).length+([]:List Keyword).length+(if ([]:List Keyword).isEmpty then 0 else 1) < 30))=true:=by rfl)
    (hline:(apos.endLine == cpos.line)=true:=by rfl) (hs:starEach (e::es) X.env=(false,eval e X.env)::starEach es X.env:=by rfl) (hplain:(backTo cpos (starEach es X.env)).any (·.1)=false:=by rfl) :
    PE X (.Call (.Attribute o name apos) (e::es) [] cpos) (fun σ H Q=>to σ H fun x H1=>(∃ p xs,x=.ref p∧SqT X.K H1 p xs)∧t σ H1 fun xs H2=>r x xs H2 Q):=by
  intro pins s σ H Q I h
  refine wpAny_Call_method_late hbase hfew hline rfl (thn (ho pins s σ H _ I h) fun v s1 ⟨x,H1,I1,r1,⟨p,ys,ex,sq⟩,q1⟩=>?_)
  subst ex
  cases (show v=Value.ref p from r1)
  obtain ⟨ob,he,hc,hd⟩:=I1.GS sq
  refine ⟨"tuple", id,PySem.F.plainAttrs_tuple,slot,hty,⟨ob,he,hc⟩,(fun a e=>by cases e;exact ⟨ob,he,hd⟩),?_⟩
  have hA:=ha cpos pins s1 σ H1 _ I1 q1
  rw[hs] at hA ⊢
  refine Calls.callWith_builtin (by show (false || (backTo cpos (starEach es X.env)).any (·.1))=false;rw[hplain]<;>rfl) (Calls.evalArgs_plain ?_)
  exact thn hA fun us s2 ⟨vs,H2,I2,r2,q2⟩=>hm pins s2 σ H2 _ vs _ us Q I2 r1 r2 q2
def kTp (x:D)(f:List D→Prop):Prop:=match x with
  | .tup ds=>f ds
  | _=>False
def pF (To Ti:ETr):ETr:=fun ρ μ Q=>To ρ μ fun x μ1=>kTp x fun ds=>Ti ρ μ1 fun y μ2=>(bW 38 ds=true∧okD 38 y=true)∧kN (wR ds y) fun j=>Q (.int j) μ2
theorem xY {X:Cx}{o i:Expr}{apos cpos:Pos}{To Ti:ETr}(hu:X.A.units+64 < cLine)(ho:LE X o To)(hi:LE X i Ti)
    (hbase:attributeBase o "index" X.env (eval o X.env)=eval o X.env:=by rfl)
    (hfew:((backTo cpos (starEach [i] X.env)).all (fun x=>!x.1)&&(backToKw cpos (keywordEach [] X.env)).all (fun x=>x.1.isSome)
      && decide (([i]:List Expr).length+([]:List Keyword).length+(if ([]:List Keyword).isEmpty then 0 else 1) < 30))=true:=by rfl)
    (hline:(apos.endLine == cpos.line)=true:=by rfl) (hs:starEach [i] X.env=(false,eval i X.env)::starEach [] X.env:=by rfl) (hplain:(backTo cpos (starEach [] X.env)).any (·.1)=false:=by rfl) :
    LE X (.Call (.Attribute o "index" apos) [i] [] cpos) (pF To Ti):=by
  obtain ⟨to,po,so⟩:=ho.ex
  obtain ⟨ti,pi,si⟩:=hi.ex
  refine ⟨_,Gn PySem.F.slot_tuple_index PySem.F.type_tuple_index (An hu) po (cz pi fQ hs) hbase hfew hline hs hplain,fun σ H ρ μ Q Q' rl h k=>so σ H ρ μ _ _ rl h fun x H1 dx μ1 t1 m1 p1 h1=>?_⟩
  cases p1 with
  | @tup a xs ds sq l=>
    refine ⟨⟨a,xs,rfl,sq⟩,si σ H1 ρ μ1 _ _ (rl.go t1 m1) h1 fun y H2 dy μ2 t2 m2 p2 h2=>?_⟩
    obtain ⟨⟨o1,o2⟩,h2⟩:=h2
    obtain ⟨j,ej,h2⟩:=oT h2
    cases (Dp.tup sq l).mono t2 with
    | tup sq' l'=>exact ⟨a,_,y,ds,dy,j,rfl,rfl,sq',l',p2,o1,o2,ej,k _ H2 _ μ2 (t1.trans t2) m2 (.int _) h2⟩
  | _=>exact False.elim h1
end
section
open PySem PySem.Spec PyProof.Rows L2
section
variable {X:Cx} {a b c d:Expr} {ta tb tc td:TE} {Ta Tb Tc Td:ETr} {pos:Pos} {o1 o2 o3:CmpOp} {r1 r2 r3:L2.R2} {R1 R2 R3:DR2}
end
end
section
open PySem PySem.Spec PyProof.Rows L2
section
variable {X:Cx} {tg a b:Expr} {Ta Tb:ETr} {pos:Pos}
def Ju (x:Str):List D:=x.cps.toList.map fun c=>.str ⟨#[c]⟩
def JH (a:ETr):ATr:=fun ρ μ Q=>a ρ μ fun x μ1=>match x with
  | .str z=>z.cps.all (· < 128)=true∧Q (Ju z) μ1
  | _=>False
def nT:DR2:=fun x y μ Q=>match x,y with
  | .str z,.int i=>z.length≤1000000∧kN (atI z.cps.toList i) fun c=>Q (.str ⟨#[c]⟩) μ
  | _,_=>False
theorem wg {K:PySem.W.Frag}:dj K L2.Ii nT:=fun H μ x y dx dy Q Q' m px py h k=>by
  cases px with
  | str z=>
    cases py with
    | int i=>
      obtain ⟨h1,h2⟩:=h
      obtain ⟨c,ec,h3⟩:=oT h2
      exact ⟨z,i,c,rfl,rfl,Nat.le_trans h1 (by decide),ec,k _ H _ μ (.refl H) m (.str _) h3⟩
    | _=>exact False.elim h
  | _=>exact False.elim (by cases py<;>exact h)
theorem G0 (ha:LE X a Ta)(hb:LE X b Tb)(hs:kd b:=by intro _ _;rfl):LE X (.Subscript a b pos) (ak nT Ta Tb):=by
  obtain ⟨ta,pa,sa⟩:=ha.ex
  obtain ⟨tb,pb,sb⟩:=hb.ex
  exact ⟨_,zU zT pa pb hs,fU wg sa sb⟩
def JG:V→Option Int→Option Int→Hp→VK→Prop:=fun x lo hi H Q=>∃ z,x=.str z∧z.length≤sizeLine∧Q (.str (Txt.slice z lo hi)) H
theorem part_of {v:Value}{o:Option Int}(h:PySem.IsPart v o):∃ p:Option (Int×Tok),v=partValue p∧p.map (·.1)=o:=by
  cases h with
  | none=>exact ⟨none,rfl,rfl⟩
  | int i t=>exact ⟨some (i,t),rfl,rfl⟩
theorem G3:SlR X JG:=by
  intro pins s σ H x v vl vu lo hi sl Q I rx hs pl pu h
  obtain ⟨z,rfl,hz,q⟩:=h
  obtain ⟨t,rfl⟩:=rx
  obtain ⟨pl',rfl,el⟩:=part_of pl
  obtain ⟨pu',rfl,eu⟩:=part_of pu
  refine ⟨"str", _,F.slot_str_getitem.lookup,typeIs_str _ _ _,wpAny_getItem_str_slice (l:=pl') (u:=pu') (st:=none) hs rfl ?_⟩
  have e:slicePicked z pl' pu' none=Builtin.Str.strSliceIndices lo hi 1 z.length:=by unfold slicePicked;rw[el,eu];rfl
  have le:=Txt.slice_le z lo hi
  unfold sliceMade
  rw[e]
  unfold Txt.slice at q le
  split
  · rename_i c
    rw[if_pos (by simpa using c)] at q
    exact ⟨.str z,H,I,⟨t,rfl⟩,q⟩
  · rename_i c
    rw[if_neg (by simpa using c)] at q le
    exact ⟨Nat.le_trans le hz,.str _,H,I.tok _,⟨_,rfl⟩,q⟩
def AX (Ta:ETr)(Tl Th:OTr):ETr:=fun ρ μ Q=>Ta ρ μ fun x μ1=>Tl ρ μ1 fun i μ2=>Th ρ μ2 fun j μ3=>match x with
  | .str z=>z.length≤1000000∧Q (.str (Txt.slice z i j)) μ3
  | _=>False
theorem AV {lo hi:Option Expr}{Tl Th:OTr}{p2:Pos}(ha:LE X a Ta)(hl:LO X lo Tl)(hh:LO X hi Th):LE X (.Subscript a (.Slice lo hi none p2) pos) (AX Ta Tl Th):=by
  obtain ⟨ta,pa,sa⟩:=ha.ex
  obtain ⟨tl,pl,sl⟩:=hl.ex
  obtain ⟨th,ph,sh⟩:=hh.ex
  refine ⟨_,sO G3 pa pl ph,fun σ H ρ μ Q Q' rl h k=>sa σ H ρ μ _ _ rl h fun x H1 dx μ1 t1 m1 p1 h1=>sl σ H1 ρ μ1 _ _ (rl.go t1 m1) h1 fun i H2 μ2 t2 m2 h2=>sh σ H2 ρ μ2 _ _ (rl.go (t1.trans t2) m2) h2 fun j H3 μ3 t3 m3 h3=>?_⟩
  cases p1 with
  | str z=>exact ⟨z,rfl,Nat.le_trans h3.1 (by decide),k _ H3 _ μ3 (t1.trans (t2.trans t3)) m3 (.str _) h3.2⟩
  | _=>exact False.elim h3
end
end
section
open PySem PySem.Spec PyProof.Rows L2
def BK:ETr:=fun ρ μ Q=>∀ p,μ p=none→Q (.obj p) (up μ p (.dct []))
theorem Hu {X:Cx}{pos:Pos}:LE X (.Dict [] [] pos) BK:=DG
end
section
open PySem PySem.Spec PyProof.Rows L2
section
variable {X:Cx} {o i:Expr} {apos cpos:Pos}
theorem r9:∀ {zs:List Str} {us:List Value},Vals (zs.map V.str) us→∃ l:List (Str×Tok),us=strValues l∧l.map (·.1)=zs
  | [],_,.nil=>⟨[],rfl,rfl⟩
  | z::zs,_,.cons ⟨t,e⟩ r=>by
    obtain ⟨l,h1,h2⟩:=r9 r
    exact ⟨(z,t)::l,by rw[e,h1];rfl,by rw[← h2];rfl⟩
theorem Dd:MtM X "str.join" (fun x vs H Q=>∃ sep p zs,x=.str sep∧vs=[.ref p]∧SqL X.K H p (zs.map V.str)∧JoinOk sep zs=true∧Q (.str (Txt.join sep zs)) H):=by
  intro pins s σ H x vs v us Q I rx rv h
  obtain ⟨sep,p,zs,rfl,rfl,sq,ok,q⟩:=h
  obtain ⟨t,rfl⟩:=rx
  obtain ⟨u,rfl,ru⟩:=rv.one
  cases (show u=Value.ref p from ru)
  obtain ⟨its,r,pl,_⟩:=I.list sq
  obtain ⟨l,rfl,e⟩:=r9 r
  exact SC.join pl.isList e ok fun t' k=>⟨.str _,H,I.tok _,⟨_,rfl⟩,q⟩
theorem Ha {e:Expr}{es:List Expr}{to:TE}{t:TA}{name:Str}{id:String}{r:V→List V→Hp→VK→Prop}(slot:Slot "str" name id)(hty:typeOf (.builtin id)=pure (.type "method_descriptor"))(hm:MtM X id r)(ho:PE X o to)(ha:PA X (e::es) t)
    (hbase:attributeBase o name X.env (eval o X.env)=eval o X.env:=by rfl)
    (hfew:((backTo cpos (starEach (e::es) X.env)).all (fun x=>!x.1)&&(backToKw cpos (keywordEach [] X.env)).all (fun x=>x.1.isSome)
      && decide ((e::es).length+([]:List Keyword).length+(if ([]:List Keyword).isEmpty then 0 else 1) < 30))=true:=by rfl)
    (hline:(apos.endLine == cpos.line)=true:=by rfl) (hs:starEach (e::es) X.env=(false,eval e X.env)::starEach es X.env:=by rfl) (hplain:(backTo cpos (starEach es X.env)).any (·.1)=false:=by rfl) :
    PE X (.Call (.Attribute o name apos) (e::es) [] cpos) (fun σ H Q=>to σ H fun x H1=>(∃ z,x=.str z)∧t σ H1 fun xs H2=>r x xs H2 Q):=by
  intro pins s σ H Q I h
  refine wpAny_Call_method_late hbase hfew hline rfl (thn (ho pins s σ H _ I h) fun v s1 ⟨x,H1,I1,r1,⟨z,ex⟩,q1⟩=>?_)
  subst ex
  obtain ⟨tk,rfl⟩:=r1
  refine ⟨"str", id,PySem.F.plainAttrs_str,slot,hty,typeIs_str _ _ _,(fun a e=>nomatch e),?_⟩
  have hA:=ha cpos pins s1 σ H1 _ I1 q1
  rw[hs] at hA ⊢
  refine Calls.callWith_builtin (by show (false || (backTo cpos (starEach es X.env)).any (·.1))=false;rw[hplain]<;>rfl) (Calls.evalArgs_plain ?_)
  exact thn hA fun us s2 ⟨vs,H2,I2,r2,q2⟩=>hm pins s2 σ H2 (.str z) vs _ us Q I2 ⟨tk,rfl⟩ r2 q2
def gY:List D→Option (List Str)
  | []=>some []
  | .str z::r=>(gY r).map (z::·)
  | _::_=>none
theorem vK {K:PySem.W.Frag}{H:Hp}:∀ {xs:List V} {ds:List D} {zs:List Str},DpL K H xs ds→gY ds=some zs→xs=zs.map V.str
  | _,_,_,.nil,e=>by simp only[gY,Option.some.injEq] at e;subst e;rfl
  | _,d::ds,zs,.cons h l,e=>by
    cases h with
    | str z=>
      simp only[gY] at e
      cases e1:gY ds with
      | none=>rw[e1] at e;cases e
      | some ys=>
        rw[e1] at e
        cases e
        rw[vK l e1];rfl
    | _=>cases e
def vL (To Ti:ETr):ETr:=fun ρ μ Q=>To ρ μ fun x μ1=>match x with
  | .str sep=>Ti ρ μ1 fun y μ2=>match y with
    | .ls ds=>∃ zs,gY ds=some zs∧JoinOk sep zs=true∧Q (.str (Txt.join sep zs)) μ2
    | _=>False
  | _=>False
theorem CK {To Ti:ETr}(ho:LE X o To)(hi:LE X i Ti)
    (hbase:attributeBase o "join" X.env (eval o X.env)=eval o X.env:=by rfl)
    (hfew:((backTo cpos (starEach [i] X.env)).all (fun x=>!x.1)&&(backToKw cpos (keywordEach [] X.env)).all (fun x=>x.1.isSome)
      && decide (([i]:List Expr).length+([]:List Keyword).length+(if ([]:List Keyword).isEmpty then 0 else 1) < 30))=true:=by rfl)
    (hline:(apos.endLine == cpos.line)=true:=by rfl) (hs:starEach [i] X.env=(false,eval i X.env)::starEach [] X.env:=by rfl) (hplain:(backTo cpos (starEach [] X.env)).any (·.1)=false:=by rfl) :
    LE X (.Call (.Attribute o "join" apos) [i] [] cpos) (vL To Ti):=by
  obtain ⟨to,po,so⟩:=ho.ex
  obtain ⟨ti,pi,si⟩:=hi.ex
  refine ⟨_,Ha PySem.F.slot_str_join PySem.F.type_str_join Dd po (cz pi fQ hs) hbase hfew hline hs hplain,fun σ H ρ μ Q Q' rl h k=>so σ H ρ μ _ _ rl h fun x H1 dx μ1 t1 m1 p1 h1=>?_⟩
  cases p1 with
  | str z=>
    refine ⟨⟨z,rfl⟩,si σ H1 ρ μ1 _ _ (rl.go t1 m1) h1 fun y H2 dy μ2 t2 m2 p2 h2=>?_⟩
    cases p2 with
    | @ls a xs ds sq l=>
      obtain ⟨zs,e,ok,h2⟩:=h2
      have:=vK l e
      subst this
      exact ⟨z,a,zs,rfl,rfl,sq.sq,ok,k _ H2 _ μ2 (t1.trans t2) m2 (.str _) h2⟩
    | _=>exact False.elim h2
  | _=>exact False.elim h1
end
theorem join_list:∀ (cs:List Nat),(Txt.join (Str.ofString "") (cs.map fun c=>⟨#[c]⟩)).cps.toList=cs:=by
  intro cs
  show (Builtin.Str.glued (Str.ofString "") _).cps.toList=cs
  rw[StrLaws.glued_eq_join]
  have e0:(Str.ofString "").cps = #[]:=by decide +kernel
  induction cs with
  | nil=>rfl
  | cons c r ih=>
    cases r with
    | nil=>rfl
    | cons d r=>
      simp only[List.map_cons,Str.join] at ih ⊢
      show ((#[c]++(Str.ofString "").cps)++_).toList=_
      rw[Array.toList_append,ih,e0];simp
theorem Eu (zs:List Str)(h:∀ z∈zs,z.length=1)(hl:zs.length≤1000):JoinOk (Str.ofString "") zs=true:=by
  unfold JoinOk
  rw[StrLaws.joinTotal]
  have e0:(Str.ofString "").length=0:=by decide +kernel
  have es:(zs.map (·.length)).sum=zs.length:=by
    clear hl
    induction zs with
    | nil=>rfl
    | cons z r ih=>rw[List.map_cons,List.sum_cons,h z List.mem_cons_self,ih fun y hy=>h y (List.mem_cons_of_mem _ hy),List.length_cons];omega
  rw[es,e0]
  have:Builtin.Str.tooLong (zs.length+zs.length*0)=false:=decide_eq_false (Nat.not_lt.mpr (Nat.le_trans (show zs.length+zs.length*0≤1000 by omega) (by decide)))
  rw[this];rfl
end
section
open PySem PySem.Spec PyProof PyProof.Rows L2
section
variable {X:Cx} {o:Expr} {apos cpos pos p:Pos} {x:Str}
end
end
section
open PySem PySem.Spec PyProof.Rows L2
end
structure WE where
  nm:Str
  pc:Int
  rm:D
  ma:D
  so:D
def WE.toD (w:WE):D:=.tup [.str w.nm,.int w.pc,w.rm,w.ma,w.so]
structure WE.Ok (w:WE):Prop where
  n:PyData.strOk w.nm=true
  ne:w.nm≠Str.ofString ""
  p0:1≤w.pc
  p1:w.pc≤20
structure SE where
  nm:Str
  r0:Str
  rd:List Str
  bt:Int
  bg:D
  mn:D
  R:RN
def SE.road (s:SE):List Str:=s.r0::s.rd
def SE.toD (s:SE):D:=.tup [.str s.nm,.tup (s.road.map .str),.int s.bt,s.bg,s.mn,s.R.toD]
structure SE.Ok (s:SE):Prop where
  n:PyData.strOk s.nm=true
  r:∀ x∈s.road,PyData.strOk x=true
  b0:1≤s.bt
  b1:s.bt≤8
  R:s.R.Ok
  bo:okD 38 s.bg=true
  mo:okD 38 s.mn=true
def SE.lim (s:SE):Int:=s.R.r / s.R.s
theorem SE.Ok.lim {s:SE}(h:s.Ok):1≤s.lim∧s.lim≤60:=by
  have t:=h.R.t
  have q0:=t.q0
  have h1:=t.ge
  have h2:=t.le
  exact ⟨(Int.le_ediv_iff_mul_le q0).mpr h1,Int.ediv_le_of_le_mul q0 h2⟩
structure PE' (ws:List WE) (ss:List SE):Prop where
  w:∀ x∈ws,x.Ok
  s:∀ x∈ss,x.Ok
  rd:∀ x∈ss,x.road.Sublist (ws.map WE.nm)
  wl:ws.length≤8
  sl:ss.length≤8
  nd:(ss.map SE.nm).Nodup
  wn:(ws.map WE.nm).Nodup
theorem PE'.all {ws:List WE}{ss:List SE}(h:PE' ws ss):∀ x∈ss,∀ n∈x.road,∃ y∈ws,y.nm=n:=fun x hx n hn=>List.mem_map.mp ((h.rd x hx).subset hn)
theorem PE'.on {ws:List WE}{ss:List SE}(h:PE' ws ss):∀ x∈ss,∃ y∈ws,y.nm=x.r0:=fun x hx=>h.all x hx x.r0 List.mem_cons_self
theorem Ei (w:Str)(os:List Str):inG (.str w) (os.map .str)=decide (w∈os):=by
  unfold inG
  rw[List.any_map,Bool.eq_iff_iff,List.any_eq_true,decide_eq_true_eq]
  constructor
  · rintro ⟨x,hx,e⟩
    have:x=w:=by simpa[eqD] using e
    exact this ▸ hx
  · exact fun h=>⟨w,h,by simp[eqD]⟩
theorem vN {os:List Str}{k:Nat}(h:∀ x∈os,PyData.strOk x=true):bW k (os.map .str)=true:=by
  induction os with
  | nil=>simp[bW]
  | cons a r ih=>
    rw[List.map_cons,bW,Bool.and_eq_true]
    exact ⟨by cases k<;>simpa[okD] using h a List.mem_cons_self,ih fun n z=>h n (List.mem_cons_of_mem _ z)⟩
structure SOk (x:Int×Int):Prop where
  d0:0 < x.2
  g:Int.gcd x.1 x.2=1
  n:Le x.1 (1000*x.2)
def frS (x:Int×Int):D:=fr x.1 x.2
theorem SOk.vl {x:Int×Int}(h:SOk x):Vl (frS x) x.1 x.2:=⟨⟨x.1,x.2,rfl,h.d0,h.g,rfl,Nat.le_refl _,Nat.le_refl _⟩,h.d0⟩
def KA (t x:Int×Int):Int×Int:=(t.1*x.2+x.1*t.2,t.2*x.2)
def cF:List (Int×Int)→Int
  | []=>1
  | x::r=>x.2*cF r
theorem ef:∀ {xs:List (Int×Int)},(∀ x∈xs,SOk x)→1≤cF xs
  | [],_=>Int.le_refl _
  | x::r,h=>by
    have h1:=ef fun y hy=>h y (List.mem_cons_of_mem _ hy)
    have h2:=(h x List.mem_cons_self).d0
    show 1≤x.2*cF r
    have:=Int.mul_le_mul (show 1≤x.2 by omega) h1 (by decide) (by omega)
    omega
structure Sm (t:Int×Int) (r:List (Int×Int)) (k:Nat):Prop where
  b0:0 < t.2
  pr:t.2*cF r≤100000000000000000000000
  a:Le t.1 (1000*k*t.2)
  k:k+r.length≤8
  o:∀ x∈r,SOk x
theorem Sm.item {t x:Int×Int}{r:List (Int×Int)}{k:Nat}(h:Sm t (x::r) k):Bd x.1∧Bd x.2:=by
  have hx:=h.o x List.mem_cons_self
  have d0:=hx.d0
  have p1:=ef fun y hy=>h.o y (List.mem_cons_of_mem _ hy)
  have b0:=h.b0
  have hb:x.2≤100000000000000000000000:=by
    have e:t.2*cF (x::r)=x.2*(t.2*cF r):=by show t.2*(x.2*cF r)=_;rw[Int.mul_left_comm]
    have h1:1≤t.2*cF r:=by
      have:=Int.mul_le_mul (show 1≤t.2 by omega) p1 (by decide) (by omega)
      omega
    have:=Int.mul_le_mul_of_nonneg_left h1 (show 0≤x.2 by omega)
    have:=h.pr
    rw[e] at this
    omega
  exact ⟨hx.n.mono (by omega),Le.of (by omega) (by omega)⟩
theorem Sm.next {t x:Int×Int}{r:List (Int×Int)}{k:Nat}(h:Sm t (x::r) k):Sm (KA t x) r (k+1):=by
  have hx:=h.o x List.mem_cons_self
  have d0:=hx.d0
  have b0:=h.b0
  refine ⟨Int.mul_pos b0 d0,?_,?_,by have:=h.k;simp at this;omega,fun y hy=>h.o y (List.mem_cons_of_mem _ hy)⟩
  · have:=h.pr
    show t.2*x.2*cF r≤_
    rw[Int.mul_assoc]
    exact this
  · have h1:=h.a.mul (Le.of (a:=x.2) (A:=x.2) (by omega) (Int.le_refl _))
    have h2:=hx.n.mul (Le.of (a:=t.2) (A:=t.2) (by omega) (Int.le_refl _))
    refine (h1.add h2).mono (Int.le_of_eq ?_)
    show 1000*(k:Int)*t.2*x.2+1000*x.2*t.2=1000*((k+1:Nat):Int)*(t.2*x.2)
    rw[Int.natCast_succ]
    rw[show 1000*((k:Int)+1)=1000*k+1000 by omega,Int.add_mul,Int.mul_assoc (1000*(k:Int)),Int.mul_assoc 1000 x.2 t.2,Int.mul_comm x.2 t.2]
theorem Sm.less {t x:Int×Int}{r:List (Int×Int)}{k:Nat}(h:Sm t (x::r) k):Sm t r k:=by
  have hx:=h.o x List.mem_cons_self
  have d0:=hx.d0
  have b0:=h.b0
  have o':=fun y hy=>h.o y (List.mem_cons_of_mem x hy)
  refine ⟨b0,?_,h.a,by have:=h.k;simp at this;omega,o'⟩
  have p1:=ef o'
  have e:t.2*cF (x::r)=x.2*(t.2*cF r):=by show t.2*(x.2*cF r)=_;rw[Int.mul_left_comm]
  have h1:0≤t.2*cF r:=Int.mul_nonneg (by omega) (by omega)
  have:=Int.mul_le_mul_of_nonneg_right (show 1≤x.2 by omega) h1
  have:=h.pr
  rw[e] at this
  omega
abbrev ShF:=Str→Int×Int
structure Kn (f:ShF) (ss:List SE):Prop where
  o:∀ s∈ss,SOk (f s.nm)
  p:cF (ss.map fun s=>f s.nm)≤100000000000000000000000
def iV (f:ShF)(n:Str)(x:Int×Int):ShF:=fun w=>if w=n then x else f w
theorem kl {f:ShF}:∀ {ss:List SE},(∀ s∈ss,SOk (f s.nm)∧(f s.nm).2≤96)→cF (ss.map fun s=>f s.nm)≤96 ^ ss.length
  | [],_=>Int.le_refl _
  | s::r,h=>by
    have ih:=kl fun y hy=>h y (List.mem_cons_of_mem s hy)
    obtain ⟨h1,h2⟩:=h s List.mem_cons_self
    have p1:=ef (xs:=r.map fun s=>f s.nm) fun x hx=>by
      obtain ⟨y,yi,rfl⟩:=List.mem_map.mp hx
      exact (h y (List.mem_cons_of_mem s yi)).1
    show (f s.nm).2*_≤96 ^ (r.length+1)
    rw[Int.pow_succ,Int.mul_comm]
    exact Int.mul_le_mul ih h2 (by have:=h1.d0;omega) (by omega)
theorem Fg {n:Nat}(h:n≤7):(96:Int) ^ n≤96 ^ 7:=by
  match n,h with
  | 0,_=>decide
  | 1,_=>decide
  | 2,_=>decide
  | 3,_=>decide
  | 4,_=>decide
  | 5,_=>decide
  | 6,_=>decide
  | 7,_=>decide
theorem Kn.one {f:ShF}{ss:List SE}{n:Str}{x:Int×Int}(h:∀ s∈ss,SOk (f s.nm)∧(f s.nm).2≤96)(hl:ss.length≤8)(nd:(ss.map SE.nm).Nodup)(hx:SOk x)(hd:x.2≤1000000000):Kn (iV f n x) ss:=by
  have key:∀ (r:List SE),(∀ s∈r,SOk (f s.nm)∧(f s.nm).2≤96)→(r.map SE.nm).Nodup→r.length≤8→cF (r.map fun s=>iV f n x s.nm)≤1000000000*96 ^ (r.length - 1)∨(n ∉ r.map SE.nm∧cF (r.map fun s=>iV f n x s.nm)≤96 ^ r.length):=by
    intro r
    induction r with
    | nil=>exact fun _ _ _=>.inr ⟨(fun z=>nomatch z),Int.le_refl _⟩
    | cons s r ih=>
      intro hr hn hl
      rw[List.map_cons] at hn;rw[List.nodup_cons] at hn
      have hr':=fun y hy=>hr y (List.mem_cons_of_mem s hy)
      obtain ⟨h1,h2⟩:=hr s List.mem_cons_self
      have hl':r.length≤7:=by simpa using hl
      have ok':∀ x'∈r.map fun s=>iV f n x s.nm,SOk x':=fun x' hx'=>by
        obtain ⟨y,hy,rfl⟩:=List.mem_map.mp hx'
        show SOk (iV f n x y.nm)
        unfold iV
        split
        · exact hx
        · exact (hr' y hy).1
      have p1:=ef ok'
      show (iV f n x s.nm).2*_≤1000000000*96 ^ (r.length+1 - 1)∨(n ∉ s.nm::r.map SE.nm∧(iV f n x s.nm).2*_≤96 ^ (r.length+1))
      rw[Nat.add_sub_cancel]
      by_cases e:s.nm=n
      · refine .inl ?_
        have hs:iV f n x s.nm=x:=if_pos e
        rw[hs]
        have hnr:n ∉ r.map SE.nm:=by rw[← e];exact hn.1
        have eq:(r.map fun s=>iV f n x s.nm)=r.map fun s=>f s.nm:=List.map_congr_left fun y hy=>if_neg fun z=>hnr (List.mem_map.mpr ⟨y,hy,z⟩)
        rw[eq] at p1 ⊢
        exact Int.mul_le_mul hd (kl hr') (by omega) (by decide)
      · have hs:iV f n x s.nm=f s.nm:=if_neg e
        rw[hs]
        have d0:=h1.d0
        rcases ih hr' hn.2 (by omega) with q | ⟨q1,q2⟩
        · refine .inl ?_
          cases r with
          | nil=>
            show (f s.nm).2*1≤1000000000*1
            omega
          | cons s' r'=>
            rw[List.length_cons,Nat.add_sub_cancel] at q
            have:=Int.mul_le_mul h2 q (by omega) (by decide)
            rw[List.length_cons,Int.pow_succ]
            have e3:(96:Int)*(1000000000*96 ^ r'.length)=1000000000*(96 ^ r'.length*96):=by
              rw[Int.mul_left_comm,Int.mul_comm 96 (96 ^ r'.length)]
            rw[e3] at this
            exact this
        · refine .inr ⟨fun z=>?_,?_⟩
          · rcases List.mem_cons.mp z with z | z
            · exact e z.symm
            · exact q1 z
          · rw[Int.pow_succ,Int.mul_comm]
            exact Int.mul_le_mul q2 h2 (by omega) (by omega)
  refine ⟨fun s hs=>?_,?_⟩
  · show SOk (iV f n x s.nm)
    unfold iV
    split
    · exact hx
    · exact (h s hs).1
  · have e8:(96:Int) ^ 8≤100000000000000000000000:=by decide
    have e7:1000000000*(96:Int) ^ 7≤100000000000000000000000:=by decide
    rcases key ss h nd hl with q | ⟨_,q⟩
    · have:=Fg (n:=ss.length - 1) (by omega)
      have:=Int.mul_le_mul_of_nonneg_left this (show (0:Int)≤1000000000 by decide)
      omega
    · by_cases e:ss.length=8
      · rw[e] at q;omega
      · have:=Fg (n:=ss.length) (by omega)
        have:(96:Int) ^ 7≤96 ^ 8:=by decide
        omega
theorem oz (kvs:List (L2.Key×D))(k j:L2.Key)(d:D):cJ (putD kvs k d) j=if j=k then some d else cJ kvs j:=by
  unfold putD cJ
  split
  · rename_i ha
    induction kvs with
    | nil=>cases ha
    | cons kv r ih=>
      rw[List.map_cons,List.find?_cons,List.find?_cons]
      by_cases e:kv.1=k
      · rw[if_pos e]
        by_cases f:j=k
        · rw[if_pos f,f,decide_eq_true e];rfl
        · rw[if_neg f,e,decide_eq_false (Ne.symm f)]
          by_cases hr:(r.any fun kv=>decide (kv.1=k))=true
          · have:=ih hr
            rw[if_neg f] at this
            exact this
          · have same:r.map (fun kv=>if kv.1=k then (kv.1,d) else kv)=r:=by
              refine (List.map_congr_left fun x hx=>?_).trans (List.map_id r)
              have:¬ x.1=k:=fun z=>hr (List.any_eq_true.mpr ⟨x,hx,decide_eq_true z⟩)
              rw[if_neg this];rfl
            rw[same]
      · rw[if_neg e]
        have hr:(r.any fun kv=>decide (kv.1=k))=true:=by
          rw[List.any_cons,decide_eq_false e] at ha
          exact ha
        by_cases f:kv.1=j
        · rw[decide_eq_true f]
          have:¬ j=k:=fun z=>e (f.trans z)
          rw[if_neg this]
        · rw[decide_eq_false f]
          exact ih hr
  · rename_i ha
    rw[List.find?_append]
    by_cases f:j=k
    · rw[if_pos f,f]
      have:kvs.find? (fun kv=>decide (kv.1=k))=none:=List.find?_eq_none.mpr fun x hx z=>ha (List.any_eq_true.mpr ⟨x,hx,z⟩)
      rw[this]
      simp
    · rw[if_neg f]
      have:([(k,d)]:List (L2.Key×D)).find? (fun kv=>decide (kv.1=j))=none:=by simp[Ne.symm f]
      rw[this]
      simp
theorem AQ (kvs:List (L2.Key×D))(k:L2.Key)(d:D):(putD kvs k d).length≤kvs.length+1:=by
  unfold putD
  split
  · rw[List.length_map];omega
  · rw[List.length_append];exact Nat.le_refl _
section
open PySem PySem.Spec PyProof.Rows L2
section
variable {X:Cx} {a b:Expr} {Ta Tb:ETr} {pos:Pos}
def BJ:DR2:=fun x y μ Q=>match x with
  | .str z=>nT (.str z) y μ Q
  | x=>L3.rIx x y μ Q
theorem CC {K:PySem.W.Frag}:dj K (L2.rIx K) BJ:=fun H μ x y dx dy Q Q' m px py h k=>by
  cases dx with
  | str z=>exact .inr (.inr (wg H μ x y (.str z) dy Q Q' m px py h k))
  | _=>exact BH H μ x y _ dy Q Q' m px py h k
theorem F3 (ha:LE X a Ta)(hb:LE X b Tb)(hs:kd b:=by intro _ _;rfl):LE X (.Subscript a b pos) (ak BJ Ta Tb):=by
  obtain ⟨ta,pa,sa⟩:=ha.ex
  obtain ⟨tb,pb,sb⟩:=hb.ex
  exact ⟨_,zU yt pa pb hs,fU CC sa sb⟩
def Gr:DR2:=fun x y μ Q=>match x,y with
  | .int i,.int n=>(i=1∧0≤n∧n≤60)∧Q (.int (i*2 ^ n.toNat)) μ
  | _,_=>False
def G8:DR2:=fun x y μ Q=>match x,y with
  | .int i,.int n=>0≤n∧Q (.int (i.fdiv (2 ^ n.toNat))) μ
  | _,_=>False
def zC:DR2:=fun x y μ Q=>match x,y with
  | .int i,.int n=>Q (.int (Builtin.bitAnd i n)) μ
  | _,_=>False
theorem zh:OpR X (binaryOp .LShift) (rI (fun i n=>i=1∧0≤n∧n≤60) fun i n=>.int (i*2 ^ n.toNat)):=opI fun i n _ _ _ _ _ hc q=>by
  obtain ⟨e,h0,h1⟩:=hc
  refine lshift_int h0 ?_ q
  rw[e]
  have:Builtin.Int.intBits 1=1:=by decide
  rw[this]
  omega
theorem zc:OpR X (binaryOp .RShift) (rI (fun _ n=>0≤n) fun i n=>.int (i.fdiv (2 ^ n.toNat))):=opI fun _ _ _ _ _ _ _ hc q=>rshift_int hc q
theorem Co:OpR X (binaryOp .BitAnd) (rI0 fun i n=>.int (Builtin.bitAnd i n)):=Fs fun _ _ _ _ _ _ _ q=>and_int q
theorem GL (ha:LE X a Ta)(hb:LE X b Tb):LE X (.BinOp a .LShift b pos) (ak Gr Ta Tb):=fu zh (je (fun i j=>.int (i*2 ^ j.toNat)) (fun _ _ _=>.int _) (fun _ _ _ _ h=>⟨h.1,h.2⟩) (fun dx dy μ Q h=>by cases dx<;>cases dy<;>first | exact ⟨⟨_,rfl⟩,_,rfl⟩ | exact False.elim h)) ha hb
theorem HC (ha:LE X a Ta)(hb:LE X b Tb):LE X (.BinOp a .RShift b pos) (ak G8 Ta Tb):=fu zc (je (fun i j=>.int (i.fdiv (2 ^ j.toNat))) (fun _ _ _=>.int _) (fun _ _ _ _ h=>⟨h.1,h.2⟩) (fun dx dy μ Q h=>by cases dx<;>cases dy<;>first | exact ⟨⟨_,rfl⟩,_,rfl⟩ | exact False.elim h)) ha hb
theorem Dr (ha:LE X a Ta)(hb:LE X b Tb):LE X (.BinOp a .BitAnd b pos) (ak zC Ta Tb):=fu Co (qg (fun i j=>.int (Builtin.bitAnd i j)) (fun _ _ _=>.int _) (fun _ _ _ _ h=>h) (fun dx dy μ Q h=>by cases dx<;>cases dy<;>first | exact ⟨⟨_,rfl⟩,_,rfl⟩ | exact False.elim h)) ha hb
end
theorem zV {X:Cx}{tg elt iter:Expr}{Te:ETr}{Tt:TTr}{pos:Pos}{It':ATr}{G:GTr}{ifs:List Expr}{scope fsc:Scope}(XN Nc:List Str)(n:Nat)(caps:List Nat)(hxe:X.xe=fun _ _=>False)(hcalm:X.calm=true)(hi:LI X tg iter It')
    (hbody:∀ (cl:List (Str×Addr)) (C:Addr) (s₀:Shared) (H₀:Hp) (ex:List Addr),LGc (b7 X scope Nc cl C s₀ H₀ ex) n tg G∧BW (b7 X scope Nc cl C s₀ H₀ ex) ifs Tt∧LE (b7 X scope Nc cl C s₀ H₀ ex) elt Te)
    (hsc:X.env.scope=fsc) (hXN:X.N=XN) (hok:qr fsc.names XN scope Nc n caps=true)
    (hs:∀ x,foldedSetIterable iter X.env x=pure x:=by intro _;rfl) :
    LE X (.ListComp elt [⟨tg,iter,ifs,0⟩] scope pos) (ql It' G Tt Te n caps):=by
  unfold qr at hok
  simp only[Bool.and_eq_true,List.all_eq_true] at hok
  obtain ⟨⟨⟨h1,h2⟩,h3⟩,h4⟩:=hok
  obtain ⟨wi,pi,si⟩:=hi.ex
  refine ⟨_,wo (g:=vB X.K n G) (tt:=liftT X.K Tt) (te:=wD X.K Te) hxe hcalm pi (fun cl C s₀ H₀ ex=>let ⟨h1,h2,h3⟩:=hbody cl C s₀ H₀ ex;⟨h1.pe,h2.pe,h3.pe⟩) (fun y hy hf=>?_) (fun y hy hf=>?_) (by simpa using h2) (fun y hy hf=>?_) (by simpa using h3) (fun j k hj=>?_) hs,xP si⟩
  · have:=(h1 y hy).1.1
    show X.env.scope.names.lookup y.1=_
    rw[hsc]
    simpa[hf] using this
  · have:=(h1 y hy).1.2
    simp[hf] at this
  · have:=(h1 y hy).2
    simpa[hf] using this
  · have hl:j < caps.length:=(List.getElem?_eq_some_iff.mp hj).1
    have:=h4 j (List.mem_range.mpr hl)
    rw[hj] at this
    dsimp only at this
    rw[hXN]
    cases e:XN[k]? with
    | none=>rw[e] at this;cases this
    | some x=>
      rw[e] at this
      dsimp only at this
      rw[Bool.and_eq_true] at this
      exact ⟨x,by simpa using this.1,rfl,by simpa using this.2⟩
end
structure Bp (μ:Mu) (b c:Addr):Prop where
  ne:b≠c
  ex:∃ (ns:List Int) (s:Int),μ b=some (.lst [.obj c,.int s])∧μ c=some (.lst (ns.map .int))
structure dz (b c:Addr) (μ μ':Mu):Prop where
  p:Bp μ' b c
  o:∀ a,a≠b→a≠c→μ' a=μ a
theorem dz.trans {b c:Addr}{μ μ1 μ2:Mu}(h:dz b c μ μ1)(k:dz b c μ1 μ2):dz b c μ μ2:=⟨k.p,fun a h1 h2=>(k.o a h1 h2).trans (h.o a h1 h2)⟩
theorem Bp.nb {μ:Mu}{b c a:Addr}(h:Bp μ b c)(e:μ a=none):a≠b∧a≠c:=by
  obtain ⟨_,ns,s,e1,e2⟩:=h
  exact ⟨(fun z=>by subst z;rw[e1] at e;cases e),(fun z=>by subst z;rw[e2] at e;cases e)⟩
theorem Bp.up {μ:Mu}{b c a:Addr}{o:MO}(h:Bp μ b c)(n:a≠b∧a≠c):Bp (up μ a o) b c:=by
  obtain ⟨ne,ns,s,e1,e2⟩:=h
  exact ⟨ne,ns,s,by rw[aV n.1.symm];exact e1,by rw[aV n.2.symm];exact e2⟩
theorem dz.old {b c a:Addr}{μ μ':Mu}{o:MO}(h:dz b c μ μ')(hB:Bp μ b c)(n1:a≠b)(n2:a≠c)(e:μ a=some o):μ' a=some o:=(h.o a n1 n2).trans e
section
variable {G:GTr} {tt:TTr} {te:ETr} {ρc:ST} {ds:List D} {μ:Mu} {Q:DK} {b c:Addr}
theorem o4 (hP:Bp μ b c)(I:List D→List D→Prop)(h0:I ds [])(hl:ds.length≤999999)
    (step:∀ d r zs μ',Bp μ' b c→(∀ a o,a≠b→a≠c→μ a=some o→μ' a=some o)→I (d::r) zs→∀ (N:Option D→Mu→Prop),(∀ oy μ2,I r (zs++oy.toList)→dz b c μ' μ2→N oy μ2)→G d ρc μ' fun ρ1 μ1=>tt ρ1 μ1 fun c μ2=>kIf c (te ρ1 μ2 fun y μ3=>N (some y) μ3) (N none μ2))
    (k:∀ zs μ',I [] zs→dz b c μ μ'→Q (.ls zs) μ'):Bi G tt te ρc ds μ Q:=by
  intro p hp
  have pb:=hP.nb hp
  refine fT (fun r μ'=>∃ zs,I r zs∧zs.length+r.length≤ds.length∧μ' p=some (.lst zs)∧Bp μ' b c∧∀ a,a≠b→a≠c→a≠p→μ' a=μ a) ?_ ?_ _ _ ⟨[],h0,by simp,aM,hP.up pb,fun a _ _ h=>aV h⟩
  · rintro μ' ⟨zs,hI,_,e,P,fr⟩
    refine cj e (k zs _ hI ⟨?_,fun a h1 h2=>?_⟩)
    · obtain ⟨ne,ns,s,e1,e2⟩:=P
      exact ⟨ne,ns,s,by unfold dn;rw[if_neg pb.1.symm];exact e1,by unfold dn;rw[if_neg pb.2.symm];exact e2⟩
    · unfold dn
      split
      · rename_i z;subst z;exact hp.symm
      · rename_i z;exact fr a h1 h2 z
  · rintro d r μ' N ⟨zs,hI,hz,e,P,fr⟩ hN
    rw[List.length_cons] at hz
    refine step d r zs μ' P (fun a o n1 n2 h=>?_) hI (fun oy μ3=>match oy with
      | some y=>kL μ3 p fun zs=>zs.length < 1000000∧N (up μ3 p (.lst (zs++[y])))
      | none=>N μ3) ?_
    · rw[fr a n1 n2 (fun z=>by subst z;rw[hp] at h;cases h)];exact h
    intro oy μ2 hoy P2
    have e2:μ2 p=some (.lst zs):=by rw[P2.o p pb.1 pb.2];exact e
    cases oy with
    | none=>exact hN _ ⟨zs,by simpa using hoy,by omega,e2,P2.p,fun a h1 h2 h3=>(P2.o a h1 h2).trans (fr a h1 h2 h3)⟩
    | some y=>
      refine cj e2 ⟨by omega,hN _ ⟨zs++[y],hoy,by rw[List.length_append];simp;omega,aM,P2.p.up pb,fun a h1 h2 h3=>?_⟩⟩
      rw[aV h3,P2.o a h1 h2,fr a h1 h2 h3]
end
def soS (b:Bool):Str:=if b then Str.ofString "turns" else Str.ofString "line"
theorem Km (b:Bool):PyData.strOk (soS b)=true:=by cases b<;>decide +kernel
theorem C4:PyData.strOk (Str.ofString "turns")=true:=by decide +kernel
theorem KW (b:Bool):decide (soS b=Str.ofString "turns")=b:=by cases b<;>decide +kernel
structure WB where
  nm:Str
  pc:Int
  rm:Int
  ma:D
  so:Bool
def WB.toD (w:WB):D:=.tup [.str w.nm,.int w.pc,.int w.rm,w.ma,.str (soS w.so)]
structure WB.Ok (w:WB):Prop where
  n:PyData.strOk w.nm=true
  p0:1≤w.pc
  p1:w.pc≤20
  r0:1≤w.rm
  r1:w.rm≤60
structure SB where
  nm:Str
  rd:List Str
  bt:Int
  bg:D
  mn:D
  ru:List D
  r:Int
  s:Int
def SB.rl (x:SB):D:=.tup (x.ru++[fr x.r x.s])
def SB.toD (x:SB):D:=.tup [.str x.nm,.tup (x.rd.map .str),.int x.bt,x.bg,x.mn,x.rl]
structure SB.Ok (x:SB):Prop where
  rd:∀ z∈x.rd,PyData.strOk z=true
  b0:1≤x.bt
  b1:x.bt≤8
  f:FrB 1 60 x.r x.s
  l:x.rd.length≤100
def SB.lim (x:SB):Int:=x.r / x.s
theorem SB.Ok.lim {x:SB}(h:x.Ok):1≤x.lim∧x.lim≤60:=by
  have q0:=h.f.q0
  have h1:=h.f.ge
  have h2:=h.f.le
  exact ⟨(Int.le_ediv_iff_mul_le q0).mpr h1,Int.ediv_le_of_le_mul q0 h2⟩
structure PB (ws:List WB) (ss:List SB):Prop where
  w:∀ x∈ws,x.Ok
  s:∀ x∈ss,x.Ok
  rd:∀ x∈ss,x.rd.Sublist (ws.map WB.nm)
  wn:(ws.map WB.nm).Nodup
  wl:ws.length≤6
  sl:ss.length≤8
def plB (g:D)(ws:List WB)(ss:List SB):D:=.tup [g,.tup (ws.map WB.toD),.tup (ss.map SB.toD)]
section
variable (w:WB) (x:SB) (g:D) (ws:List WB) (ss:List SB) (μ:Mu) (Q:DK)
theorem Lf:L3.rIx w.toD (.int 0) μ Q=Q (.str w.nm) μ:=propext Iff.rfl
theorem KS:L3.rIx w.toD (.int 1) μ Q=Q (.int w.pc) μ:=propext Iff.rfl
theorem Lo:L3.rIx w.toD (.int 2) μ Q=Q (.int w.rm) μ:=propext Iff.rfl
theorem K2:L3.rIx w.toD (.int 4) μ Q=Q (.str (soS w.so)) μ:=propext Iff.rfl
theorem Lr:L3.rIx x.toD (.int 1) μ Q=Q (.tup (x.rd.map .str)) μ:=propext Iff.rfl
theorem K1:L3.rIx x.toD (.int 2) μ Q=Q (.int x.bt) μ:=propext Iff.rfl
theorem Lq:L3.rIx x.toD (.int 5) μ Q=Q x.rl μ:=propext Iff.rfl
theorem KP:L3.rIx (plB g ws ss) (.int 1) μ Q=Q (.tup (ws.map WB.toD)) μ:=propext Iff.rfl
theorem Ll:L3.rIx (plB g ws ss) (.int 2) μ Q=Q (.tup (ss.map SB.toD)) μ:=propext Iff.rfl
theorem Js:L3.rIx x.rl (.int (-1)) μ Q=Q (fr x.r x.s) μ:=by
  show kO (atD (x.ru++[fr x.r x.s]) (-1)) (fun d=>Q d μ)=_
  rw[Cf (d:=fr x.r x.s) (by simp) (by simp)]
  rfl
end
def onB (n:Str)(ss:List SB):List SB:=ss.filter fun x=>decide (n∈x.rd)
def frn (n:Str)(rd:List Str):List Str:=rd.take (rd.findIdx fun x=>decide (x=n))
theorem qp {n:Str}{rest:List Str}:∀ {dn rd:List Str},(dn++n::rest).Nodup→rd.Sublist (dn++n::rest)→n∈rd→∀ x∈frn n rd,x∈dn
  | [],rd,nd,sb,hn,x,hx=>by
    cases sb with
    | cons _ h=>exact absurd (h.subset hn) (List.nodup_cons.mp nd).1
    | cons_cons _ h=>simp[frn,List.findIdx_cons] at hx
  | d::dn,rd,nd,sb,hn,x,hx=>by
    obtain ⟨n1,n2⟩:=List.nodup_cons.mp nd
    cases sb with
    | cons _ h=>exact List.mem_cons_of_mem _ (qp n2 h hn x hx)
    | cons_cons _ h=>
      rename_i r
      have dn':d≠n:=fun z=>n1 (by rw[z];simp)
      have hr:n∈r:=(List.mem_cons.mp hn).resolve_left fun z=>dn' z.symm
      have e:frn n (d::r)=d::frn n r:=by
        unfold frn
        rw[List.findIdx_cons]
        simp[dn']
      rw[e] at hx
      rcases List.mem_cons.mp hx with rfl | z
      · exact List.mem_cons_self
      · exact List.mem_cons_of_mem _ (qp n2 h hr x z)
theorem Bl {n:Str}{rd:List Str}(h:n∈rd):wR (rd.map .str) (.str n)=some (rd.findIdx fun x=>decide (x=n)):=by
  have hl:rd.findIdx (fun x=>decide (x=n)) < rd.length:=List.findIdx_lt_length_of_exists ⟨n,h,by simp⟩
  unfold wR
  induction rd with
  | nil=>cases h
  | cons x r ih=>
    rw[List.map_cons,List.findIdx?_cons,List.findIdx_cons]
    by_cases e:x=n
    · simp[e,eqD]
    · have hr:n∈r:=(List.mem_cons.mp h).resolve_left fun z=>e z.symm
      have:=ih hr (List.findIdx_lt_length_of_exists ⟨n,hr,by simp⟩)
      have ne:eqD (.str x) (.str n)=false:=by simp[eqD,e]
      rw[ne,this]
      simp[e]
abbrev WF:=Str→Int
def kb (W:WF)(n:Str)(v:Int):WF:=fun x=>if x=n then v else W x
def ahd (W:WF)(n:Str)(x:SB):Int:=((frn n x.rd).map W).sum
def cmb (W:WF)(n:Str)(k:Int)(x:SB):Int:=x.lim*((k+ahd W n x+x.bt - 1) / x.bt)
def com (W:WF)(n:Str)(l:List SB)(k:Int):Int:=(l.map (cmb W n k)).sum
def W0 (W:WF):Prop:=∀ n,0≤W n
theorem W0.set {W:WF}(h:W0 W){n:Str}{v:Int}(hv:0≤v):W0 (kb W n v):=fun x=>by
  unfold kb
  split
  · exact hv
  · exact h x
theorem tY:∀ {l:List Int},(∀ x∈l,0≤x)→0≤l.sum
  | [],_=>by simp
  | x::r,h=>by
    rw[List.sum_cons]
    have:=h x List.mem_cons_self
    have:=tY fun y hy=>h y (List.mem_cons_of_mem x hy)
    omega
theorem AJ {W:WF}(h:W0 W)(n:Str)(x:SB):0≤ahd W n x:=tY fun v hv=>by
  obtain ⟨y,_,rfl⟩:=List.mem_map.mp hv
  exact h y
theorem AS {W:WF}(h:W0 W){n:Str}{l:List SB}(hl:∀ x∈l,x.Ok){k:Int}(k0:0≤k):0≤com W n l k:=tY fun v hv=>by
  obtain ⟨x,hx,rfl⟩:=List.mem_map.mp hv
  have X:=hl x hx
  have b0:=X.b0
  have l0:=X.lim.1
  have a0:=AJ h n x
  exact Int.mul_nonneg (by omega) (Int.ediv_nonneg (by omega) (by omega))
def ld (l:List SB):Int:=(l.map fun x=>x.lim*(840 / x.bt)).sum
theorem A7 {b:Int}(h0:1≤b)(h1:b≤8):840 / b*b=840∧b ∣ 840:=by
  have:b=1∨b=2∨b=3∨b=4∨b=5∨b=6∨b=7∨b=8:=by omega
  rcases this with rfl | rfl | rfl | rfl | rfl | rfl | rfl | rfl<;>exact ⟨by decide,by decide⟩
def rdN (R:Nat)(l:List SB):Nat:=l.foldl (fun r x=>Nat.lcm r x.bt.toNat) R
theorem wu:∀ {l:List SB} {R:Nat},(∀ x∈l,x.Ok)→R ∣ 840→0 < R→rdN R l ∣ 840∧0 < rdN R l∧R ∣ rdN R l∧(∀ x∈l,x.bt.toNat ∣ rdN R l)∧∀ m,R ∣ m→(∀ x∈l,x.bt.toNat ∣ m)→rdN R l ∣ m
  | [],R,_,h,h0=>⟨h,h0,Nat.dvd_refl _,(fun _ z=>nomatch z),fun m hm _=>hm⟩
  | x::r,R,hl,h,h0=>by
    have X:=hl x List.mem_cons_self
    have b0:=X.b0
    have d:x.bt.toNat ∣ 840:=by
      have:=(A7 X.b0 X.b1).2
      have e:((x.bt.toNat:Nat):Int)=x.bt:=by omega
      rw[← e] at this
      exact Int.natCast_dvd_natCast.mp this
    have p:0 < Nat.lcm R x.bt.toNat:=Nat.lcm_pos h0 (by omega)
    obtain ⟨i1,i2,i3,i4,i5⟩:=wu (l:=r) (R:=Nat.lcm R x.bt.toNat) (fun y hy=>hl y (List.mem_cons_of_mem _ hy)) (Nat.lcm_dvd h d) p
    refine ⟨i1,i2,Nat.dvd_trans (Nat.dvd_lcm_left _ _) i3,fun y hy=>?_,fun m hm hd=>i5 m (Nat.lcm_dvd hm (hd x List.mem_cons_self)) fun y hy=>hd y (List.mem_cons_of_mem _ hy)⟩
    rcases List.mem_cons.mp hy with rfl | z
    · exact Nat.dvd_trans (Nat.dvd_lcm_right _ _) i3
    · exact i4 y z
theorem AY {R:Nat}{b:Int}(h0:0 < R)(hb:1≤b):(R:Int).fdiv (Int.gcd (R:Int) b)*b=((Nat.lcm R b.toNat:Nat):Int):=by
  have e:((b.toNat:Nat):Int)=b:=by omega
  have g:Int.gcd (R:Int) b=Nat.gcd R b.toNat:=by rw[← e];rfl
  have gp:0 < Nat.gcd R b.toNat:=Nat.gcd_pos_of_pos_left _ h0
  rw[g,dY (by omega),← Int.natCast_ediv]
  have e3:((R / Nat.gcd R b.toNat:Nat):Int)*b=((R / Nat.gcd R b.toNat*b.toNat:Nat):Int):=by rw[Int.natCast_mul,e]
  rw[e3]
  congr 1
  unfold Nat.lcm
  obtain ⟨q,hq⟩:=Nat.gcd_dvd_left R b.toNat
  clear g e3
  generalize Nat.gcd R b.toNat=G at *
  subst hq
  rw[Nat.mul_div_cancel_left q gp,Nat.mul_assoc,Nat.mul_div_cancel_left _ gp]
def mx (l:List Int):Int:=l.foldl max 0
theorem gU:∀ (l:List Int) (a:Int),(l.foldl max a=a∨l.foldl max a∈l)∧a≤l.foldl max a∧∀ x∈l,x≤l.foldl max a
  | [],a=>⟨.inl rfl,Int.le_refl _,fun _ h=>nomatch h⟩
  | x::r,a=>by
    obtain ⟨i1,i2,i3⟩:=gU r (max a x)
    rw[List.foldl_cons]
    refine ⟨?_,by omega,fun y hy=>?_⟩
    · rcases i1 with e | e
      · rw[e]
        rcases Int.le_total a x with z | z
        · right;rw[Int.max_eq_right z];exact List.mem_cons_self
        · left;exact Int.max_eq_left z
      · exact .inr (List.mem_cons_of_mem _ e)
    · rcases List.mem_cons.mp hy with rfl | z
      · omega
      · exact i3 y z
theorem J2 {l:List Int}{M:Int}(h:M=0∨M∈l)(h0:0≤M)(hl:∀ a∈l,a≤M):M=mx l:=by
  obtain ⟨i1,i2,i3⟩:=gU l 0
  unfold mx
  refine Int.le_antisymm ?_ ?_
  · rcases h with rfl | h
    · exact i2
    · exact i3 M h
  · rcases i1 with e | e
    · rw[e];exact h0
    · exact hl _ e
def pkL (W:WF)(w:WB)(l:List SB):List Int:=(List.range (rdN 1 l)).map fun (i:Nat)=>com W w.nm l (1+(i:Int)) - w.pc*(1+(i:Int) - 1)
def pk (W:WF)(w:WB)(l:List SB):Int:=mx (pkL W w l)
theorem IJ {W:WF}{w:WB}{l:List SB}:0≤pk W w l:=(gU _ 0).2.1
def inP (w:WB)(l:List SB):Bool:=decide (ld l≤840*w.pc)
def most (W:WF)(w:WB)(l:List SB):Int:=if inP w l then min w.rm (pk W w l) else w.rm
def eZ (W:WF)(w:WB)(l:List SB):Bool:=inP w l&&decide (pk W w l≤w.rm)
def eB (w:WB)(l:List SB)(m:Int):Int:=if w.so then min w.rm m*l.length else min w.rm m
def plc (w:WB)(l:List SB)(m:Int):Int:=max 0 ((eB w l m+w.pc - 1) / w.pc - 1)
def fi (W:WF)(w:WB)(l:List SB)(k:Int):Bool:=decide (com W w.nm l (k+1)≤w.pc*(k+1))
def isW (W:WF)(w:WB)(l:List SB)(m k:Int):Bool:=decide (l=[]) || (decide (plc w l m≤k) || fi W w l k)
def wL (W:WF)(w:WB)(l:List SB)(n:Nat):List Int:=((List.range n).filter fun (k:Nat)=>fi W w l k).map fun (k:Nat)=>(k:Int)
def wt (W:WF)(w:WB)(l:List SB)(m:Int):Int:=(wL W w l (plc w l m).toNat).headD (plc w l m)
theorem tF (w:WB)(l:List SB)(m:Int):0≤plc w l m:=by unfold plc;omega
theorem xD {p:Nat→Bool}:∀ {n j:Nat},j < n→p j=true→(∀ i < j,p i=false)→∃ r,(List.range n).filter p=j::r:=by
  intro n j hj pj hi
  obtain ⟨k,rfl⟩:=Nat.exists_eq_add_of_le (show j+1≤n from hj)
  have e:List.range (j+1+k)=List.range j++j::(List.range k).map (fun i=>j+1+i):=by
    rw[List.range_add,List.range_succ,List.append_assoc];rfl
  have z:(List.range j).filter p=[]:=List.filter_eq_nil_iff.mpr fun i hi' q=>by
    rw[hi i (List.mem_range.mp hi')] at q;cases q
  rw[e,List.filter_append,z,List.filter_cons,if_pos pj]
  exact ⟨_,rfl⟩
theorem Kp {W:WF}{w:WB}{l:List SB}{m:Int}{j:Nat}(p0:1≤w.pc)(h:isW W w l m j=true)(hi:∀ i:Nat,i < j→isW W w l m i=false):wt W w l m=j:=by
  have pn:=tF w l m
  have early:∀ i:Nat,i < j→l≠[]∧(i:Int) < plc w l m∧fi W w l i=false:=fun i hij=>by
    have:=hi i hij
    unfold isW at this
    simp only[Bool.or_eq_false_iff,decide_eq_false_iff_not] at this
    exact ⟨this.1,by omega,this.2.2⟩
  have jle:(j:Int)≤plc w l m:=by
    cases j with
    | zero=>exact pn
    | succ j=>have:=(early j (by omega)).2.1;omega
  unfold wt wL
  by_cases e:(j:Int)=plc w l m
  · have z:(List.range (plc w l m).toNat).filter (fun (k:Nat)=>fi W w l k)=[]:=List.filter_eq_nil_iff.mpr fun i hi' q=>by
      have:=List.mem_range.mp hi'
      rw[(early i (by omega)).2.2] at q;cases q
    rw[z,← e];rfl
  · have fj:fi W w l j=true:=by
      unfold isW at h
      simp only[Bool.or_eq_true,decide_eq_true_eq] at h
      rcases h with h | h | h
      · subst h
        have j0:j=0:=by
          cases j with
          | zero=>rfl
          | succ j=>exact absurd rfl (early j (by omega)).1
        subst j0
        unfold fi com
        exact decide_eq_true (by simp;omega)
      · omega
      · exact h
    obtain ⟨r,er⟩:=xD (p:=fun k:Nat=>fi W w l k) (n:=(plc w l m).toNat) (j:=j) (by omega) fj fun i hij=>(early i hij).2.2
    rw[er];rfl
def DP (W:WF)(ss:List SB)(w:WB):D:=.tup [.str w.nm,.int (most W w (onB w.nm ss)),.int (wt W w (onB w.nm ss) (most W w (onB w.nm ss))),.bl (eZ W w (onB w.nm ss))]
def nxW (W:WF)(ss:List SB)(w:WB):WF:=kb W w.nm (wt W w (onB w.nm ss) (most W w (onB w.nm ss)))
def fv (ss:List SB):WF→List WB→List D
  | _,[]=>[]
  | W,w::r=>DP W ss w::fv ss (nxW W ss w) r
theorem nK (W:WF)(w:WB)(l:List SB)(m:Int):0≤wt W w l m:=by
  unfold wt wL
  cases h:(List.range (plc w l m).toNat).filter fun (k:Nat)=>fi W w l k with
  | nil=>exact tF w l m
  | cons k r=>show (0:Int)≤(k:Int);omega
def rE (tab:List (L2.Key×D))(W:WF)(ns:List Str):Prop:=∀ n∈ns,cJ tab (.inr n)=some (.int (W n))
theorem rE.put {tab:List (L2.Key×D)}{W:WF}{ns:List Str}(T:rE tab W ns)(n:Str)(v:Int):rE (putD tab (.inr n) (.int v)) (kb W n v) (ns++[n]):=fun x hx=>by
  rw[oz]
  unfold kb
  by_cases e:x=n
  · rw[if_pos (by rw[e]),if_pos e]
  · rw[if_neg (fun z=>e (by injection z)),if_neg e]
    rcases List.mem_append.mp hx with z | z
    · exact T x z
    · exact absurd (List.mem_singleton.mp z) e
structure LB (n:Str) (l:List SB) (W:WF) (tab:List (L2.Key×D)):Prop where
  o:∀ x∈l,x.Ok
  on:∀ x∈l,n∈x.rd
  t:∀ x∈l,rE tab W (frn n x.rd)
  len:l.length≤8
  n:PyData.strOk n=true
theorem gB {n:Str}{ss:List SB}{x:SB}:x∈onB n ss↔x∈ss∧n∈x.rd:=by unfold onB;rw[List.mem_filter,decide_eq_true_eq]
theorem Dj (n:Str)(ss:List SB):(onB n ss).length≤ss.length:=List.length_filter_le _ _
theorem PB.lb {ws:List WB}{ss:List SB}{dn rs:List WB}{w:WB}{W:WF}{tab:List (L2.Key×D)}(P:PB ws ss)(e:dn++w::rs=ws)(T:rE tab W (dn.map WB.nm)):LB w.nm (onB w.nm ss) W tab:=by
  have hw:w∈ws:=by rw[← e];simp
  have nd:=P.wn
  rw[← e,List.map_append,List.map_cons] at nd
  refine ⟨fun x hx=>P.s x (gB.mp hx).1,fun x hx=>(gB.mp hx).2,fun x hx n hn=>T n ?_,Nat.le_trans (Dj _ _) P.sl,(P.w w hw).n⟩
  have sb:=P.rd x (gB.mp hx).1
  rw[← e,List.map_append,List.map_cons] at sb
  exact qp nd sb (gB.mp hx).2 n hn
section
open PySem PySem.Spec PyProof.Rows L2
end
section
open PySem PySem.Spec PyProof.Rows L2
def k3 (ds:List D)(f:D→D→D→Prop):Prop:=match ds with
  | [u,v,w]=>f u v w
  | _=>False
end
def wz:WF:=fun _=>0
theorem wz0:W0 wz:=fun _=>Int.le_refl _
theorem EY {W:WF}(h:W0 W)(ss:List SB)(w:WB):W0 (nxW W ss w):=h.set (nK _ _ _ _)
theorem oY (W:WF){w:WB}(K:w.Ok){l:List SB}:0≤most W w l:=by
  have:=K.r0
  have:=IJ (W:=W) (w:=w) (l:=l)
  unfold most
  split<;>omega
structure RB where
  nm:Str
  mo:Int
  wa:Int
  no:Bool
def RB.toD (r:RB):D:=.tup [.str r.nm,.int r.mo,.int r.wa,.bl r.no]
section
variable (r:RB) (μ:Mu) (Q:DK)
theorem KG:L3.rIx r.toD (.int 0) μ Q=Q (.str r.nm) μ:=propext Iff.rfl
theorem Lj:L3.rIx r.toD (.int 1) μ Q=Q (.int r.mo) μ:=propext Iff.rfl
theorem Ln:L3.rIx r.toD (.int 2) μ Q=Q (.int r.wa) μ:=propext Iff.rfl
theorem KN:L3.rIx r.toD (.int 3) μ Q=Q (.bl r.no) μ:=propext Iff.rfl
end
def rgt (W:WF)(ss:List SB)(w:WB)(r:RB):Bool:=!decide (r.mo < most W w (onB w.nm ss))&&(isW W w (onB w.nm ss) r.mo r.wa&&(!r.no || eZ W w (onB w.nm ss)))
def xy (ss:List SB):WF→List (WB×RB)→Bool
  | _,[]=>true
  | W,p::ps=>rgt W ss p.1 p.2&&xy ss (kb W p.1.nm p.2.wa) ps
theorem HS {W V:WF}{n:Str}{l:List SB}(h:∀ x∈l,∀ m∈frn n x.rd,W m=V m)(k:Int):com W n l k=com V n l k:=by
  unfold com
  congr 1
  refine List.map_congr_left fun x hx=>?_
  unfold cmb
  have:ahd W n x=ahd V n x:=by
    unfold ahd
    congr 1
    exact List.map_congr_left (h x hx)
  rw[this]
theorem Dn {W V:WF}{w:WB}{l:List SB}(e:∀ k,com W w.nm l k=com V w.nm l k):most W w l=most V w l∧eZ W w l=eZ V w l∧(∀ m k,isW W w l m k=isW V w l m k)∧pk W w l=pk V w l:=by
  have e2:pk W w l=pk V w l:=by unfold pk pkL;simp only[e]
  refine ⟨by unfold most;rw[e2],by unfold eZ;rw[e2],fun m k=>by unfold isW fi;rw[e],e2⟩
theorem GK {W V:WF}{ss:List SB}{w:WB}{r:RB}(h:∀ x∈onB w.nm ss,∀ m∈frn w.nm x.rd,W m=V m):rgt W ss w r=rgt V ss w r:=by
  obtain ⟨h1,h2,h3,_⟩:=Dn (w:=w) (HS h)
  unfold rgt
  rw[h1,h2,h3]
theorem wx {ws:List WB}{ss:List SB}(P:PB ws ss)(V:WF):∀ (qs ps:List (WB×RB)) (W:WF),(ps++qs).map (·.1)=ws→(∀ p∈ps++qs,V p.1.nm=p.2.wa)→(∀ p∈ps,W p.1.nm=p.2.wa)→xy ss W qs=qs.all fun p=>rgt V ss p.1 p.2
  | [],_,_,_,_,_=>rfl
  | q::qs,ps,W,e,hV,hW=>by
    have nd:=P.wn
    rw[← e] at nd
    simp only[List.map_append,List.map_cons,List.map_map] at nd
    have e1:rgt W ss q.1 q.2=rgt V ss q.1 q.2:=GK fun x hx m hm=>by
      have sb:=P.rd x (gB.mp hx).1
      rw[← e] at sb
      simp only[List.map_append,List.map_cons,List.map_map] at sb
      obtain ⟨p,hp,rfl⟩:=List.mem_map.mp (qp nd sb (gB.mp hx).2 m hm)
      exact (hW p hp).trans (hV p (List.mem_append_left _ hp)).symm
    show (rgt W ss q.1 q.2&&xy ss _ qs)=_
    rw[e1,wx P V qs (ps++[q]) _ (by rw[← e];simp) (fun p hp=>hV p (by simpa using hp)) fun p hp=>?_]
    · rfl
    · unfold kb
      rcases List.mem_append.mp hp with (h | h)
      · rw[if_neg (fun z=>?_)]
        · exact hW p h
        · have:=(List.nodup_append.mp nd).2.2 _ (List.mem_map.mpr ⟨p,h,rfl⟩) _ List.mem_cons_self
          exact this z
      · rw[List.mem_singleton.mp h,if_pos rfl]
def wOf (rs:List RB):WF:=fun n=>((rs.find? fun r=>decide (r.nm=n)).map RB.wa).getD 0
theorem y6:∀ {rs:List RB},(rs.map RB.nm).Nodup→∀ r∈rs,wOf rs r.nm=r.wa
  | [],_,r,h=>nomatch h
  | r0::rs,nd,r,h=>by
    rw[List.map_cons] at nd
    have ⟨n1,n2⟩:=List.nodup_cons.mp nd
    unfold wOf
    rw[List.find?_cons]
    rcases List.mem_cons.mp h with (rfl | h)
    · simp
    · have:r0.nm≠r.nm:=fun z=>n1 (by rw[z];exact List.mem_map.mpr ⟨r,h,rfl⟩)
      simp only[decide_eq_false this]
      exact y6 n2 r h
theorem Gx {rs:List RB}(h:∀ r∈rs,0≤r.wa):W0 (wOf rs):=fun n=>by
  unfold wOf
  cases e:rs.find? fun r=>decide (r.nm=n) with
  | none=>exact Int.le_refl _
  | some r=>exact h r (List.mem_of_find?_eq_some e)
theorem Jd {α β:Type}(f:α→D)(g:β→D)(xs:List α)(ys:List β):List.zipWith (fun d e=>D.tup [d,e]) (xs.map f) (ys.map g)=(List.zip xs ys).map fun y=>.tup [f y.1,g y.2]:=by
  induction xs generalizing ys with
  | nil=>rfl
  | cons x xs ih=>cases ys with
    | nil=>rfl
    | cons y ys=>simp only[List.map_cons,List.zipWith_cons_cons,List.zip_cons_cons,ih]
def sX (rs:List RB):List (L2.Key×D):=rs.map fun r=>(.inr r.nm,.int r.wa)
theorem vZ:∀ (rs:List RB) (kvs:List (L2.Key×D)) (n:Str),(rs.map RB.nm).Nodup→cJ (fz kvs (sX rs)) (.inr n)=if n∈rs.map RB.nm then some (.int (wOf rs n)) else cJ kvs (.inr n)
  | [],kvs,n,_=>by simp[sX,fz]
  | r::rs,kvs,n,nd=>by
    rw[List.map_cons] at nd
    have ⟨n1,n2⟩:=List.nodup_cons.mp nd
    show cJ (fz (putD kvs (.inr r.nm) (.int r.wa)) (sX rs)) (.inr n)=_
    rw[vZ rs _ n n2,oz]
    unfold wOf
    rw[List.find?_cons,List.map_cons]
    by_cases e:n=r.nm
    · subst e
      rw[if_neg n1,if_pos rfl,if_pos List.mem_cons_self]
      simp
    · have e':¬ r.nm=n:=fun z=>e z.symm
      simp only[decide_eq_false e',List.mem_cons,e,false_or]
      split
      · rfl
      · rw[if_neg (fun z=>e (by injection z))]
theorem FQ (rs:List RB)(nd:(rs.map RB.nm).Nodup):rE (fz [] (sX rs)) (wOf rs) (rs.map RB.nm):=fun n hn=>by
  rw[vZ rs [] n nd,if_pos hn]
inductive F2 {α β:Type} (R:α→β→Prop):List α→List β→Prop
  | nil:F2 R [] []
  | cons {a b l m}:R a b→F2 R l m→F2 R (a::l) (b::m)
structure WB.Le (v w:WB):Prop where
  n:v.nm=w.nm
  p:w.pc≤v.pc
  r:v.rm=w.rm
  s:v.so=w.so
structure SB.Le (y x:SB):Prop where
  rd:y.rd=x.rd
  b:y.bt=x.bt
  l:y.lim≤x.lim
inductive LsS:List SB→List SB→Prop
  | nil:LsS [] []
  | skip {x l l'}:LsS l' l→LsS l' (x::l)
  | keep {x y l l'}:SB.Le y x→LsS l' l→LsS (y::l') (x::l)
theorem SB.Le.refl (x:SB):SB.Le x x:=⟨rfl,rfl,Int.le_refl _⟩
theorem LsS.refl:∀ l:List SB,LsS l l
  | []=>.nil
  | x::r=>.keep (.refl x) (LsS.refl r)
theorem LsS.on {n:Str}{l' l:List SB}(h:LsS l' l):LsS (onB n l') (onB n l):=by
  induction h with
  | nil=>exact .nil
  | @skip x l l' _ ih=>
    unfold onB at *
    rw[List.filter_cons]
    split
    · exact .skip ih
    · exact ih
  | @keep x y l l' e _ ih=>
    unfold onB at *
    rw[List.filter_cons,List.filter_cons,e.rd]
    split
    · exact .keep e ih
    · exact ih
theorem LsS.len {l' l:List SB}(h:LsS l' l):l'.length≤l.length:=by
  induction h with
  | nil=>exact Nat.le_refl _
  | skip _ ih=>rw[List.length_cons];omega
  | keep _ _ ih=>rw[List.length_cons,List.length_cons];omega
theorem LsS.trans {a b:List SB}(h:LsS a b):∀ {c:List SB},LsS b c→LsS a c:=by
  intro c k
  induction k generalizing a with
  | nil=>exact h
  | skip _ ih=>exact .skip (ih h)
  | keep e k' ih=>cases h with
    | skip h'=>exact .skip (ih h')
    | keep e' h'=>exact .keep ⟨e'.rd.trans e.rd,e'.b.trans e.b,Int.le_trans e'.l e.l⟩ (ih h')
theorem Hg {W' W:WF}(h:∀ n,W' n≤W n)(n:Str){y x:SB}(e:y.rd=x.rd):ahd W' n y≤ahd W n x:=by
  unfold ahd
  rw[e]
  induction frn n x.rd with
  | nil=>exact Int.le_refl _
  | cons a r ih=>
    rw[List.map_cons,List.map_cons,List.sum_cons,List.sum_cons]
    have:=h a
    omega
theorem FY {W' W:WF}(h0:W0 W')(h:∀ n,W' n≤W n)(n:Str){k:Int}(k0:0≤k){y x:SB}(Y:y.Ok)(e:SB.Le y x):cmb W' n k y≤cmb W n k x:=by
  unfold cmb
  have b0:=Y.b0
  have l0:=Y.lim.1
  have a0:=AJ h0 n y
  have a1:=Hg h n e.rd
  rw[← e.b]
  have d1:(k+ahd W' n y+y.bt - 1) / y.bt≤(k+ahd W n x+y.bt - 1) / y.bt:=Int.ediv_le_ediv (by omega) (by omega)
  have d0:0≤(k+ahd W' n y+y.bt - 1) / y.bt:=Int.ediv_nonneg (by omega) (by omega)
  exact Int.mul_le_mul e.l d1 d0 (by have:=e.l;omega)
theorem zJ {W' W:WF}(h0:W0 W')(h:∀ n,W' n≤W n)(n:Str){k:Int}(k0:0≤k){l' l:List SB}(L:LsS l' l)(o':∀ x∈l',x.Ok)(o:∀ x∈l,x.Ok):com W' n l' k≤com W n l k:=by
  have cons:∀ (V:WF) (x:SB) (r:List SB),com V n (x::r) k=cmb V n k x+com V n r k:=fun V x r=>by unfold com;rw[List.map_cons,List.sum_cons]
  have w0:W0 W:=fun m=>Int.le_trans (h0 m) (h m)
  induction L with
  | nil=>exact Int.le_refl _
  | @skip x l l' _ ih=>
    rw[cons]
    have:=ih o' fun y hy=>o y (List.mem_cons_of_mem _ hy)
    have X:=o x List.mem_cons_self
    have:=AS w0 (n:=n) (l:=[x]) (fun y hy=>by rw[List.mem_singleton.mp hy];exact X) k0
    have e:com W n [x] k=cmb W n k x:=by unfold com;simp
    omega
  | @keep x y l l' e _ ih=>
    rw[cons,cons]
    have:=ih (fun y hy=>o' y (List.mem_cons_of_mem _ hy)) fun y hy=>o y (List.mem_cons_of_mem _ hy)
    have:=FY h0 h n k0 (o' y List.mem_cons_self) e
    omega
theorem IM {l' l:List SB}(L:LsS l' l)(o':∀ x∈l',x.Ok)(o:∀ x∈l,x.Ok):ld l'≤ld l:=by
  have cons:∀ (x:SB) (r:List SB),ld (x::r)=x.lim*(840 / x.bt)+ld r:=fun x r=>by unfold ld;rw[List.map_cons,List.sum_cons]
  have nn:∀ x:SB,x.Ok→0≤840 / x.bt:=fun x X=>Int.ediv_nonneg (by decide) (by have:=X.b0;omega)
  induction L with
  | nil=>exact Int.le_refl _
  | @skip x l l' _ ih=>
    rw[cons]
    have:=ih o' fun y hy=>o y (List.mem_cons_of_mem _ hy)
    have X:=o x List.mem_cons_self
    have:=Int.mul_nonneg (show 0≤x.lim by have:=X.lim;omega) (nn x X)
    omega
  | @keep x y l l' e _ ih=>
    rw[cons,cons,e.b]
    have:=ih (fun y hy=>o' y (List.mem_cons_of_mem _ hy)) fun y hy=>o y (List.mem_cons_of_mem _ hy)
    have:=Int.mul_le_mul_of_nonneg_right e.l (nn x (o x List.mem_cons_self))
    omega
theorem LsS.mem {l' l:List SB}(L:LsS l' l):∀ y∈l',∃ x∈l,SB.Le y x:=by
  induction L with
  | nil=>intro y hy;cases hy
  | skip _ ih=>intro y hy;obtain ⟨x,hx,e⟩:=ih y hy;exact ⟨x,List.mem_cons_of_mem _ hx,e⟩
  | keep e _ ih=>
    intro y hy
    rcases List.mem_cons.mp hy with (rfl | z)
    · exact ⟨_,List.mem_cons_self,e⟩
    · obtain ⟨x,hx,e⟩:=ih y z;exact ⟨x,List.mem_cons_of_mem _ hx,e⟩
theorem Kj {l' l:List SB}(L:LsS l' l)(o':∀ x∈l',x.Ok)(o:∀ x∈l,x.Ok):rdN 1 l'≤rdN 1 l:=by
  obtain ⟨_,a2,_,a4,_⟩:=wu (l:=l) (R:=1) o (Nat.one_dvd _) (by decide)
  obtain ⟨_,_,_,_,b5⟩:=wu (l:=l') (R:=1) o' (Nat.one_dvd _) (by decide)
  refine Nat.le_of_dvd a2 (b5 _ (Nat.one_dvd _) fun y hy=>?_)
  obtain ⟨x,hx,e⟩:=L.mem y hy
  rw[e.b];exact a4 x hx
section
variable {W' W:WF} {v w:WB} {l' l:List SB} (h0:W0 W') (h:∀ n,W' n≤W n) (V:WB.Le v w) (Kv:v.Ok) (K:w.Ok) (L:LsS l' l) (o':∀ x∈l',x.Ok) (o:∀ x∈l,x.Ok)
include h0 h V L o' o
theorem EZ:pk W' v l'≤pk W w l:=by
  obtain ⟨i1,i2,i3⟩:=gU (pkL W w l) 0
  obtain ⟨j1,j2,j3⟩:=gU (pkL W' v l') 0
  unfold pk mx
  rcases j1 with e | e
  · rw[e];exact i2
  · unfold pkL at e
    obtain ⟨i,hi,e⟩:=List.mem_map.mp e
    have hi:=List.mem_range.mp hi
    have hr:=Kj L o' o
    have c:=zJ h0 h v.nm (k:=1+(i:Int)) (by omega) L o' o
    have m:=i3 (com W w.nm l (1+(i:Int)) - w.pc*(1+(i:Int) - 1)) (List.mem_map.mpr ⟨i,List.mem_range.mpr (by omega),rfl⟩)
    have q:w.pc*(1+(i:Int) - 1)≤v.pc*(1+(i:Int) - 1):=Int.mul_le_mul_of_nonneg_right V.p (by omega)
    unfold pkL at *
    rw[← e]
    rw[V.n] at c ⊢
    omega
theorem z6 (e:inP w l=true):inP v l'=true:=by
  unfold inP at *
  have:=IM L o' o
  have:=V.p
  have:=of_decide_eq_true e
  exact decide_eq_true (by omega)
theorem vU:most W' v l'≤most W w l:=by
  have p:=EZ h0 h V L o' o
  have r:=V.r
  unfold most
  cases e:inP w l with
  | true=>
    rw[z6 h0 h V L o' o e]
    simp only[if_true]
    omega
  | false=>
    simp only[Bool.false_eq_true,if_false]
    split<;>omega
theorem none_le (e:eZ W w l=true):eZ W' v l'=true:=by
  have p:=EZ h0 h V L o' o
  have r:=V.r
  unfold eZ at *
  rw[Bool.and_eq_true] at *
  have:=of_decide_eq_true e.2
  exact ⟨z6 h0 h V L o' o e.1,decide_eq_true (by omega)⟩
include Kv K in
theorem Bt {m' m k:Int}(m0:0≤m')(hm:m'≤m)(k0:0≤k)(e:isW W w l m k=true):isW W' v l' m' k=true:=by
  have ll:=L.len
  unfold isW at *
  simp only[Bool.or_eq_true,decide_eq_true_eq] at *
  rcases e with e | e | e
  · left
    rw[e] at ll
    exact List.length_eq_zero_iff.mp (by simpa using ll)
  · right;left
    have p0:=K.p0
    have r0:=K.r0
    have vp:=V.p
    have s0:0≤eB v l' m':=by
      unfold eB
      have:=V.r
      have a:0≤min v.rm m':=by omega
      split
      · exact Int.mul_nonneg a (by omega)
      · exact a
    have s1:eB v l' m'≤eB w l m:=by
      unfold eB
      rw[V.s,V.r]
      split
      · exact Int.mul_le_mul (by omega) (by omega) (by omega) (by omega)
      · omega
    have:(eB v l' m'+v.pc - 1) / v.pc≤(eB w l m+w.pc - 1) / w.pc:=by
      have nn:0≤(eB w l m+w.pc - 1) / w.pc:=Int.ediv_nonneg (by omega) (by omega)
      have up:eB w l m≤(eB w l m+w.pc - 1) / w.pc*w.pc:=by
        have:=Int.emod_add_mul_ediv (eB w l m+w.pc - 1) w.pc
        have:=Int.emod_lt_of_pos (eB w l m+w.pc - 1) (show 0 < w.pc by omega)
        rw[Int.mul_comm]
        omega
      have q:=Int.mul_le_mul_of_nonneg_left vp nn
      refine Int.le_of_lt_add_one (Int.ediv_lt_of_lt_mul (by omega) ?_)
      rw[Int.add_mul]
      omega
    unfold plc at *
    omega
  · right;right
    unfold fi at *
    have c:=zJ h0 h v.nm (k:=k+1) (by omega) L o' o
    have:=of_decide_eq_true e
    rw[V.n] at c ⊢
    have q:w.pc*(k+1)≤v.pc*(k+1):=Int.mul_le_mul_of_nonneg_right V.p (by omega)
    exact decide_eq_true (by omega)
end
theorem BU {W:WF}{w:WB}{l:List SB}{m:Int}:isW W w l m (wt W w l m)=true:=by
  unfold isW wt wL
  cases h:(List.range (plc w l m).toNat).filter fun (k:Nat)=>fi W w l k with
  | nil=>simp
  | cons k r=>
    have:k∈(List.range (plc w l m).toNat).filter fun (k:Nat)=>fi W w l k:=by rw[h];exact List.mem_cons_self
    have f:=(List.mem_filter.mp this).2
    simp only[List.map_cons,List.headD_cons,f,Bool.or_true]
theorem DS {p:Nat→Bool}{n k j:Nat}{r:List Nat}(h:(List.range n).filter p=k::r)(hj:j < n)(pj:p j=true):k≤j:=by
  have hs:((List.range n).filter p).Pairwise (· < ·):=List.Pairwise.filter _ List.pairwise_lt_range
  have hm:j∈(List.range n).filter p:=List.mem_filter.mpr ⟨List.mem_range.mpr hj,pj⟩
  rw[h] at hs hm
  rcases List.mem_cons.mp hm with z | z
  · omega
  · have:=(List.pairwise_cons.mp hs).1 j z;omega
theorem Kb {W:WF}{w:WB}{l:List SB}{m k:Int}(p0:1≤w.pc)(k0:0≤k)(e:isW W w l m k=true):wt W w l m≤k:=by
  have pn:=tF w l m
  have fit:∀ j:Nat,fi W w l j=true→wt W w l m≤j:=fun j hj=>by
    unfold wt wL
    cases h:(List.range (plc w l m).toNat).filter fun (k:Nat)=>fi W w l k with
    | nil=>
      show plc w l m≤j
      by_cases z:j < (plc w l m).toNat
      · have:=List.filter_eq_nil_iff.mp h j (List.mem_range.mpr z)
        exact absurd hj this
      · omega
    | cons i r=>
      show (i:Int)≤j
      by_cases z:j < (plc w l m).toNat
      · have:=DS h z hj;omega
      · have:i∈(List.range (plc w l m).toNat).filter fun (k:Nat)=>fi W w l k:=by rw[h];exact List.mem_cons_self
        have:=List.mem_range.mp (List.mem_filter.mp this).1
        omega
  unfold isW at e
  simp only[Bool.or_eq_true,decide_eq_true_eq] at e
  rcases e with e | e | e
  · subst e
    have:=fit 0 (by unfold fi com;exact decide_eq_true (by simp;omega))
    omega
  · refine Int.le_trans ?_ e
    unfold wt wL
    cases h:(List.range (plc w l m).toNat).filter fun (k:Nat)=>fi W w l k with
    | nil=>exact Int.le_refl _
    | cons i r=>
      have:i∈(List.range (plc w l m).toNat).filter fun (k:Nat)=>fi W w l k:=by rw[h];exact List.mem_cons_self
      have:=List.mem_range.mp (List.mem_filter.mp this).1
      show (i:Int)≤_
      omega
  · have:=fit k.toNat (by rw[Int.toNat_of_nonneg k0];exact e)
    omega
def rwB (W:WF)(ss:List SB)(w:WB):RB:=⟨w.nm,most W w (onB w.nm ss),wt W w (onB w.nm ss) (most W w (onB w.nm ss)),eZ W w (onB w.nm ss)⟩
def gM (ss:List SB):WF→List WB→List RB
  | _,[]=>[]
  | W,w::r=>rwB W ss w::gM ss (nxW W ss w) r
theorem uQ (ss:List SB):∀ (ws:List WB) (W:WF),fv ss W ws=(gM ss W ws).map RB.toD
  | [],_=>rfl
  | w::r,W=>by
    show DP W ss w::fv ss (nxW W ss w) r=_
    rw[uQ ss r];rfl
theorem pS (ss:List SB):∀ (ws:List WB) (W:WF),(gM ss W ws).map RB.nm=ws.map WB.nm
  | [],_=>rfl
  | w::r,W=>by
    show (rwB W ss w).nm::(gM ss (nxW W ss w) r).map RB.nm=_
    rw[pS ss r];rfl
theorem wC (ss:List SB):∀ (ws:List WB) (W:WF),(∀ w∈ws,w.Ok)→∀ r∈gM ss W ws,0≤r.mo∧0≤r.wa
  | [],_,_,r,h=>nomatch h
  | w::ws,W,o,r,h=>by
    rcases List.mem_cons.mp h with (rfl | h)
    · exact ⟨oY W (o w List.mem_cons_self),nK _ _ _ _⟩
    · exact wC ss ws _ (fun y hy=>o y (List.mem_cons_of_mem _ hy)) r h
theorem Aa {ss' ss:List SB}(L:LsS ss' ss)(o':∀ x∈ss',x.Ok)(o:∀ x∈ss,x.Ok):∀ {vs ws:List WB} {W:WF},F2 WB.Le vs ws→(∀ v∈vs,v.Ok)→(∀ w∈ws,w.Ok)→W0 W→xy ss' W (vs.zip (gM ss W ws))=true:=by
  intro vs ws W F
  induction F generalizing W with
  | nil=>intros;rfl
  | @cons v w vs ws V F ih=>
    intro kv kw w0
    have Kv:=kv v List.mem_cons_self
    have K:=kw w List.mem_cons_self
    have L':LsS (onB v.nm ss') (onB w.nm ss):=by rw[V.n];exact L.on
    have p':∀ x∈onB v.nm ss',x.Ok:=fun x hx=>o' x (gB.mp hx).1
    have p:∀ x∈onB w.nm ss,x.Ok:=fun x hx=>o x (gB.mp hx).1
    show (rgt W ss' v (rwB W ss w)&&xy ss' (kb W v.nm (rwB W ss w).wa) (vs.zip (gM ss (nxW W ss w) ws)))=true
    have en:kb W v.nm (rwB W ss w).wa=nxW W ss w:=by rw[V.n];rfl
    rw[en,ih (fun y hy=>kv y (List.mem_cons_of_mem _ hy)) (fun y hy=>kw y (List.mem_cons_of_mem _ hy)) (EY w0 ss w),Bool.and_true]
    have m1:=vU w0 (fun n=>Int.le_refl (W n)) V L' p' p
    have m0:=oY W K (l:=onB w.nm ss)
    unfold rgt
    rw[decide_eq_false (show ¬ (rwB W ss w).mo < most W v (onB v.nm ss') by show ¬ most W w (onB w.nm ss) < _;omega)]
    have i1:isW W v (onB v.nm ss') (rwB W ss w).mo (rwB W ss w).wa=true:=Bt w0 (fun n=>Int.le_refl (W n)) V Kv K L' p' p m0 (Int.le_refl _) (nK _ _ _ _) BU
    rw[i1]
    cases hn:(rwB W ss w).no with
    | false=>rfl
    | true=>
      have hn:eZ W w (onB w.nm ss)=true:=hn
      rw[none_le w0 (fun n=>Int.le_refl (W n)) V L' p' p hn];rfl
def RB.Le (r' r:RB):Prop:=r'.nm=r.nm∧r'.mo≤r.mo∧r'.wa≤r.wa∧(r.no=true→r'.no=true)
theorem wW {ss' ss:List SB}(L:LsS ss' ss)(o':∀ x∈ss',x.Ok)(o:∀ x∈ss,x.Ok):∀ {vs ws:List WB} {W' W:WF},F2 WB.Le vs ws→(∀ v∈vs,v.Ok)→(∀ w∈ws,w.Ok)→W0 W'→(∀ n,W' n≤W n)→F2 RB.Le (gM ss' W' vs) (gM ss W ws):=by
  intro vs ws W' W F
  induction F generalizing W' W with
  | nil=>intros;exact .nil
  | @cons v w vs ws V F ih=>
    intro kv kw w0 hW
    have Kv:=kv v List.mem_cons_self
    have K:=kw w List.mem_cons_self
    have L':LsS (onB v.nm ss') (onB w.nm ss):=by rw[V.n];exact L.on
    have p':∀ x∈onB v.nm ss',x.Ok:=fun x hx=>o' x (gB.mp hx).1
    have p:∀ x∈onB w.nm ss,x.Ok:=fun x hx=>o x (gB.mp hx).1
    have m1:=vU w0 hW V L' p' p
    have m0:=oY W' Kv (l:=onB v.nm ss')
    have wl:wt W' v (onB v.nm ss') (most W' v (onB v.nm ss'))≤wt W w (onB w.nm ss) (most W w (onB w.nm ss)):=Kb Kv.p0 (nK _ _ _ _) (Bt w0 hW V Kv K L' p' p m0 m1 (nK _ _ _ _) BU)
    refine .cons ⟨V.n,m1,wl,fun h=>none_le w0 hW V L' p' p h⟩ (ih (fun y hy=>kv y (List.mem_cons_of_mem _ hy)) (fun y hy=>kw y (List.mem_cons_of_mem _ hy)) (w0.set (nK _ _ _ _)) fun n=>?_)
    show kb W' v.nm _ n≤kb W w.nm _ n
    unfold kb
    by_cases e:n=w.nm
    · rw[if_pos (e.trans V.n.symm),if_pos e];exact wl
    · rw[if_neg (fun z=>e (z.trans V.n)),if_neg e];exact hW n
theorem WB.Le.refl (w:WB):WB.Le w w:=⟨rfl,Int.le_refl _,rfl,rfl⟩
theorem iG:∀ ws:List WB,F2 WB.Le ws ws
  | []=>.nil
  | w::r=>.cons (.refl w) (iG r)
theorem rq:∀ {a b c:List WB},F2 WB.Le a b→F2 WB.Le b c→F2 WB.Le a c
  | _,_,_,.nil,.nil=>.nil
  | _,_,_,.cons h t,.cons h' t'=>.cons ⟨h.n.trans h'.n,Int.le_trans h'.p h.p,h.r.trans h'.r,h.s.trans h'.s⟩ (rq t t')
end L3
namespace Kk
local macro_rules | `(tactic| walk_at "ln")=>`(tactic| (intro ds μ Q h;split at h;rfl;exact h.elim))
open PySem L3
theorem BB:a5 "NoneType" "int" = false:=by decide +kernel
theorem w8:a5 "NoneType" "bool" = false:=by decide +kernel
theorem zr:a5 "NoneType" "str" = false:=by decide +kernel
theorem ug:a5 "NoneType" "tuple" = false:=by decide +kernel
theorem Bw:a5 "bool" "int" = true:=by decide +kernel
theorem xr:a5 "bool" "bool" = true:=by decide +kernel
theorem za:a5 "bool" "str" = false:=by decide +kernel
theorem u9:a5 "bool" "tuple" = false:=by decide +kernel
theorem AG:a5 "int" "int" = true:=by decide +kernel
theorem yq:a5 "int" "bool" = false:=by decide +kernel
theorem zD:a5 "int" "str" = false:=by decide +kernel
theorem vh:a5 "int" "tuple" = false:=by decide +kernel
theorem zH:a5 "str" "int" = false:=by decide +kernel
theorem xo:a5 "str" "bool" = false:=by decide +kernel
theorem yO:a5 "str" "str" = true:=by decide +kernel
theorem u7:a5 "str" "tuple" = false:=by decide +kernel
theorem Cb:a5 "tuple" "int" = false:=by decide +kernel
theorem xh:a5 "tuple" "bool" = false:=by decide +kernel
theorem Az:a5 "tuple" "str" = false:=by decide +kernel
theorem ua:a5 "tuple" "tuple" = true:=by decide +kernel
theorem Ag:a5 "list" "int" = false:=by decide +kernel
theorem xO:a5 "list" "bool" = false:=by decide +kernel
theorem yM:a5 "list" "str" = false:=by decide +kernel
theorem tU:a5 "list" "tuple" = false:=by decide +kernel
theorem yU:a5 "dict" "int" = false:=by decide +kernel
theorem xj:a5 "dict" "bool" = false:=by decide +kernel
theorem z4:a5 "dict" "str" = false:=by decide +kernel
theorem vc:a5 "dict" "tuple" = false:=by decide +kernel
def kTx (x:D)(f:Str→Prop):Prop:=match x with
  | .str z=>f z
  | _=>False
section
variable (c:String) (μ:Mu) (Q:DK)
theorem CW (x:Str)(i:Int):nT (.str x) (.int i) μ Q=(x.length≤1000000∧kN (L2.atI x.cps.toList i) fun c=>Q (.str ⟨#[c]⟩) μ):=propext Iff.rfl
theorem Hl (a:ETr)(ρ:ST)(Q:List D→Mu→Prop):JH a ρ μ Q=a ρ μ fun x μ1=>kTx x fun z=>z.cps.all (· < 128)=true∧Q (Ju z) μ1:=by
  unfold JH kTx;rfl
theorem Fj (a:ETr)(lo hi:OTr)(ρ:ST):AX a lo hi ρ μ Q=a ρ μ fun x μ1=>lo ρ μ1 fun i μ2=>hi ρ μ2 fun j μ3=>kTx x fun z=>z.length≤1000000∧Q (.str (Txt.slice z i j)) μ3:=by
  unfold AX kTx;rfl
theorem Kt (z:Str)(f:Str→Prop):kTx (.str z) f=f z:=propext Iff.rfl
theorem C5 (ρ:ST):BK ρ μ Q = ∀ p,μ p=none→Q (.obj p) (up μ p (.dct [])):=propext Iff.rfl
end
def kLz (x:D)(f:List D→Prop):Prop:=match x with
  | .ls z=>f z
  | _=>False
theorem IZ (z:List D)(f:List D→Prop):kLz (.ls z) f=f z:=propext Iff.rfl
theorem Cs (a i:ETr)(ρ:ST)(μ:Mu)(Q:DK):vL a i ρ μ Q=a ρ μ fun x μ1=>kTx x fun sep=>i ρ μ1 fun y μ2=>kLz y fun ds=>∃ zs,gY ds=some zs∧JoinOk sep zs=true∧Q (.str (Txt.join sep zs)) μ2:=by
  unfold vL kTx kLz;rfl
theorem yh (a b:ETr)(ρ:ST)(μ:Mu)(Q:DK):pF a b ρ μ Q=a ρ μ fun x μ1=>kTp x fun ds=>b ρ μ1 fun y μ2=>(bW 38 ds=true∧okD 38 y=true)∧kN (wR ds y) fun j=>Q (.int j) μ2:=propext Iff.rfl
theorem IH (ds:List D)(f:List D→Prop):kTp (.tup ds) f=f ds:=propext Iff.rfl
theorem Ej (a:ETr)(ρ:ST)(μ:Mu)(Q:List D→Mu→Prop):yS (af a au) ρ μ Q=a ρ μ fun x μ1=>kS x fun ds=>Q (ip ds) μ1:=propext Iff.rfl
theorem Fy (x:List D)(y:D)(μ:Mu)(Q:DK):BJ (.ls x) y μ Q=L3.rIx (.ls x) y μ Q:=propext Iff.rfl
theorem FD (x:Str)(y:D)(μ:Mu)(Q:DK):BJ (.str x) y μ Q=nT (.str x) y μ Q:=propext Iff.rfl
theorem GW (i n:Int)(μ:Mu)(Q:DK):Gr (.int i) (.int n) μ Q=((i=1∧0≤n∧n≤60)∧Q (.int (i*2 ^ n.toNat)) μ):=propext Iff.rfl
theorem FZ (i n:Int)(μ:Mu)(Q:DK):G8 (.int i) (.int n) μ Q=(0≤n∧Q (.int (i.fdiv (2 ^ n.toNat))) μ):=propext Iff.rfl
theorem DL (i n:Int)(μ:Mu)(Q:DK):zC (.int i) (.int n) μ Q=Q (.int (Builtin.bitAnd i n)) μ:=propext Iff.rfl
def F8 (G:GTr)(tt:TTr)(te:ETr)(ρc:ST)(ds:List D)(μ:Mu)(Q:DK):Prop:=∀ p,μ p=none→eC p G tt te ρc (fun μ'=>Q (.obj p) μ') ds (up μ p (.lst []))
theorem wX (it:ATr)(G:GTr)(tt:TTr)(te:ETr)(n:Nat)(caps:List Nat)(ρ:ST)(μ:Mu)(Q:DK):ql it G tt te n caps ρ μ Q=it ρ μ fun ds μ1=>F8 G tt te (gH ρ n caps) ds μ1 Q:=propext Iff.rfl
theorem HE (xs:List D)(μ:Mu)(Q:DK):cE vJ [.ls xs] μ Q = ∃ ns:List Int,xs=ns.map .int∧Q (.int ns.sum) μ:=propext Iff.rfl
theorem Dx (xs:List D)(μ:Mu)(Q:DK):cE v9 [.ls xs] μ Q = ∃ ns:List Int,(xs=ns.map .int∧ns≠[])∧∀ M,M∈ns→(∀ a∈ns,a≤M)→Q (.int M) μ:=propext Iff.rfl
def K0:=Jn @KG <| Jn @Lj <| Jn @Ln <| Jn @KN <| Jn @IZ <| Jn @yh <| Jn @IH <| Jn @Ej <| Jn @Fy <| Jn @FD <| Jn @GW <| Jn @FZ <| Jn @DL <| Jn @wX <| Jn @HE <| Jn @Dx <| Jn @Lf <| Jn @KS <| Jn @Lo <| Jn @K2 <| Jn @Lr <| Jn @K1 <| Jn @Lq <| Jn @KP <| Jn @Ll <| Jn @CW <| Jn @Kt <| Jn @C5 <| Jn @DJ <| Jn @Ht <| Jn @FW <| Jn @EA <| Jn @Dm <| Jn @FO <| Jn @Hn <| Jn @Gw <| Jn @Ea <| Jn @Ia <| Jn @HL <| Jn @C6 <| @Ka
local macro_rules | `(tactic| walk_at "go")=>`(tactic| try simp only[↓K0,Kl,↓Cs,↓Js,↓Hl,↓Fj,↓Kr,↓JT,↓IE,↓J4,↓JI,↓Iw,↓wG,↓kU,dD,cY,dq,dB,dQ,dU,eT,eG,cW,dC,dS,dE,dm,eE,dF,eS,dI,eF,dO,eN,qh,BB,w8,zr,ug,Bw,xr,za,u9,AG,yq,zD,vh,zH,xo,yO,u7,Cb,xh,Az,ua,Ag,xO,yM,tU,yU,xj,z4,vc,gH,List.map_cons,List.map_nil,List.replicate,List.cons_append,List.nil_append,lk,JP,Ko,EX,EG,zy,Au,vE,wJ,vM,vV,true_and,and_true,and_self,Bool.not_true,Bool.not_false,decide_true,decide_false,Bool.or_true,Bool.or_false,Bool.true_or,Bool.false_or,Bool.and_false,Bool.false_and,Bool.and_true,Bool.true_and,Int.reduceToNat,Int.reducePow,Int.reduceNeg,Int.reduceSub,Int.reduceAdd,Int.reduceMul,Int.reduceEq,Int.reduceLT,Int.reduceLE,Int.reduceBEq,rg,iS,gX,hX,iC,hU,iB,iy,if_true,if_false,Bool.false_eq_true,reduceCtorEq,decide_eq_true_eq])
local macro_rules | `(tactic| walk_at "ok")=>`(tactic| (simp only[L3.fc,L3.MulOk,L3.S64,L3.cg,L3.qY] at *;omega))
local macro_rules | `(tactic| walk_at "ini")=>`(tactic| simp only[ini,List.map,List.length,List.replicate,Nat.reduceSub,Nat.reduceAdd,Nat.sub_self,List.cons_append,List.nil_append,List.append_nil])
def b9:FSp:=fun ds μ Q=>match ds with
  | [.int i]=>Q (.bl true) μ
  | _=>False
theorem oU:∀ ds μ Q,b9 ds μ Q→ds.length=1:=by
  unfold b9
  walk_at "ln"
def kT:STr:=aS (fO (TUn (fZ "int") (ag 0)) (jG (TUn (fZ "bool") (ag 0))))
theorem qR:∀ ds μ Q,b9 ds μ Q→kT { nx:=fun _ μ'=>RT Q .non μ',rt:=RT Q } (ini 1 ds) μ:=by
  intro ds μ Q h
  unfold b9 at h
  split at h
  case h_2=>exact h.elim
  rename_i i
  walk_at "ini"
  unfold kT
  walk_at "go"
  exact ⟨_,.refl _,h⟩
def aU:FSp:=fun ds μ Q=>match ds with
  | [.tup xs,.int n]=>Q (.bl (decide ((xs.length:Int)=n))) μ
  | _=>False
theorem jM:∀ ds μ Q,aU ds μ Q→ds.length=2:=by
  unfold aU
  walk_at "ln"
def gu:STr:=aS (fO (TUn (fZ "tuple") (ag 0)) (ak rEq (aq c5 (af (ag 0) (au))) (ag 1)))
theorem lU:∀ ds μ Q,aU ds μ Q→gu { nx:=fun _ μ'=>RT Q .non μ',rt:=RT Q } (ini 2 ds) μ:=by
  intro ds μ Q h
  unfold aU at h
  split at h
  case h_2=>exact h.elim
  rename_i xs n
  walk_at "ini"
  unfold gu
  walk_at "go"
  exact ⟨_,.refl _,h⟩
def aX:FSp:=fun ds μ Q=>match ds with
  | [.int a,.int b]=>∃ R:Nat,(a=(R:Int)∧0 < R∧1≤b∧b≤8)∧Q (.int (Nat.lcm R b.toNat)) μ
  | _=>False
theorem f9:∀ ds μ Q,aX ds μ Q→ds.length=2:=by
  unfold aX
  walk_at "ln"
def dk:STr:=aS (ak d7 (ak ig (ag 0) (aq L3.bD (af (ag 0) (af (ag 1) (au))))) (ag 1))
theorem gG:∀ ds μ Q,aX ds μ Q→dk { nx:=fun _ μ'=>RT Q .non μ',rt:=RT Q } (ini 2 ds) μ:=by
  intro ds μ Q h
  unfold aX at h
  split at h
  case h_2=>exact h.elim
  rename_i a b
  walk_at "ini"
  unfold dk
  walk_at "go"
  obtain ⟨R,⟨rfl,R0,b0,b1⟩,k⟩:=h
  refine (show L3.ig (.int R) (.int (Int.gcd (R:Int) b)) μ (fun x μ1=>d7 x (.int b) μ1 fun y μ2=>RT Q y μ2) from ?_)
  have g0:0 < Int.gcd (R:Int) b:=Int.gcd_pos_of_ne_zero_right _ (by omega)
  have g1:(Int.gcd (R:Int) b:Int)≤b:=Int.gcd_le_right _ (by omega)
  walk_at "go"
  refine ⟨⟨by omega,by unfold cg;omega⟩,.inl (.inr (by unfold S64;omega)),?_⟩
  rw[AY R0 b0]
  exact ⟨_,.refl _,k⟩
def bx:FSp:=fun ds μ Q=>match ds with
  | [d]=>∃ x:SB,d=x.rl∧Q (fr x.r x.s) μ
  | _=>False
theorem lX:∀ ds μ Q,bx ds μ Q→ds.length=1:=by
  unfold bx
  walk_at "ln"
def fF:STr:=aS (ak L3.rIx (ag 0) (ak j5 (aq c5 (af (ag 0) (au))) (TC (.int 1))))
theorem oD:∀ ds μ Q,bx ds μ Q→fF { nx:=fun _ μ'=>RT Q .non μ',rt:=RT Q } (ini 1 ds) μ:=by
  intro ds μ Q h
  unfold bx at h
  split at h
  case h_2=>exact h.elim
  rename_i d
  walk_at "ini"
  unfold fF
  walk_at "go"
  obtain ⟨x,rfl,k⟩:=h
  unfold SB.rl
  walk_at "go"
  refine sV (qX (d:=fr x.r x.s) (by simp) (by simp)) ?_
  exact ⟨_,.refl _,k⟩
def bL:FSp:=fun ds μ Q=>match ds with
  | [d]=>∃ x:SB,(d=x.rl∧x.Ok)∧Q (.int x.lim) μ
  | _=>False
theorem oX:∀ ds μ Q,bL ds μ Q→ds.length=1:=by
  unfold bL
  walk_at "ln"
def lE:STr:=aS (aq L3.b8 (af (aq bx (af (ag 0) (au))) (au)))
theorem sT:∀ ds μ Q,bL ds μ Q→lE { nx:=fun _ μ'=>RT Q .non μ',rt:=RT Q } (ini 1 ds) μ:=by
  intro ds μ Q h
  unfold bL at h
  split at h
  case h_2=>exact h.elim
  rename_i d
  walk_at "ini"
  unfold lE
  walk_at "go"
  obtain ⟨x,⟨rfl,X⟩,k⟩:=h
  refine ⟨x,rfl,?_⟩
  walk_at "go"
  refine ⟨x.r,x.s,⟨HB X.f,Le.of (by have:=X.f.q0;omega) (by have:=X.f.q1;omega)⟩,?_⟩
  exact ⟨_,.refl _,k⟩
def bz:FSp:=fun ds μ Q=>match ds with
  | [d]=>∃ x:SB,(d=x.toD∧x.Ok)∧∀ z,Vl z x.lim x.bt→Q z μ
  | _=>False
theorem j9:∀ ds μ Q,bz ds μ Q→ds.length=1:=by
  unfold bz
  walk_at "ln"
def gk:STr:=aS (aq L3.cB (af (aq bL (af (ak L3.rIx (ag 0) (TC (.int 5))) (au))) (af (ak L3.rIx (ag 0) (TC (.int 2))) (au))))
theorem l3:∀ ds μ Q,bz ds μ Q→gk { nx:=fun _ μ'=>RT Q .non μ',rt:=RT Q } (ini 1 ds) μ:=by
  intro ds μ Q h
  unfold bz at h
  split at h
  case h_2=>exact h.elim
  rename_i d
  walk_at "ini"
  unfold gk
  walk_at "go"
  obtain ⟨x,⟨rfl,X⟩,k⟩:=h
  walk_at "go"
  refine ⟨x,⟨rfl,X⟩,?_⟩
  walk_at "go"
  have b0:=X.b0
  have b1:=X.b1
  refine ⟨⟨by omega,by unfold cg;omega⟩,fun p q hp=>?_⟩
  exact ⟨_,.refl _,k _ (pA hp (by omega))⟩
theorem ET {α:Type}(xs:List α)(P:α→Bool)(t:α→D):(xs.filterMap fun x=>if P x then some (t x) else none)=(xs.filter P).map t:=by
  rw[← List.filterMap_eq_map,List.filterMap_filter]
  rfl
def bj:FSp:=fun ds μ Q=>match ds with
  | [d,.str n]=>∃ (g:D) (ws:List WB) (ss:List SB),(d=plB g ws ss∧PyData.strOk n=true∧PB ws ss)∧Q (.ls ((onB n ss).map SB.toD)) μ
  | _=>False
theorem me:∀ ds μ Q,bj ds μ Q→ds.length=2:=by
  unfold bj
  walk_at "ln"
def gW:STr:=aS (cZ (f7 (ak L3.rIx (ag 0) (TC (.int 2)))) (aw 0) (TB (ak (Ek false) (ag 1) (ak L3.rIx (ag 0) (TC (.int 1))))) (ag 0) 1 [1])
theorem m4:∀ ds μ Q,bj ds μ Q→gW { nx:=fun _ μ'=>RT Q .non μ',rt:=RT Q } (ini 2 ds) μ:=by
  intro ds μ Q h
  unfold bj at h
  split at h
  case h_2=>exact h.elim
  rename_i d n
  walk_at "ini"
  unfold gW
  walk_at "go"
  obtain ⟨g,ws,ss,⟨rfl,on,P⟩,k⟩:=h
  have sl:=P.sl
  walk_at "go"
  refine kY ss SB.toD (fun y=>if decide (n∈y.rd) then some y.toD else none) rfl (by omega) (fun y hy μ' _ N m=>?_) ?_
  · walk_at "go"
    rw[Ei]
    refine ⟨⟨vN (P.s y hy).rd,on⟩,?_⟩
    refine kif (fun h=>?_) fun h=>?_
    · rw[decide_eq_true h] at m;exact m
    · rw[decide_eq_false h] at m;exact m
  rw[ET]
  exact ⟨_,.refl _,k⟩
theorem wK (x:SB)(r:List SB):ld (x::r)=x.lim*(840 / x.bt)+ld r:=by unfold ld;rw[List.map_cons,List.sum_cons]
theorem yX {x:SB}(X:x.Ok):0≤x.lim*(840 / x.bt)∧x.lim*(840 / x.bt)≤60*840:=by
  have l:=X.lim
  have b0:=X.b0
  have q0:0≤840 / x.bt:=Int.ediv_nonneg (by decide) (by omega)
  have q1:840 / x.bt≤840:=Int.ediv_le_self _ (by decide)
  exact ⟨Int.mul_nonneg (by omega) q0,Int.mul_le_mul l.2 q1 q0 (by decide)⟩
theorem BO {l:List SB}(h:∀ x∈l,x.Ok):0≤ld l∧ld l≤60*840*l.length:=by
  induction l with
  | nil=>exact ⟨by simp[ld],by simp[ld]⟩
  | cons x r ih=>
    have i:=ih fun y z=>h y (List.mem_cons_of_mem _ z)
    have o:=yX (h x List.mem_cons_self)
    rw[wK,List.length_cons]
    omega
def cx:FSp:=fun ds μ Q=>match ds with
  | [.ls xs]=>∃ l:List SB,(xs=l.map SB.toD∧(∀ x∈l,x.Ok)∧l.length≤8)∧∀ z,Vl z (ld l) 840→Q z μ
  | _=>False
theorem r8:∀ ds μ Q,cx ds μ Q→ds.length=1:=by
  unfold cx
  walk_at "ln"
def nP:STr:=aG (aP (TC (.tup [.int 0,.int 1])) (aw 1)) (aG (iZ (f7 (ag 0)) (aw 2) (aP (aq L3.fS (af (ag 1) (af (aq bz (af (ag 2) (au))) (au)))) (aw 1))) (aS (ag 1)))
theorem vi:∀ ds μ Q,cx ds μ Q→nP { nx:=fun _ μ'=>RT Q .non μ',rt:=RT Q } (ini 3 ds) μ:=by
  intro ds μ Q h
  unfold cx at h
  split at h
  case h_2=>exact h.elim
  rename_i xs
  walk_at "ini"
  unfold nP
  walk_at "go"
  obtain ⟨l,⟨rfl,ho,hl⟩,k⟩:=h
  have top:=(BO ho).2
  refine cn (fun r ρ μ'=>∃ (rs:List SB) (a:Int) (z:D) (v2:Option D),r=rs.map SB.toD∧(∀ x∈rs,x.Ok)∧ρ=[some (.ls (l.map SB.toD)),some z,v2]∧μ'=μ∧Vl z a 840∧0≤a∧a+ld rs=ld l) ?_ ?_ _ _ _ ⟨l,0,_,_,rfl,ho,rfl,rfl,⟨⟨0,1,rfl,⟨by decide,by decide,by decide,by decide,by decide⟩⟩,by decide⟩,by decide,by omega⟩
  · rintro ρ μ' ⟨rs,a,z,v2,er,_,rfl,rfl,V,_,e⟩
    cases rs with
    | cons _ _=>cases er
    | nil=>
    have e:a=ld l:=by simpa[ld] using e
    rw[e] at V
    walk_at "go"
    exact ⟨_,.refl _,k _ V⟩
  · rintro d r ρ μ' N ⟨rs,a,z,v2,er,hr,rfl,rfl,V,a0,e⟩ hN
    cases rs with
    | nil=>cases er
    | cons x rs=>
    cases er
    have X:=hr x List.mem_cons_self
    have o:=yX X
    have b0:=X.b0
    have b1:=X.b1
    have lm:=X.lim
    have rn:=(BO fun y hy=>hr y (List.mem_cons_of_mem x hy)).1
    rw[wK] at e
    walk_at "go"
    refine ⟨x,⟨rfl,X⟩,fun z1 V1=>?_⟩
    walk_at "go"
    refine ⟨a,840,x.lim,x.bt,⟨⟨V,V1⟩,Le.of a0 (by omega),Le.of (by decide) (by decide),Le.of (by omega) (by omega),Le.of (by omega) (by omega)⟩,fun z2 V2=>?_⟩
    refine hN _ _ ⟨rs,a+x.lim*(840 / x.bt),z2,_,rfl,(fun y hy=>hr y (List.mem_cons_of_mem x hy)),rfl,rfl,V2.of_eq (by decide) ?_,by omega,by omega⟩
    have q:=(A7 b0 b1).1
    generalize 840 / x.bt=Z at q
    have e1:(a+x.lim*Z)*(840*x.bt)=a*x.bt*840+x.lim*(Z*x.bt)*840:=by
      rw[Int.add_mul]
      congr 1
      · ac_rfl
      · ac_rfl
    rw[e1,q,Int.add_mul]
def aT:FSp:=fun ds μ Q=>match ds with
  | [d,.ls xs]=>∃ (w:WB) (l:List SB),((d=w.toD∧w.Ok)∧xs=l.map SB.toD∧(∀ x∈l,x.Ok)∧l.length≤8)∧Q (.bl (inP w l)) μ
  | _=>False
theorem gE:∀ ds μ Q,aT ds μ Q→ds.length=2:=by
  unfold aT
  walk_at "ln"
def d9:STr:=aS (jG (aq L3.fW (af (cq (af (ak L3.rIx (ag 0) (TC (.int 1))) (af (TC (.int 1)) (au)))) (af (aq cx (af (ag 1) (au))) (au)))))
theorem iN:∀ ds μ Q,aT ds μ Q→d9 { nx:=fun _ μ'=>RT Q .non μ',rt:=RT Q } (ini 2 ds) μ:=by
  intro ds μ Q h
  unfold aT at h
  split at h
  case h_2=>exact h.elim
  rename_i d xs
  walk_at "ini"
  unfold d9
  walk_at "go"
  obtain ⟨w,l,⟨⟨rfl,K⟩,rfl,ho,hl⟩,k⟩:=h
  have p0:=K.p0
  have p1:=K.p1
  have ln:=BO ho
  refine ⟨l,⟨rfl,ho,hl⟩,fun z V=>?_⟩
  walk_at "go"
  refine ⟨w.pc,1,ld l,840,⟨⟨⟨⟨w.pc,1,rfl,by decide,by simp,rfl,Nat.le_refl _,Nat.le_refl _⟩,by decide⟩,V⟩,Le.of (by omega) (by omega),Le.of (by decide) (by decide),Le.of (by omega) (by omega),Le.of (by decide) (by decide)⟩,?_⟩
  walk_at "go"
  have e:(!decide (w.pc*840 < ld l*1))=inP w l:=by
    unfold inP
    rw[← decide_not]
    exact decide_eq_decide.mpr (by omega)
  rw[e]
  exact ⟨_,.refl _,k⟩
def bw:FSp:=fun ds μ Q=>match ds with
  | [d,.str n,.obj q]=>∃ (x:SB) (W:WF) (tab:List (L2.Key×D)),((d=x.toD∧x.Ok∧n∈x.rd∧PyData.strOk n=true)∧μ q=some (.dct tab)∧rE tab W (frn n x.rd))∧Q (.int (ahd W n x)) μ
  | _=>False
theorem Cu (n:Str)(rd:List Str):(frn n rd).length≤rd.length:=by unfold frn;rw[List.length_take];omega
theorem zP {n:Str}(rd:List Str):cutD (rd.map D.str) none (some ((rd.findIdx fun x=>decide (x=n):Nat):Int))=(frn n rd).map D.str:=by
  rw[qm,← List.map_take];rfl
theorem jY:∀ ds μ Q,bw ds μ Q→ds.length=3:=by
  unfold bw
  walk_at "ln"
def gc:STr:=aG (aP (ak L3.rIx (ag 0) (TC (.int 1))) (aw 3)) (aS (aq vJ (af (cZ (f7 (TSl (ag 3) (ONo) (fC (pF (ag 3) (ag 1))))) (aw 0) (jd) (yG (ag 1) (ag 0)) 1 [2]) (au))))
theorem kr:∀ ds μ Q,bw ds μ Q→gc { nx:=fun _ μ'=>RT Q .non μ',rt:=RT Q } (ini 4 ds) μ:=by
  intro ds μ Q h
  unfold bw at h
  split at h
  case h_2=>exact h.elim
  rename_i d n q
  walk_at "ini"
  unfold gc
  walk_at "go"
  obtain ⟨x,W,tab,⟨⟨rfl,X,hn,on⟩,eq,T⟩,k⟩:=h
  walk_at "go"
  refine ⟨⟨vN X.rd,on⟩,?_⟩
  rw[Bl hn]
  walk_at "go"
  rw[zP]
  have fl:=Cu n x.rd
  have xl:=X.l
  refine eA (frn n x.rd) D.str (fun m=>.int (W m)) rfl (by omega) (fun m hm μ' s' N nn=>?_) ?_
  · walk_at "go"
    refine Fb (s' q _ eq) ?_
    rw[T m hm]
    exact nn
  walk_at "go"
  exact ⟨(frn n x.rd).map W,by rw[List.map_map];rfl,_,.refl _,k⟩
theorem z8 (W:WF)(n:Str)(x:SB)(r:List SB)(j:Int):com W n (x::r) j=cmb W n j x+com W n r j:=by unfold com;rw[List.map_cons,List.sum_cons]
def aZ:FSp:=fun ds μ Q=>match ds with
  | [.str n,.ls xs,.obj q,.int j]=>∃ (l:List SB) (W:WF) (tab:List (L2.Key×D)),(xs=l.map SB.toD∧LB n l W tab∧μ q=some (.dct tab))∧Q (.int (com W n l j)) μ
  | _=>False
theorem j8:∀ ds μ Q,aZ ds μ Q→ds.length=4:=by
  unfold aZ
  walk_at "ln"
def gq:STr:=aG (aP (TC (.int 0)) (aw 4)) (aG (iZ (f7 (ag 1)) (aw 5) (aG (aP (aq L3.bK (af (aq L3.cB (af (ak aI (ag 3) (aq bw (af (ag 5) (af (ag 0) (af (ag 2) (au)))))) (af (ak L3.rIx (ag 5) (TC (.int 2))) (au)))) (au))) (aw 6)) (Bm (fun m n=>m+n) 4 (ak d7 (aq bL (af (ak L3.rIx (ag 5) (TC (.int 5))) (au))) (ag 6))))) (aS (ag 4)))
theorem lr:∀ ds μ Q,aZ ds μ Q→gq { nx:=fun _ μ'=>RT Q .non μ',rt:=RT Q } (ini 7 ds) μ:=by
  intro ds μ Q h
  unfold aZ at h
  split at h
  case h_2=>exact h.elim
  rename_i n xs q j
  walk_at "ini"
  unfold gq
  walk_at "go"
  obtain ⟨l,W,tab,⟨rfl,L,eq⟩,k⟩:=h
  refine cn (fun r ρ μ'=>∃ (rs:List SB) (a:Int) (v5 v6:Option D),r=rs.map SB.toD∧(∀ x∈rs,x∈l)∧ρ=[some (.str n),some (.ls (l.map SB.toD)),some (.obj q),some (.int j),some (.int a),v5,v6]∧μ'=μ∧a+com W n rs j=com W n l j) ?_ ?_ _ _ _ ⟨l,0,_,_,rfl,(fun _ h=>h),rfl,rfl,by omega⟩
  · rintro ρ μ' ⟨rs,a,v5,v6,er,_,rfl,rfl,e⟩
    cases rs with
    | cons _ _=>cases er
    | nil=>
    have e:a=com W n l j:=by simpa[com] using e
    rw[← e] at k
    walk_at "go"
    exact ⟨_,.refl _,k⟩
  · rintro d r ρ μ' N ⟨rs,a,v5,v6,er,hr,rfl,rfl,e⟩ hN
    cases rs with
    | nil=>cases er
    | cons x rs=>
    cases er
    have hx:=hr x List.mem_cons_self
    have X:=L.o x hx
    have b0:=X.b0
    have b1:=X.b1
    have lm:=X.lim
    rw[z8] at e
    walk_at "go"
    refine ⟨x,W,tab,⟨⟨rfl,X,L.on x hx,L.n⟩,eq,L.t x hx⟩,?_⟩
    walk_at "go"
    refine ⟨⟨by omega,by unfold cg;omega⟩,fun p z hp=>?_⟩
    refine ⟨j+ahd W n x,x.bt,⟨pA hp (by omega),Le.of (by omega) (by omega)⟩,?_⟩
    walk_at "go"
    refine ⟨x,⟨rfl,X⟩,?_⟩
    walk_at "go"
    refine ⟨.inl (.inl (by unfold S64;omega)),?_⟩
    have ec:a+x.lim * -(-(j+ahd W n x) / x.bt)=a+cmb W n j x:=by
      unfold cmb
      rw[vS (show 0 < x.bt by omega)]
    rw[ec]
    exact hN _ _ ⟨rs,a+cmb W n j x,_,_,rfl,(fun y hy=>hr y (List.mem_cons_of_mem x hy)),rfl,rfl,by omega⟩
def bZ:FSp:=fun ds μ Q=>match ds with
  | [d,.ls xs,.obj q]=>∃ (w:WB) (l:List SB) (W:WF) (tab:List (L2.Key×D)),((d=w.toD∧w.Ok)∧xs=l.map SB.toD∧LB w.nm l W tab∧μ q=some (.dct tab)∧W0 W)∧Q (.int (pk W w l)) μ
  | _=>False
theorem sv:∀ ds μ Q,bZ ds μ Q→ds.length=3:=by
  unfold bZ
  walk_at "ln"
def nM:STr:=aG (aP (TC (.int 1)) (aw 3)) (aG (iZ (f7 (ag 1)) (aw 4) (aP (aq aX (af (ag 3) (af (ak L3.rIx (ag 4) (TC (.int 2))) (au)))) (aw 3))) (aG (aP (rB (au)) (aw 5)) (aG (iZ (pE (TC (.int 1)) (ak aI (ag 3) (TC (.int 1)))) (aw 6) (jx (uT (ag 5) (ak j5 (aq aZ (af (ak L3.rIx (ag 0) (TC (.int 0))) (af (ag 1) (af (ag 2) (af (ag 6) (au)))))) (ak d7 (ak L3.rIx (ag 0) (TC (.int 1))) (ak j5 (ag 6) (TC (.int 1)))))))) (aS (aq v9 (af (xV (ag 5)) (au)))))))
theorem t9:∀ ds μ Q,bZ ds μ Q→nM { nx:=fun _ μ'=>RT Q .non μ',rt:=RT Q } (ini 7 ds) μ:=by
  intro ds μ Q h
  unfold bZ at h
  split at h
  case h_2=>exact h.elim
  rename_i d xs q
  walk_at "ini"
  unfold nM
  walk_at "go"
  obtain ⟨w,l,W,tab,⟨⟨rfl,K⟩,rfl,L,eq,w0⟩,k⟩:=h
  have p0:=K.p0
  have p1:=K.p1
  obtain ⟨d1,d2,_,_,_⟩:=wu (l:=l) (R:=1) L.o (Nat.one_dvd _) (by decide)
  have d3:=Nat.le_of_dvd (by decide) d1
  refine cn (fun r ρ μ'=>∃ (rs:List SB) (R:Nat) (v4 v5 v6:Option D),r=rs.map SB.toD∧(∀ x∈rs,x∈l)∧ρ=[some w.toD,some (.ls (l.map SB.toD)),some (.obj q),some (.int R),v4,v5,v6]∧μ'=μ∧0 < R∧rdN R rs=rdN 1 l) ?_ ?_ _ _ _ ⟨l,1,_,_,_,rfl,(fun _ h=>h),rfl,rfl,by decide,rfl⟩
  rotate_left
  · rintro d r ρ μ' N ⟨rs,R,v4,v5,v6,er,hr,rfl,rfl,R0,e⟩ hN
    cases rs with
    | nil=>cases er
    | cons x rs=>
    cases er
    have X:=L.o x (hr x List.mem_cons_self)
    have b0:=X.b0
    walk_at "go"
    refine ⟨R,⟨rfl,R0,X.b0,X.b1⟩,?_⟩
    exact hN _ _ ⟨rs,Nat.lcm R x.bt.toNat,_,_,_,rfl,(fun y hy=>hr y (List.mem_cons_of_mem x hy)),rfl,rfl,Nat.lcm_pos R0 (by omega),e⟩
  · rintro ρ μ' ⟨rs,R,v4,v5,v6,er,_,rfl,rfl,R0,e⟩
    cases rs with
    | cons _ _=>cases er
    | nil=>
    have e:R=rdN 1 l:=e
    subst e
    walk_at "go"
    intro p hp
    have pq:p≠q:=fun z=>by subst z;rw[eq] at hp;cases hp
    walk_at "go"
    have er:((rdN 1 l:Nat):Int)+1 - 1=(rdN 1 l:Nat):=by omega
    rw[er,Int.toNat_natCast]
    refine ⟨⟨by omega,by omega⟩,?_⟩
    refine cn (fun r ρ μ2=>∃ (dn rs:List Nat) (v6:Option D),r=rs.map (fun i:Nat=>D.int (1+(i:Int)))∧dn++rs=List.range (rdN 1 l)∧ρ=[some w.toD,some (.ls (l.map SB.toD)),some (.obj q),some (.int (rdN 1 l:Nat)),v4,some (.obj p),v6]∧μ2=up μ' p (.lst ((dn.map fun i:Nat=>com W w.nm l (1+(i:Int)) - w.pc*(1+(i:Int) - 1)).map D.int))) ?_ ?_ _ _ _ ⟨[],List.range (rdN 1 l),_,rfl,rfl,rfl,rfl⟩
    · rintro ρ μ2 ⟨dn,rs,v6,er,es,rfl,rfl⟩
      cases rs with
      | cons _ _=>cases er
      | nil=>
      rw[List.append_nil] at es
      subst es
      walk_at "go"
      have hk:pkL W w l=(List.range (rdN 1 l)).map fun i:Nat=>com W w.nm l (1+(i:Int)) - w.pc*(1+(i:Int) - 1):=rfl
      rw[← hk]
      have m0:com W w.nm l 1∈pkL W w l:=by
        rw[hk]
        exact List.mem_map.mpr ⟨0,List.mem_range.mpr d2,by simp⟩
      refine ⟨pkL W w l,⟨rfl,fun z=>by rw[z] at m0;cases m0⟩,fun M h1 h2=>?_⟩
      have c0:=AS w0 (n:=w.nm) L.o (k:=1) (by decide)
      have:=h2 _ m0
      have e:=J2 (.inr h1) (by omega) h2
      rw[e,E1 hp]
      exact ⟨_,.refl _,k⟩
    · rintro d r ρ μ2 N ⟨dn,rs,v6,er,es,rfl,rfl⟩ hN
      cases rs with
      | nil=>cases er
      | cons i rs=>
      cases er
      have dl:dn.length+(rs.length+1)=rdN 1 l:=by
        have:=congrArg List.length es
        simpa using this
      walk_at "go"
      refine ⟨l,W,tab,⟨rfl,L,by rw[aV (Ne.symm pq)];exact eq⟩,?_⟩
      walk_at "go"
      refine ⟨.inl (.inl (by unfold S64;omega)),by simp;omega,hN _ _ ⟨dn++[i],rs,_,rfl,by rw[← es];simp,rfl,?_⟩⟩
      simp
def bh:FSp:=fun ds μ Q=>match ds with
  | [d,.ls xs,.obj q]=>∃ (w:WB) (l:List SB) (W:WF) (tab:List (L2.Key×D)),((d=w.toD∧w.Ok)∧xs=l.map SB.toD∧LB w.nm l W tab∧μ q=some (.dct tab)∧W0 W)∧Q (.int (most W w l)) μ
  | _=>False
theorem lQ:∀ ds μ Q,bh ds μ Q→ds.length=3:=by
  unfold bh
  walk_at "ln"
def h8:STr:=aG (cG (iY (TB (aq aT (af (ag 0) (af (ag 1) (au)))))) (aS (ak L3.rIx (ag 0) (TC (.int 2)))) (bA)) (aS (aq lC (af (ak L3.rIx (ag 0) (TC (.int 2))) (af (aq bZ (af (ag 0) (af (ag 1) (af (ag 2) (au))))) (au)))))
theorem nj:∀ ds μ Q,bh ds μ Q→h8 { nx:=fun _ μ'=>RT Q .non μ',rt:=RT Q } (ini 3 ds) μ:=by
  intro ds μ Q h
  unfold bh at h
  split at h
  case h_2=>exact h.elim
  rename_i d xs q
  walk_at "ini"
  unfold h8
  walk_at "go"
  obtain ⟨w,l,W,tab,⟨⟨rfl,K⟩,rfl,L,eq,w0⟩,k⟩:=h
  refine ⟨w,l,⟨⟨rfl,K⟩,rfl,L.o,L.len⟩,?_⟩
  walk_at "go"
  unfold most at k
  cases h:inP w l with
  | false=>
    rw[h] at k
    walk_at "go"
    exact ⟨_,.refl _,k⟩
  | true=>
    rw[h] at k
    walk_at "go"
    refine ⟨w,l,W,tab,⟨⟨rfl,K⟩,rfl,L,eq,w0⟩,?_⟩
    walk_at "go"
    exact ⟨_,.refl _,k⟩
def aW:FSp:=fun ds μ Q=>match ds with
  | [d,.ls xs,.obj q]=>∃ (w:WB) (l:List SB) (W:WF) (tab:List (L2.Key×D)),((d=w.toD∧w.Ok)∧xs=l.map SB.toD∧LB w.nm l W tab∧μ q=some (.dct tab)∧W0 W)∧Q (.bl (eZ W w l)) μ
  | _=>False
theorem iF:∀ ds μ Q,aW ds μ Q→ds.length=3:=by
  unfold aW
  walk_at "ln"
def fb:STr:=aS (fO (aq aT (af (ag 0) (af (ag 1) (au)))) (ak rLe (aq bZ (af (ag 0) (af (ag 1) (af (ag 2) (au))))) (ak L3.rIx (ag 0) (TC (.int 2)))))
theorem ja:∀ ds μ Q,aW ds μ Q→fb { nx:=fun _ μ'=>RT Q .non μ',rt:=RT Q } (ini 3 ds) μ:=by
  intro ds μ Q h
  unfold aW at h
  split at h
  case h_2=>exact h.elim
  rename_i d xs q
  walk_at "ini"
  unfold fb
  walk_at "go"
  obtain ⟨w,l,W,tab,⟨⟨rfl,K⟩,rfl,L,eq,w0⟩,k⟩:=h
  refine ⟨w,l,⟨⟨rfl,K⟩,rfl,L.o,L.len⟩,?_⟩
  walk_at "go"
  unfold eZ at k
  cases h:inP w l with
  | false=>
    rw[h] at k
    walk_at "go"
    exact ⟨_,.refl _,k⟩
  | true=>
    rw[h] at k
    walk_at "go"
    refine ⟨w,l,W,tab,⟨⟨rfl,K⟩,rfl,L,eq,w0⟩,?_⟩
    walk_at "go"
    exact ⟨_,.refl _,k⟩
def b6:FSp:=fun ds μ Q=>match ds with
  | [d,.ls xs,.obj q,.int m,.int j]=>∃ (w:WB) (l:List SB) (W:WF) (tab:List (L2.Key×D)),((d=w.toD∧w.Ok)∧xs=l.map SB.toD∧LB w.nm l W tab∧μ q=some (.dct tab)∧0≤j)∧Q (.bl (isW W w l m j)) μ
  | _=>False
theorem rH:∀ ds μ Q,b6 ds μ Q→ds.length=5:=by
  unfold b6
  walk_at "ln"
def oH:STr:=aG (cG (TB (ak rEq (aq c5 (af (ag 1) (au))) (TC (.int 0)))) (aS (TC (.bl true))) (bA)) (aG (aP (aq lC (af (ak L3.rIx (ag 0) (TC (.int 2))) (af (ag 3) (au)))) (aw 5)) (aG (cG (TB (ak rEq (ak L3.rIx (ag 0) (TC (.int 4))) (TC (.str "turns")))) (aP (ak d7 (ag 5) (aq c5 (af (ag 1) (au)))) (aw 5)) (bA)) (aG (cG (TB (ak rGe (ag 4) (ak j5 (aq L3.bK (af (aq L3.cB (af (ag 5) (af (ak L3.rIx (ag 0) (TC (.int 1))) (au)))) (au))) (TC (.int 1))))) (aS (TC (.bl true))) (bA)) (aS (ak rLe (aq aZ (af (ak L3.rIx (ag 0) (TC (.int 0))) (af (ag 1) (af (ag 2) (af (ak aI (ag 4) (TC (.int 1))) (au)))))) (ak d7 (ak L3.rIx (ag 0) (TC (.int 1))) (ak aI (ag 4) (TC (.int 1)))))))))
theorem uC:∀ ds μ Q,b6 ds μ Q→oH { nx:=fun _ μ'=>RT Q .non μ',rt:=RT Q } (ini 6 ds) μ:=by
  intro ds μ Q h
  unfold b6 at h
  split at h
  case h_2=>exact h.elim
  rename_i d xs q m j
  walk_at "ini"
  unfold oH
  walk_at "go"
  obtain ⟨w,l,W,tab,⟨⟨rfl,K⟩,rfl,L,eq,j0⟩,k⟩:=h
  have p0:=K.p0
  have p1:=K.p1
  have r0:=K.r0
  have r1:=K.r1
  have ll:=L.len
  rw[List.length_map]
  cases hl:l with
  | nil=>
    subst hl
    have k:Q (.bl true) μ:=k
    walk_at "go"
    exact ⟨_,.refl _,k⟩
  | cons x0 r0'=>
  rw[← hl]
  have l0:0 < l.length:=by rw[hl];simp
  have e0:decide ((l.length:Int)=0)=false:=decide_eq_false (by omega)
  rw[e0]
  walk_at "go"
  refine ⟨⟨Km _,C4⟩,?_⟩
  rw[KW]
  have fin:∀ s:Int,s=eB w l m→cE L3.cB [.int s,.int w.pc] μ fun x μ1=>cE L3.bK [x] μ1 fun y μ2=>L3.j5 y (.int 1) μ2 fun z μ3=>L3.rGe (.int j) z μ3 fun t μ4=>kB t fun c=>kIf c (RT Q (.bl true) μ4) (L3.aI (.int j) (.int 1) μ4 fun n1 μ5=>cE aZ [.str w.nm,.ls (l.map SB.toD),.obj q,n1] μ5 fun c1 μ6=>L3.aI (.int j) (.int 1) μ6 fun n2 μ7=>d7 (.int w.pc) n2 μ7 fun c2 μ8=>L3.rLe c1 c2 μ8 fun y μ9=>RT Q y μ9):=by
    rintro s rfl
    refine ⟨⟨by omega,by unfold cg;omega⟩,fun p z hp=>?_⟩
    refine ⟨eB w l m,w.pc,⟨pA hp (by omega),Le.of (by omega) (by omega)⟩,?_⟩
    rw[vS (show 0 < w.pc by omega)]
    walk_at "go"
    have ne:decide (l=[])=false:=decide_eq_false fun z=>by rw[z] at l0;simp at l0
    unfold isW at k
    rw[ne,Bool.false_or] at k
    have ep:decide (plc w l m≤j)=decide ((eB w l m+w.pc - 1) / w.pc - 1≤j):=decide_eq_decide.mpr (by unfold plc;omega)
    rw[ep] at k
    refine kif (fun h=>?_) fun h=>?_
    · rw[decide_eq_true h,Bool.true_or] at k
      exact ⟨_,.refl _,k⟩
    · rw[decide_eq_false h,Bool.false_or] at k
      walk_at "go"
      refine ⟨l,W,tab,⟨rfl,L,eq⟩,?_⟩
      walk_at "go"
      refine ⟨.inl (.inl (by unfold S64;omega)),?_⟩
      exact ⟨_,.refl _,k⟩
  cases hs:w.so with
  | true=>
    have e:min w.rm m*(l.length:Int)=eB w l m:=by unfold eB;rw[hs];rfl
    walk_at "go"
    refine ⟨.inl (.inr (by unfold S64;omega)),?_⟩
    have f:=fin _ e
    walk_at "go"
    exact f
  | false=>
    have e:min w.rm m=eB w l m:=by unfold eB;rw[hs];rfl
    have f:=fin _ e
    walk_at "go"
    exact f
def bB:FSp:=fun ds μ Q=>match ds with
  | [.int i]=>Q (.bl (decide (0≤i))) μ
  | _=>False
theorem qw:∀ ds μ Q,bB ds μ Q→ds.length=1:=by
  unfold bB
  walk_at "ln"
def mq:STr:=aS (fO (aq b9 (af (ag 0) (au))) (ak rGe (ag 0) (TC (.int 0))))
theorem sR:∀ ds μ Q,bB ds μ Q→mq { nx:=fun _ μ'=>RT Q .non μ',rt:=RT Q } (ini 1 ds) μ:=by
  intro ds μ Q h
  unfold bB at h
  split at h
  case h_2=>exact h.elim
  rename_i i
  walk_at "ini"
  unfold mq
  walk_at "go"
  walk_at "go"
  exact ⟨_,.refl _,h⟩
theorem J7 {ws:List WB}{rs:List RB}(h:rs.map RB.nm=ws.map WB.nm):∀ p∈ws.zip rs,p.2.nm=p.1.nm:=by
  induction ws generalizing rs with
  | nil=>intro p hp;simp at hp
  | cons w ws ih=>
    cases rs with
    | nil=>intro p hp;simp at hp
    | cons r rs=>
      simp only[List.cons.injEq,List.map_cons] at h
      intro p hp
      rw[List.zip_cons_cons] at hp
      rcases List.mem_cons.mp hp with rfl | hp
      · exact h.1
      · exact ih h.2 p hp
theorem EO {xs:List D}{n:Int}{μ:Mu}{Q:DK}:cE aU [.tup xs,.int n] μ Q=Q (.bl (decide ((xs.length:Int)=n))) μ:=propext Iff.rfl
theorem ES {n:Int}{μ:Mu}{Q:DK}:cE bB [.int n] μ Q=Q (.bl (decide (0≤n))) μ:=propext Iff.rfl
def bR:FSp:=fun ds μ Q=>match ds with
  | [d,e]=>∃ (w:WB) (r:RB),((d=w.toD∧w.Ok)∧e=r.toD∧r.nm=w.nm∧0≤r.mo∧0≤r.wa)∧Q (.bl true) μ
  | _=>False
theorem nH:∀ ds μ Q,bR ds μ Q→ds.length=2:=by
  unfold bR
  walk_at "ln"
def jz:STr:=aG (cG (TOr (iY (TB (aq aU (af (ag 1) (af (TC (.int 4)) (au)))))) (TOr (iY (TB (TUn (fZ "str") (ak L3.rIx (ag 1) (TC (.int 0)))))) (TB (ak rNe (ak L3.rIx (ag 1) (TC (.int 0))) (ak L3.rIx (ag 0) (TC (.int 0))))))) (aS (TC (.bl false))) (bA)) (aS (fO (aq bB (af (ak L3.rIx (ag 1) (TC (.int 1))) (au))) (fO (aq bB (af (ak L3.rIx (ag 1) (TC (.int 2))) (au))) (TUn (fZ "bool") (ak L3.rIx (ag 1) (TC (.int 3)))))))
theorem qo:∀ ds μ Q,bR ds μ Q→jz { nx:=fun _ μ'=>RT Q .non μ',rt:=RT Q } (ini 2 ds) μ:=by
  intro ds μ Q h
  unfold bR at h
  split at h
  case h_2=>exact h.elim
  rename_i d e
  walk_at "ini"
  unfold jz
  walk_at "go"
  obtain ⟨w,r,⟨⟨rfl,K⟩,rfl,en,m0,w0⟩,k⟩:=h
  have on:=K.n
  walk_at "go"
  refine (show cE aU [.tup [.str r.nm,.int r.mo,.int r.wa,.bl r.no],.int 4] _ _ from ?_)
  rw[EO,decide_eq_true (show (([D.str r.nm,.int r.mo,.int r.wa,.bl r.no].length:Nat):Int)=4 from rfl)]
  rw[en]
  walk_at "go"
  refine ⟨on,?_⟩
  rw[ES,decide_eq_true m0]
  walk_at "go"
  rw[ES,decide_eq_true w0]
  walk_at "go"
  exact ⟨_,.refl _,k⟩
def bb:FSp:=fun ds μ Q=>match ds with
  | [d,e,.obj q,f]=>∃ (g:D) (ws:List WB) (ss:List SB) (w:WB) (r:RB) (W:WF) (tab:List (L2.Key×D)),((d=plB g ws ss∧PB ws ss)∧(e=w.toD∧w.Ok)∧(f=r.toD∧0≤r.wa)∧LB w.nm (onB w.nm ss) W tab∧μ q=some (.dct tab)∧W0 W)∧Q (.bl (rgt W ss w r)) μ
  | _=>False
theorem jh:∀ ds μ Q,bb ds μ Q→ds.length=4:=by
  unfold bb
  walk_at "ln"
def fq:STr:=aG (aP (aq bj (af (ag 0) (af (ak L3.rIx (ag 1) (TC (.int 0))) (au)))) (aw 4)) (aG (cG (TB (ak rLt (ak L3.rIx (ag 3) (TC (.int 1))) (aq bh (af (ag 1) (af (ag 4) (af (ag 2) (au))))))) (aS (TC (.bl false))) (bA)) (aG (cG (iY (TB (aq b6 (af (ag 1) (af (ag 4) (af (ag 2) (af (ak L3.rIx (ag 3) (TC (.int 1))) (af (ak L3.rIx (ag 3) (TC (.int 2))) (au))))))))) (aS (TC (.bl false))) (bA)) (aS (xu (jG (ak L3.rIx (ag 3) (TC (.int 3)))) (aq aW (af (ag 1) (af (ag 4) (af (ag 2) (au)))))))))
theorem jP:∀ ds μ Q,bb ds μ Q→fq { nx:=fun _ μ'=>RT Q .non μ',rt:=RT Q } (ini 5 ds) μ:=by
  intro ds μ Q h
  unfold bb at h
  split at h
  case h_2=>exact h.elim
  rename_i d e q f
  walk_at "ini"
  unfold fq
  walk_at "go"
  obtain ⟨g,ws,ss,w,r,W,tab,⟨⟨rfl,P⟩,⟨rfl,K⟩,⟨rfl,r0⟩,L,eq,w0⟩,k⟩:=h
  walk_at "go"
  refine ⟨g,ws,ss,⟨rfl,K.n,P⟩,?_⟩
  walk_at "go"
  refine ⟨w,onB w.nm ss,W,tab,⟨⟨rfl,K⟩,rfl,L,eq,w0⟩,?_⟩
  walk_at "go"
  unfold rgt at k
  refine kif (fun h=>?_) fun h=>?_
  · rw[decide_eq_true h] at k
    exact ⟨_,.refl _,k⟩
  rw[decide_eq_false h] at k
  refine ⟨w,onB w.nm ss,W,tab,⟨⟨rfl,K⟩,rfl,L,eq,r0⟩,?_⟩
  walk_at "go"
  cases hi:isW W w (onB w.nm ss) r.mo r.wa with
  | false=>
    rw[hi] at k
    walk_at "go"
    exact ⟨_,.refl _,k⟩
  | true=>
    rw[hi] at k
    walk_at "go"
    cases hn:r.no with
    | false=>
      rw[hn] at k
      walk_at "go"
      exact ⟨_,.refl _,k⟩
    | true=>
      rw[hn] at k
      walk_at "go"
      refine ⟨w,onB w.nm ss,W,tab,⟨⟨rfl,K⟩,rfl,L,eq,w0⟩,?_⟩
      walk_at "go"
      exact ⟨_,.refl _,k⟩
def a9:FSp:=fun ds μ Q=>match ds with
  | [d,e]=>∃ (g:D) (ws:List WB) (ss:List SB) (rs:List RB),((d=plB g ws ss∧PB ws ss)∧e=.tup (rs.map RB.toD)∧rs.map RB.nm=ws.map WB.nm∧∀ r∈rs,0≤r.mo∧0≤r.wa)∧Q (.bl (xy ss wz (ws.zip rs))) μ
  | _=>False
theorem oq {α:Type}(xs:List α)(P:α→Bool):(xs.map P).all id=xs.all P:=by
  rw[List.all_map];rfl
theorem jk:∀ ds μ Q,a9 ds μ Q→ds.length=2:=by
  unfold a9
  walk_at "ln"
def fI:STr:=aG (cG (iY (TB (aq aU (af (ag 1) (af (aq c5 (af (ak L3.rIx (ag 0) (TC (.int 1))) (au))) (au)))))) (aS (TC (.bl false))) (bA)) (aG (cG (iY (TB (aq Es (af (cZ (rM (af (ak L3.rIx (ag 0) (TC (.int 1))) (af (ag 1) (au)))) (fm [0,1]) (jd) (aq bR (af (ag 0) (af (ag 1) (au)))) 2 []) (au))))) (aS (TC (.bl false))) (bA)) (aG (aP (aq vH (af (cZ (f7 (ag 1)) (aw 0) (jd) (cq (af (ak L3.rIx (ag 0) (TC (.int 0))) (af (ak L3.rIx (ag 0) (TC (.int 2))) (au)))) 1 []) (au))) (aw 2)) (aS (aq Es (af (cZ (rM (af (ak L3.rIx (ag 0) (TC (.int 1))) (af (ag 1) (au)))) (fm [0,1]) (jd) (aq bb (af (ag 2) (af (ag 0) (af (ag 3) (af (ag 1) (au)))))) 2 [0,2]) (au))))))
theorem jR:∀ ds μ Q,a9 ds μ Q→fI { nx:=fun _ μ'=>RT Q .non μ',rt:=RT Q } (ini 3 ds) μ:=by
  intro ds μ Q h
  unfold a9 at h
  split at h
  case h_2=>exact h.elim
  rename_i d e
  walk_at "ini"
  unfold fI
  walk_at "go"
  obtain ⟨g,ws,ss,rs,⟨⟨rfl,P⟩,rfl,en,h0⟩,k⟩:=h
  have wl:=P.wl
  have el:rs.length=ws.length:=by
    have:=congrArg List.length en
    simpa using this
  have nd:(rs.map RB.nm).Nodup:=by rw[en];exact P.wn
  have zl:(ws.zip rs).length≤6:=by rw[List.length_zip];omega
  have hz:∀ p∈ws.zip rs,p.1∈ws∧p.2∈rs:=fun p hp=>List.of_mem_zip hp
  walk_at "go"
  simp only[List.length_map]
  rw[EO,List.length_map,el,decide_eq_true rfl]
  walk_at "go"
  rw[Jd]
  refine eA (ws.zip rs) (fun p:WB×RB=>D.tup [p.1.toD,p.2.toD]) (fun _=>D.bl true) rfl (by omega) (fun p hp μ' _ N m=>?_) ?_
  · walk_at "go"
    have:=h0 p.2 (hz p hp).2
    exact ⟨p.1,p.2,⟨⟨rfl,P.w _ (hz p hp).1⟩,rfl,J7 en p hp,this.1,this.2⟩,m⟩
  refine ⟨(ws.zip rs).map fun _=>true,by rw[List.map_map];rfl,?_⟩
  have et:((ws.zip rs).map fun _=>true).all id=true:=by
    rw[oq]
    exact List.all_eq_true.mpr fun _ _=>rfl
  rw[et]
  walk_at "go"
  refine eA rs RB.toD (fun r=>.tup [.str r.nm,.int r.wa]) rfl (by omega) (fun r hr μ' _ N m=>?_) ?_
  · walk_at "go"
    exact m
  walk_at "go"
  refine ⟨sX rs,by unfold sX;rw[List.map_map];rfl,by unfold sX;rw[List.length_map];omega,fun q hq=>?_⟩
  walk_at "go"
  have M:=FQ rs nd
  rw[en] at M
  have W0':W0 (wOf rs):=Gx fun r hr=>(h0 r hr).2
  refine eA (ws.zip rs) (fun p:WB×RB=>D.tup [p.1.toD,p.2.toD]) (fun p=>D.bl (rgt (wOf rs) ss p.1 p.2)) rfl (by omega) (fun p hp μ' sb N m=>?_) ?_
  · walk_at "go"
    have hw:=(hz p hp).1
    obtain ⟨a,b,e⟩:=List.append_of_mem hw
    refine ⟨g,ws,ss,p.1,p.2,wOf rs,_,⟨⟨rfl,P⟩,⟨rfl,P.w _ hw⟩,⟨rfl,(h0 p.2 (hz p hp).2).2⟩,P.lb (dn:=a) (rs:=b) e.symm (fun n hn=>M n ?_),sb _ _ aM,W0'⟩,m⟩
    rw[e,List.map_append]
    exact List.mem_append_left _ hn
  refine ⟨(ws.zip rs).map fun p=>rgt (wOf rs) ss p.1 p.2,by rw[List.map_map];rfl,?_⟩
  rw[oq]
  have e:=wx P (wOf rs) (ws.zip rs) [] wz (by rw[List.nil_append,List.map_fst_zip];omega) (fun p hp=>by
    have:=y6 nd p.2 (hz p hp).2
    rw[J7 en p hp] at this
    exact this) (fun _ h=>nomatch h)
  rw[← e]
  refine ⟨μ,fun a o h=>?_,k⟩
  rw[aV (fun z=>by subst z;rw[hq] at h;cases h)]
  exact h
def bI:FSp:=fun ds μ Q=>match ds with
  | [d,.ls xs,.obj q,.int m]=>∃ (w:WB) (l:List SB) (W:WF) (tab:List (L2.Key×D)),((d=w.toD∧w.Ok)∧xs=l.map SB.toD∧LB w.nm l W tab∧μ q=some (.dct tab))∧Q (.int (wt W w l m)) μ
  | _=>False
theorem lG:∀ ds μ Q,bI ds μ Q→ds.length=4:=by
  unfold bI
  walk_at "ln"
def ik:STr:=aG (aP (TC (.int 0)) (aw 4)) (aG (qe (iY (TB (aq b6 (af (ag 0) (af (ag 1) (af (ag 2) (af (ag 3) (af (ag 4) (au))))))))) (Bm (fun m n=>m+n) 4 (TC (.int 1)))) (aS (ag 4)))
theorem nq:∀ ds μ Q,bI ds μ Q→ik { nx:=fun _ μ'=>RT Q .non μ',rt:=RT Q } (ini 5 ds) μ:=by
  intro ds μ Q h
  unfold bI at h
  split at h
  case h_2=>exact h.elim
  rename_i d xs q m
  walk_at "ini"
  unfold ik
  walk_at "go"
  obtain ⟨w,l,W,tab,⟨⟨rfl,K⟩,rfl,L,eq⟩,k⟩:=h
  refine ⟨fun ρ μ'=>μ'=μ∧∃ j:Nat,ρ=[some w.toD,some (.ls (l.map SB.toD)),some (.obj q),some (.int m),some (.int j)]∧∀ i:Nat,i < j→isW W w l m i=false,fun ρ _=>match lk ρ 4 with
    | some (.int z)=>(plc w l m - z).toNat
    | _=>0,⟨rfl,0,rfl,fun i hi=>absurd hi (Nat.not_lt_zero _)⟩,?_⟩
  rintro ρ _ ⟨rfl,j,rfl,hi⟩
  walk_at "go"
  refine ⟨w,l,W,tab,⟨⟨rfl,K⟩,rfl,L,eq,by omega⟩,?_⟩
  walk_at "go"
  cases h:isW W w l m j with
  | true=>
    have e:=Kp K.p0 h hi
    rw[e] at k
    walk_at "go"
    exact ⟨_,.refl _,k⟩
  | false=>
    walk_at "go"
    have jl:(j:Int) < plc w l m:=by
      unfold isW at h
      simp only[Bool.or_eq_false_iff,decide_eq_false_iff_not] at h
      omega
    refine ⟨⟨j+1,rfl,fun i hij=>?_⟩,?_⟩
    · by_cases z:i=j
      · rw[z];exact h
      · exact hi i (by omega)
    · show (plc w l m - ((j:Int)+1)).toNat < (plc w l m - (j:Int)).toNat
      omega
def cu:FSp:=fun ds μ Q=>match ds with
  | [d]=>∃ (g:D) (ws:List WB) (ss:List SB),(d=plB g ws ss∧PB ws ss)∧Q (.tup (fv ss wz ws)) μ
  | _=>False
theorem uU:∀ ds μ Q,cu ds μ Q→ds.length=1:=by
  unfold cu
  walk_at "ln"
def qD:STr:=aG (aP (BK) (aw 1)) (aG (aP (rB (au)) (aw 2)) (aG (iZ (f7 (ak L3.rIx (ag 0) (TC (.int 1)))) (aw 3) (aG (aP (aq bj (af (ag 0) (af (ak L3.rIx (ag 3) (TC (.int 0))) (au)))) (aw 4)) (aG (aP (aq bh (af (ag 3) (af (ag 4) (af (ag 1) (au))))) (aw 5)) (aG (aP (aq bI (af (ag 3) (af (ag 4) (af (ag 1) (af (ag 5) (au)))))) (aw 6)) (aG (jx (uT (ag 2) (cq (af (ak L3.rIx (ag 3) (TC (.int 0))) (af (ag 5) (af (ag 6) (af (aq aW (af (ag 3) (af (ag 4) (af (ag 1) (au))))) (au)))))))) (zK (ag 1) (ak L3.rIx (ag 3) (TC (.int 0))) (ag 6))))))) (aS (aq cX (af (ag 2) (au))))))
theorem wO:∀ ds μ Q,cu ds μ Q→qD { nx:=fun _ μ'=>RT Q .non μ',rt:=RT Q } (ini 7 ds) μ:=by
  intro ds μ Q h
  unfold cu at h
  split at h
  case h_2=>exact h.elim
  rename_i d
  walk_at "ini"
  unfold qD
  walk_at "go"
  obtain ⟨g,ws,ss,⟨rfl,P⟩,k⟩:=h
  have wl:=P.wl
  intro q hq
  walk_at "go"
  intro p hp
  have pq:p≠q:=fun z=>by subst z;rw[aM] at hp;cases hp
  walk_at "go"
  refine cn (fun r ρ μ'=>∃ (dn rs:List WB) (W:WF) (tab:List (L2.Key×D)) (rows:List D) (v3 v4 v5 v6:Option D),r=rs.map WB.toD∧dn++rs=ws∧ρ=[some (plB g ws ss),some (.obj q),some (.obj p),v3,v4,v5,v6]∧μ' q=some (.dct tab)∧μ' p=some (.lst rows)∧(∀ a o,μ a=some o→μ' a=some o)∧W0 W∧rE tab W (dn.map WB.nm)∧tab.length≤dn.length∧rows.length=dn.length∧rows++fv ss W rs=fv ss wz ws) ?_ ?_ _ _ _ ⟨[],ws,wz,[],[],_,_,_,_,rfl,rfl,rfl,by rw[aV (Ne.symm pq),aM],aM,fun a o e=>?_,wz0,(fun _ h=>nomatch h),Nat.le_refl _,rfl,rfl⟩
  · rintro ρ μ' ⟨dn,rs,W,tab,rows,v3,v4,v5,v6,er,es,rfl,eq,ep,kp,w0,T,tl,rl,e⟩
    cases rs with
    | cons _ _=>cases er
    | nil=>
    have e:rows=fv ss wz ws:=by simpa[fv] using e
    subst e
    walk_at "go"
    refine cj ep ⟨μ,kp,k⟩
  · rintro d r ρ μ' N ⟨dn,rs,W,tab,rows,v3,v4,v5,v6,er,es,rfl,eq,ep,kp,w0,T,tl,rl,e⟩ hN
    cases rs with
    | nil=>cases er
    | cons w rs=>
    cases er
    have hw:w∈ws:=by rw[← es];simp
    have K:=P.w w hw
    have L:=P.lb es T
    have dl:dn.length+(rs.length+1)=ws.length:=by rw[← es];simp
    have e:rows++DP W ss w::fv ss (nxW W ss w) rs=fv ss wz ws:=e
    walk_at "go"
    refine ⟨g,ws,ss,⟨rfl,K.n,P⟩,?_⟩
    walk_at "go"
    refine ⟨w,onB w.nm ss,W,tab,⟨⟨rfl,K⟩,rfl,L,eq,w0⟩,?_⟩
    walk_at "go"
    refine ⟨w,onB w.nm ss,W,tab,⟨⟨rfl,K⟩,rfl,L,eq⟩,?_⟩
    walk_at "go"
    refine cj ep ?_
    refine ⟨w,onB w.nm ss,W,tab,⟨⟨rfl,K⟩,rfl,L,eq,w0⟩,?_⟩
    walk_at "go"
    refine cj ep ⟨by omega,?_⟩
    walk_at "go"
    refine Fb (by rw[aV (Ne.symm pq)];exact eq) ⟨by omega,?_⟩
    have tl':=AQ tab (.inr w.nm) (.int (wt W w (onB w.nm ss) (most W w (onB w.nm ss))))
    refine hN _ _ ⟨dn++[w],rs,nxW W ss w,_,rows++[DP W ss w],_,_,_,_,rfl,by rw[← es];simp,rfl,aM,by rw[aV pq];exact aM,fun a o ea=>?_,EY w0 ss w,?_,by rw[List.length_append];simp;omega,by rw[List.length_append,List.length_append,rl];rfl,by rw[← e];simp⟩
    · have h1:a≠q:=fun z=>by subst z;rw[hq] at ea;cases ea
      have h2:a≠p:=fun z=>by subst z;rw[aV h1,ea] at hp;cases hp
      rw[aV h1,aV h2]
      exact kp a o ea
    · have:=T.put w.nm (wt W w (onB w.nm ss) (most W w (onB w.nm ss)))
      rw[List.map_append]
      exact this
  · have h1:a≠q:=fun z=>by subst z;rw[hq] at e;cases e
    have h2:a≠p:=fun z=>by subst z;rw[aV h1,e] at hp;cases hp
    rw[aV h2,aV h1]
    exact e
theorem EI (ns:List Int):cutD (ns.map D.int) none (some 63)=(ns.take 63).map D.int:=by
  rw[show (63:Int)=((63:Nat):Int) from rfl,qm,List.map_take]
def cc:FSp:=fun ds μ Q=>match ds with
  | [.ls xs]=>(∃ ns:List Int,xs=ns.map .int)∧∀ b c μ',Bp μ' b c→(∀ a o,μ a=some o→a≠b∧a≠c∧μ' a=some o)→Q (.obj b) μ'
  | _=>False
theorem qd:∀ ds μ Q,cc ds μ Q→ds.length=1:=by
  unfold cc
  walk_at "ln"
def k9:STr:=aG (aP (TC (.int 11)) (aw 1)) (aG (iZ (f7 (TSl (ag 0) (ONo) (fC (TC (.int 63))))) (aw 2) (aP (ak kG (ak aI (ak aI (ak d7 (ag 1) (TC (.int 6364136223846793005))) (ak kG (ag 2) (ak z5 (TC (.int 10)) (TC (.int 40))))) (TC (.int 7))) (TC (.int 2305843009213693951))) (aw 1))) (aS (rB (af (ql (f7 (TSl (ag 0) (ONo) (fC (TC (.int 63))))) (aw 0) (TB (ak rGe (aq rN (af (ag 0) (au))) (ak z5 (TC (.int 10)) (TC (.int 18))))) (aq rN (af (ag 0) (au))) 1 []) (af (ag 1) (au))))))
theorem sH:∀ ds μ Q,cc ds μ Q→k9 { nx:=fun _ μ'=>RT Q .non μ',rt:=RT Q } (ini 3 ds) μ:=by
  intro ds μ Q h
  unfold cc at h
  split at h
  case h_2=>exact h.elim
  rename_i xs
  walk_at "ini"
  unfold k9
  walk_at "go"
  obtain ⟨⟨ns,rfl⟩,k⟩:=h
  rw[EI]
  refine cn (fun r ρ μ'=>∃ (rs:List Int) (s:Int) (v2:Option D),r=rs.map .int∧ρ=[some (.ls (ns.map .int)),some (.int s),v2]∧μ'=μ) ?_ ?_ _ _ _ ⟨ns.take 63,11,_,rfl,rfl,rfl⟩
  · rintro ρ μ' ⟨rs,s,v2,er,rfl,rfl⟩
    walk_at "go"
    rw[EI]
    intro c hc
    refine fT (fun r μ2=>∃ (rs zs:List Int),r=rs.map .int∧μ2=up μ' c (.lst (zs.map .int))∧zs.length+rs.length≤63) ?_ ?_ _ _ ⟨ns.take 63,[],rfl,rfl,by rw[List.length_take];simp;omega⟩
    · rintro μ2 ⟨rs,zs,er,rfl,_⟩
      intro b hb
      have cb:c≠b:=fun z=>by subst z;rw[aM] at hb;cases hb
      refine ⟨_,.refl _,k b c _ ⟨Ne.symm cb,zs,s,aM,by rw[aV cb];exact aM⟩ fun a o e=>?_⟩
      have h1:a≠c:=fun z=>by subst z;rw[hc] at e;cases e
      have h2:a≠b:=fun z=>by subst z;rw[aV h1,e] at hb;cases hb
      exact ⟨h2,h1,by rw[aV h2,aV h1];exact e⟩
    · rintro d r μ2 N ⟨rs,zs,er,rfl,hz⟩ hN
      cases rs with
      | nil=>cases er
      | cons n rs=>
      cases er
      rw[List.length_cons] at hz
      walk_at "go"
      refine ⟨⟨by decide,by decide,by decide⟩,?_⟩
      refine kif (fun h=>?_) fun h=>?_
      · refine ⟨by rw[List.length_map];omega,hN _ ⟨rs,zs++[if n < 0 then -n else n],rfl,by rw[List.map_append];rfl,by rw[List.length_append];simp;omega⟩⟩
      · exact hN _ ⟨rs,zs,rfl,rfl,by omega⟩
  · rintro d r ρ μ' N ⟨rs,s,v2,er,rfl,rfl⟩ hN
    cases rs with
    | nil=>cases er
    | cons n rs=>
    cases er
    walk_at "go"
    refine ⟨.inl (.inr (by unfold S64;decide)),⟨by decide,by decide,by decide⟩,by decide,?_⟩
    exact ⟨by decide,hN _ _ ⟨rs,_,_,rfl,rfl,rfl⟩⟩
def ao:FSp:=fun ds μ Q=>match ds with
  | [.obj b,.int n]=>∃ c,(Bp μ b c∧0 < n∧cg n)∧∀ k μ',0≤k→k < n→dz b c μ μ'→Q (.int k) μ'
  | _=>False
theorem tkB {μ:Mu}{b c:Addr}{n:Int}{Q:DK}(hB:Bp μ b c)(h0:0 < n)(h1:n < 1000000000000000000000000000000000000000000000000)(h:∀ k μ',0≤k→k < n→dz b c μ μ'→Q (.int k) μ'):cE ao [.obj b,.int n] μ Q:=⟨c,⟨hB,h0,by unfold cg;omega⟩,h⟩
theorem nJ:∀ ds μ Q,ao ds μ Q→ds.length=2:=by
  unfold ao
  walk_at "ln"
def fP:STr:=aS (ak kG (ak ig (ak L3.rIx (ag 0) (TC (.int 1))) (TC (.int 131071))) (ag 1))
def jq:STr:=aG (cG (TB (ak rGt (aq c5 (af (ak L3.rIx (ag 0) (TC (.int 0))) (au))) (TC (.int 0)))) (aG (aP (ak kG (ak L3.rIx (ak L3.rIx (ag 0) (TC (.int 0))) (TC (.int 0))) (ag 1)) (aw 2)) (aG (gF (ak L3.rIx (ag 0) (TC (.int 0))) (TC (.int 0)) (ak ig (ak L3.rIx (ak L3.rIx (ag 0) (TC (.int 0))) (TC (.int 0))) (ag 1))) (aG (cG (TB (ak rEq (ak L3.rIx (ak L3.rIx (ag 0) (TC (.int 0))) (TC (.int 0))) (TC (.int 0)))) (jx (Hv (ak L3.rIx (ag 0) (TC (.int 0))) (TC (.int 0)))) (bA)) (aS (ag 2))))) (bA)) (aG (gF (ag 0) (TC (.int 1)) (ak kG (ak aI (ak d7 (ak L3.rIx (ag 0) (TC (.int 1))) (TC (.int 3935559000370003845))) (TC (.int 2691343689449507681))) (TC (.int 2305843009213693951)))) (fP))
theorem pD:∀ ds μ Q,ao ds μ Q→jq { nx:=fun _ μ'=>RT Q .non μ',rt:=RT Q } (ini 3 ds) μ:=by
  intro ds μ Q h
  unfold ao at h
  split at h
  case h_2=>exact h.elim
  rename_i b n
  walk_at "ini"
  unfold jq
  walk_at "go"
  obtain ⟨c,⟨hB,n0,n1⟩,k⟩:=h
  obtain ⟨ne,ns,s,e1,e2⟩:=hB
  have dv:fc n:=⟨by omega,n1⟩
  refine cj e1 ?_
  walk_at "go"
  refine cj e2 ?_
  rw[List.length_map]
  cases ns with
  | nil=>
    walk_at "go"
    refine (show kIf (decide ((0:Int) < 0)) _ _ from ?_)
    unfold fP
    walk_at "go"
    refine cj e1 ?_
    walk_at "go"
    refine ⟨.inl (.inr (by unfold S64;decide)),by decide,cj e1 ?_⟩
    refine (show kN (some 1) _ from ?_)
    walk_at "go"
    refine ⟨⟨by decide,by unfold cg;decide⟩,by omega,?_⟩
    exact ⟨_,.refl _,k _ _ (fm0 n0) (fm1 n0) ⟨⟨ne,[],_,aM,by rw[aV (Ne.symm ne)];exact e2⟩,fun a h1 _=>aV h1⟩⟩
  | cons m ns=>
    rw[decide_eq_true (show (0:Int) < ((m::ns).length:Nat) by simp)]
    have ix0:∀ x y:D,L2.ixN (x::ns.map D.int).length 0=some 0:=fun x y=>by
      rw[show (0:Int)=((0:Nat):Int) from rfl,qc,if_pos (by simp)]
    rw[List.map_cons] at e2
    walk_at "go"
    refine cj e1 ?_
    walk_at "go"
    refine cj e2 ?_
    walk_at "go"
    refine ⟨by omega,cj e1 ?_⟩
    walk_at "go"
    refine cj e2 ?_
    walk_at "go"
    refine ⟨dv,cj e1 ?_⟩
    walk_at "go"
    refine cj e2 ?_
    rw[ix0 _ .non]
    refine (show kL (up μ c (.lst (D.int (m.fdiv n)::ns.map D.int))) b _ from ?_)
    refine cj (by rw[aV ne];exact e1) ?_
    simp only[List.set_cons_zero]
    walk_at "go"
    refine kif (fun h=>?_) fun h=>?_
    · refine cj (by rw[aV ne];exact e1) ?_
      walk_at "go"
      rw[ix0 _ .non]
      refine ⟨_,.refl _,k _ _ (fm0 n0) (fm1 n0) ⟨⟨ne,ns,s,by rw[aV ne];exact e1,aM⟩,fun a _ h2=>by rw[aV h2]⟩⟩
    · exact ⟨_,.refl _,k _ _ (fm0 n0) (fm1 n0) ⟨⟨ne,m.fdiv n::ns,s,by rw[aV ne];exact e1,aM⟩,fun a _ h2=>by rw[aV h2]⟩⟩
def aJ:FSp:=fun ds μ Q=>match ds with
  | [.obj b,x]=>∃ c,Bp μ b c∧((∃ xs,(x=.ls xs∧xs≠[]∧xs.length≤1000000)∧∀ d∈xs,∀ μ',dz b c μ μ'→Q d μ')∨∃ z:Str,(x=.str z∧0 < z.length∧z.length≤1000)∧∀ x∈z.cps.toList,∀ μ',dz b c μ μ'→Q (.str ⟨#[x]⟩) μ')
  | _=>False
theorem ofL {μ:Mu}{b c:Addr}{xs:List D}{Q:DK}(P:D→Prop)(hB:Bp μ b c)(h0:xs≠[])(h1:xs.length≤1000000)(al:∀ d∈xs,P d)(h:∀ d μ',P d→dz b c μ μ'→Q d μ'):cE aJ [.obj b,.ls xs] μ Q:=⟨c,hB,.inl ⟨xs,⟨rfl,h0,h1⟩,fun d hd μ' B=>h d μ' (al d hd) B⟩⟩
theorem rJ:∀ ds μ Q,aJ ds μ Q→ds.length=2:=by
  unfold aJ
  walk_at "ln"
def oh:STr:=aS (ak BJ (ag 1) (aq ao (af (ag 0) (af (aq c5 (af (ag 1) (au))) (au)))))
theorem uf:∀ ds μ Q,aJ ds μ Q→oh { nx:=fun _ μ'=>RT Q .non μ',rt:=RT Q } (ini 2 ds) μ:=by
  intro ds μ Q h
  unfold aJ at h
  split at h
  case h_2=>exact h.elim
  rename_i b x
  walk_at "ini"
  unfold oh
  walk_at "go"
  obtain ⟨c,hB,⟨xs,⟨rfl,h0,h1⟩,k⟩ | ⟨z,⟨rfl,h0,h1⟩,k⟩⟩:=h
  · walk_at "go"
    have hl:0 < xs.length:=List.length_pos_iff.mpr h0
    refine tkB hB (by omega) (by omega) fun j μ' j0 j1 B=>?_
    walk_at "go"
    obtain ⟨d,ed,hd⟩:=Gd (P:=fun d=>d∈xs) (xs:=xs) (fun d hd=>hd) j0 j1
    refine sV ed ?_
    exact ⟨_,.refl _,k d hd μ' B⟩
  · walk_at "go"
    refine ⟨by omega,?_⟩
    refine tkB hB (by omega) (by omega) fun j μ' j0 j1 B=>?_
    walk_at "go"
    refine ⟨by omega,?_⟩
    obtain ⟨n,rfl⟩:∃ n:Nat,j=(n:Int):=⟨j.toNat,by omega⟩
    have jl:n < z.cps.toList.length:=by
      have:z.length=z.cps.toList.length:=by simp[Str.length]
      omega
    have e:L2.atI z.cps.toList (n:Int)=some z.cps.toList[n]:=by
      unfold L2.atI
      rw[qc,if_pos jl]
      simp
    rw[e]
    refine (show RT Q _ μ' from ?_)
    exact ⟨_,.refl _,k _ (List.getElem_mem jl) μ' B⟩
def aN:FSp:=fun ds μ Q=>match ds with
  | [.int a,.int b]=>(0≤a∧0 < b∧cg b)∧Q (fr (a.fdiv (Int.gcd a b)) (b.fdiv (Int.gcd a b))) μ
  | _=>False
theorem wA {a b:Int}(b0:0 < b)(b1:b≤10000002){lo hi:Int}(h0:lo*b≤a)(h1:a≤hi*b):FrB lo hi (a.fdiv (Int.gcd a b)) (b.fdiv (Int.gcd a b)):=by
  obtain ⟨g,p,q,g0,ea,eb,e1,e2,q0,qb,gg⟩:=ya (a:=a) b0
  rw[e1,e2]
  rw[ea,eb] at h0 h1
  refine ⟨q0,by omega,gg,?_,?_⟩
  · rw[Int.mul_left_comm] at h0
    exact Int.le_of_mul_le_mul_left h0 g0
  · rw[Int.mul_left_comm] at h1
    exact Int.le_of_mul_le_mul_left h1 g0
theorem jZ:∀ ds μ Q,aN ds μ Q→ds.length=2:=by
  unfold aN
  walk_at "ln"
def gn:STr:=aG (vm 2 3 (af (ag 0) (af (ag 1) (au)))) (aG (qe (TB (ak rNe (ag 3) (TC (.int 0)))) (vm 2 3 (af (ag 3) (af (ak kG (ag 2) (ag 3)) (au))))) (aS (cq (af (ak ig (ag 0) (ag 2)) (af (ak ig (ag 1) (ag 2)) (au))))))
theorem lj:∀ ds μ Q,aN ds μ Q→gn { nx:=fun _ μ'=>RT Q .non μ',rt:=RT Q } (ini 4 ds) μ:=by
  intro ds μ Q h
  unfold aN at h
  split at h
  case h_2=>exact h.elim
  rename_i a b
  walk_at "ini"
  unfold gn
  walk_at "go"
  obtain ⟨⟨a0,b0,b1⟩,k⟩:=h
  refine ⟨fun ρ μ'=>μ'=μ∧∃ x y:Int,ρ=[some (.int a),some (.int b),some (.int x),some (.int y)]∧0≤x∧0≤y∧Int.gcd x y=Int.gcd a b,mz 3,⟨rfl,a,b,rfl,a0,by omega,rfl⟩,?_⟩
  rintro ρ _ ⟨rfl,x,y,rfl,x0,y0,e⟩
  walk_at "go"
  refine Li (fun hy=>?_) fun hy=>?_
  · walk_at "go"
    have hy':0 < y:=by omega
    refine ⟨by omega,⟨_,_,rfl,y0,fm0 hy',?_⟩,?_⟩
    · rw[sm];exact e
    · have:=fm1 (a:=x) hy'
      have:=fm0 (a:=x) hy'
      simp only[mz,lk]
      omega
  · have hy0:y=0:=hy
    subst hy0
    rw[Int.gcd_zero_right] at e
    have hx:x=(Int.gcd a b:Int):=by omega
    subst hx
    have gp:0 < Int.gcd a b:=Int.gcd_pos_of_ne_zero_right a (by omega)
    have gl:(Int.gcd a b:Int)≤b:=Int.gcd_le_right a b0
    have dv:fc (Int.gcd a b:Int):=⟨by omega,by unfold cg at *;omega⟩
    walk_at "go"
    exact ⟨dv,dv,_,.refl _,k⟩
def ltr:Str:=Str.ofString "abcdefghijklmnopqrstuvwxyz"
theorem FH {j:Nat}(h:j < 26):L2.atI ltr.cps.toList (j:Int)=some (97+j):=by
  have:∀ i:Fin 26,L2.atI ltr.cps.toList ((i:Nat):Int)=some (97+(i:Nat)):=by decide +kernel
  exact this ⟨j,h⟩
theorem C7:ltr.cps.toList.all (fun c=>decide (c < 128))=true:=by decide +kernel
theorem AO {z:Str}{l u:Option Int}{c:Nat}(h:c∈(Txt.slice z l u).cps.toList):c∈z.cps.toList:=by
  unfold Txt.slice at h
  split at h
  · exact h
  · simp only[List.mem_filterMap] at h
    obtain ⟨i,_,e⟩:=h
    exact Array.mem_toList_iff.mpr (Array.mem_of_getElem? e)
theorem rA:∀ cs:List Nat,gY (cs.map fun x=>D.str ⟨#[x]⟩)=some (cs.map fun x=>⟨#[x]⟩)
  | []=>rfl
  | c::r=>by
    show (gY (r.map fun x=>D.str ⟨#[x]⟩)).map _=_
    rw[rA r];rfl
def sL (A B:Str)(f s k:Int):Str:=A ++ ⟨#[97+((f+s*k).fmod 26).toNat]⟩ ++ B
theorem tI (x y:Str):(x++y).cps.toList=x.cps.toList++y.cps.toList:=by
  show (x.cps++y.cps).toList=_
  simp
theorem DZ (x y:Str):(x++y).length=x.length+y.length:=by
  show (x.cps++y.cps).size=_
  rw[Array.size_append];rfl
theorem vz {α β:Type}{g:α→β}:∀ {l:List α},(∀ x∈l,∀ y∈l,g x=g y→x=y)→l.Nodup→(l.map g).Nodup
  | [],_,_=>List.nodup_nil
  | x::r,h,nd=>by
    obtain ⟨h1,h2⟩:=List.nodup_cons.mp nd
    rw[List.map_cons]
    refine List.nodup_cons.mpr ⟨fun z=>?_,vz (fun a ha b hb=>h a (List.mem_cons_of_mem _ ha) b (List.mem_cons_of_mem _ hb)) h2⟩
    obtain ⟨y,hy,e⟩:=List.mem_map.mp z
    exact h1 (h y (List.mem_cons_of_mem _ hy) x List.mem_cons_self e ▸ hy)
theorem DV {A B:Str}{f s k j:Int}(hs:s=1∨s=3∨s=5∨s=7∨s=9∨s=11)(k0:0≤k)(k1:k < 26)(j0:0≤j)(j1:j < 26)(e:sL A B f s k=sL A B f s j):k=j:=by
  have h:=congrArg (fun z:Str=>z.cps.toList) e
  unfold sL at h
  simp only[tI] at h
  have h2:=List.append_cancel_right h
  have h3:=List.append_cancel_left h2
  have h4:((f+s*k).fmod 26).toNat=((f+s*j).fmod 26).toNat:=by
    have:97+((f+s*k).fmod 26).toNat=97+((f+s*j).fmod 26).toNat:=by simpa using h3
    omega
  have a0:=fm0 (a:=f+s*k) (n:=26) (by decide)
  have b0:=fm0 (a:=f+s*j) (n:=26) (by decide)
  have h5:(f+s*k).fmod 26=(f+s*j).fmod 26:=by omega
  rw[Int.fmod_eq_emod_of_nonneg _ (by decide),Int.fmod_eq_emod_of_nonneg _ (by decide)] at h5
  rcases hs with rfl | rfl | rfl | rfl | rfl | rfl<;>omega
def br:FSp:=fun ds μ Q=>match ds with
  | [.obj b,.int n]=>∃ c,(Bp μ b c∧0≤n∧n≤20)∧∀ (ns:List Str) μ',(ns.length:Int)=n→ns.Nodup→(∀ z∈ns,PyData.strOk z=true)→dz b c μ μ'→Q (.ls (ns.map .str)) μ'
  | _=>False
theorem kH:∀ ds μ Q,br ds μ Q→ds.length=2:=by
  unfold br
  walk_at "ln"
def hZ:STr:=aG (aP (TC (.str "abcdefghijklmnopqrstuvwxyz")) (aw 2)) (aG (aP (vL (TC (.str "")) (cZ (di (aq ao (af (ag 0) (af (TC (.int 8)) (au))))) (aw 0) (jd) (aq aJ (af (ag 1) (af (ag 2) (au)))) 1 [0,2])) (aw 3)) (aG (aP (aq ao (af (ag 0) (af (ak aI (aq c5 (af (ag 3) (au))) (TC (.int 1))) (au)))) (aw 4)) (aG (aP (aq ao (af (ag 0) (af (TC (.int 26)) (au)))) (aw 5)) (aG (aP (aq aJ (af (ag 0) (af (f6 (af (TC (.int 1)) (af (TC (.int 3)) (af (TC (.int 5)) (af (TC (.int 7)) (af (TC (.int 9)) (af (TC (.int 11)) (au)))))))) (au)))) (aw 6)) (aS (cZ (di (ag 1)) (aw 0) (jd) (ak aI (ak aI (AX (ag 1) (ONo) (fC (ag 3))) (ak nT (ag 2) (ak kG (ak aI (ag 4) (ak d7 (ag 5) (ag 0))) (TC (.int 26))))) (AX (ag 1) (fC (ag 3)) (ONo))) 1 [3,2,4,5,6]))))))
theorem mZ:∀ ds μ Q,br ds μ Q→hZ { nx:=fun _ μ'=>RT Q .non μ',rt:=RT Q } (ini 7 ds) μ:=by
  intro ds μ Q h
  unfold br at h
  split at h
  case h_2=>exact h.elim
  rename_i b n
  walk_at "ini"
  unfold hZ
  walk_at "go"
  obtain ⟨c,⟨hB,n0,n1⟩,k⟩:=h
  refine tkB hB (by decide) (by decide) fun j0 μ1 j00 j01 B1=>?_
  walk_at "go"
  refine ⟨⟨by omega,by omega⟩,?_⟩
  have rl:(dN 0 j0.toNat).length≤8:=by unfold dN;rw[List.length_map,List.length_range];omega
  refine o4 B1.p (fun r zs=>∃ cs:List Nat,zs=cs.map (fun x=>D.str ⟨#[x]⟩)∧(∀ x∈cs,x < 128)∧cs.length+r.length≤8) ⟨[],rfl,(fun _ h=>nomatch h),by simpa using rl⟩ (by omega) ?_ ?_
  · rintro d r zs μ2 hB2 _ ⟨cs,rfl,hc,hl⟩ N hN
    walk_at "go"
    rw[List.length_cons] at hl
    refine ⟨c,hB2,.inr ⟨_,⟨rfl,by decide +kernel,by decide +kernel⟩,fun x hx μ3 B3=>hN (some _) μ3 ⟨cs++[x],by rw[List.map_append];rfl,fun y hy=>?_,by rw[List.length_append];simp;omega⟩ B3⟩⟩
    rcases List.mem_append.mp hy with z | z
    · exact hc y z
    · rw[List.mem_singleton.mp z]
      exact of_decide_eq_true (List.all_eq_true.mp C7 x hx)
  · rintro zs μ2 ⟨cs,rfl,hc,hl⟩ B2
    have hl:cs.length≤8:=by simpa using hl
    walk_at "go"
    refine ⟨_,rA cs,Eu _ (fun z hz=>?_) (by rw[List.length_map];omega),?_⟩
    · obtain ⟨x,_,rfl⟩:=List.mem_map.mp hz
      rfl
    have el:=join_list cs
    generalize Txt.join (Str.ofString "") (cs.map fun x=>⟨#[x]⟩)=st at el
    have sl:st.length≤8:=by
      have:st.length=st.cps.toList.length:=by simp[Str.length]
      rw[this,el];exact hl
    have sa:∀ x∈st.cps.toList,x < 128:=by rw[el];exact hc
    refine ⟨by omega,?_⟩
    refine tkB B2.p (by omega) (by omega) fun at' μ3 a0 a1 B3=>?_
    walk_at "go"
    refine tkB B3.p (by decide) (by decide) fun f μ4 f0 f1 B4=>?_
    walk_at "go"
    refine ofL (fun d=>∃ s:Int,d=.int s∧(s=1∨s=3∨s=5∨s=7∨s=9∨s=11)) B4.p (by simp) (by simp) ?_ ?_
    · repeat' (first | exact c6 | refine bY ⟨_,rfl,by decide⟩ ?_)
    rintro _ μ5 ⟨s,rfl,hs⟩ B5
    walk_at "go"
    refine ⟨⟨by omega,by omega⟩,?_⟩
    refine eA (List.range n.toNat) (fun i:Nat=>D.int (0+(i:Int))) (fun i:Nat=>D.str (sL (Txt.slice st none (some at')) (Txt.slice st (some at') none) f s i)) rfl (by simp;omega) (fun i hi μ' _ N m=>?_) ?_
    · have hi:=List.mem_range.mp hi
      walk_at "go"
      have g0:=fm0 (a:=f+s*(i:Int)) (n:=26) (by decide)
      have g1:=fm1 (a:=f+s*(i:Int)) (n:=26) (by decide)
      have s1:=Txt.slice_le st none (some at')
      have s2:=Txt.slice_le st (some at') none
      have ea:=FH (j:=((f+s*(i:Int)).fmod 26).toNat) (by omega)
      rw[Int.toNat_of_nonneg g0] at ea
      rw[Int.zero_add]
      refine ⟨by omega,.inl (.inr (by unfold S64;omega)),by decide,by decide +kernel,?_⟩
      refine (show kN (L2.atI ltr.cps.toList ((f+s*(i:Int)).fmod 26)) _ from ?_)
      rw[ea]
      have al:=DZ (Txt.slice st none (some at')) ⟨#[97+((f+s*(i:Int)).fmod 26).toNat]⟩
      have l1:(⟨#[97+((f+s*(i:Int)).fmod 26).toNat]⟩:Str).length=1:=rfl
      exact ⟨by omega,by omega,by omega,m⟩
    · have en:((List.range n.toNat).map fun i:Nat=>D.str (sL (Txt.slice st none (some at')) (Txt.slice st (some at') none) f s i))=((List.range n.toNat).map fun i:Nat=>sL (Txt.slice st none (some at')) (Txt.slice st (some at') none) f s i).map D.str:=by rw[List.map_map];rfl
      rw[en]
      refine ⟨_,.refl _,k _ _ (by simp;omega) ?_ (fun z hz=>?_) (B1.trans (B2.trans (B3.trans (B4.trans B5))))⟩
      · refine vz ?_ List.nodup_range
        intro i hi j hj e
        have hi:=List.mem_range.mp hi
        have hj:=List.mem_range.mp hj
        have:=DV hs (Int.natCast_nonneg i) (by omega) (Int.natCast_nonneg j) (by omega) e
        omega
      · obtain ⟨i,_,rfl⟩:=List.mem_map.mp hz
        have g0:=fm0 (a:=f+s*(i:Int)) (n:=26) (by decide)
        have g1:=fm1 (a:=f+s*(i:Int)) (n:=26) (by decide)
        unfold PyData.strOk
        rw[Array.all_eq_true_iff_forall_mem]
        intro x hx
        have hx:x∈(sL (Txt.slice st none (some at')) (Txt.slice st (some at') none) f s i).cps.toList:=by simpa using hx
        unfold sL at hx
        rw[tI,tI] at hx
        refine decide_eq_true ?_
        rcases List.mem_append.mp hx with z | z
        · rcases List.mem_append.mp z with z | z
          · have:=sa x (AO z);omega
          · have:x=97+((f+s*(i:Int)).fmod 26).toNat:=by simpa using z
            omega
        · have:=sa x (AO z);omega
def bC:FSp:=fun ds μ Q=>match ds with
  | [.obj b,.int m]=>∃ c,(Bp μ b c∧0 < m∧m≤50)∧∀ (ru:List D) (r s:Int) μ',FrB 1 60 r s→dz b c μ μ'→Q (.tup (ru++[fr r s])) μ'
  | _=>False
theorem K3:∀ d∈([.str "still", .str "step", .str "swell", .str "heed", .str "calm"]:List D),d=.str "still" ∨ d=.str "step" ∨ d=.str "swell" ∨ d=.str "heed" ∨ d=.str "calm" := by
  intro d hd
  simpa using hd
theorem ng:∀ ds μ Q,bC ds μ Q→ds.length=2:=by
  unfold bC
  walk_at "ln"
def fM:STr:=aG (cG (TB (ak rEq (ag 2) (TC (.str "still")))) (aS (cq (af (ag 2) (af (ag 4) (au))))) (bA)) (aG (aP (aq aN (af (ak aI (ak d7 (TC (.int 12)) (ag 3)) (aq ao (af (ag 0) (af (TC (.int 12)) (au))))) (af (TC (.int 12)) (au)))) (aw 5)) (aG (aP (ak aI (TC (.int 1)) (aq ao (af (ag 0) (af (TC (.int 6)) (au))))) (aw 6)) (aG (cG (TB (ak rEq (ag 2) (TC (.str "swell")))) (aS (cq (af (ag 2) (af (ag 4) (af (aq aN (af (ak aI (ak aI (ag 6) (TC (.int 1))) (aq ao (af (ag 0) (af (TC (.int 12)) (au))))) (af (ag 6) (au)))) (af (cq (af (TC (.int 1)) (af (ak aI (ak aI (TC (.int 1)) (TC (.int 1))) (aq ao (af (ag 0) (af (TC (.int 6)) (au))))) (au)))) (af (ag 5) (au)))))))) (bA)) (aG (aP (aq aN (af (ak aI (TC (.int 1)) (aq ao (af (ag 0) (af (TC (.int 24)) (au))))) (af (ag 6) (au)))) (aw 7)) (aG (cG (TB (ak rEq (ag 2) (TC (.str "step")))) (aS (cq (af (ag 2) (af (ag 4) (af (ag 7) (af (aq aN (af (ak aI (TC (.int 1)) (aq ao (af (ag 0) (af (TC (.int 7)) (au))))) (af (TC (.int 8)) (au)))) (af (ag 5) (au)))))))) (bA)) (aG (cG (TB (ak rEq (ag 2) (TC (.str "heed")))) (aS (cq (af (ag 2) (af (ag 4) (af (ag 7) (af (aq aN (af (ak aI (TC (.int 1)) (aq ao (af (ag 0) (af (TC (.int 8)) (au))))) (af (TC (.int 8)) (au)))) (af (ag 5) (au)))))))) (bA)) (aG (aP (aq ao (af (ag 0) (af (TC (.int 5)) (au)))) (aw 8)) (aS (cq (af (ag 2) (af (ag 4) (af (ag 7) (af (ag 8) (af (ak aI (ag 8) (aq ao (af (ag 0) (af (TC (.int 9)) (au))))) (af (ag 5) (au))))))))))))))))
def jH:STr:=aG (aP (aq aJ (af (ag 0) (af (f6 (af (TC (.str "still")) (af (TC (.str "step")) (af (TC (.str "swell")) (af (TC (.str "heed")) (af (TC (.str "calm")) (au))))))) (au)))) (aw 2)) (aG (aP (ak aI (TC (.int 1)) (aq ao (af (ag 0) (af (ag 1) (au))))) (aw 3)) (aG (aP (aq aN (af (ak aI (TC (.int 6)) (aq ao (af (ag 0) (af (ak j5 (ak d7 (TC (.int 6)) (ag 3)) (TC (.int 5))) (au))))) (af (TC (.int 6)) (au)))) (aw 4)) (fM)))
theorem pW:∀ ds μ Q,bC ds μ Q→jH { nx:=fun _ μ'=>RT Q .non μ',rt:=RT Q } (ini 9 ds) μ:=by
  intro ds μ Q h
  unfold bC at h
  split at h
  case h_2=>exact h.elim
  rename_i b m
  walk_at "ini"
  unfold jH
  walk_at "go"
  obtain ⟨c,⟨hB,m0,m1⟩,k⟩:=h
  refine ofL _ hB (by simp) (by simp) K3 fun d μ1 hd B1=>?_
  walk_at "go"
  refine tkB B1.p (by omega) (by omega) fun j μ2 j0 j1 B2=>?_
  walk_at "go"
  refine ⟨.inl (.inr (by unfold S64;omega)),?_⟩
  refine tkB B2.p (by omega) (by omega) fun i μ3 i0 i1 B3=>?_
  walk_at "go"
  refine ⟨⟨by omega,by decide,by unfold cg;decide⟩,?_⟩
  have F0:=wA (a:=6+i) (b:=6) (by decide) (by decide) (lo:=1) (hi:=60) (by omega) (by omega)
  generalize (6+i).fdiv (Int.gcd (6+i) 6)=w1 at F0
  generalize (6:Int).fdiv (Int.gcd (6+i) 6)=w2 at F0
  walk_at "go"
  unfold fM
  have zO:=B1.trans (B2.trans B3)
  rcases hd with rfl | hd
  · walk_at "go"
    exact ⟨_,.refl _,k [_] w1 w2 _ F0 zO⟩
  rcases hd with rfl | rfl | rfl | rfl
  all_goals
    walk_at "go"
    refine ⟨.inl (.inr (by unfold S64;omega)),?_⟩
    refine tkB B3.p (by decide) (by decide) fun e μ4 e0 e1 B4=>?_
    walk_at "go"
    refine ⟨⟨by omega,by decide,by unfold cg;decide⟩,?_⟩
    have F1:=wA (a:=12*(1+j)+e) (b:=12) (by decide) (by decide) (lo:=1) (hi:=60) (by omega) (by omega)
    generalize (12*(1+j)+e).fdiv (Int.gcd (12*(1+j)+e) 12)=t1 at F1
    generalize (12:Int).fdiv (Int.gcd (12*(1+j)+e) 12)=t2 at F1
    walk_at "go"
    refine tkB B4.p (by decide) (by decide) fun u μ5 u0 u1 B5=>?_
    walk_at "go"
  · refine tkB B5.p (by decide) (by decide) fun v μ6 v0 v1 B6=>?_
    walk_at "go"
    refine ⟨⟨by omega,by omega,by unfold cg;omega⟩,?_⟩
    walk_at "go"
    refine tkB B6.p (by decide) (by decide) fun x μ7 x0 x1 B7=>?_
    walk_at "go"
    refine ⟨⟨by omega,by omega,by unfold cg;omega⟩,?_⟩
    exact ⟨_,.refl _,k [_,_,_,_] t1 t2 _ F1 (zO.trans (B4.trans (B5.trans (B6.trans B7))))⟩
  · refine tkB B5.p (by decide) (by decide) fun v μ6 v0 v1 B6=>?_
    walk_at "go"
    refine ⟨⟨by omega,by omega,by unfold cg;omega⟩,?_⟩
    walk_at "go"
    refine tkB B6.p (by decide) (by decide) fun x μ7 x0 x1 B7=>?_
    walk_at "go"
    exact ⟨_,.refl _,k [_,_,_,_] t1 t2 _ F1 (zO.trans (B4.trans (B5.trans (B6.trans B7))))⟩
  · refine tkB B5.p (by decide) (by decide) fun v μ6 v0 v1 B6=>?_
    walk_at "go"
    refine ⟨⟨by omega,by omega,by unfold cg;omega⟩,?_⟩
    walk_at "go"
    refine tkB B6.p (by decide) (by decide) fun x μ7 x0 x1 B7=>?_
    walk_at "go"
    refine ⟨⟨by omega,by omega,by unfold cg;omega⟩,?_⟩
    exact ⟨_,.refl _,k [_,_,_,_] t1 t2 _ F1 (zO.trans (B4.trans (B5.trans (B6.trans B7))))⟩
  · refine tkB B5.p (by decide) (by decide) fun v μ6 v0 v1 B6=>?_
    walk_at "go"
    refine ⟨⟨by omega,by omega,by unfold cg;omega⟩,?_⟩
    walk_at "go"
    refine tkB B6.p (by decide) (by decide) fun x μ7 x0 x1 B7=>?_
    walk_at "go"
    refine tkB B7.p (by decide) (by decide) fun y μ8 y0 y1 B8=>?_
    walk_at "go"
    exact ⟨_,.refl _,k [_,_,_,_,_] t1 t2 _ F1 (zO.trans (B4.trans (B5.trans (B6.trans (B7.trans B8)))))⟩
def cf:FSp:=fun ds μ Q=>match ds with
  | [.obj b,.str n]=>∃ c,(Bp μ b c∧PyData.strOk n=true)∧∀ (w:WB) μ',w.nm=n→w.Ok→dz b c μ μ'→Q w.toD μ'
  | _=>False
theorem pJ:∀ ds μ Q,cf ds μ Q→ds.length=2:=by
  unfold cf
  walk_at "ln"
def lI:STr:=aG (aP (ak aI (TC (.int 1)) (aq ao (af (ag 0) (af (aq aJ (af (ag 0) (af (f6 (af (TC (.int 2)) (af (TC (.int 4)) (af (TC (.int 20)) (au))))) (au)))) (au))))) (aw 2)) (aG (aP (ak aI (TC (.int 1)) (aq ao (af (ag 0) (af (aq aJ (af (ag 0) (af (f6 (af (TC (.int 6)) (af (TC (.int 20)) (af (TC (.int 60)) (au))))) (au)))) (au))))) (aw 3)) (aG (aP (TC .non) (aw 4)) (aG (cG (TB (ak rGt (aq ao (af (ag 0) (af (TC (.int 3)) (au)))) (TC (.int 0)))) (aP (aq ao (af (ag 0) (af (ak aI (ag 3) (TC (.int 1))) (au)))) (aw 4)) (bA)) (aS (cq (af (ag 1) (af (ag 2) (af (ag 3) (af (ag 4) (af (aq aJ (af (ag 0) (af (f6 (af (TC (.str "line")) (af (TC (.str "turns")) (au)))) (au)))) (au)))))))))))
theorem sd:∀ ds μ Q,cf ds μ Q→lI { nx:=fun _ μ'=>RT Q .non μ',rt:=RT Q } (ini 5 ds) μ:=by
  intro ds μ Q h
  unfold cf at h
  split at h
  case h_2=>exact h.elim
  rename_i b n
  walk_at "ini"
  unfold lI
  walk_at "go"
  obtain ⟨c,⟨hB,on⟩,k⟩:=h
  refine ofL (IsI 1 20) hB (by simp) (by simp) (by repeat' (first | exact c6 | refine bY ⟨_,rfl,by decide,by decide⟩ ?_)) ?_
  rintro _ μ1 ⟨p,rfl,p0,p1⟩ B1
  walk_at "go"
  refine tkB B1.p (by omega) (by omega) fun pc μ2 pc0 pc1 B2=>?_
  walk_at "go"
  refine ofL (IsI 1 60) B2.p (by simp) (by simp) (by repeat' (first | exact c6 | refine bY ⟨_,rfl,by decide,by decide⟩ ?_)) ?_
  rintro _ μ3 ⟨p',rfl,q0,q1⟩ B3
  walk_at "go"
  refine tkB B3.p (by omega) (by omega) fun rm μ4 r0 r1 B4=>?_
  walk_at "go"
  refine tkB B4.p (by omega) (by omega) fun x μ5 x0 x1 B5=>?_
  have T5:=B1.trans (B2.trans (B3.trans (B4.trans B5)))
  have fin:∀ (ma:D) (μ6:Mu),dz b c μ μ6→cE aJ [.obj b,.ls [.str "line", .str "turns"]] μ6 fun y μ7=>RT Q (.tup [.str n,.int (1+pc),.int (1+rm),ma,y]) μ7:=fun ma μ6 T6=>by
    refine ofL (fun d=>∃ s:Bool,d=.str (soS s)) T6.p (by simp) (by simp) ?_ ?_
    · exact bY ⟨false,rfl⟩ (bY ⟨true,rfl⟩ c6)
    rintro _ μ7 ⟨s,rfl⟩ B7
    exact ⟨_,.refl _,k ⟨n,1+pc,1+rm,ma,s⟩ _ rfl ⟨on,by show 1≤1+pc;omega,by show 1+pc≤20;omega,by show 1≤1+rm;omega,by show 1+rm≤60;omega⟩ (T6.trans B7)⟩
  walk_at "go"
  refine kif (fun h=>?_) fun h=>?_
  · walk_at "go"
    refine tkB B5.p (by omega) (by omega) fun y μ6 y0 y1 B6=>?_
    have f:=fin (.int y) μ6 (T5.trans B6)
    walk_at "go"
    exact f
  · have f:=fin .non μ5 T5
    walk_at "go"
    exact f
theorem CL (ws:List WB):ip (ws.map WB.toD)=ws.zipIdx.map fun p=>.tup [.int (p.2:Nat),p.1.toD]:=by
  refine List.ext_getElem? fun i=>?_
  rw[oB,List.getElem?_map,List.getElem?_map,List.getElem?_zipIdx]
  cases ws[i]? <;> simp
def bu:FSp:=fun ds μ Q=>match ds with
  | [.obj b,.str n,.tup xs,.int m,.ls ys]=>∃ (c:Addr) (ws:List WB),(Bp μ b c∧xs=ws.map WB.toD∧(∀ w∈ws,w.Ok)∧(1≤ws.length∧ws.length≤6)∧(0 < m∧m≤50)∧ys≠[]∧ys.length≤10∧∀ d∈ys,IsI 1 10000000 d)∧∀ (x:SB) μ',x.nm=n→x.Ok→x.rd.Sublist (ws.map WB.nm)→dz b c μ μ'→Q x.toD μ'
  | _=>False
theorem kc:∀ ds μ Q,bu ds μ Q→ds.length=5:=by
  unfold bu
  walk_at "ln"
def ei:STr:=aG (aP (TC .non) (aw 7)) (aG (cG (TB (ak rEq (aq ao (af (ag 0) (af (TC (.int 2)) (au)))) (TC (.int 0)))) (aP (aq ao (af (ag 0) (af (aq aJ (af (ag 0) (af (f6 (af (TC (.int 4)) (af (TC (.int 40)) (af (TC (.int 1000001)) (au))))) (au)))) (au)))) (aw 7)) (bA)) (aS (cq (af (ag 1) (af (ag 6) (af (ak aI (TC (.int 1)) (aq ao (af (ag 0) (af (TC (.int 8)) (au))))) (af (aq ao (af (ag 0) (af (aq aJ (af (ag 0) (af (ag 4) (au)))) (au)))) (af (ag 7) (af (aq bC (af (ag 0) (af (ag 3) (au)))) (au))))))))))
def gm:STr:=aG (aP (ak aI (TC (.int 1)) (aq ao (af (ag 0) (af (ak j5 (ak Gr (TC (.int 1)) (aq c5 (af (ag 2) (au)))) (TC (.int 1))) (au))))) (aw 5)) (aG (aP (aq cX (af (cZ (yS (af (ag 2) (au))) (fm [0,1]) (TB (ak rEq (ak zC (ak G8 (ag 2) (ag 0)) (TC (.int 1))) (TC (.int 1)))) (ak L3.rIx (ag 1) (TC (.int 0))) 2 [5]) (au))) (aw 6)) (ei))
theorem lR:∀ ds μ Q,bu ds μ Q→gm { nx:=fun _ μ'=>RT Q .non μ',rt:=RT Q } (ini 8 ds) μ:=by
  intro ds μ Q h
  unfold bu at h
  split at h
  case h_2=>exact h.elim
  rename_i b n xs m ys
  walk_at "ini"
  unfold gm
  walk_at "go"
  obtain ⟨c,ws,⟨hB,rfl,hw,⟨wl0,wl⟩,⟨m0,m1⟩,yn,yl,hy⟩,k⟩:=h
  rw[List.length_map]
  refine ⟨⟨by omega,by omega⟩,?_⟩
  have hp:0 < (1*2 ^ ((ws.length:Int)).toNat - 1:Int)∧(1*2 ^ ((ws.length:Int)).toNat - 1:Int)≤63:=by
    rw[Int.toNat_natCast]
    rcases (show ws.length=1∨ws.length=2∨ws.length=3∨ws.length=4∨ws.length=5∨ws.length=6 by omega) with e | e | e | e | e | e<;>rw[e]<;>decide
  refine tkB hB hp.1 (by omega) fun i μ1 i0 i1 B1=>?_
  walk_at "go"
  refine kY ws.zipIdx (fun p:WB×Nat=>D.tup [.int (p.2:Nat),p.1.toD]) (fun p:WB×Nat=>if decide (Builtin.bitAnd ((1+i).fdiv (2 ^ ((p.2:Nat):Int).toNat)) 1=1) then some (.str p.1.nm) else none) (CL ws) (by rw[List.length_zipIdx];omega) (fun p hp μ' _ N m=>?_) ?_
  · walk_at "go"
    refine ⟨by omega,?_⟩
    refine kif (fun h=>?_) fun h=>?_
    · rw[decide_eq_true h] at m;exact m
    · rw[decide_eq_false h] at m;exact m
  rw[ET]
  generalize hrd:(ws.zipIdx.filter fun p:WB×Nat=>decide (Builtin.bitAnd ((1+i).fdiv (2 ^ ((p.2:Nat):Int).toNat)) 1=1)).map (fun p=>p.1.nm)=rd
  have erd:(ws.zipIdx.filter fun p:WB×Nat=>decide (Builtin.bitAnd ((1+i).fdiv (2 ^ ((p.2:Nat):Int).toNat)) 1=1)).map (fun p=>D.str p.1.nm)=rd.map D.str:=by rw[← hrd,List.map_map];rfl
  have sb:rd.Sublist (ws.map WB.nm):=by
    rw[← hrd]
    have h1:=(List.filter_sublist (l:=ws.zipIdx) (p:=fun p:WB×Nat=>decide (Builtin.bitAnd ((1+i).fdiv (2 ^ ((p.2:Nat):Int).toNat)) 1=1))).map (fun p:WB×Nat=>p.1.nm)
    have h2:ws.zipIdx.map (fun p:WB×Nat=>p.1.nm)=ws.map WB.nm:=by
      rw[show (fun p:WB×Nat=>p.1.nm)=WB.nm ∘ Prod.fst from rfl,← List.map_map,List.zipIdx_map_fst]
    rw[h2] at h1
    exact h1
  rw[erd]
  have rl:rd.length≤6:=by have:=sb.length_le;rw[List.length_map] at this;omega
  have ro:∀ z∈rd,PyData.strOk z=true:=fun z hz=>by
    obtain ⟨w,hw',rfl⟩:=List.mem_map.mp (sb.subset hz)
    exact (hw w hw').n
  walk_at "go"
  unfold ei
  walk_at "go"
  refine tkB B1.p (by decide) (by decide) fun j μ2 j0 j1 B2=>?_
  have T2:=B1.trans B2
  have fin:∀ (mn:D) (μ3:Mu),dz b c μ μ3→cE ao [.obj b,.int 8] μ3 fun x μ4=>L3.aI (.int 1) x μ4 fun bt μ5=>cE aJ [.obj b,.ls ys] μ5 fun y μ6=>cE ao [.obj b,y] μ6 fun bg μ7=>cE bC [.obj b,.int m] μ7 fun ru μ8=>RT Q (.tup [.str n,.tup (rd.map .str),bt,bg,mn,ru]) μ8:=fun mn μ3 T3=>by
    refine tkB T3.p (by decide) (by decide) fun bt μ4 b0 b1 B4=>?_
    walk_at "go"
    refine ofL (IsI 1 10000000) B4.p yn (by omega) hy ?_
    rintro _ μ5 ⟨e,rfl,e0,e1⟩ B5
    refine tkB B5.p (by omega) (by omega) fun bg μ6 g0 g1 B6=>?_
    refine ⟨c,⟨B6.p,m0,m1⟩,fun ru r s μ7 F B7=>?_⟩
    exact ⟨_,.refl _,k ⟨n,rd,1+bt,.int bg,mn,ru,r,s⟩ _ rfl ⟨ro,by show 1≤1+bt;omega,by show 1+bt≤8;omega,F,by show rd.length≤100;omega⟩ sb (T3.trans (B4.trans (B5.trans (B6.trans B7))))⟩
  walk_at "go"
  refine kif (fun h=>?_) fun h=>?_
  · walk_at "go"
    refine ofL (IsI 1 10000000) B2.p (by simp) (by simp) (by repeat' (first | exact c6 | refine bY ⟨_,rfl,by decide,by decide⟩ ?_)) ?_
    rintro _ μ3 ⟨e,rfl,e0,e1⟩ B3
    walk_at "go"
    refine tkB B3.p (by omega) (by omega) fun y μ4 y0 y1 B4=>?_
    have f:=fin (.int y) μ4 (T2.trans (B3.trans B4))
    walk_at "go"
    exact f
  · have f:=fin .non μ2 T2
    walk_at "go"
    exact f
def bQ:FSp:=fun ds μ Q=>match ds with
  | [.obj b,.int m,.ls ys]=>∃ c,(Bp μ b c∧(0 < m∧m≤50)∧ys≠[]∧ys.length≤10∧∀ d∈ys,IsI 1 10000000 d)∧∀ (g:D) (ws:List WB) (ss:List SB) μ',PB ws ss→0 < ws.length→dz b c μ μ'→Q (plB g ws ss) μ'
  | _=>False
theorem mI:∀ ds μ Q,bQ ds μ Q→ds.length=3:=by
  unfold bQ
  walk_at "ln"
def jE:STr:=aG (aP (ak aI (TC (.int 1)) (aq ao (af (ag 0) (af (aq aJ (af (ag 0) (af (f6 (af (TC (.int 1)) (af (TC (.int 3)) (af (TC (.int 12)) (af (TC (.int 60)) (au)))))) (au)))) (au))))) (aw 3)) (aG (aP (aq cX (af (cZ (f7 (aq br (af (ag 0) (af (ak aI (TC (.int 1)) (aq ao (af (ag 0) (af (aq aJ (af (ag 0) (af (f6 (af (TC (.int 2)) (af (TC (.int 3)) (af (TC (.int 6)) (au))))) (au)))) (au))))) (au))))) (aw 0) (jd) (aq cf (af (ag 1) (af (ag 0) (au)))) 1 [0]) (au))) (aw 4)) (aG (aP (aq tf (af (aq br (af (ag 0) (af (aq ao (af (ag 0) (af (aq aJ (af (ag 0) (af (f6 (af (TC (.int 3)) (af (TC (.int 5)) (af (TC (.int 9)) (au))))) (au)))) (au)))) (au)))) (au))) (aw 5)) (aS (cq (af (ag 3) (af (ag 4) (af (aq cX (af (cZ (f7 (ag 5)) (aw 0) (jd) (aq bu (af (ag 1) (af (ag 0) (af (ag 2) (af (ag 3) (af (ag 4) (au))))))) 1 [0,4,1,2]) (au))) (au))))))))
theorem o7:∀ ds μ Q,bQ ds μ Q→jE { nx:=fun _ μ'=>RT Q .non μ',rt:=RT Q } (ini 6 ds) μ:=by
  intro ds μ Q h
  unfold bQ at h
  split at h
  case h_2=>exact h.elim
  rename_i b m ys
  walk_at "ini"
  unfold jE
  walk_at "go"
  obtain ⟨c,⟨hB,hm,yn,yl,hy⟩,k⟩:=h
  refine ofL (IsI 1 60) hB (by simp) (by simp) (by repeat' (first | exact c6 | refine bY ⟨_,rfl,by decide,by decide⟩ ?_)) ?_
  rintro _ μ1 ⟨e,rfl,e0,e1⟩ B1
  walk_at "go"
  refine tkB B1.p (by omega) (by omega) fun g μ2 g0 g1 B2=>?_
  walk_at "go"
  refine ofL (IsI 1 6) B2.p (by simp) (by simp) (by repeat' (first | exact c6 | refine bY ⟨_,rfl,by decide,by decide⟩ ?_)) ?_
  rintro _ μ3 ⟨e',rfl,q0,q1⟩ B3
  walk_at "go"
  refine tkB B3.p (by omega) (by omega) fun n1 μ4 n10 n11 B4=>?_
  walk_at "go"
  refine ⟨c,⟨B4.p,by omega,by omega⟩,fun ns μ5 nl nd no B5=>?_⟩
  walk_at "go"
  refine o4 B5.p (fun r zs=>∃ (ws:List WB) (rs:List Str),zs=ws.map WB.toD∧r=rs.map .str∧ws.map WB.nm++rs=ns∧∀ w∈ws,w.Ok) ⟨[],ns,rfl,rfl,rfl,fun _ h=>nomatch h⟩ (by rw[List.length_map];omega) ?_ ?_
  · rintro d r zs μ6 hB6 _ ⟨ws,rs,rfl,er,en,hw⟩ N hN
    cases rs with
    | nil=>cases er
    | cons z rs=>
    cases er
    have hz:z∈ns:=by rw[← en];simp
    walk_at "go"
    refine ⟨c,⟨hB6,no z hz⟩,fun w μ7 wn W B7=>hN (some _) μ7 ⟨ws++[w],rs,by rw[List.map_append];rfl,rfl,by rw[← en,List.map_append,← wn];simp,fun y hy=>?_⟩ B7⟩
    rcases List.mem_append.mp hy with h | h
    · exact hw y h
    · rw[List.mem_singleton.mp h];exact W
  rintro zs μ6 ⟨ws,rs,rfl,er,en,hw⟩ B6
  have:rs=[]:=by cases rs with | nil=>rfl | cons=>cases er
  subst this
  rw[List.append_nil] at en
  have wl:ws.length=ns.length:=by rw[← en,List.length_map]
  walk_at "go"
  refine ofL (IsI 1 9) B6.p (by simp) (by simp) (by repeat' (first | exact c6 | refine bY ⟨_,rfl,by decide,by decide⟩ ?_)) ?_
  rintro _ μ7 ⟨e2,rfl,r0,r1⟩ B7
  walk_at "go"
  refine tkB B7.p (by omega) (by omega) fun n2 μ8 n20 n21 B8=>?_
  walk_at "go"
  refine ⟨c,⟨B8.p,by omega,by omega⟩,fun ms μ9 ml _ mo B9=>?_⟩
  refine ⟨ms,⟨rfl,by omega⟩,fun ss' hp _=>?_⟩
  have sl:ss'.length=ms.length:=hp.length_eq
  walk_at "go"
  have T9:=B1.trans (B2.trans (B3.trans (B4.trans (B5.trans (B6.trans (B7.trans (B8.trans B9)))))))
  refine o4 B9.p (fun r zs=>∃ (xs:List SB) (rs:List Str),zs=xs.map SB.toD∧r=rs.map .str∧xs.map SB.nm++rs=ss'∧∀ x∈xs,x.Ok∧x.rd.Sublist (ws.map WB.nm)) ⟨[],ss',rfl,rfl,rfl,fun _ h=>nomatch h⟩ (by rw[List.length_map];omega) ?_ ?_
  · rintro d r zs μ10 hB10 _ ⟨xs,rs,rfl,er,es,hx⟩ N hN
    cases rs with
    | nil=>cases er
    | cons z rs=>
    cases er
    walk_at "go"
    refine ⟨c,ws,⟨hB10,rfl,hw,⟨by omega,by omega⟩,hm,yn,yl,hy⟩,fun x μ11 xn X sb B11=>hN (some _) μ11 ⟨xs++[x],rs,by rw[List.map_append];rfl,rfl,by rw[← es,List.map_append,← xn];simp,fun y hy=>?_⟩ B11⟩
    rcases List.mem_append.mp hy with h | h
    · exact hx y h
    · rw[List.mem_singleton.mp h];exact ⟨X,sb⟩
  rintro zs μ10 ⟨xs,rs,rfl,er,es,hx⟩ B10
  have:rs=[]:=by cases rs with | nil=>rfl | cons=>cases er
  subst this
  rw[List.append_nil] at es
  have xl:xs.length=ss'.length:=by rw[← es,List.length_map]
  walk_at "go"
  exact ⟨_,.refl _,k (.int (1+g)) ws xs _ ⟨hw,fun x h=>(hx x h).1,fun x h=>(hx x h).2,by rw[en];exact nd,by omega,by omega⟩ (by omega) (T9.trans B10)⟩
structure Lsd (vs ws:List WB) (ss' ss:List SB):Prop where
  w:F2 WB.Le vs ws
  s:LsS ss' ss
theorem G9 {ws:List WB}{i:Nat}{v w:WB}(h:ws[i]? = some w)(V:WB.Le v w):F2 WB.Le (ws.take i++v::ws.drop (i+1)) ws:=by
  induction ws generalizing i with
  | nil=>cases h
  | cons x r ih=>
    cases i with
    | zero=>
      cases h
      exact .cons V (iG r)
    | succ i=>exact .cons (.refl x) (ih h)
theorem Fw {ss:List SB}{i:Nat}{y x:SB}(h:ss[i]? = some x)(e:SB.Le y x):LsS (ss.take i++y::ss.drop (i+1)) ss:=by
  induction ss generalizing i with
  | nil=>cases h
  | cons x r ih=>
    cases i with
    | zero=>
      cases h
      exact .keep e (.refl r)
    | succ i=>exact .keep (.refl x) (ih h)
theorem Ct {ss:List SB}{i:Nat}(h:i < ss.length):LsS (ss.take i++ss.drop (i+1)) ss:=by
  induction ss generalizing i with
  | nil=>cases h
  | cons x r ih=>
    cases i with
    | zero=>exact .skip (.refl r)
    | succ i=>exact .keep (.refl x) (ih (by simpa using h))
theorem zA {α:Type}(f:α→D){xs:List α}{k:Int}(k0:0≤k)(k1:k < xs.length):∃ (i:Nat) (x:α),k=(i:Int)∧xs[i]? = some x∧atD (xs.map f) k=some (f x):=by
  obtain ⟨i,rfl⟩:∃ i:Nat,k=(i:Int):=⟨k.toNat,by omega⟩
  have hi:i < xs.length:=by omega
  refine ⟨i,xs[i],rfl,by simp[hi],?_⟩
  unfold atD L2.atI
  rw[qc,if_pos (by rw[List.length_map];exact hi)]
  simp[hi]
theorem A9 {α:Type}(f:α→D)(xs:List α)(i:Nat):cutD (xs.map f) none (some (i:Int))=(xs.take i).map f∧cutD (xs.map f) (some ((i:Int)+1)) none=(xs.drop (i+1)).map f:=by
  refine ⟨by rw[qm,List.map_take],?_⟩
  rw[show ((i:Int)+1)=((i+1:Nat):Int) by omega,xN,List.map_drop]
theorem Aj {vs ws:List WB}(h:F2 WB.Le vs ws):vs.map WB.nm=ws.map WB.nm∧vs.length=ws.length:=by
  induction h with
  | nil=>exact ⟨rfl,rfl⟩
  | cons e _ ih=>exact ⟨by rw[List.map_cons,List.map_cons,ih.1,e.n],by rw[List.length_cons,List.length_cons,ih.2]⟩
theorem GN {l' l:List RB}(h:F2 RB.Le l' l):∀ y∈l.zip l',RB.Le y.2 y.1:=by
  induction h with
  | nil=>intro y hy;cases hy
  | cons e _ ih=>
    intro y hy
    rw[List.zip_cons_cons] at hy
    rcases List.mem_cons.mp hy with (rfl | z)
    · exact e
    · exact ih y z
def a6:FSp:=fun ds μ Q=>match ds with
  | [.obj b,d]=>∃ (c:Addr) (g:D) (ws:List WB) (ss:List SB),(Bp μ b c∧d=plB g ws ss∧PB ws ss∧0 < ws.length)∧∀ (vs:List WB) (ss':List SB) μ',PB vs ss'→Lsd vs ws ss' ss→dz b c μ μ'→Q (plB g vs ss') μ'
  | _=>False
theorem iu:∀ ds μ Q,a6 ds μ Q→ds.length=2:=by
  unfold a6
  walk_at "ln"
def fe:STr:=aG (aP (ag 1) (fm [2,3,4])) (aG (aP (aq ao (af (ag 0) (af (TC (.int 3)) (au)))) (aw 5)) (aG (cG (TOr (TB (ak rEq (ag 5) (TC (.int 0)))) (TB (ak rEq (aq c5 (af (ag 4) (au))) (TC (.int 0))))) (aG (aP (aq ao (af (ag 0) (af (aq c5 (af (ag 3) (au))) (au)))) (aw 6)) (aG (aP (ak L3.rIx (ag 3) (ag 6)) (fm [7,8,9,10,11])) (aG (aP (cq (af (ag 7) (af (aq lC (af (TC (.int 20)) (af (ak aI (ak aI (ag 8) (TC (.int 1))) (aq ao (af (ag 0) (af (aq aJ (af (ag 0) (af (f6 (af (TC (.int 1)) (af (TC (.int 4)) (af (TC (.int 20)) (au))))) (au)))) (au))))) (au)))) (af (ag 9) (af (ag 10) (af (ag 11) (au))))))) (aw 12)) (aS (cq (af (ag 2) (af (ak aI (ak aI (TSl (ag 3) (ONo) (fC (ag 6))) (cq (af (ag 12) (au)))) (TSl (ag 3) (fC (ak aI (ag 6) (TC (.int 1)))) (ONo))) (af (ag 4) (au))))))))) (bA)) (aG (aP (aq ao (af (ag 0) (af (aq c5 (af (ag 4) (au))) (au)))) (aw 6)) (aG (cG (TB (ak rEq (ag 5) (TC (.int 1)))) (aS (cq (af (ag 2) (af (ag 3) (af (ak aI (TSl (ag 4) (ONo) (fC (ag 6))) (TSl (ag 4) (fC (ak aI (ag 6) (TC (.int 1)))) (ONo))) (au)))))) (bA)) (aG (aP (ak L3.rIx (ak L3.rIx (ag 4) (ag 6)) (TC (.int 5))) (aw 13)) (aG (aP (ak aI (TC (.int 1)) (aq ao (af (ag 0) (af (ak ig (ak L3.rIx (ak L3.rIx (ag 13) (TUn pH (TC (.int 1)))) (TC (.int 0))) (ak L3.rIx (ak L3.rIx (ag 13) (TUn pH (TC (.int 1)))) (TC (.int 1)))) (au))))) (aw 14)) (aS (cq (af (ag 2) (af (ag 3) (af (ak aI (ak aI (TSl (ag 4) (ONo) (fC (ag 6))) (cq (af (ak aI (TSl (ak L3.rIx (ag 4) (ag 6)) (ONo) (fC (TC (.int 5)))) (cq (af (cq (af (TC (.str "still")) (af (cq (af (ag 14) (af (TC (.int 1)) (au)))) (au)))) (au)))) (au)))) (TSl (ag 4) (fC (ak aI (ag 6) (TC (.int 1)))) (ONo))) (au))))))))))))
theorem i9:∀ ds μ Q,a6 ds μ Q→fe { nx:=fun _ μ'=>RT Q .non μ',rt:=RT Q } (ini 15 ds) μ:=by
  intro ds μ Q h
  unfold a6 at h
  split at h
  case h_2=>exact h.elim
  rename_i b d
  walk_at "ini"
  unfold fe
  walk_at "go"
  obtain ⟨c,g,ws,ss,⟨hB,rfl,P,wn⟩,k⟩:=h
  have wl:=P.wl
  have sl:=P.sl
  refine (show fm [2,3,4] (.tup [g,.tup (ws.map WB.toD),.tup (ss.map SB.toD)]) _ _ _ from ?_)
  walk_at "go"
  refine tkB hB (by decide) (by decide) fun t μ1 t0 t1 B1=>?_
  walk_at "go"
  rw[List.length_map,List.length_map]
  refine kif (fun h=>?_) fun h=>kif (fun h'=>?_) fun h'=>?_
  rotate_left 2
  · refine tkB B1.p (by omega) (by omega) fun j μ2 j0 j1 B2=>?_
    obtain ⟨i,x,rfl,ex,ea⟩:=zA SB.toD j0 j1
    have hi:i < ss.length:=by omega
    obtain ⟨c1,c2⟩:=A9 SB.toD ss i
    have hx:=List.mem_of_getElem? ex
    have X:=P.s x hx
    walk_at "go"
    have tk:∀ y∈ss.take i,y∈ss:=fun y hy=>List.mem_of_mem_take hy
    have dr:∀ y∈ss.drop (i+1),y∈ss:=fun y hy=>List.mem_of_mem_drop hy
    refine kif (fun h2=>?_) fun h2=>?_
    · rw[c1,c2,← List.map_append]
      refine ⟨by rw[List.length_map,List.length_map,List.length_take,List.length_drop];omega,?_⟩
      have L:=Ct hi
      have M:∀ y∈ss.take i++ss.drop (i+1),y∈ss:=fun y hy=>(List.mem_append.mp hy).elim (tk y) (dr y)
      exact ⟨_,.refl _,k ws (ss.take i++ss.drop (i+1)) _ ⟨P.w,fun y hy=>P.s y (M y hy),fun y hy=>P.rd y (M y hy),P.wn,P.wl,by have:=L.len;omega⟩ ⟨iG ws,L⟩ (B1.trans B2)⟩
    · refine sV ea ?_
      walk_at "go"
      have l1:=X.lim
      have q0:=X.f.q0
      have q1:=X.f.q1
      refine ⟨⟨by omega,by unfold cg;omega⟩,?_⟩
      rw[dY q0]
      refine (show cE ao [.obj b,.int x.lim] μ2 _ from ?_)
      refine tkB B2.p (by omega) (by omega) fun v μ3 v0 v1 B3=>?_
      walk_at "go"
      refine sV ea ?_
      rw[c1,c2]
      refine (show (([D.str x.nm,.tup (x.rd.map .str),.int x.bt,x.bg,x.mn].length:Nat)+1≤1000000)∧_ from ⟨by simp,?_⟩)
      let y:SB:=⟨x.nm,x.rd,x.bt,x.bg,x.mn,[.str "still"],1+v,1⟩
      have ey:y.lim=1+v:=Int.ediv_one _
      have Y:y.Ok:=⟨X.rd,X.b0,X.b1,⟨by show (0:Int) < 1;decide,by show (1:Int)≤10000002;decide,by show Int.gcd (1+v) 1=1;exact Int.gcd_one_right _,by show 1*1≤1+v;omega,by show 1+v≤60*1;omega⟩,X.l⟩
      have L:=Fw (y:=y) ex ⟨rfl,rfl,by omega⟩
      have M:∀ z∈ss.take i++y::ss.drop (i+1),z∈ss∨z=y:=fun z hz=>by
        rcases List.mem_append.mp hz with h | h
        · exact .inl (tk z h)
        · rcases List.mem_cons.mp h with h | h
          · exact .inr h
          · exact .inl (dr z h)
      refine ⟨by rw[List.length_map,List.length_take];simp;omega,by rw[List.length_append,List.length_map,List.length_map,List.length_take,List.length_drop];simp;omega,?_⟩
      have e:(ss.take i).map SB.toD++[D.tup [.str x.nm,.tup (x.rd.map .str),.int x.bt,x.bg,x.mn,.tup [.str "still", .tup [.int (1+v),.int 1]]]]++(ss.drop (i+1)).map SB.toD=(ss.take i++y::ss.drop (i+1)).map SB.toD:=by
        rw[List.map_append,List.map_cons,List.append_assoc];rfl
      have kk:=k ws (ss.take i++y::ss.drop (i+1)) μ3 ⟨P.w,fun z hz=>(M z hz).elim (P.s z) (fun e=>e ▸ Y),fun z hz=>(M z hz).elim (P.rd z) (fun e=>e ▸ P.rd x hx),P.wn,P.wl,by have:=L.len;omega⟩ ⟨iG ws,L⟩ (B1.trans (B2.trans B3))
      unfold plB at kk
      rw[← e] at kk
      exact ⟨_,.refl _,kk⟩
  all_goals
    refine tkB B1.p (by omega) (by omega) fun j μ2 j0 j1 B2=>?_
    obtain ⟨i,w,rfl,ew,ea⟩:=zA WB.toD j0 j1
    have hw:=List.mem_of_getElem? ew
    have K:=P.w w hw
    have p0:=K.p0
    have p1:=K.p1
    obtain ⟨c1,c2⟩:=A9 WB.toD ws i
    walk_at "go"
    refine sV ea ?_
    refine (show fm [7,8,9,10,11] (.tup [.str w.nm,.int w.pc,.int w.rm,w.ma,.str (soS w.so)]) _ _ _ from ?_)
    walk_at "go"
    refine ofL (IsI 1 20) B2.p (by simp) (by simp) (by repeat' (first | exact c6 | refine bY ⟨_,rfl,by decide,by decide⟩ ?_)) ?_
    rintro _ μ3 ⟨e,rfl,e0,e1⟩ B3
    refine tkB B3.p (by omega) (by omega) fun v μ4 v0 v1 B4=>?_
    walk_at "go"
    rw[c1,c2]
    let w':WB:=⟨w.nm,min 20 (w.pc+1+v),w.rm,w.ma,w.so⟩
    have K':w'.Ok:=⟨K.n,by show 1≤min 20 (w.pc+1+v);omega,by show min 20 (w.pc+1+v)≤20;omega,K.r0,K.r1⟩
    have F:=G9 (v:=w') ew ⟨rfl,by show w.pc≤min 20 (w.pc+1+v);omega,rfl,rfl⟩
    obtain ⟨en,el⟩:=Aj F
    have M:∀ z∈ws.take i++w'::ws.drop (i+1),z∈ws∨z=w':=fun z hz=>by
      rcases List.mem_append.mp hz with h | h
      · exact .inl (List.mem_of_mem_take h)
      · rcases List.mem_cons.mp h with h | h
        · exact .inr h
        · exact .inl (List.mem_of_mem_drop h)
    refine ⟨by rw[List.length_map,List.length_take];simp;omega,by rw[List.length_append,List.length_map,List.length_map,List.length_take,List.length_drop];simp;omega,?_⟩
    have e:(ws.take i).map WB.toD++[D.tup [.str w.nm,.int (min 20 (w.pc+1+v)),.int w.rm,w.ma,.str (soS w.so)]]++(ws.drop (i+1)).map WB.toD=(ws.take i++w'::ws.drop (i+1)).map WB.toD:=by
      rw[List.map_append,List.map_cons,List.append_assoc];rfl
    have kk:=k (ws.take i++w'::ws.drop (i+1)) ss μ4 ⟨fun z hz=>(M z hz).elim (P.w z) (fun e=>e ▸ K'),P.s,fun y hy=>by rw[en];exact P.rd y hy,by rw[en];exact P.wn,by rw[el];exact P.wl,P.sl⟩ ⟨F,.refl ss⟩ (B1.trans (B2.trans (B3.trans B4)))
    unfold plB at kk
    rw[← e] at kk
    exact ⟨_,.refl _,kk⟩
abbrev cy:FSp:=L3.cy
theorem o6:∀ ds μ Q,cy ds μ Q→ds.length=1:=L3.o6
def BP:STr:=aG (aP (aq cc (af (ag 0) (au))) (aw 1)) (aG (aP (aq bQ (af (ag 1) (af (TC (.int 40)) (af (f6 (af (TC (.int 1)) (af (TC (.int 30)) (af (TC (.int 1000001)) (au))))) (au))))) (aw 2)) (aG (aP (aq cu (af (ag 2) (au))) (aw 3)) (aG (aP (ag 2) (aw 4)) (aG (iZ (di (ak aI (TC (.int 1)) (aq ao (af (ag 1) (af (TC (.int 2)) (au)))))) (aw 5) (aP (aq a6 (af (ag 1) (af (ag 4) (au)))) (aw 4))) (aG (iZ (rM (af (ag 3) (af (aq cu (af (ag 4) (au))) (au)))) (fm [6,7]) (cG (TOr (TB (ak rNe (ak L3.rIx (ag 7) (TC (.int 0))) (ak L3.rIx (ag 6) (TC (.int 0))))) (TOr (TB (ak rGt (ak L3.rIx (ag 7) (TC (.int 1))) (ak L3.rIx (ag 6) (TC (.int 1))))) (TOr (TB (ak rGt (ak L3.rIx (ag 7) (TC (.int 2))) (ak L3.rIx (ag 6) (TC (.int 2))))) (xk (TB (ak L3.rIx (ag 6) (TC (.int 3)))) (iY (TB (ak L3.rIx (ag 7) (TC (.int 3))))))))) (aS (TC (.bl false))) (bA))) (aS (ak (Ck false) (aq a9 (af (ag 4) (af (ag 3) (au)))) (TC (.bl true)))))))))
theorem FC:∀ ds μ Q,cy ds μ Q→BP { nx:=fun _ μ'=>RT Q .non μ',rt:=RT Q } (ini 8 ds) μ:=by
  intro ds μ Q h
  unfold cy L3.cy at h
  split at h
  case h_2=>exact h.elim
  obtain ⟨⟨ns,rfl,hn⟩,k⟩:=h
  walk_at "ini"
  unfold BP
  walk_at "go"
  refine ⟨⟨ns,rfl⟩,fun b c μ1 hB _=>?_⟩
  walk_at "go"
  refine ⟨c,⟨hB,⟨by decide,by decide⟩,by simp,by simp,(by repeat' (first | exact c6 | refine bY ⟨_,rfl,by decide,by decide⟩ ?_))⟩,fun g ws ss μ2 P wn B2=>?_⟩
  walk_at "go"
  refine ⟨g,ws,ss,⟨rfl,P⟩,?_⟩
  walk_at "go"
  refine tkB B2.p (by decide) (by decide) fun t μ3 t0 t1 B3=>?_
  walk_at "go"
  refine ⟨⟨by omega,by omega⟩,?_⟩
  refine cn (fun r ρ μ'=>∃ (vs:List WB) (ss':List SB) (v5 v6 v7:Option D),ρ=[some (.ls (ns.map .int)),some (.obj b),some (plB g ws ss),some (.tup (fv ss wz ws)),some (plB g vs ss'),v5,v6,v7]∧Bp μ' b c∧PB vs ss'∧Lsd vs ws ss' ss) ?_ ?_ _ _ _ ⟨ws,ss,_,_,_,rfl,B3.p,P,iG ws,.refl ss⟩
  · rintro ρ μ' ⟨vs,ss',v5,v6,v7,rfl,B',P',D'⟩
    walk_at "go"
    refine ⟨g,vs,ss',⟨rfl,P'⟩,?_⟩
    walk_at "go"
    rw[uQ,uQ,Jd]
    obtain ⟨en,el⟩:=Aj D'.w
    have F:=wW D'.s P'.s P.s D'.w P'.w P.w wz0 (fun n=>Int.le_refl (wz n))
    have R:=Aa D'.s P'.s P.s D'.w P'.w P.w wz0
    have ok:∀ r∈gM ss wz ws,PyData.strOk r.nm=true:=fun r hr=>by
      have:r.nm∈(gM ss wz ws).map RB.nm:=List.mem_map.mpr ⟨r,hr,rfl⟩
      rw[pS] at this
      obtain ⟨w,hw,e⟩:=List.mem_map.mp this
      rw[← e];exact (P.w w hw).n
    have ze:=GN F
    refine cn (fun r ρ μ2=>∃ (ps:List (RB×RB)) (v5 v6 v7:Option D),r=ps.map (fun y=>.tup [y.1.toD,y.2.toD])∧(∀ y∈ps,RB.Le y.2 y.1∧PyData.strOk y.1.nm=true)∧ρ=[some (.ls (ns.map .int)),some (.obj b),some (plB g ws ss),some (.tup ((gM ss wz ws).map RB.toD)),some (plB g vs ss'),v5,v6,v7]∧μ2=μ') ?_ ?_ _ _ _ ⟨(gM ss wz ws).zip (gM ss' wz vs),_,_,_,rfl,fun y hy=>⟨ze y hy,ok _ (List.of_mem_zip hy).1⟩,rfl,rfl⟩
    · rintro ρ μ2 ⟨ps,v5,v6,v7,er,_,rfl,rfl⟩
      walk_at "go"
      refine ⟨g,vs,ss',gM ss wz ws,⟨⟨rfl,P'⟩,rfl,by rw[pS,en],wC ss ws wz P.w⟩,?_⟩
      rw[R]
      walk_at "go"
      exact ⟨_,.refl _,k _⟩
    · rintro d r ρ μ2 N ⟨ps,v5,v6,v7,er,hp,rfl,rfl⟩ hN
      cases ps with
      | nil=>cases er
      | cons y ps=>
      cases er
      obtain ⟨⟨y1,y2,y3,y4⟩,o1⟩:=hp y List.mem_cons_self
      walk_at "go"
      rw[y1]
      walk_at "go"
      refine ⟨o1,?_⟩
      rw[decide_eq_false (show ¬ y.1.mo < y.2.mo by omega),decide_eq_false (show ¬ y.1.wa < y.2.wa by omega)]
      walk_at "go"
      have fin:=fun a b c=>hN _ _ ⟨ps,a,b,c,rfl,(fun z hz=>hp z (List.mem_cons_of_mem _ hz)),rfl,rfl⟩
      cases h1:y.1.no with
      | false=>exact fin _ _ _
      | true=>
        rw[y4 h1]
        exact fin _ _ _
  · rintro d r ρ μ' N ⟨vs,ss',v5,v6,v7,rfl,B',P',D'⟩ hN
    obtain ⟨en,el⟩:=Aj D'.w
    walk_at "go"
    refine ⟨c,g,vs,ss',⟨B',rfl,P',by omega⟩,fun vs2 ss2 μ4 P2 D2 B4=>?_⟩
    exact hN _ _ ⟨vs2,ss2,_,_,_,rfl,B4.p,P2,rq D2.w D'.w,D2.s.trans D'.s⟩
theorem jf (ns:List Int)(h:ns.length≤63)(μ:Mu):cy [.ls (ns.map .int)] μ (fun d _=>d=.bl true):=L3.jf ns h μ
end Kk
namespace Kk
open PySem L2 L3
theorem JY {α:Type}{us:List α}(h:us.length=1):∃ x0,us=[x0]:=match us,h with | [x0],_=>⟨x0,rfl⟩
theorem Jj {α:Type}{us:List α}(h:us.length=2):∃ x0 x1,us=[x0,x1]:=match us,h with | [x0,x1],_=>⟨x0,x1,rfl⟩
theorem II {α:Type}{us:List α}(h:us.length=3):∃ x0 x1 x2,us=[x0,x1,x2]:=match us,h with | [x0,x1,x2],_=>⟨x0,x1,x2,rfl⟩
theorem Jq {α:Type}{us:List α}(h:us.length=4):∃ x0 x1 x2 x3,us=[x0,x1,x2,x3]:=match us,h with | [x0,x1,x2,x3],_=>⟨x0,x1,x2,x3,rfl⟩
theorem Ir {α:Type}{us:List α}(h:us.length=5):∃ x0 x1 x2 x3 x4,us=[x0,x1,x2,x3,x4]:=match us,h with | [x0,x1,x2,x3,x4],_=>⟨x0,x1,x2,x3,x4,rfl⟩
def top (i:Nat):Stmt:=PySem.Challenge.pw_swellways_k55_less_is_bounded_by_less.main.body.getD i (.Pass ⟨0,0,0,0⟩)
abbrev lS:Stmt:=top 1
abbrev gi:Stmt:=top 2
abbrev jD:Stmt:=top 3
abbrev de:Stmt:=top 4
abbrev zx:Stmt:=top 5
abbrev yI:Stmt:=top 6
abbrev yH:Stmt:=top 7
abbrev kF:Stmt:=top 8
abbrev oN:Stmt:=top 9
abbrev qK:Stmt:=top 21
abbrev kW:Stmt:=top 22
abbrev gy:Stmt:=top 27
abbrev eR:Stmt:=top 28
abbrev oE:Stmt:=top 29
abbrev dZ:Stmt:=top 30
abbrev dM:Stmt:=top 31
abbrev gv:Stmt:=top 32
abbrev nO:Stmt:=top 33
abbrev iq:Stmt:=top 34
abbrev eV:Stmt:=top 35
abbrev nW:Stmt:=top 36
abbrev kx:Stmt:=top 37
abbrev jL:Stmt:=top 38
abbrev fw:Stmt:=top 39
abbrev bN:Stmt:=top 40
abbrev gZ:Stmt:=top 42
abbrev rS:Stmt:=top 43
abbrev gK:Stmt:=top 45
abbrev jJ:Stmt:=top 46
abbrev nX:Stmt:=top 47
abbrev gx:Stmt:=top 48
abbrev cR:Stmt:=top 49
abbrev jw:Stmt:=top 50
abbrev kz:Stmt:=top 51
abbrev dJ:Stmt:=top 52
abbrev dh:Stmt:=top 53
abbrev e5:Stmt:=top 54
abbrev EF:Stmt:=top 55
set_option genInjectivity false in
set_option genSizeOfSpec false in
structure Adr where
  l4:Addr
  tX:FuncData
  gA:Addr
  nc:FuncData
  ju:Addr
  rQ:FuncData
  da:Addr
  iM:FuncData
  Bo:Addr
  Ga:FuncData
  zd:Addr
  HZ:FuncData
  Ad:Addr
  Fz:FuncData
  lD:Addr
  tN:FuncData
  nY:Addr
  xX:FuncData
  qI:Addr
  Ah:FuncData
  mr:Addr
  va:FuncData
  gd:Addr
  mG:FuncData
  g9:Addr
  oR:FuncData
  oa:Addr
  xa:FuncData
  eg:Addr
  i6:FuncData
  gf:Addr
  mC:FuncData
  gs:Addr
  nk:FuncData
  oP:Addr
  xx:FuncData
  ie:Addr
  qt:FuncData
  fh:Addr
  jV:FuncData
  nQ:Addr
  wQ:FuncData
  kM:Addr
  u5:FuncData
  jK:Addr
  qE:FuncData
  fA:Addr
  lF:FuncData
  fB:Addr
  lM:FuncData
  h9:Addr
  pC:FuncData
  rT:Addr
  zp:FuncData
  kX:Addr
  tq:FuncData
  jv:Addr
  sM:FuncData
  oi:Addr
  xW:FuncData
  gr:Addr
  mF:FuncData
  hE:Addr
  pZ:FuncData
  jA:Addr
  rk:FuncData
  lW:Addr
  um:FuncData
  gC:Addr
  nF:FuncData
  jt:Addr
  qH:FuncData
  eW:Addr
  jT:FuncData
  AU:Addr
  EK:FuncData
structure Txt (Pm:Params) (K:PySem.W.Frag) (mg:Str→Option Value) (t:Adr):Prop where
  uY:mg "is_whole" = some (.ref t.l4)
  uO:Fun K "is_whole" "is_whole" lS t.l4 t.tX
  nI:mg "is_tuple_of" = some (.ref t.gA)
  mQ:Fun K "is_tuple_of" "is_tuple_of" gi t.gA t.nc
  qU:mg "common_of" = some (.ref t.ju)
  sS:Fun K "common_of" "common_of" jD t.ju t.rQ
  iA:mg "common_multiple" = some (.ref t.da)
  iT:Fun K "common_multiple" "common_multiple" de t.da t.iM
  Hw:mg "part" = some (.ref t.Bo)
  He:Fun K "part" "part" zx t.Bo t.Ga
  HU:mg "plus" = some (.ref t.zd)
  Hy:Fun K "plus" "plus" yI t.zd t.HZ
  HA:mg "less" = some (.ref t.Ad)
  Fl:Fun K "less" "less" yH t.Ad t.Fz
  uF:mg "floor_of" = some (.ref t.lD)
  tm:Fun K "floor_of" "floor_of" kF t.lD t.tN
  yk:mg "ceil_of" = some (.ref t.nY)
  yg:Fun K "ceil_of" "ceil_of" oN t.nY t.xX
  yY:mg "top_of" = some (.ref t.qI)
  Bf:Fun K "top_of" "top_of" qK t.qI t.Ah
  t7:mg "limit_of" = some (.ref t.mr)
  uK:Fun K "limit_of" "limit_of" kW t.mr t.va
  nv:mg "limit_share" = some (.ref t.gd)
  nB:Fun K "limit_share" "limit_share" gy t.gd t.mG
  qu:mg "senders_on" = some (.ref t.g9)
  p8:Fun K "senders_on" "senders_on" eR t.g9 t.oR
  xf:mg "load_on" = some (.ref t.oa)
  yp:Fun K "load_on" "load_on" oE t.oa t.xa
  i8:mg "is_within_pace" = some (.ref t.eg)
  iU:Fun K "is_within_pace" "is_within_pace" dZ t.eg t.i6
  nr:mg "waits_ahead" = some (.ref t.gf)
  m9:Fun K "waits_ahead" "waits_ahead" dM t.gf t.mC
  mS:mg "most_coming" = some (.ref t.gs)
  mU:Fun K "most_coming" "most_coming" gv t.gs t.nk
  xF:mg "peak_of" = some (.ref t.oP)
  xA:Fun K "peak_of" "peak_of" nO t.oP t.xx
  qz:mg "least_most" = some (.ref t.ie)
  qA:Fun K "least_most" "least_most" iq t.ie t.qt
  j4:mg "may_lose_none" = some (.ref t.fh)
  jN:Fun K "may_lose_none" "may_lose_none" eV t.fh t.jV
  xE:mg "is_wait" = some (.ref t.nQ)
  wZ:Fun K "is_wait" "is_wait" nW t.nQ t.wQ
  uL:mg "is_count" = some (.ref t.kM)
  ve:Fun K "is_count" "is_count" kx t.kM t.u5
  qF:mg "is_row_of" = some (.ref t.jK)
  sJ:Fun K "is_row_of" "is_row_of" jL t.jK t.qE
  l5:mg "is_right_row" = some (.ref t.fA)
  kJ:Fun K "is_right_row" "is_right_row" fw t.fA t.lF
  lZ:mg "shows_bounds" = some (.ref t.fB)
  md:Fun K "shows_bounds" "shows_bounds" bN t.fB t.lM
  pG:mg "least_wait" = some (.ref t.h9)
  oZ:Fun K "least_wait" "least_wait" gZ t.h9 t.pC
  AA:mg "bounds" = some (.ref t.rT)
  yQ:Fun K "bounds" "bounds" rS t.rT t.zp
  uz:mg "_law_pot" = some (.ref t.kX)
  sY:Fun K "_law_pot" "_law_pot" gK t.kX t.tq
  rX:mg "_law_take" = some (.ref t.jv)
  rz:Fun K "_law_take" "_law_take" jJ t.jv t.sM
  wV:mg "_law_of" = some (.ref t.oi)
  ym:Fun K "_law_of" "_law_of" nX t.oi t.xW
  mJ:mg "_law_lowest" = some (.ref t.gr)
  mX:Fun K "_law_lowest" "_law_lowest" gx t.gr t.mF
  qx:mg "_law_names" = some (.ref t.hE)
  qj:Fun K "_law_names" "_law_names" cR t.hE t.pZ
  rW:mg "_law_rule" = some (.ref t.jA)
  r6:Fun K "_law_rule" "_law_rule" jw t.jA t.rk
  vq:mg "_law_way" = some (.ref t.lW)
  uu:Fun K "_law_way" "_law_way" kz t.lW t.um
  nu:mg "_law_sender" = some (.ref t.gC)
  mT:Fun K "_law_sender" "_law_sender" dJ t.gC t.nF
  sU:mg "_law_plan" = some (.ref t.jt)
  rL:Fun K "_law_plan" "_law_plan" dh t.jt t.qH
  j6:mg "_law_lessened" = some (.ref t.eW)
  j7:Fun K "_law_lessened" "_law_lessened" e5 t.eW t.jT
  IB:mg "law" = some (.ref t.AU)
  wj:Fun K "law" "law" EF t.AU t.EK
  wb:mg "abs" = none
  EJ:mg "all" = none
  yW:mg "bool" = none
  Hm:mg "dict" = none
  qO:mg "enumerate" = none
  Iz:mg "int" = none
  cp:mg "isinstance" = none
  e6:mg "len" = none
  JZ:mg "max" = none
  A2:mg "min" = none
  kf:mg "range" = none
  A4:mg "sorted" = none
  Kw:mg "str" = none
  Kh:mg "sum" = none
  gS:mg "tuple" = none
  A6:mg "zip" = none
  uk:GV K mg "BEAT" (.int 2)
  c7:GV K mg "LONGEST_WAIT" (.int 2)
  eK:GV K mg "MOST_STAND" (.int 1)
  dP:GV K mg "NAME" (.int 0)
  jF:GV K mg "NONE_LOST" (.int 3)
  zM:GV K mg "NOUGHT" (.tup [.int 0,.int 1])
  qB:GV K mg "PACE" (.int 1)
  AK:GV K mg "ROAD" (.int 1)
  oW:GV K mg "ROOM" (.int 2)
  Bn:GV K mg "RULE" (.int 5)
  xq:GV K mg "SENDERS" (.int 2)
  GQ:GV K mg "SORT" (.int 4)
  o8:GV K mg "WAYS" (.int 1)
local macro_rules | `(tactic| walk_at "sc")=>`(tactic| exact ⟨rfl,rfl,rfl,by decide +kernel,rfl,by decide +kernel,by decide +kernel⟩)
local macro_rules | `(tactic| walk_at "b1")=>`(tactic| (rename_i hl;obtain ⟨x0,e⟩:=JY hl;subst e;rfl))
local macro_rules | `(tactic| walk_at "b2")=>`(tactic| (rename_i hl;obtain ⟨x0,x1,e⟩:=Jj hl;subst e;rfl))
local macro_rules | `(tactic| walk_at "b3")=>`(tactic| (rename_i hl;obtain ⟨x0,x1,x2,e⟩:=II hl;subst e;rfl))
local macro_rules | `(tactic| walk_at "b4")=>`(tactic| (rename_i hl;obtain ⟨x0,x1,x2,x3,e⟩:=Jq hl;subst e;rfl))
local macro_rules | `(tactic| walk_at "b5")=>`(tactic| (rename_i hl;obtain ⟨x0,x1,x2,x3,x4,e⟩:=Ir hl;subst e;rfl))
section
variable {P:Program} {w:World} {K:PySem.W.Frag} {mg:Str→Option Value} {base:Heap} {t:Adr}
theorem qP:aD ["thing"] ["thing"] (ar lS):=by walk_at "sc"
theorem uo (T:Txt w.params K mg t):aK P w K mg base 1 "is_whole" ["thing"] b9:=aH T.uY T.uO qP oU qR (fun _ _ _ _ _ _ _ _=>by walk_at "b1") fun _ _ _ _ _ _ hr hu=>
  av (aE (jo (lg rfl T.cp rfl (ae 0) rfl T.Iz rfl) (iW (tV (lg rfl T.cp rfl (ae 0) rfl T.yW rfl)))))
theorem lK:aD ["thing", "many"] ["thing", "many"] (ar gi):=by walk_at "sc"
theorem gj (T:Txt w.params K mg t):aK P w K mg base 1 "is_tuple_of" ["thing", "many"] aU:=aH T.nI T.mQ lK jM lU (fun _ _ _ _ _ _ _ _=>by walk_at "b2") fun _ _ _ _ _ _ hr hu=>
  av (aE (jo (lg rfl T.cp rfl (ae 0) rfl T.gS rfl) (iW (le_eq hu (aO ba bX rfl T.e6 rfl (aa (ae 0) (ah))) (ae 1)))))
theorem bP:aD ["one", "other", "divisor", "rest", "behind"] ["one", "other"] (ar jD):=by walk_at "sc"
theorem jC (T:Txt w.params K mg t):aK P w K mg base 1 "common_of" ["one", "other"] L3.bD:=aH T.qU T.sS bP L3.mK L3.qk (fun _ _ _ _ _ _ _ _=>by walk_at "b2") fun _ _ _ _ _ _ hr hu=>
  aj (ay 2 bP.nd (aO gO kg rfl T.wb rfl (aa (ae 0) (ah)))) (aj (ay 3 bP.nd (aO gO kg rfl T.wb rfl (aa (ae 1) (ah)))) (aj (mv PassesOwn.never (rF (ae 3) (le_int)) (aj (ay 4 bP.nd (fJ (ae 2) (ae 3))) (aj (ay 2 bP.nd (ae 3)) (av (ay 3 bP.nd (ae 4)))))) (av (aE (ae 2)))))
theorem gN:aD ["one", "other"] ["one", "other"] (ar de):=by walk_at "sc"
theorem hC (T:Txt w.params K mg t):aK P w K mg base 2 "common_multiple" ["one", "other"] aX:=aH T.iA T.iT gN f9 gG (fun _ _ _ _ _ _ _ _=>by walk_at "b2") fun _ _ _ _ _ _ hr hu=>
  av (aE (le_mul (dG (ae 0) (ai (jC T) hr rfl (aa (ae 0) (aa (ae 1) (ah))))) (ae 1)))
theorem qf:aD ["top", "bottom", "divisor"] ["top", "bottom"] (ar zx):=by walk_at "sc"
theorem pU (T:Txt w.params K mg t):aK P w K mg base 2 "part" ["top", "bottom"] L3.cB:=aH T.Hw T.He qf L3.BY L3.Dw (fun _ _ _ _ _ _ _ _=>by walk_at "b2") fun _ _ _ _ _ _ hr hu=>
  aj (ay 2 qf.nd (ai (jC T) hr rfl (aa (ae 0) (aa (ae 1) (ah))))) (aj (bT (EE (ae 1) (le_int)) (av (ay 2 qf.nd (le_neg (ae 2)))) (aY)) (av (aE (a7 (aa (dG (ae 0) (ae 2)) (aa (dG (ae 1) (ae 2)) (ah)))))))
theorem CQ:aD ["one", "other"] ["one", "other"] (ar yI):=by walk_at "sc"
theorem HI (T:Txt w.params K mg t):aK P w K mg base 3 "plus" ["one", "other"] L3.fS:=aH T.HU T.Hy CQ L3.yF L3.CS (fun _ _ _ _ _ _ _ _=>by walk_at "b2") fun _ _ _ _ _ _ hr hu=>
  av (aE (ai (pU T) hr rfl (aa (aB (le_mul (az (ae 0) (le_int)) (az (ae 1) (le_int))) (le_mul (az (ae 1) (le_int)) (az (ae 0) (le_int)))) (aa (le_mul (az (ae 0) (le_int)) (az (ae 1) (le_int))) (ah)))))
theorem C9:aD ["one", "other"] ["one", "other"] (ar yH):=by walk_at "sc"
theorem HN (T:Txt w.params K mg t):aK P w K mg base 1 "less" ["one", "other"] L3.fW:=aH T.HA T.Fl C9 L3.yZ L3.Eb (fun _ _ _ _ _ _ _ _=>by walk_at "b2") fun _ _ _ _ _ _ hr hu=>
  av (aE (Jf (le_mul (az (ae 0) (le_int)) (az (ae 1) (le_int))) (le_mul (az (ae 1) (le_int)) (az (ae 0) (le_int)))))
theorem qZ:aD ["one"] ["one"] (ar kF):=by walk_at "sc"
theorem uI (T:Txt w.params K mg t):aK P w K mg base 1 "floor_of" ["one"] L3.b8:=aH T.uF T.tm qZ L3.qi L3.rC (fun _ _ _ _ _ _ _ _=>by walk_at "b1") fun _ _ _ _ _ _ hr hu=>
  av (aE (dG (az (ae 0) (le_int)) (az (ae 0) (le_int))))
theorem tH:aD ["one"] ["one"] (ar oN):=by walk_at "sc"
theorem ow (T:Txt w.params K mg t):aK P w K mg base 1 "ceil_of" ["one"] L3.bK:=aH T.yk T.yg tH L3.qW L3.vb (fun _ _ _ _ _ _ _ _=>by walk_at "b1") fun _ _ _ _ _ _ hr hu=>
  av (aE (le_neg (dG (le_neg (az (ae 0) (le_int))) (az (ae 0) (le_int)))))
theorem xR:aD ["rule"] ["rule"] (ar qK):=by walk_at "sc"
theorem zL (T:Txt w.params K mg t):aK P w K mg base 1 "top_of" ["rule"] bx:=aH T.yY T.Bf xR lX oD (fun _ _ _ _ _ _ _ _=>by walk_at "b1") fun _ _ _ _ _ _ hr hu=>
  av (aE (az (ae 0) (jg (aO ba bX rfl T.e6 rfl (aa (ae 0) (ah))) (le_int))))
theorem qV:aD ["rule"] ["rule"] (ar kW):=by walk_at "sc"
theorem kn (T:Txt w.params K mg t):aK P w K mg base 2 "limit_of" ["rule"] bL:=aH T.t7 T.uK qV oX sT (fun _ _ _ _ _ _ _ _=>by walk_at "b1") fun _ _ _ _ _ _ hr hu=>
  av (aE (ai (uI T) hr rfl (aa (ai (zL T) hr rfl (aa (ae 0) (ah))) (ah))))
theorem lu:aD ["sender"] ["sender"] (ar gy):=by walk_at "sc"
theorem nz (T:Txt w.params K mg t):aK P w K mg base 3 "limit_share" ["sender"] bz:=aH T.nv T.nB lu j9 l3 (fun _ _ _ _ _ _ _ _=>by walk_at "b1") fun _ _ _ _ _ _ hr hu=>
  av (aE (ai (pU T) hr rfl (aa (ai (kn T) hr rfl (aa (az (ae 0) (aR rfl T.Bn)) (ah))) (aa (az (ae 0) (aR rfl T.uk)) (ah)))))
theorem mR:aD ["plan", "name"] ["plan", "name"] (ar eR):=by walk_at "sc"
theorem iK (T:Txt w.params K mg t):aK P w K mg base 1 "senders_on" ["plan", "name"] bj:=aH T.qu T.p8 mR me m4 (fun _ _ _ _ _ _ _ _=>by walk_at "b2") fun _ _ _ _ _ _ hr hu=>
  av (aE (bS (fsc:=ar eR) ["plan", "name"] ["sender", "name"] 1 [1] rfl rfl (c8 (az (ae 0) (aR rfl T.xq))) (fun cl C s₀ H₀ ex=>⟨cI 0 (show (["sender", "name"]:List Str).Nodup from by decide +kernel),pP (FT hu (ae 1) (az (ae 0) (aR rfl T.AK))),ae 0⟩) rfl rfl (by decide +kernel)))
theorem eL:aD ["senders", "load", "sender"] ["senders"] (ar oE):=by walk_at "sc"
theorem xG (T:Txt w.params K mg t):aK P w K mg base 4 "load_on" ["senders"] cx:=aH T.xf T.yp eL r8 vi (fun _ _ _ _ _ _ _ _=>by walk_at "b1") fun _ _ _ _ _ _ hr hu=>
  aj (ay 1 eL.nd (aR rfl T.zM)) (aj (fK PassesOwn.never rfl (c8 (ae 0)) (eM 2 eL.nd) (av (ay 1 eL.nd (ai (HI T) hr rfl (aa (ae 1) (aa (ai (nz T) hr rfl (aa (ae 2) (ah))) (ah))))))) (av (aE (ae 1))))
theorem iz:aD ["way", "senders"] ["way", "senders"] (ar dZ):=by walk_at "sc"
theorem dX (T:Txt w.params K mg t):aK P w K mg base 5 "is_within_pace" ["way", "senders"] aT:=aH T.i8 T.iU iz gE iN (fun _ _ _ _ _ _ _ _=>by walk_at "b2") fun _ _ _ _ _ _ hr hu=>
  av (aE (tV (ai (HN T) hr rfl (aa (a7 (aa (az (ae 0) (aR rfl T.qB)) (aa (le_int) (ah)))) (aa (ai (xG T) hr rfl (aa (ae 1) (ah))) (ah))))))
theorem fL:aD ["sender", "name", "waits", "road"] ["sender", "name", "waits"] (ar dM):=by walk_at "sc"
theorem nA (T:Txt w.params K mg t):aK P w K mg base 1 "waits_ahead" ["sender", "name", "waits"] bw:=aH T.nr T.m9 fL jY kr (fun _ _ _ _ _ _ _ _=>by walk_at "b3") fun _ _ _ _ _ _ hr hu=>
  aj (ay 3 fL.nd (az (ae 0) (aR rfl T.AK))) (av (aE (aO (xT rfl) BF rfl T.Kh rfl (aa (bS (fsc:=ar dM) ["sender", "name", "waits", "road"] ["earlier", "waits"] 1 [2] rfl rfl (c8 (gD (ae 3) (eU) (cN (xY hu (ae 3) (ae 1))))) (fun cl C s₀ H₀ ex=>⟨cI 0 (show (["earlier", "waits"]:List Str).Nodup from by decide +kernel),dg,Ci hu (ae 1) (ae 0)⟩) rfl rfl (by decide +kernel)) (ah)))))
theorem bO:aD ["name", "senders", "waits", "n", "count", "sender", "beats"] ["name", "senders", "waits", "n"] (ar gv):=by walk_at "sc"
theorem gh (T:Txt w.params K mg t):aK P w K mg base 3 "most_coming" ["name", "senders", "waits", "n"] aZ:=aH T.mS T.mU bO j8 lr (fun _ _ _ _ _ _ _ _=>by walk_at "b4") fun _ _ _ _ _ _ hr hu=>
  aj (ay 4 bO.nd (le_int)) (aj (fK PassesOwn.never rfl (c8 (ae 1)) (eM 5 bO.nd) (aj (ay 6 bO.nd (ai (ow T) hr rfl (aa (ai (pU T) hr rfl (aa (aB (ae 3) (ai (nA T) hr rfl (aa (ae 5) (aa (ae 0) (aa (ae 2) (ah)))))) (aa (az (ae 5) (aR rfl T.uk)) (ah)))) (ah)))) (av (oC 4 bO.nd (le_mul (ai (kn T) hr rfl (aa (az (ae 5) (aR rfl T.Bn)) (ah))) (ae 6)))))) (av (aE (ae 4))))
theorem cv:aD ["way", "senders", "waits", "rounds", "sender", "peaks", "n"] ["way", "senders", "waits"] (ar nO):=by walk_at "sc"
theorem oj (T:Txt w.params K mg t):aK P w K mg base 4 "peak_of" ["way", "senders", "waits"] bZ:=aH T.xF T.xA cv sv t9 (fun _ _ _ _ _ _ _ _=>by walk_at "b3") fun _ _ _ _ _ _ hr hu=>
  aj (ay 3 cv.nd (le_int)) (aj (fK PassesOwn.never rfl (c8 (ae 1)) (eM 4 cv.nd) (av (ay 3 cv.nd (ai (hC T) hr rfl (aa (ae 3) (aa (az (ae 4) (aR rfl T.uk)) (ah))))))) (aj (ay 5 cv.nd (vn (ah))) (aj (fK PassesOwn.never rfl (xC rfl T.kf (le_int) (aB (ae 3) (le_int))) (eM 6 cv.nd) (av (pN (le_app (ae 5) (jg (ai (gh T) hr rfl (aa (az (ae 0) (aR rfl T.dP)) (aa (ae 1) (aa (ae 2) (aa (ae 6) (ah)))))) (le_mul (az (ae 0) (aR rfl T.qB)) (jg (ae 6) (le_int)))))))) (av (aE (aO (yj rfl) zG rfl T.JZ rfl (aa (Fo (ae 5)) (ah))))))))
theorem m7:aD ["way", "senders", "waits"] ["way", "senders", "waits"] (ar iq):=by walk_at "sc"
theorem ix (T:Txt w.params K mg t):aK P w K mg base 6 "least_most" ["way", "senders", "waits"] bh:=aH T.qz T.qA m7 lQ nj (fun _ _ _ _ _ _ _ _=>by walk_at "b3") fun _ _ _ _ _ _ hr hu=>
  aj (bT (fo (eO (ai (dX T) hr rfl (aa (ae 0) (aa (ae 1) (ah)))))) (av (aE (az (ae 0) (aR rfl T.oW)))) (aY)) (av (aE (aO (jj rfl) lY rfl T.A2 rfl (aa (az (ae 0) (aR rfl T.oW)) (aa (ai (oj T) hr rfl (aa (ae 0) (aa (ae 1) (aa (ae 2) (ah))))) (ah))))))
theorem jc:aD ["way", "senders", "waits"] ["way", "senders", "waits"] (ar eV):=by walk_at "sc"
theorem e9 (T:Txt w.params K mg t):aK P w K mg base 6 "may_lose_none" ["way", "senders", "waits"] aW:=aH T.j4 T.jN jc iF ja (fun _ _ _ _ _ _ _ _=>by walk_at "b3") fun _ _ _ _ _ _ hr hu=>
  av (aE (jo (ai (dX T) hr rfl (aa (ae 0) (aa (ae 1) (ah)))) (iW (ER (ai (oj T) hr rfl (aa (ae 0) (aa (ae 1) (aa (ae 2) (ah))))) (az (ae 0) (aR rfl T.oW))))))
theorem gJ:aD ["way", "senders", "waits", "most", "wait", "stand"] ["way", "senders", "waits", "most", "wait"] (ar nW):=by walk_at "sc"
theorem om (T:Txt w.params K mg t):aK P w K mg base 4 "is_wait" ["way", "senders", "waits", "most", "wait"] b6:=aH T.xE T.wZ gJ rH uC (fun _ _ _ _ _ _ _ _=>by walk_at "b5") fun _ _ _ _ _ _ hr hu=>
  aj (bT (lt_eq hu (aO ba bX rfl T.e6 rfl (aa (ae 1) (ah))) (le_int)) (av (aE (iD))) (aY)) (aj (ay 5 gJ.nd (aO (jj rfl) lY rfl T.A2 rfl (aa (az (ae 0) (aR rfl T.oW)) (aa (ae 3) (ah))))) (aj (bT (lt_eq hu (az (ae 0) (aR rfl T.GQ)) (le_str)) (av (ay 5 gJ.nd (le_mul (ae 5) (aO ba bX rfl T.e6 rfl (aa (ae 1) (ah)))))) (aY)) (aj (bT (Ff (ae 4) (jg (ai (ow T) hr rfl (aa (ai (pU T) hr rfl (aa (ae 5) (aa (az (ae 0) (aR rfl T.qB)) (ah)))) (ah))) (le_int))) (av (aE (iD))) (aY)) (av (aE (ER (ai (gh T) hr rfl (aa (az (ae 0) (aR rfl T.dP)) (aa (ae 1) (aa (ae 2) (aa (aB (ae 4) (le_int)) (ah)))))) (le_mul (az (ae 0) (aR rfl T.qB)) (aB (ae 4) (le_int)))))))))
theorem rK:aD ["thing"] ["thing"] (ar kx):=by walk_at "sc"
theorem km (T:Txt w.params K mg t):aK P w K mg base 2 "is_count" ["thing"] bB:=aH T.uL T.ve rK qw sR (fun _ _ _ _ _ _ _ _=>by walk_at "b1") fun _ _ _ _ _ _ hr hu=>
  av (aE (jo (ai (uo T) hr rfl (aa (ae 0) (ah))) (iW (IV (ae 0) (le_int)))))
theorem pf:aD ["way", "thing"] ["way", "thing"] (ar jL):=by walk_at "sc"
theorem sI (T:Txt w.params K mg t):aK P w K mg base 3 "is_row_of" ["way", "thing"] bR:=aH T.qF T.sJ pf nH qo (fun _ _ _ _ _ _ _ _=>by walk_at "b2") fun _ _ _ _ _ _ hr hu=>
  aj (bT (LW.lt (oI (fo (eO (ai (gj T) hr rfl (aa (ae 1) (aa (le_int) (ah)))))) (oI (fo (eO (lg rfl T.cp rfl (az (ae 1) (aR rfl T.dP)) rfl T.Kw rfl))) (uj (AE hu (az (ae 1) (aR rfl T.dP)) (az (ae 0) (aR rfl T.dP))))))) (av (aE (iD))) (aY)) (av (aE (jo (ai (km T) hr rfl (aa (az (ae 1) (aR rfl T.eK)) (ah))) (jo (ai (km T) hr rfl (aa (az (ae 1) (aR rfl T.c7)) (ah))) (iW (lg rfl T.cp rfl (az (ae 1) (aR rfl T.jF)) rfl T.yW rfl))))))
theorem eX:aD ["plan", "way", "waits", "row", "senders"] ["plan", "way", "waits", "row"] (ar fw):=by walk_at "sc"
theorem lH (T:Txt w.params K mg t):aK P w K mg base 7 "is_right_row" ["plan", "way", "waits", "row"] bb:=aH T.l5 T.kJ eX jh jP (fun _ _ _ _ _ _ _ _=>by walk_at "b4") fun _ _ _ _ _ _ hr hu=>
  aj (ay 4 eX.nd (ai (iK T) hr rfl (aa (ae 0) (aa (az (ae 1) (aR rfl T.dP)) (ah))))) (aj (bT (EE (az (ae 3) (aR rfl T.eK)) (ai (ix T) hr rfl (aa (ae 1) (aa (ae 4) (aa (ae 2) (ah)))))) (av (aE (iD))) (aY)) (aj (bT (fo (eO (ai (om T) hr rfl (aa (ae 1) (aa (ae 4) (aa (ae 2) (aa (az (ae 3) (aR rfl T.eK)) (aa (az (ae 3) (aR rfl T.c7)) (ah))))))))) (av (aE (iD))) (aY)) (av (aE (Kc (tV (az (ae 3) (aR rfl T.jF))) (iW (ai (e9 T) hr rfl (aa (ae 1) (aa (ae 4) (aa (ae 2) (ah)))))))))))
theorem ff:aD ["plan", "table", "waits"] ["plan", "table"] (ar bN):=by walk_at "sc"
theorem mi (T:Txt w.params K mg t):aK P w K mg base 8 "shows_bounds" ["plan", "table"] a9:=aH T.lZ T.md ff jk jR (fun _ _ _ _ _ _ _ _=>by walk_at "b2") fun _ _ _ _ _ _ hr hu=>
  aj (bT (fo (eO (ai (gj T) hr rfl (aa (ae 1) (aa (aO ba bX rfl T.e6 rfl (aa (az (ae 0) (aR rfl T.o8)) (ah))) (ah)))))) (av (aE (iD))) (aY)) (aj (bT (fo (eO (aO (oJ rfl) vQ rfl T.EJ rfl (aa (bS (fsc:=ar bN) ["plan", "table", "waits"] ["way", "row"] 2 [] rfl rfl (oV rfl T.A6 (aa (az (ae 0) (aR rfl T.o8)) (aa (ae 1) (ah)))) (fun cl C s₀ H₀ ex=>⟨pz rfl (cT 0 (show (["way", "row"]:List Str).Nodup from by decide +kernel) (cT 1 (show (["way", "row"]:List Str).Nodup from by decide +kernel) (kR))),dg,ai (sI T) hr rfl (aa (ae 0) (aa (ae 1) (ah)))⟩) rfl rfl (by decide +kernel)) (ah))))) (av (aE (iD))) (aY)) (aj (ay 2 ff.nd (dW (uW rfl) BN rfl T.Hm rfl (aa (bS (fsc:=ar bN) ["plan", "table", "waits"] ["row"] 1 [] rfl rfl (c8 (ae 1)) (fun cl C s₀ H₀ ex=>⟨cI 0 (show (["row"]:List Str).Nodup from by decide +kernel),dg,a7 (aa (az (ae 0) (aR rfl T.dP)) (aa (az (ae 0) (aR rfl T.c7)) (ah)))⟩) rfl rfl (by decide +kernel)) (ah)))) (av (aE (aO (oJ rfl) vQ rfl T.EJ rfl (aa (bS (fsc:=ar bN) ["plan", "table", "waits"] ["way", "row", "plan", "waits"] 2 [0,2] rfl rfl (oV rfl T.A6 (aa (az (ae 0) (aR rfl T.o8)) (aa (ae 1) (ah)))) (fun cl C s₀ H₀ ex=>⟨pz rfl (cT 0 (show (["way", "row", "plan", "waits"]:List Str).Nodup from by decide +kernel) (cT 1 (show (["way", "row", "plan", "waits"]:List Str).Nodup from by decide +kernel) (kR))),dg,ai (lH T) hr rfl (aa (ae 2) (aa (ae 0) (aa (ae 3) (aa (ae 1) (ah)))))⟩) rfl rfl (by decide +kernel)) (ah)))))))
theorem du:aD ["way", "senders", "waits", "most", "wait"] ["way", "senders", "waits", "most"] (ar gZ):=by walk_at "sc"
theorem pY (T:Txt w.params K mg t):aK P w K mg base 5 "least_wait" ["way", "senders", "waits", "most"] bI:=aH T.pG T.oZ du lG nq (fun _ _ _ _ _ _ _ _=>by walk_at "b4") fun _ _ _ _ _ _ hr hu=>
  aj (ay 4 du.nd (le_int)) (aj (mv PassesOwn.never (fo (eO (ai (om T) hr rfl (aa (ae 0) (aa (ae 1) (aa (ae 2) (aa (ae 3) (aa (ae 4) (ah))))))))) (av (oC 4 du.nd (le_int)))) (av (aE (ae 4))))
theorem cw:aD ["plan", "waits", "rows", "way", "senders", "most", "wait"] ["plan"] (ar rS):=by walk_at "sc"
theorem rh (T:Txt w.params K mg t):aK P w K mg base 7 "bounds" ["plan"] cu:=aH T.AA T.yQ cw uU wO (fun _ _ _ _ _ _ _ _=>by walk_at "b1") fun _ _ _ _ _ _ hr hu=>
  aj (ay 1 cw.nd (Hu)) (aj (ay 2 cw.nd (vn (ah))) (aj (fK PassesOwn.never rfl (c8 (az (ae 0) (aR rfl T.o8))) (eM 3 cw.nd) (aj (ay 4 cw.nd (ai (iK T) hr rfl (aa (ae 0) (aa (az (ae 3) (aR rfl T.dP)) (ah))))) (aj (ay 5 cw.nd (ai (ix T) hr rfl (aa (ae 3) (aa (ae 4) (aa (ae 1) (ah)))))) (aj (ay 6 cw.nd (ai (pY T) hr rfl (aa (ae 3) (aa (ae 4) (aa (ae 1) (aa (ae 5) (ah))))))) (aj (pN (le_app (ae 2) (a7 (aa (az (ae 3) (aR rfl T.dP)) (aa (ae 5) (aa (ae 6) (aa (ai (e9 T) hr rfl (aa (ae 3) (aa (ae 4) (aa (ae 1) (ah))))) (ah)))))))) (av (Dg hu (ae 1) (az (ae 3) (aR rfl T.dP)) (ae 6)))))))) (av (aE (dW cC fV rfl T.gS rfl (aa (ae 2) (ah)))))))
theorem c9:aD ["_law_script", "_law_seed", "_law_cell"] ["_law_script"] (ar gK):=by walk_at "sc"
theorem uH (T:Txt w.params K mg t):aK P w K mg base 1 "_law_pot" ["_law_script"] cc:=aH T.uz T.sY c9 qd sH (fun _ _ _ _ _ _ _ _=>by walk_at "b1") fun _ _ _ _ _ _ hr hu=>
  aj (ay 1 c9.nd (le_int)) (aj (fK PassesOwn.never rfl (c8 (gD (ae 0) (eU) (cN (le_int)))) (eM 2 c9.nd) (av (ay 1 c9.nd (fJ (aB (aB (le_mul (ae 1) (le_int)) (fJ (ae 2) (le_pow (le_int) (le_int)))) (le_int)) (le_int))))) (av (aE (vn (aa (zV (fsc:=ar gK) ["_law_script", "_law_seed", "_law_cell"] ["_law_cell"] 1 [] rfl rfl (c8 (gD (ae 0) (eU) (cN (le_int)))) (fun cl C s₀ H₀ ex=>⟨cI 0 (show (["_law_cell"]:List Str).Nodup from by decide +kernel),pP (Ff (aO gO kg rfl T.wb rfl (aa (ae 0) (ah))) (le_pow (le_int) (le_int))),aO gO kg rfl T.wb rfl (aa (ae 0) (ah))⟩) rfl rfl (by decide +kernel)) (aa (ae 1) (ah)))))))
theorem iE:aD ["_law_pot_here", "_law_many", "_law_digit"] ["_law_pot_here", "_law_many"] (ar jJ):=by walk_at "sc"
theorem ax (T:Txt w.params K mg t):aK P w K mg base 1 "_law_take" ["_law_pot_here", "_law_many"] ao:=aH T.rX T.rz iE nJ pD (fun _ _ _ _ _ _ _ _=>by walk_at "b2") fun _ _ _ _ _ _ hr hu=>
  aj (bT (rF (aO ba bX rfl T.e6 rfl (aa (az (ae 0) (le_int)) (ah))) (le_int)) (aj (ay 2 iE.nd (fJ (az (az (ae 0) (le_int)) (le_int)) (ae 1))) (aj (rf (az (ae 0) (le_int)) (le_int) (dG (az (az (ae 0) (le_int)) (le_int)) (ae 1))) (aj (bT (lt_eq hu (az (az (ae 0) (le_int)) (le_int)) (le_int)) (av (pN (HD (az (ae 0) (le_int)) (le_int)))) (aY)) (av (aE (ae 2)))))) (aY)) (aj (rf (ae 0) (le_int) (fJ (aB (le_mul (az (ae 0) (le_int)) (le_int)) (le_int)) (le_int))) (av (aE (fJ (dG (az (ae 0) (le_int)) (le_int)) (ae 1)))))
theorem tE:aD ["_law_pot_here", "_law_some"] ["_law_pot_here", "_law_some"] (ar nX):=by walk_at "sc"
theorem a8 (T:Txt w.params K mg t):aK P w K mg base 2 "_law_of" ["_law_pot_here", "_law_some"] aJ:=aH T.wV T.ym tE rJ uf (fun _ _ _ _ _ _ _ _=>by walk_at "b2") fun _ _ _ _ _ _ hr hu=>
  av (aE (F3 (ae 1) (ai (ax T) hr rfl (aa (ae 0) (aa (aO ba bX rfl T.e6 rfl (aa (ae 1) (ah))) (ah))))))
theorem cV:aD ["_law_top", "_law_bottom", "_law_one", "_law_other"] ["_law_top", "_law_bottom"] (ar gx):=by walk_at "sc"
theorem bH (T:Txt w.params K mg t):aK P w K mg base 1 "_law_lowest" ["_law_top", "_law_bottom"] aN:=aH T.mJ T.mX cV jZ lj (fun _ _ _ _ _ _ _ _=>by walk_at "b2") fun _ _ _ _ _ _ hr hu=>
  aj (zg 2 3 rfl cV.nd (aa (ae 0) (aa (ae 1) (ah)))) (aj (mv PassesOwn.never (AE hu (ae 3) (le_int)) (av (zg 2 3 rfl cV.nd (aa (ae 3) (aa (fJ (ae 2) (ae 3)) (ah)))))) (av (aE (a7 (aa (dG (ae 0) (ae 2)) (aa (dG (ae 1) (ae 2)) (ah)))))))
theorem bJ:aD ["_law_pot_here", "_law_many", "_law_letters", "_law_stem", "_law_at", "_law_first", "_law_step"] ["_law_pot_here", "_law_many"] (ar cR):=by walk_at "sc"
theorem iJ (T:Txt w.params K mg t):aK P w K mg base 3 "_law_names" ["_law_pot_here", "_law_many"] br:=aH T.qx T.qj bJ kH mZ (fun _ _ _ _ _ _ _ _=>by walk_at "b2") fun _ _ _ _ _ _ hr hu=>
  aj (ay 2 bJ.nd (le_str)) (aj (ay 3 bJ.nd (CK (le_str) (bS (fsc:=ar cR) ["_law_pot_here", "_law_many", "_law_letters", "_law_stem", "_law_at", "_law_first", "_law_step"] ["_law_k", "_law_pot_here", "_law_letters"] 1 [0,2] rfl rfl (ji rfl T.kf (ai (ax T) hr rfl (aa (ae 0) (aa (le_int) (ah))))) (fun cl C s₀ H₀ ex=>⟨cI 0 (show (["_law_k", "_law_pot_here", "_law_letters"]:List Str).Nodup from by decide +kernel),dg,ai (a8 T) hr rfl (aa (ae 1) (aa (ae 2) (ah)))⟩) rfl rfl (by decide +kernel)))) (aj (ay 4 bJ.nd (ai (ax T) hr rfl (aa (ae 0) (aa (aB (aO ba bX rfl T.e6 rfl (aa (ae 3) (ah))) (le_int)) (ah))))) (aj (ay 5 bJ.nd (ai (ax T) hr rfl (aa (ae 0) (aa (le_int) (ah))))) (aj (ay 6 bJ.nd (ai (a8 T) hr rfl (aa (ae 0) (aa (cU (aa (le_int) (aa (le_int) (aa (le_int) (aa (le_int) (aa (le_int) (aa (le_int) (ah)))))))) (ah))))) (av (aE (bS (fsc:=ar cR) ["_law_pot_here", "_law_many", "_law_letters", "_law_stem", "_law_at", "_law_first", "_law_step"] ["_law_k", "_law_stem", "_law_letters", "_law_at", "_law_first", "_law_step"] 1 [3,2,4,5,6] rfl rfl (ji rfl T.kf (ae 1)) (fun cl C s₀ H₀ ex=>⟨cI 0 (show (["_law_k", "_law_stem", "_law_letters", "_law_at", "_law_first", "_law_step"]:List Str).Nodup from by decide +kernel),dg,aB (aB (AV (ae 1) (eU) (cN (ae 3))) (G0 (ae 2) (fJ (aB (ae 4) (le_mul (ae 5) (ae 0))) (le_int)))) (AV (ae 1) (cN (ae 3)) (eU))⟩) rfl rfl (by decide +kernel))))))))
theorem bf:aD ["_law_pot_here", "_law_most", "_law_word", "_law_whole", "_law_w", "_law_top", "_law_bottom", "_law_up", "_law_low"] ["_law_pot_here", "_law_most"] (ar jw):=by walk_at "sc"
theorem rZ (T:Txt w.params K mg t):aK P w K mg base 3 "_law_rule" ["_law_pot_here", "_law_most"] bC:=aH T.rW T.r6 bf ng pW (fun _ _ _ _ _ _ _ _=>by walk_at "b2") fun _ _ _ _ _ _ hr hu=>
  aj (ay 2 bf.nd (ai (a8 T) hr rfl (aa (ae 0) (aa (cU (aa (le_str) (aa (le_str) (aa (le_str) (aa (le_str) (aa (le_str) (ah))))))) (ah))))) (aj (ay 3 bf.nd (aB (le_int) (ai (ax T) hr rfl (aa (ae 0) (aa (ae 1) (ah)))))) (aj (ay 4 bf.nd (ai (bH T) hr rfl (aa (aB (le_int) (ai (ax T) hr rfl (aa (ae 0) (aa (jg (le_mul (le_int) (ae 3)) (le_int)) (ah))))) (aa (le_int) (ah))))) (aj (bT (lt_eq hu (ae 2) (le_str)) (av (aE (a7 (aa (ae 2) (aa (ae 4) (ah)))))) (aY)) (aj (ay 5 bf.nd (ai (bH T) hr rfl (aa (aB (le_mul (le_int) (ae 3)) (ai (ax T) hr rfl (aa (ae 0) (aa (le_int) (ah))))) (aa (le_int) (ah))))) (aj (ay 6 bf.nd (aB (le_int) (ai (ax T) hr rfl (aa (ae 0) (aa (le_int) (ah)))))) (aj (bT (lt_eq hu (ae 2) (le_str)) (av (aE (a7 (aa (ae 2) (aa (ae 4) (aa (ai (bH T) hr rfl (aa (aB (aB (ae 6) (le_int)) (ai (ax T) hr rfl (aa (ae 0) (aa (le_int) (ah))))) (aa (ae 6) (ah)))) (aa (a7 (aa (le_int) (aa (aB (aB (le_int) (le_int)) (ai (ax T) hr rfl (aa (ae 0) (aa (le_int) (ah))))) (ah)))) (aa (ae 5) (ah))))))))) (aY)) (aj (ay 7 bf.nd (ai (bH T) hr rfl (aa (aB (le_int) (ai (ax T) hr rfl (aa (ae 0) (aa (le_int) (ah))))) (aa (ae 6) (ah))))) (aj (bT (lt_eq hu (ae 2) (le_str)) (av (aE (a7 (aa (ae 2) (aa (ae 4) (aa (ae 7) (aa (ai (bH T) hr rfl (aa (aB (le_int) (ai (ax T) hr rfl (aa (ae 0) (aa (le_int) (ah))))) (aa (le_int) (ah)))) (aa (ae 5) (ah))))))))) (aY)) (aj (bT (lt_eq hu (ae 2) (le_str)) (av (aE (a7 (aa (ae 2) (aa (ae 4) (aa (ae 7) (aa (ai (bH T) hr rfl (aa (aB (le_int) (ai (ax T) hr rfl (aa (ae 0) (aa (le_int) (ah))))) (aa (le_int) (ah)))) (aa (ae 5) (ah))))))))) (aY)) (aj (ay 8 bf.nd (ai (ax T) hr rfl (aa (ae 0) (aa (le_int) (ah))))) (av (aE (a7 (aa (ae 2) (aa (ae 4) (aa (ae 7) (aa (ae 8) (aa (aB (ae 8) (ai (ax T) hr rfl (aa (ae 0) (aa (le_int) (ah))))) (aa (ae 5) (ah))))))))))))))))))))
theorem cH:aD ["_law_pot_here", "_law_name", "_law_pace", "_law_room", "_law_mark"] ["_law_pot_here", "_law_name"] (ar kz):=by walk_at "sc"
theorem uJ (T:Txt w.params K mg t):aK P w K mg base 3 "_law_way" ["_law_pot_here", "_law_name"] cf:=aH T.vq T.uu cH pJ sd (fun _ _ _ _ _ _ _ _=>by walk_at "b2") fun _ _ _ _ _ _ hr hu=>
  aj (ay 2 cH.nd (aB (le_int) (ai (ax T) hr rfl (aa (ae 0) (aa (ai (a8 T) hr rfl (aa (ae 0) (aa (cU (aa (le_int) (aa (le_int) (aa (le_int) (ah))))) (ah)))) (ah)))))) (aj (ay 3 cH.nd (aB (le_int) (ai (ax T) hr rfl (aa (ae 0) (aa (ai (a8 T) hr rfl (aa (ae 0) (aa (cU (aa (le_int) (aa (le_int) (aa (le_int) (ah))))) (ah)))) (ah)))))) (aj (ay 4 cH.nd (Bh)) (aj (bT (rF (ai (ax T) hr rfl (aa (ae 0) (aa (le_int) (ah)))) (le_int)) (av (ay 4 cH.nd (ai (ax T) hr rfl (aa (ae 0) (aa (aB (ae 3) (le_int)) (ah)))))) (aY)) (av (aE (a7 (aa (ae 1) (aa (ae 2) (aa (ae 3) (aa (ae 4) (aa (ai (a8 T) hr rfl (aa (ae 0) (aa (cU (aa (le_str) (aa (le_str) (ah)))) (ah)))) (ah))))))))))))
theorem bM:aD ["_law_pot_here", "_law_name", "_law_ways", "_law_most", "_law_begins", "_law_mask", "_law_road", "_law_many"] ["_law_pot_here", "_law_name", "_law_ways", "_law_most", "_law_begins"] (ar dJ):=by walk_at "sc"
theorem ny (T:Txt w.params K mg t):aK P w K mg base 4 "_law_sender" ["_law_pot_here", "_law_name", "_law_ways", "_law_most", "_law_begins"] bu:=aH T.nu T.mT bM kc lR (fun _ _ _ _ _ _ _ _=>by walk_at "b5") fun _ _ _ _ _ _ hr hu=>
  aj (ay 5 bM.nd (aB (le_int) (ai (ax T) hr rfl (aa (ae 0) (aa (jg (GL (le_int) (aO ba bX rfl T.e6 rfl (aa (ae 2) (ah)))) (le_int)) (ah)))))) (aj (ay 6 bM.nd (dW cC fV rfl T.gS rfl (aa (bS (fsc:=ar dJ) ["_law_pot_here", "_law_name", "_law_ways", "_law_most", "_law_begins", "_law_mask", "_law_road", "_law_many"] ["_law_k", "_law_way_here", "_law_mask"] 2 [5] rfl rfl (CY rfl T.qO (aa (ae 2) (ah))) (fun cl C s₀ H₀ ex=>⟨pz rfl (cT 0 (show (["_law_k", "_law_way_here", "_law_mask"]:List Str).Nodup from by decide +kernel) (cT 1 (show (["_law_k", "_law_way_here", "_law_mask"]:List Str).Nodup from by decide +kernel) (kR))),pP (lt_eq hu (Dr (HC (ae 2) (ae 0)) (le_int)) (le_int)),az (ae 1) (le_int)⟩) rfl rfl (by decide +kernel)) (ah)))) (aj (ay 7 bM.nd (Bh)) (aj (bT (lt_eq hu (ai (ax T) hr rfl (aa (ae 0) (aa (le_int) (ah)))) (le_int)) (av (ay 7 bM.nd (ai (ax T) hr rfl (aa (ae 0) (aa (ai (a8 T) hr rfl (aa (ae 0) (aa (cU (aa (le_int) (aa (le_int) (aa (le_int) (ah))))) (ah)))) (ah)))))) (aY)) (av (aE (a7 (aa (ae 1) (aa (ae 6) (aa (aB (le_int) (ai (ax T) hr rfl (aa (ae 0) (aa (le_int) (ah))))) (aa (ai (ax T) hr rfl (aa (ae 0) (aa (ai (a8 T) hr rfl (aa (ae 0) (aa (ae 4) (ah)))) (ah)))) (aa (ae 7) (aa (ai (rZ T) hr rfl (aa (ae 0) (aa (ae 3) (ah)))) (ah)))))))))))))
theorem cP:aD ["_law_pot_here", "_law_most", "_law_begins", "_law_grid", "_law_ways", "_law_names_here"] ["_law_pot_here", "_law_most", "_law_begins"] (ar dh):=by walk_at "sc"
theorem rD (T:Txt w.params K mg t):aK P w K mg base 5 "_law_plan" ["_law_pot_here", "_law_most", "_law_begins"] bQ:=aH T.sU T.rL cP mI o7 (fun _ _ _ _ _ _ _ _=>by walk_at "b3") fun _ _ _ _ _ _ hr hu=>
  aj (ay 3 cP.nd (aB (le_int) (ai (ax T) hr rfl (aa (ae 0) (aa (ai (a8 T) hr rfl (aa (ae 0) (aa (cU (aa (le_int) (aa (le_int) (aa (le_int) (aa (le_int) (ah)))))) (ah)))) (ah)))))) (aj (ay 4 cP.nd (dW cC fV rfl T.gS rfl (aa (bS (fsc:=ar dh) ["_law_pot_here", "_law_most", "_law_begins", "_law_grid", "_law_ways", "_law_names_here"] ["_law_name", "_law_pot_here"] 1 [0] rfl rfl (c8 (ai (iJ T) hr rfl (aa (ae 0) (aa (aB (le_int) (ai (ax T) hr rfl (aa (ae 0) (aa (ai (a8 T) hr rfl (aa (ae 0) (aa (cU (aa (le_int) (aa (le_int) (aa (le_int) (ah))))) (ah)))) (ah))))) (ah))))) (fun cl C s₀ H₀ ex=>⟨cI 0 (show (["_law_name", "_law_pot_here"]:List Str).Nodup from by decide +kernel),dg,ai (uJ T) hr rfl (aa (ae 1) (aa (ae 0) (ah)))⟩) rfl rfl (by decide +kernel)) (ah)))) (aj (ay 5 cP.nd (BI rfl T.A4 rfl (aa (ai (iJ T) hr rfl (aa (ae 0) (aa (ai (ax T) hr rfl (aa (ae 0) (aa (ai (a8 T) hr rfl (aa (ae 0) (aa (cU (aa (le_int) (aa (le_int) (aa (le_int) (ah))))) (ah)))) (ah)))) (ah)))) (ah)))) (av (aE (a7 (aa (ae 3) (aa (ae 4) (aa (dW cC fV rfl T.gS rfl (aa (bS (fsc:=ar dh) ["_law_pot_here", "_law_most", "_law_begins", "_law_grid", "_law_ways", "_law_names_here"] ["_law_name", "_law_pot_here", "_law_ways", "_law_most", "_law_begins"] 1 [0,4,1,2] rfl rfl (c8 (ae 5)) (fun cl C s₀ H₀ ex=>⟨cI 0 (show (["_law_name", "_law_pot_here", "_law_ways", "_law_most", "_law_begins"]:List Str).Nodup from by decide +kernel),dg,ai (ny T) hr rfl (aa (ae 1) (aa (ae 0) (aa (ae 2) (aa (ae 3) (aa (ae 4) (ah))))))⟩) rfl rfl (by decide +kernel)) (ah))) (ah)))))))))
theorem aC:aD ["_law_pot_here", "_law_plan_here", "_law_grid", "_law_ways", "_law_senders", "_law_way_here", "_law_at", "_law_name", "_law_pace", "_law_room", "_law_mark", "_law_sort", "_law_faster", "_law_rule_here", "_law_limit"] ["_law_pot_here", "_law_plan_here"] (ar e5):=by walk_at "sc"
theorem ka (T:Txt w.params K mg t):aK P w K mg base 3 "_law_lessened" ["_law_pot_here", "_law_plan_here"] a6:=aH T.j6 T.j7 aC iu i9 (fun _ _ _ _ _ _ _ _=>by walk_at "b2") fun _ _ _ _ _ _ hr hu=>
  aj (zf (ae 1) (vx rfl (bV 2 aC.nd (bV 3 aC.nd (bV 4 aC.nd (qy)))))) (aj (ay 5 aC.nd (ai (ax T) hr rfl (aa (ae 0) (aa (le_int) (ah))))) (aj (bT (LW.lt (oI (lt_eq hu (ae 5) (le_int)) (uj (lt_eq hu (aO ba bX rfl T.e6 rfl (aa (ae 4) (ah))) (le_int))))) (aj (ay 6 aC.nd (ai (ax T) hr rfl (aa (ae 0) (aa (aO ba bX rfl T.e6 rfl (aa (ae 3) (ah))) (ah))))) (aj (zf (az (ae 3) (ae 6)) (vx rfl (bV 7 aC.nd (bV 8 aC.nd (bV 9 aC.nd (bV 10 aC.nd (bV 11 aC.nd (qy)))))))) (aj (ay 12 aC.nd (a7 (aa (ae 7) (aa (aO (jj rfl) lY rfl T.A2 rfl (aa (le_int) (aa (aB (aB (ae 8) (le_int)) (ai (ax T) hr rfl (aa (ae 0) (aa (ai (a8 T) hr rfl (aa (ae 0) (aa (cU (aa (le_int) (aa (le_int) (aa (le_int) (ah))))) (ah)))) (ah))))) (ah)))) (aa (ae 9) (aa (ae 10) (aa (ae 11) (ah)))))))) (av (aE (a7 (aa (ae 2) (aa (aB (aB (gD (ae 3) (eU) (cN (ae 6))) (a7 (aa (ae 12) (ah)))) (gD (ae 3) (cN (aB (ae 6) (le_int))) (eU))) (aa (ae 4) (ah)))))))))) (aY)) (aj (ay 6 aC.nd (ai (ax T) hr rfl (aa (ae 0) (aa (aO ba bX rfl T.e6 rfl (aa (ae 4) (ah))) (ah))))) (aj (bT (lt_eq hu (ae 5) (le_int)) (av (aE (a7 (aa (ae 2) (aa (ae 3) (aa (aB (gD (ae 4) (eU) (cN (ae 6))) (gD (ae 4) (cN (aB (ae 6) (le_int))) (eU))) (ah))))))) (aY)) (aj (ay 13 aC.nd (az (az (ae 4) (ae 6)) (le_int))) (aj (ay 14 aC.nd (aB (le_int) (ai (ax T) hr rfl (aa (ae 0) (aa (dG (az (az (ae 13) (le_neg (le_int))) (le_int)) (az (az (ae 13) (le_neg (le_int))) (le_int))) (ah)))))) (av (aE (a7 (aa (ae 2) (aa (ae 3) (aa (aB (aB (gD (ae 4) (eU) (cN (ae 6))) (a7 (aa (aB (gD (az (ae 4) (ae 6)) (eU) (cN (le_int))) (a7 (aa (a7 (aa (le_str) (aa (a7 (aa (ae 14) (aa (le_int) (ah)))) (ah)))) (ah)))) (ah)))) (gD (ae 4) (cN (aB (ae 6) (le_int))) (eU))) (ah)))))))))))))
theorem eJ:aD ["_law_script", "_law_pot_here", "_law_plan_here", "_law_table", "_law_other", "_law_turn", "_law_row", "_law_fewer"] ["_law_script"] (ar EF):=by walk_at "sc"
theorem wj (T:Txt w.params K mg t):fk P w K mg base CX0 9 t.AU t.EK ["_law_script"] (lift K cy):=by
  refine E3 (T:=BP) T.wj eJ o6 (fun cdv A outer s H E hr=>?_) FC
  have hu:=hr.units
  exact aj (ay 1 eJ.nd (ai (uH T) hr rfl (aa (ae 0) (ah)))) (aj (ay 2 eJ.nd (ai (rD T) hr rfl (aa (ae 1) (aa (le_int) (aa (cU (aa (le_int) (aa (le_int) (aa (le_int) (ah))))) (ah)))))) (aj (ay 3 eJ.nd (ai (rh T) hr rfl (aa (ae 2) (ah)))) (aj (ay 4 eJ.nd (ae 2)) (aj (fK PassesOwn.never rfl (ji rfl T.kf (aB (le_int) (ai (ax T) hr rfl (aa (ae 1) (aa (le_int) (ah)))))) (eM 5 eJ.nd) (av (ay 4 eJ.nd (ai (ka T) hr rfl (aa (ae 1) (aa (ae 4) (ah))))))) (aj (fK PassesOwn.never rfl (oV rfl T.A6 (aa (ae 3) (aa (ai (rh T) hr rfl (aa (ae 4) (ah))) (ah)))) (vx rfl (bV 6 eJ.nd (bV 7 eJ.nd (qy)))) (av (bT (LW.lt (oI (AE hu (az (ae 7) (le_int)) (az (ae 6) (le_int))) (oI (rF (az (ae 7) (le_int)) (az (ae 6) (le_int))) (oI (rF (az (ae 7) (le_int)) (az (ae 6) (le_int))) (uj (LW.lt (Ic (eO (az (ae 6) (le_int))) (Ee (fo (eO (az (ae 7) (le_int)))))))))))) (av (aE (iD))) (aY)))) (av (aE (Ge (ai (mi T) hr rfl (aa (ae 4) (aa (ae 3) (ah)))) (iD)))))))))
end
theorem all_mk {l:PySem.W.OpenLaw}{w:World}{K:PySem.W.Frag}{mg:Str→Option Value}{fa:Addr}{t:Adr}(hfa:mg "law" = some (.ref fa))(T:Txt w.params K mg t):∃ fd:FuncData,(∀ (s:Shared) (v:Value),BindsTo s fd ⟨[v],[]⟩ [("_law_script", v)])∧∀ base:Heap,K.In base→base.Ns mainGlobals mg→fk l.prog w K mg base CX0 9 fa fd ["_law_script"] (lift K cy):=by
  have e:=hfa.symm.trans T.IB
  injection e with e
  injection e with e
  subst e
  obtain ⟨oc,od,kV,dc,pm,an,cd,ct,sl,ed,_,_⟩:=T.wj.ex
  exact ⟨_,fun s v=>.of_eq (by rw[ed];rfl),fun base _ _=>wj T⟩
end Kk
namespace PySem.W.Fast
def tw17843745431691932565:=0
def tw10232958419866883584:=0
def tw15376646827468206624:=0
def tw9429390649798296705:=0
def tw11067691181014933729:=0
def tw5452388157169385825:=0
def tw14763470544814657985:=0
def tw7376415969051800193:=0
def tw7031403797703103201:=0
def tw2538815045168072706:=0
def tw4631923810963025922:=0
def tw17312201465067152770:=0
def tw3115144187122490786:=0
def tw1530926339063242242:=0
def tw8187090406074436194:=0
def tw13503427753318040643:=0
def tw18439909125600192643:=0
def tw2584488260456891875:=0
def tw4081449077885056707:=0
def tw3600848620074806916:=0
def tw9873387384721192708:=0
def tw10349053151196318596:=0
def tw15783850710423861477:=0
def tw8082985074086730213:=0
def tw5333114863105020549:=0
def tw17503265346739105286:=0
def tw4344695884130679558:=0
def tw12420573844037807111:=0
def tw7891815276806179943:=0
def tw856530926759446951:=0
def tw9709585820207934919:=0
def tw17463731009814758087:=0
def tw902146230286367463:=0
def tw12951993343781055271:=0
def tw1734883319994219303:=0
def tw3309005384155357416:=0
def tw7368392422739038920:=0
def tw16522197721194248233:=0
def tw16606624858174268649:=0
def tw14163894915261008265:=0
def tw7022457189956091050:=0
def tw9499675181238177354:=0
def tw364847956101604970:=0
def tw15894412553905765579:=0
def tw16084152693891690731:=0
def tw15082910656314896011:=0
def tw690570600234201835:=0
def tw9029628426242451339:=0
def tw16919299596848752812:=0
def tw11358983167293808972:=0
def tw14716661930877489548:=0
def tw6702365199093532172:=0
def tw2361485306048989100:=0
def tw17653016072956873741:=0
def tw8595711606100992557:=0
def tw1071877978063650798:=0
def tw15835609378157997167:=0
def tw4150957205387808495:=0
def tw11932085527417834415:=0
def tw2287533793359253584:=0
def tw11532802949565572784:=0
def tw2111934537779296273:=0
def tw7496400384976731313:=0
def tw3294316512825479505:=0
def tw15236226044778628849:=0
def tw14422958780032960594:=0
def tw14010020949675438610:=0
def tw5640970787251326035:=0
def tw17018253919672647891:=0
def tw15242990720103270099:=0
def tw4583124572315659059:=0
def tw6587789599217572819:=0
def tw12576883479916496948:=0
def tw9903266274698590260:=0
def tw7056611347637487124:=0
def tw12017056032813855765:=0
def tw16163626360036824117:=0
def tw3841678943167644917:=0
def tw2856840994774819926:=0
def tw5657579510527788182:=0
def tw3263451859520173494:=0
def tw178010360768562774:=0
def tw8699642896887663382:=0
def tw9675431377021300887:=0
def tw9355968324185620727:=0
def tw4714814601210773783:=0
def tw5356883984276443384:=0
def tw1308140892791864152:=0
def tw4039062516185455576:=0
def tw2529864408410986041:=0
def tw17937154777244272250:=0
def tw15354064817995979514:=0
def tw11773808531334158330:=0
def tw11470173934181480731:=0
def tw16011674471457592956:=0
def tw7736600616318316284:=0
def tw4337171982575731484:=0
def tw12557369293398490076:=0
def tw7894009065924772061:=0
def tw3567175255580014525:=0
def tw11768723393143967006:=0
def tw4948101558461994462:=0
def tw13517585466825268062:=0
def tw13642622318536525951:=0
def tw11966597213822776543:=0
def tw8089640472313413471:=0
end PySem.W.Fast
open PySem PySem.W PyProof.Rows L2 L3
set_option maxRecDepth 100000 in
set_option maxHeartbeats 0 in
theorem PySem.Challenge.cw_swellways_k55_less_is_bounded_by_less_holds : PySem.Challenge.rw_swellways_k55_less_is_bounded_by_less.Holds := by
  w_on;o_law;k_head;(case hw=>w_witness2)
  k_fill
  refine L3.Kq (l:=PySem.Challenge.rw_swellways_k55_less_is_bounded_by_less) (k:=9) (sp:=Kk.cy) (x := "_law_script") rfl rfl ⟨rfl,by decide,by decide⟩ (fun w h Y=>PySem.W.kIn_of Y) Kk.jf ?F
  case F=>
    intro w mg fa h KX G hmg
    refine' Kk.all_mk (t:=⟨_,_,_,_,_,_,_,_,_,_,_,_,_,_,_,_,_,_,_,_,_,_,_,_,_,_,_,_,_,_,_,_,_,_,_,_,_,_,_,_,_,_,_,_,_,_,_,_,_,_,_,_,_,_,_,_,_,_,_,_,_,_,_,_,_,_,_,_,_,_,_,_,_,_,_,_⟩) hmg ⟨mg_of KX G ?_,aL ?_ ?_ ?_,mg_of KX G ?_,aL ?_ ?_ ?_,mg_of KX G ?_,aL ?_ ?_ ?_,mg_of KX G ?_,aL ?_ ?_ ?_,mg_of KX G ?_,aL ?_ ?_ ?_,mg_of KX G ?_,aL ?_ ?_ ?_,mg_of KX G ?_,aL ?_ ?_ ?_,mg_of KX G ?_,aL ?_ ?_ ?_,mg_of KX G ?_,aL ?_ ?_ ?_,mg_of KX G ?_,aL ?_ ?_ ?_,mg_of KX G ?_,aL ?_ ?_ ?_,mg_of KX G ?_,aL ?_ ?_ ?_,mg_of KX G ?_,aL ?_ ?_ ?_,mg_of KX G ?_,aL ?_ ?_ ?_,mg_of KX G ?_,aL ?_ ?_ ?_,mg_of KX G ?_,aL ?_ ?_ ?_,mg_of KX G ?_,aL ?_ ?_ ?_,mg_of KX G ?_,aL ?_ ?_ ?_,mg_of KX G ?_,aL ?_ ?_ ?_,mg_of KX G ?_,aL ?_ ?_ ?_,mg_of KX G ?_,aL ?_ ?_ ?_,mg_of KX G ?_,aL ?_ ?_ ?_,mg_of KX G ?_,aL ?_ ?_ ?_,mg_of KX G ?_,aL ?_ ?_ ?_,mg_of KX G ?_,aL ?_ ?_ ?_,mg_of KX G ?_,aL ?_ ?_ ?_,mg_of KX G ?_,aL ?_ ?_ ?_,mg_of KX G ?_,aL ?_ ?_ ?_,mg_of KX G ?_,aL ?_ ?_ ?_,mg_of KX G ?_,aL ?_ ?_ ?_,mg_of KX G ?_,aL ?_ ?_ ?_,mg_of KX G ?_,aL ?_ ?_ ?_,mg_of KX G ?_,aL ?_ ?_ ?_,mg_of KX G ?_,aL ?_ ?_ ?_,mg_of KX G ?_,aL ?_ ?_ ?_,mg_of KX G ?_,aL ?_ ?_ ?_,mg_of KX G ?_,aL ?_ ?_ ?_,mg_of KX G ?_,aL ?_ ?_ ?_,mg_none_of KX G ?_,mg_none_of KX G ?_,mg_none_of KX G ?_,mg_none_of KX G ?_,mg_none_of KX G ?_,mg_none_of KX G ?_,mg_none_of KX G ?_,mg_none_of KX G ?_,mg_none_of KX G ?_,mg_none_of KX G ?_,mg_none_of KX G ?_,mg_none_of KX G ?_,mg_none_of KX G ?_,mg_none_of KX G ?_,mg_none_of KX G ?_,mg_none_of KX G ?_,cK KX G ?_,cK KX G ?_,cK KX G ?_,cK KX G ?_,cK KX G ?_,FI (its:=#[.int 0 _,.int 1 _]) (xs:=[V.int 0,V.int 1]) KX G ?_ ?_ ?_ ?_ ?_ (show 2≤sizeLine by decide) (.cons ⟨_,rfl⟩ (.cons ⟨_,rfl⟩ (.nil))) (fun _=>.cons (.int _) (.cons (.int _) (.nil))),cK KX G ?_,cK KX G ?_,cK KX G ?_,cK KX G ?_,cK KX G ?_,cK KX G ?_,cK KX G ?_⟩
    all_goals try first | k_is | rfl
