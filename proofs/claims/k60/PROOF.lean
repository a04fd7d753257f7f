import PyProof.Rows.All
import Wide.All
import OpenK.AllK
import Wide.FinOn
import Lean
import PyProof.EqAt
import PyProof.EqKinds
import PyProof.TupleCall
import PyProof.P3Eq
import PyProof.NeKinds
import PyProof.NeData
import PyProof.ZipIter
import PyProof.EnumMake
import PyProof.EnumFor
import OpenK.KTop
import PyProof.IsRules
import PyProof.AttrMissHeap
import PyProof.DictUpdate
import KE.KDictOf
import PyProof.Rows.SortStr
import PyProof.FString5
import PyProof.StrOps
import PyProof.ListRange
import PyProof.TupleOfGen
import PyProof.Rows.SumAny
import PyProof.Rows.CallKwBuiltin
import PyProof.StrLoop
import PyProof.StrWalks
import PyProof.StrOps2
import PyProof.SliceStr2
import PyProof.StrBlockI
import PyProof.StrLaws
import PyProof.StrBlock
import PyProof.StrBlockL
import PyProof.StrCalls2
import KE.KStrOpen
import KE.KDictList
import PyProof.DictValues
import PyProof.DictTruth
import PyProof.MeetsDict
import PySem.Challenge.RW_swellways_k60_tables_of_other_hands
set_option Elab.async false
set_option linter.all false
set_option maxRecDepth 100000
set_option maxHeartbeats 4000000
namespace L2
open PySem PySem.Spec PyProof.Rows
abbrev Key:=Sum Int Str
def qK:Key→Value→Bool
  | .inl k,v=>Value.isInt k v
  | .inr x,v=>Value.isStrOf x v
def MJ (w:World):Key→Int
  | .inl k=>hashInt k
  | .inr x=>hashStr w x
theorem bD:∀ {k:Key} {v:Value},qK k v=true→(∃ i t,k=Sum.inl i∧v=Value.int i t)∨(∃ x t,k=Sum.inr x∧v=Value.str x t)
  | .inl i,v,h=>by
    obtain ⟨t,e⟩:=Value.isInt_shape (k:=i) (v:=v) h
    exact .inl ⟨i,t,rfl,e⟩
  | .inr x,v,h=>by
    obtain ⟨t,e⟩:=Value.isStrOf_shape (x:=x) (v:=v) h
    exact .inr ⟨x,t,rfl,e⟩
theorem zZ (i:Int)(t:Tok):qK (.inl i) (.int i t)=true:=by simp[qK,Value.isInt]
theorem Ax (x:Str)(t:Tok):qK (.inr x) (.str x t)=true:=by simp[qK,Value.isStrOf]
theorem He (a b:Int):decide ((Sum.inl a:Key)=Sum.inl b)=(a == b):=by
  by_cases e:a=b
  · subst e;simp
  · have h:¬ (Sum.inl a:Key)=Sum.inl b:=fun q=>e (Sum.inl.inj q)
    rw[decide_eq_false h]
    exact (beq_eq_false_iff_ne.mpr e).symm
theorem Jk (a b:Str):decide ((Sum.inr a:Key)=Sum.inr b)=decide (a=b):=by
  by_cases e:a=b
  · subst e;simp
  · have h:¬ (Sum.inr a:Key)=Sum.inr b:=fun q=>e (Sum.inr.inj q)
    rw[decide_eq_false h,decide_eq_false e]
theorem HC (a:Int)(b:Str):decide ((Sum.inl a:Key)=Sum.inr b)=false:=decide_eq_false (fun q=>nomatch q)
theorem JA (a:Str)(b:Int):decide ((Sum.inr a:Key)=Sum.inl b)=false:=decide_eq_false (fun q=>nomatch q)
def bE (prog:Program)(w:World):PySem.KeyKind prog w Key where
  is:=qK
  hash:=MJ w
  inj:=fun v a b ha hb=>by
    rcases bD ha with ⟨i,t,rfl,rfl⟩ | ⟨x,t,rfl,rfl⟩
    · rcases bD hb with ⟨j,u,rfl,e⟩ | ⟨y,u,rfl,e⟩
      · injection e with e1 _;rw[e1]
      · exact nomatch e
    · rcases bD hb with ⟨j,u,rfl,e⟩ | ⟨y,u,rfl,e⟩
      · exact nomatch e
      · injection e with e1 _;rw[e1]
  byValue:=fun k v h=>by
    rcases bD h with ⟨i,t,rfl,rfl⟩ | ⟨x,t,rfl,rfl⟩ <;> rfl
  pyHash:=fun hv h=>by
    rcases bD hv with ⟨i,t,rfl,rfl⟩ | ⟨x,t,rfl,rfl⟩
    · exact wpAny_pyHash_int h
    · exact wpAny_pyHash_str h
  eqBool:=fun hu hv h=>by
    rcases bD hu with ⟨i,t,rfl,rfl⟩ | ⟨x,t,rfl,rfl⟩
    · rcases bD hv with ⟨j,u,rfl,rfl⟩ | ⟨y,u,rfl,rfl⟩
      · rw[He] at h;exact wpAny_eqBool_int h
      · rw[HC] at h;exact SeqAt.EqAt.int_str i t y u _ _ _ _ h
    · rcases bD hv with ⟨j,u,rfl,rfl⟩ | ⟨y,u,rfl,rfl⟩
      · rw[JA] at h;exact SeqAt.EqAt.str_int x t j u _ _ _ _ h
      · rw[Jk] at h;exact wpAny_eqBool_str h
  «strs»:=fun k x t v h=>by
    rcases bD h with ⟨i,u,rfl,e⟩ | ⟨y,u,rfl,e⟩
    · exact nomatch e
    · injection e with e1 _
      subst e1
      cases v<;>rfl
theorem vT (prog:Program)(w:World)(i:Int)(t:Tok):(bE prog w).is (.inl i) (.int i t)=true:=zZ i t
theorem vX (prog:Program)(w:World)(x:Str)(t:Tok):(bE prog w).is (.inr x) (.str x t)=true:=Ax x t
end L2
namespace L2
open PySem PySem.Spec PyProof.Rows
inductive V where
  | non | bl (b:Bool) | int (i:Int) | str (x:Str) | byt (b:Array UInt8) | flt (b:UInt64) | ref (a:Addr) | ty (n:String)
  deriving DecidableEq
def RelV:V→Value→Prop
  | .non,u=>u=Value.none
  | .bl b,u=>u=Value.bool b
  | .int i,u=>∃ t,u=Value.int i t
  | .str x,u=>∃ t,u=Value.str x t
  | .byt b,u=>∃ t,u=Value.bytes b t
  | .flt b,u=>∃ t,u=Value.float b t
  | .ref a,u=>u=Value.ref a
  | .ty n,u=>u=Value.type n
abbrev Vals:List V→List Value→Prop:=Paired RelV
theorem Vals.length {xs:List V}{us:List Value}(r:Vals xs us):xs.length=us.length:=Paired.length r
theorem Vals.get:∀ {xs:List V} {us:List Value} {i:Nat} {x:V},Vals xs us→xs[i]? = some x→∃ u,us[i]? = some u∧RelV x u
  | _,_,_,_,.nil,e=>by simp at e
  | _,_,0,_,.cons r _,e=>by simp at e;subst e;exact ⟨_,rfl,r⟩
  | _,_,i+1,x,.cons _ t,e=>by
    obtain ⟨u,h1,h2⟩:=Vals.get (i:=i) (x:=x) t (by simpa using e)
    exact ⟨u,by simpa using h1,h2⟩
theorem Vals.set {x:V}{u:Value}(r:RelV x u):∀ {xs:List V} {us:List Value} (i:Nat),Vals xs us→Vals (xs.set i x) (us.set i u)
  | _,_,_,.nil=>.nil
  | _,_,0,.cons _ t=>.cons r t
  | _,_,i+1,.cons q t=>.cons q (Vals.set r i t)
theorem Vals.append:∀ {xs ys:List V} {us ws:List Value},Vals xs us→Vals ys ws→Vals (xs++ys) (us++ws)
  | _,_,_,_,.nil,s=>s
  | _,_,_,_,.cons r t,s=>.cons r (Vals.append t s)
theorem Vals.take:∀ {xs:List V} {us:List Value} (n:Nat),Vals xs us→Vals (xs.take n) (us.take n)
  | _,_,0,_=>.nil
  | _,_,_+1,.nil=>.nil
  | _,_,n+1,.cons r t=>.cons r (Vals.take n t)
theorem Vals.drop:∀ {xs:List V} {us:List Value} (n:Nat),Vals xs us→Vals (xs.drop n) (us.drop n)
  | _,_,0,r=>r
  | _,_,_+1,.nil=>.nil
  | _,_,n+1,.cons _ t=>Vals.drop n t
def lA:Option V→Option Value→Prop
  | some v,some u=>RelV v u
  | none,none=>True
  | _,_=>False
def KV {κ:Type}:List (κ×V)→List (κ×Value)→Prop:=Paired fun (p:κ×V) (q:κ×Value)=>p.1=q.1∧RelV p.2 q.2
def kV:Key→V
  | .inl i=>.int i
  | .inr x=>.str x
inductive HO where
    | lst (xs:List V)
    | tup (xs:List V)
    | dK (kvs:List (Key×V)) | dT (kvs:List (List Key×V))
    | set (S:Int→Bool) (n:Nat)
    | ins (C dx:Addr) (fs:List (Str×V))
    | own (x:Addr)
    | xd (fs:List (Str×V))
    | met (f x:Addr)
    | rng (lo hi:Int)
    | frz (o:Obj) (u:HO)
    | tbl (ps:Array Value)
    | ext (φ:Heap→Prop)
abbrev Hp:=Addr→Option HO
def upd (H:Hp)(a:Addr)(o:HO):Hp:=fun b=>if b=a then some o else H b
theorem aG {H:Hp}{a:Addr}{o:HO}:upd H a o a=some o:=by unfold upd;rw[if_pos rfl]
theorem aB {H:Hp}{a b:Addr}{o:HO}(h:b≠a):upd H a o b=H b:=by unfold upd;rw[if_neg h]
theorem sL {H:Hp}{a:Addr}{o u:HO}:upd (upd H a o) a u=upd H a u:=by
  funext b;unfold upd;split<;>rfl
theorem LX {H:Hp}{a b:Addr}{o u:HO}(h:H a=some o)(h':H b=some u)(d:o≠u):a≠b:=by
  intro e;subst e;rw[h] at h';exact d (Option.some.inj h')
theorem aP {H:Hp}{a b:Addr}{o:HO}(h:H a=some o)(h':H b=none):a≠b:=by
  intro e;subst e;rw[h] at h';cases h'
def vg (h:Heap)(a:Addr)(items:Array Value):Prop:=∃ n,h.get? a=some { cls:=.type "tuple", data:=.seq items n }
theorem vg.tup {h:Heap}{a:Addr}{items:Array Value}(p:vg h a items):IsTup h a items:=by obtain ⟨n,e⟩:=p;exact ⟨_,e,rfl,n,rfl⟩
theorem vg.new (h:Heap)(items:Array Value):vg (h.push { cls:=.type "tuple", data:=.seq items }) h.objs.size items:=⟨_,Heap.get?_push_size _ rfl⟩
section
variable (P:Program) (w:World)
def cj (H:Hp)(h:Heap)(a:Addr):HO→Prop
  | .lst xs=>xs.length≤sizeLine∧∃ (its:List Value) (n:Nat),Vals xs its∧h.get? a=some { cls:=.type "list", data:=.seq its.toArray n }
  | .tup xs=>xs.length≤sizeLine∧∃ its:List Value,Vals xs its∧vg h a its.toArray
  | .dK kvs=>kvs.length≤sizeLine∧(a == sysModules)=false∧∃ vs,KV kvs vs∧h.DictOf (bE P w) a vs
  | .dT kvs=>kvs.length≤sizeLine∧(a == sysModules)=false∧∃ xs:List (List Key×Addr×Value),
      Paired (fun (p:List Key×V) (q:List Key×Addr×Value)=>p.1=q.1∧H q.2.1=some (.tup (p.1.map kV))∧RelV p.2 q.2.2) kvs xs∧
      ∃ o es ep,h.get? a=some o∧o.ExactDict∧o.data=.dict es ep∧es.toList=xs.map (entryOfKey (tupleKind (bE P w)))∧(xs.map (·.1)).Nodup
  | .set S n=>h.SetOf (intKind P w) a S n
  | .ins C dx fs=>H dx=some (.own a)∧fs.length≤1000∧dx≠a∧h.get? a=some (PySem.W.instObj C dx)∧
      ∃ mA,h.Ns1 dx mA∧(∀ f,lA (fs.lookup f) (mA f))∧PySem.Within mA (fs.map (·.1))
  | .own _=>∃ o,h.get? a=some o
  | .xd fs=>∃ mA,h.Ns1 a mA∧∀ f,lA (fs.lookup f) (mA f)
  | .rng lo hi=>∃ t u v,h.get? a=some { cls:=.type "range", data:=.fields #[.int lo t,.int hi u,.int 1 v] }
  | .frz o u=>h.get? a=some o∧cj H h a u
  | .tbl ps=>h.get? a=some { cls:=.none,data:=.fields ps }
  | .met f x=>h.get? a=some (PySem.W.methodObj (.ref f) (.ref x))
  | .ext φ=>φ h∧(∃ o,h.get? a=some o)∧∀ h1 h2:Heap,φ h1→(∀ o,h1.get? a=some o→h2.get? a=some o)→φ h2
def HOk (H:Hp)(h:Heap):Prop:=∀ a o,H a=some o→cj P w H h a o
end
section
variable {P:Program} {w:World} {H H':Hp} {h h':Heap} {a:Addr} {o:HO}
theorem cj.lt (x:cj P w H h a o):a < h.objs.size:=by
  cases o with
  | lst xs=>obtain ⟨_,_,_,_,e⟩:=x;exact Heap.lt_size e
  | tup xs=>obtain ⟨_,_,_,p⟩:=x;exact p.tup.lt
  | dK kvs=>obtain ⟨_,_,_,_,o,_,_,e,_⟩:=x;exact Heap.lt_size e
  | dT kvs=>obtain ⟨_,_,_,_,o,_,_,e,_⟩:=x;exact Heap.lt_size e
  | set S n=>obtain ⟨o,_,_,_,e,_⟩:=x;exact Heap.lt_size e
  | ins C dx fs=>obtain ⟨_,_,_,e,_⟩:=x;exact Heap.lt_size e
  | own y=>obtain ⟨_,e⟩:=x;exact Heap.lt_size e
  | xd fs=>obtain ⟨_,⟨_,_,_,e,_⟩,_⟩:=x;exact Heap.lt_size e
  | rng lo hi=>obtain ⟨_,_,_,e⟩:=x;exact Heap.lt_size e
  | frz ob u=>obtain ⟨e,_⟩:=x;exact Heap.lt_size e
  | tbl ps=>exact Heap.lt_size (show h.get? a=some _ from x)
  | met f y=>exact Heap.lt_size (show h.get? a=some _ from x)
  | ext φ=>obtain ⟨_,⟨_,e⟩,_⟩:=x;exact Heap.lt_size e
theorem Paired.JN {α β:Type}{F G:α→β→Prop}:∀ {l₁:List α} {l₂:List β},Paired F l₁ l₂→(∀ a b,F a b→G a b)→Paired G l₁ l₂
  | _,_,.nil,_=>.nil
  | _,_,.cons r t,f=>.cons (f _ _ r) (Paired.JN t f)
theorem cj.lq (x:cj P w H h a o)(k:∀ b u,(b=a∨H b=some (.own a))→h.get? b=some u→h'.get? b=some u)
    (ho:∀ b,H b=some (.own a)→H' b=some (.own a)) (ht:∀ b xs,H b=some (.tup xs)→H' b=some (.tup xs)):cj P w H' h' a o:=by
  induction o with
  | lst xs=>obtain ⟨z,its,n,r,e⟩:=x;exact ⟨z,its,n,r,k _ _ (.inl rfl) e⟩
  | tup xs=>obtain ⟨z,its,r,m,e⟩:=x;exact ⟨z,its,r,m,k _ _ (.inl rfl) e⟩
  | dK kvs=>obtain ⟨z,y,vs,r,ob,es,ep,e,c⟩:=x;exact ⟨z,y,vs,r,ob,es,ep,k _ _ (.inl rfl) e,c⟩
  | dT kvs=>
    obtain ⟨z,y,xs,r,ob,es,ep,e,c⟩:=x
    exact ⟨z,y,xs,Paired.JN r fun p q z=>⟨z.1,ht _ _ z.2.1,z.2.2⟩,ob,es,ep,k _ _ (.inl rfl) e,c⟩
  | set S n=>obtain ⟨ob,es,ep,t,e,c⟩:=x;exact ⟨ob,es,ep,t,k _ _ (.inl rfl) e,c⟩
  | ins C dx fs=>
    obtain ⟨d,z,ne,e,mA,⟨od,es,ep,e2,c⟩,r⟩:=x
    exact ⟨ho _ d,z,ne,k _ _ (.inl rfl) e,mA,⟨od,es,ep,k _ _ (.inr d) e2,c⟩,r⟩
  | own y=>obtain ⟨ob,e⟩:=x;exact ⟨ob,k _ _ (.inl rfl) e⟩
  | xd fs=>obtain ⟨mA,⟨od,es,ep,e,c⟩,r⟩:=x;exact ⟨mA,⟨od,es,ep,k _ _ (.inl rfl) e,c⟩,r⟩
  | rng lo hi=>obtain ⟨t,u,v,e⟩:=x;exact ⟨t,u,v,k _ _ (.inl rfl) e⟩
  | frz ob u ih=>obtain ⟨e,q⟩:=x;exact ⟨k _ _ (.inl rfl) e,ih q⟩
  | tbl ps=>
    have e:h.get? a=some { cls:=.none,data:=.fields ps }:=x
    show h'.get? a=some { cls:=.none,data:=.fields ps }
    exact k a _ (.inl rfl) e
  | met f y=>
    have e:h.get? a=some (PySem.W.methodObj (.ref f) (.ref y)):=x
    show h'.get? a=some (PySem.W.methodObj (.ref f) (.ref y))
    exact k a _ (.inl rfl) e
  | ext φ=>obtain ⟨p,⟨o,e⟩,st⟩:=x;exact ⟨st _ _ p fun o q=>k _ _ (.inl rfl) q,⟨o,k _ _ (.inl rfl) e⟩,st⟩
theorem HOk.lt (x:HOk P w H h)(e:H a=some o):a < h.objs.size:=(x a o e).lt
theorem HOk.fresh (x:HOk P w H h)(e:h.objs.size≤a):H a=none:=by
  cases q:H a with
  | none=>rfl
  | some u=>exact absurd (Nat.lt_of_lt_of_le (x.lt q) e) (Nat.lt_irrefl _)
theorem HOk.kept (x:HOk P w H h)(k:∀ b u,h.get? b=some u→h'.get? b=some u):HOk P w H h':=fun a o e=>
  (x a o e).lq (fun b u _ q=>k b u q) (fun _ q=>q) fun _ _ q=>q
theorem HOk.laid (x:HOk P w H h)(k:∀ b u,h.get? b=some u→h'.get? b=some u)(hp:h.objs.size≤a)(new:cj P w (upd H a o) h' a o):HOk P w (upd H a o) h':=fun b u e=>by
  have hn:=x.fresh hp
  by_cases hb:b=a
  · subst hb;rw[aG] at e;cases e;exact new
  · rw[aB hb] at e
    exact (x b u e).lq (fun c v _ q=>k c v q) (fun c q=>by rw[aB (aP q hn)];exact q) fun c xs q=>by rw[aB (aP q hn)];exact q
end
def Rd (H:Hp)(a:Addr)(u:HO):Prop:=H a=some u∨∃ o,H a=some (.frz o u)
theorem Rd.of {H:Hp}{a:Addr}{u:HO}(h:H a=some u):Rd H a u:=.inl h
theorem Rd.ok {P:Program}{w:World}{H:Hp}{h:Heap}{a:Addr}{u:HO}(r:Rd H a u)(x:HOk P w H h):cj P w H h a u:=by
  rcases r with r | ⟨o,r⟩
  · exact x a u r
  · obtain ⟨_,q⟩:=x a _ r
    exact q
def Mut:Option HO→Prop
  | some (.lst _)=>True
  | some (.dK _)=>True
  | some (.dT _)=>True
  | some (.set _ _)=>True
  | some (.ins _ _ _)=>True
  | some (.ext _)=>True
  | _=>False
section
variable {P:Program} {w:World} {H:Hp} {h h':Heap} {x e:Addr} {o':HO}
theorem HOk.write (ok:HOk P w H h)(mu:Mut (H x))(he:e=x∨H e=some (.own x))(k:∀ b u,b≠e→h.get? b=some u→h'.get? b=some u)(heo:∃ u,h'.get? e=some u)
    (new:cj P w (upd H x o') h' x o'):HOk P w (upd H x o') h':=fun b u q=>by
  have K5:∀ c y,H c=some (.own y)→c≠x:=fun c y r z=>by subst z;rw[r] at mu;exact mu
  have Me:∀ c xs,H c=some (.tup xs)→c≠x:=fun c xs r z=>by subst z;rw[r] at mu;exact mu
  by_cases hb:b=x
  · subst hb;rw[aG] at q;cases q;exact new
  · rw[aB hb] at q
    by_cases hbe:b=e
    · have q':H b=some (.own x):=by
        rcases he with z | z
        · exact absurd (hbe.trans z) hb
        · rw[hbe];exact z
      rw[q] at q';cases q'
      obtain ⟨v,hv⟩:=heo
      exact ⟨v,by rw[hbe];exact hv⟩
    · refine (ok b u q).lq (fun c v hc r=>k c v ?_ r) (fun c r=>by rw[aB (K5 c b r)];exact r) fun c xs r=>by rw[aB (Me c xs r)];exact r
      rcases hc with rfl | hc
      · exact hbe
      · rintro rfl
        rcases he with z | z
        · exact K5 c b hc z
        · rw[hc] at z;cases z;exact hb rfl
end
structure Un (fs ex:List Addr) (H H':Hp) (h h':Heap):Prop where
  keep:∀ b o,h.get? b=some o→H b=none→b ∉ fs→b ∉ ex→h'.get? b=some o
  slot:∀ b o,h.get? b=some o→H b=none→b∈fs→b ∉ ex→∃ sl,h'.get? b=some { o with slots:=sl }
  free:∀ b o,h.get? b=some o→H b=none→b ∉ ex→H' b=none
  there:∀ b o,h.get? b=some o→b ∉ ex→∃ o',h'.get? b=some o'
  kW:∀ b xs,H b=some (.tup xs)→H' b=some (.tup xs)
  kz:∀ b o u,H b=some (.frz o u)→H' b=some (.frz o u)
  kF:∀ b ps,H b=some (.tbl ps)→∃ more,H' b=some (.tbl (ps++more))
section
variable {fs fs' ex ex':List Addr} {H H1 H2:Hp} {h h1 h2 h':Heap} {a x e:Addr} {o:HO}
theorem Un.any (u:Un fs ex H H1 h h1){b:Addr}{ob:Obj}(q:h.get? b=some ob)(n:H b=none)(hx:b ∉ ex):∃ sl,h1.get? b=some { ob with slots:=sl }:=by
  by_cases hb:b∈fs
  · exact u.slot b ob q n hb hx
  · exact ⟨ob.slots,u.keep b ob q n hb hx⟩
theorem Un.trans (a:Un fs ex H H1 h h1)(b:Un fs ex H1 H2 h1 h2):Un fs ex H H2 h h2 where
  keep:=fun c ob q n hc hx=>b.keep c ob (a.keep c ob q n hc hx) (a.free c ob q n hx) hc hx
  slot:=fun c ob q n hc hx=>by
    obtain ⟨sl,e1⟩:=a.slot c ob q n hc hx
    obtain ⟨sl',e2⟩:=b.slot c _ e1 (a.free c ob q n hx) hc hx
    exact ⟨sl',e2⟩
  free:=fun c ob q n hx=>by
    obtain ⟨o',e1⟩:=a.there c ob q hx
    exact b.free c o' e1 (a.free c ob q n hx) hx
  there:=fun c ob q hx=>by
    obtain ⟨o',e1⟩:=a.there c ob q hx
    exact b.there c o' e1 hx
  kW:=fun c xs q=>b.kW c xs (a.kW c xs q)
  kz:=fun c ob xs q=>b.kz c ob xs (a.kz c ob xs q)
  kF:=fun c ps q=>by
    obtain ⟨m1,e1⟩:=a.kF c ps q
    obtain ⟨m2,e2⟩:=b.kF c _ e1
    exact ⟨m1++m2,by rw[e2,Array.append_assoc]⟩
theorem Un.kept (k:∀ b u,h.get? b=some u→h'.get? b=some u):Un fs ex H H h h':=
  ⟨fun b ob q _ _ _=>k b ob q,fun b ob q _ _ _=>⟨ob.slots,k b ob q⟩,fun _ _ _ n _=>n,fun b ob q _=>⟨ob,k b ob q⟩,fun _ _ q=>q,fun _ _ _ q=>q,fun _ ps q=>⟨#[],by rw[q];simp⟩⟩
theorem Un.refl:Un fs ex H H h h:=Un.kept fun _ _ q=>q
theorem Un.laid (k:∀ b u,h.get? b=some u→h'.get? b=some u)(hp:h.objs.size≤a)(hn:H a=none):Un fs ex H (upd H a o) h h' where
  keep:=fun b u q _ _ _=>k b u q
  slot:=fun b u q _ _ _=>⟨u.slots,k b u q⟩
  free:=fun b u q n _=>by rw[aB (Nat.ne_of_lt (Nat.lt_of_lt_of_le (Heap.lt_size q) hp))];exact n
  there:=fun b u q _=>⟨u,k b u q⟩
  kW:=fun b xs q=>by rw[aB (aP q hn)];exact q
  kz:=fun b u xs q=>by rw[aB (aP q hn)];exact q
  kF:=fun b ps q=>⟨#[],by rw[aB (aP q hn),q];simp⟩
theorem Un.write (mu:Mut (H x))(he:e=x∨H e=some (.own x))(k:∀ b u,b≠e→h.get? b=some u→h'.get? b=some u)(heo:∃ u,h'.get? e=some u):Un fs ex H (upd H x o) h h':=by
  have hx:∀ b,H b=none→b≠x:=fun b n z=>by subst z;rw[n] at mu;exact mu
  have hb:∀ b,H b=none→b≠e:=fun b n z=>by
    subst z
    rcases he with r | r
    · exact hx b n r
    · rw[n] at r;cases r
  have hm:∀ b u,H b=some u→¬ Mut (some u)→b≠x:=fun b u q nm z=>by subst z;rw[q] at mu;exact nm mu
  refine ⟨fun b u q n _ _=>k b u (hb b n) q,fun b u q n _ _=>⟨u.slots,k b u (hb b n) q⟩,fun b u q n _=>by rw[aB (hx b n)];exact n,fun b u q _=>?_,
    fun b xs q=>by rw[aB (hm b _ q fun z=>z)];exact q,fun b u xs q=>by rw[aB (hm b _ q fun z=>z)];exact q,fun b ps q=>⟨#[],by rw[aB (hm b _ q fun z=>z),q];simp⟩⟩
  by_cases hbe:b=e
  · subst hbe;exact heo
  · exact ⟨u,k b u hbe q⟩
theorem Un.mono (u:Un fs ex H H1 h h1)(hs:∀ b∈fs,b∈fs')(hx:∀ b∈ex,b∈ex'):Un fs' ex' H H1 h h1:=
  ⟨fun b ob q n hb he=>u.keep b ob q n (fun z=>hb (hs b z)) fun z=>he (hx b z),fun _ _ q n _ he=>u.any q n fun z=>he (hx _ z),fun b ob q n he=>u.free b ob q n fun z=>he (hx b z),fun b ob q he=>u.there b ob q fun z=>he (hx b z),u.kW,u.kz,u.kF⟩
end
def trk (h:Heap)(H:Hp):List Addr:=(List.range h.objs.size).filter fun a=>(H a).isSome
def tw (h:Heap)(H:Hp):Heap:=PySem.W.hideAll h (trk h H)
theorem AG (h:Heap)(H:Hp):(tw h H).objs.size=h.objs.size:=PySem.W.hideAll_size _ _
theorem Co {h:Heap}{H:Hp}{b:Addr}{o:Obj}(e:h.get? b=some o)(n:H b=none):(tw h H).get? b=some o:=
  PySem.W.hideAll_get _ e fun hm=>by
    have q:(H b).isSome=true:=(List.mem_filter.mp hm).2
    rw[n] at q;simp at q
theorem EK {h:Heap}{H:Hp}{b:Addr}{o:Obj}(e:(tw h H).get? b=some o):h.get? b=some o∧H b=none:=by
  have e':h.get? b=some o:=PySem.W.of_hideAll (trk h H) e
  refine ⟨e',?_⟩
  cases q:H b with
  | none=>rfl
  | some x=>
    have hm:b∈trk h H:=List.mem_filter.mpr ⟨List.mem_range.mpr (Heap.lt_size e'),by simp[q]⟩
    have z:(tw h H).get? b=none:=PySem.W.hideAll_none (trk h H) hm
    rw[z] at e;cases e
def F3 (g h:Heap)(L:Addr):List (Addr×Obj):=(List.range h.objs.size).filterMap fun a=>if a=L∨(g.get? a).isSome=true then none else (h.get? a).map fun o=>(a,o)
def rest (g h:Heap)(L d:Addr):List (Addr×Obj):=(F3 g h L).filter fun p=>decide (p.1≠d)
end L2
namespace L2
open PySem PySem.Spec PyProof.Rows
structure Mod (K:PySem.W.Frag) (mg:Str→Option Value) (base:Heap):Prop where
  kin:K.In base
  glob:base.Ns mainGlobals mg
  blt:∃ mb,base.Ns builtinsNs mb∧∀ x:Str,x ≠ "__name__" → mb x=bootBuiltins x
  nolimit:base.NoLimit
structure Cx where
  prog:Program
  w:World
  K:PySem.W.Frag
  mg:Str→Option Value
  base:Heap
  A:Around
  N:List Str
  s₀:Shared
  H₀:Hp
  env:Env
  outer:List Env
  stack:List Env
  ex:List Addr
  fn:Str→Bool
  calm:Bool
  pn:List (Addr×Obj)
  xe:Value→Shared→Prop
def frs (l:List Env):List Addr:=l.filterMap (·.frame)
abbrev Cx.fs (X:Cx):List Addr:=frs X.outer
def Vis (sc:Scope)(x:Str):Prop:=sc.names.lookup x=some .local∨sc.names.lookup x=some .cell∨sc.names.lookup x=some .free
def Loc (sc:Scope)(x:Str):Prop:=sc.names.lookup x=some .local∨sc.names.lookup x=some .cell
def Look (env:Env)(h:Heap)(m:Str→Option Value)(x:Str)(u:Value):Prop:=
  (env.kindOf x=some .local∧m x=some u)∨((env.kindOf x=some .cell∨env.kindOf x=some .free)∧∃ c,env.cells.lookup x=some c∧h.IsCell c (some u))
structure Cx.Ok (X:Cx):Prop where
  mod:Mod X.K X.mg X.base
  kind:X.env.scope.kind=.function
  glob:X.env.globals=mainGlobals
  blt:X.env.builtins=builtinsNs
  above:X.s₀.heap.objs.size≤X.env.locals
  inj:∀ x y c,X.env.cells.lookup x=some c→X.env.cells.lookup y=some c→x=y
  has:∀ x,(X.env.kindOf x=some .cell∨X.env.kindOf x=some .free)→∃ c,X.env.cells.lookup x=some c
  cab:∀ x c,X.fn x=true→X.env.cells.lookup x=some c→X.s₀.heap.objs.size≤c
  hd:X.calm=true→X.A.handled=none
  frames:X.A.frames=some X.stack
  stk:X.stack=X.outer∨(X.stack=X.env::X.outer∧X.env.frame=some X.env.locals)
  exf:∀ b∈X.ex,b≠X.env.locals∧∀ x c,X.env.cells.lookup x=some c→c≠b
  bs:∀ b o,X.base.get? b=some o→X.s₀.heap.get? b=some o∧X.H₀ b=none
  bsz:X.base.objs.size≤X.s₀.heap.objs.size
  Am:∀ b o,X.base.get? b=some o→b ∉ X.ex
  Ad:∀ b∈X.ex,b ∉ X.fs
  mx:X.s₀.heap.FunFrames X.base X.outer
  frf:∀ b∈X.fs,X.H₀ b=none
structure Inv (X:Cx) (pins:List (Addr×Obj)) (σ:List (Option V)) (H:Hp) (s:Shared):Prop where
  ok:X.Ok
  os:s.os=X.s₀.os
  bare:AllBare s.gens
  base:Un X.fs X.ex X.H₀ H X.s₀.heap s.heap
  loc:∃ m,s.heap.Ns X.env.locals m∧∀ (i:Nat) (x:Str) (v:V),X.N[i]? = some x→σ[i]? = some (some v)→Vis X.env.scope x→∃ u,RelV v u∧Look X.env s.heap m x u
  cell:∀ x c,X.env.cells.lookup x=some c→∃ v,s.heap.IsCell c v
  free:H X.env.locals=none
  gJ:∀ x c,X.env.cells.lookup x=some c→H c=none
  pin:∀ p∈X.pn++pins,s.heap.get? p.1=some p.2∧H p.1=none∧p.1≠X.env.locals∧p.1 ∉ X.fs∧∀ v,p.2.data≠.cell v
  hok:HOk X.prog X.w H s.heap
  len:σ.length=X.N.length
section
variable {X:Cx} {pins:List (Addr×Obj)} {σ:List (Option V)} {H H':Hp} {s:Shared} {h':Heap}
theorem Cx.Ok.Mp (ok:X.Ok){b:Addr}{o:Obj}(e:X.base.get? b=some o):b ∉ X.fs:=fun hb=>by
  have:=(ok.mx.mem hb).1
  rw[e] at this;cases this
theorem Inv.bs (I:Inv X pins σ H s):∀ b o,X.base.get? b=some o→s.heap.get? b=some o∧H b=none:=fun b o e=>
  ⟨I.base.keep b o (I.ok.bs b o e).1 (I.ok.bs b o e).2 (I.ok.Mp e) (I.ok.Am b o e),I.base.free b o (I.ok.bs b o e).1 (I.ok.bs b o e).2 (I.ok.Am b o e)⟩
theorem Inv.bk (I:Inv X pins σ H s):∀ b o,X.base.get? b=some o→s.heap.get? b=some o:=fun b o e=>(I.bs b o e).1
theorem Inv.mod (I:Inv X pins σ H s):Mod X.K X.mg X.base:=I.ok.mod
theorem Inv.kIn (I:Inv X pins σ H s):X.K.In s.heap:=I.ok.mod.kin.keeps I.bk
theorem Inv.nolimit (I:Inv X pins σ H s):s.heap.NoLimit:=I.ok.mod.nolimit.keeps I.bk
theorem Inv.fr (I:Inv X pins σ H s):∃ m,Fr X.base X.env.locals s.heap m:=
  let ⟨m,hn,_⟩:=I.loc
  ⟨m,hn,I.bk,Nat.le_trans I.ok.bsz I.ok.above⟩
theorem Inv.lt (I:Inv X pins σ H s):X.env.locals < s.heap.objs.size:=let ⟨_,hn,_⟩:=I.loc;hn.lt
theorem Inv.sz (I:Inv X pins σ H s):X.s₀.heap.objs.size≤s.heap.objs.size:=Nat.le_trans I.ok.above (Nat.le_of_lt I.lt)
theorem Inv.MI (I:Inv X pins σ H s){a:Addr}(h:s.heap.objs.size≤a):a ∉ X.fs:=fun hb=>by
  obtain ⟨_,o,ho,_⟩:=I.ok.mx.mem hb
  exact absurd (Nat.lt_of_lt_of_le (Heap.lt_size ho) (Nat.le_trans I.sz h)) (Nat.lt_irrefl _)
theorem Inv.cne (I:Inv X pins σ H s):∀ x c,X.env.cells.lookup x=some c→c≠X.env.locals:=fun x c e z=>by
  obtain ⟨v,o,ho,hd⟩:=I.cell x c e
  obtain ⟨m,⟨o',es,ep,ho',hd',_⟩,_⟩:=I.loc
  rw[z,ho'] at ho;cases ho;rw[hd'] at hd;cases hd
theorem Inv.mx (I:Inv X pins σ H s):s.heap.FunFrames X.base X.outer:=by
  have all:∀ (l:List Env),(∀ b∈frs l,b∈X.fs)→X.s₀.heap.FunFrames X.base l→s.heap.FunFrames X.base l:=by
    intro l
    induction l with
    | nil=>intro _ _;trivial
    | cons env r ih=>
      intro hs hl
      obtain ⟨hk,⟨L,o,hf,hn,ho,hd⟩,hr⟩:=hl
      have hL:L∈X.fs:=hs L (by unfold frs;rw[List.filterMap_cons,hf];exact List.mem_cons_self)
      obtain ⟨sl,e⟩:=I.base.slot L o ho (I.ok.frf L hL) hL fun z=>I.ok.Ad L z hL
      exact ⟨hk,⟨L,_,hf,hn,e,hd⟩,ih (fun b hb=>hs b (by unfold frs;rw[List.filterMap_cons,hf];exact List.mem_cons_of_mem _ hb)) hr⟩
  exact all X.outer (fun _ hb=>hb) I.ok.mx
theorem Inv.stack (I:Inv X pins σ H s):s.heap.FunFrames X.base X.stack:=by
  rcases I.ok.stk with e | ⟨e,hf⟩
  · rw[e];exact I.mx
  · rw[e]
    obtain ⟨m,hn,_⟩:=I.loc
    refine .cons (by rw[I.ok.kind];decide) hf hn ?_ I.mx
    exact Heap.get?_none_of_le (Nat.le_trans I.ok.bsz I.ok.above)
theorem Inv.tT (I:Inv X pins σ H s):∀ b∈frs X.stack,b∈X.env.locals::X.fs:=fun b hb=>by
  rcases I.ok.stk with e | ⟨e,hf⟩
  · rw[e] at hb;exact List.mem_cons_of_mem _ hb
  · rw[e] at hb
    unfold frs at hb
    rw[List.filterMap_cons,hf] at hb
    exact hb
theorem Inv.sM (I:Inv X pins σ H s):∀ b∈frs X.stack,H b=none:=fun b hb=>by
  rcases List.mem_cons.mp (I.tT b hb) with e | hb
  · rw[e];exact I.free
  · obtain ⟨_,o,ho,_⟩:=I.ok.mx.mem hb
    exact I.base.free b o ho (I.ok.frf b hb) fun z=>I.ok.Ad b z hb
theorem Inv.step {g':Array GenState}{t':Nat}{d':Drawn}{ch:List Addr}(I:Inv X pins σ H s)
    (hch:∀ b∈ch,(b∈X.ex∨X.s₀.heap.objs.size≤b)∧b≠X.env.locals∧(∀ x c,X.env.cells.lookup x=some c→c≠b)∧∀ p∈X.pn++pins,p.1≠b)
    (keep:∀ b o,b≠X.env.locals→b ∉ X.fs→b ∉ ch→s.heap.get? b=some o→H b=none→h'.get? b=some o)
    (slot:∀ b o,b≠X.env.locals→b∈X.fs→b ∉ ch→s.heap.get? b=some o→H b=none→∃ sl,h'.get? b=some { o with slots:=sl }) (free:∀ b o,b ∉ ch→s.heap.get? b=some o→H b=none→H' b=none)
    (there:∀ b o,b ∉ ch→s.heap.get? b=some o→∃ o',h'.get? b=some o')
    (kW:∀ b xs,H b=some (.tup xs)→H' b=some (.tup xs)) (kz:∀ b o u,H b=some (.frz o u)→H' b=some (.frz o u)) (kF:∀ b ps,H b=some (.tbl ps)→∃ more,H' b=some (.tbl (ps++more)))
    (ns:∀ m,s.heap.Ns X.env.locals m→h'.Ns X.env.locals m) (hok:HOk X.prog X.w H' h') (hg:AllBare g') :
    Inv X pins σ H' { s with heap:=h',gens:=g',drawn:=d',toks:=t' }:=by
  have neL:∀ b o,X.s₀.heap.get? b=some o→b≠X.env.locals:=fun b o e=>Nat.ne_of_lt (Nat.lt_of_lt_of_le (Heap.lt_size e) I.ok.above)
  have neC:∀ b o,X.s₀.heap.get? b=some o→b ∉ X.ex→b ∉ ch:=fun b o e hx hb=>by
    rcases (hch b hb).1 with z | z
    · exact hx z
    · exact absurd (Nat.lt_of_lt_of_le (Heap.lt_size e) z) (Nat.lt_irrefl _)
  have cellK:∀ x c,X.env.cells.lookup x=some c→∀ v,s.heap.IsCell c v→h'.IsCell c v:=fun x c e v ⟨o,ho,hd⟩=>by
    have nch:c ∉ ch:=fun z=>(hch c z).2.2.1 x c e rfl
    by_cases hc:c∈X.fs
    · obtain ⟨sl,q⟩:=slot c o (I.cne x c e) hc nch ho (I.gJ x c e)
      exact ⟨_,q,hd⟩
    · exact ⟨o,keep c o (I.cne x c e) hc nch ho (I.gJ x c e),hd⟩
  refine ⟨I.ok,I.os,hg,⟨fun b o e n hb hx=>?_,fun b o e n hb hx=>?_,fun b o e n hx=>?_,fun b o e hx=>?_,fun b xs e=>kW b xs (I.base.kW b xs e),fun b o xs e=>kz b o xs (I.base.kz b o xs e),fun b ps e=>?_⟩,?_,fun x c e=>?_,?_,fun x c e=>?_,fun p hp=>?_,hok,I.len⟩
  · exact keep b o (neL b o e) hb (neC b o e hx) (I.base.keep b o e n hb hx) (I.base.free b o e n hx)
  · obtain ⟨sl,e1⟩:=I.base.slot b o e n hb hx
    obtain ⟨sl',e2⟩:=slot b _ (neL b o e) hb (neC b o e hx) e1 (I.base.free b o e n hx)
    exact ⟨sl',e2⟩
  · obtain ⟨o',e1⟩:=I.base.there b o e hx
    exact free b o' (neC b o e hx) e1 (I.base.free b o e n hx)
  · obtain ⟨o',e1⟩:=I.base.there b o e hx
    exact there b o' (neC b o e hx) e1
  · obtain ⟨m1,e1⟩:=I.base.kF b ps e
    obtain ⟨m2,e2⟩:=kF b _ e1
    exact ⟨m1++m2,by rw[e2,Array.append_assoc]⟩
  · obtain ⟨m,hn,hl⟩:=I.loc
    refine ⟨m,ns m hn,fun i x v e1 e2 e3=>?_⟩
    obtain ⟨u,r,l⟩:=hl i x v e1 e2 e3
    refine ⟨u,r,?_⟩
    rcases l with l | ⟨k,c,e,z⟩
    · exact .inl l
    · exact .inr ⟨k,c,e,cellK x c e _ z⟩
  · obtain ⟨v,z⟩:=I.cell x c e
    exact ⟨v,cellK x c e v z⟩
  · obtain ⟨m,⟨o,_,_,ho,_⟩,_⟩:=I.loc
    exact free _ o (fun z=>(hch _ z).2.1 rfl) ho I.free
  · obtain ⟨v,o,ho,hd⟩:=I.cell x c e
    exact free c o (fun z=>(hch c z).2.2.1 x c e rfl) ho (I.gJ x c e)
  · obtain ⟨e,n,ne,nf,d⟩:=I.pin p hp
    have nch:p.1 ∉ ch:=fun z=>(hch p.1 z).2.2.2 p hp rfl
    exact ⟨keep p.1 p.2 ne nf nch e n,free p.1 p.2 nch e n,ne,nf,d⟩
theorem Inv.un {t':Nat}(I:Inv X pins σ H s)(u:Un X.fs [] H H' s.heap h')(hok:HOk X.prog X.w H' h'):Inv X pins σ H' { s with heap:=h',toks:=t' }:=by
  obtain ⟨m,⟨o,es,ep,ho,r⟩,_⟩:=id I.loc
  obtain ⟨sl,hL⟩:=u.any ho I.free (by simp)
  exact I.step (g':=s.gens) (d':=s.drawn) (ch:=[]) (fun _ z=>nomatch z) (fun b o _ hb _ e n=>u.keep b o e n hb (by simp)) (fun b o _ hb _ e n=>u.slot b o e n hb (by simp)) (fun b o _ e n=>u.free b o e n (by simp)) (fun b o _ e=>u.there b o e (by simp)) u.kW u.kz u.kF (fun m' hm=>by
    obtain ⟨o',es',ep',ho',r'⟩:=hm
    rw[ho] at ho';cases ho'
    exact ⟨_,es',ep',hL,r'⟩) hok I.bare
theorem Inv.call {g':Array GenState}{t':Nat}{d':Drawn}{ch:List Addr}(I:Inv X pins σ H s)(u:Un (frs X.stack) ch H H' s.heap h')(hok:HOk X.prog X.w H' h')(hg:AllBare g')
    (hch:∀ b∈ch,(b∈X.ex∨X.s₀.heap.objs.size≤b)∧b≠X.env.locals∧(∀ x c,X.env.cells.lookup x=some c→c≠b)∧∀ p∈X.pn++pins,p.1≠b) :
    Inv X pins σ H' { s with heap:=h',gens:=g',drawn:=d',toks:=t' }:=by
  obtain ⟨m,⟨o,es,ep,ho,r⟩,_⟩:=id I.loc
  obtain ⟨sl,hL⟩:=u.any ho I.free fun z=>(hch _ z).2.1 rfl
  exact I.step (ch:=ch) hch (fun b o hL hb hc e n=>u.keep b o e n (fun z=>(List.mem_cons.mp (I.tT b z)).elim hL hb) hc) (fun b o _ _ hc e n=>u.any e n hc) (fun b o hc e n=>u.free b o e n hc) (fun b o hc e=>u.there b o e hc) u.kW u.kz u.kF (fun m' hm=>by
    obtain ⟨o',es',ep',ho',r'⟩:=hm
    rw[ho] at ho';cases ho'
    exact ⟨_,es',ep',hL,r'⟩) hok hg
theorem Inv.turned {t':Nat}{it:Addr}(I:Inv X pins σ H s)(k:∀ b o,b≠it→s.heap.get? b=some o→h'.get? b=some o)(hn:H it=none)(hL:it≠X.env.locals)
    (h1:it∈X.ex∨X.s₀.heap.objs.size≤it) (h2:∀ x c,X.env.cells.lookup x=some c→c≠it) (h3:∀ p∈X.pn++pins,p.1≠it):Inv X pins σ H { s with heap:=h',toks:=t' }:=by
  have nit:∀ b u,H b=some u→b≠it:=fun b u e z=>by rw[z,hn] at e;cases e
  refine I.step (g':=s.gens) (d':=s.drawn) (ch:=[it]) (fun b hb=>?_) (fun b o _ _ hc e _=>k b o (fun z=>hc (by simp[z])) e) (fun b o _ _ hc e _=>⟨o.slots,k b o (fun z=>hc (by simp[z])) e⟩) (fun _ _ _ _ n=>n)
    (fun b o hc e=>⟨o,k b o (fun z=>hc (by simp[z])) e⟩) (fun _ _ e=>e) (fun _ _ _ e=>e) (fun b ps e=>⟨#[],by rw[e];simp⟩) (fun m hm=>?_) (fun b u e=>?_) I.bare
  · have e:b=it:=by simpa using hb
    subst e
    exact ⟨h1,hL,h2,h3⟩
  · obtain ⟨o,es,ep,ho,r⟩:=hm
    exact ⟨o,es,ep,k _ o (Ne.symm hL) ho,r⟩
  · refine (I.hok b u e).lq (fun c v hc q=>k c v ?_ q) (fun _ q=>q) fun _ _ q=>q
    rcases hc with z | z
    · rw[z];exact nit b u e
    · exact nit c _ z
theorem Inv.tok (I:Inv X pins σ H s)(t:Nat):Inv X pins σ H { s with toks:=t }:=I.un (h':=s.heap) (t':=t) Un.refl I.hok
theorem Inv.kept {t':Nat}(I:Inv X pins σ H s)(k:∀ b u,s.heap.get? b=some u→h'.get? b=some u):Inv X pins σ H { s with heap:=h',toks:=t' }:=I.un (Un.kept k) (I.hok.kept k)
theorem Inv.laid {a:Addr}{o:HO}{t':Nat}(I:Inv X pins σ H s)(k:∀ b u,s.heap.get? b=some u→h'.get? b=some u)(hp:s.heap.objs.size≤a)(new:cj X.prog X.w (upd H a o) h' a o) :
    Inv X pins σ (upd H a o) { s with heap:=h',toks:=t' }:=I.un (Un.laid k hp (I.hok.fresh hp)) (I.hok.laid k hp new)
theorem Inv.write {x e:Addr}{o:HO}{t':Nat}(I:Inv X pins σ H s)(mu:Mut (H x))(he:e=x∨H e=some (.own x))(k:∀ b u,b≠e→s.heap.get? b=some u→h'.get? b=some u)(heo:∃ u,h'.get? e=some u)
    (new:cj X.prog X.w (upd H x o) h' x o):Inv X pins σ (upd H x o) { s with heap:=h',toks:=t' }:=I.un (Un.write mu he k heo) (I.hok.write mu he k heo new)
theorem Inv.weak {σ':List (Option V)}(I:Inv X pins σ H s)(hl:σ'.length=σ.length)(w:∀ (i:Nat) v,σ'[i]? = some (some v)→σ[i]? = some (some v)):Inv X pins σ' H s:=
  ⟨I.ok,I.os,I.bare,I.base,let ⟨m,hn,hl'⟩:=I.loc;⟨m,hn,fun i x v e1 e2 e3=>hl' i x v e1 (w i v e2) e3⟩,I.cell,I.free,I.gJ,I.pin,I.hok,hl.trans I.len⟩
theorem Inv.zX {pins':List (Addr×Obj)}(I:Inv X pins σ H s)(h:∀ p∈pins',s.heap.get? p.1=some p.2∧H p.1=none∧p.1≠X.env.locals∧p.1 ∉ X.fs∧∀ v,p.2.data≠.cell v):Inv X pins' σ H s:=
  ⟨I.ok,I.os,I.bare,I.base,I.loc,I.cell,I.free,I.gJ,fun p hp=>(List.mem_append.mp hp).elim (fun z=>I.pin p (List.mem_append_left _ z)) (h p),I.hok,I.len⟩
theorem u9 {N:List Str}(hN:N.Nodup){i j:Nat}{x:Str}(a:N[i]? = some x)(b:N[j]? = some x):i=j:=by
  obtain ⟨h1,e1⟩:=List.getElem?_eq_some_iff.mp a
  obtain ⟨h2,e2⟩:=List.getElem?_eq_some_iff.mp b
  exact (List.getElem_inj hN).mp (e1.trans e2.symm)
theorem Ar {M:Model}{A:Around}{E:Value→Shared→Prop}{i:Nat}{x:Str}{v:V}{u:Value}{Q:Unit→Shared→Prop}(I:Inv X pins σ H s)(hN:X.N.Nodup)(hi:X.N[i]? = some x)(hx:Loc X.env.scope x)(r:RelV v u)
    (h:∀ s',Inv X pins (σ.set i (some v)) H s'→(∃ a,Heap.SameBut a s.heap s'.heap∧(a=X.env.locals∨X.env.cells.lookup x=some a))→Q () s') (hf:X.fn x=true∨X.env.scope.names.lookup x=some .local:=by first | exact .inl rfl | exact .inr rfl | assumption):wpAny M A (storeName X.env x u) Q E s:=by
  obtain ⟨m,hn,hl⟩:=id I.loc
  have Mn:(X.env.scope.kind == .class || (X.env.scope.kind == .module&&X.env.locals != X.env.globals))=false:=by rw[I.ok.kind];rfl
  have hiσ:i < σ.length:=by rw[I.len];exact (List.getElem?_eq_some_iff.mp hi).1
  have cne:=I.cne
  have tracked:∀ {a:Addr} {h':Heap},(∃ o,s.heap.get? a=some o∧H a=none)→Heap.SameBut a s.heap h'→HOk X.prog X.w H h':=fun {a h'} ha hs b ob e=>by
    obtain ⟨_,_,hfree⟩:=ha
    refine (I.hok b ob e).lq (fun c w' hc q=>(hs.2 c ?_).trans q) (fun _ q=>q) fun _ _ q=>q
    rintro rfl
    rcases hc with rfl | hc
    · rw[hfree] at e;cases e
    · rw[hfree] at hc;cases hc
  rcases hx with hk | hk
  · refine wpAny_storeName_local hk hn (fun h' hn' hs=>?_) Mn
    obtain ⟨oL,_,_,hoL,_⟩:=id hn
    refine h _ ⟨I.ok,I.os,I.bare,⟨fun b o e n hb hx=>?_,fun b o e n hb hx=>?_,I.base.free,fun b o e hx=>?_,I.base.kW,I.base.kz,I.base.kF⟩,⟨_,hn',fun j y v' e1 e2 e3=>?_⟩,fun y c e=>?_,I.free,I.gJ,fun p hp=>?_,tracked ⟨oL,hoL,I.free⟩ hs,by simpa using I.len⟩ ⟨_,hs,.inl rfl⟩
    · exact (hs.2 b (Nat.ne_of_lt (Nat.lt_of_lt_of_le (Heap.lt_size e) I.ok.above))).trans (I.base.keep b o e n hb hx)
    · obtain ⟨sl,e1⟩:=I.base.slot b o e n hb hx
      exact ⟨sl,(hs.2 b (Nat.ne_of_lt (Nat.lt_of_lt_of_le (Heap.lt_size e) I.ok.above))).trans e1⟩
    · obtain ⟨o',e1⟩:=I.base.there b o e hx
      exact ⟨o',(hs.2 b (Nat.ne_of_lt (Nat.lt_of_lt_of_le (Heap.lt_size e) I.ok.above))).trans e1⟩
    · by_cases hj:j=i
      · subst hj
        rw[hi] at e1;cases e1
        rw[List.getElem?_set_self hiσ] at e2
        cases e2
        exact ⟨u,r,.inl ⟨hk,by simp⟩⟩
      · rw[List.getElem?_set_ne (Ne.symm hj)] at e2
        obtain ⟨u',r',q⟩:=hl j y v' e1 e2 e3
        refine ⟨u',r',?_⟩
        rcases q with ⟨k,e⟩ | ⟨k,c,e,z⟩
        · refine .inl ⟨k,?_⟩
          have:y≠x:=fun e=>hj (u9 hN e1 (e ▸ hi))
          simp[this,e]
        · exact .inr ⟨k,c,e,z.sameBut hs (cne y c e)⟩
    · obtain ⟨w',z⟩:=I.cell y c e
      exact ⟨w',z.sameBut hs (cne y c e)⟩
    · obtain ⟨e,n,ne,nf,d⟩:=I.pin p hp
      exact ⟨(hs.2 p.1 ne).trans e,n,ne,nf,d⟩
  · have hfn:X.fn x=true:=by
      rcases hf with z | z
      · exact z
      · rw[z] at hk;cases hk
    obtain ⟨c,hc⟩:=I.ok.has x (.inl hk)
    obtain ⟨w',z⟩:=I.cell x c hc
    refine wpAny_storeName_cell I.ok.kind hk hc z (fun h' hc' hs=>?_)
    obtain ⟨oc,hoc,hocd⟩:=id z
    refine h { s with heap:=h' } ⟨I.ok,I.os,I.bare,⟨fun b o e n hb hx=>?_,fun b o e n hb hx=>?_,I.base.free,fun b o e hx=>?_,I.base.kW,I.base.kz,I.base.kF⟩,⟨m,hn.sameBut hs (Ne.symm (cne x c hc)),fun j y v' e1 e2 e3=>?_⟩,fun y c' e=>?_,I.free,I.gJ,fun p hp=>?_,tracked ⟨oc,hoc,I.gJ x c hc⟩ hs,by simpa using I.len⟩ ⟨c,hs,.inr hc⟩
    · exact (hs.2 b (Nat.ne_of_lt (Nat.lt_of_lt_of_le (Heap.lt_size e) (I.ok.cab x c hfn hc)))).trans (I.base.keep b o e n hb hx)
    · obtain ⟨sl,e1⟩:=I.base.slot b o e n hb hx
      exact ⟨sl,(hs.2 b (Nat.ne_of_lt (Nat.lt_of_lt_of_le (Heap.lt_size e) (I.ok.cab x c hfn hc)))).trans e1⟩
    · obtain ⟨o',e1⟩:=I.base.there b o e hx
      exact ⟨o',(hs.2 b (Nat.ne_of_lt (Nat.lt_of_lt_of_le (Heap.lt_size e) (I.ok.cab x c hfn hc)))).trans e1⟩
    · by_cases hj:j=i
      · subst hj
        rw[hi] at e1;cases e1
        rw[List.getElem?_set_self hiσ] at e2
        cases e2
        exact ⟨u,r,.inr ⟨.inl hk,c,hc,hc'⟩⟩
      · rw[List.getElem?_set_ne (Ne.symm hj)] at e2
        obtain ⟨u',r',q⟩:=hl j y v' e1 e2 e3
        refine ⟨u',r',?_⟩
        rcases q with q | ⟨k,c',e,z'⟩
        · exact .inl q
        · refine .inr ⟨k,c',e,z'.sameBut hs ?_⟩
          rintro rfl
          exact hj (u9 hN e1 (I.ok.inj _ _ _ e hc ▸ hi))
    · by_cases hcc:c'=c
      · subst hcc;exact ⟨_,hc'⟩
      · obtain ⟨w2,z2⟩:=I.cell y c' e
        exact ⟨w2,z2.sameBut hs hcc⟩
    · obtain ⟨e,n,ne,nf,d⟩:=I.pin p hp
      refine ⟨(hs.2 p.1 ?_).trans e,n,ne,nf,d⟩
      intro q
      rw[q,hoc] at e
      have q':oc=p.2:=Option.some.inj e
      exact d w' (by rw[← q'];exact hocd)
theorem gX {M:Model}{A:Around}{E:Value→Shared→Prop}{i:Nat}{x:Str}{v:V}{u:Value}{Q:Unit→Shared→Prop}(I:Inv X pins σ H s)(hN:X.N.Nodup)(hi:X.N[i]? = some x)(hx:Loc X.env.scope x)(r:RelV v u)
    (h:∀ s',Inv X pins (σ.set i (some v)) H s'→Q () s') (hf:X.fn x=true∨X.env.scope.names.lookup x=some .local:=by first | exact .inl rfl | exact .inr rfl | assumption):wpAny M A (storeName X.env x u) Q E s:=
  Ar I hN hi hx r (fun s' I' _=>h s' I') hf
theorem Inv.Ds {s':Shared}{ch:List Addr}(I:Inv X pins σ H s)(ho:s'.os=s.os)(u:Un (frs X.stack) ch H H' s.heap s'.heap)(hok:HOk X.prog X.w H' s'.heap)(hg:AllBare s'.gens)
    (hch:∀ b∈ch,(b∈X.ex∨X.s₀.heap.objs.size≤b)∧b≠X.env.locals∧(∀ x c,X.env.cells.lookup x=some c→c≠b)∧∀ p∈X.pn++pins,p.1≠b):Inv X pins σ H' s':=by
  obtain ⟨h',g',d',t',o'⟩:=s'
  have e:o'=s.os:=ho
  subst e
  exact I.call (g':=g') (t':=t') (d':=d') u hok hg hch
end
abbrev XK:=Value→Option Addr→Hp→Prop
abbrev St:=List (Option V)
abbrev VK:=V→Hp→Prop
abbrev TE:=St→Hp→VK→Prop
abbrev TT:=St→Hp→(Bool→Hp→Prop)→Prop
abbrev TA:=St→Hp→(List V→Hp→Prop)→Prop
structure Ends where
  nx:St→Hp→Prop
  rt:VK
  bk:St→Hp→Prop:=fun _ _=>False
  ct:St→Hp→Prop:=fun _ _=>False
abbrev TS:=Ends→St→Hp→Prop
def EP (X:Cx)(pins:List (Addr×Obj))(σ:St)(Q:VK)(u:Value)(s':Shared):Prop:=∃ v H',Inv X pins σ H' s'∧RelV v u∧Q v H'
def TP (X:Cx)(pins:List (Addr×Obj))(σ:St)(Q:Bool→Hp→Prop)(b:Bool)(s':Shared):Prop:=∃ H',Inv X pins σ H' s'∧Q b H'
def AP (X:Cx)(pins:List (Addr×Obj))(σ:St)(Q:List V→Hp→Prop)(us:List Value)(s':Shared):Prop:=∃ vs H',Inv X pins σ H' s'∧Vals vs us∧Q vs H'
def SP (X:Cx)(pins:List (Addr×Obj))(D:Ends)(f:Flow)(s':Shared):Prop:=
  match f with
  | .next=>∃ σ' H',Inv X pins σ' H' s'∧D.nx σ' H'
  | .brk=>∃ σ' H',Inv X pins σ' H' s'∧D.bk σ' H'
  | .cont=>∃ σ' H',Inv X pins σ' H' s'∧D.ct σ' H'
  | .ret u=>∃ v σ' H',Inv X pins σ' H' s'∧RelV v u∧D.rt v H'
def PE (X:Cx)(e:Expr)(t:TE):Prop:=
  ∀ (pins:List (Addr×Obj)) (s:Shared) (σ:St) (H:Hp) (Q:VK),Inv X pins σ H s→t σ H Q→wpAny (model X.prog X.w) X.A (eval e X.env) (EP X pins σ Q) X.xe s
def PT (X:Cx)(e:Expr)(t:TT):Prop:=
  ∀ (pins:List (Addr×Obj)) (s:Shared) (σ:St) (H:Hp) (Q:Bool→Hp→Prop),Inv X pins σ H s→t σ H Q→wpAny (model X.prog X.w) X.A (isTrue e X.env (eval e X.env)) (TP X pins σ Q) X.xe s
def PW (X:Cx)(e:Expr)(t:TT):Prop:=
  ∀ (whole:Sem Value) (pins:List (Addr×Obj)) (s:Shared) (σ:St) (H:Hp) (Q:Bool→Hp→Prop),Inv X pins σ H s→t σ H Q→wpAny (model X.prog X.w) X.A (isTrue e X.env whole) (TP X pins σ Q) X.xe s
theorem PW.pt {X:Cx}{e:Expr}{t:TT}(h:PW X e t):PT X e t:=h _
def PA (X:Cx)(es:List Expr)(t:TA):Prop:=
  ∀ (pos:Pos) (pins:List (Addr×Obj)) (s:Shared) (σ:St) (H:Hp) (Q:List V→Hp→Prop),Inv X pins σ H s→t σ H Q→wpAny (model X.prog X.w) X.A (spliced (backTo pos (starEach es X.env))) (AP X pins σ Q) X.xe s
def PS (X:Cx)(st:Stmt)(t:TS):Prop:=
  ∀ (pins:List (Addr×Obj)) (s:Shared) (σ:St) (H:Hp) (D:Ends),Inv X pins σ H s→t D σ H→wpAny (model X.prog X.w) X.A (exec st X.env) (SP X pins D) X.xe s
def PSs (X:Cx)(st:List Stmt)(t:TS):Prop:=
  ∀ (pins:List (Addr×Obj)) (s:Shared) (σ:St) (H:Hp) (D:Ends),Inv X pins σ H s→t D σ H→wpAny (model X.prog X.w) X.A (execs st X.env) (SP X pins D) X.xe s
theorem thn {α:Type}{t:Sem α}{Q Q':α→Shared→Prop}{M:Model}{A:Around}{E:Value→Shared→Prop}{s:Shared}(h:wpAny M A t Q E s)(hQ:∀ a s,Q a s→Q' a s):wpAny M A t Q' E s:=wpAny_mono h hQ fun _ _ x=>x
end L2
namespace L2
open PySem PySem.Spec PyProof.Rows
section
variable {X:Cx}
def K8 (i:Nat):TE:=fun σ H Q=>∃ v,σ[i]? = some (some v)∧Q v H
def tC (v:V):TE:=fun _ H Q=>Q v H
theorem CM {i:Nat}{x:Str}{pos:Pos}(hN:X.N[i]? = some x)(hv:Vis X.env.scope x)(hd:(x == ("__debug__" : Str))=false:=by decide)(hcd:(x == ("__classdict__" : Str))=false:=by decide):PE X (.Name x pos) (K8 i):=by
  intro pins s σ H Q I h
  obtain ⟨v,e,h⟩:=h
  obtain ⟨m,hn,hl⟩:=I.loc
  obtain ⟨u,r,l⟩:=hl i x v hN e hv
  have fin:EP X pins σ Q u s:=⟨v,H,I,r,h⟩
  rcases l with ⟨hk,hm⟩ | ⟨hk,c,hc,hcell⟩
  · exact wpAny_Name (wpAny_loadName_local I.ok.kind hk hn hm fin) hd
  · rcases hk with hk | hk
    · exact wpAny_Name (wpAny_loadName_cell I.ok.kind hk hc hcell fin) hd
    · exact wpAny_Name (wpAny_loadName_free I.ok.kind hk hc hcell fin hcd) hd
theorem Iy {i j pos}:PE X (.Constant (.int i) j pos) (tC (.int i)):=fun _ _ _ H _ I h=>wpAny_Constant_int ⟨.int i,H,I.tok _,⟨_,rfl⟩,h⟩
theorem Kx {b j pos}:PE X (.Constant (.bool b) j pos) (tC (.bl b)):=fun _ _ _ H _ I h=>Constant_bool ⟨.bl b,H,I,rfl,h⟩
theorem J4 {j pos}:PE X (.Constant .none j pos) (tC .non):=fun _ _ _ H _ I h=>Constant_none ⟨.non,H,I,rfl,h⟩
theorem HR {x j pos}:PE X (.Constant (.str x) j pos) (tC (.str x)):=fun _ _ _ H _ I h=>Calls.Constant_str ⟨.str x,H,I.tok _,⟨_,rfl⟩,h⟩
def Gl (X:Cx)(x:Str):Prop:=X.env.kindOf x=some .globalImplicit
theorem zx {E:Value→Shared→Prop}{pins:List (Addr×Obj)}{s:Shared}{σ:St}{H:Hp}{x:Str}{u:Value}{pos:Pos}{Q:Value→Shared→Prop}(I:Inv X pins σ H s)(hg:Gl X x)(hm:X.mg x=some u)(h:Q u s)
    (hd:(x == ("__debug__" : Str))=false:=by decide):wpAny (model X.prog X.w) X.A (eval (.Name x pos) X.env) Q E s:=
  Calls.Name_function_global I.ok.kind hg (Calls.loadGlobal_global (by rw[I.ok.glob];exact I.mod.glob.keeps I.bk) hm h) hd
theorem kG {E:Value→Shared→Prop}{pins:List (Addr×Obj)}{s:Shared}{σ:St}{H:Hp}{x:Str}{u:Value}{pos:Pos}{Q:Value→Shared→Prop}(I:Inv X pins σ H s)(hg:Gl X x)(hm:X.mg x=none)(hv:bootBuiltins x=some u)(h:Q u s)
    (hn:x ≠ "__name__" := by decide) (hd:(x == ("__debug__" : Str))=false:=by decide):wpAny (model X.prog X.w) X.A (eval (.Name x pos) X.env) Q E s:=by
  obtain ⟨mb,h1,h2⟩:=I.mod.blt
  exact Calls.Name_function_global I.ok.kind hg (Calls.loadGlobal_builtin (by rw[I.ok.glob];exact I.mod.glob.keeps I.bk) hm (by rw[I.ok.blt];exact h1.keeps I.bk) ((h2 x hn).trans hv) h) hd
theorem E4 {x:Str}{v:V}{u:Value}{pos:Pos}(hg:Gl X x)(hm:X.mg x=some u)(r:RelV v u)(hd:(x == ("__debug__" : Str))=false:=by decide):PE X (.Name x pos) (tC v):=
  fun _ _ _ H _ I h=>zx I hg hm ⟨v,H,I,r,h⟩ hd
theorem Fz {x:Str}{v:V}{u:Value}{pos:Pos}(hg:Gl X x)(hm:X.mg x=none)(hv:bootBuiltins x=some u)(r:RelV v u)(hn:x ≠ "__name__" := by decide)(hd:(x == ("__debug__" : Str))=false:=by decide):PE X (.Name x pos) (tC v):=
  fun _ _ _ H _ I h=>kG I hg hm hv ⟨v,H,I,r,h⟩ hn hd
variable {a b:Expr} {ta tb:TE} {pos:Pos}
def PC (X:Cx)(op:CmpOp)(a b:Expr)(t:TE):Prop:=
  ∀ (pins:List (Addr×Obj)) (s:Shared) (σ:St) (H:Hp) (Q:VK),Inv X pins σ H s→t σ H Q→
    wpAny (model X.prog X.w) X.A (eval a X.env) (fun v s₁=>wpAny (model X.prog X.w) X.A (eval b X.env) (fun u s₂=>wpAny (model X.prog X.w) X.A (compareOp op v u) (EP X pins σ Q) X.xe s₂) X.xe s₁) X.xe s
theorem Bg (b:Expr){op:CmpOp}(h:op≠.In)(h2:op≠.NotIn):behindInMarks op b=false:=by
  have e1:(op == CmpOp.In)=false:=by cases op<;>first | rfl | exact absurd rfl h
  have e2:(op == CmpOp.NotIn)=false:=by cases op<;>first | rfl | exact absurd rfl h2
  cases b<;>simp[behindInMarks,e1,e2]
def tB (t:TE):TT:=fun σ H Q=>t σ H fun x H1=>∃ c,x=.bl c∧Q c H1
theorem Dr {op:CmpOp}{t:TE}(h:PC X op a b t)(h1:behindInMarks op b=false:=by first | exact Bg _ (by decide) (by decide) | rfl):PT X (.Compare a [op] [b] pos) (tB t):=by
  intro pins s σ H Q I hw
  refine wpAny_isTrue_Compare1 (thn (h pins s σ H _ I hw) fun v s1 h1=>thn h1 fun u s2 h2=>thn h2 fun c s3 ⟨x,H1,I1,r1,q1⟩=>?_) h1
  obtain ⟨d,rfl,q⟩:=q1
  cases r1
  exact wpAny_truthy_bool ⟨H1,I1,q⟩
theorem HZ {e:Expr}{t:TE}(h:PE X e t)(he:∀ whole,isTrue e X.env whole=(do let v ← whole;standAt e.pos;holding [v] (truthy v)):=by intro _;rfl):PT X e (tB t):=by
  intro pins s σ H Q I hw
  refine isTrue_plain (thn (h pins s σ H _ I hw) fun v s1 ⟨x,H1,I1,r1,q1⟩=>?_) (he _)
  obtain ⟨d,rfl,q⟩:=q1
  cases r1
  exact wpAny_truthy_bool ⟨H1,I1,q⟩
variable {tA tB':TT} {rest:List Expr}
def MQ (t u:TT):TT:=fun σ H Q=>t σ H fun c H1=>if c=true then u σ H1 Q else Q false H1
def tOr (t u:TT):TT:=fun σ H Q=>t σ H fun c H1=>if c=true then Q true H1 else u σ H1 Q
def Mo (t:TT):TT:=fun σ H Q=>t σ H fun c H1=>Q (!c) H1
theorem pw_and1 (ha:PT X a tA):PW X (.BoolOp .And [a] pos) tA:=by
  intro wh pins s σ H Q I h
  refine isTrue_and (thn (ha pins s σ H Q I h) fun c s1 e=>?_)
  cases c with
  | true=>exact isTrue_and_nil e
  | false=>exact e
theorem pw_or1 (ha:PT X a tA):PW X (.BoolOp .Or [a] pos) tA:=by
  intro wh pins s σ H Q I h
  refine isTrue_or (thn (ha pins s σ H Q I h) fun c s1 e=>?_)
  cases c with
  | false=>exact isTrue_or_nil e
  | true=>exact e
theorem pw_and (ha:PT X a tA)(hb:PW X (.BoolOp .And (b::rest) pos) tB'):PW X (.BoolOp .And (a::b::rest) pos) (MQ tA tB'):=by
  intro wh pins s σ H Q I h
  refine isTrue_and (thn (ha pins s σ H _ I h) fun c s1 ⟨H1,I1,q1⟩=>?_)
  cases c with
  | true=>exact hb wh pins s1 σ H1 Q I1 q1
  | false=>exact ⟨H1,I1,q1⟩
theorem pw_or (ha:PT X a tA)(hb:PW X (.BoolOp .Or (b::rest) pos) tB'):PW X (.BoolOp .Or (a::b::rest) pos) (tOr tA tB'):=by
  intro wh pins s σ H Q I h
  refine isTrue_or (thn (ha pins s σ H _ I h) fun c s1 ⟨H1,I1,q1⟩=>?_)
  cases c with
  | true=>exact ⟨H1,I1,q1⟩
  | false=>exact hb wh pins s1 σ H1 Q I1 q1
theorem Iv (ha:PT X a tA):PT X (.UnaryOp .Not a pos) (Mo tA):=by
  intro pins s σ H Q I h
  exact isTrue_not (ha pins s σ H (fun c H1=>Q (!c) H1) I h)
def Ln (ta tb:TE):TE:=fun σ H Q=>ta σ H fun x H1=>∃ c,x=.bl c∧if c=true then tb σ H1 Q else Q (.bl false) H1
def KD (ta:TE):TE:=fun σ H Q=>ta σ H fun x H1=>∃ c,x=.bl c∧Q (.bl (!c)) H1
theorem IT {op}{t:TE}(h:PE X a t):PE X (.BoolOp op [a] pos) t:=fun pins s σ H Q I hw=>BoolOp_one (h pins s σ H Q I hw)
theorem JG (ha:PE X a ta)(hb:PE X (.BoolOp .And (b::rest) pos) tb):PE X (.BoolOp .And (a::b::rest) pos) (Ln ta tb):=by
  intro pins s σ H Q I h
  refine BoolOp_and (thn (ha pins s σ H _ I h) fun v s1 ⟨x,H1,I1,r1,q1⟩=>?_)
  obtain ⟨c,rfl,q1⟩:=q1
  cases r1
  refine wpAny_truthy_bool ?_
  cases c with
  | true=>exact hb pins s1 σ H1 Q I1 q1
  | false=>exact ⟨.bl false,H1,I1,rfl,q1⟩
theorem J2 (ha:PE X a ta):PE X (.UnaryOp .Not a pos) (KD ta):=by
  intro pins s σ H Q I h
  refine UnaryOp_ (thn (ha pins s σ H _ I h) fun v s1 ⟨x,H1,I1,r1,q1⟩=>?_)
  obtain ⟨c,rfl,q1⟩:=q1
  cases r1
  exact not_of (wpAny_truthy_bool ⟨.bl (!c),H1,I1,rfl,q1⟩)
def tIf (t:TT)(ta tb:TE):TE:=fun σ H Q=>t σ H fun c H1=>if c=true then ta σ H1 Q else tb σ H1 Q
theorem BO {c:Expr}(hc:PT X c tA)(ha:PE X a ta)(hb:PE X b tb):PE X (.IfExp c a b pos) (tIf tA ta tb):=by
  intro pins s σ H Q I h
  refine wpAny_IfExp (thn (hc pins s σ H _ I h) fun d s1 ⟨H1,I1,q1⟩=>?_)
  cases d with
  | true=>exact ha pins s1 σ H1 Q I1 q1
  | false=>exact hb pins s1 σ H1 Q I1 q1
end
end L2
namespace L2
open PySem PySem.Spec PyProof.Rows
def SqL (K:PySem.W.Frag)(H:Hp)(a:Addr)(xs:List V):Prop:=
  Rd H a (.lst xs)∨
    ∃ (o:Obj) (its:Array Value) (n:Nat),K.lookup a=some o∧o.cls=.type "list" ∧ o.dict=none∧o.data=.seq its n∧its.size≤sizeLine∧Vals xs its.toList
def SqT (K:PySem.W.Frag)(H:Hp)(a:Addr)(xs:List V):Prop:=
  Rd H a (.tup xs)∨
    ∃ (o:Obj) (its:Array Value) (n:Nat),K.lookup a=some o∧o.cls=.type "tuple" ∧ o.dict=none∧o.data=.seq its n∧its.size≤sizeLine∧Vals xs its.toList
def L5:Value→Option V
  | .none=>some .non
  | .bool b=>some (.bl b)
  | .int i _=>some (.int i)
  | .str x _=>some (.str x)
  | .bytes b _=>some (.byt b)
  | .float b _=>some (.flt b)
  | .ref a=>some (.ref a)
  | .type n=>some (.ty n)
  | _=>none
theorem RelV.abs {x:V}{u:Value}(r:RelV x u):L5 u=some x:=by
  cases x with
  | non=>cases r;rfl
  | bl _=>cases r;rfl
  | int _=>obtain ⟨t,rfl⟩:=r;rfl
  | str _=>obtain ⟨t,rfl⟩:=r;rfl
  | byt _=>obtain ⟨t,rfl⟩:=r;rfl
  | flt _=>obtain ⟨t,rfl⟩:=r;rfl
  | ref _=>cases r;rfl
  | ty _=>cases r;rfl
theorem RelV.inj {x y:V}{u:Value}(r:RelV x u)(q:RelV y u):x=y:=Option.some.inj (r.abs.symm.trans q.abs)
theorem Vals.inj:∀ {xs ys:List V} {us:List Value},Vals xs us→Vals ys us→xs=ys
  | _,_,_,.nil,.nil=>rfl
  | _,_,_,.cons r t,.cons r' t'=>by rw[r.inj r',Vals.inj t t']
section
variable {X:Cx} {pins:List (Addr×Obj)} {σ:St} {H:Hp} {s:Shared} {a:Addr} {xs ys:List V}
theorem SqL.of {K:PySem.W.Frag}(h:H a=some (.lst xs)):SqL K H a xs:=.inl (.inl h)
theorem SqT.of {K:PySem.W.Frag}(h:H a=some (.tup xs)):SqT K H a xs:=.inl (.inl h)
theorem Inv.list (I:Inv X pins σ H s)(h:SqL X.K H a xs):∃ its:List Value,Vals xs its∧PlainL s.heap a its.toArray∧xs.length≤sizeLine:=by
  rcases h with h | ⟨o,its,n,hk,hc,hd,hs,hz,r⟩
  · obtain ⟨z,its,n,r,e⟩:=h.ok I.hok
    exact ⟨its,r,⟨_,n,e,rfl,rfl,rfl⟩,z⟩
  · refine ⟨its.toList,r,⟨o,n,I.kIn a o hk,hc,hd,by simpa using hs⟩,?_⟩
    have e:=r.length
    simp only[Array.length_toList] at e
    omega
theorem Inv.tuple (I:Inv X pins σ H s)(h:SqT X.K H a xs):∃ its:List Value,Vals xs its∧IsTup s.heap a its.toArray∧xs.length≤sizeLine:=by
  rcases h with h | ⟨o,its,n,hk,hc,hdn,hs,hz,r⟩
  · obtain ⟨z,its,r,p⟩:=h.ok I.hok
    exact ⟨its,r,p.tup,z⟩
  · refine ⟨its.toList,r,⟨o,I.kIn a o hk,hc,n,by simpa using hs⟩,?_⟩
    have e:=r.length
    simp only[Array.length_toList] at e
    omega
theorem Inv.uQ (I:Inv X pins σ H s)(h:SqL X.K H a xs)(h':SqL X.K H a ys):xs=ys:=by
  obtain ⟨its,r,⟨o,n,e,_,_,d⟩,_⟩:=I.list h
  obtain ⟨its',r',⟨o',n',e',_,_,d'⟩,_⟩:=I.list h'
  rw[e] at e';cases e'
  rw[d] at d'
  injection d' with d1 _
  have:its=its':=by simpa using congrArg Array.toList d1
  subst this
  exact r.inj r'
theorem Inv.rq (I:Inv X pins σ H s)(h:SqT X.K H a xs)(h':SqT X.K H a ys):xs=ys:=by
  obtain ⟨its,r,⟨o,e,_,n,d⟩,_⟩:=I.tuple h
  obtain ⟨its',r',⟨o',e',_,n',d'⟩,_⟩:=I.tuple h'
  rw[e] at e';cases e'
  rw[d] at d'
  injection d' with d1 _
  have:its=its':=by simpa using congrArg Array.toList d1
  subst this
  exact r.inj r'
end
abbrev Cx.ml (X:Cx)(E:Value→Shared→Prop):Cx:={ X with xe:=E }
abbrev Cx.nox (X:Cx):Cx:=X.ml fun _ _=>False
theorem Cx.Ok.ml {X:Cx}(ok:X.Ok)(E:Value→Shared→Prop):(X.ml E).Ok:=
  ⟨ok.mod,ok.kind,ok.glob,ok.blt,ok.above,ok.inj,ok.has,ok.cab,ok.hd,ok.frames,ok.stk,ok.exf,ok.bs,ok.bsz,ok.Am,ok.Ad,ok.mx,ok.frf⟩
theorem Cx.Ok.fE {X:Cx}{E:Value→Shared→Prop}(ok:(X.ml E).Ok):X.Ok:=
  ⟨ok.mod,ok.kind,ok.glob,ok.blt,ok.above,ok.inj,ok.has,ok.cab,ok.hd,ok.frames,ok.stk,ok.exf,ok.bs,ok.bsz,ok.Am,ok.Ad,ok.mx,ok.frf⟩
section
variable {X:Cx} {pins:List (Addr×Obj)} {σ:St} {H:Hp} {s:Shared} {E:Value→Shared→Prop}
theorem Inv.ml (I:Inv X pins σ H s)(E:Value→Shared→Prop):Inv (X.ml E) pins σ H s:=⟨I.ok.ml E,I.os,I.bare,I.base,I.loc,I.cell,I.free,I.gJ,I.pin,I.hok,I.len⟩
theorem Inv.fE (I:Inv (X.ml E) pins σ H s):Inv X pins σ H s:=⟨I.ok.fE,I.os,I.bare,I.base,I.loc,I.cell,I.free,I.gJ,I.pin,I.hok,I.len⟩
theorem SP.fE {D:Ends}{f:Flow}{s':Shared}(h:SP (X.ml E) pins D f s'):SP X pins D f s':=by
  cases f with
  | next=>obtain ⟨σ',H',I,q⟩:=h;exact ⟨σ',H',I.fE,q⟩
  | brk=>obtain ⟨σ',H',I,q⟩:=h;exact ⟨σ',H',I.fE,q⟩
  | cont=>obtain ⟨σ',H',I,q⟩:=h;exact ⟨σ',H',I.fE,q⟩
  | ret u=>obtain ⟨v,σ',H',I,r,q⟩:=h;exact ⟨v,σ',H',I.fE,r,q⟩
theorem PE.nox {e:Expr}{t:TE}(h:PE X.nox e t):PE X e t:=fun pins s σ H Q I hw=>
  wpAny_mono (h pins s σ H Q (I.ml _) hw) (fun _ _ ⟨v,H',I',r,q⟩=>⟨v,H',I'.fE,r,q⟩) fun _ _ z=>False.elim z
theorem PT.nox {e:Expr}{t:TT}(h:PT X.nox e t):PT X e t:=fun pins s σ H Q I hw=>
  wpAny_mono (h pins s σ H Q (I.ml _) hw) (fun _ _ ⟨H',I',q⟩=>⟨H',I'.fE,q⟩) fun _ _ z=>False.elim z
theorem PSs.nox {st:List Stmt}{t:TS}(h:PSs X.nox st t):PSs X st t:=fun pins s σ H D I hw=>
  wpAny_mono (h pins s σ H D (I.ml _) hw) (fun _ _ q=>q.fE) fun _ _ z=>False.elim z
end
section
variable {X:Cx} {st:Stmt} {rest:List Stmt} {t u:TS} {e:Expr} {te:TE} {pos:Pos}
def Lk:TS:=fun D σ H=>D.nx σ H
def Ma (t u:TS):TS:=fun D σ H=>t { D with nx:=u D } σ H
theorem Fe:PSs X [] Lk:=fun _ _ σ H _ I h=>wpAny_execs_nil ⟨σ,H,I,h⟩
theorem Dy (h1:PS X st t)(h2:PSs X rest u):PSs X (st::rest) (Ma t u):=by
  intro pins s σ H D I h
  refine wpAny_execs_cons (thn (h1 pins s σ H { D with nx:=u D } I h) fun f s1 q=>?_)
  cases f with
  | next=>
    obtain ⟨σ',H',I',q⟩:=q
    exact h2 pins s1 σ' H' D I' q
  | ret v=>exact q
  | brk=>exact q
  | cont=>exact q
theorem FO (h1:PS X st t):PSs X [st] t:=by
  intro pins s σ H D I h
  refine wpAny_execs_cons (thn (h1 pins s σ H D I h) fun f s1 q=>?_)
  cases f with
  | next=>exact wpAny_execs_nil q
  | ret v=>exact q
  | brk=>exact q
  | cont=>exact q
theorem Inv.quiet {pins:List (Addr×Obj)}{σ:St}{H:Hp}{s:Shared}(I:Inv X pins σ H s):interactive X.env=false:=by simp[interactive,I.ok.kind]
def La (te:TE):TS:=fun D σ H=>te σ H fun _ H1=>D.nx σ H1
theorem E6 (he:PE X e te)(hs:swapsWith e none pos.line X.env=pure false:=by rfl):PS X (.Expr e pos) (La te):=by
  intro pins s σ H D I h
  exact wpAny_Expr_any (thn (he pins s σ H _ I h) fun v s1 ⟨x,H1,I1,r1,q1⟩=>⟨σ,H1,I1,q1⟩) I.quiet hs
def Mg (te:TE):TS:=fun D σ H=>te σ H D.rt
theorem Hx (he:PE X e te):PS X (.Return (some e) pos) (Mg te):=by
  intro pins s σ H D I h
  exact wpAny_Return_some (thn (he pins s σ H _ I h) fun v s1 ⟨x,H1,I1,r1,q1⟩=>⟨x,σ,H1,I1,r1,q1⟩)
def L9 (c:TT)(t u:TS):TS:=fun D σ H=>c σ H fun b H1=>if b=true then t D σ H1 else u D σ H1
theorem LM {c:Expr}{a b:List Stmt}{tc:TT}(hc:PT X c tc)(ha:PSs X a t)(hb:PSs X b u):PS X (.If c a b pos) (L9 tc t u):=by
  intro pins s σ H D I h
  refine wpAny_If (thn (hc pins s σ H _ I h) fun d s1 ⟨H1,I1,q1⟩=>?_)
  cases d with
  | true=>exact ha pins s1 σ H1 D I1 q1
  | false=>exact hb pins s1 σ H1 D I1 q1
end
abbrev TG:=V→St→Hp→(St→Hp→Prop)→Prop
abbrev TGs:=List V→St→Hp→(St→Hp→Prop)→Prop
def PG (X:Cx)(target:Expr)(t:TG):Prop:=
  ∀ (pins:List (Addr×Obj)) (s:Shared) (σ:St) (H:Hp) (v:V) (u:Value) (Q:St→Hp→Prop),Inv X pins σ H s→RelV v u→t v σ H Q→
    wpAny (model X.prog X.w) X.A (assign target X.env u) (fun _ s'=>∃ σ' H',Inv X pins σ' H' s'∧Q σ' H') X.xe s
def PGs (X:Cx)(ts:List Expr)(t:TGs):Prop:=
  ∀ (pins:List (Addr×Obj)) (s:Shared) (σ:St) (H:Hp) (vs:List V) (us:List Value) (Q:St→Hp→Prop),Inv X pins σ H s→Vals vs us→t vs σ H Q→
    wpAny (model X.prog X.w) X.A (assignInOrder ((assignEach ts X.env).map (·.2)) us) (fun _ s'=>∃ σ' H',Inv X pins σ' H' s'∧Q σ' H') X.xe s
abbrev JD:=V→V→V→Hp→(Hp→Prop)→Prop
def Ls (X:Cx)(t:JD):Prop:=
  ∀ (pins:List (Addr×Obj)) (s:Shared) (σ:St) (H:Hp) (o i v:V) (ov iv u:Value) (Q:Hp→Prop),Inv X pins σ H s→RelV o ov→RelV i iv→RelV v u→t o i v H Q→
    wpAny (model X.prog X.w) X.A (setItem ov iv u) (fun _ s'=>∃ H',Inv X pins σ H' s'∧Q H') X.xe s
abbrev TIp:=V→V→Hp→VK→Prop
def PIp (X:Cx)(op:Operator)(t:TIp):Prop:=
  ∀ (pins:List (Addr×Obj)) (s:Shared) (σ:St) (H:Hp) (x y:V) (v u:Value) (Q:VK),Inv X pins σ H s→RelV x v→RelV y u→t x y H Q→
    wpAny (model X.prog X.w) X.A (inplaceOp op v u) (EP X pins σ Q) X.xe s
section
variable {X:Cx} {pos:Pos}
def rf (i:Nat):TG:=fun v σ H Q=>Q (σ.set i (some v)) H
theorem iN {i:Nat}{x:Str}(hN:X.N.Nodup)(hi:X.N[i]? = some x)(hx:Loc X.env.scope x)(hf:X.fn x=true∨X.env.scope.names.lookup x=some .local:=by first | exact .inl rfl | exact .inr rfl | assumption):PG X (.Name x pos) (rf i):=by
  intro pins s σ H v u Q I r h
  exact wpAny_assign_Name (gX I hN hi hx r (fun s' I'=>⟨_,H,I',h⟩) hf)
def Mf:TGs:=fun vs σ H Q=>vs=[]∧Q σ H
def Kl (t:TG)(u:TGs):TGs:=fun vs σ H Q=>∃ v r,vs=v::r∧t v σ H fun σ' H'=>u r σ' H' Q
theorem zV:PGs X [] Mf:=by
  intro pins s σ H vs us Q I r h
  obtain ⟨e,h⟩:=h
  subst e
  cases r
  exact assignInOrder_nil ⟨σ,H,I,h⟩
theorem u3 {e:Expr}{es:List Expr}{t:TG}{u:TGs}(h1:PG X e t)(h2:PGs X es u)
    (hs:(assignEach (e::es) X.env).map (·.2)=assign e X.env::(assignEach es X.env).map (·.2):=by rfl):PGs X (e::es) (Kl t u):=by
  intro pins s σ H vs us Q I r h
  obtain ⟨v,vr,e1,h⟩:=h
  subst e1
  cases r with
  | cons r rr=>
    rw[hs]
    refine assignInOrder_cons (thn (h1 pins s σ H _ _ _ I r h) fun _ s1 ⟨σ1,H1,I1,q1⟩=>?_)
    exact h2 pins s1 σ1 H1 _ _ Q I1 rr q1
def MV (K:PySem.W.Frag)(n:Nat)(t:TGs):TG:=fun v σ H Q=>∃ a xs,v=.ref a∧SqT K H a xs∧xs.length=n∧t xs σ H Q
theorem Bn {es:List Expr}{k:Nat}{t:TGs}{n:Nat}(hc:X.calm=true)(h:PGs X es t)
    (hn:(assignEach es X.env).length=n:=by rfl) (hst:(assignEach es X.env).findIdx? (·.1)=none:=by rfl):PG X (.Tuple es k pos) (MV X.K n t):=by
  intro pins s σ H v u Q I r hw
  obtain ⟨a,xs,e1,hq,hl,hw⟩:=hw
  subst e1
  cases r
  obtain ⟨its,rv,ht,hz⟩:=I.tuple hq
  refine assign_Tuple_tuple (I.ok.hd hc) ht (by simp[hn,← hl,rv.length]) hst fun h' hx=>?_
  have I1:Inv X pins σ H { s with heap:=h' }:=I.kept (t':=s.toks) fun b o e=>hx b o (Nat.ne_of_lt (Heap.lt_size e)) e
  exact h pins _ σ H xs _ Q I1 (by simpa using rv) hw
def MS (to ti:TE)(t:JD):TG:=fun v σ H Q=>to σ H fun o H1=>ti σ H1 fun i H2=>t o i v H2 fun H3=>Q σ H3
theorem Jt {o i:Expr}{to ti:TE}{t:JD}(ho:PE X o to)(hi:PE X i ti)(hs:Ls X t)
    (ha:∀ v,assign (.Subscript o i pos) X.env v=(do
      let ov ← holding [v] (eval o X.env)
      let iv ← holding [v,ov] (eval i X.env)
      standAt pos
      holding [v,ov,iv] (setItem ov iv v)
      release [v,ov,iv] []):=by intro _;rfl):PG X (.Subscript o i pos) (MS to ti t):=by
  intro pins s σ H v u Q I r h
  rw[ha]
  refine wpAny_bind (wpAny_holding (thn (ho pins s σ H _ I h) fun ov s1 ⟨x,H1,I1,r1,q1⟩=>?_))
  refine wpAny_bind (wpAny_holding (thn (hi pins s1 σ H1 _ I1 q1) fun iv s2 ⟨y,H2,I2,r2,q2⟩=>?_))
  refine wpAny_bind (wpAny_standAt (wpAny_bind (wpAny_holding (thn (hs pins s2 σ H2 x y v ov iv u _ I2 r1 r2 r q2) fun _ s3 ⟨H3,I3,q3⟩=>?_))))
  exact wpAny_release ⟨σ,H3,I3,q3⟩
def JE (te:TE)(g:TG):TS:=fun D σ H=>te σ H fun x H1=>g x σ H1 D.nx
theorem Jj {tg e:Expr}{te:TE}{g:TG}(he:PE X e te)(hg:PG X tg g)(hs:swapsWithSole [tg] e pos.line X.env=pure false:=by rfl)(hw:swappedStores [tg] e X.env=pure none:=by rfl)
    (h1:(assignEach [tg] X.env).map (·.2)=[assign tg X.env]:=by rfl):PS X (.Assign [tg] e pos) (JE te g):=by
  intro pins s σ H D I h
  refine wpAny_Assign_stores (thn (he pins s σ H _ I h) fun v s1 ⟨x,H1,I1,r1,q1⟩=>?_) hs hw
  rw[h1]
  exact thn (hg pins s1 σ H1 x v _ I1 r1 q1) fun _ s2 q=>q
theorem Hg {i:Nat}{x:Str}{e:Expr}{te:TE}{pos':Pos}(hN:X.N.Nodup)(hi:X.N[i]? = some x)(hx:Loc X.env.scope x)(he:PE X e te)(hs:swapsWith e (some (.Name x pos')) pos.line X.env=pure false:=by rfl)(hf:X.fn x=true∨X.env.scope.names.lookup x=some .local:=by first | exact .inl rfl | exact .inr rfl | assumption) :
    PS X (.Assign [.Name x pos'] e pos) (JE te (rf i)):=by
  intro pins s σ H D I h
  refine wpAny_Assign_Name (thn (he pins s σ H _ I h) fun v s1 ⟨y,H1,I1,r1,q1⟩=>?_) hs
  exact gX I1 hN hi hx r1 (fun s2 I2=>⟨_,H1,I2,q1⟩) hf
def Mi (i j:Nat)(ta:TA):TS:=fun D σ H=>ta σ H fun vs H1=>∃ v w,vs=[v,w]∧D.nx ((σ.set i (some v)).set j (some w)) H1
theorem IH {i j:Nat}{x y:Str}{a b:Expr}{ta:TA}{px py pt:Pos}{kt k2 pt2}(hc:X.calm=true)(hN:X.N.Nodup)(hi:X.N[i]? = some x)(hj:X.N[j]? = some y)(hij:i≠j)
    (hx:X.env.scope.names.lookup x=some .local) (hy:X.env.scope.names.lookup y=some .local) (ha:PA X [a,b] ta)
    (hw:swappedStores [.Tuple [.Name x px,.Name y py] kt pt] (.Tuple [a,b] k2 pt2) X.env=pure (some [x,y]))
    (hs:swapsWithSole [.Tuple [.Name x px,.Name y py] kt pt] (.Tuple [a,b] k2 pt2) pos.line X.env=pure false:=by rfl) :
    PS X (.Assign [.Tuple [.Name x px,.Name y py] kt pt] (.Tuple [a,b] k2 pt2) pos) (Mi i j ta):=by
  intro pins s σ H D I h
  rw[exec_Assign_arm]
  refine wpAny_bind (wpAny_standAt ?_)
  rw[hs]
  refine wpAny_bind (wpAny_pure ?_)
  rw[if_neg (by decide)]
  refine wpAny_bind (Tuple_ (thn (ha _ pins s σ H _ I h) fun us s1 ⟨vs,H1,I1,r1,q1⟩=>?_))
  obtain ⟨v,w,e1,q1⟩:=q1
  subst e1
  obtain ⟨u1,u2,rfl,rv,rw'⟩:∃ u1 u2,us=[u1,u2]∧RelV v u1∧RelV w u2:=by
    cases r1 with
    | cons p q=>
      cases q with
      | cons p' q'=>
        cases q'
        exact ⟨_,_,rfl,p,p'⟩
  refine wpAny_newObj_type ?_ (by show 2≤sizeLine;decide)
  have I2:Inv X pins σ H1 { s1 with heap:=s1.heap.push { cls:=.type "tuple", data:=.seq [u1,u2].toArray } }:=I1.kept (t':=s1.toks) fun b o e=>Heap.get?_push_of_some _ e
  rw[hw]
  refine wpAny_bind (wpAny_pure ?_)
  show wpAny (model X.prog X.w) X.A (do rule "assign.swapped-stores";let items ← unpackItems (.ref s1.heap.objs.size) 2 none;assignInOrder [fun v=>bindName X.env y v,fun v=>bindName X.env x v] items.reverse;pure Flow.next) _ _ _
  refine wpAny_bind (wpAny_rule (wpAny_bind (unpackItems_tuple (items:=#[u1,u2]) (I.ok.hd hc) (IsTup.new s1.heap _) fun h' hx'=>?_)))
  have I3:=I2.kept (h':=h') (t':=s1.toks) fun b o e=>hx' b o (Nat.ne_of_lt (Heap.lt_size e)) e
  show wpAny _ _ (assignInOrder [fun v=>bindName X.env y v,fun v=>bindName X.env x v] [u2,u1] >>= fun _=>pure Flow.next) _ _ _
  refine wpAny_bind (assignInOrder_cons (wpAny_bindName (gX I3 hN hj (.inl hy) rw' (fun s2 I4=>?_) (.inr hy))))
  refine assignInOrder_cons (wpAny_bindName (gX I4 hN hi (.inl hx) rv (fun s3 I5=>assignInOrder_nil (wpAny_pure ?_)) (.inr hx)))
  rw[List.set_comm _ _ (Ne.symm hij)] at I5
  exact ⟨_,H1,I5,q1⟩
def Lr (i:Nat)(te:TE)(ti:TIp):TS:=fun D σ H=>∃ x,σ[i]? = some (some x)∧te σ H fun y H1=>ti x y H1 fun z H2=>D.nx (σ.set i (some z)) H2
theorem Jo {i:Nat}{x:Str}{e:Expr}{te:TE}{op:Operator}{ti:TIp}{pos':Pos}(hN:X.N.Nodup)(hi:X.N[i]? = some x)(hx:Loc X.env.scope x)(he:PE X e te)(ho:PIp X op ti)(hf:X.fn x=true∨X.env.scope.names.lookup x=some .local:=by first | exact .inl rfl | exact .inr rfl | assumption) :
    PS X (.AugAssign (.Name x pos') op e pos) (Lr i te ti):=by
  intro pins s σ H D I h
  obtain ⟨v,e1,h⟩:=h
  obtain ⟨m,hn,hl⟩:=I.loc
  have vis:Vis X.env.scope x:=by rcases hx with k | k;exact .inl k;exact .inr (.inl k)
  obtain ⟨u,r,l⟩:=hl i x v hi e1 vis
  refine wpAny_AugAssign_Name ?_
  have go:wpAny (model X.prog X.w) X.A (eval e X.env) (fun w s₂=>wpAny (model X.prog X.w) X.A (inplaceOp op u w) (fun r s₃=>wpAny (model X.prog X.w) X.A (storeName X.env x r) (fun _=>SP X pins D .next) X.xe s₃) X.xe s₂) X.xe s:=by
    refine thn (he pins s σ H _ I h) fun w s1 ⟨y,H1,I1,r1,q1⟩=>?_
    refine thn (ho pins s1 σ H1 v y u w _ I1 r r1 q1) fun z s2 ⟨zv,H2,I2,r2,q2⟩=>?_
    exact gX I2 hN hi hx r2 (fun s3 I3=>⟨_,H2,I3,q2⟩) hf
  rcases l with ⟨hk,hm⟩ | ⟨hk,c,hc,hcell⟩
  · exact wpAny_loadName_local I.ok.kind hk hn hm go
  · rcases hk with hk | hk
    · exact wpAny_loadName_cell I.ok.kind hk hc hcell go
    · rcases hx with k | k
      · have:X.env.scope.names.lookup x=some .free:=hk
        rw[k] at this;cases this
      · have:X.env.scope.names.lookup x=some .free:=hk
        rw[k] at this;cases this
def ipI (f:Int→Int→Int):TIp:=fun x y H Q=>∃ i j,x=.int i∧y=.int j∧Q (.int (f i j)) H
theorem Hm:PIp X .Add (ipI fun i j=>i+j):=by
  intro pins s σ H x y v u Q I r1 r2 h
  obtain ⟨i,j,e1,e2,q⟩:=h
  subst e1;subst e2
  obtain ⟨t,rfl⟩:=r1
  obtain ⟨t',rfl⟩:=r2
  exact iadd_int ⟨.int _,H,I.tok _,⟨_,rfl⟩,q⟩
end
section
variable {X:Cx} {pos:Pos}
def HV (c:TT)(tb:TS):TS:=fun D σ H=>∃ W:Nat→St→Hp→Prop,(∃ m,W m σ H)∧∀ m σ H,W m σ H→
  c σ H fun b H1=>if b=true then ∃ N:St→Hp→Prop,(∀ σ' H',N σ' H'→∃ m',m' < m∧W m' σ' H')∧tb { D with nx:=N,ct:=N,bk:=D.nx } σ H1 else D.nx σ H1
theorem DW {c:Expr}{body:List Stmt}{tc:TT}{tb:TS}(hp:PassesOwn (model X.prog X.w) X.A X.env X.xe)(hc:PT X c tc)(hb:PSs X body tb):PS X (.While c body [] pos) (HV tc tb):=by
  intro pins s σ H D I h
  obtain ⟨W,⟨m0,w0⟩,turn⟩:=h
  refine wpAny_While (codeAny_whileLoop (fun n s'=>∃ σ' H',Inv X pins σ' H' s'∧W n σ' H') ?_ m0 ⟨σ,H,I,w0⟩)
  rintro n s1 ⟨σ1,H1,I1,w1⟩
  refine wpAny_passesOwn hp (thn (hc pins s1 σ1 H1 _ I1 (turn n σ1 H1 w1)) fun b s2 ⟨H2,I2,q2⟩=>?_)
  cases b with
  | true=>
    obtain ⟨N,hN,q2⟩:=q2
    rw[if_pos rfl]
    refine wpAny_passesOwn hp (thn (hb pins s2 σ1 H2 _ I2 q2) fun f s3 q3=>?_)
    cases f with
    | next=>
      obtain ⟨σ3,H3,I3,n3⟩:=q3
      obtain ⟨m',hm,w3⟩:=hN σ3 H3 n3
      exact ⟨m',hm,σ3,H3,I3,w3⟩
    | cont=>
      obtain ⟨σ3,H3,I3,n3⟩:=q3
      obtain ⟨m',hm,w3⟩:=hN σ3 H3 n3
      exact ⟨m',hm,σ3,H3,I3,w3⟩
    | brk=>exact q3
    | ret v=>exact q3
  | false=>
    rw[if_neg Bool.false_ne_true]
    exact wpAny_execs_nil ⟨σ1,H2,I2,q2⟩
end
structure It where
  go:Nat→Hp→Prop
  yld:Nat→Hp→V→Hp→Prop
  stop:Nat→Hp→Prop
def oV (X:Cx)(pins:List (Addr×Obj))(H:Hp)(b:Addr):Prop:=
  H b=none∧b≠X.env.locals∧b ∉ X.fs∧(b∈X.ex∨X.s₀.heap.objs.size≤b)∧(∀ x c,X.env.cells.lookup x=some c→c≠b)∧∀ p∈X.pn++pins,p.1≠b
theorem Inv.AR {X:Cx}{pins:List (Addr×Obj)}{σ:St}{H H':Hp}{s:Shared}{b:Addr}(I:Inv X pins σ H s)(hb:s.heap.objs.size≤b)(hn:H' b=none):oV X pins H' b:=by
  refine ⟨hn,Nat.ne_of_gt (Nat.lt_of_lt_of_le I.lt hb),I.MI hb,.inr (Nat.le_trans I.sz hb),fun x c e z=>?_,fun p hp z=>?_⟩
  · obtain ⟨v,q⟩:=I.cell x c e
    exact absurd (Nat.lt_of_lt_of_le q.lt (by rw[z];exact hb)) (Nat.lt_irrefl _)
  · exact absurd (Nat.lt_of_lt_of_le (Heap.lt_size (I.pin p hp).1) (by rw[z];exact hb)) (Nat.lt_irrefl _)
structure Turn (P:Program) (w:World) (K:PySem.W.Frag) (tg:Expr) (J:It) (fp:List Addr) (it:Addr) (tn:Nat→Heap→Prop):Prop where
  mem:it∈fp
  obj:∀ i h,tn i h→∀ b∈fp,∃ o,h.get? b=some o∧∀ v,o.data≠.cell v
  keep:∀ i h h',tn i h→(∀ b∈fp,∀ o,h.get? b=some o→h'.get? b=some o)→tn i h'
  item:∀ (X:Cx),X.prog=P→X.w=w→X.K=K→X.calm=true→∀ (i:Nat) (pins:List (Addr×Obj)) (s:Shared) (σ:St) (H:Hp) (E:Value→Shared→Prop),Inv X pins σ H s→(∀ b∈fp,oV X pins H b)→tn i s.heap→J.go i H→
    wpAny (model P w) X.A (pyNext (.ref it)) (fun r s1=>∃ u,r=some u∧
      wpAny (model P w) X.A (letOwnedTupleGo tg (.ref it) u) (fun _ s2=>∃ x H',Inv X pins σ H' s2∧RelV x u∧J.yld i H x H'∧tn (i+1) s2.heap∧∀ b∈fp,H' b=none) E s1) E s
  done:∀ (X:Cx),X.prog=P→X.w=w→X.K=K→X.calm=true→∀ (i:Nat) (pins:List (Addr×Obj)) (s:Shared) (σ:St) (H:Hp) (E:Value→Shared→Prop),Inv X pins σ H s→(∀ b∈fp,oV X pins H b)→tn i s.heap→J.stop i H→
    wpAny (model P w) X.A (pyNext (.ref it)) (fun r s1=>r=none∧Inv X pins σ H s1) E s
  self:∀ (A:Around) (i:Nat) (s:Shared) (Q:Value→Shared→Prop) (E:Value→Shared→Prop),tn i s.heap→Q (.ref it) s→wpAny (model P w) A (pyIter (.ref it)) Q E s
abbrev TI:=St→Hp→(It→Hp→Prop)→Prop
def PIE (X:Cx)(pins:List (Addr×Obj))(σ:St)(tg:Expr)(R:It→Hp→Prop)(itv:Value)(s2:Shared):Prop:=
  ∃ (it:Addr) (fp:List Addr) (tn:Nat→Heap→Prop) (J:It) (H':Hp),itv=.ref it∧Inv X pins σ H' s2∧Turn X.prog X.w X.K tg J fp it tn∧tn 0 s2.heap∧(∀ b∈fp,oV X pins H' b)∧R J H'
def PI (X:Cx)(tg iter:Expr)(wi:TI):Prop:=
  ∀ (pins:List (Addr×Obj)) (s:Shared) (σ:St) (H:Hp) (R:It→Hp→Prop),Inv X pins σ H s→wi σ H R→
    wpAny (model X.prog X.w) X.A (eval iter X.env) (fun v s1=>wpAny (model X.prog X.w) X.A (pyIter v) (PIE X pins σ tg R) X.xe s1) X.xe s
theorem DD {M:Model}{A:Around}{E:Value→Shared→Prop}{s:Shared}{tg:Expr}{it:Addr}{u:Value}{o:Obj}{n:String}{vs:Array Value}{Q:Unit→Shared→Prop}(ho:s.heap.get? it=some o)(hc:o.cls=.type n)(hd:o.data=.fields vs)
    (hn:["enumerate", "zip", "dict_itemiterator", "dict_reverseitemiterator", "odict_iterator", "itertools.zip_longest", "itertools.pairwise"].contains n=false) (hQ:Q () s):wpAny M A (letOwnedTupleGo tg (.ref it) u) Q E s:=by
  unfold letOwnedTupleGo
  cases tg<;>first
    | exact wpAny_pure hQ
    | (cases u<;>first
        | exact wpAny_pure hQ
        | (refine wpAny_bind (wpAny_load ho ?_)
           rw[hc,hd]
           show wpAny M A (if (["enumerate", "zip", "dict_itemiterator", "dict_reverseitemiterator", "odict_iterator", "itertools.zip_longest", "itertools.pairwise"].contains n&&vs[0]? == some (rawInt _))=true then _ else _) Q E s
           rw[if_neg (by intro h;rw[hn,Bool.false_and] at h;cases h)]
           exact wpAny_pure hQ))
def Itl (K:PySem.W.Frag)(a:Addr):It:=
  ⟨fun i H=>∃ xs x,SqL K H a xs∧xs[i]? = some x,fun i H x H'=>H'=H∧∀ xs,SqL K H a xs→xs[i]? = some x,fun i H=>∃ xs,SqL K H a xs∧xs.length≤i⟩
def Itt (K:PySem.W.Frag)(a:Addr):It:=
  ⟨fun i H=>∃ xs x,SqT K H a xs∧xs[i]? = some x,fun i H x H'=>H'=H∧∀ xs,SqT K H a xs→xs[i]? = some x,fun i H=>∃ xs,SqT K H a xs∧xs.length≤i⟩
def Itr (lo:Int)(n:Nat):It:=⟨fun i _=>i < n,fun i H x H'=>H'=H∧x=.int (lo+i),fun i _=>n≤i⟩
theorem qQ {P:Program}{w:World}{K:PySem.W.Frag}{tg:Expr}(a it:Addr):Turn P w K tg (Itl K a) [it] it (fun i h=>h.IsListIter it a i) where
  mem:=by simp
  obj:=fun i h st b hb=>by
    have e:b=it:=by simpa using hb
    subst e
    obtain ⟨o,e,c,d⟩:=st
    exact ⟨o,e,fun v z=>by rw[d] at z;cases z⟩
  keep:=fun i h h' st k=>st.at fun o e=>k it (by simp) o e
  item:=by
    intro X hP hw hK hc i pins s σ H E I hf st hg
    subst hP hw hK
    obtain ⟨xs,x,hq,hx⟩:=hg
    obtain ⟨its,rv,p,hz⟩:=I.list hq
    obtain ⟨u,hu,ru⟩:=rv.get hx
    obtain ⟨f0,f1,f2,f3,f4,f5⟩:=hf it (by simp)
    refine wpAny_pyNext_list_item st p.isList (x:=u) (by simpa using hu) fun h' st' sb=>?_
    have I1:Inv X pins σ H { s with heap:=h' }:=I.turned (t':=s.toks) (fun b o hb e=>(sb.2 b hb).trans e) f0 f1 f3 f4 f5
    obtain ⟨o,e,c,d⟩:=id st'
    exact ⟨u,rfl,DD (s:={ s with heap:=h' }) e c d (by decide) ⟨x,H,I1,ru,⟨rfl,fun ys hy=>by rw[I.uQ hy hq];exact hx⟩,st',fun b hb=>(hf b hb).1⟩⟩
  done:=by
    intro X hP hw hK hc i pins s σ H E I hf st hg
    subst hP hw hK
    obtain ⟨xs,hq,hx⟩:=hg
    obtain ⟨its,rv,p,hz⟩:=I.list hq
    obtain ⟨f0,f1,f2,f3,f4,f5⟩:=hf it (by simp)
    have hl:=rv.length
    exact wpAny_pyNext_list_end (I.ok.hd hc) st p.isList (by simp;omega) fun h' eb=>⟨rfl,I.turned (t':=s.toks) (fun b o hb e=>eb b o hb e) f0 f1 f3 f4 f5⟩
  self:=fun _ _ _ _ _ st h=>wpAny_pyIter_listiter st h
theorem wM {P:Program}{w:World}{K:PySem.W.Frag}{tg:Expr}(a it:Addr):Turn P w K tg (Itt K a) [it] it (fun i h=>h.IsTupleIter it a i) where
  mem:=by simp
  obj:=fun i h st b hb=>by
    have e:b=it:=by simpa using hb
    subst e
    obtain ⟨o,e,c,d⟩:=st
    exact ⟨o,e,fun v z=>by rw[d] at z;cases z⟩
  keep:=fun i h h' st k=>st.at fun o e=>k it (by simp) o e
  item:=by
    intro X hP hw hK hc i pins s σ H E I hf st hg
    subst hP hw hK
    obtain ⟨xs,x,hq,hx⟩:=hg
    obtain ⟨its,rv,p,hz⟩:=I.tuple hq
    obtain ⟨u,hu,ru⟩:=rv.get hx
    obtain ⟨f0,f1,f2,f3,f4,f5⟩:=hf it (by simp)
    refine wpAny_pyNext_tuple_item st (show s.heap.IsTuple a its.toArray from p) (x:=u) (by simpa using hu) fun h' st' sb=>?_
    have I1:Inv X pins σ H { s with heap:=h' }:=I.turned (t':=s.toks) (fun b o hb e=>(sb.2 b hb).trans e) f0 f1 f3 f4 f5
    obtain ⟨o,e,c,d⟩:=id st'
    exact ⟨u,rfl,DD (s:={ s with heap:=h' }) e c d (by decide) ⟨x,H,I1,ru,⟨rfl,fun ys hy=>by rw[I.rq hy hq];exact hx⟩,st',fun b hb=>(hf b hb).1⟩⟩
  done:=by
    intro X hP hw hK hc i pins s σ H E I hf st hg
    subst hP hw hK
    obtain ⟨xs,hq,hx⟩:=hg
    obtain ⟨its,rv,p,hz⟩:=I.tuple hq
    obtain ⟨f0,f1,f2,f3,f4,f5⟩:=hf it (by simp)
    have hl:=rv.length
    exact wpAny_pyNext_tuple_end (I.ok.hd hc) st (show s.heap.IsTuple a its.toArray from p) (by simp;omega) fun h' eb=>⟨rfl,I.turned (t':=s.toks) (fun b o hb e=>eb b o hb e) f0 f1 f3 f4 f5⟩
  self:=fun _ _ _ _ _ st h=>wpAny_pyIter_tupleiter st h
theorem yM {P:Program}{w:World}{K:PySem.W.Frag}{tg:Expr}(it:Addr)(lo:Int)(n:Nat):Turn P w K tg (Itr lo n) [it] it (fun i h=>IsRangeIter h it (lo+(i:Nat)*1) ((n:Int) - (i:Nat)) 1) where
  mem:=by simp
  obj:=fun i h st b hb=>by
    have e:b=it:=by simpa using hb
    subst e
    exact ⟨_,st,fun v z=>by
      have z':Data.fields _=Data.cell v:=z
      cases z'⟩
  keep:=fun i h h' st k=>k it (by simp) _ st
  item:=by
    intro X hP hw hK hc i pins s σ H E I hf st hg
    subst hP hw hK
    obtain ⟨f0,f1,f2,f3,f4,f5⟩:=hf it (by simp)
    have W:=Walks.range (prog:=X.prog) (w:=X.w) (I.ok.hd hc) it lo 1 n
    refine W.item i s _ _ hg st fun v h' tk hv st' kk=>?_
    obtain ⟨t,rfl⟩:=hv
    have I1:Inv X pins σ H { s with heap:=h',toks:=tk }:=I.turned (fun b o hb e=>kk b o (by simpa using hb) e) f0 f1 f3 f4 f5
    refine ⟨_,rfl,DD (s:={ s with heap:=h',toks:=tk }) (n := "range_iterator") st' rfl rfl (by decide) ⟨.int (lo+i),H,I1,⟨t,?_⟩,⟨rfl,rfl⟩,st',fun b hb=>(hf b hb).1⟩⟩
    rw[Int.mul_one]
  done:=by
    intro X hP hw hK hc i pins s σ H E I hf st hg
    subst hP hw hK
    obtain ⟨f0,f1,f2,f3,f4,f5⟩:=hf it (by simp)
    exact wpAny_pyNext_range_end (I.ok.hd hc) st (by have:n≤i:=hg;omega) fun h' eb=>⟨rfl,I.turned (t':=s.toks) (fun b o hb e=>eb b o hb e) f0 f1 f3 f4 f5⟩
  self:=fun _ _ _ _ _ st h=>wpAny_pyIter_rangeiter st h
end L2
namespace L2
open PySem PySem.Spec PyProof.Rows
section
variable {X:Cx} {tg:Expr}
def GY (K:PySem.W.Frag)(tl:TE):TI:=fun σ H R=>tl σ H fun x H1=>∃ a,x=.ref a∧(∃ xs,SqL K H1 a xs)∧R (Itl K a) H1
theorem zm {l:Expr}{tl:TE}(hl:PE X l tl):PI X tg l (GY X.K tl):=by
  intro pins s σ H R I h
  refine thn (hl pins s σ H _ I h) fun v s1 ⟨x,H1,I1,r1,q1⟩=>?_
  obtain ⟨a,e,⟨xs,hq⟩,q⟩:=q1
  subst e
  cases r1
  obtain ⟨its,rv,p,hz⟩:=I1.list hq
  refine wpAny_pyIter_list p.isList ?_
  refine ⟨s1.heap.objs.size,[s1.heap.objs.size],_,_,H1,rfl,I1.kept (t':=s1.toks) fun b o e=>Heap.get?_push_of_some _ e,qQ a _,⟨_,Heap.get?_push_size _ rfl,rfl,rfl⟩,fun b hb=>?_,q⟩
  have e:b=s1.heap.objs.size:=by simpa using hb
  subst e
  exact I1.AR (Nat.le_refl _) (I1.hok.fresh (Nat.le_refl _))
theorem A2 {pins:List (Addr×Obj)}{σ:St}{H:Hp}{s:Shared}{R:It→Hp→Prop}{E:Value→Shared→Prop}{lo hi:Int}{t u v:Tok}{tk:Nat}(I:Inv X pins σ H s)(h1:-(2 ^ 62)≤lo)(h2:lo < 2 ^ 62)(h3:-(2 ^ 62)≤hi)(h4:hi < 2 ^ 62)
    (q:R (Itr lo (hi - lo).toNat) H):wpAny (model X.prog X.w) X.A (pyIter (.ref s.heap.objs.size)) (PIE X pins σ tg R) E { s with heap:=s.heap.push { cls:=.type "range", data:=.fields #[.int lo t,.int hi u,.int 1 v] },toks:=tk }:=by
  refine wpAny_pyIter_range (IsRange.new ..) (small_one h1 h2 h3 h4) ?_
  have I1:Inv X pins σ H { s with heap:=s.heap.push { cls:=.type "range", data:=.fields #[.int lo t,.int hi u,.int 1 v] },toks:=tk }:=I.kept fun b o e=>Heap.get?_push_of_some _ e
  refine ⟨(s.heap.push { cls:=.type "range", data:=.fields #[.int lo t,.int hi u,.int 1 v] }).objs.size,[(s.heap.push { cls:=.type "range", data:=.fields #[.int lo t,.int hi u,.int 1 v] }).objs.size],_,_,H,rfl,
    I1.kept (t':=tk) fun b o e=>Heap.get?_push_of_some _ e,yM _ lo (hi - lo).toNat,?_,fun b hb=>?_,q⟩
  · have e1:lo+((0:Nat):Int)*1=lo:=by simp
    have e2:(((hi - lo).toNat:Nat):Int) - ((0:Nat):Int)=Builtin.Range.rangeSize lo hi 1:=by rw[rangeSize_one];split<;>omega
    show IsRangeIter _ _ (lo+((0:Nat):Int)*1) ((((hi - lo).toNat:Nat):Int) - ((0:Nat):Int)) 1
    rw[e1,e2]
    exact Heap.get?_push_size _ rfl
  · have e:b=(s.heap.push { cls:=.type "range", data:=.fields #[.int lo t,.int hi u,.int 1 v] }).objs.size:=by simpa using hb
    subst e
    exact I1.AR (Nat.le_refl _) (I1.hok.fresh (Nat.le_refl _))
def Kt (ta:TA):TI:=fun σ H R=>ta σ H fun vs H1=>∃ j:Int,vs=[.int j]∧-(2 ^ 62)≤j∧j < 2 ^ 62∧R (Itr 0 j.toNat) H1
theorem AJ {a:Expr}{ta:TA}{p pos:Pos}(hg:Gl X "range")(hm:X.mg "range" = none)(ha:PA X [a] ta)(hs:starEach [a] X.env=[(false,eval a X.env)]:=by rfl):PI X tg (.Call (.Name "range" p) [a] [] pos) (Kt ta):=by
  intro pins s σ H R I h
  refine Call_ (kG I hg hm boot_range (PyProof.Rows.callWith_type1 (thn (ha pos pins s σ H _ I h) fun us s1 ⟨vs,H1,I1,r1,q1⟩=>?_) hs rfl))
  obtain ⟨j,e,q1,q2,q⟩:=q1
  subst e
  cases r1 with
  | cons r rr=>
    cases rr
    obtain ⟨t,rfl⟩:=r
    exact call_range_1 (A2 I1 (by omega) (by omega) q1 q2 (by simpa using q))
def Mw (wi:TI)(g:TG)(tb:TS):TS:=fun D σ H=>wi σ H fun J H1=>∃ W:Nat→Nat→St→Hp→Prop,(∃ m,W 0 m σ H1)∧∀ i m σ H,W i m σ H→
  (J.stop i H∧D.nx σ H)∨(J.go i H∧∃ N:St→Hp→Prop,(∀ σ' H',N σ' H'→∃ m',m' < m∧W (i+1) m' σ' H')∧∀ x H',J.yld i H x H'→g x σ H' fun σ2 H2=>tb { D with nx:=N,ct:=N,bk:=D.nx } σ2 H2)
def k9 (fp:List Addr)(h:Heap):List (Addr×Obj):=fp.filterMap fun b=>(h.get? b).map fun o=>(b,o)
theorem cQ {fp:List Addr}{h:Heap}{b:Addr}{o:Obj}(hb:b∈fp)(e:h.get? b=some o):(b,o)∈k9 fp h:=List.mem_filterMap.mpr ⟨b,hb,by rw[e];rfl⟩
theorem AF {fp:List Addr}{h:Heap}{p:Addr×Obj}(hp:p∈k9 fp h):p.1∈fp∧h.get? p.1=some p.2:=by
  obtain ⟨b,hb,e⟩:=List.mem_filterMap.mp hp
  cases q:h.get? b with
  | none=>rw[q] at e;cases e
  | some o=>
    rw[q] at e
    have e':(b,o)=p:=Option.some.inj e
    subst e'
    exact ⟨hb,q⟩
theorem Inv.pinned {pins:List (Addr×Obj)}{σ:St}{H:Hp}{s:Shared}{fp:List Addr}(I:Inv X pins σ H s)(hf:∀ b∈fp,oV X pins H b)(ho:∀ b∈fp,∃ o,s.heap.get? b=some o∧∀ v,o.data≠.cell v):Inv X (pins++k9 fp s.heap) σ H s:=
  I.zX fun p hp=>(List.mem_append.mp hp).elim (fun z=>I.pin p (List.mem_append_right _ z)) fun z=>by
    obtain ⟨hb,e⟩:=AF z
    obtain ⟨f0,f1,f2,_⟩:=hf p.1 hb
    obtain ⟨o,e',d⟩:=ho p.1 hb
    rw[e] at e';cases e'
    exact ⟨e,f0,f1,f2,d⟩
theorem Inv.fV {pins pl:List (Addr×Obj)}{σ:St}{H:Hp}{s:Shared}(I:Inv X (pins++pl) σ H s):Inv X pins σ H s:=I.zX fun p hp=>I.pin p (List.mem_append_right _ (List.mem_append_left _ hp))
theorem Ka {iter:Expr}{body:List Stmt}{wi:TI}{g:TG}{tb:TS}{pos:Pos}(hp:PassesOwn (model X.prog X.w) X.A X.env X.xe)(hc:X.calm=true)(hi:PI X tg iter wi)(hg:PG X tg g)(hb:PSs X body tb)
    (hs:∀ x,foldedSetIterable iter X.env x=pure x:=by intro _;rfl):PS X (.For tg iter body [] pos) (Mw wi g tb):=by
  intro pins s σ H D I h
  refine wpAny_For (thn (hi pins s σ H _ I h) fun v s1 h1=>thn h1 fun itv s2 h2=>?_) hs
  obtain ⟨it,fp,tn,J,H2,e,I2,T,st2,f2,W,⟨m0,w0⟩,turn⟩:=h2
  subst e
  -- what stays true of the iterator's objects through the loop
  have ou:∀ {H':Hp},(∀ b∈fp,H' b=none)→∀ b∈fp,oV X pins H' b:=fun hn b hb=>⟨hn b hb,(f2 b hb).2⟩
  refine codeAny_forLoop_any (fun n s'=>∃ i σ' H',Inv X pins σ' H' s'∧tn i s'.heap∧(∀ b∈fp,H' b=none)∧W i n σ' H') ?_ m0 ⟨0,σ,H2,I2,st2,fun b hb=>(f2 b hb).1,w0⟩
  rintro n s3 ⟨i,σ3,H3,I3,st3,fr3,w3⟩
  rcases turn i n σ3 H3 w3 with ⟨stop,qn⟩ | ⟨go,N,hN,step⟩
  · refine wpAny_passesOwn hp (thn (T.done X rfl rfl rfl hc i pins s3 σ3 H3 X.xe I3 (ou fr3) st3 stop) fun r s4 ⟨hr,I4⟩=>?_)
    subst hr
    exact wpAny_execs_nil ⟨σ3,H3,I4,qn⟩
  · refine wpAny_passesOwn hp (thn (T.item X rfl rfl rfl hc i pins s3 σ3 H3 X.xe I3 (ou fr3) st3 go) fun r s4 ⟨u,hr,h4⟩=>?_)
    subst hr
    refine wpAny_passesOwn hp (thn h4 fun _ s5 ⟨x,H5,I5,r5,y5,st5,fr5⟩=>?_)
    have I5':=I5.pinned (ou fr5) (T.obj _ _ st5)
    refine wpAny_passesOwn hp (thn (hg _ s5 σ3 H5 x u _ I5' r5 (step x H5 y5)) fun _ s6 ⟨σ6,H6,I6,q6⟩=>?_)
    refine wpAny_passesOwn hp (thn (hb _ s6 σ6 H6 _ I6 q6) fun f s7 q7=>?_)
    have again:∀ {σ7:St} {H7:Hp},Inv X (pins++k9 fp s5.heap) σ7 H7 s7→N σ7 H7→∃ m,m < n∧∃ i σ' H',Inv X pins σ' H' s7∧tn i s7.heap∧(∀ b∈fp,H' b=none)∧W i m σ' H':=fun {σ7 H7} I7 n7=>by
      obtain ⟨m',hm,w7⟩:=hN σ7 H7 n7
      refine ⟨m',hm,i+1,σ7,H7,I7.fV,T.keep _ _ _ st5 fun b hb o e=>(I7.pin (b,o) (List.mem_append_right _ (List.mem_append_right _ (cQ hb e)))).1,fun b hb=>?_,w7⟩
      obtain ⟨o,e,d⟩:=T.obj _ _ st5 b hb
      exact (I7.pin (b,o) (List.mem_append_right _ (List.mem_append_right _ (cQ hb e)))).2.1
    cases f with
    | next=>obtain ⟨σ7,H7,I7,n7⟩:=q7;exact again I7 n7
    | cont=>obtain ⟨σ7,H7,I7,n7⟩:=q7;exact again I7 n7
    | brk=>obtain ⟨σ7,H7,I7,q7⟩:=q7;exact ⟨σ7,H7,I7.fV,q7⟩
    | ret v=>obtain ⟨x7,σ7,H7,I7,r7,q7⟩:=q7;exact ⟨x7,σ7,H7,I7.fV,r7,q7⟩
end
end L2
namespace L2
open PySem PySem.Spec PyProof.Rows
abbrev R2:=V→V→Hp→VK→Prop
def OpR (X:Cx)(f:Value→Value→Sem Value)(r:R2):Prop:=
  ∀ (pins:List (Addr×Obj)) (s:Shared) (σ:St) (H:Hp) (x y:V) (v u:Value) (Q:VK),Inv X pins σ H s→RelV x v→RelV y u→r x y H Q→
    wpAny (model X.prog X.w) X.A (f v u) (EP X pins σ Q) X.xe s
def UnR (X:Cx)(f:Value→Sem Value)(r:V→Hp→VK→Prop):Prop:=
  ∀ (pins:List (Addr×Obj)) (s:Shared) (σ:St) (H:Hp) (x:V) (v:Value) (Q:VK),Inv X pins σ H s→RelV x v→r x H Q→
    wpAny (model X.prog X.w) X.A (f v) (EP X pins σ Q) X.xe s
def bQ (X:Cx)(f:Value)(r:List V→Hp→VK→Prop):Prop:=
  ∀ (pins:List (Addr×Obj)) (s:Shared) (σ:St) (H:Hp) (xs:List V) (us:List Value) (Q:VK),Inv X pins σ H s→Vals xs us→r xs H Q→
    wpAny (model X.prog X.w) X.A (call f us) (EP X pins σ Q) X.xe s
def tOp (r:R2)(ta tb:TE):TE:=fun σ H Q=>ta σ H fun x H1=>tb σ H1 fun y H2=>r x y H2 Q
def tUn (r:V→Hp→VK→Prop)(ta:TE):TE:=fun σ H Q=>ta σ H fun x H1=>r x H1 Q
def rI (C:Int→Int→Prop)(g:Int→Int→V):R2:=fun x y H Q=>∃ i j,x=.int i∧y=.int j∧C i j∧Q (g i j) H
def rI0 (g:Int→Int→V):R2:=fun x y H Q=>∃ i j,x=.int i∧y=.int j∧Q (g i j) H
def rU (g:Int→V):V→Hp→VK→Prop:=fun x H Q=>∃ i,x=.int i∧Q (g i) H
section
variable {X:Cx} {a b c:Expr} {ta tb tc:TE} {pos:Pos}
theorem J1 (ha:PE X a ta)(hb:PE X b tb){pins:List (Addr×Obj)}{s:Shared}{σ:St}{H:Hp}{R:V→V→Hp→Prop}(I:Inv X pins σ H s)
    (h:ta σ H fun x H1=>tb σ H1 fun y H2=>R x y H2) {Q:Value→Shared→Prop} {f:Value→Value→Sem Value}
    (hf:∀ v u s2 x y H2,Inv X pins σ H2 s2→RelV x v→RelV y u→R x y H2→wpAny (model X.prog X.w) X.A (f v u) Q X.xe s2) :
    wpAny (model X.prog X.w) X.A (eval a X.env) (fun v s₁=>wpAny (model X.prog X.w) X.A (eval b X.env) (fun u s₂=>wpAny (model X.prog X.w) X.A (f v u) Q X.xe s₂) X.xe s₁) X.xe s:=by
  refine thn (ha pins s σ H _ I h) fun v s1 ⟨x,H1,I1,r1,q1⟩=>?_
  refine thn (hb pins s1 σ H1 _ I1 q1) fun u s2 ⟨y,H2,I2,r2,q2⟩=>?_
  exact hf v u s2 x y H2 I2 r1 r2 q2
theorem Ha {op:Operator}{r:R2}(ho:OpR X (binaryOp op) r)(ha:PE X a ta)(hb:PE X b tb):PE X (.BinOp a op b pos) (tOp r ta tb):=by
  intro pins s σ H Q I h
  exact wpAny_BinOp (J1 ha hb I h fun v u s2 x y H2 I2 rx ry q=>ho pins s2 σ H2 x y v u Q I2 rx ry q)
theorem LR {op:UnaryOp}{r:V→Hp→VK→Prop}(ho:UnR X (unaryOp op) r)(ha:PE X a ta):PE X (.UnaryOp op a pos) (tUn r ta):=by
  intro pins s σ H Q I h
  exact UnaryOp_ (thn (ha pins s σ H _ I h) fun v s1 ⟨x,H1,I1,r1,q1⟩=>ho pins s1 σ H1 x v Q I1 r1 q1)
theorem opI {f:Value→Value→Sem Value}{C:Int→Int→Prop}{g:Int→Int→Int}
    (rule:∀ (i j:Int) (t u:Tok) (s:Shared) (Q:Value→Shared→Prop) (E:Value→Shared→Prop),C i j→Q (.int (g i j) s.toks) { s with toks:=s.toks+1 }→wpAny (model X.prog X.w) X.A (f (.int i t) (.int j u)) Q E s) :
    OpR X f (rI C fun i j=>.int (g i j)):=by
  intro pins s σ H x y v u Q I rx ry h
  obtain ⟨i,j,rfl,rfl,hc,q⟩:=h
  obtain ⟨t,rfl⟩:=rx
  obtain ⟨t',rfl⟩:=ry
  exact rule i j t t' s _ _ hc ⟨.int (g i j),H,I.tok _,⟨_,rfl⟩,q⟩
theorem KW {f:Value→Value→Sem Value}{g:Int→Int→Int}
    (rule:∀ (i j:Int) (t u:Tok) (s:Shared) (Q:Value→Shared→Prop) (E:Value→Shared→Prop),Q (.int (g i j) s.toks) { s with toks:=s.toks+1 }→wpAny (model X.prog X.w) X.A (f (.int i t) (.int j u)) Q E s) :
    OpR X f (rI0 fun i j=>.int (g i j)):=by
  intro pins s σ H x y v u Q I rx ry h
  obtain ⟨i,j,rfl,rfl,q⟩:=h
  obtain ⟨t,rfl⟩:=rx
  obtain ⟨t',rfl⟩:=ry
  exact rule i j t t' s _ _ ⟨.int (g i j),H,I.tok _,⟨_,rfl⟩,q⟩
theorem Gm {f:Value→Value→Sem Value}{g:Int→Int→Bool}
    (rule:∀ (i j:Int) (t u:Tok) (s:Shared) (Q:Value→Shared→Prop) (E:Value→Shared→Prop),Q (.bool (g i j)) s→wpAny (model X.prog X.w) X.A (f (.int i t) (.int j u)) Q E s) :
    OpR X f (rI0 fun i j=>.bl (g i j)):=by
  intro pins s σ H x y v u Q I rx ry h
  obtain ⟨i,j,rfl,rfl,q⟩:=h
  obtain ⟨t,rfl⟩:=rx
  obtain ⟨t',rfl⟩:=ry
  exact rule i j t t' s _ _ ⟨.bl (g i j),H,I,rfl,q⟩
def L7 (i j:Int):Prop:=0≤j∧j≤1000000∧i.natAbs < 2 ^ 64
def Kd (i j:Int):Prop:=(-(2 ^ 64) < i∧i < 2 ^ 64)∨(-(2 ^ 64) < j∧j < 2 ^ 64)
theorem Kd.ok {i j:Int}(h:Kd i j):IntMulOk i j:=by
  rcases h with ⟨h1,h2⟩ | ⟨h1,h2⟩
  · exact .of_left (intBits_le_64 h1 h2)
  · exact .of_right (intBits_le_64 h1 h2)
theorem Ib:OpR X (binaryOp .Add) (rI0 fun i j=>.int (i+j)):=KW fun _ _ _ _ _ _ _ q=>add_int q
theorem Ih:OpR X (binaryOp .Sub) (rI0 fun i j=>.int (i - j)):=KW fun _ _ _ _ _ _ _ q=>sub_int q
theorem Ew:OpR X (binaryOp .Mod) (rI (fun _ j=>j≠0) fun i j=>.int (i.fmod j)):=opI fun _ _ _ _ _ _ _ hc q=>mod_int' hc q
theorem ID:OpR X (binaryOp .Pow) (rI L7 fun i j=>.int (i ^ j.toNat)):=opI fun _ _ _ _ _ _ _ hc q=>pow_int_small hc.1 hc.2.1 hc.2.2 q
theorem unI {f:Value→Sem Value}{g:Int→Int}
    (rule:∀ (i:Int) (t:Tok) (s:Shared) (Q:Value→Shared→Prop) (E:Value→Shared→Prop),Q (.int (g i) s.toks) { s with toks:=s.toks+1 }→wpAny (model X.prog X.w) X.A (f (.int i t)) Q E s) :
    UnR X f (rU fun i=>.int (g i)):=by
  intro pins s σ H x v Q I rx h
  obtain ⟨i,rfl,q⟩:=h
  obtain ⟨t,rfl⟩:=rx
  exact rule i t s _ _ ⟨.int (g i),H,I.tok _,⟨_,rfl⟩,q⟩
theorem IX:UnR X (unaryOp .USub) (rU fun i=>.int (-i)):=unI fun _ _ _ _ _ q=>neg_int q
end
def K3:V→V→Bool
  | .non,.non=>true | .non,.int _=>true | .int _,.non=>true | .non,.bl _=>true | .bl _,.non=>true | .non,.str _=>true | .str _,.non=>true
  | .int _,.int _=>true | .bl _,.bl _=>true | .str _,.str _=>true | .byt _,.byt _=>true
  | .int _,.str _=>true | .str _,.int _=>true | .bl _,.str _=>true | .str _,.bl _=>true
  | _,_=>false
def rEq:R2:=fun x y H Q=>K3 x y=true∧Q (.bl (decide (x=y))) H
def rNe:R2:=fun x y H Q=>K3 x y=true∧Q (.bl (!decide (x=y))) H
section
variable {X:Cx} {a b c:Expr} {ta tb tc:TE} {pos:Pos}
theorem GJ:OpR X (compareOp .Lt) (rI0 fun i j=>.bl (decide (i < j))):=Gm fun _ _ _ _ _ _ _ q=>lt_int q
theorem GU:OpR X (compareOp .LtE) (rI0 fun i j=>.bl (decide (i≤j))):=Gm fun _ _ _ _ _ _ _ q=>le_int q
theorem GG:OpR X (compareOp .Gt) (rI0 fun i j=>.bl (decide (j < i))):=Gm fun _ _ _ _ _ _ _ q=>gt_int q
theorem Kn:OpR X (compareOp .GtE) (rI0 fun i j=>.bl (decide (j≤i))):=Gm fun _ _ _ _ _ _ _ q=>ge_int q
theorem OpR.or {f:Value→Value→Sem Value}{r r':R2}(h:OpR X f r)(h':OpR X f r'):OpR X f (fun x y H Q=>r x y H Q∨r' x y H Q):=by
  intro pins s σ H x y v u Q I rx ry q
  rcases q with q | q
  · exact h pins s σ H x y v u Q I rx ry q
  · exact h' pins s σ H x y v u Q I rx ry q
theorem dX (b:Expr){op:CmpOp}(h:op≠.In:=by decide)(h2:op≠.NotIn:=by decide):behindInMarks op b=false:=by
  have e1:(op == CmpOp.In)=false:=by cases op<;>first | rfl | exact absurd rfl h
  have e2:(op == CmpOp.NotIn)=false:=by cases op<;>first | rfl | exact absurd rfl h2
  cases b<;>simp[behindInMarks,e1,e2]
theorem E2 {op:CmpOp}{r:R2}(ho:OpR X (compareOp op) r)(ha:PE X a ta)(hb:PE X b tb)(hm:behindInMarks op b=false):PE X (.Compare a [op] [b] pos) (tOp r ta tb):=by
  intro pins s σ H Q I h
  exact wpAny_Compare1 (J1 ha hb I h fun v u s2 x y H2 I2 rx ry q=>ho pins s2 σ H2 x y v u Q I2 rx ry q) hm
def G9 (t:TE):TT:=fun σ H Q=>t σ H fun x H'=>∃ k,x=.bl k∧Q k H'
theorem Em {op:CmpOp}{r:R2}(ho:OpR X (compareOp op) r)(ha:PE X a ta)(hb:PE X b tb)(hm:behindInMarks op b=false):PT X (.Compare a [op] [b] pos) (G9 (tOp r ta tb)):=by
  intro pins s σ H Q I h
  refine wpAny_isTrue_Compare1 (thn (ha pins s σ H _ I h) fun v s1 ⟨x,H1,I1,r1,q1⟩=>thn (hb pins s1 σ H1 _ I1 q1) fun u s2 ⟨y,H2,I2,r2,q2⟩=>
    thn (ho pins s2 σ H2 x y v u _ I2 r1 r2 q2) fun c s3 ⟨z,H3,I3,r3,k,e,q3⟩=>?_) hm
  subst e
  cases r3
  exact wpAny_truthy_bool ⟨H3,I3,q3⟩
theorem jz:(sizeLine:Nat) < 2 ^ 63:=by rw[sizeLine_eq];decide
theorem xR:OpR X (binaryOp .Add) (fun x y H Q=>∃ i j,x=.str i∧y=.str j∧i.length+j.length≤sizeLine∧Q (.str (i++j)) H):=by
  intro pins s σ H x y v u Q I rx ry h
  obtain ⟨i,j,rfl,rfl,hz,q⟩:=h
  obtain ⟨t,rfl⟩:=rx
  obtain ⟨t',rfl⟩:=ry
  exact add_str (fun t' tk=>⟨.str (i++j),H,I.tok _,⟨_,rfl⟩,q⟩) hz
theorem vals1 {x:V}{us:List Value}(r:Vals [x] us):∃ u,us=[u]∧RelV x u:=by
  cases r with
  | cons r1 r2=>cases r2;exact ⟨_,rfl,r1⟩
theorem hX:bQ X (.builtin "abs") (fun xs H Q=>∃ i,xs=[.int i]∧Q (.int (if i < 0 then -i else i)) H):=by
  intro pins s σ H xs us Q I r h
  obtain ⟨i,rfl,q⟩:=h
  obtain ⟨u,rfl,t,rfl⟩:=vals1 r
  exact call_abs_int fun u tk=>⟨.int (if i < 0 then -i else i),H,I.tok _,⟨_,rfl⟩,q⟩
theorem Aq:bQ X (.type "int") (fun xs H Q=>(∃ i,xs=[.int i]∧Q (.int i) H)∨∃ k,xs=[.bl k]∧Q (.int (if k then 1 else 0)) H):=by
  intro pins s σ H xs us Q I r h
  rcases h with ⟨i,rfl,q⟩ | ⟨k,rfl,q⟩
  · obtain ⟨u,rfl,t,rfl⟩:=vals1 r
    exact call_int_int ⟨.int i,H,I,⟨_,rfl⟩,q⟩
  · obtain ⟨u,rfl,r1⟩:=vals1 r
    cases r1
    exact call_int_bool ⟨.int (if k then 1 else 0),H,I.tok _,⟨_,rfl⟩,q⟩
end
end L2
namespace L2
open PySem PySem.Spec PyProof.Rows
structure Ko (h:Heap) (x dx C:Addr) (mA:Str→Option Value):Prop where
  obj:h.get? x=some (PySem.W.instObj C dx)
  ns:h.Ns1 dx mA
  ne:dx≠x
theorem z9 {h:Heap}{dx:Addr}{mA:Str→Option Value}(n:h.Ns1 dx mA):∃ od,h.get? dx=some od∧∀ name,PySem.W.lookIn name od=some (mA name):=by
  obtain ⟨o,es,ep,ho,hd,hk,_,hm⟩:=n
  refine ⟨o,ho,fun name=>?_⟩
  have e:=hm name
  unfold nsFind findBy at e
  rw[← Array.find?_toList] at e
  unfold PySem.W.lookIn
  rw[hd]
  dsimp only
  split
  · rename_i y q
    rw[q] at e
    exact congrArg some e
  · rename_i q
    rw[q] at e
    have a:es.toList.any (·.refKey)=false:=by
      rw[List.any_eq_false]
      intro y hy
      obtain ⟨z,t,hkey⟩:=hk y (Array.mem_toList_iff.mp hy)
      simp[DictEntry.refKey,hkey]
    have a':¬ es.toList.any (·.refKey)=true:=by rw[a];exact Bool.false_ne_true
    rw[if_neg a']
    exact congrArg some e
theorem Ko.look {h:Heap}{x dx C:Addr}{mA:Str→Option Value}(I:Ko h x dx C mA):∃ od,PySem.W.InstAt h x (PySem.W.instObj C dx) C (some od)∧∀ name,PySem.W.lookIn name od=some (mA name):=
  let ⟨od,ho,hl⟩:=z9 I.ns
  ⟨od,⟨I.obj,rfl,rfl,ho⟩,hl⟩
section
variable {prog:Program} {w:World} {A:Around} {E:Value→Shared→Prop} {s:Shared} {K:PySem.W.Frag} {x dx C f:Addr} {mA:Str→Option Value} {name:Str} {v:Value}
end
theorem lA.some_of {v:V}{o:Option Value}(r:lA (some v) o):∃ u,o=some u∧RelV v u:=by
  cases o with
  | none=>exact (show False from r).elim
  | some u=>exact ⟨u,rfl,r⟩
section
variable {P:Program} {w:World} {H H':Hp} {h h':Heap} {a C dx:Addr} {fs fs':List (Str×V)}
end
structure Cls (K:PySem.W.Frag) (C:Addr):Prop where
  pg:PySem.W.plainGet K C Str.empty=true
  hd:PySem.W.hasDictIn K C=true
  po:PySem.W.plainOver K C=true
  sa:PySem.W.findIn K (.ref C) "__setattr__" = some (some (.builtin "object.__setattr__"))
theorem Cls.get {K:PySem.W.Frag}{C:Addr}(c:Cls K C)(f:Str):PySem.W.plainGet K C f=true:=c.pg
section
variable {X:Cx} {pins:List (Addr×Obj)} {σ:St} {H:Hp} {s:Shared} {a C dx:Addr} {fs:List (Str×V)} {f:Str} {v:V} {A:Around} {E:Value→Shared→Prop}
end
section
variable {X:Cx} {o e value:Expr} {f:Str} {pos pos' tpos:Pos} {ta tv:TE}
def vD:V→V→Hp→VK→Prop:=fun x y H Q=>∃ i j,x=.int i∧y=.int j∧Q (.int (i - j)) H
end
section
variable {X:Cx} {pins:List (Addr×Obj)} {σ:St} {H:Hp} {s:Shared} {A:Around} {E:Value→Shared→Prop} {Q:Value→Shared→Prop} {c:Value} {b:Bool}
end
end L2
namespace L2
open PySem PySem.Spec PyProof.Rows
structure dS (k:Nat) (A:Around):Prop where
  hd:A.handled=none
  dp:A.depth+3*k+5 < recursionLimit
  un:A.units+16*k+200 < cLine
theorem dS.mono {j k:Nat}{A:Around}(r:dS k A)(h:j≤k):dS j A:=⟨r.hd,by have:=r.dp;omega,by have:=r.un;omega⟩
theorem dS.deeper {k:Nat}{A:Around}(r:dS (k+1) A)(env:Env):dS k (A.deeper env):=
  ⟨r.hd,by have:=r.dp;show A.depth+1+3*k+5 < _;omega,by have:=r.un;show A.units+3+16*k+200 < _;omega⟩
theorem dS.in1 {k:Nat}{A:Around}(r:dS (k+1) A):dS k A.in1:=
  ⟨r.hd,by have:=r.dp;show A.depth+3*k+5 < _;omega,by have:=r.un;show A.units+1+16*k+200 < _;omega⟩
theorem dS.depth {k:Nat}{A:Around}(r:dS k A):A.depth < recursionLimit:=by have:=r.dp;omega
theorem dS.units {k:Nat}{A:Around}(r:dS k A):A.units+64 < cLine:=by have:=r.un;omega
def Mc:TA:=fun _ H Q=>Q [] H
def LP (ta:TE)(tr:TA):TA:=fun σ H Q=>ta σ H fun x H1=>tr σ H1 fun xs H2=>Q (x::xs) H2
section
variable {X:Cx} {e:Expr} {es:List Expr} {te:TE} {t:TA} {pos:Pos}
theorem lu:PA X [] Mc:=fun _ _ _ _ H Q I h=>Calls.spliced_nil ⟨[],H,I,.nil,h⟩
theorem eW (ha:PE X e te)(hr:PA X es t)(hs:starEach (e::es) X.env=(false,eval e X.env)::starEach es X.env:=by rfl):PA X (e::es) (LP te t):=by
  intro pos pins s σ H Q I h
  rw[hs]
  show wpAny _ _ (spliced ((false,eval e X.env)::backTo pos (starEach es X.env))) _ _ s
  refine Calls.spliced_cons (thn (ha pins s σ H _ I h) fun u s1 ⟨x,H1,I1,r1,q1⟩=>?_)
  exact thn (hr pos pins s1 σ H1 _ I1 q1) fun us s2 ⟨xs,H2,I2,r2,q2⟩=>⟨x::xs,H2,I2,.cons r1 r2,q2⟩
def Mj (t:TA):TE:=fun σ H Q=>t σ H fun xs H1=>xs.length≤sizeLine∧∀ p,H1 p=none→Q (.ref p) (upd H1 p (.tup xs))
def MC (t:TA):TE:=fun σ H Q=>t σ H fun xs H1=>xs.length≤sizeLine∧∀ p,H1 p=none→Q (.ref p) (upd H1 p (.lst xs))
theorem HI {x1}(h:PA X es t):PE X (.Tuple es x1 pos) (Mj t):=by
  intro pins s σ H Q I hq
  refine wpAny_Tuple_spliced (thn (h pos pins s σ H _ I hq) fun us s1 ⟨xs,H1,I1,r,z,q⟩=>⟨by rw[← r.length];exact z,?_⟩)
  have hf:H1 s1.heap.objs.size=none:=I1.hok.fresh (Nat.le_refl _)
  refine ⟨.ref s1.heap.objs.size,upd H1 s1.heap.objs.size (.tup xs),I1.laid (t':=s1.toks) (fun b u e=>Heap.get?_push_of_some _ e) (Nat.le_refl _) ?_,rfl,q _ hf⟩
  exact ⟨z,us,r,⟨_,Heap.get?_push_size _ rfl⟩⟩
theorem Cm (h:PA X es t):PE X (.List es pos) (MC t):=by
  intro pins s σ H Q I hq
  refine wpAny_List_spliced (thn (h pos pins s σ H _ I hq) fun us s1 ⟨xs,H1,I1,r,z,q⟩=>⟨by rw[← r.length];exact z,?_⟩)
  have hf:H1 s1.heap.objs.size=none:=I1.hok.fresh (Nat.le_refl _)
  refine ⟨.ref s1.heap.objs.size,upd H1 s1.heap.objs.size (.lst xs),I1.laid (t':=s1.toks) (fun b u e=>Heap.get?_push_of_some _ e) (Nat.le_refl _) ?_,rfl,q _ hf⟩
  exact ⟨z,us,0,r,Heap.get?_push_size _ rfl⟩
end
abbrev Sp:=List V→Hp→VK→XK→Prop
abbrev CXT:=List Env→Hp→Shared→XK→Value→Shared→Prop
structure xT (P:Program) (w:World) (K:PySem.W.Frag) (mg:Str→Option Value) (base:Heap) (A:Around) (outer:List Env) (s:Shared) (H:Hp):Prop where
  frames:A.frames=some outer
  mod:Mod K mg base
  bs:∀ b o,base.get? b=some o→s.heap.get? b=some o∧H b=none
  bsz:base.objs.size≤s.heap.objs.size
  mx:s.heap.FunFrames base outer
  frf:∀ b∈frs outer,H b=none
  hok:HOk P w H s.heap
  bare:AllBare s.gens
def CE (outer:List Env)(P:Program)(w:World)(H:Hp)(s:Shared)(Q:VK)(u:Value)(s':Shared):Prop:=
  ∃ v H',s'.os=s.os∧AllBare s'.gens∧Un (frs outer) [] H H' s.heap s'.heap∧HOk P w H' s'.heap∧RelV v u∧Q v H'
def CR (CX:CXT)(outer:List Env)(P:Program)(w:World)(H:Hp)(s:Shared)(Q:VK)(E:XK)(r:Result)(s':Shared):Prop:=
  match r with
  | .ok (.ret u)=>CE outer P w H s Q u s'
  | .ok _=>False
  | .error e=>CX outer H s E e s'
structure gT (P:Program) (w:World) (K:PySem.W.Frag) (mg:Str→Option Value) (base:Heap) (CX:CXT) (k:Nat) (f:Addr) (fd:FuncData) (ps:List Str) (sp:Sp):Prop where
  len:∀ vs H Q E,sp vs H Q E→vs.length=ps.length
  run:∀ (A:Around) (outer:List Env) (s:Shared) (H:Hp) (args:Args) (us:List Value) (vs:List V) (Q:VK) (E:XK),dS k A→xT P w K mg base A outer s H→BindsTo s fd args (ps.zip us)→Vals vs us→sp vs H Q E→
    codeAny (model P w) A (.call (.ref f) args) (CR CX outer P w H s Q E) s
theorem gT.mono {P:Program}{w:World}{K:PySem.W.Frag}{mg:Str→Option Value}{base:Heap}{CX:CXT}{j k:Nat}{f:Addr}{fd:FuncData}{ps:List Str}{sp:Sp}(F:gT P w K mg base CX j f fd ps sp)(h:j≤k) :
    gT P w K mg base CX k f fd ps sp:=⟨F.len,fun A outer s H args us vs Q E hr=>F.run A outer s H args us vs Q E (hr.mono h)⟩
theorem gT.imp {P:Program}{w:World}{K:PySem.W.Frag}{mg:Str→Option Value}{base:Heap}{CX:CXT}{k:Nat}{f:Addr}{fd:FuncData}{ps:List Str}{sp sp':Sp}(F:gT P w K mg base CX k f fd ps sp)
    (h:∀ vs H Q E,sp' vs H Q E→sp vs H Q E):gT P w K mg base CX k f fd ps sp':=
  ⟨fun vs H Q E q=>F.len vs H Q E (h _ _ _ _ q),fun A outer s H args us vs Q E hr he hb hv hs=>F.run A outer s H args us vs Q E hr he hb hv (h _ _ _ _ hs)⟩
theorem xT.in1 {P:Program}{w:World}{K:PySem.W.Frag}{mg:Str→Option Value}{base:Heap}{A:Around}{outer:List Env}{s:Shared}{H:Hp}(e:xT P w K mg base A outer s H) :
    xT P w K mg base A.in1 outer s H:=⟨e.frames,e.mod,e.bs,e.bsz,e.mx,e.frf,e.hok,e.bare⟩
section
variable {X:Cx} {pins:List (Addr×Obj)} {σ:St} {H:Hp} {s s':Shared}
theorem Inv.Mb (I:Inv X pins σ H s):xT X.prog X.w X.K X.mg X.base X.A X.stack s H:=
  ⟨I.ok.frames,I.ok.mod,I.bs,Nat.le_trans I.ok.bsz I.sz,I.stack,I.sM,I.hok,I.bare⟩
theorem Inv.after {Q:VK}{u:Value}(I:Inv X pins σ H s)(h:CE X.stack X.prog X.w H s Q u s'):EP X pins σ Q u s':=by
  obtain ⟨v,H',os,bare,un,hok,r,q⟩:=h
  obtain ⟨hh,g,d,t,os'⟩:=s'
  obtain rfl:os'=s.os:=os
  exact ⟨v,H',I.call (h':=hh) (g':=g) (d':=d) (t':=t) (ch:=[]) un hok bare (fun b z=>absurd z (by simp)),r,q⟩
end
def Ld (sp:Sp)(dvs:List V)(E:XK)(t:TA):TE:=fun σ H Q=>t σ H fun vs H1=>sp (vs++dvs) H1 Q E
def Binds (K:PySem.W.Frag)(fd:FuncData)(ps:List Str)(ds:List Value):Prop:=
  ∀ (s:Shared) (us:List Value),K.In s.heap→(us++ds).length=ps.length→BindsTo s fd ⟨us,[]⟩ (ps.zip (us++ds))
theorem Binds.all {K:PySem.W.Frag}{fd:FuncData}{ps:List Str}(h:∀ us:List Value,us.length=ps.length→bindArgs fd ⟨us,[]⟩=pure (ps.zip us)):Binds K fd ps []:=fun s us _ hl=>by
  rw[List.append_nil] at hl ⊢
  exact .of_eq (h us hl)
def Passes (CX:CXT)(X:Cx)(E:XK):Prop:=∀ (pins:List (Addr×Obj)) (σ:St) (H:Hp) (s:Shared) (e:Value) (s':Shared),Inv X pins σ H s→CX X.stack H s E e s'→X.xe e s'
section
variable {X:Cx} {CX:CXT} {k:Nat} {f C:Addr} {fd:FuncData} {ps:List Str} {sp:Sp} {dvs:List V} {ds:List Value} {E:XK} {x m:Str} {p pos apos:Pos} {e o:Expr} {es:List Expr} {ta:TE} {t:TA}
theorem J7 {pins:List (Addr×Obj)}{σ:St}{H:Hp}{s:Shared}{Q:VK}{us:List Value}{vs:List V}(F:gT X.prog X.w X.K X.mg X.base CX k f fd ps sp)(hr:dS k X.A)(hb:Binds X.K fd ps ds)(hd:Vals dvs ds)(hx:Passes CX X E)
    (I:Inv X pins σ H s) (r:Vals vs us) (h:sp (vs++dvs) H Q E):wpAny (model X.prog X.w) X.A (call (.ref f) us) (EP X pins σ Q) X.xe s:=by
  have r2:Vals (vs++dvs) (us++ds):=r.append hd
  have hl:(us++ds).length=ps.length:=by rw[← r2.length];exact F.len _ _ _ _ h
  refine wpAny_call (codeAny_mono (F.run X.A X.stack s H ⟨us,[]⟩ (us++ds) (vs++dvs) Q E hr I.Mb (hb s us I.kIn hl) r2 h) fun r s' hq=>?_)
  cases r with
  | error e=>exact hx pins σ H s e s' I hq
  | ok fl=>
    cases fl with
    | ret u=>exact I.after hq
    | next=>exact False.elim hq
    | brk=>exact False.elim hq
    | cont=>exact False.elim hq
theorem Eg (F:gT X.prog X.w X.K X.mg X.base CX k f fd ps sp)(hr:dS k X.A)(hg:Gl X x)(hm:X.mg x=some (.ref f))(hk:PySem.W.keepIn X.K (.ref f)=true)(hb:Binds X.K fd ps ds)(hd:Vals dvs ds)(hx:Passes CX X E)
    (ha:PA X (e::es) t) (hdb:(x == ("__debug__" : Str))=false:=by decide) (he:starEach (e::es) X.env=(false,eval e X.env)::starEach es X.env:=by rfl) (hpl:(backTo pos (starEach es X.env)).any (·.1)=false:=by rfl) :
    PE X (.Call (.Name x p) (e::es) [] pos) (Ld sp dvs E t):=by
  intro pins s σ H Q I h
  refine wpAny_Call_Name_kw (zx I hg hm ?_ hdb)
  refine PySem.W.callWith_K (h₀:=X.base) I.ok.mod.kin hk (thn (ha pos pins s σ H _ I h) fun us s1 ⟨vs,H1,I1,r,q⟩=>⟨I1.kIn,?_⟩) he hpl
  exact J7 F hr hb hd hx I1 r q
end
section
variable {X:Cx} {CX:CXT} {k:Nat} {f C:Addr} {fd:FuncData} {ps ks:List Str} {sp:Sp} {E:XK} {x m:Str} {p pos apos kpos:Pos} {e o:Expr} {es:List Expr} {kws:List Keyword} {te ta:TE} {t tk:TA} {nm:Option Str}
variable {g:List Value→List Value→List Value} {gV:List V→List V→List V}
end
structure aA (N P:List Str) (sc:Scope):Prop where
  kind:sc.kind=.function
  co:sc.isCoroutine=false
  gen:sc.isGenerator=false
  nd:N.Nodup
  pre:N.take P.length=P
  par:∀ x∈P,sc.names.lookup x=some .local∨sc.names.lookup x=some .cell
  HD:∀ y∈sc.names,y.2≠.free
theorem qR {kindOf:Str→Option NameKind}{x:Str}:∀ {binds:List (Str×Value)} {m:Str→Option Value},(∀ v,(x,v) ∉ binds)→bindL kindOf binds m x=m x
  | [],_,_=>rfl
  | (n,v)::r,m,h=>by
    unfold bindL
    rw[qR fun w hw=>h w (List.mem_cons_of_mem _ hw)]
    split
    · have:x≠n:=by rintro rfl;exact h v List.mem_cons_self
      simp[this]
    · rfl
theorem rG {kindOf:Str→Option NameKind}{x:Str}:∀ {binds:List (Str×Value)} {m:Str→Option Value},(∀ v,(x,v) ∉ binds)→bindC kindOf binds m x=m x
  | [],_,_=>rfl
  | (n,v)::r,m,h=>by
    unfold bindC
    rw[rG fun w hw=>h w (List.mem_cons_of_mem _ hw)]
    split
    · rfl
    · have:x≠n:=by rintro rfl;exact h v List.mem_cons_self
      simp[this]
theorem rA {kindOf:Str→Option NameKind}{x:Str}{v:Value}:∀ {P:List Str} {vs:List Value} {i:Nat} {m:Str→Option Value},P.Nodup→P[i]? = some x→vs[i]? = some v→kindOf x=some .local→
    bindL kindOf (P.zip vs) m x=some v
  | [],_,_,_,_,h,_,_=>by simp at h
  | _::_,[],_,_,_,_,h,_=>by simp at h
  | p::P,w::vs,0,m,nd,h1,h2,hk=>by
    simp at h1 h2;subst h1;subst h2
    show bindL kindOf ((p,w)::P.zip vs) m p=_
    unfold bindL
    rw[qR fun v hv=>(List.nodup_cons.mp nd).1 (List.of_mem_zip hv).1,if_pos hk]
    simp
  | p::P,w::vs,i+1,m,nd,h1,h2,hk=>by
    show bindL kindOf ((p,w)::P.zip vs) m x=_
    unfold bindL
    exact rA (i:=i) (List.nodup_cons.mp nd).2 (by simpa using h1) (by simpa using h2) hk
theorem qM {kindOf:Str→Option NameKind}{x:Str}{v:Value}:∀ {P:List Str} {vs:List Value} {i:Nat} {m:Str→Option Value},P.Nodup→P[i]? = some x→vs[i]? = some v→kindOf x≠some .local→
    bindC kindOf (P.zip vs) m x=some v
  | [],_,_,_,_,h,_,_=>by simp at h
  | _::_,[],_,_,_,_,h,_=>by simp at h
  | p::P,w::vs,0,m,nd,h1,h2,hk=>by
    simp at h1 h2;subst h1;subst h2
    show bindC kindOf ((p,w)::P.zip vs) m p=_
    unfold bindC
    rw[rG fun v hv=>(List.nodup_cons.mp nd).1 (List.of_mem_zip hv).1,if_neg hk]
    simp
  | p::P,w::vs,i+1,m,nd,h1,h2,hk=>by
    show bindC kindOf ((p,w)::P.zip vs) m x=_
    unfold bindC
    exact qM (i:=i) (List.nodup_cons.mp nd).2 (by simpa using h1) (by simpa using h2) hk
def start (N:List Str)(vs:List V):St:=vs.map some++List.replicate (N.length - vs.length) none
def uJ (CX:CXT)(P:Program)(w:World)(K:PySem.W.Frag)(mg:Str→Option Value)(base:Heap)(N:List Str)(qual:Str)(scope:Scope)(f:Addr)(cd:Value)(A:Around)(outer:List Env)(s:Shared)(H:Hp)(E:XK):Cx where
  prog:=P
  w:=w
  K:=K
  mg:=mg
  base:=base
  A:=A.deeper (envOfC qual scope s.heap.objs.size f cd)
  N:=N
  s₀:=s
  H₀:=H
  env:=envOfC qual scope s.heap.objs.size f cd
  outer:=outer
  stack:=envOfC qual scope s.heap.objs.size f cd::outer
  ex:=[]
  calm:=true
  fn:=fun _=>true
  pn:=[]
  xe:=fun e s'=>wpAny (model P w) (A.deeper (envOfC qual scope s.heap.objs.size f cd)) (leaving (envOfC qual scope s.heap.objs.size f cd) e) (fun _ s''=>CX outer H s E e s'') (fun e' s''=>CX outer H s E e' s'') s'
theorem vF {sc:Scope}{n:Nat}{x:Str}(h:sc.names.lookup x=some .cell):∃ c,(cellsFrom n sc.names []).lookup x=some c:=by
  have q:=PySem.W.cellsFrom_some sc.names n [] (.inl h)
  exact Option.isSome_iff_exists.mp q
theorem Ac {CX:CXT}{P:Program}{w:World}{K:PySem.W.Frag}{mg:Str→Option Value}{base:Heap}{N ps:List Str}{qual:Str}{scope:Scope}{f:Addr}{cd:Value}{A:Around}{outer:List Env}{s s1:Shared}{H:Hp}{E:XK}{us:List Value}{vs:List V}
    (S:aA N ps scope) (hd:A.handled=none) (e0:xT P w K mg base A outer s H) (hl:vs.length=ps.length) (r:Vals vs us)
    (x:InCallC s s.heap.objs.size (bindL (envOfC qual scope s.heap.objs.size f cd).kindOf (ps.zip us) fun _=>none) (cellsFrom (s.heap.objs.size+1) scope.names []) (bindC (envOfC qual scope s.heap.objs.size f cd).kindOf (ps.zip us) fun _=>none) s1) :
    Inv (uJ CX P w K mg base N qual scope f cd A outer s H E) [] (start N vs) H s1:=by
  have hpl:ps.length≤N.length:=by have:=congrArg List.length S.pre;rw[List.length_take] at this;omega
  obtain ⟨h1,tk,rfl,hk⟩:=x.done
  have noA:∀ b:Addr,b ∉ (uJ CX P w K mg base N qual scope f cd A outer s H E).ex:=fun b z=>absurd (show b∈([]:List Addr) from z) (by simp)
  refine ⟨⟨e0.mod,S.kind,rfl,rfl,Nat.le_refl _,fun y z c h1 h2=>?_,fun y hy=>?_,fun y c _ h=>?_,fun _=>hd,Around.frames_deeper e0.frames,.inr ⟨rfl,rfl⟩,fun b z=>absurd z (noA b),e0.bs,e0.bsz,fun b _ _=>noA b,fun b z=>absurd z (noA b),e0.mx,e0.frf⟩,
    rfl,e0.bare,Un.kept hk,⟨_,x.toInCall.ns,fun i y v h1 h2 h3=>?_⟩,fun y c h=>⟨_,x.cell y c h⟩,e0.hok.fresh (Nat.le_refl _),fun y c h=>?_,fun p hp=>absurd (show p∈([]:List (Addr×Obj)) from hp) (by simp),e0.hok.kept hk,?_⟩
  · exact name_of_addr x.apart (PySem.mem_of_lookup h1) (PySem.mem_of_lookup h2)
  · have hy:scope.names.lookup y=some .cell∨scope.names.lookup y=some .free:=hy
    rcases hy with hy | hy
    · exact vF hy
    · exact absurd rfl (S.HD _ (PySem.mem_of_lookup hy))
  · exact Nat.le_of_lt (x.above y c (PySem.mem_of_lookup h))
  · have hi:i < vs.length:=by
      unfold start at h2
      by_cases hi:i < vs.length
      · exact hi
      · rw[List.getElem?_append_right (by simpa using hi)] at h2
        rw[List.getElem?_replicate] at h2
        split at h2<;>cases h2
    have ha:vs[i]? = some v:=by
      unfold start at h2
      rw[List.getElem?_append_left (by simpa using hi),List.getElem?_map] at h2
      cases e:vs[i]? with
      | none=>rw[e] at h2;cases h2
      | some a=>rw[e] at h2;cases h2;rfl
    obtain ⟨u,hu,rv⟩:=r.get ha
    have hp:ps[i]? = some y:=by
      rw[← S.pre,List.getElem?_take_of_lt (by omega)];exact h1
    have ndP:ps.Nodup:=by rw[← S.pre];exact S.nd.sublist (List.take_sublist _ _)
    refine ⟨u,rv,?_⟩
    rcases S.par y (List.mem_of_getElem? hp) with k | k
    · exact .inl ⟨k,rA ndP hp hu k⟩
    · obtain ⟨c,e⟩:=vF (n:=s.heap.objs.size+1) k
      refine .inr ⟨.inl k,c,e,?_⟩
      have q:=x.cell y c e
      rw[qM ndP hp hu (by show scope.names.lookup y≠_;rw[k];decide)] at q
      exact q
  · exact e0.hok.fresh (Nat.le_of_lt (x.above y c (PySem.mem_of_lookup h)))
  · unfold start
    show _=N.length
    rw[List.length_append,List.length_map,List.length_replicate]
    omega
theorem Lm {CX:CXT}{P:Program}{w:World}{K:PySem.W.Frag}{mg:Str→Option Value}{base:Heap}{k:Nat}{f:Addr}{name qual:Str}{params:Arguments}{body:List Stmt}{scope:Scope}{dV kV doc pm cdv ct oc:Value}{an od:Option Addr}
    {osl:Array (Option Value)} {N ps:List Str} {sp:Sp} (lk:K.lookup f=some ⟨oc,od,.func (PySem.W.fnOf name qual params body scope dV kV doc pm an cdv ct),osl⟩) (hcd:PySem.W.codeIn K cdv qual=true) (S:aA N ps scope)
    (len:∀ vs H Q E,sp vs H Q E→vs.length=ps.length)
    (hbody:∀ (A:Around) (outer:List Env) (s:Shared) (H:Hp) (vs:List V) (Q:VK) (E:XK),dS k (A.deeper (envOfC qual scope s.heap.objs.size f cdv))→sp vs H Q E→
      ∃ t,PSs (uJ CX P w K mg base N qual scope f cdv A outer s H E) body t∧t { nx:=fun _ H'=>Q .non H',rt:=Q } (start N vs) H) :
    gT P w K mg base CX (k+1) f (PySem.W.fnOf name qual params body scope dV kV doc pm an cdv ct) ps sp:=by
  refine ⟨len,fun A outer s H args us vs Q E hr e0 hb r hsp=>?_⟩
  have hl:=len _ _ _ _ hsp
  have KX:K.In s.heap:=e0.mod.kin.keeps fun b o e=>(e0.bs b o e).1
  have lim:s.heap.NoLimit:=e0.mod.nolimit.keeps fun b o e=>(e0.bs b o e).1
  have ig:∀ y∈ps.zip us,scope.names.lookup y.1=some .local∨(scope.names.lookup y.1=some .cell∧((cellsFrom (s.heap.objs.size+1) scope.names []).lookup y.1).isSome=true):=fun ⟨n,v⟩ hy=>by
    rcases S.par n (List.of_mem_zip hy).1 with q | q
    · exact .inl q
    · exact .inr ⟨q,PySem.W.cellsFrom_some _ _ _ (.inl q)⟩
  refine codeAny_call_function hr.depth (KX _ _ lk) rfl S.co S.gen rfl (PySem.W.codeRec_of KX hcd) (hb _ _ _ _ ?_)
  refine wpAny_newFunctionEnv_cells S.kind ig fun env he s1 x=>?_
  subst he
  refine ⟨lim.keeps x.toInCall.keep,codeAny_func ?_⟩
  obtain ⟨t,ht,hq⟩:=hbody A outer s H vs Q E (hr.deeper _) hsp
  have I:Inv (uJ CX P w K mg base N qual scope f cdv A outer s H E) [] (start N vs) H s1:=Ac S hr.hd e0 hl r x
  refine wpAny_mono (ht [] s1 (start N vs) H _ I hq) (fun fl s' hs=>?_) fun e s' hs=>hs
  have fin:∀ {σ':St} {H':Hp} {v:V} {u:Value},Inv (uJ CX P w K mg base N qual scope f cdv A outer s H E) [] σ' H' s'→RelV v u→Q v H'→CE outer P w H s Q u s':=
    fun {σ' H' v u} J rv q=>⟨v,H',J.os,J.bare,J.base,J.hok,rv,q⟩
  cases fl with
  | ret u=>
    obtain ⟨v,σ',H',J,rv,q⟩:=hs
    exact fin J rv q
  | next=>
    obtain ⟨σ',H',J,q⟩:=hs
    exact fin (v:=V.non) (u:=Value.none) J rfl q
  | brk=>
    obtain ⟨_,_,_,q⟩:=hs
    exact False.elim q
  | cont=>
    obtain ⟨_,_,_,q⟩:=hs
    exact False.elim q
end L2
namespace L2
open PySem PySem.Spec PyProof.Rows
section
variable {X:Cx} {x:Str} {p pos:Pos} {e:Expr} {es:List Expr} {t:TA} {id T:String} {r:List V→Hp→VK→Prop}
def tCB (r:List V→Hp→VK→Prop)(t:TA):TE:=fun σ H Q=>t σ H fun vs H1=>r vs H1 Q
theorem o5 (hc:bQ X (.builtin id) r)(hg:Gl X x)(hm:X.mg x=none)(hv:bootBuiltins x=some (.builtin id))(ha:PA X (e::es) t)(hn:x ≠ "__name__" := by decide)(hdb:(x == ("__debug__" : Str))=false:=by decide)
    (he:starEach (e::es) X.env=(false,eval e X.env)::starEach es X.env:=by rfl) (hpl:(backTo pos (starEach es X.env)).any (·.1)=false:=by rfl):PE X (.Call (.Name x p) (e::es) [] pos) (tCB r t):=by
  intro pins s σ H Q I h
  refine wpAny_Call_Name_kw (kG I hg hm hv ?_ hn hdb)
  exact PyProof.Rows.callWith_builtin1 (thn (ha pos pins s σ H _ I h) fun us s1 ⟨vs,H1,I1,r1,q1⟩=>hc pins s1 σ H1 vs us Q I1 r1 q1) he hpl
theorem rg (hc:bQ X (.type T) r)(hg:Gl X x)(hm:X.mg x=none)(hv:bootBuiltins x=some (.type T))(ha:PA X (e::es) t)(hn:x ≠ "__name__" := by decide)(hdb:(x == ("__debug__" : Str))=false:=by decide)
    (he:starEach (e::es) X.env=(false,eval e X.env)::starEach es X.env:=by rfl) (hpl:(backTo pos (starEach es X.env)).any (·.1)=false:=by rfl):PE X (.Call (.Name x p) (e::es) [] pos) (tCB r t):=by
  intro pins s σ H Q I h
  refine wpAny_Call_Name_kw (kG I hg hm hv ?_ hn hdb)
  exact PyProof.Rows.callWith_type1 (thn (ha pos pins s σ H _ I h) fun us s1 ⟨vs,H1,I1,r1,q1⟩=>hc pins s1 σ H1 vs us Q I1 r1 q1) he hpl
end
end L2
namespace HT
open PySem PyProof.Rows
section
open PySem.SeqAt
open PySem.AutoSeq1 (wpAny_loadPart')
open PySem.MeetsSeq PySem.MeetsSeq2 PySem.MeetsSeq3
end
section
variable {prog:Program} {w:World} {A:Around} {E:Value→Shared→Prop} {s:Shared}
theorem EM {t b:Addr}{vs ws:List Value}{Q:Value→Shared→Prop}(ht:IsTup s.heap t vs.toArray)(hb:IsTup s.heap b ws.toArray)(hv:vs≠[])
    (h1:ws=[]→Q (.ref t) s) (h2:ws≠[]→Q (.ref s.heap.objs.size) { s with heap:=s.heap.push { cls:=.type "tuple", data:=.seq (vs++ws).toArray } })
    (hsz:vs.length+ws.length≤sizeLine):wpAny (model prog w) A (binaryOp .Add (.ref t) (.ref b)) Q E s:=by
  obtain ⟨⟨cls,dd,data,sl⟩,ho,hc,n,hd⟩:=id ht
  obtain ⟨⟨cls2,dd2,data2,sl2⟩,ho2,hc2,n2,hd2⟩:=id hb
  simp only at hc hd hc2 hd2
  subst hc hd hc2 hd2
  have e:vs.toArray++ws.toArray=(vs++ws).toArray:=by simp
  by_cases hw:ws=[]
  · exact concat_meets ⟨_,ho,rfl⟩ ⟨_,ho2,rfl⟩ noFill_tuple_add seq_tuple_add PySem.F.slot_tuple_add PySem.F.entry_tuple_add (PySem.F.args_tuple_add_2 _ _)
      (tuple_addW1 t b vs.toArray ws.toArray n n2 dd dd2 sl sl2 (by simpa using hv) (by simp[hw])) ⟨ho,ho2,h1 hw⟩
  · refine concat_meets ⟨_,ho,rfl⟩ ⟨_,ho2,rfl⟩ noFill_tuple_add seq_tuple_add PySem.F.slot_tuple_add PySem.F.entry_tuple_add (PySem.F.args_tuple_add_2 _ _)
      (tuple_addW2 t b vs.toArray ws.toArray n n2 dd dd2 sl sl2 (by simpa using hv) (by simpa using hw) (by rw[List.size_toArray,List.size_toArray];exact hsz)) ⟨ho,ho2,?_⟩
    rw[e]
    exact h2 hw
def sIx (n d:Nat):Option Int→Nat
  | none=>d
  | some v=>if v < 0 then (v+(n:Int)).toNat else min v.toNat n
theorem D6 (n d:Nat):sIx n d none=d:=rfl
theorem Er (n d k:Nat):sIx n d (some (k:Int))=min k n:=by
  show (if (k:Int) < 0 then ((k:Int)+(n:Int)).toNat else min (k:Int).toNat n)=min k n
  rw[if_neg (by omega),Int.toNat_natCast]
theorem Jx (n d:Nat)(hd:d≤n)(o:Option Int):sIx n d o≤n:=by
  cases o with
  | none=>exact hd
  | some v=>
    show (if v < 0 then (v+(n:Int)).toNat else min v.toNat n)≤n
    by_cases hv:v < 0
    · rw[if_pos hv];omega
    · rw[if_neg hv];exact Nat.min_le_right _ _
theorem yV (v:Int)(n d:Nat):(if v < 0 then max (v+(n:Int)) 0 else min v (n:Int))=((sIx n d (some v):Nat):Int):=by
  show (if v < 0 then max (v+(n:Int)) 0 else min v (n:Int))=(((if v < 0 then (v+(n:Int)).toNat else min v.toNat n):Nat):Int)
  by_cases hv:v < 0
  · simp only[if_pos hv];omega
  · simp only[if_neg hv];omega
theorem xA (lo hi:Option Int)(n:Nat):Builtin.Slice.sliceAdjust lo hi 1 (n:Int)=(((sIx n 0 lo:Nat):Int),((sIx n n hi:Nat):Int)):=by
  have h1:¬ ((1:Int) < 0):=by omega
  unfold Builtin.Slice.sliceAdjust
  simp only[h1,if_false]
  refine Prod.ext ?_ ?_
  · cases lo with
    | none=>rfl
    | some v=>exact yV v n 0
  · cases hi with
    | none=>rfl
    | some v=>exact yV v n n
theorem yu (i j:Nat):Builtin.Slice.slicePlaces (i:Int) (j:Int) 1=j - i:=by
  unfold Builtin.Slice.slicePlaces
  have h1:(1:Int) > 0:=by omega
  simp only[h1,if_true,Int.ediv_one]
  split<;>omega
theorem oF {v:Value}{o:Option Int}{Q:Option Int→Shared→Prop}(p:IsPart v o)(h:Q o s):wpAny (model prog w) A (Builtin.Slice.slicePartIndex v) Q E s:=by
  cases p with
  | none=>exact slicePart_none h
  | int i t=>exact slicePart_int h
theorem fQ {sl:Addr}{vl vu:Value}{lo hi:Option Int}{n:Nat}{Q:Int×Int×Nat→Shared→Prop}(hs:s.heap.IsSliceOf sl vl vu .none)(pl:IsPart vl lo)(pu:IsPart vu hi)
    (h:Q (((sIx n 0 lo:Nat):Int),1,sIx n n hi - sIx n 0 lo) s):wpAny (model prog w) A (Builtin.Slice.sliceApplied (.ref sl) (pure (n:Int))) Q E s:=by
  obtain ⟨os,hos,hcs,hds⟩:=id hs
  unfold Builtin.Slice.sliceApplied Builtin.Slice.sliceFields
  refine wpAny_bind (wpAny_bind (wpAny_field hos hds (x:=vl) rfl (wpAny_bind (wpAny_field hos hds (x:=vu) rfl (wpAny_bind (wpAny_field hos hds (x:=.none) rfl (wpAny_pure ?_)))))))
  refine wpAny_bind (slicePart_none ?_)
  show wpAny _ _ (if ((1:Int) == 0)=true then _ else _) _ _ s
  rw[if_neg (by decide)]
  refine wpAny_bind (oF pl (wpAny_bind (oF pu (wpAny_bind (wpAny_pure ?_)))))
  show wpAny _ _ (match Builtin.Slice.sliceAdjust lo hi 1 (n:Int) with | (lo,hi)=>pure (lo,(1:Int),Builtin.Slice.slicePlaces lo hi 1)) _ _ s
  rw[xA lo hi n]
  show wpAny _ _ (pure (((sIx n 0 lo:Nat):Int),(1:Int),Builtin.Slice.slicePlaces ((sIx n 0 lo:Nat):Int) ((sIx n n hi:Nat):Int) 1)) _ _ s
  rw[yu]
  exact wpAny_pure h
theorem Bo (xs:Array Value)(i k:Nat):((List.range k).filterMap fun (m:Nat)=>xs[((i:Int)+(m:Int)*1).toNat]?).toArray=((xs.toList.drop i).take k).toArray:=by
  have e:(fun (m:Nat)=>xs[((i:Int)+(m:Int)*1).toNat]?)=fun m=>xs[i+m]?:=by
    funext m
    have:((i:Int)+(m:Int)*1).toNat=i+m:=by omega
    rw[this]
  rw[e]
  have:=pick_run xs i k
  rw[List.filterMap_map] at this
  have e2:((fun x=>xs[x]?) ∘ fun x=>i+x)=fun m=>xs[i+m]?:=rfl
  rw[e2] at this
  rw[this]
theorem j0 {t sl:Addr}{items:Array Value}{vl vu:Value}{lo hi:Option Int}{Q:Value→Shared→Prop}(ht:IsTup s.heap t items)(hs:s.heap.IsSliceOf sl vl vu .none)(pl:IsPart vl lo)(pu:IsPart vu hi)
    (hw:¬ (sIx items.size 0 lo=0∧sIx items.size items.size hi=items.size))
    (h:Q (.ref s.heap.objs.size) { s with heap:=s.heap.push { cls:=.type "tuple", data:=.seq ((items.toList.drop (sIx items.size 0 lo)).take (sIx items.size items.size hi - sIx items.size 0 lo)).toArray } })
    (hsz:items.size≤sizeLine):wpAny (model prog w) A (getItem (.ref t) (.ref sl)) Q E s:=by
  have zJ:sizeOk (.seq ((items.toList.drop (sIx items.size 0 lo)).take (sIx items.size items.size hi - sIx items.size 0 lo)).toArray):=by
    show ((items.toList.drop (sIx items.size 0 lo)).take (sIx items.size items.size hi - sIx items.size 0 lo)).toArray.size≤sizeLine
    rw[List.size_toArray,List.length_take,List.length_drop,Array.length_toList]
    omega
  have hj:sIx items.size items.size hi≤items.size:=Jx _ _ (Nat.le_refl _) hi
  obtain ⟨os,hos,hcs,hds⟩:=id hs
  have hTs:s.TypeIs (.ref sl) "slice" := ⟨os,hos,hcs⟩
  unfold getItem
  try with_reducible refine wpAny_holding ?_
  first | refine wpAny_bind (wpAny_pure ?_) | skip
  refine wpAny_bind (wpAny_sequenceKey ht.typeIs (by decide) ?_)
  refine wpAny_bind (wpAny_callSpecial?_slot (name:=Str.ofString "__getitem__") ht.typeIs PyProof.Rows.slot_tuple_getitem
    (wpAny_call_entry PyProof.Rows.slot_tuple_getitem ht.typeIs entry_tuple_getitem ?_ (args_tuple_getitem _ _)))
  show wpAny _ _ (Builtin.Tuple.tupleItemsOf (.ref t) >>= _) _ _ s
  refine wpAny_bind (tupleItemsOf_ ht ?_)
  refine wpAny_bind (wpAny_typeOf hTs ?_)
  rw[if_pos (by decide)]
  refine wpAny_bind (fQ hs pl pu ?_)
  have hno:¬ ((((sIx items.size 0 lo:Nat):Int) == 0&&(1:Int) == 1&&(sIx items.size items.size hi - sIx items.size 0 lo) == items.size)=true):=by
    intro q
    rw[Bool.and_eq_true,Bool.and_eq_true] at q
    have q1:((sIx items.size 0 lo:Nat):Int)=0:=eq_of_beq q.1.1
    have q2:sIx items.size items.size hi - sIx items.size 0 lo=items.size:=eq_of_beq q.2
    exact hw ⟨by omega,by omega⟩
  show wpAny _ _ (if (((sIx items.size 0 lo:Nat):Int) == 0&&(1:Int) == 1&&(sIx items.size items.size hi - sIx items.size 0 lo) == items.size)=true then _ else _) _ _ s
  rw[if_neg hno,Bo]
  first
    | exact wpAny_bind (m:=Builtin.Tuple.tupleExact _) (wpAny_newObj_type (wpAny_pure ⟨_,rfl,wpAny_pure h⟩) zJ)
    | exact wpAny_bind (m:=Builtin.Tuple.tupleExact _) (wpAny_newObj_type (wpAny_bind (wpAny_pure (wpAny_pure ⟨_,rfl,wpAny_pure h⟩))) zJ)
    | exact wpAny_bind (wpAny_bind (m:=Builtin.Tuple.tupleExact _) (wpAny_newObj_type (wpAny_pure (wpAny_pure ⟨_,rfl,wpAny_pure h⟩)) zJ))
    | exact wpAny_bind (wpAny_bind (m:=Builtin.Tuple.tupleExact _) (wpAny_newObj_type (wpAny_pure ⟨_,rfl,wpAny_pure h⟩) zJ))
end
end HT
namespace L2
open PySem PySem.Spec PyProof.Rows
abbrev TO:=St→Hp→(Option Int→Hp→Prop)→Prop
def PO (X:Cx)(e:Option Expr)(t:TO):Prop:=
  ∀ (pins:List (Addr×Obj)) (s:Shared) (σ:St) (H:Hp) (Q:Option Int→Hp→Prop),Inv X pins σ H s→t σ H Q→
    wpAny (model X.prog X.w) X.A (evalPart e X.env) (fun u s'=>∃ o H',Inv X pins σ H' s'∧IsPart u o∧Q o H') X.xe s
def Ga:TO:=fun _ H Q=>Q none H
def Ky (t:TE):TO:=fun σ H Q=>t σ H fun x H1=>∃ i,x=.int i∧Q (some i) H1
section
variable {X:Cx} {e:Expr} {te:TE} {lo hi:Option Expr} {tl th:TO} {pos p2:Pos}
theorem FV:PO X none Ga:=by
  intro pins s σ H Q I h
  rw[evalPart_none]
  exact wpAny_pure ⟨none,H,I,.none,h⟩
theorem FC (h:PE X e te):PO X (some e) (Ky te):=by
  intro pins s σ H Q I hw
  rw[evalPart_some]
  refine thn (h pins s σ H _ I hw) fun u s1 ⟨x,H1,I1,r1,q1⟩=>?_
  obtain ⟨i,rfl,q⟩:=q1
  obtain ⟨t,rfl⟩:=r1
  exact ⟨some i,H1,I1,.int i t,q⟩
def SlR (X:Cx)(r:V→Option Int→Option Int→Hp→VK→Prop):Prop:=
  ∀ (pins:List (Addr×Obj)) (s:Shared) (σ:St) (H:Hp) (x:V) (v vl vu:Value) (lo hi:Option Int) (sl:Addr) (Q:VK),Inv X pins σ H s→RelV x v→s.heap.IsSliceOf sl vl vu .none→IsPart vl lo→IsPart vu hi→r x lo hi H Q→
    ∃ T id,typeLookup (.type T) "__getitem__" = pure (some (.builtin id))∧s.TypeIs v T∧wpAny (model X.prog X.w) X.A (getItem v (.ref sl)) (EP X pins σ Q) X.xe s
theorem SlR.or {r r':V→Option Int→Option Int→Hp→VK→Prop}(h:SlR X r)(h':SlR X r'):SlR X (fun x lo hi H Q=>r x lo hi H Q∨r' x lo hi H Q):=by
  intro pins s σ H x v vl vu lo hi sl Q I rx hs pl pu q
  rcases q with q | q
  · exact h pins s σ H x v vl vu lo hi sl Q I rx hs pl pu q
  · exact h' pins s σ H x v vl vu lo hi sl Q I rx hs pl pu q
def tSl (r:V→Option Int→Option Int→Hp→VK→Prop)(te:TE)(tl th:TO):TE:=fun σ H Q=>te σ H fun x H1=>tl σ H1 fun l H2=>th σ H2 fun u H3=>r x l u H3 Q
theorem A3 {r:V→Option Int→Option Int→Hp→VK→Prop}(hr:SlR X r)(he:PE X e te)(hl:PO X lo tl)(hu:PO X hi th):PE X (.Subscript e (.Slice lo hi none p2) pos) (tSl r te tl th):=by
  intro pins s σ H Q I h
  refine Subscript_ (thn (he pins s σ H _ I h) fun v s1 ⟨x,H1,I1,r1,q1⟩=>?_)
  refine wpAny_Slice (thn (hl pins s1 σ H1 _ I1 q1) fun vl s2 ⟨l,H2,I2,pl,q2⟩=>thn (hu pins s2 σ H2 _ I2 q2) fun vu s3 ⟨u,H3,I3,pu,q3⟩=>?_)
  rw[evalPart_none]
  refine wpAny_pure ?_
  have I4:Inv X pins σ H3 { s3 with heap:=s3.heap.push { cls:=.type "slice", data:=.fields #[vl,vu,.none] } }:=I3.kept (t':=s3.toks) fun b ob q=>Heap.get?_push_of_some _ q
  obtain ⟨T,id,hT,ht,hg⟩:=hr pins { s3 with heap:=s3.heap.push { cls:=.type "slice", data:=.fields #[vl,vu,.none] } } σ H3 x v vl vu l u s3.heap.objs.size Q I4 r1 (Heap.IsSliceOf.new ..) pl pu q3
  show wpAny (model X.prog X.w) X.A (subscriptTail e (.Slice lo hi none p2) v (.ref s3.heap.objs.size)) (EP X pins σ Q) X.xe { s3 with heap:=s3.heap.push { cls:=.type "slice", data:=.fields #[vl,vu,.none] } }
  exact tail_any (ops:=[.ref s3.heap.objs.size,v]) ht hT hg (by with_unfolding_all rfl)
def vE (xs:List V)(lo hi:Option Int):List V:=(xs.drop (HT.sIx xs.length 0 lo)).take (HT.sIx xs.length xs.length hi - HT.sIx xs.length 0 lo)
theorem lS (xs:List V)(lo hi:Option Int):(vE xs lo hi).length≤xs.length:=by
  unfold vE
  rw[List.length_take,List.length_drop]
  omega
def MR (K:PySem.W.Frag):V→Option Int→Option Int→Hp→VK→Prop:=fun x lo hi H Q=>∃ a xs,x=.ref a∧SqT K H a xs∧
  ¬ (HT.sIx xs.length 0 lo=0∧HT.sIx xs.length xs.length hi=xs.length)∧∀ p,H p=none→Q (.ref p) (upd H p (.tup (vE xs lo hi)))
theorem I0:SlR X (MR X.K):=by
  intro pins s σ H x v vl vu lo hi sl Q I rx hs pl pu h
  obtain ⟨a,xs,rfl,hx,hw,q⟩:=h
  cases rx
  obtain ⟨its,r,ht,hz⟩:=I.tuple hx
  have hlen:its.toArray.size=xs.length:=by rw[List.size_toArray];exact r.length.symm
  refine ⟨"tuple", _,PyProof.Rows.slot_tuple_getitem.lookup,ht.typeIs,?_⟩
  refine HT.j0 ht hs pl pu (by rw[hlen];exact hw) ?_ (by rw[hlen];exact hz)
  rw[hlen]
  refine ⟨.ref s.heap.objs.size,_,I.laid (t':=s.toks) (o:=.tup (vE xs lo hi)) (fun b ob q=>Heap.get?_push_of_some _ q) (Nat.le_refl _) ?_,rfl,q _ (I.hok.fresh (Nat.le_refl _))⟩
  exact ⟨Nat.le_trans (lS xs lo hi) hz,_,(r.drop (HT.sIx xs.length 0 lo)).take (HT.sIx xs.length xs.length hi - HT.sIx xs.length 0 lo),vg.new _ _⟩
def GW (K:PySem.W.Frag):R2:=fun x y H Q=>∃ a b xs ys,x=.ref a∧y=.ref b∧SqT K H a xs∧SqT K H b ys∧xs≠[]∧xs.length+ys.length≤sizeLine∧
  (ys=[]→Q (.ref a) H)∧(ys≠[]→∀ p,H p=none→Q (.ref p) (upd H p (.tup (xs++ys))))
theorem Vals.tY {xs:List V}{us:List Value}(r:Vals xs us):us=[]↔xs=[]:=by
  cases r with
  | nil=>simp
  | cons _ _=>simp
theorem Fg:OpR X (binaryOp .Add) (GW X.K):=by
  intro pins s σ H x y v u Q I rx ry h
  obtain ⟨a,b,xs,ys,rfl,rfl,ha,hb,hx,hz,q1,q2⟩:=h
  cases rx
  cases ry
  obtain ⟨its,r1,p1,_⟩:=I.tuple ha
  obtain ⟨its2,r2,p2,_⟩:=I.tuple hb
  refine HT.EM p1 p2 (fun z=>hx (r1.tY.mp z)) (fun z=>⟨.ref a,H,I,rfl,q1 (r2.tY.mp z)⟩) (fun z=>?_) (by rw[← r1.length,← r2.length];exact hz)
  refine ⟨.ref s.heap.objs.size,_,I.laid (t':=s.toks) (o:=.tup (xs++ys)) (fun b ob q=>Heap.get?_push_of_some _ q) (Nat.le_refl _) ?_,rfl,q2 (fun w=>z (r2.tY.mpr w)) _ (I.hok.fresh (Nat.le_refl _))⟩
  exact ⟨by rw[List.length_append];exact hz,_,r1.append r2,vg.new _ _⟩
end
end L2
namespace L2
open PySem PySem.Spec PyProof.Rows
def ixN (n:Nat)(i:Int):Option Nat:=if 0≤i then (if i < n then some i.toNat else none) else if -(n:Int)≤i then some (i+n).toNat else none
def atI {α:Type}(xs:List α)(i:Int):Option α:=(ixN xs.length i).bind fun j=>xs[j]?
theorem yQ {n:Nat}{i:Int}{j:Nat}(h:ixN n i=some j):seqIndex? i n=some j∧j < n∧-(n:Int)≤i∧i < n:=by
  unfold ixN at h
  by_cases h0:0≤i
  · rw[if_pos h0] at h
    by_cases h1:i < n
    · rw[if_pos h1] at h
      have e:i.toNat=j:=Option.some.inj h
      exact ⟨by rw[seqIndex_of h0 h1,e],by omega,by omega,h1⟩
    · rw[if_neg h1] at h;cases h
  · rw[if_neg h0] at h
    by_cases h1:-(n:Int)≤i
    · rw[if_pos h1] at h
      have e:(i+n).toNat=j:=Option.some.inj h
      exact ⟨by rw[seqIndex_neg (by omega) h1,e],by omega,h1,by omega⟩
    · rw[if_neg h1] at h;cases h
theorem rP {α:Type}{xs:List α}{i:Int}{v:α}(h:atI xs i=some v):∃ j,seqIndex? i xs.length=some j∧xs[j]? = some v∧j < xs.length∧-(xs.length:Int)≤i∧i < xs.length:=by
  unfold atI at h
  cases e:ixN xs.length i with
  | none=>rw[e] at h;cases h
  | some j=>
    rw[e] at h
    obtain ⟨h1,h2,h3,h4⟩:=yQ e
    exact ⟨j,h1,h,h2,h3,h4⟩
def y9 (b:Expr):Prop:=∀ o i,subscripted b false o i=operate [o,i] (getItem o i)
def IxR (X:Cx)(r:R2):Prop:=
  ∀ (value slice:Expr) (pins:List (Addr×Obj)) (s:Shared) (σ:St) (H:Hp) (x y:V) (v u:Value) (Q:VK),Inv X pins σ H s→RelV x v→RelV y u→r x y H Q→
    subscripted slice false v u=operate [v,u] (getItem v u)→wpAny (model X.prog X.w) X.A (subscriptTail value slice v u) (EP X pins σ Q) X.xe s
def MtR (X:Cx)(id:String)(r:V→List V→Hp→VK→Prop):Prop:=
  ∀ (pins:List (Addr×Obj)) (s:Shared) (σ:St) (H:Hp) (x:V) (xs:List V) (v:Value) (us:List Value) (Q:VK),Inv X pins σ H s→RelV x v→Vals xs us→r x xs H Q→
    wpAny (model X.prog X.w) X.A (call (.builtin id) (v::us)) (EP X pins σ Q) X.xe s
section
variable {X:Cx} {a b:Expr} {ta tb:TE} {pos:Pos}
theorem IxR.or {r r':R2}(h:IxR X r)(h':IxR X r'):IxR X (fun x y H Q=>r x y H Q∨r' x y H Q):=by
  intro value slice pins s σ H x y v u Q I rx ry q hs
  rcases q with q | q
  · exact h value slice pins s σ H x y v u Q I rx ry q hs
  · exact h' value slice pins s σ H x y v u Q I rx ry q hs
theorem MtR.or {id:String}{r r':V→List V→Hp→VK→Prop}(h:MtR X id r)(h':MtR X id r'):MtR X id (fun x xs H Q=>r x xs H Q∨r' x xs H Q):=by
  intro pins s σ H x xs v us Q I rx rs q
  rcases q with q | q
  · exact h pins s σ H x xs v us Q I rx rs q
  · exact h' pins s σ H x xs v us Q I rx rs q
theorem Kr {r:R2}(hr:IxR X r)(ha:PE X a ta)(hb:PE X b tb)(hs:y9 b):PE X (.Subscript a b pos) (tOp r ta tb):=by
  intro pins s σ H Q I h
  exact Subscript_ (J1 ha hb I h fun v u s2 x y H2 I2 rx ry q=>hr a b pins s2 σ H2 x y v u Q I2 rx ry q (hs _ _))
def KO (K:PySem.W.Frag):R2:=fun x y H Q=>∃ p xs i v,x=.ref p∧y=.int i∧SqL K H p xs∧atI xs i=some v∧Q v H
def Lj (K:PySem.W.Frag):R2:=fun x y H Q=>∃ p xs i v,x=.ref p∧y=.int i∧SqT K H p xs∧atI xs i=some v∧Q v H
def Ks:R2:=fun x y H Q=>∃ z i c,x=.str z∧y=.int i∧z.length≤sizeLine∧atI z.cps.toList i=some c∧Q (.str ⟨#[c]⟩) H
theorem F1:IxR X (KO X.K):=by
  intro value slice pins s σ H x y v u Q I rx ry h hs
  obtain ⟨p,xs,i,z,rfl,rfl,hq,he,q⟩:=h
  cases rx
  obtain ⟨t,rfl⟩:=ry
  obtain ⟨its,r,pl,hz⟩:=I.list hq
  obtain ⟨j,h1,h2,h3,h4,h5⟩:=rP he
  obtain ⟨w,ew,rw'⟩:=r.get h2
  have hl:=r.length
  have hn:=jz
  have fin:EP X pins σ Q w s:=⟨z,H,I,rw',q⟩
  by_cases h0:0≤i
  · have hj:i.toNat=j:=by
      rw[seqIndex_of h0 h5] at h1
      exact Option.some.inj h1
    exact item_listR pl.isList h0 (by omega) (by rw[hj];simpa using ew) fin hs
  · have hj:(i+(its.toArray.size:Int)).toNat=j:=by
      rw[seqIndex_neg (by omega) h4] at h1
      rw[List.size_toArray,← hl]
      exact Option.some.inj h1
    exact subscriptTail_builtinR (x:=w) pl.isList.typeIs slot_list_getitem.lookup
      (wpAny_getItem_list_neg (Q:=fun r s'=>r=w∧EP X pins σ Q r s') pl.isList (by omega) (by rw[List.size_toArray]<;>omega) (by omega) (by rw[hj];simpa using ew) ⟨rfl,fin⟩) hs
theorem Hq:IxR X (Lj X.K):=by
  intro value slice pins s σ H x y v u Q I rx ry h hs
  obtain ⟨p,xs,i,z,rfl,rfl,hq,he,q⟩:=h
  cases rx
  obtain ⟨t,rfl⟩:=ry
  obtain ⟨its,r,pl,hz⟩:=I.tuple hq
  obtain ⟨j,h1,h2,h3,h4,h5⟩:=rP he
  obtain ⟨w,ew,rw'⟩:=r.get h2
  have hl:=r.length
  have hn:=jz
  have fin:EP X pins σ Q w s:=⟨z,H,I,rw',q⟩
  exact subscriptTail_builtinR (x:=w) pl.typeIs slot_tuple_getitem.lookup
    (getItem_tuple (j:=j) (Q:=fun r s'=>r=w∧EP X pins σ Q r s') pl (by omega) (by omega) (by rw[List.size_toArray,← hl];exact h1) (by simpa using ew) ⟨rfl,fin⟩) hs
theorem IA:IxR X Ks:=by
  intro value slice pins s σ H x y v u Q I rx ry h hs
  obtain ⟨z,i,c,rfl,rfl,hz,he,q⟩:=h
  obtain ⟨t,rfl⟩:=rx
  obtain ⟨t',rfl⟩:=ry
  obtain ⟨j,h1,h2,h3,h4,h5⟩:=rP he
  have hl:z.cps.toList.length=z.length:=by simp[Str.length]
  rw[hl] at h1 h4 h5
  have hn:=jz
  exact tail_any (typeIs_str s z t) slot_str_getitem.lookup (getItem_str (c:=c) (by
    have e1:decide (i < -(2 ^ 63:Int))=false:=decide_eq_false (by omega)
    have e2:decide (i ≥ 2 ^ 63)=false:=decide_eq_false (by omega)
    rw[e1,e2,Bool.or_false]) (by rw[h1];simpa using h2) ⟨.str ⟨#[c]⟩,H,I.tok _,⟨_,rfl⟩,q⟩) hs
def rIx (K:PySem.W.Frag):R2:=fun x y H Q=>KO K x y H Q∨Lj K x y H Q∨Ks x y H Q
theorem Js:IxR X (rIx X.K):=F1.or (Hq.or IA)
theorem yy (its:List Value)(n j:Nat)(u:Value):Obj.mapSeq (·.setIfInBounds j u) { cls:=.type "list", data:=.seq its.toArray n }={ cls:=.type "list", data:=.seq (its.set j u).toArray n }:=by
  simp[Obj.mapSeq]
theorem Inv.lst {pins:List (Addr×Obj)}{σ:St}{H:Hp}{s:Shared}{p:Addr}{xs:List V}(I:Inv X pins σ H s)(h:H p=some (.lst xs)) :
    ∃ (its:List Value) (n:Nat),Vals xs its∧s.heap.get? p=some { cls:=.type "list", data:=.seq its.toArray n }∧xs.length≤sizeLine:=by
  obtain ⟨z,its,n,r,e⟩:=I.hok p _ h
  exact ⟨its,n,r,e,z⟩
theorem Inv.HS {pins:List (Addr×Obj)}{σ:St}{H:Hp}{s:Shared}{p:Addr}{xs ys:List V}{its its':List Value}{n n':Nat}{f:Obj→Obj}(I:Inv X pins σ H s)(h:H p=some (.lst xs))
    (ho:s.heap.get? p=some { cls:=.type "list", data:=.seq its.toArray n }) (hf:f { cls:=.type "list", data:=.seq its.toArray n }={ cls:=.type "list", data:=.seq its'.toArray n' }) (r:Vals ys its') (hz:ys.length≤sizeLine) (t:Nat) :
    Inv X pins σ (upd H p (.lst ys)) { s with heap:=s.heap.update p f,toks:=t }:=by
  have e:(s.heap.update p f).get? p=some { cls:=.type "list", data:=.seq its'.toArray n' }:=by
    rw[Heap.get?_update_self f ho (by rw[hf]<;>rfl),hf]
  refine I.write (x:=p) (e:=p) (by rw[h];trivial) (.inl rfl) (fun b u hb q=>(Heap.get?_update_other _ _ (Ne.symm hb)).trans q) ⟨_,e⟩ ?_
  exact ⟨hz,its',n',r,e⟩
def LN:V→V→V→Hp→(Hp→Prop)→Prop:=fun o i v H Q=>∃ p xs k j,o=.ref p∧i=.int k∧H p=some (.lst xs)∧ixN xs.length k=some j∧Q (upd H p (.lst (xs.set j v)))
theorem set_list:Ls X LN:=by
  intro pins s σ H o i v ov iv u Q I ro ri rv h
  obtain ⟨p,xs,k,j,rfl,rfl,hp,hj,q⟩:=h
  cases ro
  obtain ⟨t,rfl⟩:=ri
  obtain ⟨its,n,r,ho,hz⟩:=I.lst hp
  obtain ⟨h1,h2,h3,h4⟩:=yQ hj
  have hl:=r.length
  have hn:=jz
  have I':Inv X pins σ (upd H p (.lst (xs.set j v))) { s with heap:=s.heap.update p (Obj.mapSeq (·.setIfInBounds j u)) }:=
    I.HS hp ho (yy its n j u) (r.set rv j) (by rw[List.length_set];exact hz) s.toks
  by_cases h0:0≤k
  · have hk:k.toNat=j:=by
      rw[seqIndex_of h0 h4] at h1
      exact Option.some.inj h1
    exact PySem.W.ki_setAt ho h0 (by omega) (by rw[List.size_toArray,← hl];exact h4) (by rw[hk];exact ⟨_,I',q⟩)
  · have hk:(k+(its.toArray.size:Int)).toNat=j:=by
      rw[seqIndex_neg (by omega) h3] at h1
      rw[List.size_toArray,← hl]
      exact Option.some.inj h1
    exact PySem.W.ki_setBack ho (by omega) (by rw[List.size_toArray,← hl];exact h3) (by omega) (by rw[hk];exact ⟨_,I',q⟩)
theorem tQ (lo hi:Option Int)(n:Nat):(sliceBounds lo hi none n).1=((HT.sIx n 0 lo:Nat):Int)∧(sliceBounds lo hi none n).2.1=((HT.sIx n n hi:Nat):Int)∧(sliceBounds lo hi none n).2.2=1:=by
  refine ⟨?_,?_,rfl⟩
  · cases lo with
    | none=>simp[sliceBounds,HT.sIx]
    | some i=>
      simp only[sliceBounds,HT.sIx,Option.getD_none,show (1:Int) > 0 by decide,if_true]
      by_cases h:i < 0
      · simp only[h,if_true]<;>omega
      · simp only[h,if_false]<;>omega
  · cases hi with
    | none=>simp[sliceBounds,HT.sIx]
    | some i=>
      simp only[sliceBounds,HT.sIx,Option.getD_none,show (1:Int) > 0 by decide,if_true]
      by_cases h:i < 0
      · simp only[h,if_true]<;>omega
      · simp only[h,if_false]<;>omega
theorem qh (its:List Value)(lo hi:Option Int):slicePick its.toArray lo hi none=((its.drop (HT.sIx its.length 0 lo)).take (HT.sIx its.length its.length hi - HT.sIx its.length 0 lo)).toArray:=by
  obtain ⟨h1,h2,h3⟩:=tQ lo hi its.toArray.size
  unfold slicePick
  rw[h1,h2,h3]
  simp only[sliceRange_one,pick_run,List.size_toArray]<;>rfl
def Mh (K:PySem.W.Frag):V→Option Int→Option Int→Hp→VK→Prop:=fun x lo hi H Q=>∃ a xs,x=.ref a∧SqL K H a xs∧∀ p,H p=none→Q (.ref p) (upd H p (.lst (vE xs lo hi)))
theorem F2:SlR X (Mh X.K):=by
  intro pins s σ H x v vl vu lo hi sl Q I rx hs pl pu h
  obtain ⟨a,xs,rfl,hx,q⟩:=h
  cases rx
  obtain ⟨its,r,ht,hz⟩:=I.list hx
  have hlen:=r.length
  refine ⟨"list", _,slot_list_getitem.lookup,ht.isList.typeIs,?_⟩
  refine wpAny_getItem_list_slice ht.isList hs pl pu .none (by simp) ?_ (by rw[List.size_toArray]<;>omega)
  rw[qh,← hlen]
  refine ⟨.ref s.heap.objs.size,_,I.laid (t':=s.toks) (o:=.lst (vE xs lo hi)) (fun b ob q=>Heap.get?_push_of_some _ q) (Nat.le_refl _) ?_,rfl,q _ (I.hok.fresh (Nat.le_refl _))⟩
  exact ⟨Nat.le_trans (lS xs lo hi) hz,_,0,(r.drop (HT.sIx xs.length 0 lo)).take (HT.sIx xs.length xs.length hi - HT.sIx xs.length 0 lo),Heap.get?_push_size _ rfl⟩
def Gy:V→Bool
  | .non=>true
  | .bl _=>true
  | .int _=>true
  | .str _=>true
  | _=>false
def eqV:V→V→Bool
  | .non,.non=>true
  | .bl a,.bl b=>a == b
  | .bl a,.int b=>(if a then 1 else 0) == b
  | .int a,.bl b=>a == (if b then 1 else 0)
  | .int a,.int b=>a == b
  | .str a,.str b=>a == b
  | _,_=>false
def inV (x:V)(xs:List V):Bool:=xs.any fun y=>eqV y x
def rIn (K:PySem.W.Frag)(neg:Bool):R2:=fun x y H Q=>∃ p xs,y=.ref p∧(SqL K H p xs∨SqT K H p xs)∧Gy x=true∧xs.all Gy=true∧Q (.bl (if neg then !inV x xs else inV x xs)) H
theorem sI:bQ X (.builtin "len") (fun xs H Q=>∃ p ys,xs=[.ref p]∧(SqL X.K H p ys∨SqT X.K H p ys)∧Q (.int ys.length) H):=by
  intro pins s σ H xs us Q I r h
  obtain ⟨p,ys,rfl,hq,q⟩:=h
  obtain ⟨u,rfl,rx⟩:=vals1 r
  cases rx
  have hn:=jz
  rcases hq with hq | hq
  · obtain ⟨its,r',pl,hz⟩:=I.list hq
    have hlen:=r'.length
    exact Calls.call_len_list pl.isList (by simp only[List.size_toArray]<;>omega) ⟨.int ys.length,H,I.tok _,⟨s.toks+1,by rw[List.size_toArray,hlen]⟩,q⟩
  · obtain ⟨its,r',pl,hz⟩:=I.tuple hq
    have hlen:=r'.length
    exact len_tuple pl (by simp only[List.size_toArray]<;>omega) ⟨.int ys.length,H,I.tok _,⟨s.toks+1,by rw[List.size_toArray,hlen]⟩,q⟩
theorem sU:bQ X (.builtin "len") (fun xs H Q=>∃ z,xs=[.str z]∧z.length≤sizeLine∧Q (.int z.length) H):=by
  intro pins s σ H xs us Q I r h
  obtain ⟨z,rfl,hz,q⟩:=h
  obtain ⟨u,rfl,t,rfl⟩:=vals1 r
  have hn:=jz
  exact len_str (by omega) ⟨.int z.length,H,I.tok _,⟨_,rfl⟩,q⟩
theorem bQ.or {f:Value}{r r':List V→Hp→VK→Prop}(h:bQ X f r)(h':bQ X f r'):bQ X f (fun xs H Q=>r xs H Q∨r' xs H Q):=by
  intro pins s σ H xs us Q I rs q
  rcases q with q | q
  · exact h pins s σ H xs us Q I rs q
  · exact h' pins s σ H xs us Q I rs q
theorem ud:bQ X (.type "list") (fun xs H Q=>∃ p ys,xs=[.ref p]∧(SqL X.K H p ys∨SqT X.K H p ys)∧∀ l,H l=none→Q (.ref l) (upd H l (.lst ys))):=by
  intro pins s σ H xs us Q I r h
  obtain ⟨p,ys,rfl,hq,q⟩:=h
  obtain ⟨u,rfl,rx⟩:=vals1 r
  cases rx
  have fin:∀ (its:List Value),Vals ys its→ys.length≤sizeLine→∀ (h':Heap) (c':Nat),(∀ b o',s.heap.get? b=some o'→h'.get? b=some o')→
      h'.get? s.heap.objs.size=some { cls:=.type "list", dict:=none,data:=.seq its.toArray c',slots:=#[] }→EP X pins σ Q (.ref s.heap.objs.size) { s with heap:=h' }:=fun its r' hz h' c' kp e=>
    ⟨.ref s.heap.objs.size,_,I.laid (t':=s.toks) kp (Nat.le_refl _) (show cj X.prog X.w _ h' _ (.lst ys) from ⟨hz,its,c',r',e⟩),rfl,q _ (I.hok.fresh (Nat.le_refl _))⟩
  rcases hq with hq | hq
  · obtain ⟨its,r',pl,hz⟩:=I.list hq
    have hlen:=r'.length
    obtain ⟨o,ho,hc,n,hd⟩:=pl.isList
    exact call_list_seq p (.inl rfl) ho hc hd (fun h' c' kp e=>fin its r' hz h' c' kp e) (by simp only[List.size_toArray]<;>omega)
  · obtain ⟨its,r',pl,hz⟩:=I.tuple hq
    have hlen:=r'.length
    obtain ⟨o,ho,hc,n,hd⟩:=pl
    exact call_list_seq p (.inr rfl) ho hc hd (fun h' c' kp e=>fin its r' hz h' c' kp e) (by simp only[List.size_toArray]<;>omega)
theorem bw:bQ X (.type "tuple") (fun xs H Q=>∃ p ys,xs=[.ref p]∧((SqL X.K H p ys∧∀ l,H l=none→Q (.ref l) (upd H l (.tup ys)))∨(SqT X.K H p ys∧Q (.ref p) H))):=by
  intro pins s σ H xs us Q I r h
  obtain ⟨p,ys,rfl,h⟩:=h
  obtain ⟨u,rfl,rx⟩:=vals1 r
  cases rx
  rcases h with ⟨hq,q⟩ | ⟨hq,q⟩
  · obtain ⟨its,r',pl,hz⟩:=I.list hq
    have hlen:=r'.length
    refine call_tuple_list pl.isList (fun h' kp=>?_) (by simp only[List.size_toArray]<;>omega)
    have I1:Inv X pins σ H { s with heap:=h' }:=I.kept (t':=s.toks) kp
    have I2:Inv X pins σ (upd H h'.objs.size (.tup ys)) { s with heap:=h'.push { cls:=.type "tuple", data:=.seq its.toArray } }:=
      I1.laid (t':=s.toks) (fun b o e=>Heap.get?_push_of_some _ e) (Nat.le_refl _) (show cj X.prog X.w _ _ _ (.tup ys) from ⟨hz,its,r',vg.new _ _⟩)
    exact ⟨.ref h'.objs.size,_,I2,rfl,q _ (I1.hok.fresh (Nat.le_refl _))⟩
  · obtain ⟨its,r',pl,hz⟩:=I.tuple hq
    exact call_tuple_same pl ⟨.ref p,H,I,rfl,q⟩
def tyV (K:PySem.W.Frag)(T:String)(x:V)(H:Hp):Prop:=match x with
  | .str _=>T = "str"
  | .int _=>T = "int"
  | .ref p=>(T = "list" ∧ ∃ xs,SqL K H p xs)∨(T = "tuple" ∧ ∃ o,K.lookup p=some o∧o.cls=.type "tuple" ∧ o.dict=none)∨
      (T = "dict" ∧ ((∃ kvs,H p=some (.dK kvs))∨∃ kvs,H p=some (.dT kvs)))∨(T = "set" ∧ ∃ S n,H p=some (.set S n))
  | _=>False
theorem Jz {pins:List (Addr×Obj)}{σ:St}{H:Hp}{s:Shared}{T:String}{x:V}{v:Value}(I:Inv X pins σ H s)(r:RelV x v)(ty:tyV X.K T x H) :
    s.TypeIs v T∧∀ a,v=.ref a→∃ ob,s.heap.get? a=some ob∧ob.dict=none:=by
  cases x with
  | str z=>
    obtain ⟨t,rfl⟩:=r
    cases (show T = "str" from ty)
    exact ⟨typeIs_str s z t,fun _ e=>nomatch e⟩
  | int i=>
    obtain ⟨t,rfl⟩:=r
    cases (show T = "int" from ty)
    exact ⟨typeIs_int s i t,fun _ e=>nomatch e⟩
  | ref p=>
    cases r
    rcases ty with ⟨rfl,xs,hq⟩ | ⟨rfl,o,hk,hc,hd⟩ | ⟨rfl,hk⟩ | ⟨rfl,S,n,hk⟩
    · obtain ⟨its,_,pl,_⟩:=I.list hq
      refine ⟨pl.isList.typeIs,fun a e=>?_⟩
      cases e
      obtain ⟨o,n,e,c,hd,_⟩:=pl
      exact ⟨o,e,hd⟩
    · refine ⟨⟨o,I.kIn p o hk,hc⟩,fun a e=>?_⟩
      cases e
      exact ⟨o,I.kIn _ o hk,hd⟩
    · have z:∃ o,s.heap.get? p=some o∧o.ExactDict:=by
        rcases hk with ⟨kvs,hk⟩ | ⟨kvs,hk⟩
        · obtain ⟨_,_,_,_,o,_,_,e,ex,_⟩:=I.hok p _ hk
          exact ⟨o,e,ex⟩
        · obtain ⟨_,_,_,_,o,_,_,e,ex,_⟩:=I.hok p _ hk
          exact ⟨o,e,ex⟩
      obtain ⟨o,e,ex⟩:=z
      refine ⟨⟨o,e,ex.1⟩,fun a e2=>?_⟩
      cases e2
      exact ⟨o,e,ex.2.1⟩
    · obtain ⟨o,_,_,_,e,ex,_⟩:=I.hok p _ hk
      refine ⟨⟨o,e,ex.1⟩,fun a e2=>?_⟩
      cases e2
      exact ⟨o,e,ex.2.1⟩
  | _=>exact False.elim ty
def tBM (K:PySem.W.Frag)(T:String)(r:V→List V→Hp→VK→Prop)(to:TE)(t:TA):TE:=fun σ H Q=>to σ H fun x H1=>tyV K T x H1∧t σ H1 fun xs H2=>r x xs H2 Q
variable {o e:Expr} {es:List Expr} {to:TE} {t:TA} {name:Str} {apos cpos:Pos} {T id:String} {r:V→List V→Hp→VK→Prop}
theorem BP (pa:PlainAttrs T)(slot:Slot T name id)(hty:typeOf (.builtin id)=pure (.type "method_descriptor"))(hm:MtR X id r)(ho:PE X o to)(ha:PA X (e::es) t)
    (hbase:attributeBase o name X.env (eval o X.env)=eval o X.env:=by rfl)
    (hfew:((backTo cpos (starEach (e::es) X.env)).all (fun x=>!x.1)&&(backToKw cpos (keywordEach [] X.env)).all (fun x=>x.1.isSome)
      && decide ((e::es).length+([]:List Keyword).length+(if ([]:List Keyword).isEmpty then 0 else 1) < 30))=true:=by rfl)
    (hline:(apos.endLine == cpos.line)=true:=by rfl) (hs:starEach (e::es) X.env=(false,eval e X.env)::starEach es X.env:=by rfl) (hplain:(backTo cpos (starEach es X.env)).any (·.1)=false:=by rfl) :
    PE X (.Call (.Attribute o name apos) (e::es) [] cpos) (tBM X.K T r to t):=by
  intro pins s σ H Q I h
  refine wpAny_Call_method_late hbase hfew hline rfl (thn (ho pins s σ H _ I h) fun v s1 ⟨x,H1,I1,r1,ty,q1⟩=>?_)
  obtain ⟨h1,h2⟩:=Jz I1 r1 ty
  refine ⟨T,id,pa,slot,hty,h1,h2,?_⟩
  have hA:=ha cpos pins s1 σ H1 _ I1 q1
  rw[hs] at hA ⊢
  refine Calls.callWith_builtin (by show (false || (backTo cpos (starEach es X.env)).any (·.1))=false;rw[hplain]<;>rfl) (Calls.evalArgs_plain ?_)
  exact thn hA fun us s2 ⟨vs,H2,I2,r2,q2⟩=>hm pins s2 σ H2 x vs v us Q I2 r1 r2 q2
end
end L2
namespace L2
open PySem PySem.Spec PyProof.Rows
def MtM (X:Cx)(id:String)(r:V→List V→Hp→VK→Prop):Prop:=
  ∀ (pins:List (Addr×Obj)) (s:Shared) (σ:St) (H:Hp) (x:V) (xs:List V) (v:Value) (us:List Value) (Q:VK),Inv X pins σ H s→RelV x v→Vals xs us→r x xs H Q→
    wpAny (model X.prog X.w) X.A (call (.builtin id) (v::us)) (EP X pins σ Q) X.xe s
theorem Vals.one:∀ {x:V} {us:List Value},Vals [x] us→∃ u,us=[u]∧RelV x u
  | _,_,.cons r .nil=>⟨_,rfl,r⟩
theorem Vals.two:∀ {x y:V} {us:List Value},Vals [x,y] us→∃ u v,us=[u,v]∧RelV x u∧RelV y v
  | _,_,_,.cons r (.cons q .nil)=>⟨_,_,rfl,r,q⟩
theorem Vals.zero:∀ {us:List Value},Vals [] us→us=[]
  | _,.nil=>rfl
theorem Vals.eraseIdx:∀ {xs:List V} {us:List Value} (i:Nat),Vals xs us→Vals (xs.eraseIdx i) (us.eraseIdx i)
  | _,_,_,.nil=>.nil
  | _,_,0,.cons _ t=>t
  | _,_,i+1,.cons r t=>.cons r (Vals.eraseIdx i t)
theorem Vals.reverse {xs:List V}{us:List Value}(h:Vals xs us):Vals xs.reverse us.reverse:=by
  induction h with
  | nil=>exact .nil
  | cons r t ih=>rw[List.reverse_cons,List.reverse_cons];exact Vals.append ih (.cons r .nil)
theorem Vals.rep {xs:List V}{us:List Value}(h:Vals xs us):∀ k:Nat,Vals (List.replicate k xs).flatten (List.replicate k us).flatten
  | 0=>.nil
  | k+1=>by
    rw[List.replicate_succ,List.replicate_succ,List.flatten_cons,List.flatten_cons]
    exact Vals.append h (Vals.rep h k)
theorem qO {α:Type}:∀ (l:List α) (i:Nat),(l.eraseIdx i).length≤l.length
  | [],_=>Nat.le_refl _
  | _::_,0=>Nat.le_succ _
  | _::r,i+1=>Nat.succ_le_succ (qO r i)
section
variable {X:Cx} {pins:List (Addr×Obj)} {σ:St} {H:Hp} {s:Shared} {l b:Addr} {xs ys zs:List V}
theorem Inv.KU {its its':List Value}{n:Nat}{f:Array Value→Array Value}{t':Nat}(I:Inv X pins σ H s)(hH:H l=some (.lst xs))
    (e:s.heap.get? l=some { cls:=.type "list", data:=.seq its.toArray n }) (hf:f its.toArray=its'.toArray) (hv:Vals ys its') (hz:ys.length≤sizeLine) :
    Inv X pins σ (upd H l (.lst ys)) { s with heap:=s.heap.update l (Obj.mapSeq f),toks:=t' }:=by
  have q:=PySem.IsL.update e f
  rw[hf] at q
  refine I.write (x:=l) (e:=l) (by rw[hH];exact trivial) (.inl rfl) (fun b' u hb hu=>(Heap.get?_update_other s.heap (Obj.mapSeq f) (Ne.symm hb)).trans hu) ⟨_,q⟩ ?_
  exact ⟨hz,its',_,hv,q⟩
theorem Inv.MG {its:List Value}{t':Nat}(I:Inv X pins σ H s)(hv:Vals ys its)(hz:ys.length≤sizeLine) :
    Inv X pins σ (upd H s.heap.objs.size (.lst ys)) { s with heap:=s.heap.push { cls:=.type "list", data:=.seq its.toArray },toks:=t' }:=
  I.laid (fun _ _ q=>Heap.get?_push_of_some _ q) (Nat.le_refl _) ⟨hz,its,0,hv,Heap.get?_push_size _ rfl⟩
theorem Inv.fresh (I:Inv X pins σ H s):H s.heap.objs.size=none:=I.hok.fresh (Nat.le_refl _)
theorem Inv.Lc (I:Inv X pins σ H s)(hH:H l=some (.lst xs)):xs.length≤sizeLine∧∃ (its:List Value) (n:Nat),Vals xs its∧xs.length=its.length∧s.heap.get? l=some { cls:=.type "list", data:=.seq its.toArray n }:=by
  obtain ⟨z,its,n,r,e⟩:=I.hok l _ hH
  exact ⟨z,its,n,r,r.length,e⟩
end
section
variable {X:Cx}
def Eh:V→List V→Hp→VK→Prop:=fun x vs H Q=>∃ l xs y,x=.ref l∧vs=[y]∧H l=some (.lst xs)∧xs.length < sizeLine∧Q .non (upd H l (.lst (xs++[y])))
theorem kU:MtM X "list.append" Eh:=by
  intro pins s σ H x vs v us Q I rx rv h
  obtain ⟨l,xs,y,rfl,rfl,hH,hz,q⟩:=h
  cases rx
  obtain ⟨u,rfl,ru⟩:=rv.one
  obtain ⟨z,its,n,r,hl,e⟩:=I.Lc hH
  refine call_meets F.slot_list_append ⟨_,e,rfl⟩ F.entry_list_append (F.args_list_append_2 _ _) (PySem.list_append l its.toArray n u (by rw[List.size_toArray];omega)) ⟨e,?_⟩
  refine ⟨.non,_,I.KU (its':=its++[u]) hH e (by simp) (r.append (.cons ru .nil)) ?_,rfl,q⟩
  rw[List.length_append,List.length_singleton]
  omega
def HA:V→List V→Hp→VK→Prop:=fun x vs H Q=>∃ l xs i k y,x=.ref l∧vs=[.int i]∧H l=some (.lst xs)∧-(2 ^ 63)≤i∧i < 2 ^ 63∧seqIndex? i xs.length=some k∧xs[k]? = some y∧Q y (upd H l (.lst (xs.eraseIdx k)))
theorem Cd:MtM X "list.pop" HA:=by
  intro pins s σ H x vs v us Q I rx rv h
  obtain ⟨l,xs,i,k,y,rfl,rfl,hH,h1,h2,hk,hy,q⟩:=h
  cases rx
  obtain ⟨u,rfl,ru⟩:=rv.one
  obtain ⟨t,rfl⟩:=ru
  obtain ⟨z,its,n,r,hl,e⟩:=I.Lc hH
  obtain ⟨w,hw,rw'⟩:=r.get hy
  refine call_meets F.slot_list_pop ⟨_,e,rfl⟩ F.entry_list_pop (F.args_list_pop_2 _ _)
    (MeetsSeq.list_pop_at l its.toArray n i t k w (fitsIndex_both h1 h2) (by rw[List.size_toArray,← hl];exact hk) (by rw[← Array.getElem?_toList];exact hw) (by rw[List.size_toArray];omega)) ⟨e,?_⟩
  refine ⟨y,_,I.KU (its':=its.eraseIdx k) hH e ?_ (r.eraseIdx k) ?_,rw',q⟩
  · show its.toArray.eraseIdxIfInBounds k=(its.eraseIdx k).toArray
    rw[List.eraseIdxIfInBounds_toArray]
  · have:=qO xs k
    omega
end
section
variable {prog:Program} {w:World} {A:Around} {E:Value→Shared→Prop} {s:Shared}
end
section
variable {X:Cx}
end
end L2
namespace Att
open PySem PySem.W PySem.Calls PyProof.Rows
theorem l6 {P:Params}{h:Heap}:∀ (ns:List Int) (vs:List Value),WellAll P h vs (ns.map WData.int)→IntsAre vs ns:=by
  intro ns
  induction ns with
  | nil=>
    intro vs w
    rw[List.map_nil] at w
    cases w
    exact .nil
  | cons n ns ih=>
    intro vs w
    rw[List.map_cons] at w
    cases w with
    | cons a b=>
      cases a
      exact .cons _ _ (ih _ b)
theorem Ak {l:OpenLaw}{n:Nat}(hn:l.most=some n){P:Params}{h:Heap}{args:List WData}{vals:List Value}
    (hpre:l.row.toRowW.claim.pre args=true) (hwl:WellAll P h vals args) :
    ∃ a vs ns,vals=[Value.ref a]∧args=[WData.list (ns.map WData.int)]∧h.get? a=some { cls:=.type "list", data:=.seq vs.toArray }∧IntsAre vs ns∧ns.length≤n:=by
  have hsh:WShape.hasAll [] args [.list .int]=true:=(pre_splitW hpre).1
  have hc:l.pre.holds [] { args:=args }=true:=(pre_splitW hpre).2
  obtain ⟨d,r,rfl,h1,h2⟩:=hasAllW_cons hsh
  obtain rfl:=hasAllW_nil h2
  obtain ⟨xs,rfl,h3⟩:=hasW_list h1
  obtain ⟨ns,rfl⟩:=items_int h3
  have hlen:ns.length≤n:=by
    unfold OpenLaw.pre at hc
    have h4:(WTm.not (.lt (.lit (.int (n:Int))) (.len (.arg 0)))).holds [] { args:=[.list (ns.map .int)] }=true:=by
      have h4:=(holds_andW hc).1
      rw[hn] at h4
      exact h4
    have h5:=condW_of h4 (w_not (w_lt w_lit (w_len_list (w_arg rfl))))
    rw[List.length_map] at h5
    refine Nat.le_of_not_lt fun q=>?_
    have q':(n:Int) < ((ns.length:Nat):Int):=by omega
    first
      | (rw[decide_eq_true q'] at h5;exact absurd h5 (by decide))
      | (simp at h5;omega)
  cases hwl with
  | cons w1 w2=>
    cases w2
    cases w1 with
    | list ho hall=>exact ⟨_,_,ns,rfl,rfl,ho,l6 ns _ hall,hlen⟩
theorem z5 (l:OpenLaw)(args:List WData):l.row.toRowW.claim.post args (.bool true) args=true:=
  postW_of (r:=l.row.toRowW) (X:=(true == true))
    (show WShape.has [] (.bool true) .bool=true by first | rfl | decide | simp[WShape.has,WShape.arms,WShape.armsAll])
    (show (WTm.eq .res (.lit (.bool true))).value [] { args:=args,res:=some (.bool true),after:=args }=some (.bool (true == true)) from w_eq_bool (w_res rfl) w_lit) rfl
theorem vz {l:OpenLaw}{n:Nat}{q:Program}{loose:List Str}{XP:(Str→Option Value)→Heap→Prop}{YP:World→Heap→Prop}{d:DefRec}
    (hn:l.most=some n) (hdf:d.params.defaults=[])
    (call:∀ (w:World) (s₀ s₁:Shared) (mg mb:Str→Option Value) (fa:Addr) (o:Obj) (pm cd doc:Value) (a:Addr) (vs:List Value) (ns:List Int),
      Ground q loose [] XP w s₀ mg mb s₁.heap→YP w s₁.heap→
      s₁.heap.get? fa=some o→o.data=.func (docDef d.name d.params d.body d.scope pm cd doc)→s₁.heap.CodeRec cd d.name→mg d.name=some (.ref fa)→
      s₁.heap.get? a=some { cls:=.type "list", data:=.seq vs.toArray }→IntsAre vs ns→ns.length≤n→s₁.gens = #[]→
      codeAny (model l.prog w) callerA (.call (.ref fa) ⟨[.ref a],[]⟩) (fun r s'=>r=.ok (.ret (.bool true))∧OldK s₁.heap s'.heap∧s'.os=s₁.os∧AllBare s'.gens) s₁) :
    WalkO q loose XP YP l.row.toRowW d [] (fun f vs=>PySem.call f vs):=by
  intro w s₀ s₁ mg mb G Y fa o pm cd doc dV kV ho hd hcd hD hmg hg args vals as hpre hlay hrd hwl hlo
  obtain rfl:dV=.none:=Dflts.none hD hdf
  obtain rfl:kV=.none:=Dflts.noKw hD
  obtain ⟨a,vs,ns,rfl,rfl,hobj,hints,hlen⟩:=Ak hn hpre hwl
  refine enter_call (codeAny_mono (call w s₀ s₁ mg mb fa o pm cd doc a vs ns G Y ho (fd_plain hd) hcd hmg hobj hints hlen hg) fun r s' hq=>?_)
  obtain ⟨rfl,h2,h3,h4⟩:=hq
  exact ⟨.inl ⟨.bool true,.bool true,[],rfl,fun _=>rfl,.bool true,z5 l _,fun _=>⟨List.Pairwise.nil,fun _ hm=>(nomatch hm)⟩⟩,h2,h3,h4⟩
section
variable {prog:Program} {w:World} {A:Around} {E:Value→Shared→Prop} {s:Shared} {K:Frag}
end
end Att
namespace L2
open PySem PySem.Spec PyProof.Rows
theorem rD:∀ {vs:List Value} {ns:List Int},IntsAre vs ns→Vals (ns.map V.int) vs
  | _,_,.nil=>.nil
  | _,_,.cons n t h=>.cons ⟨t,rfl⟩ (rD h)
def FH (H:Hp):Prop:=∀ b,H b=none∨∃ o xs,H b=some (.frz o (.lst xs))
theorem CJ {P:Program}{w:World}{K:PySem.W.Frag}{mg mb:Str→Option Value}{CX:CXT}{k:Nat}{fa a:Addr}{fd:FuncData}{x:Str}{sp:Sp}{s₁:Shared}{vs:List Value}{ns:List Int}
    (KX:K.In s₁.heap) (hns:s₁.heap.Ns mainGlobals mg) (hb:s₁.heap.Ns builtinsNs mb) (hbb:∀ x:Str,x ≠ "__name__" → mb x=bootBuiltins x) (hlim:s₁.heap.NoLimit) (hg:s₁.gens = #[])
    (ha:s₁.heap.get? a=some { cls:=.type "list", data:=.seq vs.toArray }) (hi:IntsAre vs ns) (hl:ns.length≤sizeLine) (hr:dS k callerA)
    (F:∀ base:Heap,K.In base→base.Ns mainGlobals mg→gT P w K mg base CX k fa fd [x] sp) (hbind:∀ (s:Shared) (u:Value),BindsTo s fd ⟨[u],[]⟩ [(x,u)])
    (hsp:∀ H:Hp,FH H→SqL K H a (ns.map V.int)→sp [.ref a] H (fun v _=>v=.bl true) fun _ _ _=>False)
    (hCX:∀ H e s',CX [] H s₁ (fun _ _ _=>False) e s'→False) :
    codeAny (model P w) callerA (.call (.ref fa) ⟨[.ref a],[]⟩) (fun r s'=>r=.ok (.ret (.bool true))∧OldK s₁.heap s'.heap∧s'.os=s₁.os∧AllBare s'.gens) s₁:=by
  have rv:=rD hi
  have ML:=hi.length
  -- from an abstract heap in which nothing but the script may be tracked
  have core:∀ H:Hp,FH H→SqL K H a (ns.map V.int)→HOk P w H s₁.heap→(∀ b,H b≠none→b=a)→(H a≠none→K.lookup a=none)→
      codeAny (model P w) callerA (.call (.ref fa) ⟨[.ref a],[]⟩) (fun r s'=>r=.ok (.ret (.bool true))∧OldK s₁.heap s'.heap∧s'.os=s₁.os∧AllBare s'.gens) s₁:=by
    intro H hO hS hok hA hK
    have base_of:∀ {b:Addr} {o:Obj},s₁.heap.get? b=some o→H b=none→(tw s₁.heap H).get? b=some o:=fun e n=>Co e n
    have noA:∀ {b:Addr} {o:Obj} {es:Array DictEntry} {ep:Nat},s₁.heap.get? b=some o→o.data=.dict es ep→H b=none:=fun {b o es ep} e d=>by
      cases q:H b with
      | none=>rfl
      | some u=>
        have e':b=a:=hA b (by rw[q];simp)
        subst e'
        rw[ha] at e;cases e
        have d':Data.seq vs.toArray _=Data.dict es ep:=d
        cases d'
    have nsK:∀ {b:Addr} {m:Str→Option Value},s₁.heap.Ns b m→(tw s₁.heap H).Ns b m:=fun {b m} ⟨o,es,ep,e,d,r⟩=>⟨o,es,ep,base_of e (noA e d),d,r⟩
    have hKb:K.In (tw s₁.heap H):=fun b o e=>base_of (KX b o e) (by
      cases q:H b with
      | none=>rfl
      | some u=>
        have e':b=a:=hA b (by rw[q];simp)
        subst e'
        rw[hK (by rw[q];simp)] at e;cases e)
    have hM:Mod K mg (tw s₁.heap H):=⟨hKb,nsK hns,⟨mb,nsK hb,hbb⟩,let ⟨mc,h1,h2⟩:=hlim;⟨mc,nsK h1,h2⟩⟩
    have e0:xT P w K mg (tw s₁.heap H) callerA [] s₁ H:=⟨rfl,hM,fun b o e=>EK e,Nat.le_of_eq (AG _ _),trivial,fun b hb=>absurd (show b∈([]:List Addr) from hb) (by simp),hok,.of_eq hg⟩
    refine codeAny_mono ((F _ hKb (nsK hns)).run callerA [] s₁ H ⟨[.ref a],[]⟩ [.ref a] [.ref a] _ _ hr e0 (hbind s₁ (.ref a)) (.cons rfl .nil) (hsp H hO hS)) fun r s' h=>?_
    cases r with
    | error e=>exact (hCX H e s' h).elim
    | ok fl=>
      cases fl with
      | next=>exact False.elim h
      | brk=>exact False.elim h
      | cont=>exact False.elim h
      | ret u=>
        obtain ⟨v,H',os,bare,un,hok',r',q⟩:=h
        have q':v=.bl true:=q
        subst q'
        obtain rfl:u=Value.bool true:=r'
        refine ⟨rfl,OldK.of_keep fun b o e=>?_,os,bare⟩
        cases q:H b with
        | none=>exact un.keep b o e q (by intro z;exact absurd (show b∈([]:List Addr) from z) (by simp)) (by simp)
        | some u=>
          rcases hO b with z | ⟨ob,xs,z⟩
          · rw[q] at z;cases z
          · have z2:=un.kz b ob _ z
            obtain ⟨e1,_⟩:=hok b _ z
            obtain ⟨e2,_⟩:=hok' b _ z2
            rw[e] at e1;cases e1
            exact e2
  cases hk:K.lookup a with
  | some o=>
    -- the script is one of the module's own objects
    have e:=KX a o hk
    rw[ha] at e
    cases e
    refine core (fun _=>none) (fun _=>.inl rfl) (.inr ⟨_,vs.toArray,_,hk,rfl,rfl,rfl,by rw[List.size_toArray,ML];exact hl,by simpa using rv⟩) (fun b u z=>by have z':(none:Option HO)=some u:=z;cases z') (fun b z=>absurd rfl z) fun z=>absurd rfl z
  | none=>
    refine core (fun b=>if b=a then some (.frz { cls:=.type "list", data:=.seq vs.toArray } (.lst (ns.map V.int))) else none) (fun b=>?_) (.inl (.inr ⟨{ cls:=.type "list", data:=.seq vs.toArray },if_pos rfl⟩)) (fun b u z=>?_) (fun b z=>?_) fun _=>hk
    · by_cases hb:b=a
      · exact .inr ⟨_,_,if_pos hb⟩
      · exact .inl (if_neg hb)
    · by_cases hb:b=a
      · have z':=(if_pos hb).symm.trans z
        cases z'
        subst hb
        exact ⟨ha,by rw[List.length_map];exact hl,vs,_,rv,ha⟩
      · have z':=(if_neg hb).symm.trans z
        cases z'
    · by_cases hb:b=a
      · exact hb
      · exact absurd (if_neg hb) z
end L2
namespace L2
open PySem PySem.Spec PyProof.Rows
theorem Gn {l:PySem.W.OpenLaw}{n k:Nat}{q:Program}{loose:List Str}{XP:(Str→Option Value)→Heap→Prop}{YP:World→Heap→Prop}{d:DefRec}{K:Params→PySem.W.Frag}{CX:World→CXT}{sp:World→Sp}{x:Str}
    (hn:l.most=some n) (hn2:n≤sizeLine) (hdf:d.params.defaults=[]) (hr:dS k callerA)
    (hY:∀ (w:World) (h:Heap),YP w h→(K w.params).In h)
    (F:∀ (w:World) (mg:Str→Option Value) (fa:Addr) (h:Heap),(K w.params).In h→h.Ns mainGlobals mg→mg d.name=some (.ref fa)→
      ∃ fd:FuncData,(∀ (s:Shared) (u:Value),BindsTo s fd ⟨[u],[]⟩ [(x,u)])∧
        ∀ base:Heap,(K w.params).In base→base.Ns mainGlobals mg→gT l.prog w (K w.params) mg base (CX w) k fa fd [x] (sp w))
    (hsp:∀ (w:World) (H:Hp) (a:Addr) (ns:List Int),ns.length≤n→FH H→SqL (K w.params) H a (ns.map V.int)→sp w [.ref a] H (fun v _=>v=.bl true) fun _ _ _=>False)
    (hCX:∀ (w:World) (H:Hp) (s:Shared) (e:Value) (s':Shared),CX w [] H s (fun _ _ _=>False) e s'→False) :
    PySem.W.WalkO q loose XP YP l.row.toRowW d [] (fun f vs=>PySem.call f vs):=by
  refine Att.vz hn hdf fun w s₀ s₁ mg mb fa o pm cd doc a vs ns G Y ho hd hcd hmg hobj hints hlen hg=>?_
  have KX:=hY w _ Y
  obtain ⟨fd,hb,hF⟩:=F w mg fa _ KX G.T.g hmg
  exact CJ KX G.T.g G.T.b G.T.builtins G.T.nolimit hg hobj hints (Nat.le_trans hlen hn2) hr hF hb (fun H hO hS=>hsp w H a ns hlen hO hS) fun H e s'=>hCX w H s₁ e s'
end L2
namespace L2
open PySem PySem.Spec PyProof.Rows
def j7 (s:Stmt):Arguments:=match s with
  | .FunctionDef _ a _ _ _ _ _ _ _ _=>a
  | _=>{ posonlyargs:=[],args:=[],vararg:=none,kwonlyargs:=[],kw_defaults:=[],kwarg:=none,defaults:=[] }
def fg (s:Stmt):List Stmt:=match s with
  | .FunctionDef _ _ b _ _ _ _ _ _ _=>b
  | _=>[]
def aq (s:Stmt):Scope:=match s with
  | .FunctionDef _ _ _ _ _ _ sc _ _ _=>sc
  | _=>{ kind:=.function,names:=[],isGenerator:=false,isCoroutine:=false }
abbrev CX0:CXT:=fun _ _ _ _ _ _=>False
abbrev E0:XK:=fun _ _ _=>False
theorem KH {X:Cx}:Passes CX0 X E0:=fun _ _ _ _ _ _ _ h=>h.elim
structure Fun (K:PySem.W.Frag) (x qual:Str) (st:Stmt) (f:Addr) (fd:FuncData):Prop where
  ex:∃ (oc:Value) (od:Option Addr) (kV doc pm:Value) (an:Option Addr) (cdv ct:Value) (osl:Array (Option Value)),
    fd=PySem.W.fnOf x qual (j7 st) (fg st) (aq st) .none kV doc pm an cdv ct∧K.lookup f=some ⟨oc,od,.func fd,osl⟩∧PySem.W.codeIn K cdv qual=true
  kp:PySem.W.keepIn K (.ref f)=true
section
variable {P:Program} {w:World} {K:PySem.W.Frag} {mg:Str→Option Value} {base:Heap}
theorem Fun.ok {x qual:Str}{st:Stmt}{f:Addr}{fd:FuncData}{N ps:List Str}{k:Nat}{sp:Sp}(F:Fun K x qual st f fd)(S:aA N ps (aq st))(len:∀ vs H Q E,sp vs H Q E→vs.length=ps.length)
    (hbody:∀ (cdv:Value) (A:Around) (outer:List Env) (s:Shared) (H:Hp) (vs:List V) (Q:VK) (E:XK),dS k (A.deeper (envOfC qual (aq st) s.heap.objs.size f cdv))→sp vs H Q E→
      ∃ t,PSs (uJ CX0 P w K mg base N qual (aq st) f cdv A outer s H E).nox (fg st) t∧t { nx:=fun _ H'=>Q .non H',rt:=Q } (start N vs) H):gT P w K mg base CX0 (k+1) f fd ps sp:=by
  obtain ⟨oc,od,kV,doc,pm,an,cdv,ct,osl,rfl,lk,hcd⟩:=F.ex
  refine Lm lk hcd S len fun A outer s H vs Q E hr hsp=>?_
  obtain ⟨t,h,q⟩:=hbody cdv A outer s H vs Q E hr hsp
  exact ⟨t,h.nox,q⟩
theorem Fun.binds {x qual:Str}{st:Stmt}{f:Addr}{fd:FuncData}{ps:List Str}(F:Fun K x qual st f fd)
    (h:∀ (kV doc pm:Value) (an:Option Addr) (cdv ct:Value) (us:List Value),us.length=ps.length→bindArgs (PySem.W.fnOf x qual (j7 st) (fg st) (aq st) .none kV doc pm an cdv ct) ⟨us,[]⟩=pure (ps.zip us)):Binds K fd ps []:=by
  obtain ⟨oc,od,kV,doc,pm,an,cdv,ct,osl,rfl,lk,hcd⟩:=F.ex
  exact .all (h kV doc pm an cdv ct)
theorem aK {x qual:Str}{st:Stmt}{f:Addr}{oc:Value}{od an:Option Addr}{osl:Array (Option Value)}{kV doc pm cdv ct:Value}(l:K.lookup f=some ⟨oc,od,.func (PySem.W.fnOf x qual (j7 st) (fg st) (aq st) .none kV doc pm an cdv ct),osl⟩)
    (c:PySem.W.codeIn K cdv qual=true) (k:PySem.W.keepIn K (.ref f)=true):Fun K x qual st f (PySem.W.fnOf x qual (j7 st) (fg st) (aq st) .none kV doc pm an cdv ct):=⟨⟨oc,od,kV,doc,pm,an,cdv,ct,osl,rfl,l,c⟩,k⟩
end
section
variable {X:Cx}
theorem pv (i:Nat){x:Str}{pos:Pos}(hN:X.N[i]? = some x:=by rfl)(hv:Vis X.env.scope x:=by first | exact Or.inl rfl | exact Or.inr (Or.inl rfl) | exact Or.inr (Or.inr rfl))(hd:(x == ("__debug__" : Str))=false:=by decide)
    (hcd:(x == ("__classdict__" : Str))=false:=by decide):PE X (.Name x pos) (K8 i):=CM hN hv hd hcd
end
theorem sY {A B:Prop}(h:B):if false=true then A else B:=by
  rw[if_neg Bool.false_ne_true]
  exact h
theorem rW {A B:Prop}(h:A):if true=true then A else B:=by
  rw[if_pos rfl]
  exact h
def qf (H H':Hp):Prop:=∀ b o,H b=some o→H' b=some o
theorem qf.refl (H:Hp):qf H H:=fun _ _ h=>h
theorem qf.trans {H H1 H2:Hp}(a:qf H H1)(b:qf H1 H2):qf H H2:=fun c o h=>b c o (a c o h)
theorem qf.free {H H':Hp}(e:qf H H'){l:Addr}(h:H' l=Option.none):H l=Option.none:=by
  cases q:H l with
  | none=>rfl
  | some o=>
    rw[e l o q] at h
    cases h
theorem qf.seq {K:PySem.W.Frag}{H H':Hp}{a:Addr}{xs:List V}(e:qf H H')(h:SqL K H a xs):SqL K H' a xs:=by
  rcases h with (h | ⟨o,h⟩) | h
  · exact .inl (.inl (e _ _ h))
  · exact .inl (.inr ⟨o,e _ _ h⟩)
  · exact .inr h
end L2
namespace L2
open PySem PySem.Spec PyProof.Rows
section
variable {κ:Type} [DecidableEq κ]
def gI (kvs:List (κ×V))(k:κ):Option V:=(kvs.find? fun kv=>decide (kv.1=k)).map (·.2)
def putK (kvs:List (κ×V))(k:κ)(v:V):List (κ×V):=
  if (kvs.any fun kv=>decide (kv.1=k))=true then kvs.map (fun kv=>if kv.1=k then (kv.1,v) else kv) else kvs++[(k,v)]
def Gw (kvs:List (κ×V))(k:κ):List (κ×V):=kvs.filter fun kv=>decide (kv.1≠k)
theorem kh {p:κ×V}{r:List (κ×V)}{k:κ}(e:p.1=k):gI (p::r) k=some p.2:=by simp[gI,List.find?_cons,e]
theorem j4 {p:κ×V}{r:List (κ×V)}{k:κ}(e:¬ p.1=k):gI (p::r) k=gI r k:=by simp[gI,List.find?_cons,e]
theorem vY (k:κ):∀ kvs:List (κ×V),(kvs.any fun kv=>decide (kv.1=k))=(gI kvs k).isSome
  | []=>rfl
  | p::r=>by
    rw[List.any_cons]
    by_cases e:p.1=k
    · simp only[kh e,decide_eq_true e,Bool.true_or,Option.isSome_some]
    · rw[j4 e,decide_eq_false e,Bool.false_or];exact vY k r
theorem iG (kvs:List (κ×V))(k:κ)(v:V):(putK kvs k v).length≤kvs.length+1:=by
  unfold putK
  split
  · rw[List.length_map];omega
  · rw[List.length_append,List.length_cons,List.length_nil];omega
theorem lA.fU {o:Option V}{u:Option Value}(r:lA o u):o.isSome=u.isSome:=by
  cases o with
  | none=>cases u with
    | none=>rfl
    | some _=>exact (show False from r).elim
  | some _=>cases u with
    | none=>exact (show False from r).elim
    | some _=>rfl
theorem lA.getD {o:Option V}{u:Option Value}{d:V}{d':Value}(r:lA o u)(rd:RelV d d'):RelV (o.getD d) (u.getD d'):=by
  cases o with
  | none=>cases u with
    | none=>exact rd
    | some _=>exact (show False from r).elim
  | some _=>cases u with
    | none=>exact (show False from r).elim
    | some _=>exact r
theorem KV.val {kvs:List (κ×V)}{vs:List (κ×Value)}(r:KV kvs vs)(k:κ):lA (gI kvs k) (valueAt vs k):=by
  unfold KV at r
  induction r with
  | nil=>exact True.intro
  | @cons p q ps qs h t ih=>
    obtain ⟨h1,h2⟩:=h
    by_cases e:p.1=k
    · have e':q.1=k:=h1.symm.trans e
      have b:valueAt (q::qs) k=some q.2:=by simp[valueAt,List.find?_cons,e']
      rw[kh e,b];exact h2
    · have e':¬ q.1=k:=fun z=>e (h1.trans z)
      have b:valueAt (q::qs) k=valueAt qs k:=by simp[valueAt,List.find?_cons,e']
      rw[j4 e,b];exact ih
theorem KV.any {kvs:List (κ×V)}{vs:List (κ×Value)}(r:KV kvs vs)(k:κ):(kvs.any fun kv=>decide (kv.1=k))=vs.any fun kv=>decide (kv.1=k):=by
  unfold KV at r
  induction r with
  | nil=>rfl
  | cons h t ih=>rw[List.any_cons,List.any_cons,ih,h.1]
theorem KV.Hu {kvs:List (κ×V)}{vs:List (κ×Value)}(r:KV kvs vs)(k:κ){y:V}{u:Value}(ry:RelV y u) :
    KV (kvs.map fun kv=>if kv.1=k then (kv.1,y) else kv) (vs.map fun kv=>if kv.1=k then (kv.1,u) else kv):=by
  unfold KV at r ⊢
  induction r with
  | nil=>exact .nil
  | @cons p q ps qs h t ih=>
    rw[List.map_cons,List.map_cons]
    refine .cons ?_ ih
    obtain ⟨h1,h2⟩:=h
    by_cases e:p.1=k
    · rw[if_pos e,if_pos (h1.symm.trans e)];exact ⟨h1,ry⟩
    · rw[if_neg e,if_neg (fun z=>e (h1.trans z))];exact ⟨h1,h2⟩
theorem KV.put {kvs:List (κ×V)}{vs:List (κ×Value)}(r:KV kvs vs)(k:κ){y:V}{u:Value}(ry:RelV y u):KV (putK kvs k y) (stored vs k u):=by
  unfold putK stored
  rw[r.any k]
  by_cases e:(vs.any fun kv=>decide (kv.1=k))=true
  · rw[if_pos e,if_pos e];exact r.Hu k ry
  · rw[if_neg e,if_neg e];exact Paired.snoc r ⟨rfl,ry⟩
theorem KV.drop {kvs:List (κ×V)}{vs:List (κ×Value)}(r:KV kvs vs)(k:κ):KV (Gw kvs k) (without vs k):=by
  unfold KV at r ⊢
  unfold Gw without
  induction r with
  | nil=>exact .nil
  | @cons p q ps qs h t ih=>
    obtain ⟨h1,h2⟩:=h
    rw[List.filter_cons,List.filter_cons]
    by_cases e:p.1=k
    · have a:¬ decide (p.1≠k)=true:=by simp[e]
      have b:¬ decide (q.1≠k)=true:=by simp[h1.symm.trans e]
      rw[if_neg a,if_neg b];exact ih
    · have e':¬ q.1=k:=fun z=>e (h1.trans z)
      have a:decide (p.1≠k)=true:=by simp[e]
      have b:decide (q.1≠k)=true:=by simp[e']
      rw[if_pos a,if_pos b];exact .cons ⟨h1,h2⟩ ih
theorem KV.keys {kvs:List (κ×V)}{vs:List (κ×Value)}(r:KV kvs vs):kvs.map (·.1)=vs.map (·.1):=by
  unfold KV at r
  induction r with
  | nil=>rfl
  | cons h t ih=>rw[List.map_cons,List.map_cons,ih,h.1]
theorem KV.length {kvs:List (κ×V)}{vs:List (κ×Value)}(r:KV kvs vs):kvs.length=vs.length:=Paired.length r
end
theorem oX {P:Program}{w:World}{k:Key}{u:Value}(r:RelV (kV k) u):(bE P w).is k u=true:=by
  cases k with
  | inl i=>obtain ⟨t,e⟩:=(show ∃ t,u=Value.int i t from r);subst e;exact vT P w i t
  | inr x=>obtain ⟨t,e⟩:=(show ∃ t,u=Value.str x t from r);subst e;exact vX P w x t
theorem qL {P:Program}{w:World}:∀ {ks:List Key} {us:List Value},Vals (ks.map kV) us→ItemsAre (bE P w) ks us
  | [],_,r=>by rw[List.map_nil] at r;cases r;exact .nil
  | k::ks,_,r=>by
    rw[List.map_cons] at r
    cases r with
    | cons h t=>exact .cons (oX h) (qL t)
abbrev KT (H:Hp):List (List Key×V)→List (List Key×Addr×Value)→Prop:=Paired fun p q=>p.1=q.1∧H q.2.1=some (.tup (p.1.map kV))∧RelV p.2 q.2.2
theorem KT.val {H:Hp}{kvs:List (List Key×V)}{xs:List (List Key×Addr×Value)}(r:KT H kvs xs)(k:List Key):lA (gI kvs k) ((atKey xs k).map (·.2)):=by
  induction r with
  | nil=>exact True.intro
  | @cons p q ps qs h t ih=>
    obtain ⟨h1,_,h2⟩:=h
    by_cases e:p.1=k
    · have e':q.1=k:=h1.symm.trans e
      have b:atKey (q::qs) k=some q.2:=by simp[atKey,List.find?_cons,e']
      rw[kh e,b];exact h2
    · have e':¬ q.1=k:=fun z=>e (h1.trans z)
      have b:atKey (q::qs) k=atKey qs k:=by simp[atKey,List.find?_cons,e']
      rw[j4 e,b];exact ih
theorem KT.Hu {H:Hp}{kvs:List (List Key×V)}{xs:List (List Key×Addr×Value)}(r:KT H kvs xs)(k:List Key){y:V}{u:Value}(ry:RelV y u) :
    KT H (kvs.map fun kv=>if kv.1=k then (kv.1,y) else kv) (xs.map (putAt k u)):=by
  induction r with
  | nil=>exact .nil
  | @cons p q ps qs h t ih=>
    rw[List.map_cons,List.map_cons]
    refine .cons ?_ ih
    obtain ⟨h1,h2,h3⟩:=h
    unfold putAt
    by_cases e:p.1=k
    · rw[if_pos e,if_pos (h1.symm.trans e)];exact ⟨h1,h2,ry⟩
    · rw[if_neg e,if_neg (fun z=>e (h1.trans z))];exact ⟨h1,h2,h3⟩
theorem KT.put {H:Hp}{kvs:List (List Key×V)}{xs:List (List Key×Addr×Value)}(r:KT H kvs xs)(k:List Key){b:Addr}{y:V}{u:Value}(hb:H b=some (.tup (k.map kV)))(ry:RelV y u) :
    KT H (putK kvs k y) (storedH xs k b u):=by
  have e:(kvs.any fun kv=>decide (kv.1=k))=(atKey xs k).isSome:=by
    rw[vY,(r.val k).fU,Option.isSome_map]
  unfold putK storedH
  rw[e]
  by_cases q:(atKey xs k).isSome=true
  · rw[if_pos q,if_pos q];exact r.Hu k ry
  · rw[if_neg q,if_neg q];exact Paired.snoc r ⟨rfl,hb,ry⟩
theorem KT.keeps {H H':Hp}{kvs:List (List Key×V)}{xs:List (List Key×Addr×Value)}(r:KT H kvs xs)(ht:∀ b ys,H b=some (.tup ys)→H' b=some (.tup ys)):KT H' kvs xs:=
  Paired.JN r fun _ _ z=>⟨z.1,ht _ _ z.2.1,z.2.2⟩
section
variable {P:Program} {w:World} {H:Hp} {h:Heap} {a:Addr}
theorem G3 {u:HO}(ok:HOk P w H h)(e:Rd H a u):cj P w H h a u:=e.ok ok
theorem uA {kvs:List (Key×V)}(ok:HOk P w H h)(e:Rd H a (.dK kvs)):kvs.length≤sizeLine∧(a == sysModules)=false∧∃ vs,KV kvs vs∧h.DictOf (bE P w) a vs:=
  show cj P w H h a (.dK kvs) from G3 ok e
theorem Ll {kvs:List (Key×V)}(ok:HOk P w H h)(e:H a=some (.dK kvs)):kvs.length≤sizeLine∧(a == sysModules)=false∧∃ vs,KV kvs vs∧h.DictOf (bE P w) a vs:=uA ok (.inl e)
theorem nO {ks:List Key}(ok:HOk P w H h)(e:H a=some (.tup (ks.map kV))):(tupleKind (bE P w)).is h ks a:=by
  obtain ⟨_,its,r,n,h1⟩:=(show cj P w H h a (.tup (ks.map kV)) from ok a _ e)
  exact ⟨_,its.toArray,n,h1,rfl,rfl,by simpa using qL r⟩
theorem uD {kvs:List (List Key×V)}(ok:HOk P w H h)(e:Rd H a (.dT kvs)):kvs.length≤sizeLine∧(a == sysModules)=false∧
    ∃ xs,KT H kvs xs∧h.DictOfH (tupleKind (bE P w)) a xs:=by
  obtain ⟨z,y,xs,r,o,es,ep,h1,h2,h3,h4,h5⟩:=(show cj P w H h a (.dT kvs) from G3 ok e)
  refine ⟨z,y,xs,r,o,es,ep,h1,h2,h3,h4,fun x hx=>?_,h5⟩
  have all:∀ {l:List (List Key×V)} {m:List (List Key×Addr×Value)},KT H l m→∀ x∈m,(tupleKind (bE P w)).is h x.1 x.2.1:=by
    intro l m q
    induction q with
    | nil=>intro x hx;exact nomatch hx
    | @cons p q ps qs hq t ih=>
      intro x hx
      rcases List.mem_cons.mp hx with e | hx
      · subst e
        exact nO ok (by rw[← hq.1];exact hq.2.1)
      · exact ih x hx
  exact all r x hx
theorem K4 {kvs:List (List Key×V)}(ok:HOk P w H h)(e:H a=some (.dT kvs)):kvs.length≤sizeLine∧(a == sysModules)=false∧
    ∃ xs,KT H kvs xs∧h.DictOfH (tupleKind (bE P w)) a xs:=uD ok (.inl e)
end
def ki (H:Hp)(a:Addr)(y:V)(r:Option V):Prop:=
  (∃ kvs k,Rd H a (.dK kvs)∧y=kV k∧r=gI kvs k)∨∃ kvs k b,Rd H a (.dT kvs)∧y=.ref b∧H b=some (.tup (k.map kV))∧r=gI kvs k
def yd (H:Hp)(a:Addr)(y v:V)(H':Hp):Prop:=
  (∃ kvs k,H a=some (.dK kvs)∧y=kV k∧kvs.length < sizeLine∧H'=upd H a (.dK (putK kvs k v)))∨
  ∃ kvs k b,H a=some (.dT kvs)∧y=.ref b∧H b=some (.tup (k.map kV))∧kvs.length < sizeLine∧H'=upd H a (.dT (putK kvs k v))
theorem ki.k {H:Hp}{a:Addr}{kvs:List (Key×V)}{k:Key}(e:H a=some (.dK kvs)):ki H a (kV k) (gI kvs k):=.inl ⟨kvs,k,.inl e,rfl,rfl⟩
theorem ki.t {H:Hp}{a b:Addr}{kvs:List (List Key×V)}{k:List Key}(e:H a=some (.dT kvs))(eb:H b=some (.tup (k.map kV))):ki H a (.ref b) (gI kvs k):=.inr ⟨kvs,k,b,.inl e,rfl,eb,rfl⟩
theorem yd.k {H:Hp}{a:Addr}{kvs:List (Key×V)}{k:Key}{v:V}(e:H a=some (.dK kvs))(hl:kvs.length < sizeLine):yd H a (kV k) v (upd H a (.dK (putK kvs k v))):=.inl ⟨kvs,k,e,rfl,hl,rfl⟩
theorem yd.t {H:Hp}{a b:Addr}{kvs:List (List Key×V)}{k:List Key}{v:V}(e:H a=some (.dT kvs))(eb:H b=some (.tup (k.map kV)))(hl:kvs.length < sizeLine) :
    yd H a (.ref b) v (upd H a (.dT (putK kvs k v))):=.inr ⟨kvs,k,b,e,rfl,eb,hl,rfl⟩
section
variable {X:Cx} {pins:List (Addr×Obj)} {σ:St} {H:Hp} {s:Shared} {a:Addr} {y v:V} {u r:Value} {o:Option V} {A:Around} {E:Value→Shared→Prop}
theorem Inv.big (I:Inv X pins σ H s):sysModules < s.heap.objs.size:=by
  have h:mainGlobals < s.heap.objs.size:=(I.mod.glob.keeps I.bk).lt
  exact Nat.lt_trans (by decide) h
theorem z8 {Q:Value→Shared→Prop}(hu:A.units+1 < cLine)(I:Inv X pins σ H s)(g:ki H a y (some v))(ry:RelV y u)(h:∀ w' s',Inv X pins σ H s'→RelV v w'→Q w' s') :
    wpAny (model X.prog X.w) A (getItem (.ref a) u) Q E s:=by
  rcases g with ⟨kvs,k,e,ey,l⟩ | ⟨kvs,k,b,e,ey,eb,l⟩
  · subst ey
    obtain ⟨z,hd,vs,rel,dd⟩:=uA I.hok e
    obtain ⟨w',hw,rw'⟩:=lA.some_of (v:=v) (o:=valueAt vs k) (by rw[l];exact rel.val k)
    exact wpAny_getItem_of (oX ry) dd.mapOf hw (h w' _ (I.tok _) rw')
  · subst ey
    cases (show u=Value.ref b from ry)
    obtain ⟨z,hd,xs,rel,dd⟩:=uD I.hok e
    obtain ⟨w',hw,rw'⟩:=lA.some_of (v:=v) (o:=(atKey xs k).map (·.2)) (by rw[l];exact rel.val k)
    obtain ⟨p,hp,hp2⟩:=Option.map_eq_some_iff.mp hw
    refine wpAny_getItem_heap (tupleKind_room_in1 hu) (nO I.hok eb) dd hp ?_
    rw[hp2]
    exact h w' _ (I.tok _) rw'
theorem MW {Q:Value→Shared→Prop}(hu:A.units+1 < cLine)(I:Inv X pins σ H s)(g:ki H a y o)(ry:RelV y u)(h:∀ s',Inv X pins σ H s'→Q (.bool o.isSome) s') :
    wpAny (model X.prog X.w) A (compareOp .In u (.ref a)) Q E s:=by
  rcases g with ⟨kvs,k,e,ey,l⟩ | ⟨kvs,k,b,e,ey,eb,l⟩
  · subst ey
    obtain ⟨z,hd,vs,rel,dd⟩:=uA I.hok e
    refine wpAny_in_of (oX ry) hd dd.mapOf ?_
    rw[← (rel.val k).fU,← l]
    exact h _ (I.tok _)
  · subst ey
    cases (show u=Value.ref b from ry)
    obtain ⟨z,hd,xs,rel,dd⟩:=uD I.hok e
    refine wpAny_in_heap (tupleKind_room_in1 hu) (nO I.hok eb) hd dd ?_
    have q:=(rel.val k).fU
    rw[Option.isSome_map] at q
    rw[← q,← l]
    exact h _ (I.tok _)
theorem ES {Q:Value→Shared→Prop}(hu:A.units+1 < cLine)(I:Inv X pins σ H s)(g:ki H a y o)(ry:RelV y u)(h:∀ s',Inv X pins σ H s'→Q (.bool (!o.isSome)) s') :
    wpAny (model X.prog X.w) A (compareOp .NotIn u (.ref a)) Q E s:=by
  rcases g with ⟨kvs,k,e,ey,l⟩ | ⟨kvs,k,b,e,ey,eb,l⟩
  · subst ey
    obtain ⟨z,hd,vs,rel,dd⟩:=uA I.hok e
    refine wpAny_notIn_of (oX ry) hd dd.mapOf ?_
    rw[← (rel.val k).fU,← l]
    exact h _ (I.tok _)
  · subst ey
    cases (show u=Value.ref b from ry)
    obtain ⟨z,hd,xs,rel,dd⟩:=uD I.hok e
    refine wpAny_notIn_heap (tupleKind_room_in1 hu) (nO I.hok eb) hd dd ?_
    have q:=(rel.val k).fU
    rw[Option.isSome_map] at q
    rw[← q,← l]
    exact h _ (I.tok _)
theorem zf {h':Heap}{t':Nat}{ob:HO}(I:Inv X pins σ H s)(mu:Mut (H a))(hs:Heap.SameBut a s.heap h')(he:∃ q,h'.get? a=some q)(new:cj X.prog X.w (upd H a ob) h' a ob) :
    Inv X pins σ (upd H a ob) { s with heap:=h',toks:=t' }:=
  I.write (x:=a) (e:=a) mu (.inl rfl) (fun b q hb z=>(hs.2 b hb).trans z) he new
theorem CU {P:Program}{w:World}{H':Hp}{h':Heap}{kvs:List (Key×V)}{vs:List (Key×Value)}(z:kvs.length≤sizeLine)(hd:(a == sysModules)=false)(rel:KV kvs vs)(dd:h'.DictOf (bE P w) a vs) :
    cj P w H' h' a (.dK kvs):=⟨z,hd,vs,rel,dd⟩
theorem Al {H':Hp}{Q:Unit→Shared→Prop}(hu:A.units+1 < cLine)(I:Inv X pins σ H s)(g:yd H a y v H')(ry:RelV y u)(rv:RelV v r)(h:∀ s',Inv X pins σ H' s'→Q () s') :
    wpAny (model X.prog X.w) A (setItem (.ref a) u r) Q E s:=by
  rcases g with ⟨kvs,k,e,ey,l,eH⟩ | ⟨kvs,k,b,e,ey,eb,l,eH⟩
  · subst ey eH
    obtain ⟨z,hd,vs,rel,dd⟩:=Ll I.hok e
    have hz:vs.length≤sizeLine:=by rw[← rel.length];exact z
    have hl:(putK kvs k v).length≤sizeLine:=by have:=iG kvs k v;omega
    refine wpAny_setItem_pairs (hsz:=hz) (oX ry) dd fun h' dd' hs=>h _ ?_
    have he:∃ q,h'.get? a=some q:=let ⟨q,_,_,hq,_⟩:=dd';⟨q,hq⟩
    exact zf I (by rw[e];exact True.intro) hs he (CU hl hd (rel.put k rv) dd')
  · subst ey eH
    cases (show u=Value.ref b from ry)
    obtain ⟨z,hd,xs,rel,dd⟩:=K4 I.hok e
    have hz:xs.length≤sizeLine:=by rw[← Paired.length rel];exact z
    have hl:(putK kvs k v).length≤sizeLine:=by have:=iG kvs k v;omega
    refine wpAny_setItem_heap (hsz:=hz) (tupleKind_room_in1 hu) (nO I.hok eb) dd fun h' dd' hs=>h _ ?_
    obtain ⟨q,es,ep,hq,h2,h3,h4,_,h5⟩:=dd'
    refine zf I (by rw[e];exact True.intro) hs ⟨q,hq⟩ ⟨hl,hd,_,(rel.put k eb rv).keeps fun c ys ec=>?_,q,es,ep,hq,h2,h3,h4,h5⟩
    rw[aB (LX ec e (fun z=>nomatch z))]
    exact ec
end
section
variable {X:Cx} {pins:List (Addr×Obj)} {σ:St} {H:Hp} {s:Shared} {a:Addr} {kvs:List (Key×V)} {k:Key} {u:Value} {A:Around} {E:Value→Shared→Prop}
end
def Hf (i:Expr):Prop:=∀ ov iv,subscripted i false ov iv=operate [ov,iv] (getItem ov iv)
theorem F6 {prog:Program}{w:World}{A:Around}{E:Value→Shared→Prop}{s:Shared}{env:Env}{value slice:Expr}{pos:Pos}{T id:String}{Q:Value→Shared→Prop}
    (hl:typeLookup (.type T) "__getitem__" = pure (some (.builtin id))) (hs:Hf slice)
    (h:wpAny (model prog w) A (eval value env) (fun o s₁=>wpAny (model prog w) A (eval slice env) (fun i s₂=>s₂.TypeIs o T∧wpAny (model prog w) A (getItem o i) Q E s₂) E s₁) E s) :
    wpAny (model prog w) A (eval (.Subscript value slice pos) env) Q E s:=by
  refine Subscript_ (wpAny_mono h (fun o s₁ h₁=>wpAny_mono h₁ (fun i s₂ h₂=>?_) fun _ _ x=>x) fun _ _ x=>x)
  obtain ⟨hT,h₂⟩:=h₂
  unfold subscriptTail
  refine wpAny_bind ?_
  rw[getitemInPython_of_ne hT.not_modules]
  refine wpAny_bind (wpAny_specialOf hT hl ?_)
  have fin:wpAny (model prog w) A (subscripted slice false o i) (fun r s₃=>wpAny (model prog w) A (letTemporaryGo value o r >>= fun _=>pure r) Q E s₃) E s₂:=by
    rw[hs o i]
    exact wpAny_operating (wpAny_mono h₂ (fun r s₃ h₃=>wpAny_bind (wpAny_letTemporaryGo (wpAny_pure h₃))) fun _ _ x=>x)
  first
    | exact wpAny_pure (wpAny_bind fin)
    | exact wpAny_bind (wpAny_pure (wpAny_bind fin))
    | exact wpAny_bind fin
theorem vN {X:Cx}{pins:List (Addr×Obj)}{σ:St}{H:Hp}{s:Shared}{a:Addr}{y:V}{o:Option V}(I:Inv X pins σ H s)(g:ki H a y o):s.TypeIs (.ref a) "dict" := by
  rcases g with ⟨kvs,k,e,_,_⟩ | ⟨kvs,k,b,e,_,_,_⟩
  · obtain ⟨_,_,vs,_,dd⟩:=uA I.hok e
    exact dd.typeIs
  · obtain ⟨_,_,xs,_,dd⟩:=uD I.hok e
    exact dd.typeIs
def KY (td ty:TE):TE:=fun σ H Q=>td σ H fun x H1=>ty σ H1 fun y H2=>∃ a v,x=.ref a∧ki H2 a y (some v)∧Q v H2
def K7 (ty td:TE):TE:=fun σ H Q=>ty σ H fun y H1=>td σ H1 fun x H2=>∃ a o,x=.ref a∧ki H2 a y o∧Q (.bl o.isSome) H2
def yT (ty td:TE):TE:=fun σ H Q=>ty σ H fun y H1=>td σ H1 fun x H2=>∃ a o,x=.ref a∧ki H2 a y o∧Q (.bl (!o.isSome)) H2
def LH (td ty tv:TE):TS:=fun D σ H=>tv σ H fun v H1=>td σ H1 fun x H2=>ty σ H2 fun y H3=>∃ a H4,x=.ref a∧yd H3 a y v H4∧D.nx σ H4
section
variable {X:Cx} {o i e value:Expr} {pos pos' tpos:Pos} {td ty tv:TE}
theorem EX (hu:X.A.units+1 < cLine)(ho:PE X o td)(hi:PE X i ty)(hs:Hf i):PE X (.Subscript o i pos) (KY td ty):=by
  intro pins s σ H Q I h
  refine F6 PySem.F.slot_dict_getitem.lookup hs (thn (ho pins s σ H _ I h) fun u s1 ⟨x,H1,I1,rx,q1⟩=>thn (hi pins s1 σ H1 _ I1 q1) fun iv s2 ⟨y,H2,I2,ry,a,v,ex,g,q2⟩=>?_)
  subst ex
  obtain rfl:u=Value.ref a:=rx
  exact ⟨vN I2 g,z8 hu I2 g ry fun w' s3 I3 rw'=>⟨v,H2,I3,rw',q2⟩⟩
theorem HP (hu:X.A.units+1 < cLine)(hi:PE X i ty)(ho:PE X o td):PC X .In i o (K7 ty td):=by
  intro pins s σ H Q I h
  refine thn (hi pins s σ H _ I h) fun iv s1 ⟨y,H1,I1,ry,q1⟩=>thn (ho pins s1 σ H1 _ I1 q1) fun u s2 ⟨x,H2,I2,rx,a,ov,ex,g,q2⟩=>?_
  subst ex
  obtain rfl:u=Value.ref a:=rx
  exact MW hu I2 g ry fun s3 I3=>⟨.bl ov.isSome,H2,I3,rfl,q2⟩
theorem AH (hu:X.A.units+1 < cLine)(hi:PE X i ty)(ho:PE X o td):PC X .NotIn i o (yT ty td):=by
  intro pins s σ H Q I h
  refine thn (hi pins s σ H _ I h) fun iv s1 ⟨y,H1,I1,ry,q1⟩=>thn (ho pins s1 σ H1 _ I1 q1) fun u s2 ⟨x,H2,I2,rx,a,ov,ex,g,q2⟩=>?_
  subst ex
  obtain rfl:u=Value.ref a:=rx
  exact ES hu I2 g ry fun s3 I3=>⟨.bl (!ov.isSome),H2,I3,rfl,q2⟩
theorem Eo (hu:X.A.units+1 < cLine)(ho:PE X o td)(hi:PE X i ty)(hv:PE X value tv)(hs:swapsWith value (some (.Subscript o i pos')) pos.line X.env=pure false) :
    PS X (.Assign [.Subscript o i pos'] value pos) (LH td ty tv):=by
  intro pins s σ H D I h
  refine wpAny_Assign_Subscript (thn (hv pins s σ H _ I h) fun r s1 ⟨v,H1,I1,rv,q1⟩=>thn (ho pins s1 σ H1 _ I1 q1) fun u s2 ⟨x,H2,I2,rx,q2⟩=>thn (hi pins s2 σ H2 _ I2 q2) fun iv s3 ⟨y,H3,I3,ry,a,H4,ex,g,q3⟩=>?_) hs
  subst ex
  obtain rfl:u=Value.ref a:=rx
  exact Al hu I3 g ry rv fun s4 I4=>⟨σ,H4,I4,q3⟩
end
theorem Bu {P:Program}{w:World}{H:Hp}(h:Heap)(hb:sysModules < h.objs.size):cj P w H (h.push { cls:=.type "dict", data:=.dict #[] }) h.objs.size (.dK []):=
  ⟨Nat.zero_le _,beq_eq_false_iff_ne.mpr (Ne.symm (Nat.ne_of_lt hb)),[],.nil,Heap.DictOf.new h⟩
def Hy:TE:=fun _ H Q=>∀ p,H p=none→Q (.ref p) (upd H p (.dK []))
section
variable {X:Cx} {pos:Pos}
theorem CV:PE X (.Dict [] [] pos) Hy:=fun pins s σ H Q I h=>
  wpAny_Dict_empty ⟨.ref s.heap.objs.size,_,I.laid (a:=s.heap.objs.size) (o:=.dK []) (t':=s.toks) (fun _ _ q=>Heap.get?_push_of_some _ q) (Nat.le_refl _) (Bu s.heap I.big),rfl,h _ (I.hok.fresh (Nat.le_refl _))⟩
end
def f7 (kvs more:List (Key×V)):List (Key×V):=more.foldl (fun acc kv=>putK acc kv.1 kv.2) kvs
theorem KV.merge:∀ {more:List (Key×V)} {rs:List (Key×Value)} {kvs:List (Key×V)} {vs:List (Key×Value)},KV more rs→KV kvs vs→KV (f7 kvs more) (merged vs rs):=by
  intro more rs kvs vs r
  unfold KV at r
  induction r generalizing kvs vs with
  | nil=>intro q;exact q
  | @cons p q ps qs h t ih=>
    intro r0
    have e:KV (putK kvs p.1 p.2) (stored vs q.1 q.2):=by
      have:=r0.put p.1 h.2
      rw[← h.1];exact this
    exact ih e
theorem i4:∀ (more kvs:List (Key×V)),(f7 kvs more).length≤kvs.length+more.length
  | [],kvs=>by show kvs.length≤kvs.length+0;omega
  | p::r,kvs=>by
    have h1:=i4 r (putK kvs p.1 p.2)
    have h2:=iG kvs p.1 p.2
    show (f7 (putK kvs p.1 p.2) r).length≤_
    rw[List.length_cons];omega
section
variable {X:Cx} {pins:List (Addr×Obj)} {σ:St} {H:Hp} {s:Shared} {a:Addr} {y d:V} {u r:Value} {o:Option V} {A:Around} {E:Value→Shared→Prop}
end
section
variable {X:Cx} {o e f:Expr} {apos cpos:Pos} {td ty tx:TE}
end
section
variable {X:Cx} {pins:List (Addr×Obj)} {σ:St} {H:Hp} {s:Shared} {a:Addr} {kvs:List (Key×V)} {A:Around} {E:Value→Shared→Prop}
end
section
variable {X:Cx} {pins:List (Addr×Obj)} {σ:St} {H:Hp} {s:Shared} {a:Addr} {y:V} {u:Value} {A:Around} {E:Value→Shared→Prop}
end
end L2
namespace L3
open PySem
local macro_rules | `(tactic| walk_at "ln")=>`(tactic| (intro ds μ Q h;split at h;rfl;exact h.elim))
theorem Jn {p q:Prop}(a:p)(b:q):p∧q:=⟨a,b⟩
inductive D where
  | non | bl (b:Bool) | int (i:Int) | str (x:Str) | ty (n:String) | tup (ds:List D) | ls (ds:List D) | obj (a:Addr)
inductive MO where
  | lst (ds:List D)
  | dct (kvs:List (L2.Key×D))
abbrev Mu:=Addr→Option MO
def up (μ:Mu)(a:Addr)(o:MO):Mu:=fun b=>if b=a then some o else μ b
theorem aD {μ:Mu}{a:Addr}{o:MO}:up μ a o a=some o:=by unfold up;rw[if_pos rfl]
theorem aU {μ:Mu}{a b:Addr}{o:MO}(h:b≠a):up μ a o b=μ b:=by unfold up;rw[if_neg h]
theorem oH {μ:Mu}{a:Addr}{o u:MO}:up (up μ a o) a u=up μ a u:=by
  funext b;unfold up;split<;>rfl
abbrev ST:=List (Option D)
abbrev DK:=D→Mu→Prop
abbrev ETr:=ST→Mu→DK→Prop
abbrev TTr:=ST→Mu→(Bool→Mu→Prop)→Prop
abbrev ATr:=ST→Mu→(List D→Mu→Prop)→Prop
abbrev DR:=D→Mu→DK→Prop
abbrev DR2:=D→D→Mu→DK→Prop
abbrev FSp:=List D→Mu→DK→Prop
structure En where
  nx:ST→Mu→Prop
  rt:DK
  bk:ST→Mu→Prop:=fun _ _=>False
  ct:ST→Mu→Prop:=fun _ _=>False
abbrev STr:=En→ST→Mu→Prop
abbrev GTr:=D→ST→Mu→(ST→Mu→Prop)→Prop
def kIf (c:Bool)(A B:Prop):Prop:=match c with
  | true=>A
  | false=>B
def kB (x:D)(f:Bool→Prop):Prop:=match x with
  | .bl c=>f c
  | _=>False
def kI (x:D)(f:Int→Prop):Prop:=match x with
  | .int c=>f c
  | _=>False
def kO (x:Option D)(f:D→Prop):Prop:=match x with
  | some d=>f d
  | none=>False
def kS (x:D)(f:List D→Prop):Prop:=match x with
  | .tup ds=>f ds
  | .ls ds=>f ds
  | _=>False
def k2 (ds:List D)(f:D→D→Prop):Prop:=match ds with
  | [v,w]=>f v w
  | _=>False
def kL (μ:Mu)(a:Addr)(f:List D→Prop):Prop:=match μ a with
  | some (.lst ds)=>f ds
  | _=>False
def kD (μ:Mu)(a:Addr)(f:List (L2.Key×D)→Prop):Prop:=match μ a with
  | some (.dct ds)=>f ds
  | _=>False
def kN (x:Option Nat)(f:Nat→Prop):Prop:=match x with
  | some d=>f d
  | none=>False
def lk:ST→Nat→Option D
  | [],_=>none
  | o::_,0=>o
  | _::r,n+1=>lk r n
def ah (i:Nat):ETr:=fun ρ μ Q=>kO (lk ρ i) fun d=>Q d μ
def TC (d:D):ETr:=fun _ μ Q=>Q d μ
def aj (r:DR2)(a b:ETr):ETr:=fun ρ μ Q=>a ρ μ fun x μ1=>b ρ μ1 fun y μ2=>r x y μ2 Q
def TUn (r:DR)(a:ETr):ETr:=fun ρ μ Q=>a ρ μ fun x μ1=>r x μ1 Q
def S64 (i:Int):Prop:=-18446744073709551616 < i∧i < 18446744073709551616
def eR (i:Int):Prop:=-115792089237316195423570985008687907853269984665640564039457584007913129639936 < i∧i < 115792089237316195423570985008687907853269984665640564039457584007913129639936
def MulOk (i j:Int):Prop:=(S64 i∨S64 j)∨(eR i∧eR j)
def fX (j:Int):Prop:=j≠0∧eR j
def rk (i j:Int):Prop:=0≤j∧j≤1000000∧i.natAbs < 18446744073709551616
def vD:DR2:=fun x y μ Q=>match x,y with
  | .int i,.int j=>Q (.int (i - j)) μ
  | _,_=>False
def cg:DR2:=fun x y μ Q=>match x,y with
  | .int i,.int j=>MulOk i j∧Q (.int (i*j)) μ
  | _,_=>False
def kZ:DR2:=fun x y μ Q=>match x,y with
  | .int i,.int j=>fX j∧Q (.int (i.fdiv j)) μ
  | _,_=>False
def gR:DR2:=fun x y μ Q=>match x,y with
  | .int i,.int j=>j≠0∧Q (.int (i.fmod j)) μ
  | _,_=>False
def D8:DR2:=fun x y μ Q=>match x,y with
  | .int i,.int j=>rk i j∧Q (.int (i ^ j.toNat)) μ
  | _,_=>False
def wG:DR:=fun x μ Q=>match x with
  | .int i=>Q (.int (-i)) μ
  | _=>False
def Dk (p:Int→Int→Bool):DR2:=fun x y μ Q=>match x,y with
  | .int i,.int j=>Q (.bl (p i j)) μ
  | _,_=>False
def rLt:DR2:=Dk fun i j=>decide (i < j)
def rLe:DR2:=Dk fun i j=>decide (i≤j)
def rGt:DR2:=Dk fun i j=>decide (j < i)
def rGe:DR2:=Dk fun i j=>decide (j≤i)
mutual
def eqD:D→D→Bool
  | .non,.non=>true
  | .bl a,.bl b=>a == b
  | .int a,.int b=>decide (a=b)
  | .bl a,.int b=>decide ((if a then 1 else 0:Int)=b)
  | .int a,.bl b=>decide (a=(if b then 1 else 0:Int))
  | .str a,.str b=>decide (a=b)
  | .tup a,.tup b=>gF a b
  | .ls a,.ls b=>gF a b
  | _,_=>false
def gF:List D→List D→Bool
  | [],[]=>true
  | a::r,b::s=>eqD a b&&gF r s
  | _,_=>false
end
mutual
def okD:Nat→D→Bool
  | _,.non=>true
  | _,.bl _=>true
  | _,.int _=>true
  | _,.str x=>PyData.strOk x
  | n+1,.tup ds=>bC n ds
  | n+1,.ls ds=>bC n ds
  | _,_=>false
def bC:Nat→List D→Bool
  | _,[]=>true
  | n,d::ds=>okD n d&&bC n ds
end
def rEq:DR2:=fun x y μ Q=>(okD 40 x=true∧okD 40 y=true)∧Q (.bl (eqD x y)) μ
def rNe:DR2:=fun x y μ Q=>(okD 40 x=true∧okD 40 y=true)∧Q (.bl (!eqD x y)) μ
def rIs:DR2:=fun x y μ Q=>match y with
  | .non=>(match x with
    | .non=>Q (.bl true) μ
    | _=>Q (.bl false) μ)
  | _=>False
def wo:DR2:=fun x y μ Q=>match y with
  | .non=>(match x with
    | .non=>Q (.bl false) μ
    | _=>Q (.bl true) μ)
  | _=>False
def jm (a b:ETr):ETr:=fun ρ μ Q=>a ρ μ fun x μ1=>kB x fun c=>kIf c (b ρ μ1 Q) (Q (.bl false) μ1)
def Ij (a b:ETr):ETr:=fun ρ μ Q=>a ρ μ fun x μ1=>kB x fun c=>kIf c (Q (.bl true) μ1) (b ρ μ1 Q)
def je (a:ETr):ETr:=fun ρ μ Q=>a ρ μ fun x μ1=>kB x fun c=>Q (.bl (!c)) μ1
def TB (t:ETr):TTr:=fun ρ μ Q=>t ρ μ fun x μ1=>kB x fun c=>Q c μ1
def sW (t u:TTr):TTr:=fun ρ μ Q=>t ρ μ fun c μ1=>kIf c (u ρ μ1 Q) (Q false μ1)
def TOr (t u:TTr):TTr:=fun ρ μ Q=>t ρ μ fun c μ1=>kIf c (Q true μ1) (u ρ μ1 Q)
def iX (t:TTr):TTr:=fun ρ μ Q=>t ρ μ fun c μ1=>Q (!c) μ1
def vk (c:TTr)(a b:ETr):ETr:=fun ρ μ Q=>c ρ μ fun k μ1=>kIf k (a ρ μ1 Q) (b ρ μ1 Q)
def xD (r r':DR2)(a b c:ETr):ETr:=fun ρ μ Q=>a ρ μ fun x μ1=>b ρ μ1 fun y μ2=>r x y μ2 fun z μ3=>kB z fun k=>kIf k (c ρ μ3 fun y' μ4=>r' y y' μ4 Q) (Q (.bl false) μ3)
def aw:ATr:=fun _ μ Q=>Q [] μ
def ag (a:ETr)(r:ATr):ATr:=fun ρ μ Q=>a ρ μ fun x μ1=>r ρ μ1 fun xs μ2=>Q (x::xs) μ2
def cK (t:ATr):ETr:=fun ρ μ Q=>t ρ μ fun ds μ1=>ds.length≤1000000∧Q (.tup ds) μ1
def gv (t:ATr):ETr:=fun ρ μ Q=>t ρ μ fun ds μ1=>ds.length≤1000000∧Q (.ls ds) μ1
def kr (t:ATr):ETr:=fun ρ μ Q=>t ρ μ fun ds μ1=>ds.length≤1000000∧∀ p,μ1 p=none→Q (.obj p) (up μ1 p (.lst ds))
def au (sp:FSp)(t:ATr):ETr:=fun ρ μ Q=>t ρ μ fun ds μ1=>sp ds μ1 Q
def atD (ds:List D)(i:Int):Option D:=L2.atI ds i
def rIx:DR2:=fun x y μ Q=>match x,y with
  | .tup ds,.int i=>kO (atD ds i) fun d=>Q d μ
  | .ls ds,.int i=>kO (atD ds i) fun d=>Q d μ
  | .obj a,.int i=>kL μ a fun ds=>kO (atD ds i) fun d=>Q d μ
  | _,_=>False
def tR:FSp:=fun ds μ Q=>match ds with
  | [.int i]=>Q (.int (if i < 0 then -i else i)) μ
  | _=>False
def LC:FSp:=fun ds μ Q=>match ds with
  | [.int i,.int j]=>Q (.int (if j > i then j else i)) μ
  | _=>False
def Kj:FSp:=fun ds μ Q=>match ds with
  | [.int i,.int j]=>Q (.int (if j < i then j else i)) μ
  | _=>False
def DQ:FSp:=fun ds μ Q=>match ds with
  | [.int i]=>Q (.int i) μ
  | [.bl k]=>Q (.int (if k then 1 else 0)) μ
  | _=>False
def gn:FSp:=fun ds μ Q=>match ds with
  | [.tup xs]=>Q (.int xs.length) μ
  | [.ls xs]=>Q (.int xs.length) μ
  | [.str x]=>x.length≤1000000∧Q (.int x.length) μ
  | [.obj a]=>kL μ a fun xs=>Q (.int xs.length) μ
  | _=>False
def tyD:D→Option String
  | .non=>some "NoneType"
  | .bl _=>some "bool"
  | .int _=>some "int"
  | .str _=>some "str"
  | .tup _=>some "tuple"
  | .ls _=>some "list"
  | _=>none
def dU (t c:String):Bool:=t == c || (t == "bool" && c == "int")
def iY (c:String):DR:=fun x μ Q=>match tyD x with
  | some t=>Q (.bl (dU t c)) μ
  | none=>False
def bX:STr:=fun E ρ μ=>E.nx ρ μ
def aF (t u:STr):STr:=fun E ρ μ=>t { E with nx:=u E } ρ μ
def yJ:STr:=fun E ρ μ=>E.bk ρ μ
def Cj:STr:=fun E ρ μ=>E.ct ρ μ
def fP (e:ETr):STr:=fun E ρ μ=>e ρ μ fun _ μ1=>E.nx ρ μ1
def aT (e:ETr):STr:=fun E ρ μ=>e ρ μ E.rt
def Cf:STr:=fun E _ μ=>E.rt .non μ
def dM (c:TTr)(t u:STr):STr:=fun E ρ μ=>c ρ μ fun b μ1=>kIf b (t E ρ μ1) (u E ρ μ1)
def ax (i:Nat):GTr:=fun d ρ μ k=>k (ρ.set i (some d)) μ
def aL (e:ETr)(g:GTr):STr:=fun E ρ μ=>e ρ μ fun d μ1=>g d ρ μ1 E.nx
def wR (i j:Nat)(a:ATr):STr:=fun E ρ μ=>a ρ μ fun ds μ1=>k2 ds fun v w=>E.nx ((ρ.set i (some v)).set j (some w)) μ1
def KN (x z y:D)(μ:Mu)(f:Mu→Prop):Prop:=match x,z with
  | .obj a,.int n=>kL μ a fun ds=>kN (L2.ixN ds.length n) fun j=>f (up μ a (.lst (ds.set j y)))
  | _,_=>False
def fL (o k e:ETr):STr:=fun E ρ μ=>e ρ μ fun y μ1=>o ρ μ1 fun x μ2=>k ρ μ2 fun z μ3=>KN x z y μ3 fun μ4=>E.nx ρ μ4
def nQ (c:TTr)(b:STr):STr:=fun E ρ μ=>∃ (P:ST→Mu→Prop) (m:ST→Mu→Nat),P ρ μ∧∀ ρ μ,P ρ μ→
  c ρ μ fun k μ1=>kIf k (b { E with nx:=fun ρ' μ'=>P ρ' μ'∧m ρ' μ' < m ρ μ,ct:=fun ρ' μ'=>P ρ' μ'∧m ρ' μ' < m ρ μ,bk:=E.nx } ρ μ1) (E.nx ρ μ1)
def forR (g:GTr)(b:STr)(E:En):List D→ST→Mu→Prop
  | [],ρ,μ=>E.nx ρ μ
  | d::r,ρ,μ=>g d ρ μ fun ρ1 μ1=>b { E with nx:=forR g b E r,ct:=forR g b E r,bk:=E.nx } ρ1 μ1
def fF (it:ATr)(g:GTr)(b:STr):STr:=fun E ρ μ=>it ρ μ fun ds μ1=>forR g b E ds ρ μ1
def eK (lo:Int)(n:Nat):List D:=(List.range n).map fun i=>.int (lo+(i:Nat))
def fh (a:ETr):ATr:=fun ρ μ Q=>a ρ μ fun x μ1=>kI x fun j=>(-4611686018427387904≤j∧j < 4611686018427387904)∧Q (eK 0 j.toNat) μ1
def cH (a:ETr):ATr:=fun ρ μ Q=>a ρ μ fun x μ1=>kS x fun ds=>Q ds μ1
def dn (μ:Mu)(a:Addr):Mu:=fun b=>if b=a then none else μ b
theorem De {μ:Mu}{a:Addr}{o:MO}(h:μ a=none):dn (up μ a o) a=μ:=by
  funext b
  unfold dn up
  by_cases hb:b=a
  · subst hb;simp[h]
  · simp[hb]
def gU (ρ:ST)(n:Nat)(caps:List Nat):ST:=List.replicate n none++caps.map (lk ρ)
def iD (p:Addr)(G:GTr)(tt:TTr)(te:ETr)(ρc:ST)(K:Mu→Prop):List D→Mu→Prop
  | [],μ=>K μ
  | d::r,μ=>G d ρc μ fun ρ1 μ1=>tt ρ1 μ1 fun b μ2=>kIf b (te ρ1 μ2 fun y μ3=>kL μ3 p fun zs=>zs.length < 1000000∧iD p G tt te ρc K r (up μ3 p (.lst (zs++[y])))) (iD p G tt te ρc K r μ2)
def bO (it:ATr)(G:GTr)(tt:TTr)(te:ETr)(n:Nat)(caps:List Nat):ETr:=fun ρ μ Q=>it ρ μ fun ds μ1=>∀ p,μ1 p=none→
  iD p G tt te (gU ρ n caps) (fun μ'=>kL μ' p fun zs=>Q (.ls zs) (dn μ' p)) ds (up μ1 p (.lst []))
def ik:TTr:=fun _ μ Q=>Q true μ
def Gg:FSp:=fun ds μ Q=>match ds with
  | [.ls xs]=>∃ bs:List Bool,xs=bs.map .bl∧Q (.bl (bs.any id)) μ
  | _=>False
def Fw:FSp:=fun ds μ Q=>match ds with
  | [.ls xs]=>∃ bs:List Bool,xs=bs.map .bl∧Q (.bl (bs.all id)) μ
  | _=>False
theorem ba {g:GTr}{b:STr}{E:En}(P:List D→ST→Mu→Prop)(hnil:∀ ρ μ,P [] ρ μ→E.nx ρ μ)
    (hcons:∀ d r ρ μ (N:ST→Mu→Prop),P (d::r) ρ μ→(∀ ρ' μ',P r ρ' μ'→N ρ' μ')→g d ρ μ fun ρ1 μ1=>b { E with nx:=N,ct:=N,bk:=E.nx } ρ1 μ1) :
    ∀ (ds:List D) (ρ:ST) (μ:Mu),P ds ρ μ→forR g b E ds ρ μ
  | [],ρ,μ,h=>hnil ρ μ h
  | d::r,ρ,μ,h=>hcons d r ρ μ _ h fun ρ' μ' q=>ba P hnil hcons r ρ' μ' q
section
open PySem PySem.Spec PyProof.Rows L2
def SqF (K:PySem.W.Frag)(H:Hp)(a:Addr)(xs:List V):Prop:=
  (∃ o,H a=some (.frz o (.lst xs)))∨
    ∃ (o:Obj) (its:Array Value) (n:Nat),K.lookup a=some o∧o.cls=.type "list" ∧ o.dict=none∧o.data=.seq its n∧its.size≤sizeLine∧Vals xs its.toList
theorem SqF.sq {K:PySem.W.Frag}{H:Hp}{a:Addr}{xs:List V}(h:SqF K H a xs):SqL K H a xs:=by
  rcases h with h | h
  · exact .inl (.inr h)
  · exact .inr h
mutual
inductive Dp (K:PySem.W.Frag) (H:Hp):V→D→Prop
  | non:Dp K H .non .non
  | bl (b:Bool):Dp K H (.bl b) (.bl b)
  | int (n:Int):Dp K H (.int n) (.int n)
  | str (z:Str):Dp K H (.str z) (.str z)
  | ty (n:String):Dp K H (.ty n) (.ty n)
  | tup {a:Addr} {xs:List V} {ds:List D}:SqT K H a xs→DpL K H xs ds→Dp K H (.ref a) (.tup ds)
  | ls {a:Addr} {xs:List V} {ds:List D}:SqF K H a xs→DpL K H xs ds→Dp K H (.ref a) (.ls ds)
  | obj (a:Addr):Dp K H (.ref a) (.obj a)
inductive DpL (K:PySem.W.Frag) (H:Hp):List V→List D→Prop
  | nil:DpL K H [] []
  | cons {v:V} {d:D} {vs:List V} {ds:List D}:Dp K H v d→DpL K H vs ds→DpL K H (v::vs) (d::ds)
end
structure Tk (H H':Hp):Prop where
  tup:∀ a xs,H a=some (.tup xs)→H' a=some (.tup xs)
  frz:∀ a o u,H a=some (.frz o u)→H' a=some (.frz o u)
theorem Tk.refl (H:Hp):Tk H H:=⟨fun _ _ h=>h,fun _ _ _ h=>h⟩
theorem Tk.trans {H H1 H2:Hp}(a:Tk H H1)(b:Tk H1 H2):Tk H H2:=⟨fun c xs h=>b.tup c xs (a.tup c xs h),fun c o u h=>b.frz c o u (a.frz c o u h)⟩
theorem Tk.upd {H:Hp}{a:Addr}{o:HO}(h1:∀ xs,H a≠some (.tup xs))(h2:∀ o u,H a≠some (.frz o u)):Tk H (L2.upd H a o):=
  ⟨fun b xs h=>by rw[aB (fun z=>by subst z;exact h1 _ h)];exact h,fun b o u h=>by rw[aB (fun z=>by subst z;exact h2 _ _ h)];exact h⟩
theorem Tk.new {H:Hp}{a:Addr}{o:HO}(h:H a=none):Tk H (L2.upd H a o):=.upd (fun _ e=>by rw[h] at e;cases e) fun _ _ e=>by rw[h] at e;cases e
theorem Tk.sqT {K:PySem.W.Frag}{H H':Hp}{a:Addr}{xs:List V}(t:Tk H H')(h:SqT K H a xs):SqT K H' a xs:=by
  rcases h with (h | ⟨o,h⟩) | h
  · exact .inl (.inl (t.tup _ _ h))
  · exact .inl (.inr ⟨o,t.frz _ _ _ h⟩)
  · exact .inr h
theorem Tk.sqF {K:PySem.W.Frag}{H H':Hp}{a:Addr}{xs:List V}(t:Tk H H')(h:SqF K H a xs):SqF K H' a xs:=by
  rcases h with ⟨o,h⟩ | h
  · exact .inl ⟨o,t.frz _ _ _ h⟩
  · exact .inr h
mutual
theorem Dp.mono {K:PySem.W.Frag}{H H':Hp}(t:Tk H H'):∀ {v:V} {d:D},Dp K H v d→Dp K H' v d
  | _,_,.non=>.non
  | _,_,.bl b=>.bl b
  | _,_,.int i=>.int i
  | _,_,.str x=>.str x
  | _,_,.ty n=>.ty n
  | _,_,.tup h l=>.tup (t.sqT h) (DpL.mono t l)
  | _,_,.ls h l=>.ls (t.sqF h) (DpL.mono t l)
  | _,_,.obj a=>.obj a
theorem DpL.mono {K:PySem.W.Frag}{H H':Hp}(t:Tk H H'):∀ {vs:List V} {ds:List D},DpL K H vs ds→DpL K H' vs ds
  | _,_,.nil=>.nil
  | _,_,.cons h l=>.cons (Dp.mono t h) (DpL.mono t l)
end
theorem DpL.length {K:PySem.W.Frag}{H:Hp}:∀ {vs:List V} {ds:List D},DpL K H vs ds→vs.length=ds.length
  | _,_,.nil=>rfl
  | _,_,.cons _ l=>by rw[List.length_cons,List.length_cons,DpL.length l]
theorem DpL.get {K:PySem.W.Frag}{H:Hp}:∀ {vs:List V} {ds:List D} {i:Nat} {d:D},DpL K H vs ds→ds[i]? = some d→∃ v,vs[i]? = some v∧Dp K H v d
  | _,_,_,_,.nil,e=>by simp at e
  | _,_,0,_,.cons h _,e=>by simp at e;subst e;exact ⟨_,rfl,h⟩
  | _,_,i+1,d,.cons _ l,e=>by
    obtain ⟨v,e1,h⟩:=DpL.get (i:=i) (d:=d) l (by simpa using e)
    exact ⟨v,by simpa using e1,h⟩
theorem DpL.get' {K:PySem.W.Frag}{H:Hp}:∀ {vs:List V} {ds:List D} {i:Nat} {v:V},DpL K H vs ds→vs[i]? = some v→∃ d,ds[i]? = some d∧Dp K H v d
  | _,_,_,_,.nil,e=>by simp at e
  | _,_,0,_,.cons h _,e=>by simp at e;subst e;exact ⟨_,rfl,h⟩
  | _,_,i+1,d,.cons _ l,e=>by
    obtain ⟨v,e1,h⟩:=DpL.get' (i:=i) (v:=d) l (by simpa using e)
    exact ⟨v,by simpa using e1,h⟩
theorem DpL.set {K:PySem.W.Frag}{H:Hp}{v:V}{d:D}(h:Dp K H v d):∀ {vs:List V} {ds:List D} (i:Nat),DpL K H vs ds→DpL K H (vs.set i v) (ds.set i d)
  | _,_,_,.nil=>.nil
  | _,_,0,.cons _ l=>.cons h l
  | _,_,i+1,.cons q l=>.cons q (DpL.set h i l)
theorem DpL.append {K:PySem.W.Frag}{H:Hp}:∀ {vs ws:List V} {ds es:List D},DpL K H vs ds→DpL K H ws es→DpL K H (vs++ws) (ds++es)
  | _,_,_,_,.nil,s=>s
  | _,_,_,_,.cons h l,s=>.cons h (DpL.append l s)
theorem DpL.at {K:PySem.W.Frag}{H:Hp}{vs:List V}{ds:List D}{i:Int}{d:D}(l:DpL K H vs ds)(e:atD ds i=some d):∃ v,atI vs i=some v∧Dp K H v d:=by
  unfold atD atI at e
  unfold atI
  rw[l.length]
  cases q:ixN ds.length i with
  | none=>rw[q] at e;cases e
  | some j=>
    rw[q] at e
    exact l.get e
def DpK (K:PySem.W.Frag)(H:Hp)(xs:List (Key×V))(kvs:List (Key×D)):Prop:=xs.map (·.1)=kvs.map (·.1)∧DpL K H (xs.map (·.2)) (kvs.map (·.2))
theorem DpK.mono {K:PySem.W.Frag}{H H':Hp}(t:Tk H H'){xs:List (Key×V)}{kvs:List (Key×D)}(h:DpK K H xs kvs):DpK K H' xs kvs:=⟨h.1,h.2.mono t⟩
def yH (K:PySem.W.Frag)(H:Hp)(a:Addr):MO→Prop
  | .lst ds=>∃ xs,H a=some (.lst xs)∧DpL K H xs ds
  | .dct kvs=>∃ xs,H a=some (.dK xs)∧DpK K H xs kvs
theorem yH.go {K:PySem.W.Frag}{H H':Hp}{a:Addr}{o:MO}(h:yH K H a o)(t:Tk H H')(k:∀ u,H a=some u→H' a=some u):yH K H' a o:=by
  cases o with
  | lst ds=>obtain ⟨xs,z,l⟩:=h;exact ⟨xs,k _ z,l.mono t⟩
  | dct kvs=>obtain ⟨xs,z,l⟩:=h;exact ⟨xs,k _ z,l.mono t⟩
theorem yH.ne {K:PySem.W.Frag}{H:Hp}{a q:Addr}{o:MO}{u:HO}(h:yH K H a o)(t:Tk H (L2.upd H q u))(k:a≠q):yH K (L2.upd H q u) a o:=h.go t fun _ e=>by rw[aB k];exact e
def bG (K:PySem.W.Frag)(H:Hp)(μ:Mu):Prop:=∀ a o,μ a=some o→yH K H a o
theorem bG.free {K:PySem.W.Frag}{H:Hp}{μ:Mu}(h:bG K H μ){a:Addr}(e:H a=none):μ a=none:=by
  cases q:μ a with
  | none=>rfl
  | some o=>
    cases o with
    | lst ds=>obtain ⟨xs,z,_⟩:=h a _ q;rw[e] at z;cases z
    | dct ds=>obtain ⟨xs,z,_⟩:=h a _ q;rw[e] at z;cases z
theorem bG.keep {K:PySem.W.Frag}{H H':Hp}{μ:Mu}(h:bG K H μ)(t:Tk H H')(k:∀ a u,μ a≠none→H a=some u→H' a=some u):bG K H' μ:=fun a o e=>by
  exact (h a _ e).go t fun u z=>k a u (by rw[e];simp) z
def Sub (μ μ':Mu):Prop:=∀ a o,μ a=some o→μ' a=some o
theorem Sub.refl (μ:Mu):Sub μ μ:=fun _ _ h=>h
theorem Sub.new {μ:Mu}{p:Addr}{o:MO}(h:μ p=none):Sub μ (up μ p o):=fun a u e=>by
  rw[aU (fun z=>by subst z;rw[h] at e;cases e)];exact e
theorem Sub.trans {μ μ1 μ2:Mu}(a:Sub μ μ1)(b:Sub μ1 μ2):Sub μ μ2:=fun c o h=>b c o (a c o h)
theorem bG.sub {K:PySem.W.Frag}{H:Hp}{μ μ':Mu}(h:bG K H μ')(s:Sub μ μ'):bG K H μ:=fun a o e=>h a o (s a o e)
structure Rl (K:PySem.W.Frag) (σ:L2.St) (H:Hp) (ρ:ST) (μ:Mu):Prop where
  len:ρ.length=σ.length
  loc:∀ i d,lk ρ i=some d→∃ v,σ[i]? = some (some v)∧Dp K H v d
  mu:bG K H μ
theorem Rl.go {K:PySem.W.Frag}{σ:L2.St}{H H':Hp}{ρ:ST}{μ μ':Mu}(r:Rl K σ H ρ μ)(t:Tk H H')(m:bG K H' μ'):Rl K σ H' ρ μ':=
  ⟨r.len,fun i d e=>let ⟨v,h1,h2⟩:=r.loc i d e;⟨v,h1,h2.mono t⟩,m⟩
theorem DG:∀ (ρ:ST) (i j:Nat) (d:D),lk (ρ.set i (some d)) j=if i=j∧i < ρ.length then some d else lk ρ j
  | [],i,j,d=>by simp[lk]
  | o::r,0,0,d=>by simp[lk]
  | o::r,0,j+1,d=>by simp[lk]
  | o::r,i+1,0,d=>by simp[lk]
  | o::r,i+1,j+1,d=>by
    show lk (r.set i (some d)) j=_
    rw[DG r i j d]
    simp[lk]
theorem Rl.set {K:PySem.W.Frag}{σ:L2.St}{H:Hp}{ρ:ST}{μ:Mu}(r:Rl K σ H ρ μ){v:V}{d:D}(h:Dp K H v d)(i:Nat):Rl K (σ.set i (some v)) H (ρ.set i (some d)) μ:=by
  refine ⟨by simp[r.len],fun j e q=>?_,r.mu⟩
  rw[DG] at q
  split at q
  · rename_i hc
    obtain ⟨rfl,hlt⟩:=hc
    cases q
    exact ⟨v,by rw[List.getElem?_set_self (by rw[← r.len];exact hlt)],h⟩
  · rename_i hc
    obtain ⟨u,h1,h2⟩:=r.loc j e q
    by_cases hij:i=j
    · subst hij
      have:¬ i < ρ.length:=fun z=>hc ⟨rfl,z⟩
      have hn:σ[i]? = none:=List.getElem?_eq_none_iff.mpr (by rw[← r.len];omega)
      rw[hn] at h1;cases h1
    · exact ⟨u,by rw[List.getElem?_set_ne hij];exact h1,h2⟩
abbrev iq (K:PySem.W.Frag)(H:Hp)(Q:DK)(Q':VK):Prop:=∀ v H' d μ',Tk H H'→bG K H' μ'→Dp K H' v d→Q d μ'→Q' v H'
def Sim (K:PySem.W.Frag)(t:TE)(T:ETr):Prop:=∀ σ H ρ μ (Q:DK) (Q':VK),Rl K σ H ρ μ→T ρ μ Q→iq K H Q Q'→t σ H Q'
def Fl (K:PySem.W.Frag)(t:TT)(T:TTr):Prop:=∀ σ H ρ μ (Q:Bool→Mu→Prop) (Q':Bool→Hp→Prop),Rl K σ H ρ μ→T ρ μ Q→(∀ b H' μ',Tk H H'→bG K H' μ'→Q b μ'→Q' b H')→t σ H Q'
def L4 (K:PySem.W.Frag)(t:TA)(T:ATr):Prop:=∀ σ H ρ μ (Q:List D→Mu→Prop) (Q':List V→Hp→Prop),Rl K σ H ρ μ→T ρ μ Q→(∀ vs H' ds μ',Tk H H'→bG K H' μ'→DpL K H' vs ds→Q ds μ'→Q' vs H')→t σ H Q'
abbrev uu (K:PySem.W.Frag)(H:Hp)(N:ST→Mu→Prop)(N':L2.St→Hp→Prop):Prop:=∀ σ' H' ρ' μ',Tk H H'→Rl K σ' H' ρ' μ'→N ρ' μ'→N' σ' H'
structure C4 (K:PySem.W.Frag) (H:Hp) (E:En) (E':Ends):Prop where
  nx:uu K H E.nx E'.nx
  rt:iq K H E.rt E'.rt
  bk:uu K H E.bk E'.bk
  ct:uu K H E.ct E'.ct
theorem C4.go {K:PySem.W.Frag}{H H1:Hp}{E:En}{E':Ends}(e:C4 K H E E')(t:Tk H H1):C4 K H1 E E':=
  ⟨fun _ _ _ _ t'=>e.nx _ _ _ _ (t.trans t'),fun _ _ _ _ t'=>e.rt _ _ _ _ (t.trans t'),fun _ _ _ _ t'=>e.bk _ _ _ _ (t.trans t'),fun _ _ _ _ t'=>e.ct _ _ _ _ (t.trans t')⟩
def EA (K:PySem.W.Frag)(t:TS)(T:STr):Prop:=∀ σ H ρ μ (E:En) (E':Ends),Rl K σ H ρ μ→T E ρ μ→C4 K H E E'→t E' σ H
def IQ (K:PySem.W.Frag)(g:TG)(G:GTr):Prop:=∀ σ H ρ μ v d (k:ST→Mu→Prop) (k':L2.St→Hp→Prop),Rl K σ H ρ μ→Dp K H v d→G d ρ μ k→uu K H k k'→g v σ H k'
structure LE (X:Cx) (e:Expr) (T:ETr):Prop where
  ex:∃ t,PE X e t∧Sim X.K t T
structure LT (X:Cx) (e:Expr) (T:TTr):Prop where
  ex:∃ t,PT X e t∧Fl X.K t T
structure LW (X:Cx) (e:Expr) (T:TTr):Prop where
  ex:∃ t,PW X e t∧Fl X.K t T
structure LA (X:Cx) (es:List Expr) (T:ATr):Prop where
  ex:∃ t,PA X es t∧L4 X.K t T
structure LS (X:Cx) (st:Stmt) (T:STr):Prop where
  ex:∃ t,PS X st t∧EA X.K t T
structure LSs (X:Cx) (sts:List Stmt) (T:STr):Prop where
  ex:∃ t,PSs X sts t∧EA X.K t T
structure LG (X:Cx) (tg:Expr) (G:GTr):Prop where
  ex:∃ g,PG X tg g∧IQ X.K g G
section
variable {X:Cx} {a b c e:Expr} {Ta Tb Tc:ETr} {pos:Pos}
theorem af (i:Nat){x:Str}(hN:X.N[i]? = some x:=by rfl)(hv:Vis X.env.scope x:=by first | exact Or.inl rfl | exact Or.inr (Or.inl rfl) | exact Or.inr (Or.inr rfl))(hd:(x == ("__debug__" : Str))=false:=by decide)
    (hcd:(x == ("__classdict__" : Str))=false:=by decide):LE X (.Name x pos) (ah i):=
  ⟨_,CM hN hv hd hcd,fun σ H ρ μ Q Q' r h k=>by
    have h:kO (lk ρ i) fun d=>Q d μ:=h
    cases q:lk ρ i with
    | none=>rw[q] at h;exact False.elim h
    | some d=>
      rw[q] at h
      have h:Q d μ:=h
      obtain ⟨v,e1,p⟩:=r.loc i d q
      exact ⟨v,e1,k v H d μ (.refl H) r.mu p h⟩⟩
theorem le_int {i:Int}{j}:LE X (.Constant (.int i) j pos) (TC (.int i)):=⟨_,Iy,fun σ H ρ μ Q Q' r h k=>k _ H _ μ (.refl H) r.mu (.int i) h⟩
theorem gO {b:Bool}{j}:LE X (.Constant (.bool b) j pos) (TC (.bl b)):=⟨_,Kx,fun σ H ρ μ Q Q' r h k=>k _ H _ μ (.refl H) r.mu (.bl b) h⟩
theorem wN {j}:LE X (.Constant .none j pos) (TC .non):=⟨_,J4,fun σ H ρ μ Q Q' r h k=>k _ H _ μ (.refl H) r.mu .non h⟩
theorem le_str {x:Str}{j}:LE X (.Constant (.str x) j pos) (TC (.str x)):=⟨_,HR,fun σ H ρ μ Q Q' r h k=>k _ H _ μ (.refl H) r.mu (.str x) h⟩
def fW (K:PySem.W.Frag)(r:R2)(R:DR2):Prop:=∀ H μ x y dx dy (Q:DK) (Q':VK),bG K H μ→Dp K H x dx→Dp K H y dy→R dx dy μ Q→iq K H Q Q'→r x y H Q'
def Lz (K:PySem.W.Frag)(r:V→Hp→VK→Prop)(R:DR):Prop:=∀ H μ x dx (Q:DK) (Q':VK),bG K H μ→Dp K H x dx→R dx μ Q→iq K H Q Q'→r x H Q'
theorem iq.go {K:PySem.W.Frag}{H H1:Hp}{Q:DK}{Q':VK}(k:iq K H Q Q')(t:Tk H H1):iq K H1 Q Q':=fun v H' d μ' t'=>k v H' d μ' (t.trans t')
theorem mF {K:PySem.W.Frag}{r:R2}{R:DR2}{ta tb:TE}(hr:fW K r R)(ha:Sim K ta Ta)(hb:Sim K tb Tb):Sim K (tOp r ta tb) (aj R Ta Tb):=fun σ H ρ μ Q Q' rl h k=>
  ha σ H ρ μ _ _ rl h fun x H1 dx μ1 t1 m1 p1 h1=>hb σ H1 ρ μ1 _ _ (rl.go t1 m1) h1 fun y H2 dy μ2 t2 m2 p2 h2=>hr H2 μ2 x y dx dy Q Q' m2 (p1.mono t2) p2 h2 (k.go (t1.trans t2))
theorem mX {op:Operator}{r:R2}{R:DR2}(ho:OpR X (binaryOp op) r)(hr:fW X.K r R)(ha:LE X a Ta)(hb:LE X b Tb):LE X (.BinOp a op b pos) (aj R Ta Tb):=by
  obtain ⟨ta,pa,sa⟩:=ha.ex
  obtain ⟨tb,pb,sb⟩:=hb.ex
  exact ⟨_,Ha ho pa pb,mF hr sa sb⟩
theorem iT {op:CmpOp}{r:R2}{R:DR2}(ho:OpR X (compareOp op) r)(hr:fW X.K r R)(ha:LE X a Ta)(hb:LE X b Tb)(hm:behindInMarks op b=false):LE X (.Compare a [op] [b] pos) (aj R Ta Tb):=by
  obtain ⟨ta,pa,sa⟩:=ha.ex
  obtain ⟨tb,pb,sb⟩:=hb.ex
  exact ⟨_,E2 ho pa pb hm,mF hr sa sb⟩
theorem xq {K:PySem.W.Frag}{t:TE}{T:ETr}(h:Sim K t T):Fl K (G9 t) (TB T):=fun σ H ρ μ Q Q' rl hh k=>
  h σ H ρ μ _ _ rl hh fun v H' d μ' t' m' p' h'=>by
    cases p' with
    | bl c=>exact ⟨c,rfl,k c H' μ' t' m' h'⟩
    | _=>exact False.elim h'
theorem JS {K:PySem.W.Frag}{t:TE}{T:ETr}(h:Sim K t T):Fl K (tB t) (TB T):=fun σ H ρ μ Q Q' rl hh k=>
  h σ H ρ μ _ _ rl hh fun v H' d μ' t' m' p' h'=>by
    cases p' with
    | bl c=>exact ⟨c,rfl,k c H' μ' t' m' h'⟩
    | _=>exact False.elim h'
theorem ff {op:CmpOp}{r:R2}{R:DR2}(ho:OpR X (compareOp op) r)(hr:fW X.K r R)(ha:LE X a Ta)(hb:LE X b Tb)(hm:behindInMarks op b=false):LT X (.Compare a [op] [b] pos) (TB (aj R Ta Tb)):=by
  obtain ⟨ta,pa,sa⟩:=ha.ex
  obtain ⟨tb,pb,sb⟩:=hb.ex
  exact ⟨_,Em ho pa pb hm,xq (mF hr sa sb)⟩
theorem OpR.or {f:Value→Value→Sem Value}{r r':R2}(h:OpR X f r)(h':OpR X f r'):OpR X f (fun x y H Q=>r x y H Q∨r' x y H Q):=fun pins s σ H x y v u Q I rx ry q=>by
  rcases q with q | q
  · exact h pins s σ H x y v u Q I rx ry q
  · exact h' pins s σ H x y v u Q I rx ry q
theorem tV {K:PySem.W.Frag}{C:Int→Int→Prop}{g:Int→Int→V}{R:DR2}(f:Int→Int→D)(hg:∀ H i j,Dp K H (g i j) (f i j))(hR:∀ i j μ Q,R (.int i) (.int j) μ Q→C i j∧Q (f i j) μ)
    (hn:∀ dx dy μ Q,R dx dy μ Q→(∃ i,dx=.int i)∧∃ j,dy=.int j):fW K (rI C g) R:=fun H μ x y dx dy Q Q' m px py h k=>by
  obtain ⟨⟨i,rfl⟩,j,rfl⟩:=hn _ _ _ _ h
  cases px;cases py
  obtain ⟨h1,h2⟩:=hR _ _ _ _ h
  exact ⟨i,j,rfl,rfl,h1,k _ H _ μ (.refl H) m (hg H i j) h2⟩
theorem zN {K:PySem.W.Frag}{g:Int→Int→V}{R:DR2}(f:Int→Int→D)(hg:∀ H i j,Dp K H (g i j) (f i j))(hR:∀ i j μ Q,R (.int i) (.int j) μ Q→Q (f i j) μ)
    (hn:∀ dx dy μ Q,R dx dy μ Q→(∃ i,dx=.int i)∧∃ j,dy=.int j):fW K (rI0 g) R:=fun H μ x y dx dy Q Q' m px py h k=>by
  obtain ⟨⟨i,rfl⟩,j,rfl⟩:=hn _ _ _ _ h
  cases px;cases py
  exact ⟨i,j,rfl,rfl,k _ H _ μ (.refl H) m (hg H i j) (hR _ _ _ _ h)⟩
theorem sE (ha:LE X a Ta)(hb:LE X b Tb):LE X (.BinOp a .Sub b pos) (aj vD Ta Tb):=mX Ih (zN (fun i j=>.int (i - j)) (fun _ _ _=>.int _) (fun _ _ _ _ h=>h) (fun dx dy μ Q h=>by cases dx<;>cases dy<;>first | exact ⟨⟨_,rfl⟩,_,rfl⟩ | exact False.elim h)) ha hb
theorem eR.abs {j:Int}(h:eR j):j.natAbs < 2 ^ 256:=by
  have e:(2:Nat) ^ 256=115792089237316195423570985008687907853269984665640564039457584007913129639936:=by decide +kernel
  rw[e]
  obtain ⟨h1,h2⟩:=h
  omega
theorem MulOk.ok {i j:Int}(h:MulOk i j):IntMulOk i j:=by
  rcases h with (⟨h1,h2⟩ | ⟨h1,h2⟩) | ⟨h1,h2⟩
  · exact .of_left (intBits_le_64 h1 h2)
  · exact .of_right (intBits_le_64 h1 h2)
  · exact .of_le (PyProof.Rows.intBits_le h1.abs) (PyProof.Rows.intBits_le h2.abs) (by decide)
theorem EJ:OpR X (binaryOp .Mult) (rI MulOk fun i j=>.int (i*j)):=opI fun _ _ _ _ _ _ _ hc q=>mul_int q hc.ok
theorem fX.np {i j:Int}(h:fX j):Builtin.divisionGoesByPylong i j=false:=by
  refine PyProof.noPylong_of_log2 ?_
  have h0:j.natAbs≠0:=by have:=h.1;omega
  have:=(Nat.log2_lt h0).mpr h.2.abs
  omega
theorem Ej:OpR X (binaryOp .FloorDiv) (rI (fun _ j=>fX j) fun i j=>.int (i.fdiv j)):=opI fun _ _ _ _ _ _ _ hc q=>floordiv_int hc.1 q (.inl hc.np)
theorem ip (ha:LE X a Ta)(hb:LE X b Tb):LE X (.BinOp a .FloorDiv b pos) (aj kZ Ta Tb):=mX Ej (tV (fun i j=>.int (i.fdiv j)) (fun _ _ _=>.int _) (fun _ _ _ _ h=>⟨h.1,h.2⟩) (fun dx dy μ Q h=>by cases dx<;>cases dy<;>first | exact ⟨⟨_,rfl⟩,_,rfl⟩ | exact False.elim h)) ha hb
theorem le_mul (ha:LE X a Ta)(hb:LE X b Tb):LE X (.BinOp a .Mult b pos) (aj cg Ta Tb):=mX EJ (tV (fun i j=>.int (i*j)) (fun _ _ _=>.int _) (fun _ _ _ _ h=>⟨h.1,h.2⟩) (fun dx dy μ Q h=>by cases dx<;>cases dy<;>first | exact ⟨⟨_,rfl⟩,_,rfl⟩ | exact False.elim h)) ha hb
theorem fA (ha:LE X a Ta)(hb:LE X b Tb):LE X (.BinOp a .Mod b pos) (aj gR Ta Tb):=mX Ew (tV (fun i j=>.int (i.fmod j)) (fun _ _ _=>.int _) (fun _ _ _ _ h=>⟨h.1,h.2⟩) (fun dx dy μ Q h=>by cases dx<;>cases dy<;>first | exact ⟨⟨_,rfl⟩,_,rfl⟩ | exact False.elim h)) ha hb
theorem le_pow (ha:LE X a Ta)(hb:LE X b Tb):LE X (.BinOp a .Pow b pos) (aj D8 Ta Tb):=mX ID (tV (fun i j=>.int (i ^ j.toNat)) (fun _ _ _=>.int _) (fun _ _ _ _ h=>⟨h.1,h.2⟩) (fun dx dy μ Q h=>by cases dx<;>cases dy<;>first | exact ⟨⟨_,rfl⟩,_,rfl⟩ | exact False.elim h)) ha hb
theorem gu {K:PySem.W.Frag}(p:Int→Int→Bool):fW K (rI0 fun i j=>.bl (p i j)) (Dk p):=zN (fun i j=>.bl (p i j)) (fun _ _ _=>.bl _) (fun _ _ _ _ h=>h) (fun dx dy μ Q h=>by cases dx<;>cases dy<;>first | exact ⟨⟨_,rfl⟩,_,rfl⟩ | exact False.elim h)
theorem Ly (ha:LE X a Ta)(hb:LE X b Tb):LE X (.Compare a [.Lt] [b] pos) (aj rLt Ta Tb):=iT GJ (gu _) ha hb (dX _)
theorem L0 (ha:LE X a Ta)(hb:LE X b Tb):LE X (.Compare a [.LtE] [b] pos) (aj rLe Ta Tb):=iT GU (gu _) ha hb (dX _)
theorem Kg (ha:LE X a Ta)(hb:LE X b Tb):LE X (.Compare a [.Gt] [b] pos) (aj rGt Ta Tb):=iT GG (gu _) ha hb (dX _)
theorem KP (ha:LE X a Ta)(hb:LE X b Tb):LE X (.Compare a [.GtE] [b] pos) (aj rGe Ta Tb):=iT Kn (gu _) ha hb (dX _)
theorem zR (ha:LE X a Ta)(hb:LE X b Tb):LT X (.Compare a [.Lt] [b] pos) (TB (aj rLt Ta Tb)):=ff GJ (gu _) ha hb (dX _)
theorem Hb (ha:LE X a Ta)(hb:LE X b Tb):LT X (.Compare a [.LtE] [b] pos) (TB (aj rLe Ta Tb)):=ff GU (gu _) ha hb (dX _)
theorem Dq (ha:LE X a Ta)(hb:LE X b Tb):LT X (.Compare a [.Gt] [b] pos) (TB (aj rGt Ta Tb)):=ff GG (gu _) ha hb (dX _)
theorem K6 {op:UnaryOp}{r:V→Hp→VK→Prop}{R:DR}(ho:UnR X (unaryOp op) r)(hr:Lz X.K r R)(ha:LE X a Ta):LE X (.UnaryOp op a pos) (TUn R Ta):=by
  obtain ⟨ta,pa,sa⟩:=ha.ex
  exact ⟨_,LR ho pa,fun σ H ρ μ Q Q' rl h k=>sa σ H ρ μ _ _ rl h fun x H1 dx μ1 t1 m1 p1 h1=>hr H1 μ1 x dx Q Q' m1 p1 h1 (k.go t1)⟩
theorem cJ (ha:LE X a Ta)(he:∀ whole,isTrue a X.env whole=(do let v ← whole;standAt a.pos;holding [v] (truthy v)):=by intro _;rfl):LT X a (TB Ta):=by
  obtain ⟨ta,pa,sa⟩:=ha.ex
  exact ⟨_,HZ pa he,JS sa⟩
variable {tA tB' tC':TTr} {rest:List Expr}
theorem eM (ha:LT X a tA):LT X (.UnaryOp .Not a pos) (iX tA):=by
  obtain ⟨ta,pa,sa⟩:=ha.ex
  exact ⟨_,Iv pa,fun σ H ρ μ Q Q' rl h k=>sa σ H ρ μ _ _ rl h fun c H1 μ1 t1 m1 h1=>k (!c) H1 μ1 t1 m1 h1⟩
theorem LW.lt (h:LW X a tA):LT X a tA:=by
  obtain ⟨ta,pa,sa⟩:=h.ex
  exact ⟨_,pa.pt,sa⟩
theorem zh (ha:LT X a tA):LW X (.BoolOp .And [a] pos) tA:=by
  obtain ⟨ta,pa,sa⟩:=ha.ex
  exact ⟨_,pw_and1 pa,sa⟩
theorem lg (ha:LT X a tA):LW X (.BoolOp .Or [a] pos) tA:=by
  obtain ⟨ta,pa,sa⟩:=ha.ex
  exact ⟨_,pw_or1 pa,sa⟩
theorem xb (ha:LT X a tA)(hb:LW X (.BoolOp .And (b::rest) pos) tB'):LW X (.BoolOp .And (a::b::rest) pos) (sW tA tB'):=by
  obtain ⟨ta,pa,sa⟩:=ha.ex
  obtain ⟨tb,pb,sb⟩:=hb.ex
  refine ⟨_,pw_and pa pb,fun σ H ρ μ Q Q' rl h k=>sa σ H ρ μ _ _ rl h fun c H1 μ1 t1 m1 h1=>?_⟩
  cases c with
  | true=>exact rW (sb σ H1 ρ μ1 Q Q' (rl.go t1 m1) h1 fun b H2 μ2 t2=>k b H2 μ2 (t1.trans t2))
  | false=>exact sY (k false H1 μ1 t1 m1 h1)
theorem lM (ha:LT X a tA)(hb:LW X (.BoolOp .Or (b::rest) pos) tB'):LW X (.BoolOp .Or (a::b::rest) pos) (TOr tA tB'):=by
  obtain ⟨ta,pa,sa⟩:=ha.ex
  obtain ⟨tb,pb,sb⟩:=hb.ex
  refine ⟨_,pw_or pa pb,fun σ H ρ μ Q Q' rl h k=>sa σ H ρ μ _ _ rl h fun c H1 μ1 t1 m1 h1=>?_⟩
  cases c with
  | true=>exact rW (k true H1 μ1 t1 m1 h1)
  | false=>exact sY (sb σ H1 ρ μ1 Q Q' (rl.go t1 m1) h1 fun b H2 μ2 t2=>k b H2 μ2 (t1.trans t2))
theorem rZ {op}(h:LE X a Ta):LE X (.BoolOp op [a] pos) Ta:=by
  obtain ⟨ta,pa,sa⟩:=h.ex
  exact ⟨_,IT pa,sa⟩
theorem oM (ha:LE X a Ta)(hb:LE X (.BoolOp .And (b::rest) pos) Tb):LE X (.BoolOp .And (a::b::rest) pos) (jm Ta Tb):=by
  obtain ⟨ta,pa,sa⟩:=ha.ex
  obtain ⟨tb,pb,sb⟩:=hb.ex
  refine ⟨_,JG pa pb,fun σ H ρ μ Q Q' rl h k=>sa σ H ρ μ _ _ rl h fun x H1 dx μ1 t1 m1 p1 h1=>?_⟩
  cases p1 with
  | bl c=>
    refine ⟨c,rfl,?_⟩
    cases c with
    | true=>exact rW (sb σ H1 ρ μ1 Q Q' (rl.go t1 m1) h1 (k.go t1))
    | false=>exact sY (k _ H1 _ μ1 t1 m1 (.bl _) h1)
  | _=>exact False.elim h1
theorem nh (ha:LE X a Ta):LE X (.UnaryOp .Not a pos) (je Ta):=by
  obtain ⟨ta,pa,sa⟩:=ha.ex
  refine ⟨_,J2 pa,fun σ H ρ μ Q Q' rl h k=>sa σ H ρ μ _ _ rl h fun x H1 dx μ1 t1 m1 p1 h1=>?_⟩
  cases p1 with
  | bl c=>exact ⟨c,rfl,k _ H1 _ μ1 t1 m1 (.bl _) h1⟩
  | _=>exact False.elim h1
theorem xn (hc:LT X c tC')(ha:LE X a Ta)(hb:LE X b Tb):LE X (.IfExp c a b pos) (vk tC' Ta Tb):=by
  obtain ⟨tc,pc,sc⟩:=hc.ex
  obtain ⟨ta,pa,sa⟩:=ha.ex
  obtain ⟨tb,pb,sb⟩:=hb.ex
  refine ⟨_,BO pc pa pb,fun σ H ρ μ Q Q' rl h k=>sc σ H ρ μ _ _ rl h fun q H1 μ1 t1 m1 h1=>?_⟩
  cases q with
  | true=>exact rW (sa σ H1 ρ μ1 Q Q' (rl.go t1 m1) h1 (k.go t1))
  | false=>exact sY (sb σ H1 ρ μ1 Q Q' (rl.go t1 m1) h1 (k.go t1))
variable {es:List Expr} {At:ATr}
theorem ai:LA X [] aw:=⟨_,lu,fun σ H ρ μ Q Q' rl h k=>k [] H [] μ (.refl H) rl.mu .nil h⟩
theorem ae (ha:LE X e Ta)(hr:LA X es At)(hs:starEach (e::es) X.env=(false,eval e X.env)::starEach es X.env:=by rfl):LA X (e::es) (ag Ta At):=by
  obtain ⟨ta,pa,sa⟩:=ha.ex
  obtain ⟨tr,pr,sr⟩:=hr.ex
  exact ⟨_,eW pa pr hs,fun σ H ρ μ Q Q' rl h k=>sa σ H ρ μ _ _ rl h fun x H1 dx μ1 t1 m1 p1 h1=>sr σ H1 ρ μ1 _ _ (rl.go t1 m1) h1 fun xs H2 ds μ2 t2 m2 p2 h2=>k _ H2 _ μ2 (t1.trans t2) m2 (.cons (p1.mono t2) p2) h2⟩
theorem cR {K:PySem.W.Frag}{H:Hp}{μ:Mu}{p:Addr}{o:HO}(m:bG K H μ)(hp:H p=none):bG K (L2.upd H p o) μ:=m.keep (.new hp) fun a' xs' _ e=>by rw[aB (aP e hp)];exact e
theorem big {n:Nat}(h:n≤1000000):n≤sizeLine:=Nat.le_trans h (by decide)
theorem aX {x1}(h:LA X es At):LE X (.Tuple es x1 pos) (cK At):=by
  obtain ⟨ta,pa,sa⟩:=h.ex
  refine ⟨_,HI pa,fun σ H ρ μ Q Q' rl h k=>sa σ H ρ μ _ _ rl h fun xs H1 ds μ1 t1 m1 p1 h1=>⟨by rw[p1.length];exact big h1.1,fun p hp=>?_⟩⟩
  exact k _ _ _ μ1 (t1.trans (.new hp)) (cR m1 hp) (.tup (SqT.of aG) (p1.mono (.new hp))) h1.2
theorem gi (h:LA X es At):LE X (.List es pos) (kr At):=by
  obtain ⟨ta,pa,sa⟩:=h.ex
  refine ⟨_,Cm pa,fun σ H ρ μ Q Q' rl h k=>sa σ H ρ μ _ _ rl h fun xs H1 ds μ1 t1 m1 p1 h1=>⟨by rw[p1.length];exact big h1.1,fun p hp=>?_⟩⟩
  refine k _ _ _ (up μ1 p (.lst ds)) (t1.trans (.new hp)) (fun a o e=>?_) (.obj p) (h1.2 p (m1.free hp))
  by_cases ha:a=p
  · subst ha
    rw[aD] at e;cases e
    exact ⟨xs,aG,p1.mono (.new hp)⟩
  · rw[aU ha] at e
    exact cR m1 hp a o e
def A1 (t:TE):TE:=fun σ H Q=>t σ H fun v H1=>∃ a xs,v=.ref a∧H1 a=some (.lst xs)∧∀ o,Q v (L2.upd H1 a (.frz o (.lst xs)))
theorem jI {t:TE}(h:PE X e t):PE X e (A1 t):=by
  intro pins s σ H Q I hh
  refine thn (h pins s σ H _ I hh) fun u s1 ⟨v,H1,I1,r,a,xs,ev,ea,q⟩=>?_
  obtain ⟨z,its,n,rv,hg⟩:=(show cj X.prog X.w H1 s1.heap a (.lst xs) from I1.hok a _ ea)
  have nl:∀ b o,H1 b=some o→(∀ ys,o≠.lst ys)→b≠a:=fun b o e1 e2 z=>by subst z;rw[ea] at e1;cases e1;exact e2 _ rfl
  refine ⟨v,_,I1.un (h':=s1.heap) (t':=s1.toks) (H':=L2.upd H1 a (.frz { cls:=.type "list", data:=.seq its.toArray n } (.lst xs))) ⟨fun b o e _ _ _=>e,fun b o e _ _ _=>⟨o.slots,e⟩,fun b o e n _=>?_,fun b o e _=>⟨o,e⟩,fun b ys e=>?_,fun b o u e=>?_,fun b ps e=>⟨#[],?_⟩⟩ (fun b u e=>?_),r,q _⟩
  · rw[aB (fun z=>by subst z;rw[ea] at n;cases n)];exact n
  · rw[aB (nl b _ e (fun _=>nofun))];exact e
  · rw[aB (nl b _ e (fun _=>nofun))];exact e
  · rw[aB (nl b _ e (fun _=>nofun)),e];simp
  · by_cases hb:b=a
    · subst hb
      rw[aG] at e;cases e
      exact ⟨hg,z,its,n,rv,hg⟩
    · rw[aB hb] at e
      refine (I1.hok b u e).lq (fun c w _ q=>q) (fun c q=>?_) fun c ys q=>?_
      · rw[aB (nl c _ q (fun _=>nofun))];exact q
      · rw[aB (nl c _ q (fun _=>nofun))];exact q
theorem dg (h:LA X es At):LE X (.List es pos) (gv At):=by
  obtain ⟨ta,pa,sa⟩:=h.ex
  refine ⟨_,jI (Cm pa),fun σ H ρ μ Q Q' rl h k=>sa σ H ρ μ _ _ rl h fun xs H1 ds μ1 t1 m1 p1 h1=>⟨by rw[p1.length];exact big h1.1,fun p hp=>⟨p,xs,rfl,aG,fun o=>?_⟩⟩⟩
  have e:L2.upd (L2.upd H1 p (.lst xs)) p (.frz o (.lst xs))=L2.upd H1 p (.frz o (.lst xs)):=sL
  rw[e]
  exact k _ _ _ μ1 (t1.trans (.new hp)) (cR m1 hp) (.ls (.inl ⟨o,aG⟩) (p1.mono (.new hp))) h1.2
end
end
section
open PySem PySem.Spec PyProof.Rows L2
mutual
def toP:D→PyData
  | .non=>.none
  | .bl b=>.bool b
  | .int i=>.int i
  | .str x=>.str x
  | .tup ds=>.tuple (jT ds)
  | .ls ds=>.list (jT ds)
  | .ty _=>.none
  | .obj _=>.none
def jT:List D→List PyData
  | []=>[]
  | d::r=>toP d::jT r
end
mutual
theorem gw:∀ (n:Nat) (d:D),okD n d=true→(toP d).canLay0=true∧(toP d).depth≤n
  | n,.non,_=>⟨rfl,Nat.zero_le _⟩
  | n,.bl b,_=>⟨rfl,Nat.zero_le _⟩
  | n,.int i,_=>⟨rfl,Nat.zero_le _⟩
  | n,.str x,h=>⟨by cases n<;>exact h,Nat.zero_le _⟩
  | n+1,.tup ds,h=>by
    obtain ⟨h1,h2⟩:=m8 n ds h
    exact ⟨h1,Nat.succ_le_succ h2⟩
  | n+1,.ls ds,h=>by
    obtain ⟨h1,h2⟩:=m8 n ds h
    exact ⟨h1,Nat.succ_le_succ h2⟩
  | 0,.tup ds,h=>by cases h
  | 0,.ls ds,h=>by cases h
  | n,.ty _,h=>by cases n<;>cases h
  | n,.obj _,h=>by cases n<;>cases h
theorem m8:∀ (n:Nat) (ds:List D),bC n ds=true→PyData.canLayAll0 (jT ds)=true∧PyData.depthAll (jT ds)≤n
  | n,[],_=>⟨rfl,Nat.zero_le _⟩
  | n,d::r,h=>by
    have h':okD n d=true∧bC n r=true:=by simpa[bC] using h
    obtain ⟨a1,a2⟩:=gw n d h'.1
    obtain ⟨b1,b2⟩:=m8 n r h'.2
    refine ⟨?_,?_⟩
    · show (PyData.canLay0 (toP d)&&PyData.canLayAll0 (jT r))=true
      rw[a1,b1];rfl
    · show max (PyData.depth (toP d)) (PyData.depthAll (jT r))≤n
      exact Nat.max_le.mpr ⟨a2,b2⟩
end
theorem str_beq (a b:Str):(a == b)=decide (a=b):=by
  by_cases h:a=b
  · subst h;simp
  · rw[decide_eq_false h];exact beq_eq_false_iff_ne.mpr h
mutual
theorem mJ:∀ (n m:Nat) (a b:D),okD n a=true→okD m b=true→PyData.eqv (toP a) (toP b)=eqD a b
  | n,m,.non,b,_,hb=>by cases b<;>first | rfl | (cases m<;>cases hb)
  | n,m,.bl x,b,_,hb=>by
    cases b with
    | int y=>simp only[toP,PyData.eqv,eqD];rw[Bool.beq_eq_decide_eq]
    | ty _=>cases m<;>cases hb
    | obj _=>cases m<;>cases hb
    | _=>rfl
  | n,m,.int x,b,_,hb=>by
    cases b with
    | int y=>simp only[toP,PyData.eqv,eqD];rw[Bool.beq_eq_decide_eq]
    | bl y=>simp only[toP,PyData.eqv,eqD];rw[Bool.beq_eq_decide_eq]
    | ty _=>cases m<;>cases hb
    | obj _=>cases m<;>cases hb
    | _=>rfl
  | n,m,.str x,b,_,hb=>by
    cases b with
    | str y=>simp only[toP,PyData.eqv,eqD];exact str_beq x y
    | ty _=>cases m<;>cases hb
    | obj _=>cases m<;>cases hb
    | _=>rfl
  | n+1,m,.tup xs,b,ha,hb=>by
    cases b with
    | tup ys=>
      cases m with
      | zero=>cases hb
      | succ m=>simp only[toP,PyData.eqv,eqD];exact nM n m xs ys ha hb
    | ty _=>cases m<;>cases hb
    | obj _=>cases m<;>cases hb
    | _=>rfl
  | n+1,m,.ls xs,b,ha,hb=>by
    cases b with
    | ls ys=>
      cases m with
      | zero=>cases hb
      | succ m=>simp only[toP,PyData.eqv,eqD];exact nM n m xs ys ha hb
    | ty _=>cases m<;>cases hb
    | obj _=>cases m<;>cases hb
    | _=>rfl
  | 0,_,.tup ds,_,h,_=>by cases h
  | 0,_,.ls ds,_,h,_=>by cases h
  | n,_,.ty _,_,h,_=>by cases n<;>cases h
  | n,_,.obj _,_,h,_=>by cases n<;>cases h
theorem nM:∀ (n m:Nat) (a b:List D),bC n a=true→bC m b=true→PyData.eqvAll (jT a) (jT b)=gF a b
  | _,_,[],[],_,_=>rfl
  | _,_,[],_::_,_,_=>by simp[jT,PyData.eqvAll,gF]
  | _,_,_::_,[],_,_=>by simp[jT,PyData.eqvAll,gF]
  | n,m,a::r,b::s,ha,hb=>by
    have ha':okD n a=true∧bC n r=true:=by simpa[bC] using ha
    have hb':okD m b=true∧bC m s=true:=by simpa[bC] using hb
    show (PyData.eqv (toP a) (toP b)&&PyData.eqvAll (jT r) (jT s))=(eqD a b&&gF r s)
    rw[mJ n m a b ha'.1 hb'.1,nM n m r s ha'.2 hb'.2]
end
section
variable {X:Cx} {pins:List (Addr×Obj)} {σ:L2.St} {H:Hp} {s:Shared}
mutual
theorem dR (I:Inv X pins σ H s):∀ {n:Nat} {v:V} {d:D} {u:Value},Dp X.K H v d→okD n d=true→RelV v u→∃ as,Reads s.heap u (toP d) as
  | n,_,_,u,.non,_,r=>by cases (show u=Value.none from r);exact ⟨_,.none⟩
  | n,_,_,u,.bl b,_,r=>by cases (show u=Value.bool b from r);exact ⟨_,.bool b⟩
  | n,_,_,u,.int i,_,r=>by obtain ⟨t,e⟩:=(show ∃ t,u=Value.int i t from r);subst e;exact ⟨_,.int i t⟩
  | n,_,_,u,.str x,_,r=>by obtain ⟨t,e⟩:=(show ∃ t,u=Value.str x t from r);subst e;exact ⟨_,.str x t⟩
  | n,_,_,u,.ty _,h,_=>by cases n<;>cases h
  | n+1,_,_,u,@Dp.tup _ _ a xs ds q l,h,r=>by
    cases (show u=Value.ref a from r)
    obtain ⟨its,rv,⟨o,e1,e2,k,e3⟩,_⟩:=I.tuple q
    obtain ⟨as,ra⟩:=hW I (n:=n) l h rv
    exact ⟨_,.tuple e1 e2 e3 (by simpa using ra)⟩
  | n+1,_,_,u,@Dp.ls _ _ a xs ds q l,h,r=>by
    cases (show u=Value.ref a from r)
    obtain ⟨its,rv,⟨o,k,e1,e2,_,e3⟩,_⟩:=I.list q.sq
    obtain ⟨as,ra⟩:=hW I (n:=n) l h rv
    exact ⟨_,.list e1 e2 e3 (by simpa using ra)⟩
  | 0,_,_,u,@Dp.tup _ _ a xs ds q l,h,r=>by cases h
  | 0,_,_,u,@Dp.ls _ _ a xs ds q l,h,r=>by cases h
  | n,_,_,u,.obj _,h,_=>by cases n<;>cases h
theorem hW (I:Inv X pins σ H s):∀ {n:Nat} {vs:List V} {ds:List D} {us:List Value},DpL X.K H vs ds→bC n ds=true→Vals vs us→∃ as,ReadsAll s.heap us (jT ds) as
  | n,_,_,_,.nil,_,.nil=>⟨_,.nil⟩
  | n,_,_,_,@DpL.cons _ _ v d vs ds h l,ho,.cons r rs=>by
    have ho':okD n d=true∧bC n ds=true:=by simpa[bC] using ho
    obtain ⟨as,ra⟩:=dR I h ho'.1 r
    obtain ⟨bs,rb⟩:=hW I l ho'.2 rs
    exact ⟨_,.cons ra rb⟩
end
end
def FF (K:PySem.W.Frag)(f:Bool→Bool):R2:=fun x y H Q=>∃ dx dy,Dp K H x dx∧Dp K H y dy∧okD 40 dx=true∧okD 40 dy=true∧Q (.bl (f (eqD dx dy))) H
section
variable {X:Cx} {a b c e:Expr} {Ta Tb Tc:ETr} {pos:Pos}
theorem Cr (hu:X.A.units+64 < cLine):OpR X (compareOp .Eq) (FF X.K id):=fun pins s σ H x y v u Q I rx ry ⟨dx,dy,px,py,ox,oy,q⟩=>by
  obtain ⟨as,ra⟩:=dR I px ox rx
  obtain ⟨bs,rb⟩:=dR I py oy ry
  obtain ⟨l1,d1⟩:=gw 40 dx ox
  obtain ⟨l2,d2⟩:=gw 40 dy oy
  exact SeqAt.compareEq_reads ra rb l1 l2 (by have:=Nat.min_le_left (toP dx).depth (toP dy).depth;omega) ⟨.bl _,H,I,rfl,by rw[mJ 40 40 dx dy ox oy];exact q⟩
theorem II (hu:X.A.units+64 < cLine):OpR X (compareOp .NotEq) (FF X.K not):=fun pins s σ H x y v u Q I rx ry ⟨dx,dy,px,py,ox,oy,q⟩=>by
  obtain ⟨as,ra⟩:=dR I px ox rx
  obtain ⟨bs,rb⟩:=dR I py oy ry
  obtain ⟨l1,d1⟩:=gw 40 dx ox
  obtain ⟨l2,d2⟩:=gw 40 dy oy
  exact SeqAt.compareNe_reads ra rb l1 l2 (by have:=Nat.min_le_left (toP dx).depth (toP dy).depth;omega) ⟨.bl _,H,I,rfl,by rw[mJ 40 40 dx dy ox oy];exact q⟩
theorem Bi {K:PySem.W.Frag}:fW K (FF K id) rEq:=fun H μ x y dx dy Q Q' m px py h k=>⟨dx,dy,px,py,h.1.1,h.1.2,k _ H _ μ (.refl H) m (.bl _) h.2⟩
theorem Io {K:PySem.W.Frag}:fW K (FF K not) rNe:=fun H μ x y dx dy Q Q' m px py h k=>⟨dx,dy,px,py,h.1.1,h.1.2,k _ H _ μ (.refl H) m (.bl _) h.2⟩
theorem le_eq (hu:X.A.units+64 < cLine)(ha:LE X a Ta)(hb:LE X b Tb):LE X (.Compare a [.Eq] [b] pos) (aj rEq Ta Tb):=iT (Cr hu) Bi ha hb (dX _)
theorem lt_eq (hu:X.A.units+64 < cLine)(ha:LE X a Ta)(hb:LE X b Tb):LT X (.Compare a [.Eq] [b] pos) (TB (aj rEq Ta Tb)):=ff (Cr hu) Bi ha hb (dX _)
theorem GQ (hu:X.A.units+64 < cLine)(ha:LE X a Ta)(hb:LE X b Tb):LT X (.Compare a [.NotEq] [b] pos) (TB (aj rNe Ta Tb)):=ff (II hu) Io ha hb (dX _)
theorem Fx {K:PySem.W.Frag}:Lz K (rU fun i=>.int (-i)) wG:=fun H μ x dx Q Q' m px h k=>by
  cases px with
  | int i=>exact ⟨i,rfl,k _ H _ μ (.refl H) m (.int _) h⟩
  | _=>exact False.elim h
theorem le_neg (ha:LE X a Ta):LE X (.UnaryOp .USub a pos) (TUn wG Ta):=K6 IX Fx ha
theorem kR {o:Option D}{f:D→Prop}(h:kO o f):∃ d,o=some d∧f d:=by
  cases o with
  | none=>exact False.elim h
  | some d=>exact ⟨d,rfl,h⟩
theorem bV {μ:Mu}{a:Addr}{f:List D→Prop}(h:kL μ a f):∃ ds,μ a=some (.lst ds)∧f ds:=by
  unfold kL at h
  cases e:μ a with
  | none=>rw[e] at h;exact False.elim h
  | some o=>cases o with
    | lst ds=>rw[e] at h;exact ⟨ds,rfl,h⟩
    | dct ds=>rw[e] at h;exact False.elim h
theorem jD {μ:Mu}{a:Addr}{f:List (Key×D)→Prop}(h:kD μ a f):∃ ds,μ a=some (.dct ds)∧f ds:=by
  unfold kD at h
  cases e:μ a with
  | none=>rw[e] at h;exact False.elim h
  | some o=>cases o with
    | lst ds=>rw[e] at h;exact False.elim h
    | dct ds=>rw[e] at h;exact ⟨ds,rfl,h⟩
theorem Dd {o:Option Nat}{f:Nat→Prop}(h:kN o f):∃ d,o=some d∧f d:=by
  cases o with
  | none=>exact False.elim h
  | some d=>exact ⟨d,rfl,h⟩
theorem Iq {K:PySem.W.Frag}:fW K (L2.rIx K) L3.rIx:=fun H μ x y dx dy Q Q' m px py h k=>by
  cases px with
  | @tup a xs ds q l=>
    cases py with
    | int i=>
      obtain ⟨d,e,h'⟩:=kR h
      obtain ⟨v,e1,p⟩:=l.at e
      exact .inr (.inl ⟨a,xs,i,v,rfl,rfl,q,e1,k _ H _ μ (.refl H) m p h'⟩)
    | _=>exact False.elim h
  | @ls a xs ds q l=>
    cases py with
    | int i=>
      obtain ⟨d,e,h'⟩:=kR h
      obtain ⟨v,e1,p⟩:=l.at e
      exact .inl ⟨a,xs,i,v,rfl,rfl,q.sq,e1,k _ H _ μ (.refl H) m p h'⟩
    | _=>exact False.elim h
  | obj a=>
    cases py with
    | int i=>
      obtain ⟨ds,e0,h1⟩:=bV h
      obtain ⟨d,e,h'⟩:=kR h1
      obtain ⟨xs,ex,l⟩:=m a _ e0
      obtain ⟨v,e1,p⟩:=l.at e
      exact .inl ⟨a,xs,i,v,rfl,rfl,SqL.of ex,e1,k _ H _ μ (.refl H) m p h'⟩
    | _=>exact False.elim h
  | _=>cases py<;>exact False.elim h
theorem ar (ha:LE X a Ta)(hb:LE X b Tb)(hs:y9 b:=by intro _ _;rfl):LE X (.Subscript a b pos) (aj L3.rIx Ta Tb):=by
  obtain ⟨ta,pa,sa⟩:=ha.ex
  obtain ⟨tb,pb,sb⟩:=hb.ex
  exact ⟨_,Kr Js pa pb hs,mF Iq sa sb⟩
variable {es:List Expr} {At:ATr} {x:Str} {p:Pos} {id T:String}
def md (K:PySem.W.Frag)(r:List V→Hp→VK→Prop)(R:FSp):Prop:=∀ H μ xs ds (Q:DK) (Q':VK),bG K H μ→DpL K H xs ds→R ds μ Q→iq K H Q Q'→r xs H Q'
theorem qZ {K:PySem.W.Frag}{r:List V→Hp→VK→Prop}{R:FSp}{ta:TA}(hr:md K r R)(ha:L4 K ta At):Sim K (tCB r ta) (au R At):=fun σ H ρ μ Q Q' rl h k=>
  ha σ H ρ μ _ _ rl h fun xs H1 ds μ1 t1 m1 p1 h1=>hr H1 μ1 xs ds Q Q' m1 p1 h1 (k.go t1)
theorem aS {r:List V→Hp→VK→Prop}{R:FSp}(hc:bQ X (.builtin id) r)(hr:md X.K r R)(hg:Gl X x)(hm:X.mg x=none)(hv:bootBuiltins x=some (.builtin id))(ha:LA X (e::es) At)(hn:x ≠ "__name__" := by decide)(hdb:(x == ("__debug__" : Str))=false:=by decide)
    (h1:starEach (e::es) X.env=(false,eval e X.env)::starEach es X.env:=by rfl) (h2:(backTo pos (starEach es X.env)).any (·.1)=false:=by rfl):LE X (.Call (.Name x p) (e::es) [] pos) (au R At):=by
  obtain ⟨ta,pa,sa⟩:=ha.ex
  exact ⟨_,o5 hc hg hm hv pa hn hdb h1 h2,qZ hr sa⟩
theorem bZ {r:List V→Hp→VK→Prop}{R:FSp}(hc:bQ X (.type T) r)(hr:md X.K r R)(hg:Gl X x)(hm:X.mg x=none)(hv:bootBuiltins x=some (.type T))(ha:LA X (e::es) At)(hn:x ≠ "__name__" := by decide)(hdb:(x == ("__debug__" : Str))=false:=by decide)
    (h1:starEach (e::es) X.env=(false,eval e X.env)::starEach es X.env:=by rfl) (h2:(backTo pos (starEach es X.env)).any (·.1)=false:=by rfl):LE X (.Call (.Name x p) (e::es) [] pos) (au R At):=by
  obtain ⟨ta,pa,sa⟩:=ha.ex
  exact ⟨_,rg hc hg hm hv pa hn hdb h1 h2,qZ hr sa⟩
theorem jS {K:PySem.W.Frag}:md K (fun xs H Q=>∃ i,xs=[.int i]∧Q (.int (if i < 0 then -i else i)) H) tR:=fun H μ xs ds Q Q' m p h k=>by
  unfold tR at h
  split at h
  · cases p with | cons p1 p2=>cases p2;cases p1;exact ⟨_,rfl,k _ H _ μ (.refl H) m (.int _) h⟩
  · exact False.elim h
theorem Gp {K:PySem.W.Frag}:md K (fun xs H Q=>(∃ i,xs=[.int i]∧Q (.int i) H)∨∃ k,xs=[.bl k]∧Q (.int (if k then 1 else 0)) H) DQ:=fun H μ xs ds Q Q' m p h k=>by
  unfold DQ at h
  split at h
  · cases p with | cons p1 p2=>cases p2;cases p1;exact .inl ⟨_,rfl,k _ H _ μ (.refl H) m (.int _) h⟩
  · cases p with | cons p1 p2=>cases p2;cases p1;exact .inr ⟨_,rfl,k _ H _ μ (.refl H) m (.int _) h⟩
  · exact False.elim h
theorem bQ.or {f:Value}{r r':List V→Hp→VK→Prop}(h:bQ X f r)(h':bQ X f r'):bQ X f (fun xs H Q=>r xs H Q∨r' xs H Q):=fun pins s σ H xs us Q I rx q=>by
  rcases q with q | q
  · exact h pins s σ H xs us Q I rx q
  · exact h' pins s σ H xs us Q I rx q
theorem dF {K:PySem.W.Frag}:md K (fun xs H Q=>(∃ p ys,xs=[.ref p]∧(SqL K H p ys∨SqT K H p ys)∧Q (.int ys.length) H)∨∃ z,xs=[.str z]∧z.length≤sizeLine∧Q (.int z.length) H) gn:=fun H μ xs ds Q Q' m p h k=>by
  unfold gn at h
  split at h
  · cases p with | cons p1 p2=>cases p2;cases p1 with | tup q l=>exact .inl ⟨_,_,rfl,.inr q,k _ H _ μ (.refl H) m (by rw[l.length];exact .int _) h⟩
  · cases p with | cons p1 p2=>cases p2;cases p1 with | ls q l=>exact .inl ⟨_,_,rfl,.inl q.sq,k _ H _ μ (.refl H) m (by rw[l.length];exact .int _) h⟩
  · cases p with | cons p1 p2=>cases p2;cases p1;exact .inr ⟨_,rfl,big h.1,k _ H _ μ (.refl H) m (.int _) h.2⟩
  · rename_i a
    cases p with | cons p1 p2=>
    cases p2;cases p1
    obtain ⟨ys,e0,h⟩:=bV h
    obtain ⟨xs,ex,l⟩:=m a _ e0
    exact .inl ⟨_,_,rfl,.inl (SqL.of ex),k _ H _ μ (.refl H) m (by rw[l.length];exact .int _) h⟩
  · exact False.elim h
theorem bY:bQ X (.builtin "len") (fun xs H Q=>(∃ p ys,xs=[.ref p]∧(SqL X.K H p ys∨SqT X.K H p ys)∧Q (.int ys.length) H)∨∃ z,xs=[.str z]∧z.length≤sizeLine∧Q (.int z.length) H):=bQ.or sI sU
end
end
section
open PySem PySem.Spec PyProof.Rows L2
def tys:List String:=["NoneType", "bool", "int", "str", "tuple", "list"]
def Fv:List String:=["bool", "int", "str", "tuple", "list", "dict"]
theorem EI (K:PySem.W.Frag):∀ t∈tys,∀ c∈Fv,PySem.W.kitOne K (.type t) (.type c)=some (dU t c):=by
  intro t ht c hc
  simp only[tys,List.mem_cons,List.not_mem_nil,or_false] at ht
  simp only[Fv,List.mem_cons,List.not_mem_nil,or_false] at hc
  rcases ht with rfl | rfl | rfl | rfl | rfl | rfl<;>rcases hc with rfl | rfl | rfl | rfl | rfl | rfl<;>with_unfolding_all rfl
theorem J6 {d:D}{t:String}(h:tyD d=some t):t∈tys:=by
  cases d<;>simp[tyD] at h<;>subst h<;>decide
def Lv (K:PySem.W.Frag):List V→Hp→VK→Prop:=fun xs H Q=>∃ x d t c,xs=[x,.ty c]∧Dp K H x d∧tyD d=some t∧c∈Fv∧Q (.bl (dU t c)) H
theorem A7 {X:Cx}:bQ X (.builtin "isinstance") (Lv X.K):=fun pins s σ H xs us Q I rx ⟨x,d,t,c,ex,px,et,hc,q⟩=>by
  subst ex
  cases rx with | @cons _ u _ _ r1 r2=>cases r2 with | cons r2 r3=>
  cases r3
  cases (show _=Value.type c from r2)
  have e:=EI X.K t (J6 et) c hc
  have fin:∀ tk,EP X pins σ Q (.bool (dU t c)) { s with toks:=tk }:=fun tk=>⟨.bl _,H,I.tok tk,rfl,q⟩
  cases px with
  | non=>cases et;cases (show u=Value.none from r1);exact PySem.W.kia_one PySem.W.kitx_none I.kIn True.intro e (fun z=>nomatch z) fin
  | bl y=>cases et;cases (show u=Value.bool y from r1);exact PySem.W.kia_one PySem.W.kitx_bool I.kIn True.intro e (fun z=>nomatch z) fin
  | int i=>cases et;obtain ⟨t,z⟩:=(show ∃ t,u=Value.int i t from r1);cases z;exact PySem.W.kia_one PySem.W.kitx_int I.kIn True.intro e (fun z=>nomatch z) fin
  | str y=>cases et;obtain ⟨t,z⟩:=(show ∃ t,u=Value.str y t from r1);cases z;exact PySem.W.kia_one PySem.W.kitx_str I.kIn True.intro e (fun z=>nomatch z) fin
  | ty _=>cases et
  | obj _=>cases et
  | @tup a xs ds sq l=>
    cases et
    cases (show u=Value.ref a from r1)
    obtain ⟨its,_,⟨o,h1,h2,_⟩,_⟩:=I.tuple sq
    exact PySem.W.kia_one PySem.W.kitx_tuple I.kIn ⟨o,h1,h2⟩ e (fun z=>nomatch z) fin
  | @ls a xs ds sq l=>
    cases et
    cases (show u=Value.ref a from r1)
    obtain ⟨its,_,⟨o,n,h1,h2,_⟩,_⟩:=I.list sq.sq
    exact PySem.W.kia_one PySem.W.kitx_list I.kIn ⟨o,h1,h2⟩ e (fun z=>nomatch z) fin
theorem nY {X:Cx}{x y:Str}{p p2 pos:Pos}{c:String}{e:Expr}{Ta:ETr}(hg:Gl X x)(hm:X.mg x=none)(hv:bootBuiltins x=some (.builtin "isinstance"))(ha:LE X e Ta)(hg2:Gl X y)(hm2:X.mg y=none)(hv2:bootBuiltins y=some (.type c))(hc:c∈Fv:=by decide)
    (hn:x ≠ "__name__" := by decide) (hdb:(x == ("__debug__" : Str))=false:=by decide) (hn2:y ≠ "__name__" := by decide) (hdb2:(y == ("__debug__" : Str))=false:=by decide)
    (h0:starEach [.Name y p2] X.env=[(false,eval (.Name y p2) X.env)]:=by rfl) (h1:starEach (e::[.Name y p2]) X.env=(false,eval e X.env)::starEach [.Name y p2] X.env:=by rfl) (h2:(backTo pos (starEach [.Name y p2] X.env)).any (·.1)=false:=by rfl) :
    LE X (.Call (.Name x p) [e,.Name y p2] [] pos) (TUn (iY c) Ta):=by
  obtain ⟨ta,pa,sa⟩:=ha.ex
  refine ⟨_,o5 A7 hg hm hv (eW pa (eW (Fz hg2 hm2 hv2 (v:=.ty c) rfl hn2 hdb2) lu h0) h1) hn hdb h1 h2,fun σ H ρ μ Q Q' rl h k=>sa σ H ρ μ _ _ rl h fun v H1 d μ1 t1 m1 p1 h1=>?_⟩
  have h1':(match tyD d with | some t=>Q (.bl (dU t c)) μ1 | none=>False):=h1
  cases et:tyD d with
  | none=>rw[et] at h1';exact False.elim h1'
  | some t=>rw[et] at h1';exact ⟨v,d,t,c,rfl,p1,et,hc,k _ H1 _ μ1 t1 m1 (.bl _) h1'⟩
section
variable {X:Cx} {a b c e tg o:Expr} {Ta Tb Tc:ETr} {pos:Pos} {es:List Expr} {At:ATr} {x:Str} {p:Pos} {id T:String} {st:Stmt} {rest:List Stmt} {T1 T2:STr} {tA:TTr}
theorem bj:LSs X [] bX:=⟨_,Fe,fun σ H ρ μ E E' rl h k=>k.nx _ _ _ _ (.refl H) rl h⟩
theorem ao (h1:LS X st T1)(h2:LSs X rest T2):LSs X (st::rest) (aF T1 T2):=by
  obtain ⟨t1,p1,s1⟩:=h1.ex
  obtain ⟨t2,p2,s2⟩:=h2.ex
  exact ⟨_,Dy p1 p2,fun σ H ρ μ E E' rl h k=>s1 σ H ρ μ _ _ rl h ⟨fun σ' H' ρ' μ' t' r' q=>s2 σ' H' ρ' μ' E E' r' q (k.go t'),k.rt,k.bk,k.ct⟩⟩
theorem av (h1:LS X st T1):LSs X [st] T1:=by
  obtain ⟨t1,p1,s1⟩:=h1.ex
  exact ⟨_,FO p1,s1⟩
theorem eZ (he:LE X e Ta)(hs:swapsWith e none pos.line X.env=pure false:=by rfl):LS X (.Expr e pos) (fP Ta):=by
  obtain ⟨ta,pa,sa⟩:=he.ex
  exact ⟨_,E6 pa hs,fun σ H ρ μ E E' rl h k=>sa σ H ρ μ _ _ rl h fun v H' d μ' t' m' p' h'=>k.nx _ _ _ _ t' (rl.go t' m') h'⟩
theorem aE (he:LE X e Ta):LS X (.Return (some e) pos) (aT Ta):=by
  obtain ⟨ta,pa,sa⟩:=he.ex
  exact ⟨_,Hx pa,fun σ H ρ μ E E' rl h k=>sa σ H ρ μ _ _ rl h k.rt⟩
theorem cT {sa sb:List Stmt}(hc:LT X c tA)(ha:LSs X sa T1)(hb:LSs X sb T2):LS X (.If c sa sb pos) (dM tA T1 T2):=by
  obtain ⟨tc,pc,sc⟩:=hc.ex
  obtain ⟨t1,p1,s1⟩:=ha.ex
  obtain ⟨t2,p2,s2⟩:=hb.ex
  refine ⟨_,LM pc p1 p2,fun σ H ρ μ E E' rl h k=>sc σ H ρ μ _ _ rl h fun q H1 μ1 t1' m1 h1=>?_⟩
  cases q with
  | true=>exact rW (s1 σ H1 ρ μ1 E E' (rl.go t1' m1) h1 (k.go t1'))
  | false=>exact sY (s2 σ H1 ρ μ1 E E' (rl.go t1' m1) h1 (k.go t1'))
theorem iR {K:PySem.W.Frag}(i:Nat):IQ K (rf i) (ax i):=fun σ H ρ μ v d k k' rl p h q=>q _ _ _ _ (.refl H) (rl.set p i) h
theorem cw (i:Nat)(hN:X.N.Nodup)(hi:X.N[i]? = some x:=by rfl)(hx:Loc X.env.scope x:=by first | exact Or.inl rfl | exact Or.inr rfl)(hf:X.fn x=true∨X.env.scope.names.lookup x=some .local:=by first | exact .inl rfl | exact .inr rfl | assumption):LG X (.Name x pos) (ax i):=
  ⟨_,iN hN hi hx hf,iR i⟩
theorem az (i:Nat){pos':Pos}(hN:X.N.Nodup)(he:LE X e Ta)(hi:X.N[i]? = some x:=by rfl)(hx:Loc X.env.scope x:=by first | exact Or.inl rfl | exact Or.inr rfl)(hs:swapsWith e (some (.Name x pos')) pos.line X.env=pure false:=by rfl)
    (hf:X.fn x=true∨X.env.scope.names.lookup x=some .local:=by first | exact .inl rfl | exact .inr rfl | assumption):LS X (.Assign [.Name x pos'] e pos) (aL Ta (ax i)):=by
  obtain ⟨ta,pa,sa⟩:=he.ex
  exact ⟨_,Hg hN hi hx pa hs hf,fun σ H ρ μ E E' rl h k=>sa σ H ρ μ _ _ rl h fun v H' d μ' t' m' p' h'=>iR i σ H' ρ μ' v d _ _ (rl.go t' m') p' h' (k.go t').nx⟩
theorem AX (i j:Nat){y:Str}{px py pt:Pos}{kt k2 pt2}(hc:X.calm=true)(hN:X.N.Nodup)(ha:LA X [a,b] At)(hi:X.N[i]? = some x:=by rfl)(hj:X.N[j]? = some y:=by rfl)(hij:i≠j:=by decide)
    (hx:X.env.scope.names.lookup x=some .local:=by rfl) (hy:X.env.scope.names.lookup y=some .local:=by rfl)
    (hw:swappedStores [.Tuple [.Name x px,.Name y py] kt pt] (.Tuple [a,b] k2 pt2) X.env=pure (some [x,y]):=by rfl)
    (hs:swapsWithSole [.Tuple [.Name x px,.Name y py] kt pt] (.Tuple [a,b] k2 pt2) pos.line X.env=pure false:=by rfl) :
    LS X (.Assign [.Tuple [.Name x px,.Name y py] kt pt] (.Tuple [a,b] k2 pt2) pos) (wR i j At):=by
  obtain ⟨ta,pa,sa⟩:=ha.ex
  refine ⟨_,IH hc hN hi hj hij hx hy pa hw hs,fun σ H ρ μ E E' rl h k=>sa σ H ρ μ _ _ rl h fun vs H' ds μ' t' m' p' h'=>?_⟩
  unfold L3.k2 at h'
  split at h'
  · rename_i dv dw
    cases p' with | cons p1 p2=>cases p2 with | cons p2 p3=>
    cases p3
    exact ⟨_,_,rfl,k.nx _ _ _ _ t' (((rl.go t' m').set p1 i).set p2 j) h'⟩
  · exact False.elim h'
theorem nK {Tk':ETr}{tpos:Pos}(ho:LE X o Ta)(hi:LE X b Tk')(he:LE X e Tb)
    (ha:∀ v,assign (.Subscript o b tpos) X.env v=(do
      let ov ← holding [v] (eval o X.env)
      let iv ← holding [v,ov] (eval b X.env)
      standAt tpos
      holding [v,ov,iv] (setItem ov iv v)
      release [v,ov,iv] []):=by intro _;rfl)
    (hs:swapsWithSole [.Subscript o b tpos] e pos.line X.env=pure false:=by rfl) (hw:swappedStores [.Subscript o b tpos] e X.env=pure none:=by rfl)
    (h1:(assignEach [.Subscript o b tpos] X.env).map (·.2)=[assign (.Subscript o b tpos) X.env]:=by rfl):LS X (.Assign [.Subscript o b tpos] e pos) (fL Ta Tk' Tb):=by
  obtain ⟨to,po,so⟩:=ho.ex
  obtain ⟨ti,pi,si⟩:=hi.ex
  obtain ⟨te,pe,se⟩:=he.ex
  refine ⟨_,Jj pe (Jt po pi set_list ha) hs hw h1,fun σ H ρ μ E E' rl h k=>se σ H ρ μ _ _ rl h fun y H1 dy μ1 t1 m1 p1 h1=>so σ H1 ρ μ1 _ _ (rl.go t1 m1) h1 fun ov H2 dov μ2 t2 m2 p2 h2=>
    si σ H2 ρ μ2 _ _ (rl.go (t1.trans t2) m2) h2 fun iv H3 div μ3 t3 m3 p3 h3=>?_⟩
  cases p2 with
  | obj q=>
    cases p3 with
    | int n=>
      obtain ⟨ds,e0,h3'⟩:=bV h3
      obtain ⟨j,e1,h4⟩:=Dd h3'
      obtain ⟨xs,ex,l⟩:=m3 q _ e0
      refine ⟨q,xs,n,j,rfl,rfl,ex,by rw[l.length];exact e1,?_⟩
      have t4:Tk H3 (L2.upd H3 q (.lst (xs.set j y))):=.upd (fun ys z=>by rw[ex] at z;cases z) fun o' u z=>by rw[ex] at z;cases z
      have t14:=t1.trans (t2.trans (t3.trans t4))
      refine k.nx _ _ ρ _ t14 (rl.go t14 (fun a' o' e'=>?_)) h4
      by_cases haq:a'=q
      · subst haq
        rw[aD] at e';cases e'
        exact ⟨_,aG,(l.set (p1.mono (t2.trans t3)) j).mono t4⟩
      · rw[aU haq] at e'
        exact (m3 a' _ e').ne t4 haq
    | _=>exact False.elim h3
  | _=>cases p3<;>exact False.elim h3
theorem jV {body:List Stmt}(hp:PassesOwn (model X.prog X.w) X.A X.env X.xe)(hc:LT X c tA)(hb:LSs X body T1):LS X (.While c body [] pos) (nQ tA T1):=by
  obtain ⟨tc,pc,sc⟩:=hc.ex
  obtain ⟨t1,p1,s1⟩:=hb.ex
  refine ⟨_,DW hp pc p1,fun σ H ρ μ E E' rl h k=>?_⟩
  obtain ⟨P,m,h0,hs⟩:=h
  refine ⟨fun n σ' H'=>∃ ρ' μ',Tk H H'∧Rl X.K σ' H' ρ' μ'∧P ρ' μ'∧n=m ρ' μ',⟨_,ρ,μ,.refl H,rl,h0,rfl⟩,?_⟩
  rintro n σ1 H1 ⟨ρ1,μ1,t1',rl1,hP,rfl⟩
  refine sc σ1 H1 ρ1 μ1 _ _ rl1 (hs ρ1 μ1 hP) fun q H2 μ2 t2 m2 h2=>?_
  have t12:=t1'.trans t2
  cases q with
  | true=>
    refine rW ⟨fun σ' H'=>∃ ρ' μ',Tk H H'∧Rl X.K σ' H' ρ' μ'∧P ρ' μ'∧m ρ' μ' < m ρ1 μ1,fun σ' H' ⟨ρ',μ',a1,a2,a3,a4⟩=>⟨_,a4,ρ',μ',a1,a2,a3,rfl⟩,?_⟩
    have h2':=h2
    refine s1 σ1 H2 ρ1 μ2 _ _ (rl1.go t2 m2) h2' ⟨fun σ' H' ρ' μ' t' r' q=>⟨ρ',μ',t12.trans t',r',q.1,q.2⟩,(k.go t12).rt,(k.go t12).nx,fun σ' H' ρ' μ' t' r' q=>⟨ρ',μ',t12.trans t',r',q.1,q.2⟩⟩
  | false=>exact sY (k.nx _ _ _ _ t12 (rl1.go t2 m2) h2)
end
def lift (K:PySem.W.Frag)(sp:FSp):Sp:=fun vs H Q _=>∃ ds μ QQ,DpL K H vs ds∧bG K H μ∧sp ds μ QQ∧iq K H QQ Q
def RT (Q:DK):DK:=fun d μ'=>∃ μ,Sub μ μ'∧Q d μ
def ini (n:Nat)(ds:List D):ST:=ds.map some++List.replicate (n - ds.length) none
theorem HM:∀ (ds:List D) (n i:Nat) (d:D),lk (ini n ds) i=some d→ds[i]? = some d:=by
  intro ds
  have rep:∀ m i (d:D),lk (List.replicate m none) i=some d→False:=by
    intro m
    induction m with
    | zero=>intro i d h;cases i<;>cases h
    | succ m ih=>intro i d h;cases i with
      | zero=>cases h
      | succ i=>exact ih i d h
  have gen:∀ (ds:List D) m i d,lk (ds.map some++List.replicate m none) i=some d→ds[i]? = some d:=by
    intro ds
    induction ds with
    | nil=>intro m i d h;exact (rep m i d h).elim
    | cons x r ih=>intro m i d h;cases i with
      | zero=>simpa[lk] using h
      | succ i=>simpa using ih m i d h
  exact fun n i d h=>gen ds _ i d h
section
variable {P:Program} {w:World} {K:PySem.W.Frag} {mg:Str→Option Value} {base:Heap}
theorem GI {x qual:Str}{st:Stmt}{f:Addr}{fd:FuncData}{N ps:List Str}{k:Nat}{sp:FSp}{T:STr}(F:Fun K x qual st f fd)(S:aA N ps (aq st))(len:∀ ds μ Q,sp ds μ Q→ds.length=ps.length)
    (hb:∀ (cdv:Value) (A:Around) (outer:List Env) (s:Shared) (H:Hp) (E:XK),dS k (A.deeper (envOfC qual (aq st) s.heap.objs.size f cdv))→
      LSs (uJ CX0 P w K mg base N qual (aq st) f cdv A outer s H E).nox (fg st) T)
    (hr:∀ ds μ Q,sp ds μ Q→T { nx:=fun _ μ'=>RT Q .non μ',rt:=RT Q } (ini N.length ds) μ):gT P w K mg base CX0 (k+1) f fd ps (lift K sp):=by
  refine F.ok S (fun vs H Q E h=>?_) (fun cdv A outer s H vs Q E hroom h=>?_)
  · obtain ⟨ds,μ,QQ,l,m,h1,k⟩:=h
    rw[l.length];exact len ds μ QQ h1
  · obtain ⟨ds,μ,QQ,l,m,h1,k⟩:=h
    obtain ⟨t,pt,stt⟩:=(hb cdv A outer s H E hroom).ex
    have hl:vs.length=ds.length:=l.length
    refine ⟨t,pt,stt (L2.start N vs) H (ini N.length ds) μ _ _ ⟨?_,fun i d e=>?_,m⟩ (hr ds μ QQ h1) ⟨fun σ' H' ρ' μ' t' r' q=>?_,fun v H' d μ' t' m' p' q=>?_,fun _ _ _ _ _ _ q=>q,fun _ _ _ _ _ _ q=>q⟩⟩
    · unfold ini L2.start;simp[hl]
    · have e':=HM ds _ i d e
      obtain ⟨v,e1,p⟩:=l.get e'
      refine ⟨v,?_,p⟩
      unfold L2.start
      have hi:i < vs.length:=(List.getElem?_eq_some_iff.mp e1).1
      rw[List.getElem?_append_left (by simpa using hi),List.getElem?_map,e1]
      rfl
    · obtain ⟨μ2,s2,q2⟩:=q
      exact k _ _ _ μ2 t' (r'.mu.sub s2) .non q2
    · obtain ⟨μ2,s2,q2⟩:=q
      exact k _ _ _ μ2 t' (m'.sub s2) p' q2
end
section
variable {X:Cx} {k:Nat} {f:Addr} {fd:FuncData} {ps:List Str} {sp:FSp} {x:Str} {p pos:Pos} {e:Expr} {es:List Expr} {At:ATr}
theorem Fs (F:gT X.prog X.w X.K X.mg X.base CX0 k f fd ps (lift X.K sp))(hr:dS k X.A)(hg:Gl X x)(hm:X.mg x=some (.ref f))(hk:PySem.W.keepIn X.K (.ref f)=true)(hb:Binds X.K fd ps [])
    (ha:LA X (e::es) At) (hdb:(x == ("__debug__" : Str))=false:=by decide) (he:starEach (e::es) X.env=(false,eval e X.env)::starEach es X.env:=by rfl) (hpl:(backTo pos (starEach es X.env)).any (·.1)=false:=by rfl) :
    LE X (.Call (.Name x p) (e::es) [] pos) (au sp At):=by
  obtain ⟨ta,pa,sa⟩:=ha.ex
  refine ⟨_,Eg F hr hg hm hk hb .nil KH pa hdb he hpl,fun σ H ρ μ Q Q' rl h k=>sa σ H ρ μ _ _ rl h fun xs H1 ds μ1 t1 m1 p1 h1=>?_⟩
  rw[List.append_nil]
  exact ⟨ds,μ1,Q,p1,m1,h1,k.go t1⟩
end
end
section
open PySem PySem.Spec PyProof.Rows L2
theorem DpL.ints {K:PySem.W.Frag}{H:Hp}:∀ ns:List Int,DpL K H (ns.map V.int) (ns.map D.int)
  | []=>.nil
  | n::r=>.cons (.int n) (DpL.ints r)
theorem SqF.only {K:PySem.W.Frag}{H:Hp}{a:Addr}{xs:List V}(hO:FH H)(h:SqL K H a xs):SqF K H a xs:=by
  rcases h with (h | h) | h
  · rcases hO a with z | ⟨o,ys,z⟩
    · rw[h] at z;cases z
    · rw[h] at z;cases z
  · exact .inl h
  · exact .inr h
theorem KS {l:PySem.W.OpenLaw}{k:Nat}{q:Program}{loose:List Str}{XP:(Str→Option Value)→Heap→Prop}{YP:World→Heap→Prop}{d:DefRec}{K:Params→PySem.W.Frag}{sp:FSp}{x:Str}
    (hn:l.most=some 63) (hdf:d.params.defaults=[]) (hr:dS k callerA) (hY:∀ (w:World) (h:Heap),YP w h→(K w.params).In h)
    (hl:∀ ns:List Int,ns.length≤63→∀ μ,sp [.ls (ns.map .int)] μ (fun d _=>d=.bl true))
    (F:∀ (w:World) (mg:Str→Option Value) (fa:Addr) (h:Heap),(K w.params).In h→h.Ns mainGlobals mg→mg d.name=some (.ref fa)→
      ∃ fd:FuncData,(∀ (s:Shared) (u:Value),BindsTo s fd ⟨[u],[]⟩ [(x,u)])∧∀ base:Heap,(K w.params).In base→base.Ns mainGlobals mg→gT l.prog w (K w.params) mg base CX0 k fa fd [x] (lift (K w.params) sp)) :
    PySem.W.WalkO q loose XP YP l.row.toRowW d [] (fun f vs=>PySem.call f vs):=
  L2.Gn (n:=63) (k:=k) (x:=x) (CX:=fun _=>CX0) (sp:=fun w=>lift (K w.params) sp) hn (by decide) hdf hr hY F
    (fun w H a ns hl' hO hS=>⟨[.ls (ns.map .int)],fun _=>none,_,.cons (.ls (.only hO hS) (.ints ns)) .nil,(fun a o e=>by cases e),hl ns hl' _,fun v H' d μ' _ _ p e=>by
      have e':d=.bl true:=e
      subst e'
      cases p;rfl⟩) fun _ _ _ _ _ z=>z
end
section
open PySem PySem.Spec PyProof.Rows L2
structure aI (P:Program) (w:World) (K:PySem.W.Frag) (mg:Str→Option Value) (base:Heap) (k:Nat) (x:Str) (ps:List Str) (sp:FSp):Prop where
  ex:∃ f fd,gT P w K mg base CX0 k f fd ps (lift K sp)∧mg x=some (.ref f)∧PySem.W.keepIn K (.ref f)=true∧Binds K fd ps []
section
variable {P:Program} {w:World} {K:PySem.W.Frag} {mg:Str→Option Value} {base:Heap}
theorem aC {x qual:Str}{st:Stmt}{f:Addr}{fd:FuncData}{N ps:List Str}{k:Nat}{sp:FSp}{T:STr}(m:mg x=some (.ref f))(F:Fun K x qual st f fd)(S:aA N ps (aq st))(len:∀ ds μ Q,sp ds μ Q→ds.length=ps.length)
    (hr:∀ ds μ Q,sp ds μ Q→T { nx:=fun _ μ'=>RT Q .non μ',rt:=RT Q } (ini N.length ds) μ)
    (b:∀ (kV doc pm:Value) (an:Option Addr) (cdv ct:Value) (us:List Value),us.length=ps.length→bindArgs (PySem.W.fnOf x qual (j7 st) (fg st) (aq st) .none kV doc pm an cdv ct) ⟨us,[]⟩=pure (ps.zip us))
    (hb:∀ (cdv:Value) (A:Around) (outer:List Env) (s:Shared) (H:Hp) (E:XK),dS k (A.deeper (envOfC qual (aq st) s.heap.objs.size f cdv))→(A.deeper (envOfC qual (aq st) s.heap.objs.size f cdv)).units+64 < cLine→
      LSs (uJ CX0 P w K mg base N qual (aq st) f cdv A outer s H E).nox (fg st) T):aI P w K mg base (k+1) x ps sp:=
  ⟨f,fd,GI F S len (fun cdv A outer s H E h=>hb cdv A outer s H E h h.units) hr,m,F.kp,F.binds b⟩
end
theorem ak {X:Cx}{k n:Nat}{x:Str}{ps:List Str}{sp:FSp}{e:Expr}{es:List Expr}{At:ATr}{p pos:Pos}(C:aI X.prog X.w X.K X.mg X.base k x ps sp)(hr:dS n X.A)(hg:Gl X x)
    (ha:LA X (e::es) At) (hle:k≤n:=by decide) (hdb:(x == ("__debug__" : Str))=false:=by decide) (he:starEach (e::es) X.env=(false,eval e X.env)::starEach es X.env:=by rfl) (hpl:(backTo pos (starEach es X.env)).any (·.1)=false:=by rfl) :
    LE X (.Call (.Name x p) (e::es) [] pos) (au sp At):=by
  obtain ⟨f,fd,F,m,kp,b⟩:=C.ex
  exact Fs F (hr.mono hle) hg m kp b ha hdb he hpl
end
section
open PySem PySem.Spec PyProof.Rows L2
def aZ (X:Cx)(scope:Scope)(Nc:List Str)(cl:List (Str×Addr))(C:Addr)(s₀:Shared)(H₀:Hp)(ex:List Addr):Cx:=
  { X with env:=compEnvC scope cl C X.env,N:=Nc,s₀:=s₀,H₀:=H₀,outer:=X.stack,ex:=ex,fn:=fun _=>false,pn:=[] }
theorem nI {scope:Scope}{env:Env}(h:∀ y∈scope.names,y.2=.free→∃ c,env.cells.lookup y.1=some c) :
    ∃ cl,closureFor scope env=pure cl∧(∀ x c,cl.lookup x=some c→env.cells.lookup x=some c)∧∀ y∈scope.names,y.2=.free→∃ c,cl.lookup y.1=some c:=by
  have gen:∀ (ns:List (Str×NameKind)) (cs:List (Str×Addr)),(∀ y∈ns,y.2=.free→∃ c,env.cells.lookup y.1=some c)→(∀ x c,cs.lookup x=some c→env.cells.lookup x=some c)→
      ∃ cl,(forIn ns cs fun x r=>if (x.2 == NameKind.free)=true then do let c ← cellOf env x.1;pure (ForInStep.yield ((x.1,c)::r)) else pure (ForInStep.yield r):Sem _)=pure cl∧(∀ x c,cl.lookup x=some c→env.cells.lookup x=some c)∧
        (∀ x,(cs.lookup x).isSome=true→(cl.lookup x).isSome=true)∧∀ y∈ns,y.2=.free→∃ c,cl.lookup y.1=some c:=by
    intro ns
    induction ns with
    | nil=>intro cs _ h2;exact ⟨cs,rfl,h2,fun _ z=>z,fun _ z=>nomatch z⟩
    | cons y r ih=>
      intro cs h1 h2
      obtain ⟨n,k⟩:=y
      by_cases hk:k=.free
      · subst hk
        obtain ⟨c,hc⟩:=h1 (n,.free) List.mem_cons_self rfl
        have h2':∀ x c',((n,c)::cs).lookup x=some c'→env.cells.lookup x=some c':=fun x c' e=>by
          rw[List.lookup_cons] at e
          split at e
          · rename_i hx
            cases e
            have:x=n:=by simpa using hx
            subst this;exact hc
          · exact h2 x c' e
        obtain ⟨cl,e1,e2,e3,e4⟩:=ih ((n,c)::cs) (fun y hy=>h1 y (List.mem_cons_of_mem _ hy)) h2'
        refine ⟨cl,?_,e2,fun x hx=>e3 x ?_,fun y hy hf=>?_⟩
        · rw[List.forIn_cons]
          have:cellOf env n=pure c:=by unfold cellOf;rw[hc]
          simp only[beq_self_eq_true,if_true,this,pure_bind]
          exact e1
        · rw[List.lookup_cons];split
          · rfl
          · exact hx
        · obtain rfl | hy:=List.mem_cons.mp hy
          · have:(cl.lookup n).isSome=true:=e3 n (by simp[List.lookup_cons])
            exact Option.isSome_iff_exists.mp this
          · exact e4 y hy hf
      · obtain ⟨cl,e1,e2,e3,e4⟩:=ih cs (fun y hy=>h1 y (List.mem_cons_of_mem _ hy)) h2
        refine ⟨cl,?_,e2,e3,fun y hy hf=>?_⟩
        · rw[List.forIn_cons]
          have:(k == NameKind.free)=false:=by simpa using hk
          simp only[this,Bool.false_eq_true,if_false,pure_bind]
          exact e1
        · obtain rfl | hy:=List.mem_cons.mp hy
          · exact absurd hf hk
          · exact e4 y hy hf
  obtain ⟨cl,e1,e2,_,e4⟩:=gen scope.names [] h fun x c e=>by cases e
  refine ⟨cl,?_,e2,e4⟩
  show ((forIn scope.names ([]:List (Str×Addr)) fun x r=>if (x.2 == NameKind.free)=true then do let c ← cellOf env x.1;pure (ForInStep.yield ((x.1,c)::r)) else pure (ForInStep.yield r):Sem _) >>= fun s=>pure s)=pure cl
  rw[e1]
  rfl
def C5 (Y:Cx)(ifs:List Expr)(t:TT):Prop:=
  ∀ (pins:List (Addr×Obj)) (s:Shared) (σ:L2.St) (H:Hp) (Q:Bool→Hp→Prop),Inv Y pins σ H s→t σ H Q→
    wpAny (model Y.prog Y.w) Y.A (forIn ifs true fun c r=>if r=true then do let ok ← isTrue c Y.env (eval c Y.env);pure (ForInStep.yield ok) else pure (ForInStep.yield r)) (TP Y pins σ Q) Y.xe s
def My:TT:=fun _ H Q=>Q true H
theorem E3 {Y:Cx}:C5 Y [] My:=fun pins s σ H Q I h=>wpAny_tests_nil ⟨H,I,h⟩
theorem Fo {Y:Cx}{c:Expr}{t:TT}(h:PT Y c t):C5 Y [c] t:=fun pins s σ H Q I hh=>wpAny_tests_one (h pins s σ H Q I hh)
def fS (σ:L2.St)(n:Nat)(caps:List Nat):L2.St:=List.replicate n none++caps.map fun i=>(σ[i]?).join
def Wk (σ' σ:L2.St):Prop:=σ'.length=σ.length∧∀ (i:Nat) v,σ'[i]? = some (some v)→σ[i]? = some (some v)
def zd (wi:TI)(g:TG)(tt:TT)(te:TE)(n:Nat)(caps:List Nat):TE:=fun σ H Q=>wi σ H fun J H1=>∀ D,H1 D=none→
  ∃ W:Nat→Nat→List V→Hp→Prop,(∃ m,W 0 m [] (L2.upd H1 D (.lst [])))∧∀ i m ys H2,W i m ys H2→
    (J.stop i H2∧Q (.ref D) H2)∨(J.go i H2∧∃ N:List V→Hp→Prop,(∀ ys' H',N ys' H'→∃ m',m' < m∧W (i+1) m' ys' H')∧
      ∀ x H3,J.yld i H2 x H3→g x (fS σ n caps) H3 fun σ4 H4=>Wk (fS σ n caps) σ4∧tt σ4 H4 fun b H5=>if b=true then te σ4 H5 fun y H6=>∃ zs,H6 D=some (.lst zs)∧zs.length < sizeLine∧N (zs++[y]) (L2.upd H6 D (.lst (zs++[y]))) else N ys H5)
theorem qN {prog:Program}{w:World}{A:Around}{R:Result→Shared→Prop}{s:Shared}{elt target iter:Expr}{ifs:List Expr}{scope:Scope}{pos:Pos}{it acc:Value}{env:Env}(J:Nat→Shared→Prop)
    (turn:∀ n s,J n s→wpAny (model prog w) A (pyNext it) (fun o t₁=>match o with
      | none=>R (.ok .next) t₁
      | some v=>wpAny (model prog w) A (letOwnedTupleGo target it v) (fun _ t₁=>wpAny (model prog w) A (assign target env v) (fun _ t₂=>
          wpAny (model prog w) A (forIn ifs true fun c r=>
            if r=true then do let ok ← isTrue c env (eval c env);pure (ForInStep.yield ok) else pure (ForInStep.yield r)) (fun ok t₃=>
            if ok=true then wpAny (model prog w) A (eval elt env) (fun x t₄=>
              wpAny (model prog w) A (call (.builtin "list.append") [acc,x]) (fun _ t₅=>∃ m,m < n∧J m t₅) (fun _ _=>False) t₄) (fun _ _=>False) t₃
            else ∃ m,m < n∧J m t₃) (fun _ _=>False) t₂) (fun _ _=>False) t₁) (fun _ _=>False) t₁) (fun _ _=>False) s)
    (n:Nat) (h:J n s):codeAny (model prog w) A (.compLoop (.ListComp elt [⟨target,iter,ifs,0⟩] scope pos) 0 it acc env) R s:=by
  refine codeAny_loop rfl J (fun n s hJ=>?_) n h
  show wpAny _ A ((compTurn (.ListComp elt [⟨target,iter,ifs,0⟩] scope pos) 0 it acc env).onRaise
    (fun x=>do noteFrame x env;theTreesLotGoes x)) _ _ s
  refine wpAny_noted ?_
  rw[compTurn_list]
  refine wpAny_bind (wpAny_standAt (wpAny_bind (wpAny_mono (turn n s hJ) (fun r t₁ g₁=>?_) fun _ _ h'=>h'.elim)))
  cases r with
  | none=>exact wpAny_pure g₁
  | some v=>
    refine wpAny_bind (wpAny_mono g₁ (fun _ t₁' g₁'=>?_) fun _ _ h'=>h'.elim)
    refine wpAny_bind (wpAny_mono g₁' (fun _ t₂ g₂=>wpAny_bind (wpAny_mono g₂ (fun ok t₃ g₃=>?_) fun _ _ h'=>h'.elim)) fun _ _ h'=>h'.elim)
    cases ok with
    | false=>exact wpAny_pure ⟨rfl,g₃⟩
    | true=>
      exact wpAny_bind (wpAny_bind (wpAny_mono g₃ (fun x t₄ g₄=>wpAny_bind (wpAny_mono g₄ (fun _ t₅ g₅=>wpAny_pure (wpAny_pure ⟨rfl,g₅⟩)) fun _ _ h'=>h'.elim)) fun _ _ h'=>h'.elim))
theorem gZ {σ:L2.St}{n:Nat}{caps:List Nat}{i:Nat}{v:V}(h:(fS σ n caps)[i]? = some (some v)):∃ j k,i=n+j∧caps[j]? = some k∧σ[k]? = some (some v):=by
  unfold fS at h
  by_cases hi:i < n
  · rw[List.getElem?_append_left (by simpa using hi),List.getElem?_replicate,if_pos hi] at h
    cases h
  · rw[List.getElem?_append_right (by simpa using hi)] at h
    rw[List.length_replicate,List.getElem?_map] at h
    cases e:caps[i - n]? with
    | none=>rw[e] at h;cases h
    | some k=>
      rw[e] at h
      have h':(σ[k]?).join=some v:=Option.some.inj h
      cases e2:σ[k]? with
      | none=>rw[e2] at h';cases h'
      | some o=>
        rw[e2] at h'
        have h'':o=some v:=h'
        subst h''
        exact ⟨i - n,k,by omega,e,e2⟩
theorem cF {env:Env}(hk:env.scope.kind=.function):∀ {names:List (Str×NameKind)} {x:Str},env.kindOf x=some .cell→names.lookup x=some .free→
    (names.map fun (n,k)=>if (k == NameKind.free&&env.scope.kind == .function&&env.kindOf n == some .cell) then (n,NameKind.cell) else (n,k)).lookup x=some .cell
  | [],_,_,h=>by simp at h
  | (n,k)::r,x,hc,h=>by
    have ih:=@cF env hk r x hc
    show List.lookup x ((if (k == NameKind.free&&env.scope.kind == .function&&env.kindOf n == some .cell)=true
      then (n,NameKind.cell) else (n,k))::_)=_
    cases hx:x == n with
    | true=>
      simp only[hx,List.lookup_cons] at h
      cases h
      have e:x=n:=by simpa using hx
      subst e
      simp[List.lookup_cons,hk,hc]
    | false=>
      simp only[hx,List.lookup_cons] at h
      by_cases hcc:(k == NameKind.free&&env.scope.kind == .function&&env.kindOf n == some .cell)=true
      · rw[if_pos hcc];simp only[List.lookup_cons,hx];exact ih h
      · rw[if_neg hcc];simp only[List.lookup_cons,hx];exact ih h
theorem e9 {env:Env}:∀ {names:List (Str×NameKind)} {x:Str} {k':NameKind},(∀ y∈names,y.2≠.cell)→(k'=.cell∨k'=.free)→
    (x,k')∈(names.map fun (n,k)=>if (k == NameKind.free&&env.scope.kind == .function&&env.kindOf n == some .cell) then (n,NameKind.cell) else (n,k))→(x,NameKind.free)∈names:=by
  intro names x k' hn hk h
  obtain ⟨⟨n,k⟩,hm,e⟩:=List.mem_map.mp h
  dsimp only at e
  split at e
  · rename_i hc
    cases e
    have:k=.free:=by simp at hc;exact hc.1.1
    subst this;exact hm
  · cases e
    rcases hk with rfl | rfl
    · exact absurd rfl (hn _ hm)
    · exact hm
theorem zG {X:Cx}{tg iter elt:Expr}{ifs:List Expr}{scope:Scope}{pos:Pos}{wi:TI}{g:TG}{tt:TT}{te:TE}{Nc:List Str}{n:Nat}{caps:List Nat}
    (hxe:X.xe=fun _ _=>False) (hcalm:X.calm=true) (hi:PI X tg iter wi)
    (hbody:∀ (cl:List (Str×Addr)) (C:Addr) (s₀:Shared) (H₀:Hp) (ex:List Addr),PG (aZ X scope Nc cl C s₀ H₀ ex) tg g∧C5 (aZ X scope Nc cl C s₀ H₀ ex) ifs tt∧PE (aZ X scope Nc cl C s₀ H₀ ex) elt te)
    (hfree:∀ y∈scope.names,y.2=.free→X.env.kindOf y.1=some .cell) (hcell:∀ y∈scope.names,y.2≠.cell) (ig:scope.kind=.function)
    (hnames:∀ y∈scope.names,y.2=.local→scope.names.lookup y.1=some .local) (hlen:Nc.length=n+caps.length)
    (hcap:∀ (j k:Nat),caps[j]? = some k→∃ x,Nc[n+j]? = some x∧X.N[k]? = some x∧scope.names.lookup x=some .free)
    (hs:∀ x,foldedSetIterable iter X.env x=pure x:=by intro _;rfl) :
    PE X (.ListComp elt [⟨tg,iter,ifs,0⟩] scope pos) (zd wi g tt te n caps):=by
  intro pins s σ H Q I h
  rw[hxe]
  obtain ⟨cl,hclos,clin,clfree⟩:=nI (scope:=scope) (env:=X.env) fun y hy hf=>I.ok.has y.1 (.inl (hfree y hy hf))
  rw[eval_ListComp]
  refine wpAny_comprehension_free (use:=none) rfl hs hclos ig hnames ?_
  have hi':=hi pins s σ H _ I h
  rw[hxe] at hi'
  refine wpAny_mono hi' (fun xv s1 h1=>wpAny_mono h1 (fun itv s2 h2=>?_) fun _ _ z=>z) fun _ _ z=>z
  obtain ⟨it,fp,tn,J,H1,rfl,I2,T,st2,f2,hh⟩:=h2
  -- the new list
  refine wpAny_newObj_type ?_
  have hD:H1 s2.heap.objs.size=none:=I2.hok.fresh (Nat.le_refl _)
  obtain ⟨W,⟨m0,w0⟩,turn⟩:=hh _ hD
  have I3:Inv X pins σ (L2.upd H1 s2.heap.objs.size (.lst [])) { s2 with heap:=s2.heap.push { cls:=.type "list", dict:=none,data:=.seq ([]:List Value).toArray } }:=
    I2.laid (t':=s2.toks) (fun b u e=>Heap.get?_push_of_some _ e) (Nat.le_refl _) ⟨Nat.zero_le _,[],0,.nil,Heap.get?_push_size _ rfl⟩
  have k3:∀ b u,s2.heap.get? b=some u→(s2.heap.push { cls:=.type "list", dict:=none,data:=.seq ([]:List Value).toArray }).get? b=some u:=fun b u e=>Heap.get?_push_of_some _ e
  have fne:∀ b∈fp,b≠s2.heap.objs.size:=fun b hb=>by
    obtain ⟨o,ho,_⟩:=T.obj 0 _ st2 b hb
    exact Nat.ne_of_lt (Heap.lt_size ho)
  generalize eD:s2.heap.objs.size=D at *
  generalize eh3:s2.heap.push { cls:=.type "list", dict:=none,data:=.seq ([]:List Value).toArray }=h3 at *
  generalize eH3:L2.upd H1 D (.lst [])=H3 at *
  have st3:tn 0 h3:=T.keep 0 _ _ st2 fun b hb o e=>k3 b o e
  have f3:∀ b∈fp,oV X pins H3 b:=fun b hb=>⟨by rw[← eH3,aB (fne b hb)];exact (f2 b hb).1,(f2 b hb).2⟩
  have lt3:∀ b∈fp,b < h3.objs.size:=fun b hb=>by
    obtain ⟨o,ho,_⟩:=T.obj 0 _ st3 b hb
    exact Heap.lt_size ho
  generalize es3:({ s2 with heap:=h3 }:Shared)=s3 at *
  have hs3:s3.heap=h3:=by rw[← es3]
  refine wpAny_newFunctionEnv hcell (fun y hy=>(by cases hy)) (fun h4 hns hsb=>?_) ig
  show codeAny _ _ (.compStart _ 0 (.ref it) (.ref D) (compEnvC scope cl s3.heap.objs.size X.env)) (compPost _ _ _ none _ (.ref D) s3.heap.objs.size) _
  have k4:∀ b u,s3.heap.get? b=some u→h4.get? b=some u:=fun b u e=>hsb.extBut b u (Nat.ne_of_lt (Heap.lt_size e)) (Heap.get?_push_of_some _ e)
  have okY:(aZ X scope Nc cl s3.heap.objs.size s3 H3 fp).Ok:=by
    refine ⟨I3.ok.mod,ig,I3.ok.glob,I3.ok.blt,Nat.le_refl _,fun x y c e1 e2=>I3.ok.inj x y c (clin _ _ e1) (clin _ _ e2),fun x hx=>?_,fun x c hf=>(by cases hf),I3.ok.hd,I3.ok.frames,.inl rfl,fun b hb=>⟨?_,fun x c e z=>?_⟩,I3.bs,Nat.le_trans I3.ok.bsz I3.sz,fun b o e hb=>?_,fun b hb hz=>?_,I3.stack,I3.sM⟩
    · have hx':(relabel scope X.env).names.lookup x=some .cell∨(relabel scope X.env).names.lookup x=some .free:=hx
      have hm:(x,NameKind.free)∈scope.names:=by
        rcases hx' with q | q
        · exact e9 hcell (.inl rfl) (PySem.mem_of_lookup q)
        · exact e9 hcell (.inr rfl) (PySem.mem_of_lookup q)
      exact clfree _ hm rfl
    · show b≠s3.heap.objs.size
      rw[hs3];exact Nat.ne_of_lt (lt3 b hb)
    · exact (f3 b hb).2.2.2.2.1 x c (clin _ _ e) z
    · rcases (f3 b hb).2.2.2.1 with z | z
      · exact I3.ok.Am b o e z
      · exact absurd (Nat.lt_of_lt_of_le (Heap.lt_size e) (Nat.le_trans I3.ok.bsz z)) (Nat.lt_irrefl _)
    · rcases List.mem_cons.mp (I3.tT b hz) with z | z
      · exact (f3 b hb).2.1 z
      · exact (f3 b hb).2.2.1 z
  have BG:∀ c v,s3.heap.IsCell c v→h4.IsCell c v:=fun c v ⟨o,ho,hd⟩=>⟨o,k4 c o ho,hd⟩
  have J0:Inv (aZ X scope Nc cl s3.heap.objs.size s3 H3 fp) [] (fS σ n caps) H3 { s3 with heap:=h4,toks:=s3.toks+([]:List (Str×Value)).length }:=by
    refine ⟨okY,rfl,I3.bare,Un.kept k4,⟨_,hns,fun i x v e1 e2 e3=>?_⟩,fun x c e=>?_,I3.hok.fresh (Nat.le_refl _),fun x c e=>I3.gJ x c (clin _ _ e),(fun p hp=>(by cases hp)),I3.hok.kept k4,?_⟩
    · obtain ⟨j,k,rfl,ej,ek⟩:=gZ e2
      obtain ⟨x',n1,n2,n3⟩:=hcap j k ej
      have e1':Nc[n+j]? = some x:=e1
      rw[n1] at e1';cases e1'
      have hmem:(x,NameKind.free)∈scope.names:=PySem.mem_of_lookup n3
      have hcellx:X.env.kindOf x=some .cell:=hfree _ hmem rfl
      obtain ⟨m,hn,hl⟩:=I3.loc
      obtain ⟨u,ru,lk⟩:=hl k x v n2 ek (.inr (.inl hcellx))
      refine ⟨u,ru,.inr ⟨.inl (cF I3.ok.kind hcellx n3),?_⟩⟩
      rcases lk with ⟨q,_⟩ | ⟨_,c,ec,ic⟩
      · rw[hcellx] at q;cases q
      · obtain ⟨c',ec'⟩:=clfree _ hmem rfl
        have:=clin _ _ ec'
        rw[ec] at this;cases this
        exact ⟨c,ec',BG _ _ ic⟩
    · obtain ⟨v,q⟩:=I3.cell x c (clin _ _ e)
      exact ⟨v,BG _ _ q⟩
    · unfold fS
      show _=Nc.length
      rw[List.length_append,List.length_replicate,List.length_map,hlen]
  obtain ⟨pg,pifs,pelt⟩:=hbody cl s3.heap.objs.size s3 H3 fp
  generalize eY:aZ X scope Nc cl s3.heap.objs.size s3 H3 fp=Y at *
  have yP:Y.prog=X.prog:=by rw[← eY];rfl
  have yw:Y.w=X.w:=by rw[← eY];rfl
  have yK:Y.K=X.K:=by rw[← eY];rfl
  have yA:Y.A=X.A:=by rw[← eY];rfl
  have yx:Y.xe=fun _ _=>False:=by rw[← eY];exact hxe
  have yc:Y.calm=true:=by rw[← eY];exact hcalm
  have ye:Y.env=compEnvC scope cl s3.heap.objs.size X.env:=by rw[← eY];rfl
  have yfs:Y.fs=frs X.stack:=by rw[← eY];rfl
  have yex:Y.ex=fp:=by rw[← eY];rfl
  have ys0:Y.s₀=s3:=by rw[← eY];rfl
  have yH0:Y.H₀=H3:=by rw[← eY];rfl
  have ypn:Y.pn=[]:=by rw[← eY];rfl
  have ou:∀ {H':Hp},(∀ b∈fp,H' b=none)→∀ b∈fp,oV Y [] H' b:=fun hn b hb=>⟨hn b hb,by rw[ye];show b≠s3.heap.objs.size;rw[hs3];exact Nat.ne_of_lt (lt3 b hb),okY.Ad b (by rw[yex];exact hb),.inl (by rw[yex];exact hb),
    fun x c e=>by rw[ye] at e;exact (f3 b hb).2.2.2.2.1 x c (clin _ _ e),fun p hp=>by rw[ypn] at hp;exact nomatch hp⟩
  have tn4:∀ t,tn 0 ({ s3 with heap:=h4,toks:=t }:Shared).heap:=fun t=>T.keep 0 _ _ st3 fun b hb o e=>k4 b o (by rw[hs3];exact e)
  -- the end
  have fin:∀ (s5:Shared) (H5:Hp),Inv Y [] (fS σ n caps) H5 s5→Q (.ref D) H5→compPost (model X.prog X.w) X.A (fun _ _=>False) none (EP X pins σ Q) (.ref D) s3.heap.objs.size (.ok .next) s5:=fun s5 H5 I5 q5=>by
    obtain ⟨m,hn,_⟩:=I5.loc
    rw[ye] at hn
    refine ⟨m,hn,fun h6 hs6=>⟨.ref D,H5,?_,rfl,q5⟩⟩
    have nC:∀ b o,s3.heap.get? b=some o→b≠s3.heap.objs.size:=fun b o e=>Nat.ne_of_lt (Heap.lt_size e)
    have un:=I5.base
    rw[yfs,yex,yH0,ys0] at un
    have hfreeC0:=I5.free
    rw[ye] at hfreeC0
    have hfreeC:H5 s3.heap.objs.size=none:=hfreeC0
    refine I3.Ds (ch:=fp) (s':={ s5 with heap:=h6 }) (by have:=I5.os;rw[ys0] at this;exact this) ⟨fun b o e n1 n2 n3=>(hs6.2 b (nC b o e)).trans (un.keep b o e n1 n2 n3),fun b o e n1 n2 n3=>?_,un.free,fun b o e n1=>?_,un.kW,un.kz,un.kF⟩ (fun b u e=>?_) I5.bare fun b hb=>?_
    · obtain ⟨sl,q⟩:=un.slot b o e n1 n2 n3
      exact ⟨sl,(hs6.2 b (nC b o e)).trans q⟩
    · obtain ⟨o',q⟩:=un.there b o e n1
      exact ⟨o',(hs6.2 b (nC b o e)).trans q⟩
    · have hok5:=I5.hok
      rw[yP,yw] at hok5
      refine (hok5 b u e).lq (fun c w' hc q=>(hs6.2 c ?_).trans q) (fun _ q=>q) fun _ _ q=>q
      rintro rfl
      rcases hc with z | z
      · rw[← z,hfreeC] at e;cases e
      · rw[hfreeC] at z;cases z
    · exact ⟨(f3 b hb).2.2.2.1,(f3 b hb).2.1,(f3 b hb).2.2.2.2.1,(f3 b hb).2.2.2.2.2⟩
  have loop:codeAny (model X.prog X.w) X.A (.compLoop (.ListComp elt [⟨tg,iter,ifs,0⟩] scope pos) 0 (.ref it) (.ref D) (compEnvC scope cl s3.heap.objs.size X.env)) (compPost (model X.prog X.w) X.A (fun _ _=>False) none (EP X pins σ Q) (.ref D) s3.heap.objs.size)
      { s3 with heap:=h4,toks:=s3.toks+([]:List (Str×Value)).length }:=by
    refine qN (fun k s'=>∃ i ys H',Inv Y [] (fS σ n caps) H' s'∧tn i s'.heap∧(∀ b∈fp,H' b=none)∧W i k ys H') ?_ m0 ⟨0,[],H3,J0,tn4 _,fun b hb=>(f3 b hb).1,w0⟩
    rintro k s5 ⟨i,ys,H5,I5,st5,fr5,w5⟩
    rcases turn i k ys H5 w5 with ⟨stop,q⟩ | ⟨go,N,hN,step⟩
    · have d:=T.done Y yP yw yK yc i [] s5 _ H5 (fun _ _=>False) I5 (ou fr5) st5 stop
      rw[yA] at d
      refine thn d fun r s6 ⟨hr,I6⟩=>?_
      subst hr
      exact fin s6 H5 I6 q
    · have d:=T.item Y yP yw yK yc i [] s5 _ H5 (fun _ _=>False) I5 (ou fr5) st5 go
      rw[yA] at d
      refine thn d fun r s6 ⟨u,hr,h6⟩=>?_
      subst hr
      refine thn h6 fun _ s7 ⟨x,H7,I7,r7,y7,st7,fr7⟩=>?_
      have I7':=I7.pinned (ou fr7) (T.obj _ _ st7)
      have a:=pg _ s7 _ H7 x u _ I7' r7 (step x H7 y7)
      rw[yP,yw,yA,yx,ye] at a
      refine thn a fun _ s8 ⟨σ8,H8,I8,wk,q8⟩=>?_
      have b:=pifs _ s8 σ8 H8 _ I8 q8
      rw[yP,yw,yA,yx,ye] at b
      have again:∀ {s9:Shared} {ys9:List V} {H9:Hp},Inv Y ([]++k9 fp s7.heap) σ8 H9 s9→N ys9 H9→∃ m,m < k∧∃ i ys H',Inv Y [] (fS σ n caps) H' s9∧tn i s9.heap∧(∀ b∈fp,H' b=none)∧W i m ys H':=fun {s9 ys9 H9} I9 n9=>by
        obtain ⟨m',hm,w9⟩:=hN ys9 H9 n9
        have hp:∀ b∈fp,∀ o,s7.heap.get? b=some o→s9.heap.get? b=some o∧H9 b=none:=fun b hb o e=>
          ⟨(I9.pin (b,o) (List.mem_append_right _ (List.mem_append_right _ (cQ hb e)))).1,(I9.pin (b,o) (List.mem_append_right _ (List.mem_append_right _ (cQ hb e)))).2.1⟩
        refine ⟨m',hm,i+1,ys9,H9,I9.fV.weak wk.1 wk.2,T.keep _ _ _ st7 fun b hb o e=>(hp b hb o e).1,fun b hb=>?_,w9⟩
        obtain ⟨o,e,_⟩:=T.obj _ _ st7 b hb
        exact (hp b hb o e).2
      refine thn b fun ok s9 ⟨H9,I9,q9⟩=>?_
      cases ok with
      | false=>
        rw[if_neg Bool.false_ne_true] at q9 ⊢
        exact again I9 q9
      | true=>
        rw[if_pos rfl] at q9 ⊢
        have c:=pelt _ s9 σ8 H9 _ I9 q9
        rw[yP,yw,yA,yx,ye] at c
        refine thn c fun v s10 ⟨y,H10,I10,r10,zs,ez,lz,n10⟩=>?_
        have d:=kU (X:=Y) _ s10 σ8 H10 (.ref D) [y] (.ref D) [v] (fun _ H'=>N (zs++[y]) H') I10 rfl (.cons r10 .nil) ⟨D,zs,y,rfl,rfl,ez,lz,n10⟩
        rw[yP,yw,yA,yx] at d
        exact thn d fun _ s11 ⟨_,H11,I11,_,q11⟩=>again I11 q11
  refine codeAny_compStart_list loop ?_
  exact T.self X.A 0 _ _ _ (tn4 _) loop
end
section
open PySem PySem.Spec PyProof.Rows L2
structure Cw (K:PySem.W.Frag) (J:It) (H1:Hp) (ds:List D):Prop where
  go:∀ i H',Tk H1 H'→i < ds.length→J.go i H'
  yld:∀ i H' x H'',Tk H1 H'→i < ds.length→J.yld i H' x H''→Tk H' H''∧(∃ d,ds[i]? = some d∧Dp K H'' x d)∧∀ μ,bG K H' μ→bG K H'' μ
  stop:∀ i H',Tk H1 H'→ds.length≤i→J.stop i H'
def K1 (K:PySem.W.Frag)(wi:TI)(It':ATr):Prop:=∀ σ H ρ μ (Q:List D→Mu→Prop) (R:It→Hp→Prop),Rl K σ H ρ μ→It' ρ μ Q→(∀ J H1 ds μ1,Tk H H1→bG K H1 μ1→Cw K J H1 ds→Q ds μ1→R J H1)→wi σ H R
structure LI (X:Cx) (tg iter:Expr) (It':ATr):Prop where
  ex:∃ wi,PI X tg iter wi∧K1 X.K wi It'
section
variable {X:Cx} {tg a b c e elt iter:Expr} {Ta Tb Te:ETr} {Tt:TTr} {pos:Pos} {It':ATr} {G:GTr}
theorem AU {K:PySem.W.Frag}{H:Hp}{p:Addr}{xs:List V}{ds:List D}(q:SqT K H p xs)(l:DpL K H xs ds):Cw K (Itt K p) H ds where
  go:=fun i H' t hi=>by
    have hl:=l.length
    exact ⟨xs,xs[i],t.sqT q,by simp[show i < xs.length by omega]⟩
  yld:=fun i H' x H'' t hi ⟨e,y⟩=>by
    subst e
    have ex:=y xs (t.sqT q)
    obtain ⟨d,ed,p⟩:=l.get' ex
    exact ⟨.refl _,⟨d,ed,p.mono t⟩,fun _ m=>m⟩
  stop:=fun i H' t hi=>⟨xs,t.sqT q,by rw[l.length];exact hi⟩
theorem EU {K:PySem.W.Frag}{H:Hp}{p:Addr}{xs:List V}{ds:List D}(q:SqF K H p xs)(l:DpL K H xs ds):Cw K (Itl K p) H ds where
  go:=fun i H' t hi=>by
    have hl:=l.length
    exact ⟨xs,xs[i],(t.sqF q).sq,by simp[show i < xs.length by omega]⟩
  yld:=fun i H' x H'' t hi ⟨e,y⟩=>by
    subst e
    have ex:=y xs (t.sqF q).sq
    obtain ⟨d,ed,p⟩:=l.get' ex
    exact ⟨.refl _,⟨d,ed,p.mono t⟩,fun _ m=>m⟩
  stop:=fun i H' t hi=>⟨xs,(t.sqF q).sq,by rw[l.length];exact hi⟩
theorem jw (lo:Int)(n:Nat):(eK lo n).length=n:=by unfold eK;simp
theorem BI {K:PySem.W.Frag}{H:Hp}(lo:Int)(n:Nat):Cw K (Itr lo n) H (eK lo n) where
  go:=fun i H' t hi=>by rw[jw] at hi;exact hi
  yld:=fun i H' x H'' t hi ⟨e,y⟩=>by
    rw[jw] at hi
    subst e y
    exact ⟨.refl _,⟨.int (lo+i),by unfold eK;simp[hi],.int _⟩,fun _ m=>m⟩
  stop:=fun i H' t hi=>by rw[jw] at hi;exact hi
def LD (a:ETr):ATr:=fun ρ μ Q=>a ρ μ fun x μ1=>match x with
  | .tup ds=>Q ds μ1
  | _=>False
def ILs (a:ETr):ATr:=fun ρ μ Q=>a ρ μ fun x μ1=>match x with
  | .ls ds=>Q ds μ1
  | _=>False
theorem lr {rp rpos:Pos}(hg:Gl X "range")(hm:X.mg "range" = none)(ha:LE X a Ta)(hs:starEach [a] X.env=[(false,eval a X.env)]:=by rfl):LI X tg (.Call (.Name "range" rp) [a] [] rpos) (fh Ta):=by
  obtain ⟨ta,pa,sa⟩:=ha.ex
  refine ⟨_,AJ hg hm (eW pa lu hs) hs,fun σ H ρ μ Q R rl h k=>sa σ H ρ μ _ _ rl h fun x H1 d μ1 t1 m1 p1 h1=>?_⟩
  cases p1 with
  | int j=>
    obtain ⟨⟨h2,h3⟩,h4⟩:=h1
    exact ⟨j,rfl,by simpa using h2,by simpa using h3,k _ H1 _ μ1 t1 m1 (BI 0 _) h4⟩
  | _=>exact False.elim h1
theorem LL {t1:TS}{T1:STr}{g:TG}{E:En}{E':Ends}{K:PySem.W.Frag}{H0 H1:Hp}{J:It}{ds:List D}(sg:IQ K g G)(s1:EA K t1 T1)(k:C4 K H0 E E')(Y:Cw K J H1 ds){σ:L2.St}{ρ:ST}{μ:Mu}(t0:Tk H0 H1)(rl:Rl K σ H1 ρ μ)(h:forR G T1 E ds ρ μ) :
    ∃ W:Nat→Nat→L2.St→Hp→Prop,(∃ m,W 0 m σ H1)∧∀ i m σ H,W i m σ H→
      (J.stop i H∧E'.nx σ H)∨(J.go i H∧∃ N:L2.St→Hp→Prop,(∀ σ' H',N σ' H'→∃ m',m' < m∧W (i+1) m' σ' H')∧∀ x H',J.yld i H x H'→g x σ H' fun σ2 H2=>t1 { E' with nx:=N,ct:=N,bk:=E'.nx } σ2 H2):=by
  refine ⟨fun i m σ' H'=>m=ds.length - i∧i≤ds.length∧Tk H1 H'∧∃ ρ' μ',Rl K σ' H' ρ' μ'∧forR G T1 E (ds.drop i) ρ' μ',⟨ds.length,by simp,Nat.zero_le _,.refl _,ρ,μ,rl,by simpa using h⟩,?_⟩
  rintro i m σ1 H2 ⟨rfl,hi,t12,ρ1,μ1,r1,h1⟩
  by_cases hlt:i < ds.length
  · refine .inr ⟨Y.go i H2 t12 hlt,fun σ' H'=>Tk H1 H'∧∃ ρ' μ',Rl K σ' H' ρ' μ'∧forR G T1 E (ds.drop (i+1)) ρ' μ',fun σ' H' ⟨t',ρ',μ',r',h'⟩=>⟨ds.length - (i+1),by omega,rfl,hlt,t',ρ',μ',r',h'⟩,fun x H3 y=>?_⟩
    obtain ⟨t23,⟨d,ed,pd⟩,mk⟩:=Y.yld i H2 x H3 t12 hlt y
    have e:ds.drop i=d::ds.drop (i+1):=by
      refine (List.drop_eq_getElem_cons hlt).trans ?_
      congr 1
      rw[List.getElem?_eq_getElem hlt] at ed
      exact Option.some.inj ed
    rw[e] at h1
    have t13:=t12.trans t23
    refine sg σ1 H3 ρ1 μ1 _ _ _ _ (r1.go t23 (mk _ r1.mu)) pd h1 fun σ4 H4 ρ4 μ4 t4 r4 h4=>?_
    have t14:=t13.trans t4
    have t04:=t0.trans t14
    exact s1 σ4 H4 ρ4 μ4 _ _ r4 h4 ⟨fun σ' H' ρ' μ' t' r' q=>⟨t14.trans t',ρ',μ',r',q⟩,(k.go t04).rt,(k.go t04).nx,fun σ' H' ρ' μ' t' r' q=>⟨t14.trans t',ρ',μ',r',q⟩⟩
  · have e:i=ds.length:=by omega
    subst e
    rw[List.drop_length] at h1
    exact .inl ⟨Y.stop _ H2 t12 (Nat.le_refl _),k.nx _ _ _ _ (t0.trans t12) r1 h1⟩
theorem cG {body:List Stmt}{T1:STr}(hp:PassesOwn (model X.prog X.w) X.A X.env X.xe)(hc:X.calm=true)(hi:LI X tg iter It')(hG:LG X tg G)(hb:LSs X body T1)(hf:∀ x,foldedSetIterable iter X.env x=pure x:=by intro _;rfl) :
    LS X (.For tg iter body [] pos) (fF It' G T1):=by
  obtain ⟨wi,pi,si⟩:=hi.ex
  obtain ⟨g,pg,sg⟩:=hG.ex
  obtain ⟨t1,p1,s1⟩:=hb.ex
  exact ⟨_,Ka hp hc pi pg p1 hf,fun σ H ρ μ E E' rl h k=>si σ H ρ μ _ _ rl h fun J H1 ds μ1 t1' m1 Y h1=>LL sg s1 k Y t1' (rl.go t1' m1) h1⟩
def m4 (K:PySem.W.Frag)(T:ETr):TE:=fun σ H Q'=>∃ ρ μ Q,Rl K σ H ρ μ∧T ρ μ Q∧iq K H Q Q'
def liftT (K:PySem.W.Frag)(T:TTr):TT:=fun σ H Q'=>∃ ρ μ Q,Rl K σ H ρ μ∧T ρ μ Q∧∀ b H' μ',Tk H H'→bG K H' μ'→Q b μ'→Q' b H'
abbrev GD (K:PySem.W.Frag)(n:Nat)(σ:L2.St)(H:Hp)(k:ST→Mu→Prop)(k':L2.St→Hp→Prop):Prop:=∀ σ' H' ρ' μ',Tk H H'→Rl K σ' H' ρ' μ'→(σ'.length=σ.length∧∀ j,n≤j→σ'[j]? = σ[j]?)→k ρ' μ'→k' σ' H'
def oG (K:PySem.W.Frag)(n:Nat)(G:GTr):TG:=fun v σ H k'=>∃ ρ μ d k,Rl K σ H ρ μ∧Dp K H v d∧G d ρ μ k∧GD K n σ H k k'
theorem LE.pe (h:LE X e Te):PE X e (m4 X.K Te):=by
  obtain ⟨t,p,s⟩:=h.ex
  exact fun pins st σ H Q I ⟨ρ,μ,Q0,rl,hT,k⟩=>p pins st σ H Q I (s σ H ρ μ Q0 Q rl hT k)
structure wZ (X:Cx) (ifs:List Expr) (Tt:TTr):Prop where
  pe:C5 X ifs (liftT X.K Tt)
theorem cO:wZ X [] ik:=⟨fun pins s σ H Q I ⟨ρ,μ,Q0,rl,hT,k⟩=>E3 pins s σ H Q I (k true H μ (.refl H) rl.mu hT)⟩
theorem de (h:LT X c Tt):wZ X [c] Tt:=by
  obtain ⟨t,p,s⟩:=h.ex
  exact ⟨fun pins st σ H Q I ⟨ρ,μ,Q0,rl,hT,k⟩=>Fo p pins st σ H Q I (s σ H ρ μ Q0 Q rl hT k)⟩
structure LGc (X:Cx) (n:Nat) (tg:Expr) (G:GTr):Prop where
  pe:PG X tg (oG X.K n G)
theorem aW {x:Str}{n:Nat}(i:Nat)(hN:X.N.Nodup)(hin:i < n:=by decide)(hi:X.N[i]? = some x:=by rfl)(hx:Loc X.env.scope x:=by first | exact Or.inl rfl | exact Or.inr rfl)(hf:X.fn x=true∨X.env.scope.names.lookup x=some .local:=by first | exact .inr rfl | exact .inl rfl | assumption):LGc X n (.Name x pos) (ax i):=
  ⟨fun pins s σ H v u k' I r ⟨ρ,μ,d,k,rl,p,h,post⟩=>iN hN hi hx hf pins s σ H v u k' I r (post _ H _ μ (.refl H) (rl.set p i) ⟨by simp,fun j hj=>by rw[List.getElem?_set_ne (by omega)]⟩ h)⟩
theorem sF {K:PySem.W.Frag}{σ:L2.St}{H:Hp}{ρ:ST}{μ:Mu}(rl:Rl K σ H ρ μ)(n:Nat)(caps:List Nat):Rl K (fS σ n caps) H (gU ρ n caps) μ:=by
  refine ⟨by unfold fS gU;simp,fun i d e=>?_,rl.mu⟩
  have gen:∀ (n i:Nat),lk (List.replicate n none++caps.map (lk ρ)) i=some d→∃ j,i=n+j∧∃ k,caps[j]? = some k∧lk ρ k=some d:=by
    intro n
    induction n with
    | zero=>
      intro i h
      have h':lk (caps.map (lk ρ)) i=some d:=by simpa using h
      have g2:∀ (cs:List Nat) (i:Nat),lk (cs.map (lk ρ)) i=some d→∃ k,cs[i]? = some k∧lk ρ k=some d:=by
        intro cs
        induction cs with
        | nil=>intro i h;cases i<;>cases h
        | cons c r ih=>intro i h;cases i with
          | zero=>exact ⟨c,rfl,h⟩
          | succ i=>simpa using ih i h
      exact ⟨i,by omega,g2 caps i h'⟩
    | succ n ih=>
      intro i h
      cases i with
      | zero=>cases h
      | succ i=>
        obtain ⟨j,rfl,k,h1,h2⟩:=ih i h
        exact ⟨j,by omega,k,h1,h2⟩
  obtain ⟨j,rfl,k,h1,h2⟩:=gen n i e
  obtain ⟨v,h3,h4⟩:=rl.loc k d h2
  refine ⟨v,?_,h4⟩
  unfold fS
  rw[List.getElem?_append_right (by simp)]
  simp[h1,h3]
theorem FX {ifs:List Expr}{scope:Scope}{Nc:List Str}{n:Nat}{caps:List Nat}(hxe:X.xe=fun _ _=>False)(hcalm:X.calm=true)(hi:LI X tg iter It')
    (hbody:∀ (cl:List (Str×Addr)) (C:Addr) (s₀:Shared) (H₀:Hp) (ex:List Addr),LGc (aZ X scope Nc cl C s₀ H₀ ex) n tg G∧wZ (aZ X scope Nc cl C s₀ H₀ ex) ifs Tt∧LE (aZ X scope Nc cl C s₀ H₀ ex) elt Te)
    (hfree:∀ y∈scope.names,y.2=.free→X.env.kindOf y.1=some .cell) (hcell:∀ y∈scope.names,y.2≠.cell) (ig:scope.kind=.function)
    (hnames:∀ y∈scope.names,y.2=.local→scope.names.lookup y.1=some .local) (hlen:Nc.length=n+caps.length)
    (hcap:∀ (j k:Nat),caps[j]? = some k→∃ x,Nc[n+j]? = some x∧X.N[k]? = some x∧scope.names.lookup x=some .free)
    (hs:∀ x,foldedSetIterable iter X.env x=pure x:=by intro _;rfl) :
    LE X (.ListComp elt [⟨tg,iter,ifs,0⟩] scope pos) (bO It' G Tt Te n caps):=by
  obtain ⟨wi,pi,si⟩:=hi.ex
  refine ⟨_,jI (zG (g:=oG X.K n G) (tt:=liftT X.K Tt) (te:=m4 X.K Te) hxe hcalm pi (fun cl C s₀ H₀ ex=>let ⟨h1,h2,h3⟩:=hbody cl C s₀ H₀ ex;⟨h1.pe,h2.pe,h3.pe⟩) hfree hcell ig hnames hlen hcap hs),?_⟩
  intro σ H ρ μ Q Q' rl h k
  refine si σ H ρ μ _ _ rl h fun J H1 ds μ1 t1 m1 Y h1 D hD=>?_
  have hp:=h1 D (m1.free hD)
  have tD:Tk H1 (L2.upd H1 D (.lst [])):=.new hD
  have mD:bG X.K (L2.upd H1 D (.lst [])) (up μ1 D (.lst [])):=fun a o e=>by
    by_cases ha:a=D
    · subst ha
      rw[aD] at e;cases e
      exact ⟨[],aG,.nil⟩
    · rw[aU ha] at e
      exact cR m1 hD a o e
  refine ⟨fun i m ys H2=>m=ds.length - i∧i≤ds.length∧Tk H1 H2∧∃ μ2,bG X.K H2 μ2∧iD D G Tt Te (gU ρ n caps) (fun μ'=>kL μ' D fun zs=>Q (.ls zs) (dn μ' D)) (ds.drop i) μ2,
    ⟨ds.length,by simp,Nat.zero_le _,tD,_,mD,by simpa using hp⟩,?_⟩
  rintro i m ys H2 ⟨rfl,hi,t12,μ2,m2,h2⟩
  by_cases hlt:i < ds.length
  · refine .inr ⟨Y.go i H2 t12 hlt,fun ys' H'=>Tk H1 H'∧∃ μ',bG X.K H' μ'∧iD D G Tt Te (gU ρ n caps) (fun μ'=>kL μ' D fun zs=>Q (.ls zs) (dn μ' D)) (ds.drop (i+1)) μ',fun ys' H' ⟨t',μ',m',h'⟩=>⟨ds.length - (i+1),by omega,rfl,hlt,t',μ',m',h'⟩,fun x H3 y=>?_⟩
    obtain ⟨t23,⟨d,ed,pd⟩,mk⟩:=Y.yld i H2 x H3 t12 hlt y
    have e:ds.drop i=d::ds.drop (i+1):=by
      refine (List.drop_eq_getElem_cons hlt).trans ?_
      congr 1
      rw[List.getElem?_eq_getElem hlt] at ed
      exact Option.some.inj ed
    rw[e] at h2
    have t13:=t12.trans t23
    have r3:Rl X.K (fS σ n caps) H3 (gU ρ n caps) μ2:=sF (rl.go (t1.trans t13) (mk _ m2)) n caps
    refine ⟨_,_,d,_,r3,pd,h2,fun σ4 H4 ρ4 μ4 t4 r4 kp h4=>⟨⟨kp.1.symm,fun j v ej=>?_⟩,_,_,_,r4,h4,fun b H5 μ5 t5 m5 h5=>?_⟩⟩
    · by_cases hj:n≤j
      · rw[kp.2 j hj];exact ej
      · obtain ⟨j',k',e1,_⟩:=gZ ej
        omega
    · have t15:=t13.trans (t4.trans t5)
      cases b with
      | false=>exact sY ⟨t15,μ5,m5,h5⟩
      | true=>
        refine rW ⟨_,_,_,r4.go t5 m5,h5,fun v H6 d6 μ6 t6 m6 p6 h6=>?_⟩
        obtain ⟨zs,ez,lz,h7⟩:=bV h6
        obtain ⟨xs,ex,lx⟩:=m6 D _ ez
        have t67:Tk H6 (L2.upd H6 D (.lst (xs++[v]))):=.upd (fun ys z=>by rw[ex] at z;cases z) fun o' u z=>by rw[ex] at z;cases z
        refine ⟨xs,ex,by rw[lx.length];exact Nat.lt_of_lt_of_le lz (by decide),(t15.trans t6).trans t67,up μ6 D (.lst (zs++[d6])),fun a o ea=>?_,h7⟩
        by_cases ha:a=D
        · subst ha
          rw[aD] at ea;cases ea
          exact ⟨_,aG,(lx.append (.cons p6 .nil)).mono t67⟩
        · rw[aU ha] at ea
          exact (m6 a _ ea).ne t67 ha
  · have e:i=ds.length:=by omega
    subst e
    rw[List.drop_length] at h2
    obtain ⟨zs,ez,hq⟩:=bV (show kL μ2 D fun zs=>Q (.ls zs) (dn μ2 D) from h2)
    obtain ⟨xs,ex,lx⟩:=m2 D _ ez
    refine .inl ⟨Y.stop _ H2 t12 (Nat.le_refl _),D,xs,rfl,ex,fun o=>?_⟩
    have t2f:Tk H2 (L2.upd H2 D (.frz o (.lst xs))):=.upd (fun ys z=>by rw[ex] at z;cases z) fun o' u z=>by rw[ex] at z;cases z
    refine k _ _ _ (dn μ2 D) ((t1.trans t12).trans t2f) (fun a o' ea=>?_) (.ls (.inl ⟨o,aG⟩) (lx.mono t2f)) hq
    have ha:a≠D:=fun z=>by subst z;unfold dn at ea;rw[if_pos rfl] at ea;cases ea
    have ea':μ2 a=some o':=by unfold dn at ea;rw[if_neg ha] at ea;exact ea
    exact (m2 a _ ea').ne t2f ha
end
end
section
open PySem PySem.Spec PyProof.Rows L2
def iz (fn:List (Str×NameKind))(XN:List Str)(sc:Scope)(Nc:List Str)(n:Nat)(caps:List Nat):Bool:=
  sc.names.all (fun y=>(y.2 != .free || fn.lookup y.1 == some .cell)&&y.2 != .cell&&(y.2 != .local || sc.names.lookup y.1 == some .local))&&sc.kind == .function&&Nc.length == n+caps.length &&
  (List.range caps.length).all fun j=>match caps[j]? with
    | some k=>(match XN[k]? with
      | some x=>Nc[n+j]? == some x&&sc.names.lookup x == some .free
      | none=>false)
    | none=>false
section
variable {X:Cx} {tg a b c e elt iter:Expr} {Ta Tb Te:ETr} {Tt:TTr} {pos:Pos} {It':ATr} {G:GTr}
theorem bh {ifs:List Expr}{scope fsc:Scope}(XN Nc:List Str)(n:Nat)(caps:List Nat)(hxe:X.xe=fun _ _=>False)(hcalm:X.calm=true)(hi:LI X tg iter It')
    (hbody:∀ (cl:List (Str×Addr)) (C:Addr) (s₀:Shared) (H₀:Hp) (ex:List Addr),LGc (aZ X scope Nc cl C s₀ H₀ ex) n tg G∧wZ (aZ X scope Nc cl C s₀ H₀ ex) ifs Tt∧LE (aZ X scope Nc cl C s₀ H₀ ex) elt Te)
    (hsc:X.env.scope=fsc) (hXN:X.N=XN) (hok:iz fsc.names XN scope Nc n caps=true)
    (hs:∀ x,foldedSetIterable iter X.env x=pure x:=by intro _;rfl) :
    LE X (.ListComp elt [⟨tg,iter,ifs,0⟩] scope pos) (bO It' G Tt Te n caps):=by
  unfold iz at hok
  simp only[Bool.and_eq_true,List.all_eq_true] at hok
  obtain ⟨⟨⟨h1,h2⟩,h3⟩,h4⟩:=hok
  refine FX hxe hcalm hi hbody (fun y hy hf=>?_) (fun y hy hf=>?_) (by simpa using h2) (fun y hy hf=>?_) (by simpa using h3) (fun j k hj=>?_) hs
  · have:=(h1 y hy).1.1
    show X.env.scope.names.lookup y.1=_
    rw[hsc]
    simpa[hf] using this
  · have:=(h1 y hy).1.2
    simp[hf] at this
  · have:=(h1 y hy).2
    simpa[hf] using this
  · have hl:j < caps.length:=(List.getElem?_eq_some_iff.mp hj).1
    have:=h4 j (List.mem_range.mpr hl)
    rw[hj] at this
    dsimp only at this
    rw[hXN]
    cases e:XN[k]? with
    | none=>rw[e] at this;cases this
    | some x=>
      rw[e] at this
      dsimp only at this
      rw[Bool.and_eq_true] at this
      exact ⟨x,by simpa using this.1,rfl,by simpa using this.2⟩
end
theorem il:∀ {bs:List Bool} {us:List Value},Vals (bs.map V.bl) us→LSm.BoolsAre us bs
  | [],_,.nil=>.nil
  | b::r,_,.cons h t=>by
    cases (show _=Value.bool b from h)
    exact .cons b (il t)
theorem qV {X:Cx}(hc:X.calm=true):bQ X (.builtin "any") (fun xs H Q=>∃ (p:Addr) (ys:List V) (bs:List Bool),xs=[.ref p]∧SqL X.K H p ys∧ys=bs.map V.bl∧Q (.bl (bs.any id)) H):=fun pins s σ H xs us Q I rx ⟨p,ys,bs,e1,sq,e2,q⟩=>by
  subst e1 e2
  cases rx with | cons r1 r2=>
  cases r2
  cases (show _=Value.ref p from r1)
  obtain ⟨its,rv,pl,_⟩:=I.list sq
  have ils:s.heap.IsList p its.toArray:=by
    obtain ⟨o,n,h1,h2,_,h3⟩:=pl
    exact ⟨o,h1,h2,n,h3⟩
  have bls:=il rv
  have hlt:p < s.heap.objs.size:=by obtain ⟨_,e,_⟩:=ils;exact Heap.lt_size e
  refine call_any_walk (wpAny_pyIter_list ils ?_)
  refine ⟨s.heap.objs.size,[s.heap.objs.size,p],[s.heap.objs.size],its.toArray.size,_,_,fun i=>(bs[i]?).getD false,rfl,Walks.list (A:=X.A.in1) (I.ok.hd hc) _ p (Nat.ne_of_lt hlt) its.toArray,
    ⟨⟨_,Heap.get?_push_size _ rfl,rfl,rfl⟩,ils.push _⟩,fun i v s' Q' E' gP gQ=>?_,fun h' tk hk=>?_⟩
  · obtain ⟨b,e,rfl⟩:=bls.get i v (by simpa using gP)
    simp only[e,Option.getD_some] at gQ
    exact wpAny_truthy_bool gQ
  · have e:((List.range its.toArray.size).any fun i=>(bs[i]?).getD false)=bs.any id:=by
      rw[List.size_toArray,bls.length];exact LSm.range_any bs
    rw[e]
    exact ⟨.bl _,H,I.kept (LSm.kept_iter hk),rfl,q⟩
theorem qU {X:Cx}(hc:X.calm=true):bQ X (.builtin "all") (fun xs H Q=>∃ (p:Addr) (ys:List V) (bs:List Bool),xs=[.ref p]∧SqL X.K H p ys∧ys=bs.map V.bl∧Q (.bl (bs.all id)) H):=fun pins s σ H xs us Q I rx ⟨p,ys,bs,e1,sq,e2,q⟩=>by
  subst e1 e2
  cases rx with | cons r1 r2=>
  cases r2
  cases (show _=Value.ref p from r1)
  obtain ⟨its,rv,pl,_⟩:=I.list sq
  have ils:s.heap.IsList p its.toArray:=by
    obtain ⟨o,n,h1,h2,_,h3⟩:=pl
    exact ⟨o,h1,h2,n,h3⟩
  have bls:=il rv
  have hlt:p < s.heap.objs.size:=by obtain ⟨_,e,_⟩:=ils;exact Heap.lt_size e
  refine call_all_walk (wpAny_pyIter_list ils ?_)
  refine ⟨s.heap.objs.size,[s.heap.objs.size,p],[s.heap.objs.size],its.toArray.size,_,_,fun i=>(bs[i]?).getD true,rfl,Walks.list (A:=X.A.in1) (I.ok.hd hc) _ p (Nat.ne_of_lt hlt) its.toArray,
    ⟨⟨_,Heap.get?_push_size _ rfl,rfl,rfl⟩,ils.push _⟩,fun i v s' Q' E' gP gQ=>?_,fun h' tk hk=>?_⟩
  · obtain ⟨b,e,rfl⟩:=bls.get i v (by simpa using gP)
    simp only[e,Option.getD_some] at gQ
    exact wpAny_truthy_bool gQ
  · have e:((List.range its.toArray.size).all fun i=>(bs[i]?).getD true)=bs.all id:=by
      rw[List.size_toArray,bls.length];exact LSm.range_all bs
    rw[e]
    exact ⟨.bl _,H,I.kept (LSm.kept_iter hk),rfl,q⟩
theorem DpL.bools {K:PySem.W.Frag}{H:Hp}:∀ {xs:List V} {bs:List Bool},DpL K H xs (bs.map .bl)→xs=bs.map V.bl
  | _,[],.nil=>rfl
  | _,b::r,.cons h l=>by cases h;rw[DpL.bools l];rfl
theorem ze {K:PySem.W.Frag}:md K (fun xs H Q=>∃ (p:Addr) (ys:List V) (bs:List Bool),xs=[.ref p]∧SqL K H p ys∧ys=bs.map V.bl∧Q (.bl (bs.any id)) H) Gg:=fun H μ xs ds Q Q' m p h k=>by
  unfold Gg at h
  split at h
  · obtain ⟨bs,rfl,h⟩:=h
    cases p with | cons p1 p2=>cases p2;cases p1 with | ls q l=>exact ⟨_,_,bs,rfl,q.sq,l.bools,k _ H _ μ (.refl H) m (.bl _) h⟩
  · exact h.elim
theorem zl {K:PySem.W.Frag}:md K (fun xs H Q=>∃ (p:Addr) (ys:List V) (bs:List Bool),xs=[.ref p]∧SqL K H p ys∧ys=bs.map V.bl∧Q (.bl (bs.all id)) H) Fw:=fun H μ xs ds Q Q' m p h k=>by
  unfold Fw at h
  split at h
  · obtain ⟨bs,rfl,h⟩:=h
    cases p with | cons p1 p2=>cases p2;cases p1 with | ls q l=>exact ⟨_,_,bs,rfl,q.sq,l.bools,k _ H _ μ (.refl H) m (.bl _) h⟩
  · exact h.elim
end
section
open PySem PySem.Spec PyProof.Rows L2
def GV (K:PySem.W.Frag)(mg:Str→Option Value)(x:Str)(d:D):Prop:=∃ u v,mg x=some u∧RelV v u∧∀ H,Dp K H v d
theorem aN {X:Cx}{x:Str}{pos:Pos}{d:D}(hg:Gl X x)(h:GV X.K X.mg x d)(hd:(x == ("__debug__" : Str))=false:=by decide):LE X (.Name x pos) (TC d):=by
  obtain ⟨u,v,hm,r,p⟩:=h
  exact ⟨_,E4 hg hm r hd,fun σ H ρ μ Q Q' rl h k=>k v H d μ (.refl H) rl.mu (p H) h⟩
section
variable {K:PySem.W.Frag} {h:Heap} {mg:Str→Option Value} {x:Str}
theorem gf {i:Int}{t:Tok}(X:K.In h)(G:h.Ns mainGlobals mg)(a:PySem.W.nsIn K mainGlobals x=some (some (.int i t))):GV K mg x (.int i):=⟨_,.int i,PySem.W.mg_of X G a,⟨t,rfl⟩,fun _=>.int i⟩
theorem Ji {p:Addr}{o:Obj}{its:Array Value}{n:Nat}{xs:List V}{ds:List D}(X:K.In h)(G:h.Ns mainGlobals mg)(a:PySem.W.nsIn K mainGlobals x=some (some (.ref p)))(l:K.lookup p=some o)(c:o.cls=.type "tuple")(dn:o.dict=none)(d:o.data=.seq its n)
    (z:its.size≤sizeLine) (r:Vals xs its.toList) (q:∀ H,DpL K H xs ds):GV K mg x (.tup ds):=⟨_,.ref p,PySem.W.mg_of X G a,rfl,fun H=>.tup (.inr ⟨o,its,n,l,c,dn,d,z,r⟩) (q H)⟩
end
def kX:ST→List Nat→List D→ST
  | ρ,i::is,d::ds=>kX (ρ.set i (some d)) is ds
  | ρ,_,_=>ρ
def mh (is:List Nat):GTr:=fun d ρ μ k=>match d with
  | .tup ds=>ds.length=is.length∧k (kX ρ is ds) μ
  | _=>False
def LV (K:PySem.W.Frag)(t:TGs)(is:List Nat):Prop:=∀ σ H ρ μ vs ds (k:ST→Mu→Prop) (k':L2.St→Hp→Prop),Rl K σ H ρ μ→DpL K H vs ds→ds.length=is.length→k (kX ρ is ds) μ→uu K H k k'→t vs σ H k'
structure LGs (X:Cx) (es:List Expr) (is:List Nat):Prop where
  ex:∃ t,PGs X es t∧LV X.K t is
section
variable {X:Cx} {e tg:Expr} {es:List Expr} {is:List Nat} {pos:Pos} {x:Str} {Ta:ETr} {G:GTr}
theorem rK:LGs X [] []:=⟨_,zV,fun σ H ρ μ vs ds k k' rl l hl h q=>by
  cases ds with
  | nil=>cases l;exact ⟨rfl,q _ _ _ _ (.refl H) rl h⟩
  | cons=>cases hl⟩
theorem fT (i:Nat)(hN:X.N.Nodup)(h2:LGs X es is)(hi:X.N[i]? = some x:=by rfl)(hx:Loc X.env.scope x:=by first | exact Or.inl rfl | exact Or.inr rfl)(hf:X.fn x=true∨X.env.scope.names.lookup x=some .local:=by first | exact .inl rfl | exact .inr rfl | assumption)
    (hs:(assignEach (.Name x pos::es) X.env).map (·.2)=assign (.Name x pos) X.env::(assignEach es X.env).map (·.2):=by rfl):LGs X (.Name x pos::es) (i::is):=by
  obtain ⟨t,pt,st⟩:=h2.ex
  refine ⟨_,u3 (iN hN hi hx hf) pt hs,fun σ H ρ μ vs ds k k' rl l hl h q=>?_⟩
  cases l with
  | nil=>cases hl
  | @cons v d vs ds p l=>exact ⟨v,vs,rfl,st _ H _ μ vs ds k k' (rl.set p i) l (by simpa using hl) h q⟩
theorem xS {k:Nat}(hc:X.calm=true)(h:LGs X es is)(hn:(assignEach es X.env).length=is.length:=by rfl)(hst:(assignEach es X.env).findIdx? (·.1)=none:=by rfl):LG X (.Tuple es k pos) (mh is):=by
  obtain ⟨t,pt,st⟩:=h.ex
  refine ⟨_,Bn hc pt hn hst,fun σ H ρ μ v d k k' rl p h q=>?_⟩
  cases p with
  | @tup a xs ds sq l=>exact ⟨a,xs,rfl,sq,by rw[l.length];exact h.1,st σ H ρ μ xs ds k k' rl l h.1 h.2 q⟩
  | _=>exact False.elim h
end
end
section
open PySem PySem.Spec PyProof.Rows L2
def fR (tp:Bool)(h:Heap)(it a:Addr)(i:Nat):Prop:=match tp with
  | true=>h.IsTupleIter it a i
  | false=>h.IsListIter it a i
def dZ (tp:Bool)(h:Heap)(a:Addr)(xs:Array Value):Prop:=match tp with
  | true=>h.IsTuple a xs
  | false=>h.IsList a xs
theorem fR.at {tp:Bool}{h g:Heap}{it a:Addr}{i:Nat}(x:fR tp h it a i)(k:∀ o,h.get? it=some o→g.get? it=some o):fR tp g it a i:=by
  cases tp with
  | true=>obtain ⟨o,e,r⟩:=x;exact ⟨o,k o e,r⟩
  | false=>obtain ⟨o,e,r⟩:=x;exact ⟨o,k o e,r⟩
theorem dZ.at {tp:Bool}{h g:Heap}{a:Addr}{xs:Array Value}(x:dZ tp h a xs)(k:∀ o,h.get? a=some o→g.get? a=some o):dZ tp g a xs:=by
  cases tp with
  | true=>obtain ⟨o,e,r⟩:=x;exact ⟨o,k o e,r⟩
  | false=>obtain ⟨o,e,r⟩:=x;exact ⟨o,k o e,r⟩
theorem fR.ex {tp:Bool}{h:Heap}{it a:Addr}{i:Nat}(x:fR tp h it a i):∃ o,h.get? it=some o∧∃ vs,o.data=.fields vs:=by
  cases tp with
  | true=>obtain ⟨o,e,_,d⟩:=x;exact ⟨o,e,_,d⟩
  | false=>obtain ⟨o,e,_,d⟩:=x;exact ⟨o,e,_,d⟩
section
variable {prog:Program} {w:World} {A:Around} {E:Value→Shared→Prop} {s:Shared}
theorem Cn {it t:Addr}{i:Nat}{xs:Array Value}{x:Value}{Q:Value→Shared→Prop}(hi:s.heap.IsTupleIter it t i)(ht:s.heap.IsTuple t xs)(hx:xs[i]? = some x)
    (k:∀ g,g.IsTupleIter it t (i+1)→Heap.SameBut it s.heap g→Q x { s with heap:=g }):wpAny (model prog w) A (Builtin.SmallTypes.nextOf (.ref it)) Q E s:=by
  obtain ⟨ob,gb,cb,db⟩:=id hi
  obtain ⟨ot,gt,_,nt,dt⟩:=ht
  delta Builtin.SmallTypes.nextOf
  refine wpAny_bind (wpAny_callSpecial?_slot (name:=Str.ofString "__next__") hi.typeIs F.slot_tuple_iterator_next (wpAny_call_entry F.slot_tuple_iterator_next hi.typeIs F.entry_tuple_iterator_next ?_ (F.args_tuple_iterator_next_1 _)))
  refine wpAny_bind (m:=field (.ref it) 0) (wpAny_field gb db (x:=.ref t) rfl ?_)
  refine (show wpAny _ _ (if (Value.ref t == Value.none)=true then _ else _) _ _ s from ?_)
  rw[if_neg (show ¬ ((Value.ref t == Value.none)=true) by intro z;cases z)]
  refine wpAny_bind (m:=field (.ref it) 1) (wpAny_field gb db (x:=.int i 0) rfl ?_)
  refine wpAny_bind (m:=seqItems? (.ref t)) (wpAny_seqItems gt dt ?_)
  simp only[hx,Int.toNat_natCast]
  refine wpAny_bind (wpAny_setField gb db (by simp) (wpAny_pure ⟨x,rfl,wpAny_pure (k _ ⟨_,Heap.get?_update_self _ gb (Obj.isFreed_of_fields (Obj.data_mapFields db _)),(Obj.cls_mapFields ..).trans cb,?_⟩ (Heap.SameBut.update ..))⟩))
  rw[Obj.data_mapFields db];simp[rawInt]
theorem mK {tp:Bool}{it a:Addr}{i:Nat}{xs:Array Value}{x:Value}{Q:Value→Shared→Prop}(hi:fR tp s.heap it a i)(hs:dZ tp s.heap a xs)(hx:xs[i]? = some x)
    (k:∀ g,fR tp g it a (i+1)→Heap.SameBut it s.heap g→Q x { s with heap:=g }):wpAny (model prog w) A (Builtin.SmallTypes.nextOf (.ref it)) Q E s:=by
  cases tp with
  | true=>exact Cn hi hs hx k
  | false=>exact wpAny_nextOf_list_item hi hs hx k
theorem Gh {it t:Addr}{i:Nat}{xs:Array Value}{Q:Value→Shared→Prop}(hh:A.handled=none)(hi:s.heap.IsTupleIter it t i)(ht:s.heap.IsTuple t xs)(hx:xs[i]? = none)
    (k:∀ g e,Heap.ExtBut it s.heap g→(∃ o,g.get? e=some o∧o.cls=.type "StopIteration")→E (.ref e) { s with heap:=g }):wpAny (model prog w) A (Builtin.SmallTypes.nextOf (.ref it)) Q E s:=by
  obtain ⟨ob,gb,cb,db⟩:=id hi
  obtain ⟨ot,gt,_,nt,dt⟩:=ht
  delta Builtin.SmallTypes.nextOf
  refine wpAny_bind (wpAny_callSpecial?_slot (name:=Str.ofString "__next__") hi.typeIs F.slot_tuple_iterator_next (wpAny_call_entry F.slot_tuple_iterator_next hi.typeIs F.entry_tuple_iterator_next ?_ (F.args_tuple_iterator_next_1 _)))
  refine wpAny_bind (m:=field (.ref it) 0) (wpAny_field gb db (x:=.ref t) rfl ?_)
  refine (show wpAny _ _ (if (Value.ref t == Value.none)=true then _ else _) _ _ s from ?_)
  rw[if_neg (show ¬ ((Value.ref t == Value.none)=true) by intro z;cases z)]
  refine wpAny_bind (m:=field (.ref it) 1) (wpAny_field gb db (x:=.int i 0) rfl ?_)
  refine wpAny_bind (m:=seqItems? (.ref t)) (wpAny_seqItems gt dt ?_)
  simp only[hx,Int.toNat_natCast]
  refine wpAny_bind (wpAny_rule (wpAny_bind (wpAny_setField gb db (by simp) (wpAny_bind (m:=newExc (.type "StopIteration") []) ?_))))
  simp only[newExc,newTuple]
  refine wpAny_bind (wpAny_newObj_type (wpAny_bind (m:=firstArgMember _ _) (wpAny_of_eq (a:=Value.none) (by first | rfl | (simp only[firstArgMember];rfl)) (wpAny_newObj_type ?_ (by size_fits)))) (by size_fits))
  simp only[raiseNew]
  refine wpAny_bind <| wpAny_handled ?_
  rw[(show A.in1.handled=none from hh)]
  exact wpAny_bind (wpAny_pure (wpAny_throw (k _ _ (((Heap.SameBut.update ..).extBut.push _).push _) ⟨_,Heap.get?_push_size _ rfl,rfl⟩)))
theorem we {tp:Bool}{it a:Addr}{i:Nat}{xs:Array Value}{Q:Value→Shared→Prop}(hh:A.handled=none)(hi:fR tp s.heap it a i)(hs:dZ tp s.heap a xs)(hx:xs[i]? = none)
    (k:∀ g e,Heap.ExtBut it s.heap g→(∃ o,g.get? e=some o∧o.cls=.type "StopIteration")→E (.ref e) { s with heap:=g }):wpAny (model prog w) A (Builtin.SmallTypes.nextOf (.ref it)) Q E s:=by
  cases tp with
  | true=>exact Gh hh hi hs hx k
  | false=>exact wpAny_nextOf_list_end hh hi hs hx k
structure Zp (z ti to i j a b:Addr):Prop where
  nd:[z,ti,to,i,j].Nodup
  na:a ∉ [z,to,i,j]
  nb:b ∉ [z,to,i,j]
structure ZAt (ta tb:Bool) (h:Heap) (z ti to i j a b:Addr) (k:Nat):Prop where
  zz:PySem.IsZip h z ti to .none
  zt:PySem.IsPair h ti (.ref i) (.ref j)
  zo:∃ u v,PySem.IsPair h to u v
  zi:fR ta h i a k
  zj:fR tb h j b k
theorem Aw {ta tb:Bool}{z ti to i j a b:Addr}{k:Nat}{xs ys:Array Value}{x y:Value}{Q:Option Value→Shared→Prop}(Z:Zp z ti to i j a b)(S:ZAt ta tb s.heap z ti to i j a b k)(ha:dZ ta s.heap a xs)(hb:dZ tb s.heap b ys)(hx:xs[k]? = some x)(hy:ys[k]? = some y)
    (q:∀ g,PySem.IsZip g z ti to (rawInt s.heap.objs.size)→PySem.IsPair g ti (.ref i) (.ref j)→PySem.IsPair g to x y→fR ta g i a (k+1)→fR tb g j b (k+1)→PySem.IsPair g s.heap.objs.size x y→
      (∀ c o,c≠z→c≠to→c≠i→c≠j→s.heap.get? c=some o→g.get? c=some o)→Q (some (.ref s.heap.objs.size)) { s with heap:=g }):wpAny (model prog w) A (pyNext (.ref z)) Q E s:=by
  obtain ⟨zz,zt,⟨u,v,zo⟩,zi,zj⟩:=S
  obtain ⟨nd,na,nb⟩:=Z
  simp only[List.nodup_cons,List.mem_cons,List.not_mem_nil,or_false,not_or] at nd na nb
  obtain ⟨⟨n1,n2,n3,n4⟩,⟨n5,n6,n7⟩,⟨n8,n9⟩,n10,_⟩:=nd
  obtain ⟨a1,a2,a3,a4⟩:=na
  obtain ⟨b1,b2,b3,b4⟩:=nb
  have hT:s.TypeIs (.ref z) "zip" := ⟨_,zz,rfl⟩
  unfold pyNext
  refine wpAny_bind (wpAny_attempt (wpAny_callSpecial?_slot (name:=Str.ofString "__next__") hT F.slot_zip_next (wpAny_call_entry F.slot_zip_next hT F.entry_zip_next ?_ (F.args_zip_next_1 _))))
  refine wpAny_bind (m:=field (.ref z) 2) (wpAny_field zz rfl (x:=.bool false) rfl ?_)
  refine wpAny_bind (m:=field (.ref z) 3) (wpAny_field zz rfl (x:=.ref ti) rfl (wpAny_bind (wpAny_seqItems zt rfl (wpAny_bind (m:=Builtin.SmallTypes.ownedTupleIsFree (.ref z)) ?_))))
  delta Builtin.SmallTypes.ownedTupleIsFree
  refine wpAny_bind (wpAny_field zz rfl (x:=.none) rfl (wpAny_pure ?_))
  simp only[if_true]
  refine wpAny_bind (wpAny_rule (wpAny_bind (wpAny_field zz rfl (x:=.ref to) rfl (wpAny_bind (wpAny_setField_rec zz (by simp) fun g1 zz1 k1=>wpAny_bind ?_)))))
  have zz1:PySem.IsZip g1 z ti to .ellipsis:=zz1
  simp only[List.zipIdx_nil,List.zipIdx_cons,List.forIn_nil,List.forIn_cons]
  refine wpAny_bind (wpAny_bind (wpAny_onRaise (wpAny_bind (m:=Builtin.SmallTypes.nextOf (.ref i)) (mK (s:={ s with heap:=g1 }) (zi.at fun o e=>(k1.2 i (Ne.symm n3)).trans e) (ha.at fun o e=>(k1.2 a a1).trans e) hx fun g2 zi2 k2=>wpAny_pure ?_))))
  have zo2:PySem.IsPair g2 to u v:=(k2.2 to n8).trans ((k1.2 to (Ne.symm n2)).trans zo)
  refine wpAny_bind (wpAny_seqItems zo2 rfl (wpAny_bind (PySem.wpAny_updateSeq_pair zo2 fun g3 zo3 k3=>wpAny_bind (wpAny_letGo (wpAny_pure ?_)))))
  have zo3:PySem.IsPair g3 to x v:=zo3
  refine wpAny_bind (wpAny_bind (wpAny_onRaise (wpAny_bind (m:=Builtin.SmallTypes.nextOf (.ref j)) (mK (s:={ s with heap:=g3 }) (zj.at fun o e=>(k3.2 j (Ne.symm n9)).trans ((k2.2 j (Ne.symm n10)).trans ((k1.2 j (Ne.symm n4)).trans e)))
    (hb.at fun o e=>(k3.2 b b2).trans ((k2.2 b b3).trans ((k1.2 b b1).trans e))) hy fun g4 zj4 k4=>wpAny_pure ?_))))
  have zo4:PySem.IsPair g4 to x v:=(k4.2 to n9).trans zo3
  refine wpAny_bind (wpAny_seqItems zo4 rfl (wpAny_bind (PySem.wpAny_updateSeq_pair zo4 fun g5 zo5 k5=>wpAny_bind (wpAny_letGo (wpAny_pure (wpAny_pure ?_))))))
  have zo5:PySem.IsPair g5 to x y:=zo5
  refine wpAny_bind (wpAny_seqItems zo5 rfl (wpAny_bind (wpAny_newTuple (wpAny_bind (m:=Builtin.SmallTypes.ownedTupleHandOut (.ref z) (.ref g5.objs.size)) ?_))))
  have sz:g5.objs.size=s.heap.objs.size:=by rw[k5.1,k4.1,k3.1,k2.1,k1.1]
  have zz5:PySem.IsZip g5 z ti to .ellipsis:=(k5.2 z n2).trans ((k4.2 z n4).trans ((k3.2 z n2).trans ((k2.2 z n3).trans zz1)))
  have zlt:z < g5.objs.size:=Heap.lt_size zz5
  delta Builtin.SmallTypes.ownedTupleHandOut
  have zz6:PySem.IsZip (g5.push { cls:=.type "tuple", data:=.seq #[x,y] }) z ti to .ellipsis:=Heap.get?_push_of_some _ zz5
  refine wpAny_bind (wpAny_setField_rec zz6 (by simp) fun g7 zz7 k7=>?_)
  have zz7:PySem.IsZip g7 z ti to (rawInt g5.objs.size):=zz7
  refine wpAny_setField_rec zz7 (by simp) fun g8 zz8 k8=>wpAny_pure ⟨_,rfl,wpAny_pure ?_⟩
  have up5:∀ c o,c≠z→g5.get? c=some o→g8.get? c=some o:=fun c o c1 e=>(k8.2 c c1).trans ((k7.2 c c1).trans (Heap.get?_push_of_some _ e))
  have Km:PySem.IsPair g8 g5.objs.size x y:=(k8.2 _ (Nat.ne_of_gt zlt)).trans ((k7.2 _ (Nat.ne_of_gt zlt)).trans (Heap.get?_push_size _ rfl))
  have zz8:PySem.IsZip g8 z ti to (rawInt g5.objs.size):=zz8
  rw[sz] at zz8 Km
  have all:∀ c o,c≠z→c≠to→c≠i→c≠j→s.heap.get? c=some o→g8.get? c=some o:=fun c o c1 c2 c3 c4 e=>up5 c o c1 ((k5.2 c c2).trans ((k4.2 c c4).trans ((k3.2 c c2).trans ((k2.2 c c3).trans ((k1.2 c c1).trans e)))))
  have fin:=q g8 zz8 (all ti _ (Ne.symm n1) n5 n6 n7 zt) (up5 to _ (Ne.symm n2) zo5) (zi2.at fun o e=>up5 i o (Ne.symm n3) ((k5.2 i (Ne.symm n8)).trans ((k4.2 i n10).trans ((k3.2 i (Ne.symm n8)).trans e)))) (zj4.at fun o e=>up5 j o (Ne.symm n4) ((k5.2 j (Ne.symm n9)).trans e)) Km all
  rw[← sz] at fin
  exact fin
theorem D4 {ta tb:Bool}{z ti to i j a b:Addr}{k:Nat}{xs ys:Array Value}{Q:Option Value→Shared→Prop}(hh:A.handled=none)(Z:Zp z ti to i j a b)(S:ZAt ta tb s.heap z ti to i j a b k)(ha:dZ ta s.heap a xs)(hb:dZ tb s.heap b ys)(he:xs[k]? = none∨ys[k]? = none)
    (q:∀ g,(∀ c o,c≠z→c≠to→c≠i→c≠j→s.heap.get? c=some o→g.get? c=some o)→Q none { s with heap:=g }):wpAny (model prog w) A (pyNext (.ref z)) Q E s:=by
  obtain ⟨zz,zt,⟨u,v,zo⟩,zi,zj⟩:=S
  obtain ⟨nd,na,nb⟩:=Z
  simp only[List.nodup_cons,List.mem_cons,List.not_mem_nil,or_false,not_or] at nd na nb
  obtain ⟨⟨n1,n2,n3,n4⟩,⟨n5,n6,n7⟩,⟨n8,n9⟩,n10,_⟩:=nd
  obtain ⟨a1,a2,a3,a4⟩:=na
  obtain ⟨b1,b2,b3,b4⟩:=nb
  have hT:s.TypeIs (.ref z) "zip" := ⟨_,zz,rfl⟩
  have stop:∀ g e,(∃ o,g.get? e=some o∧o.cls=.type "StopIteration")→(∀ c o,c≠z→c≠to→c≠i→c≠j→s.heap.get? c=some o→g.get? c=some o)→
      wpAny (model prog w) A (isInstance (.ref e) (.type "StopIteration") >>= fun y=>if y=true then pure none else throw (.ref e)) Q E { s with heap:=g }:=fun g e ⟨o,ho,hc⟩ al=>by
    refine wpAny_bind <| wpAny_isInstance (T := "StopIteration") (b:=true) ⟨o,ho,hc⟩ isSubtype_stop ?_
    exact wpAny_pure (q g al)
  unfold pyNext
  refine wpAny_bind (wpAny_attempt (wpAny_callSpecial?_slot (name:=Str.ofString "__next__") hT F.slot_zip_next (wpAny_call_entry F.slot_zip_next hT F.entry_zip_next ?_ (F.args_zip_next_1 _))))
  refine wpAny_bind (m:=field (.ref z) 2) (wpAny_field zz rfl (x:=.bool false) rfl ?_)
  refine wpAny_bind (m:=field (.ref z) 3) (wpAny_field zz rfl (x:=.ref ti) rfl (wpAny_bind (wpAny_seqItems zt rfl (wpAny_bind (m:=Builtin.SmallTypes.ownedTupleIsFree (.ref z)) ?_))))
  delta Builtin.SmallTypes.ownedTupleIsFree
  refine wpAny_bind (wpAny_field zz rfl (x:=.none) rfl (wpAny_pure ?_))
  simp only[if_true]
  refine wpAny_bind (wpAny_rule (wpAny_bind (wpAny_field zz rfl (x:=.ref to) rfl (wpAny_bind (wpAny_setField_rec zz (by simp) fun g1 zz1 k1=>wpAny_bind ?_)))))
  have zz1:PySem.IsZip g1 z ti to .ellipsis:=zz1
  simp only[List.zipIdx_nil,List.zipIdx_cons,List.forIn_nil,List.forIn_cons]
  have zi1:fR ta g1 i a k:=zi.at fun o e=>(k1.2 i (Ne.symm n3)).trans e
  have ha1:dZ ta g1 a xs:=ha.at fun o e=>(k1.2 a a1).trans e
  refine wpAny_bind (wpAny_bind (wpAny_onRaise (wpAny_bind (m:=Builtin.SmallTypes.nextOf (.ref i)) ?_)))
  cases hx:xs[k]? with
  | none=>
    refine we (s:={ s with heap:=g1 }) hh zi1 ha1 hx fun g2 e k2 he2=>?_
    obtain ⟨oe,ge,ce⟩:=he2
    have zz2:PySem.IsZip g2 z ti to .ellipsis:=k2 z _ n3 zz1
    have ez:e≠z:=fun y=>by subst y;rw[zz2] at ge;cases ge;simp at ce
    refine wpAny_setField_rec zz2 (by simp) fun g3 _ k3=>stop g3 e ⟨oe,(k3.2 e ez).trans ge,ce⟩ fun c o c1 _ c3 _ y=>(k3.2 c c1).trans (k2 c o c3 ((k1.2 c c1).trans y))
  | some x=>
    have hy:ys[k]? = none:=by rcases he with h | h;rw[hx] at h;cases h;exact h
    refine mK (s:={ s with heap:=g1 }) zi1 ha1 hx fun g2 zi2 k2=>wpAny_pure ?_
    have zo2:PySem.IsPair g2 to u v:=(k2.2 to n8).trans ((k1.2 to (Ne.symm n2)).trans zo)
    refine wpAny_bind (wpAny_seqItems zo2 rfl (wpAny_bind (PySem.wpAny_updateSeq_pair zo2 fun g3 zo3 k3=>wpAny_bind (wpAny_letGo (wpAny_pure ?_)))))
    refine wpAny_bind (wpAny_bind (wpAny_onRaise (wpAny_bind (m:=Builtin.SmallTypes.nextOf (.ref j)) (we (s:={ s with heap:=g3 }) hh (zj.at fun o e=>(k3.2 j (Ne.symm n9)).trans ((k2.2 j (Ne.symm n10)).trans ((k1.2 j (Ne.symm n4)).trans e)))
      (hb.at fun o e=>(k3.2 b b2).trans ((k2.2 b b3).trans ((k1.2 b b1).trans e))) hy fun g4 e k4 he4=>?_))))
    obtain ⟨oe,ge,ce⟩:=he4
    have zz4:PySem.IsZip g4 z ti to .ellipsis:=k4 z _ n4 ((k3.2 z n2).trans ((k2.2 z n3).trans zz1))
    have ez:e≠z:=fun y=>by subst y;rw[zz4] at ge;cases ge;simp at ce
    refine wpAny_setField_rec zz4 (by simp) fun g5 _ k5=>stop g5 e ⟨oe,(k5.2 e ez).trans ge,ce⟩ fun c o c1 c2 c3 c4 y=>(k5.2 c c1).trans (k4 c o c4 ((k3.2 c c2).trans ((k2.2 c c3).trans ((k1.2 c c1).trans y))))
abbrev itO (tp:Bool)(a:Addr):Obj:={ cls:=.type (match tp with | true => "tuple_iterator" | false => "list_iterator"),data:=.fields #[.ref a,.int 0 0] }
theorem EH {tp:Bool}{a:Addr}{xs:Array Value}{Q:Value→Shared→Prop}(h:dZ tp s.heap a xs)(q:Q (.ref s.heap.objs.size) { s with heap:=s.heap.push (itO tp a) }):wpAny (model prog w) A (pyIter (.ref a)) Q E s:=by
  cases tp with
  | true=>exact wpAny_pyIter_tuple h q
  | false=>exact wpAny_pyIter_list h q
abbrev zg1 (ta:Bool)(h:Heap)(a:Addr):Heap:=h.push (itO ta a)
abbrev zg2 (ta tb:Bool)(h:Heap)(a b:Addr):Heap:=(zg1 ta h a).push (itO tb b)
abbrev zg3 (ta tb:Bool)(h:Heap)(a b:Addr):Heap:=(zg2 ta tb h a b).push { cls:=.type "tuple", data:=.seq #[.ref h.objs.size,.ref (zg1 ta h a).objs.size] }
abbrev zg4 (ta tb:Bool)(h:Heap)(a b:Addr):Heap:=(zg3 ta tb h a b).push { cls:=.type "tuple", data:=.seq #[.none,.none] }
abbrev zg5 (ta tb:Bool)(h:Heap)(a b:Addr):Heap:=(zg4 ta tb h a b).push { cls:=.type "zip", data:=.fields #[.none,.bool false,.bool false,.ref (zg2 ta tb h a b).objs.size,.ref (zg3 ta tb h a b).objs.size] }
theorem Cb (ta tb:Bool)(a b:Addr)(xs ys:Array Value):Meets (Builtin.«zip.__new__» ⟨[.type "zip", .ref a,.ref b],[]⟩) (fun _ R s=>dZ ta s.heap a xs∧dZ tb s.heap b ys∧R (.ok (.ret (.ref (zg4 ta tb s.heap a b).objs.size))) { s with heap:=zg5 ta tb s.heap a b }):=
  .of_wp fun prog w A R s h=>by
    rcases s with ⟨hp,g,d,tk,os⟩
    obtain ⟨h1,h2,h⟩:=h
    have hs0:=PySem.sub_zip
    have H1:dZ ta (Shared.heap ⟨hp,g,d,tk,os⟩) a xs:=h1
    have H2:dZ tb (Shared.heap ⟨hp.push (itO ta a),g,d,tk,os⟩) b ys:=dZ.at h2 fun o e=>Heap.get?_push_of_some _ e
    wp_walk using EH H1,EH H2
    exact ⟨_,rfl,h⟩
theorem As {ta tb:Bool}{a b:Addr}{xs ys:Array Value}{Q:Value→Shared→Prop}(h1:dZ ta s.heap a xs)(h2:dZ tb s.heap b ys)
    (q:∀ g,ZAt ta tb g (s.heap.objs.size+4) (s.heap.objs.size+2) (s.heap.objs.size+3) s.heap.objs.size (s.heap.objs.size+1) a b 0→(∀ c o,s.heap.get? c=some o→g.get? c=some o)→Q (.ref (s.heap.objs.size+4)) { s with heap:=g }) :
    wpAny (model prog w) A (call (.type "zip") [.ref a,.ref b]) Q E s:=by
  refine callType_new F.called_zip (by decide) (F.typeCall_zip_2 _ _) (F.newCall_zip_2 _ _) (fun obj=>F.args_object_init_3 obj _ _) F.entry_zip_new (Cb ta tb a b xs ys) ⟨h1,h2,?_⟩
  have s1:(zg1 ta s.heap a).objs.size=s.heap.objs.size+1:=Heap.size_push ..
  have s2:(zg2 ta tb s.heap a b).objs.size=s.heap.objs.size+2:=by rw[Heap.size_push,s1]
  have s3:(zg3 ta tb s.heap a b).objs.size=s.heap.objs.size+3:=by rw[Heap.size_push,s2]
  have s4:(zg4 ta tb s.heap a b).objs.size=s.heap.objs.size+4:=by rw[Heap.size_push,s3]
  have p5:(zg5 ta tb s.heap a b).get? (zg4 ta tb s.heap a b).objs.size=some _:=Heap.get?_push_size _ rfl
  have p4:(zg5 ta tb s.heap a b).get? (zg3 ta tb s.heap a b).objs.size=some _:=Heap.get?_push_of_some _ (Heap.get?_push_size _ rfl)
  have p3:(zg5 ta tb s.heap a b).get? (zg2 ta tb s.heap a b).objs.size=some _:=Heap.get?_push_of_some _ (Heap.get?_push_of_some _ (Heap.get?_push_size _ rfl))
  have p2:(zg5 ta tb s.heap a b).get? (zg1 ta s.heap a).objs.size=some (itO tb b):=Heap.get?_push_of_some _ (Heap.get?_push_of_some _ (Heap.get?_push_of_some _ (Heap.get?_push_size _ rfl)))
  have p1:(zg5 ta tb s.heap a b).get? s.heap.objs.size=some (itO ta a):=Heap.get?_push_of_some _ (Heap.get?_push_of_some _ (Heap.get?_push_of_some _ (Heap.get?_push_of_some _ (Heap.get?_push_size _ rfl))))
  have i1:fR ta (zg5 ta tb s.heap a b) s.heap.objs.size a 0:=by cases ta<;>exact ⟨_,p1,rfl,rfl⟩
  have i2:fR tb (zg5 ta tb s.heap a b) (zg1 ta s.heap a).objs.size b 0:=by cases tb<;>exact ⟨_,p2,rfl,rfl⟩
  show _∧_
  rw[s2,s3,s4] at p5
  rw[s1,s2] at p3
  rw[s3] at p4
  rw[s1] at i2
  rw[s4]
  exact ⟨⟨_,p5,rfl⟩,q _ ⟨p5,p3,⟨_,_,p4⟩,i1,i2⟩ fun c o x=>Heap.get?_push_of_some _ (Heap.get?_push_of_some _ (Heap.get?_push_of_some _ (Heap.get?_push_of_some _ (Heap.get?_push_of_some _ x))))⟩
end
def Sq (tp:Bool)(K:PySem.W.Frag)(H:Hp)(a:Addr)(xs:List V):Prop:=match tp with
  | true=>SqT K H a xs
  | false=>SqF K H a xs
theorem Inv.sq {X:Cx}{pins:List (Addr×Obj)}{σ:L2.St}{H:Hp}{s:Shared}{tp:Bool}{a:Addr}{xs:List V}(I:Inv X pins σ H s)(h:Sq tp X.K H a xs):∃ its:List Value,Vals xs its∧dZ tp s.heap a its.toArray:=by
  cases tp with
  | true=>obtain ⟨its,r,p,_⟩:=I.tuple h;exact ⟨its,r,p⟩
  | false=>
    obtain ⟨its,r,⟨o,n,e1,e2,_,e3⟩,_⟩:=I.list (SqF.sq h)
    exact ⟨its,r,o,e1,e2,n,e3⟩
theorem Inv.xt {X:Cx}{pins:List (Addr×Obj)}{σ:L2.St}{H:Hp}{s:Shared}{tp:Bool}{a:Addr}{xs ys:List V}(I:Inv X pins σ H s)(h:Sq tp X.K H a xs)(h':Sq tp X.K H a ys):xs=ys:=by
  cases tp with
  | true=>exact I.rq h h'
  | false=>exact I.uQ (SqF.sq h) (SqF.sq h')
def Itz (ta tb:Bool)(K:PySem.W.Frag)(a b:Addr):It:=
  ⟨fun i H=>∃ xs ys x y,Sq ta K H a xs∧Sq tb K H b ys∧xs[i]? = some x∧ys[i]? = some y,
   fun i H v H'=>∃ x y p,(∀ xs,Sq ta K H a xs→xs[i]? = some x)∧(∀ ys,Sq tb K H b ys→ys[i]? = some y)∧v=.ref p∧H p=none∧H'=L2.upd H p (.tup [x,y]),
   fun i H=>∃ xs ys,Sq ta K H a xs∧Sq tb K H b ys∧(xs.length≤i∨ys.length≤i)⟩
theorem Ce {P:Program}{w:World}{K:PySem.W.Frag}{es:List Expr}{ek:Nat}{ep:Pos}{ta tb:Bool}{z ti to i j a b:Addr}(Z:Zp z ti to i j a b) :
    Turn P w K (.Tuple es ek ep) (Itz ta tb K a b) [z,ti,to,i,j] z (fun k h=>ZAt ta tb h z ti to i j a b k) where
  mem:=by simp
  obj:=fun k h S c hc=>by
    obtain ⟨zz,zt,⟨u,v,zo⟩,zi,zj⟩:=S
    simp only[List.mem_cons,List.not_mem_nil,or_false] at hc
    rcases hc with rfl | rfl | rfl | rfl | rfl
    · exact ⟨_,zz,fun v y=>by cases y⟩
    · exact ⟨_,zt,fun v y=>by cases y⟩
    · exact ⟨_,zo,fun v y=>by cases y⟩
    · obtain ⟨o,e,vs,d⟩:=zi.ex;exact ⟨o,e,fun v y=>by rw[d] at y;cases y⟩
    · obtain ⟨o,e,vs,d⟩:=zj.ex;exact ⟨o,e,fun v y=>by rw[d] at y;cases y⟩
  keep:=fun k h g S kp=>by
    obtain ⟨zz,zt,⟨u,v,zo⟩,zi,zj⟩:=S
    exact ⟨kp z (by simp) _ zz,kp ti (by simp) _ zt,⟨u,v,kp to (by simp) _ zo⟩,zi.at fun o e=>kp i (by simp) o e,zj.at fun o e=>kp j (by simp) o e⟩
  item:=by
    intro X hP hw hK hc k pins s σ H E I hf S hg
    subst hP hw hK
    obtain ⟨xs,ys,x,y,qa,qb,ex,ey⟩:=hg
    obtain ⟨ia,ra,sa⟩:=Inv.sq I qa
    obtain ⟨ib,rb,sb⟩:=Inv.sq I qb
    obtain ⟨ux,hux,rx⟩:=ra.get ex
    obtain ⟨uy,huy,ry⟩:=rb.get ey
    refine Aw Z S sa sb (x:=ux) (y:=uy) (by simpa using hux) (by simpa using huy) fun g zz zt zo zi zj new al=>⟨_,rfl,wpAny_letOwnedTupleGo_zip zz fun g2 zz2 k2=>?_⟩
    have nd:=Z.nd
    simp only[List.nodup_cons,List.mem_cons,List.not_mem_nil,or_false,not_or] at nd
    obtain ⟨⟨n1,n2,n3,n4⟩,_⟩:=nd
    have zlt:z < s.heap.objs.size:=Heap.lt_size S.zz
    have fr:H s.heap.objs.size=none:=I.hok.fresh (Nat.le_refl _)
    have new2:PySem.IsPair g2 s.heap.objs.size ux uy:=(k2.2 _ (Nat.ne_of_gt zlt)).trans new
    have all:∀ c o,c ∉ [z,ti,to,i,j]→s.heap.get? c=some o→g2.get? c=some o:=fun c o hc e=>by
      simp only[List.mem_cons,List.not_mem_nil,or_false,not_or] at hc
      exact (k2.2 c hc.1).trans (al c o hc.1 hc.2.2.1 hc.2.2.2.1 hc.2.2.2.2 e)
    have nfp:∀ c u,H c=some u→c ∉ [z,ti,to,i,j]:=fun c u e hc=>by rw[(hf c hc).1] at e;cases e
    refine ⟨.ref s.heap.objs.size,L2.upd H s.heap.objs.size (.tup [x,y]),?_,rfl,⟨x,y,_,fun xs' q=>by rw[Inv.xt I q qa];exact ex,fun ys' q=>by rw[Inv.xt I q qb];exact ey,rfl,fr,rfl⟩,⟨zz2,(k2.2 ti (Ne.symm n1)).trans zt,⟨_,_,(k2.2 to (Ne.symm n2)).trans zo⟩,zi.at fun o e=>(k2.2 i (Ne.symm n3)).trans e,zj.at fun o e=>(k2.2 j (Ne.symm n4)).trans e⟩,fun c hc=>?_⟩
    · refine L2.Inv.step (s:=s) (H:=H) (H':=L2.upd H s.heap.objs.size (.tup [x,y])) (g':=s.gens) (d':=s.drawn) (t':=s.toks) (h':=g2) (ch:=[z,ti,to,i,j]) I (fun c hc=>⟨(hf c hc).2.2.2.1,(hf c hc).2.1,(hf c hc).2.2.2.2.1,(hf c hc).2.2.2.2.2⟩) (fun c o _ _ hc e _=>all c o hc e) (fun c o _ _ hc e _=>⟨o.slots,all c o hc e⟩) (fun c o hc e n=>?_) (fun c o hc e=>⟨o,all c o hc e⟩)
        (fun c xs e=>?_) (fun c o u e=>?_) (fun c ps e=>⟨#[],?_⟩) (fun m hm=>?_) (fun c u e=>?_) I.bare
      · rw[aB (Nat.ne_of_lt (Heap.lt_size e))];exact n
      · rw[aB (aP e fr)];exact e
      · rw[aB (aP e fr)];exact e
      · rw[aB (aP e fr),e];simp
      · obtain ⟨o,es',ep',ho,r⟩:=hm
        exact ⟨o,es',ep',all _ o (fun hc=>(hf _ hc).2.1 rfl) ho,r⟩
      · by_cases hcT:c=s.heap.objs.size
        · subst hcT
          rw[aG] at e;cases e
          exact ⟨by show 2≤sizeLine;decide,[ux,uy],.cons rx (.cons ry .nil),⟨_,new2⟩⟩
        · rw[aB hcT] at e
          refine (I.hok c u e).lq (fun c' v hc' q=>all c' v ?_ q) (fun c' q=>by rw[aB (aP q fr)];exact q) fun c' xs q=>by rw[aB (aP q fr)];exact q
          rcases hc' with rfl | hc'
          · exact nfp _ _ e
          · exact nfp _ _ hc'
    · have hcl:c≠s.heap.objs.size:=by
        obtain ⟨zz,zt,⟨u,v,zo⟩,zi,zj⟩:=S
        simp only[List.mem_cons,List.not_mem_nil,or_false] at hc
        rcases hc with rfl | rfl | rfl | rfl | rfl
        · exact Nat.ne_of_lt (Heap.lt_size zz)
        · exact Nat.ne_of_lt (Heap.lt_size zt)
        · exact Nat.ne_of_lt (Heap.lt_size zo)
        · obtain ⟨o,e,_⟩:=zi.ex;exact Nat.ne_of_lt (Heap.lt_size e)
        · obtain ⟨o,e,_⟩:=zj.ex;exact Nat.ne_of_lt (Heap.lt_size e)
      rw[aB hcl];exact (hf c hc).1
  done:=by
    intro X hP hw hK hc k pins s σ H E I hf S hg
    subst hP hw hK
    obtain ⟨xs,ys,qa,qb,he⟩:=hg
    obtain ⟨ia,ra,sa⟩:=Inv.sq I qa
    obtain ⟨ib,rb,sb⟩:=Inv.sq I qb
    have la:=ra.length
    have lb:=rb.length
    refine D4 (I.ok.hd hc) Z S sa sb (he.imp (fun h=>by simp;omega) fun h=>by simp;omega) fun g al=>⟨rfl,?_⟩
    have all:∀ c o,c ∉ [z,ti,to,i,j]→s.heap.get? c=some o→g.get? c=some o:=fun c o hc e=>by
      simp only[List.mem_cons,List.not_mem_nil,or_false,not_or] at hc
      exact al c o hc.1 hc.2.2.1 hc.2.2.2.1 hc.2.2.2.2 e
    have nfp:∀ c u,H c=some u→c ∉ [z,ti,to,i,j]:=fun c u e hc=>by rw[(hf c hc).1] at e;cases e
    refine L2.Inv.step (s:=s) (H:=H) (H':=H) (g':=s.gens) (d':=s.drawn) (t':=s.toks) (h':=g) (ch:=[z,ti,to,i,j]) I (fun c hc=>⟨(hf c hc).2.2.2.1,(hf c hc).2.1,(hf c hc).2.2.2.2.1,(hf c hc).2.2.2.2.2⟩) (fun c o _ _ hc e _=>all c o hc e) (fun c o _ _ hc e _=>⟨o.slots,all c o hc e⟩) (fun c o hc e n=>n) (fun c o hc e=>⟨o,all c o hc e⟩)
      (fun c xs e=>e) (fun c o u e=>e) (fun c ps e=>⟨#[],by rw[e];simp⟩) (fun m hm=>?_) (fun c u e=>?_) I.bare
    · obtain ⟨o,es',ep',ho,r⟩:=hm
      exact ⟨o,es',ep',all _ o (fun hc=>(hf _ hc).2.1 rfl) ho,r⟩
    · refine (I.hok c u e).lq (fun c' v hc' q=>all c' v ?_ q) (fun c' q=>q) fun c' xs q=>q
      rcases hc' with rfl | hc'
      · exact nfp _ _ e
      · exact nfp _ _ hc'
  self:=fun _ _ _ _ _ S h=>wpAny_pyIter_zip S.zz h
theorem LB (n a b:Nat)(ha:a < n)(hb:b < n):Zp (n+4) (n+2) (n+3) n (n+1) a b:=by
  refine ⟨?_,?_,?_⟩
  · show ([n+4,n+2,n+3,n,n+1]:List Nat).Nodup
    simp only[List.nodup_cons,List.mem_cons,List.not_mem_nil,or_false,not_or,List.nodup_nil,and_true,not_false_eq_true]
    and_intros<;>omega
  · show a ∉ ([n+4,n+3,n,n+1]:List Nat)
    simp only[List.mem_cons,List.not_mem_nil,or_false,not_or]
    omega
  · show b ∉ ([n+4,n+3,n,n+1]:List Nat)
    simp only[List.mem_cons,List.not_mem_nil,or_false,not_or]
    omega
theorem GC (n c:Nat)(h:c∈([n+4,n+2,n+3,n,n+1]:List Nat)):n≤c:=by
  simp only[List.mem_cons,List.not_mem_nil,or_false] at h
  omega
section
variable {X:Cx} {ea eb:Expr} {es:List Expr} {ek:Nat} {ep p pos:Pos}
def kQ (tp:Bool)(x:D)(f:List D→Prop):Prop:=match tp,x with
  | true,.tup ds=>f ds
  | false,.ls ds=>f ds
  | _,_=>False
theorem xI {K:PySem.W.Frag}{H:Hp}{tp:Bool}{v:V}{x:D}{f:List D→Prop}(p:Dp K H v x)(h:kQ tp x f):∃ a xs ds,v=.ref a∧Sq tp K H a xs∧DpL K H xs ds∧f ds:=by
  cases tp with
  | true=>cases p with
    | @tup a xs ds q l=>exact ⟨a,xs,ds,rfl,q,l,h⟩
    | _=>exact False.elim h
  | false=>cases p with
    | @ls a xs ds q l=>exact ⟨a,xs,ds,rfl,q,l,h⟩
    | _=>exact False.elim h
theorem Tk.sq {K:PySem.W.Frag}{H H':Hp}{tp:Bool}{a:Addr}{xs:List V}(t:Tk H H')(h:Sq tp K H a xs):Sq tp K H' a xs:=by
  cases tp with
  | true=>exact t.sqT h
  | false=>exact t.sqF h
end
end
section
open PySem PySem.Spec PyProof.Rows L2
def kObj (x:D)(f:Addr→Prop):Prop:=match x with
  | .obj a=>f a
  | _=>False
theorem nu (a:Addr)(f):kObj (.obj a) f=f a:=rfl
section
variable {X:Cx} {o a b c e:Expr} {To Ta Tb Tc Te T T':ETr} {pos:Pos}
theorem LE.imp (h:LE X e T)(k:∀ ρ μ Q,T' ρ μ Q→T ρ μ Q):LE X e T':=by
  obtain ⟨t,p,s⟩:=h.ex
  exact ⟨t,p,fun σ H ρ μ Q Q' rl hh post=>s σ H ρ μ Q Q' rl (k _ _ _ hh) post⟩
theorem Lu {K:PySem.W.Frag}{H:Hp}{μ:Mu}{q:Addr}{u:HO}(m:bG K H μ)(t:Tk H (L2.upd H q u)):bG K (L2.upd H q u) (dn μ q):=fun z y ez=>by
  have zq:z≠q:=fun w=>by subst w;unfold dn at ez;rw[if_pos rfl] at ez;cases ez
  have ez':μ z=some y:=by unfold dn at ez;rw[if_neg zq] at ez;exact ez
  exact (m z _ ez').ne t zq
theorem kH {H:Hp}{q:Addr}{u:HO}{xs:List V}(ex:H q=some (.lst xs)):Tk H (L2.upd H q u):=
  .upd (fun ys z=>by rw[ex] at z;cases z) fun o' w z=>by rw[ex] at z;cases z
theorem GP {K:PySem.W.Frag}{H:Hp}{μ:Mu}{q:Addr}{xs ys:List V}{ds:List D}(m:bG K H μ)(ex:H q=some (.lst xs))(l:DpL K H ys ds):bG K (L2.upd H q (.lst ys)) (up μ q (.lst ds)):=fun z y ez=>by
  by_cases zq:z=q
  · subst zq
    rw[aD] at ez;cases ez
    exact ⟨ys,aG,l.mono (kH ex)⟩
  · rw[aU zq] at ez
    exact (m z _ ez).ne (kH ex) zq
def xW (T:ETr):ETr:=fun ρ μ Q=>T ρ μ fun x μ1=>kObj x fun a=>kL μ1 a fun ds=>Q (.ls ds) (dn μ1 a)
theorem C8 (h:LE X e T):LE X e (xW T):=by
  obtain ⟨t,p,s⟩:=h.ex
  refine ⟨_,jI p,fun σ H ρ μ Q Q' rl h k=>s σ H ρ μ _ _ rl h fun v H1 d μ1 t1 m1 p1 h1=>?_⟩
  cases p1 with
  | obj q=>
    obtain ⟨ds,e0,h2⟩:=bV h1
    obtain ⟨xs,ex,l⟩:=m1 q _ e0
    refine ⟨q,xs,rfl,ex,fun u=>?_⟩
    have t2:Tk H1 (L2.upd H1 q (.frz u (.lst xs))):=kH ex
    exact k _ _ _ (dn μ1 q) (t1.trans t2) (Lu m1 t2) (.ls (.inl ⟨u,aG⟩) (l.mono t2)) h2
  | _=>exact False.elim h1
def l8 (To Te:ETr):ETr:=fun ρ μ Q=>To ρ μ fun x μ1=>kObj x fun a=>kL μ1 a fun _=>Te ρ μ1 fun y μ2=>kL μ2 a fun ds=>ds.length < 1000000∧Q .non (up μ2 a (.lst (ds++[y])))
theorem le_app {apos cpos:Pos}(ho:LE X o To)(he:LE X e Te)
    (hbase:attributeBase o (Str.ofString "append") X.env (eval o X.env)=eval o X.env:=by rfl)
    (hfew:((backTo cpos (starEach [e] X.env)).all (fun x=>!x.1)&&(backToKw cpos (keywordEach [] X.env)).all (fun x=>x.1.isSome)
      && decide ([e].length+([]:List Keyword).length+(if ([]:List Keyword).isEmpty then 0 else 1) < 30))=true:=by rfl)
    (hline:(apos.endLine == cpos.line)=true:=by rfl) (hs:starEach [e] X.env=(false,eval e X.env)::starEach [] X.env:=by rfl) (hplain:(backTo cpos (starEach [] X.env)).any (·.1)=false:=by rfl) :
    LE X (.Call (.Attribute o (Str.ofString "append") apos) [e] [] cpos) (l8 To Te):=by
  obtain ⟨to,po,so⟩:=ho.ex
  obtain ⟨te,pe,se⟩:=he.ex
  refine ⟨_,BP PySem.F.plainAttrs_list PySem.F.slot_list_append PySem.F.type_list_append kU po (eW pe lu hs) hbase hfew hline hs hplain,fun σ H ρ μ Q Q' rl h k=>so σ H ρ μ _ _ rl h fun x H1 dx μ1 t1 m1 p1 h1=>?_⟩
  cases p1 with
  | obj q=>
    obtain ⟨ds0,e0,h2⟩:=bV h1
    obtain ⟨xs0,ex0,_⟩:=m1 q _ e0
    refine ⟨.inl ⟨rfl,_,SqL.of ex0⟩,se σ H1 ρ μ1 _ _ (rl.go t1 m1) h2 fun y H2 dy μ2 t2 m2 p2 h3=>?_⟩
    obtain ⟨ds,e1,lz,h4⟩:=bV h3
    obtain ⟨xs,ex,l⟩:=m2 q _ e1
    exact ⟨q,xs,y,rfl,rfl,ex,by rw[l.length];exact Nat.lt_of_lt_of_le lz (by decide),k _ _ _ _ ((t1.trans t2).trans (kH ex)) (GP m2 ex (l.append (.cons p2 .nil))) .non h4⟩
  | _=>exact False.elim h1
def cP:FSp:=fun ds μ Q=>match ds with
  | [.tup xs]=>Q (.tup xs) μ
  | [.ls xs]=>Q (.tup xs) μ
  | [.obj a]=>kL μ a fun xs=>Q (.tup xs) μ
  | _=>False
theorem cY {K:PySem.W.Frag}:md K (fun xs H Q=>∃ p ys,xs=[.ref p]∧((SqL K H p ys∧∀ l,H l=none→Q (.ref l) (L2.upd H l (.tup ys)))∨(SqT K H p ys∧Q (.ref p) H))) cP:=fun H μ xs ds Q Q' m p h k=>by
  unfold cP at h
  split at h
  · cases p with | cons p1 p2=>cases p2;cases p1 with | tup q l=>exact ⟨_,_,rfl,.inr ⟨q,k _ H _ μ (.refl H) m (.tup q l) h⟩⟩
  · cases p with | cons p1 p2=>cases p2;cases p1 with | ls q l=>exact ⟨_,_,rfl,.inl ⟨q.sq,fun z hz=>k _ _ _ μ (.new hz) (cR m hz) (.tup (SqT.of aG) (l.mono (.new hz))) h⟩⟩
  · rename_i q
    cases p with | cons p1 p2=>
    cases p2;cases p1
    obtain ⟨ys,e0,h⟩:=bV h
    obtain ⟨xs,ex,l⟩:=m q _ e0
    exact ⟨_,_,rfl,.inl ⟨SqL.of ex,fun z hz=>k _ _ _ μ (.new hz) (cR m hz) (.tup (SqT.of aG) (l.mono (.new hz))) h⟩⟩
  · exact False.elim h
def yj:FSp:=fun ds μ Q=>match ds with
  | [.tup xs]=>∀ p,μ p=none→Q (.obj p) (up μ p (.lst xs))
  | [.ls xs]=>∀ p,μ p=none→Q (.obj p) (up μ p (.lst xs))
  | [.obj a]=>kL μ a fun xs=>∀ p,μ p=none→Q (.obj p) (up μ p (.lst xs))
  | _=>False
def iw:FSp:=fun ds μ Q=>match ds with
  | [.tup xs]=>Q (.ls xs) μ
  | [.ls xs]=>Q (.ls xs) μ
  | [.obj a]=>kL μ a fun xs=>Q (.ls xs) μ
  | _=>False
def HH (Q:VK):VK:=fun v H1=>∃ a xs,v=.ref a∧H1 a=some (.lst xs)∧∀ o,Q v (L2.upd H1 a (.frz o (.lst xs)))
theorem iV {K:PySem.W.Frag}{H:Hp}{μ:Mu}{ys:List V}{ds:List D}{Q:DK}{Q':VK}{z:Addr}(m:bG K H μ)(l:DpL K H ys ds)(h:Q (.ls ds) μ)(k:iq K H Q Q')(hz:H z=none):HH Q' (.ref z) (L2.upd H z (.lst ys)):=
  ⟨z,ys,rfl,aG,fun o=>by
    have e:L2.upd (L2.upd H z (.lst ys)) z (.frz o (.lst ys))=L2.upd H z (.frz o (.lst ys)):=sL
    rw[e]
    exact k _ _ _ μ (.new hz) (cR m hz) (.ls (.inl ⟨o,aG⟩) (l.mono (.new hz))) h⟩
theorem Ae {K:PySem.W.Frag}:md K (fun xs H Q=>∃ p ys,xs=[.ref p]∧(SqL K H p ys∨SqT K H p ys)∧∀ l,H l=none→HH Q (.ref l) (L2.upd H l (.lst ys))) iw:=fun H μ xs ds Q Q' m p h k=>by
  unfold iw at h
  split at h
  · cases p with | cons p1 p2=>cases p2;cases p1 with | tup q l=>exact ⟨_,_,rfl,.inr q,fun z hz=>iV m l h k hz⟩
  · cases p with | cons p1 p2=>cases p2;cases p1 with | ls q l=>exact ⟨_,_,rfl,.inl q.sq,fun z hz=>iV m l h k hz⟩
  · rename_i q
    cases p with | cons p1 p2=>
    cases p2;cases p1
    obtain ⟨ys,e0,h⟩:=bV h
    obtain ⟨xs,ex,l⟩:=m q _ e0
    exact ⟨_,_,rfl,.inl (SqL.of ex),fun z hz=>iV m l h k hz⟩
  · exact False.elim h
theorem D3 {x:Str}{p:Pos}{At:ATr}(hx:x = "list")(hg:Gl X x)(hm:X.mg x=none)(hv:bootBuiltins x=some (.type "list"))(ha:LA X [e] At)(hn:x ≠ "__name__" := by decide)(hdb:(x == ("__debug__" : Str))=false:=by decide)
    (h1:starEach [e] X.env=(false,eval e X.env)::starEach [] X.env:=by rfl) (h2:(backTo pos (starEach [] X.env)).any (·.1)=false:=by rfl):LE X (.Call (.Name x p) [e] [] pos) (au iw At):=by
  obtain ⟨ta,pa,sa⟩:=ha.ex
  exact ⟨_,jI (rg ud hg hm hv pa hn hdb h1 h2),fun σ H ρ μ Q Q' rl h k=>sa σ H ρ μ _ _ rl h fun xs H1 ds μ1 t1 m1 p1 h1=>Ae H1 μ1 xs ds Q Q' m1 p1 h1 (k.go t1)⟩
def gN:D→Bool
  | .non=>true
  | .bl _=>true
  | .int _=>true
  | .str _=>true
  | _=>false
def inD (x:D)(xs:List D):Bool:=xs.any fun y=>eqD y x
def rIn (neg:Bool):DR2:=fun x y μ Q=>match y with
  | .tup xs=>(gN x=true∧xs.all gN=true)∧Q (.bl (if neg then !inD x xs else inD x xs)) μ
  | .ls xs=>(gN x=true∧xs.all gN=true)∧Q (.bl (if neg then !inD x xs else inD x xs)) μ
  | .obj a=>kL μ a fun xs=>(gN x=true∧xs.all gN=true)∧Q (.bl (if neg then !inD x xs else inD x xs)) μ
  | _=>False
end
end
section
open PySem PySem.Spec PyProof.Rows L2
section
variable {X:Cx} {a b e:Expr} {Ta Tb T:ETr} {pos:Pos}
def LY (t:TE):TE:=fun σ H Q=>t σ H fun v H1=>Q v H1∨HH Q v H1
theorem zK {t:TE}(h:PE X e t):PE X e (LY t):=by
  have g:PE X e (fun σ H Q=>∃ P:VK,A1 t σ H P∧∀ v H',P v H'→Q v H'):=fun pins s σ H Q I ⟨P,hP,k⟩=>
    thn (jI h pins s σ H P I hP) fun u s1 ⟨v,H1,I1,r,q⟩=>⟨v,H1,I1,r,k _ _ q⟩
  intro pins s σ H Q I hh
  refine thn (h pins s σ H _ I hh) fun u s1 ⟨v,H1,I1,r,q⟩=>?_
  rcases q with q | ⟨c,xs,rfl,ec,q⟩
  · exact ⟨v,H1,I1,r,q⟩
  · have hz:=I1.hok c _ ec
    obtain ⟨z,its,n,rv,hg⟩:=hz
    have nl:∀ d o,H1 d=some o→(∀ ys,o≠.lst ys)→d≠c:=fun d o e1 e2 w=>by subst w;rw[ec] at e1;cases e1;exact e2 _ rfl
    refine ⟨.ref c,_,I1.un (h':=s1.heap) (t':=s1.toks) (H':=L2.upd H1 c (.frz { cls:=.type "list", data:=.seq its.toArray n } (.lst xs))) ⟨fun d o e _ _ _=>e,fun d o e _ _ _=>⟨o.slots,e⟩,fun d o e w _=>?_,fun d o e _=>⟨o,e⟩,fun d ys e=>?_,fun d o u e=>?_,fun d ps e=>⟨#[],?_⟩⟩ (fun d u e=>?_),r,q _⟩
    · rw[aB (fun z=>by subst z;rw[ec] at w;cases w)];exact w
    · rw[aB (nl d _ e (fun _=>nofun))];exact e
    · rw[aB (nl d _ e (fun _=>nofun))];exact e
    · rw[aB (nl d _ e (fun _=>nofun)),e];simp
    · by_cases hd:d=c
      · subst hd
        rw[aG] at e;cases e
        exact ⟨hg,z,its,n,rv,hg⟩
      · rw[aB hd] at e
        refine (I1.hok d u e).lq (fun k w _ q=>q) (fun k q=>?_) fun k ys q=>?_
        · rw[aB (nl k _ q (fun _=>nofun))];exact q
        · rw[aB (nl k _ q (fun _=>nofun))];exact q
def G0 (K:PySem.W.Frag):R2:=fun x y H Q=>∃ p q ys,x=.ref p∧y=.ref q∧SqT K H p []∧SqT K H q ys∧Q (.ref q) H
theorem FL:OpR X (binaryOp .Add) (G0 X.K):=fun pins s σ H x y v u Q I rx ry ⟨p,q,ys,e1,e2,hp,hq,h⟩=>by
  subst e1 e2
  cases rx
  cases ry
  obtain ⟨its,r1,p1,_⟩:=I.tuple hp
  obtain ⟨its2,r2,p2,_⟩:=I.tuple hq
  cases r1
  obtain ⟨⟨c1,d1,t1,l1⟩,ho,hc,n,hd⟩:=id p1
  obtain ⟨⟨c2,d2,t2,l2⟩,ho2,hc2,n2,hd2⟩:=id p2
  simp only at hc hd hc2 hd2
  subst hc hd hc2 hd2
  exact concat_meets ⟨_,ho,rfl⟩ ⟨_,ho2,rfl⟩ noFill_tuple_add seq_tuple_add PySem.F.slot_tuple_add PySem.F.entry_tuple_add (PySem.F.args_tuple_add_2 _ _)
    (tuple_addW0 p q #[] its2.toArray n n2 d1 d2 l1 l2 rfl) ⟨ho,ho2,⟨.ref q,H,I,rfl,h⟩⟩
def GF (K:PySem.W.Frag):R2:=fun x y H Q=>∃ p q xs ys,x=.ref p∧y=.ref q∧SqL K H p xs∧SqL K H q ys∧xs.length+ys.length≤sizeLine∧∀ z,H z=none→Q (.ref z) (L2.upd H z (.lst (xs++ys)))
theorem FR:OpR X (binaryOp .Add) (GF X.K):=fun pins s σ H x y v u Q I rx ry ⟨p,q,xs,ys,e1,e2,hp,hq,hz,h⟩=>by
  subst e1 e2
  cases rx
  cases ry
  obtain ⟨its,r1,p1,_⟩:=I.list hp
  obtain ⟨its2,r2,p2,_⟩:=I.list hq
  obtain ⟨⟨c1,d1,t1,l1⟩,n,ho,hc,hx,hd⟩:=id p1
  obtain ⟨⟨c2,d2,t2,l2⟩,n2,ho2,hc2,hx2,hd2⟩:=id p2
  simp only at hc hd hc2 hd2
  subst hc hd hc2 hd2
  have z1:=r1.length
  have z2:=r2.length
  refine concat_meets ⟨_,ho,rfl⟩ ⟨_,ho2,rfl⟩ PySem.noFill_list_add PySem.seq_list_add PySem.F.slot_list_add PySem.F.entry_list_add (PySem.F.args_list_add_2 _ _)
    (list_addW p q its.toArray its2.toArray n n2 d1 d2 l1 l2 (by rw[List.size_toArray,List.size_toArray];omega)) ⟨ho,ho2,?_⟩
  have ea:its.toArray++its2.toArray=(its++its2).toArray:=by simp
  rw[ea]
  exact ⟨.ref _,_,I.MG (t':=s.toks) (r1.append r2) (by rw[List.length_append];omega),rfl,h _ I.fresh⟩
def aM:DR2:=fun x y μ Q=>match x,y with
  | .int i,.int j=>Q (.int (i+j)) μ
  | .str i,.str j=>i.length+j.length≤1000000∧Q (.str (i++j)) μ
  | .tup a,.tup b=>a.length+b.length≤1000000∧Q (.tup (a++b)) μ
  | .ls a,.ls b=>a.length+b.length≤1000000∧Q (.ls (a++b)) μ
  | _,_=>False
def rPl (K:PySem.W.Frag):R2:=fun x y H Q=>(rI0 fun i j=>.int (i+j)) x y H Q∨(∃ i j,x=.str i∧y=.str j∧i.length+j.length≤sizeLine∧Q (.str (i++j)) H)∨GW K x y H Q∨G0 K x y H Q∨GF K x y H Q
theorem Fq:OpR X (binaryOp .Add) (rPl X.K):=fun pins s σ H x y v u Q I rx ry h=>by
  rcases h with h | h | h | h | h
  · exact Ib pins s σ H x y v u Q I rx ry h
  · exact xR pins s σ H x y v u Q I rx ry h
  · exact Fg pins s σ H x y v u Q I rx ry h
  · exact FL pins s σ H x y v u Q I rx ry h
  · exact FR pins s σ H x y v u Q I rx ry h
theorem aJ (ha:LE X a Ta)(hb:LE X b Tb):LE X (.BinOp a .Add b pos) (aj aM Ta Tb):=by
  obtain ⟨ta,pa,sa⟩:=ha.ex
  obtain ⟨tb,pb,sb⟩:=hb.ex
  refine ⟨_,zK (Ha Fq pa pb),fun σ H ρ μ Q Q' rl h k=>sa σ H ρ μ _ _ rl h fun x H1 dx μ1 t1 m1 p1 h1=>sb σ H1 ρ μ1 _ _ (rl.go t1 m1) h1 fun y H2 dy μ2 t2 m2 p2 h2=>?_⟩
  have p1:=p1.mono t2
  have k:=k.go (t1.trans t2)
  cases p1 with
  | int i=>
    cases p2 with
    | int j=>exact .inl ⟨i,j,rfl,rfl,.inl (k _ H2 _ μ2 (.refl H2) m2 (.int _) h2)⟩
    | _=>exact False.elim h2
  | str i=>
    cases p2 with
    | str j=>exact .inr (.inl ⟨i,j,rfl,rfl,big h2.1,.inl (k _ H2 _ μ2 (.refl H2) m2 (.str _) h2.2)⟩)
    | _=>exact False.elim h2
  | @tup q xs ds sq l=>
    cases p2 with
    | @tup q' ys es sq' l'=>
      obtain ⟨hz,h3⟩:=h2
      by_cases hx:xs=[]
      · subst hx
        cases l
        exact .inr (.inr (.inr (.inl ⟨q,q',ys,rfl,rfl,sq,sq',.inl (k _ H2 _ μ2 (.refl H2) m2 (.tup sq' l') h3)⟩)))
      · refine .inr (.inr (.inl ⟨q,q',xs,ys,rfl,rfl,sq,sq',hx,by rw[l.length,l'.length];exact big hz,fun hy=>?_,fun _ z hzn=>.inl ?_⟩))
        · subst hy
          cases l'
          rw[List.append_nil] at h3
          exact .inl (k _ H2 _ μ2 (.refl H2) m2 (.tup sq l) h3)
        · exact k _ _ _ μ2 (.new hzn) (cR m2 hzn) (.tup (SqT.of aG) ((l.append l').mono (.new hzn))) h3
    | _=>exact False.elim h2
  | @ls q xs ds sq l=>
    cases p2 with
    | @ls q' ys es sq' l'=>exact .inr (.inr (.inr (.inr ⟨q,q',xs,ys,rfl,rfl,sq.sq,sq'.sq,by rw[l.length,l'.length];exact big h2.1,fun z hz=>.inr (iV m2 (l.append l') h2.2 k hz)⟩)))
    | _=>exact False.elim h2
  | _=>cases p2<;>exact False.elim h2
abbrev OTr:=ST→Mu→(Option Int→Mu→Prop)→Prop
def ONo:OTr:=fun _ μ Q=>Q none μ
def xU (T:ETr):OTr:=fun ρ μ Q=>T ρ μ fun x μ1=>kI x fun i=>Q (some i) μ1
def Mk (K:PySem.W.Frag)(t:TO)(T:OTr):Prop:=∀ σ H ρ μ (Q:Option Int→Mu→Prop) (Q':Option Int→Hp→Prop),Rl K σ H ρ μ→T ρ μ Q→(∀ i H' μ',Tk H H'→bG K H' μ'→Q i μ'→Q' i H')→t σ H Q'
structure LO (X:Cx) (o:Option Expr) (T:OTr):Prop where
  ex:∃ t,PO X o t∧Mk X.K t T
theorem G7:LO X none ONo:=⟨_,FV,fun σ H ρ μ Q Q' rl h k=>k none H μ (.refl H) rl.mu h⟩
theorem CY (h:LE X e T):LO X (some e) (xU T):=by
  obtain ⟨t,p,s⟩:=h.ex
  refine ⟨_,FC p,fun σ H ρ μ Q Q' rl h k=>s σ H ρ μ _ _ rl h fun v H1 d μ1 t1 m1 p1 h1=>?_⟩
  cases p1 with
  | int i=>exact ⟨i,rfl,k _ H1 μ1 t1 m1 h1⟩
  | _=>exact False.elim h1
def cutD {α:Type}(xs:List α)(lo hi:Option Int):List α:=(xs.drop (HT.sIx xs.length 0 lo)).take (HT.sIx xs.length xs.length hi - HT.sIx xs.length 0 lo)
theorem xh {α:Type}{xs:List α}{lo hi:Option Int}(h:HT.sIx xs.length 0 lo=0∧HT.sIx xs.length xs.length hi=xs.length):cutD xs lo hi=xs:=by
  unfold cutD;rw[h.1,h.2];simp
theorem DpL.take {K:PySem.W.Frag}{H:Hp}:∀ {vs:List V} {ds:List D} (n:Nat),DpL K H vs ds→DpL K H (vs.take n) (ds.take n)
  | _,_,0,_=>.nil
  | _,_,_+1,.nil=>.nil
  | _,_,n+1,.cons h l=>.cons h (DpL.take n l)
theorem DpL.drop {K:PySem.W.Frag}{H:Hp}:∀ {vs:List V} {ds:List D} (n:Nat),DpL K H vs ds→DpL K H (vs.drop n) (ds.drop n)
  | _,_,0,l=>l
  | _,_,_+1,.nil=>.nil
  | _,_,n+1,.cons _ l=>DpL.drop n l
theorem DpL.cut {K:PySem.W.Frag}{H:Hp}{vs:List V}{ds:List D}(lo hi:Option Int)(l:DpL K H vs ds):DpL K H (vE vs lo hi) (cutD ds lo hi):=by
  unfold vE cutD;rw[l.length];exact (l.drop _).take _
theorem uS {prog:Program}{w:World}{A:Around}{E:Value→Shared→Prop}{s:Shared}{t sl:Addr}{items:Array Value}{vl vu:Value}{lo hi:Option Int}{Q:Value→Shared→Prop}(ht:IsTup s.heap t items)(hs:s.heap.IsSliceOf sl vl vu .none)(pl:IsPart vl lo)(pu:IsPart vu hi)
    (hw:HT.sIx items.size 0 lo=0∧HT.sIx items.size items.size hi=items.size) (h:Q (.ref t) s):wpAny (model prog w) A (getItem (.ref t) (.ref sl)) Q E s:=by
  obtain ⟨os,hos,hcs,hds⟩:=id hs
  have hTs:s.TypeIs (.ref sl) "slice" := ⟨os,hos,hcs⟩
  unfold getItem
  try with_reducible refine wpAny_holding ?_
  first | refine wpAny_bind (wpAny_pure ?_) | skip
  refine wpAny_bind (wpAny_sequenceKey ht.typeIs (by decide) ?_)
  refine wpAny_bind (wpAny_callSpecial?_slot (name:=Str.ofString "__getitem__") ht.typeIs PyProof.Rows.slot_tuple_getitem (wpAny_call_entry PyProof.Rows.slot_tuple_getitem ht.typeIs entry_tuple_getitem ?_ (args_tuple_getitem _ _)))
  show wpAny _ _ (Builtin.Tuple.tupleItemsOf (.ref t) >>= _) _ _ s
  refine wpAny_bind (tupleItemsOf_ ht ?_)
  refine wpAny_bind <| wpAny_typeOf hTs ?_
  rw[if_pos (by decide)]
  refine wpAny_bind (HT.fQ hs pl pu ?_)
  rw[hw.1,hw.2]
  refine (show wpAny _ _ (if (((0:Nat):Int) == 0&&(1:Int) == 1&&(items.size - 0) == items.size)=true then _ else _) _ _ s from ?_)
  rw[if_pos (by simp)]
  unfold Builtin.Tuple.tupleIsExact
  refine wpAny_bind (wpAny_bind (wpAny_typeOf ht.typeIs (wpAny_pure ?_)))
  rw[if_pos (by decide)]
  first
    | exact wpAny_bind (wpAny_rule (wpAny_bind (wpAny_pure (wpAny_pure ⟨_,rfl,wpAny_pure h⟩))))
    | exact wpAny_bind (wpAny_rule (wpAny_pure ⟨_,rfl,wpAny_pure h⟩))
    | exact wpAny_bind (wpAny_bind (wpAny_rule (wpAny_pure (wpAny_pure ⟨_,rfl,wpAny_pure h⟩))))
def MF (K:PySem.W.Frag):V→Option Int→Option Int→Hp→VK→Prop:=fun x lo hi H Q=>∃ a xs,x=.ref a∧SqT K H a xs∧(HT.sIx xs.length 0 lo=0∧HT.sIx xs.length xs.length hi=xs.length)∧Q (.ref a) H
theorem DI:SlR X (MF X.K):=fun pins s σ H x v vl vu lo hi sl Q I rx hs pl pu ⟨q,xs,e,hx,hw,h⟩=>by
  subst e
  cases rx
  obtain ⟨its,r,ht,_⟩:=I.tuple hx
  have hlen:its.toArray.size=xs.length:=by rw[List.size_toArray];exact r.length.symm
  exact ⟨"tuple", _,PyProof.Rows.slot_tuple_getitem.lookup,ht.typeIs,uS ht hs pl pu (by rw[hlen];exact hw) ⟨.ref q,H,I,rfl,h⟩⟩
def rSl:D→Option Int→Option Int→Mu→DK→Prop:=fun x lo hi μ Q=>match x with
  | .tup xs=>Q (.tup (cutD xs lo hi)) μ
  | .ls xs=>Q (.ls (cutD xs lo hi)) μ
  | .obj a=>kL μ a fun xs=>Q (.ls (cutD xs lo hi)) μ
  | _=>False
def TSl (a:ETr)(lo hi:OTr):ETr:=fun ρ μ Q=>a ρ μ fun x μ1=>lo ρ μ1 fun l μ2=>hi ρ μ2 fun h μ3=>rSl x l h μ3 Q
theorem Gz {lo hi:Option Expr}{Tl Th:OTr}{p2:Pos}(ha:LE X a Ta)(hl:LO X lo Tl)(hh:LO X hi Th):LE X (.Subscript a (.Slice lo hi none p2) pos) (TSl Ta Tl Th):=by
  obtain ⟨ta,pa,sa⟩:=ha.ex
  obtain ⟨tl,pl,sl⟩:=hl.ex
  obtain ⟨th,ph,sh⟩:=hh.ex
  refine ⟨_,zK (A3 (SlR.or DI (SlR.or I0 F2)) pa pl ph),fun σ H ρ μ Q Q' rl h k=>sa σ H ρ μ _ _ rl h fun x H1 dx μ1 t1 m1 p1 h1=>sl σ H1 ρ μ1 _ _ (rl.go t1 m1) h1 fun i H2 μ2 t2 m2 h2=>sh σ H2 ρ μ2 _ _ (rl.go (t1.trans t2) m2) h2 fun j H3 μ3 t3 m3 h3=>?_⟩
  have p1:=p1.mono (t2.trans t3)
  have k:=k.go (t1.trans (t2.trans t3))
  cases p1 with
  | @tup q xs ds sq l=>
    by_cases hw:HT.sIx xs.length 0 i=0∧HT.sIx xs.length xs.length j=xs.length
    · refine .inl ⟨q,xs,rfl,sq,hw,.inl (k _ H3 _ μ3 (.refl H3) m3 (.tup sq l) ?_)⟩
      rw[l.length] at hw
      have h3:Q (.tup (cutD ds i j)) μ3:=h3
      rw[xh hw] at h3;exact h3
    · exact .inr (.inl ⟨q,xs,rfl,sq,hw,fun z hz=>.inl (k _ _ _ μ3 (.new hz) (cR m3 hz) (.tup (SqT.of aG) ((l.cut i j).mono (.new hz))) h3)⟩)
  | @ls q xs ds sq l=>exact .inr (.inr ⟨q,xs,rfl,sq.sq,fun z hz=>.inr (iV m3 (l.cut i j) h3 k hz)⟩)
  | obj q=>
    obtain ⟨ds,e0,h4⟩:=bV h3
    obtain ⟨xs,ex,l⟩:=m3 q _ e0
    exact .inr (.inr ⟨q,xs,rfl,SqL.of ex,fun z hz=>.inr (iV m3 (l.cut i j) h4 k hz)⟩)
  | _=>exact False.elim h3
theorem F5 {α:Type}(xs:List α)(k:Nat):cutD xs none (some (k:Int))=xs.take k:=by
  unfold cutD
  rw[HT.D6,HT.Er,List.drop_zero,Nat.sub_zero]
  rcases Nat.le_total k xs.length with h | h
  · rw[Nat.min_eq_left h]
  · rw[Nat.min_eq_right h,List.take_length,List.take_of_length_le h]
end
end
section
open PySem PySem.Spec PyProof.Rows L2
end
section
open PySem PySem.Spec PyProof.Rows L2
theorem _root_.L2.Inv.frz {X:Cx}{pins:List (Addr×Obj)}{σ:L2.St}{H:Hp}{s:Shared}{c:Addr}{xs:List V}(I1:Inv X pins σ H s)(ec:H c=some (.lst xs)):∃ o,Inv X pins σ (L2.upd H c (.frz o (.lst xs))) s:=by
  obtain ⟨z,its,n,rv,hg⟩:=I1.hok c _ ec
  have nl:∀ d o,H d=some o→(∀ ys,o≠.lst ys)→d≠c:=fun d o e1 e2 w=>by subst w;rw[ec] at e1;cases e1;exact e2 _ rfl
  refine ⟨_,I1.un (h':=s.heap) (t':=s.toks) (H':=L2.upd H c (.frz { cls:=.type "list", data:=.seq its.toArray n } (.lst xs))) ⟨fun d o e _ _ _=>e,fun d o e _ _ _=>⟨o.slots,e⟩,fun d o e w _=>?_,fun d o e _=>⟨o,e⟩,fun d ys e=>?_,fun d o u e=>?_,fun d ps e=>⟨#[],?_⟩⟩ (fun d u e=>?_)⟩
  · rw[aB (fun z=>by subst z;rw[ec] at w;cases w)];exact w
  · rw[aB (nl d _ e (fun _=>nofun))];exact e
  · rw[aB (nl d _ e (fun _=>nofun))];exact e
  · rw[aB (nl d _ e (fun _=>nofun)),e];simp
  · by_cases hd:d=c
    · subst hd
      rw[aG] at e;cases e
      exact ⟨hg,z,its,n,rv,hg⟩
    · rw[aB hd] at e
      refine (I1.hok d u e).lq (fun k w _ q=>q) (fun k q=>?_) fun k ys q=>?_
      · rw[aB (nl k _ q (fun _=>nofun))];exact q
      · rw[aB (nl k _ q (fun _=>nofun))];exact q
theorem yO {X:Cx}{tg iter elt:Expr}{ifs:List Expr}{scope:Scope}{pos spos py:Pos}{y:Str}{iy:Nat}{wi:TI}{g:TG}{tt:TT}{te:TE}{Nc:List Str}{n:Nat}{caps:List Nat}
    (hxe:X.xe=fun _ _=>False) (hcalm:X.calm=true) (hi:PI X tg iter wi)
    (hbody:∀ (cl:List (Str×Addr)) (C:Addr) (s₀:Shared) (H₀:Hp) (ex:List Addr),PG (aZ X scope Nc cl C s₀ H₀ ex) tg g∧C5 (aZ X scope Nc cl C s₀ H₀ ex) ifs tt∧PE (aZ X scope Nc cl C s₀ H₀ ex) elt te)
    (hfree:∀ y∈scope.names,y.2=.free→X.env.kindOf y.1=some .cell) (hcell:∀ y∈scope.names,y.2≠.cell) (ig:scope.kind=.function)
    (hnames:∀ y∈scope.names,y.2=.local→scope.names.lookup y.1=some .local) (hlen:Nc.length=n+caps.length)
    (hcap:∀ (j k:Nat),caps[j]? = some k→∃ x,Nc[n+j]? = some x∧X.N[k]? = some x∧scope.names.lookup x=some .free)
    (pgy:PG X (.Name y py) (rf iy))
    (hsw:swapsWith (.ListComp elt [⟨tg,iter,ifs,0⟩] scope pos) (some (.Name y py)) spos.line X.env=pure true)
    (hs:∀ x,foldedSetIterable iter X.env x=pure x:=by intro _;rfl) :
    PS X (.Assign [.Name y py] (.ListComp elt [⟨tg,iter,ifs,0⟩] scope pos) spos) (JE (A1 (zd wi g tt te n caps)) (rf iy)):=by
  intro pins s σ H E' I h
  rw[hxe]
  obtain ⟨cl,hclos,clin,clfree⟩:=nI (scope:=scope) (env:=X.env) fun y hy hf=>I.ok.has y.1 (.inl (hfree y hy hf))
  rewrite [exec_Assign_Name_used _ _ _ _ hsw]
  refine wpAny_bind (wpAny_standAt ?_)
  refine wpAny_bind ?_
  refine (show wpAny _ X.A (do let _ ← comprehension (.ListComp elt [⟨tg,iter,ifs,0⟩] scope pos) scope X.env _ (newList []) false (eval iter X.env) (some (assign (.Name y py) X.env))) _ _ s from ?_)
  refine wpAny_bind (wpAny_mono (wpAny_comprehension_free (use:=some (assign (.Name y py) X.env)) (Q:=fun _ s'=>SP X pins E' .next s') rfl hs hclos ig hnames ?_) (fun _ s' hq=>wpAny_pure (wpAny_pure hq)) fun _ _ e=>e)
  have hi':=hi pins s σ H _ I h
  rw[hxe] at hi'
  refine wpAny_mono hi' (fun xv s1 h1=>wpAny_mono h1 (fun itv s2 h2=>?_) fun _ _ z=>z) fun _ _ z=>z
  obtain ⟨it,fp,tn,J,H1,rfl,I2,T,st2,f2,hh⟩:=h2
  -- the new list
  refine wpAny_newObj_type ?_
  have hD:H1 s2.heap.objs.size=none:=I2.hok.fresh (Nat.le_refl _)
  obtain ⟨W,⟨m0,w0⟩,turn⟩:=hh _ hD
  have I3:Inv X pins σ (L2.upd H1 s2.heap.objs.size (.lst [])) { s2 with heap:=s2.heap.push { cls:=.type "list", dict:=none,data:=.seq ([]:List Value).toArray } }:=
    I2.laid (t':=s2.toks) (fun b u e=>Heap.get?_push_of_some _ e) (Nat.le_refl _) ⟨Nat.zero_le _,[],0,.nil,Heap.get?_push_size _ rfl⟩
  have k3:∀ b u,s2.heap.get? b=some u→(s2.heap.push { cls:=.type "list", dict:=none,data:=.seq ([]:List Value).toArray }).get? b=some u:=fun b u e=>Heap.get?_push_of_some _ e
  have fne:∀ b∈fp,b≠s2.heap.objs.size:=fun b hb=>by
    obtain ⟨o,ho,_⟩:=T.obj 0 _ st2 b hb
    exact Nat.ne_of_lt (Heap.lt_size ho)
  generalize eD:s2.heap.objs.size=D at *
  generalize eh3:s2.heap.push { cls:=.type "list", dict:=none,data:=.seq ([]:List Value).toArray }=h3 at *
  generalize eH3:L2.upd H1 D (.lst [])=H3 at *
  have st3:tn 0 h3:=T.keep 0 _ _ st2 fun b hb o e=>k3 b o e
  have f3:∀ b∈fp,oV X pins H3 b:=fun b hb=>⟨by rw[← eH3,aB (fne b hb)];exact (f2 b hb).1,(f2 b hb).2⟩
  have lt3:∀ b∈fp,b < h3.objs.size:=fun b hb=>by
    obtain ⟨o,ho,_⟩:=T.obj 0 _ st3 b hb
    exact Heap.lt_size ho
  generalize es3:({ s2 with heap:=h3 }:Shared)=s3 at *
  have hs3:s3.heap=h3:=by rw[← es3]
  refine wpAny_newFunctionEnv hcell (fun y hy=>(by cases hy)) (fun h4 hns hsb=>?_) ig
  show codeAny _ _ (.compStart _ 0 (.ref it) (.ref D) (compEnvC scope cl s3.heap.objs.size X.env)) (compPost _ _ _ _ _ (.ref D) s3.heap.objs.size) _
  have k4:∀ b u,s3.heap.get? b=some u→h4.get? b=some u:=fun b u e=>hsb.extBut b u (Nat.ne_of_lt (Heap.lt_size e)) (Heap.get?_push_of_some _ e)
  have okY:(aZ X scope Nc cl s3.heap.objs.size s3 H3 fp).Ok:=by
    refine ⟨I3.ok.mod,ig,I3.ok.glob,I3.ok.blt,Nat.le_refl _,fun x y c e1 e2=>I3.ok.inj x y c (clin _ _ e1) (clin _ _ e2),fun x hx=>?_,fun x c hf=>(by cases hf),I3.ok.hd,I3.ok.frames,.inl rfl,fun b hb=>⟨?_,fun x c e z=>?_⟩,I3.bs,Nat.le_trans I3.ok.bsz I3.sz,fun b o e hb=>?_,fun b hb hz=>?_,I3.stack,I3.sM⟩
    · have hx':(relabel scope X.env).names.lookup x=some .cell∨(relabel scope X.env).names.lookup x=some .free:=hx
      have hm:(x,NameKind.free)∈scope.names:=by
        rcases hx' with q | q
        · exact e9 hcell (.inl rfl) (PySem.mem_of_lookup q)
        · exact e9 hcell (.inr rfl) (PySem.mem_of_lookup q)
      exact clfree _ hm rfl
    · show b≠s3.heap.objs.size
      rw[hs3];exact Nat.ne_of_lt (lt3 b hb)
    · exact (f3 b hb).2.2.2.2.1 x c (clin _ _ e) z
    · rcases (f3 b hb).2.2.2.1 with z | z
      · exact I3.ok.Am b o e z
      · exact absurd (Nat.lt_of_lt_of_le (Heap.lt_size e) (Nat.le_trans I3.ok.bsz z)) (Nat.lt_irrefl _)
    · rcases List.mem_cons.mp (I3.tT b hz) with z | z
      · exact (f3 b hb).2.1 z
      · exact (f3 b hb).2.2.1 z
  have BG:∀ c v,s3.heap.IsCell c v→h4.IsCell c v:=fun c v ⟨o,ho,hd⟩=>⟨o,k4 c o ho,hd⟩
  have J0:Inv (aZ X scope Nc cl s3.heap.objs.size s3 H3 fp) [] (fS σ n caps) H3 { s3 with heap:=h4,toks:=s3.toks+([]:List (Str×Value)).length }:=by
    refine ⟨okY,rfl,I3.bare,Un.kept k4,⟨_,hns,fun i x v e1 e2 e3=>?_⟩,fun x c e=>?_,I3.hok.fresh (Nat.le_refl _),fun x c e=>I3.gJ x c (clin _ _ e),(fun p hp=>(by cases hp)),I3.hok.kept k4,?_⟩
    · obtain ⟨j,k,rfl,ej,ek⟩:=gZ e2
      obtain ⟨x',n1,n2,n3⟩:=hcap j k ej
      have e1':Nc[n+j]? = some x:=e1
      rw[n1] at e1';cases e1'
      have hmem:(x,NameKind.free)∈scope.names:=PySem.mem_of_lookup n3
      have hcellx:X.env.kindOf x=some .cell:=hfree _ hmem rfl
      obtain ⟨m,hn,hl⟩:=I3.loc
      obtain ⟨u,ru,lk⟩:=hl k x v n2 ek (.inr (.inl hcellx))
      refine ⟨u,ru,.inr ⟨.inl (cF I3.ok.kind hcellx n3),?_⟩⟩
      rcases lk with ⟨q,_⟩ | ⟨_,c,ec,ic⟩
      · rw[hcellx] at q;cases q
      · obtain ⟨c',ec'⟩:=clfree _ hmem rfl
        have:=clin _ _ ec'
        rw[ec] at this;cases this
        exact ⟨c,ec',BG _ _ ic⟩
    · obtain ⟨v,q⟩:=I3.cell x c (clin _ _ e)
      exact ⟨v,BG _ _ q⟩
    · unfold fS
      show _=Nc.length
      rw[List.length_append,List.length_replicate,List.length_map,hlen]
  obtain ⟨pg,pifs,pelt⟩:=hbody cl s3.heap.objs.size s3 H3 fp
  generalize eY:aZ X scope Nc cl s3.heap.objs.size s3 H3 fp=Y at *
  have yP:Y.prog=X.prog:=by rw[← eY];rfl
  have yw:Y.w=X.w:=by rw[← eY];rfl
  have yK:Y.K=X.K:=by rw[← eY];rfl
  have yA:Y.A=X.A:=by rw[← eY];rfl
  have yx:Y.xe=fun _ _=>False:=by rw[← eY];exact hxe
  have yc:Y.calm=true:=by rw[← eY];exact hcalm
  have ye:Y.env=compEnvC scope cl s3.heap.objs.size X.env:=by rw[← eY];rfl
  have yfs:Y.fs=frs X.stack:=by rw[← eY];rfl
  have yex:Y.ex=fp:=by rw[← eY];rfl
  have ys0:Y.s₀=s3:=by rw[← eY];rfl
  have yH0:Y.H₀=H3:=by rw[← eY];rfl
  have ypn:Y.pn=[]:=by rw[← eY];rfl
  have ou:∀ {H':Hp},(∀ b∈fp,H' b=none)→∀ b∈fp,oV Y [] H' b:=fun hn b hb=>⟨hn b hb,by rw[ye];show b≠s3.heap.objs.size;rw[hs3];exact Nat.ne_of_lt (lt3 b hb),okY.Ad b (by rw[yex];exact hb),.inl (by rw[yex];exact hb),
    fun x c e=>by rw[ye] at e;exact (f3 b hb).2.2.2.2.1 x c (clin _ _ e),fun p hp=>by rw[ypn] at hp;exact nomatch hp⟩
  have tn4:∀ t,tn 0 ({ s3 with heap:=h4,toks:=t }:Shared).heap:=fun t=>T.keep 0 _ _ st3 fun b hb o e=>k4 b o (by rw[hs3];exact e)
  -- the end
  have fin:∀ (s5:Shared) (H5:Hp),Inv Y [] (fS σ n caps) H5 s5→(∃ a xs,V.ref D=V.ref a∧H5 a=some (.lst xs)∧∀ o,rf iy (.ref D) σ (L2.upd H5 a (.frz o (.lst xs))) E'.nx)→
      compPost (model X.prog X.w) X.A (fun _ _=>False) (some (assign (.Name y py) X.env)) (fun _ s'=>SP X pins E' .next s') (.ref D) s3.heap.objs.size (.ok .next) s5:=fun s5 H5 I5 q5=>by
    obtain ⟨m,hn,_⟩:=I5.loc
    rw[ye] at hn
    have nC:∀ b o,s3.heap.get? b=some o→b≠s3.heap.objs.size:=fun b o e=>Nat.ne_of_lt (Heap.lt_size e)
    have un:=I5.base
    rw[yfs,yex,yH0,ys0] at un
    have hfreeC0:=I5.free
    rw[ye] at hfreeC0
    have hfreeC:H5 s3.heap.objs.size=none:=hfreeC0
    have hok5:=I5.hok
    rw[yP,yw] at hok5
    have I5X:Inv X pins σ H5 s5:=I3.Ds (ch:=fp) (s':=s5) (by have:=I5.os;rw[ys0] at this;exact this) un hok5 I5.bare fun b hb=>⟨(f3 b hb).2.2.2.1,(f3 b hb).2.1,(f3 b hb).2.2.2.2.1,(f3 b hb).2.2.2.2.2⟩
    obtain ⟨a,xs,ea,eH,q⟩:=q5
    cases ea
    obtain ⟨o,I5F⟩:=I5X.frz eH
    have neD:s3.heap.objs.size≠D:=fun z=>by rw[z] at hfreeC;rw[hfreeC] at eH;cases eH
    have fC:oV X pins (L2.upd H5 D (.frz o (.lst xs))) s3.heap.objs.size:=I3.AR (Nat.le_refl _) (by rw[aB neD];exact hfreeC)
    obtain ⟨oC,gC,dC⟩:∃ oC,s5.heap.get? s3.heap.objs.size=some oC∧∀ v,oC.data≠.cell v:=by
      obtain ⟨oC,es,ep,ho,hd,_⟩:=hn
      exact ⟨oC,ho,fun v z=>by rw[hd] at z;cases z⟩
    have I5P:=I5F.pinned (fp:=[s3.heap.objs.size]) (fun b hb=>by cases List.mem_singleton.mp hb;exact fC) (fun b hb=>by cases List.mem_singleton.mp hb;exact ⟨oC,gC,dC⟩)
    have as:=pgy _ s5 σ _ (.ref D) (.ref D) E'.nx I5P rfl (q o)
    rw[hxe] at as
    refine thn as fun _ s6 ⟨σ6,H6,I6,n6⟩=>?_
    obtain ⟨g6,f6,_⟩:=I6.pin (s3.heap.objs.size,oC) (List.mem_append_right _ (List.mem_append_right _ (cQ List.mem_cons_self gC)))
    refine ⟨m,hn.at' (fun o' e'=>by have e'':s5.heap.get? s3.heap.objs.size=some o':=e';rw[gC] at e'';cases e'';exact g6),fun h7 hs7=>⟨σ6,H6,?_,n6⟩⟩
    have I6U:=I6.fV
    have keep:∀ b o',b≠s3.heap.objs.size→s6.heap.get? b=some o'→h7.get? b=some o':=fun b o' hb e'=>(hs7.2 b hb).trans e'
    refine I6U.Ds (ch:=[s3.heap.objs.size]) (s':={ s6 with heap:=h7 }) rfl ⟨fun b o' e' _ _ nx=>keep b o' (fun z=>nx (by rw[z];exact List.mem_cons_self)) e',fun b o' e' _ _ nx=>⟨o'.slots,keep b o' (fun z=>nx (by rw[z];exact List.mem_cons_self)) e'⟩,fun b o' _ w _=>w,fun b o' e' nx=>⟨o',keep b o' (fun z=>nx (by rw[z];exact List.mem_cons_self)) e'⟩,fun b ys e'=>e',fun b o' u e'=>e',fun b ps e'=>⟨#[],by simpa using e'⟩⟩ (fun b u e'=>?_) I6U.bare fun b hb=>?_
    · refine (I6U.hok b u e').lq (fun c w' hc q=>keep c w' ?_ q) (fun _ q=>q) fun _ _ q=>q
      rintro rfl
      rcases hc with z | z
      · rw[← z,f6] at e';cases e'
      · rw[f6] at z;cases z
    · cases List.mem_singleton.mp hb
      exact ⟨fC.2.2.2.1,fC.2.1,fC.2.2.2.2.1,fC.2.2.2.2.2⟩
  have loop:codeAny (model X.prog X.w) X.A (.compLoop (.ListComp elt [⟨tg,iter,ifs,0⟩] scope pos) 0 (.ref it) (.ref D) (compEnvC scope cl s3.heap.objs.size X.env)) (compPost (model X.prog X.w) X.A (fun _ _=>False) (some (assign (.Name y py) X.env)) (fun _ s'=>SP X pins E' .next s') (.ref D) s3.heap.objs.size)
      { s3 with heap:=h4,toks:=s3.toks+([]:List (Str×Value)).length }:=by
    refine qN (fun k s'=>∃ i ys H',Inv Y [] (fS σ n caps) H' s'∧tn i s'.heap∧(∀ b∈fp,H' b=none)∧W i k ys H') ?_ m0 ⟨0,[],H3,J0,tn4 _,fun b hb=>(f3 b hb).1,w0⟩
    rintro k s5 ⟨i,ys,H5,I5,st5,fr5,w5⟩
    rcases turn i k ys H5 w5 with ⟨stop,q⟩ | ⟨go,N,hN,step⟩
    · have d:=T.done Y yP yw yK yc i [] s5 _ H5 (fun _ _=>False) I5 (ou fr5) st5 stop
      rw[yA] at d
      refine thn d fun r s6 ⟨hr,I6⟩=>?_
      subst hr
      exact fin s6 H5 I6 q
    · have d:=T.item Y yP yw yK yc i [] s5 _ H5 (fun _ _=>False) I5 (ou fr5) st5 go
      rw[yA] at d
      refine thn d fun r s6 ⟨u,hr,h6⟩=>?_
      subst hr
      refine thn h6 fun _ s7 ⟨x,H7,I7,r7,y7,st7,fr7⟩=>?_
      have I7':=I7.pinned (ou fr7) (T.obj _ _ st7)
      have a:=pg _ s7 _ H7 x u _ I7' r7 (step x H7 y7)
      rw[yP,yw,yA,yx,ye] at a
      refine thn a fun _ s8 ⟨σ8,H8,I8,wk,q8⟩=>?_
      have b:=pifs _ s8 σ8 H8 _ I8 q8
      rw[yP,yw,yA,yx,ye] at b
      have again:∀ {s9:Shared} {ys9:List V} {H9:Hp},Inv Y ([]++k9 fp s7.heap) σ8 H9 s9→N ys9 H9→∃ m,m < k∧∃ i ys H',Inv Y [] (fS σ n caps) H' s9∧tn i s9.heap∧(∀ b∈fp,H' b=none)∧W i m ys H':=fun {s9 ys9 H9} I9 n9=>by
        obtain ⟨m',hm,w9⟩:=hN ys9 H9 n9
        have hp:∀ b∈fp,∀ o,s7.heap.get? b=some o→s9.heap.get? b=some o∧H9 b=none:=fun b hb o e=>
          ⟨(I9.pin (b,o) (List.mem_append_right _ (List.mem_append_right _ (cQ hb e)))).1,(I9.pin (b,o) (List.mem_append_right _ (List.mem_append_right _ (cQ hb e)))).2.1⟩
        refine ⟨m',hm,i+1,ys9,H9,I9.fV.weak wk.1 wk.2,T.keep _ _ _ st7 fun b hb o e=>(hp b hb o e).1,fun b hb=>?_,w9⟩
        obtain ⟨o,e,_⟩:=T.obj _ _ st7 b hb
        exact (hp b hb o e).2
      refine thn b fun ok s9 ⟨H9,I9,q9⟩=>?_
      cases ok with
      | false=>
        rw[if_neg Bool.false_ne_true] at q9 ⊢
        exact again I9 q9
      | true=>
        rw[if_pos rfl] at q9 ⊢
        have c:=pelt _ s9 σ8 H9 _ I9 q9
        rw[yP,yw,yA,yx,ye] at c
        refine thn c fun v s10 ⟨y,H10,I10,r10,zs,ez,lz,n10⟩=>?_
        have d:=kU (X:=Y) _ s10 σ8 H10 (.ref D) [y] (.ref D) [v] (fun _ H'=>N (zs++[y]) H') I10 rfl (.cons r10 .nil) ⟨D,zs,y,rfl,rfl,ez,lz,n10⟩
        rw[yP,yw,yA,yx] at d
        exact thn d fun _ s11 ⟨_,H11,I11,_,q11⟩=>again I11 q11
  refine codeAny_compStart_list loop ?_
  exact T.self X.A 0 _ _ _ (tn4 _) loop
theorem Cc {K:PySem.W.Frag}{wi:TI}{It':ATr}{G:GTr}{Tt:TTr}{Te:ETr}{n:Nat}{caps:List Nat}(si:K1 K wi It'):Sim K (A1 (zd wi (oG K n G) (liftT K Tt) (m4 K Te) n caps)) (bO It' G Tt Te n caps):=by
  intro σ H ρ μ Q Q' rl h k
  refine si σ H ρ μ _ _ rl h fun J H1 ds μ1 t1 m1 Y h1 D hD=>?_
  have hp:=h1 D (m1.free hD)
  have tD:Tk H1 (L2.upd H1 D (.lst [])):=.new hD
  have mD:bG K (L2.upd H1 D (.lst [])) (up μ1 D (.lst [])):=fun a o e=>by
    by_cases ha:a=D
    · subst ha
      rw[aD] at e;cases e
      exact ⟨[],aG,.nil⟩
    · rw[aU ha] at e
      exact cR m1 hD a o e
  refine ⟨fun i m ys H2=>m=ds.length - i∧i≤ds.length∧Tk H1 H2∧∃ μ2,bG K H2 μ2∧iD D G Tt Te (gU ρ n caps) (fun μ'=>kL μ' D fun zs=>Q (.ls zs) (dn μ' D)) (ds.drop i) μ2,
    ⟨ds.length,by simp,Nat.zero_le _,tD,_,mD,by simpa using hp⟩,?_⟩
  rintro i m ys H2 ⟨rfl,hi,t12,μ2,m2,h2⟩
  by_cases hlt:i < ds.length
  · refine .inr ⟨Y.go i H2 t12 hlt,fun ys' H'=>Tk H1 H'∧∃ μ',bG K H' μ'∧iD D G Tt Te (gU ρ n caps) (fun μ'=>kL μ' D fun zs=>Q (.ls zs) (dn μ' D)) (ds.drop (i+1)) μ',fun ys' H' ⟨t',μ',m',h'⟩=>⟨ds.length - (i+1),by omega,rfl,hlt,t',μ',m',h'⟩,fun x H3 y=>?_⟩
    obtain ⟨t23,⟨d,ed,pd⟩,mk⟩:=Y.yld i H2 x H3 t12 hlt y
    have e:ds.drop i=d::ds.drop (i+1):=by
      refine (List.drop_eq_getElem_cons hlt).trans ?_
      congr 1
      rw[List.getElem?_eq_getElem hlt] at ed
      exact Option.some.inj ed
    rw[e] at h2
    have t13:=t12.trans t23
    have r3:Rl K (fS σ n caps) H3 (gU ρ n caps) μ2:=sF (rl.go (t1.trans t13) (mk _ m2)) n caps
    refine ⟨_,_,d,_,r3,pd,h2,fun σ4 H4 ρ4 μ4 t4 r4 kp h4=>⟨⟨kp.1.symm,fun j v ej=>?_⟩,_,_,_,r4,h4,fun b H5 μ5 t5 m5 h5=>?_⟩⟩
    · by_cases hj:n≤j
      · rw[kp.2 j hj];exact ej
      · obtain ⟨j',k',e1,_⟩:=gZ ej
        omega
    · have t15:=t13.trans (t4.trans t5)
      cases b with
      | false=>exact sY ⟨t15,μ5,m5,h5⟩
      | true=>
        refine rW ⟨_,_,_,r4.go t5 m5,h5,fun v H6 d6 μ6 t6 m6 p6 h6=>?_⟩
        obtain ⟨zs,ez,lz,h7⟩:=bV h6
        obtain ⟨xs,ex,lx⟩:=m6 D _ ez
        have t67:Tk H6 (L2.upd H6 D (.lst (xs++[v]))):=.upd (fun ys z=>by rw[ex] at z;cases z) fun o' u z=>by rw[ex] at z;cases z
        refine ⟨xs,ex,by rw[lx.length];exact Nat.lt_of_lt_of_le lz (by decide),(t15.trans t6).trans t67,up μ6 D (.lst (zs++[d6])),fun a o ea=>?_,h7⟩
        by_cases ha:a=D
        · subst ha
          rw[aD] at ea;cases ea
          exact ⟨_,aG,(lx.append (.cons p6 .nil)).mono t67⟩
        · rw[aU ha] at ea
          exact (m6 a _ ea).ne t67 ha
  · have e:i=ds.length:=by omega
    subst e
    rw[List.drop_length] at h2
    obtain ⟨zs,ez,hq⟩:=bV (show kL μ2 D fun zs=>Q (.ls zs) (dn μ2 D) from h2)
    obtain ⟨xs,ex,lx⟩:=m2 D _ ez
    refine .inl ⟨Y.stop _ H2 t12 (Nat.le_refl _),D,xs,rfl,ex,fun o=>?_⟩
    have t2f:Tk H2 (L2.upd H2 D (.frz o (.lst xs))):=.upd (fun ys z=>by rw[ex] at z;cases z) fun o' u z=>by rw[ex] at z;cases z
    refine k _ _ _ (dn μ2 D) ((t1.trans t12).trans t2f) (fun a o' ea=>?_) (.ls (.inl ⟨o,aG⟩) (lx.mono t2f)) hq
    have ha:a≠D:=fun z=>by subst z;unfold dn at ea;rw[if_pos rfl] at ea;cases ea
    have ea':μ2 a=some o':=by unfold dn at ea;rw[if_neg ha] at ea;exact ea
    exact (m2 a _ ea').ne t2f ha
theorem jY {X:Cx}{tg elt iter:Expr}{Te:ETr}{Tt:TTr}{pos spos py:Pos}{y:Str}{It':ATr}{G:GTr}{ifs:List Expr}{scope fsc:Scope}(iy:Nat)(hN:X.N.Nodup)(XN Nc:List Str)(n:Nat)(caps:List Nat)(hxe:X.xe=fun _ _=>False)(hcalm:X.calm=true)(hi:LI X tg iter It')
    (hbody:∀ (cl:List (Str×Addr)) (C:Addr) (s₀:Shared) (H₀:Hp) (ex:List Addr),LGc (aZ X scope Nc cl C s₀ H₀ ex) n tg G∧wZ (aZ X scope Nc cl C s₀ H₀ ex) ifs Tt∧LE (aZ X scope Nc cl C s₀ H₀ ex) elt Te)
    (hsc:X.env.scope=fsc) (hXN:X.N=XN) (hok:iz fsc.names XN scope Nc n caps=true)
    (hiy:X.N[iy]? = some y:=by rfl) (hx:Loc X.env.scope y:=by first | exact Or.inl rfl | exact Or.inr rfl) (hf:X.fn y=true∨X.env.scope.names.lookup y=some .local:=by first | exact .inl rfl | exact .inr rfl | assumption)
    (hsw:swapsWith (.ListComp elt [⟨tg,iter,ifs,0⟩] scope pos) (some (.Name y py)) spos.line X.env=pure true:=by rfl)
    (hs:∀ x,foldedSetIterable iter X.env x=pure x:=by intro _;rfl) :
    LS X (.Assign [.Name y py] (.ListComp elt [⟨tg,iter,ifs,0⟩] scope pos) spos) (aL (bO It' G Tt Te n caps) (ax iy)):=by
  unfold iz at hok
  simp only[Bool.and_eq_true,List.all_eq_true] at hok
  obtain ⟨⟨⟨h1,h2⟩,h3⟩,h4⟩:=hok
  obtain ⟨wi,pi,si⟩:=hi.ex
  refine ⟨_,yO (g:=oG X.K n G) (tt:=liftT X.K Tt) (te:=m4 X.K Te) hxe hcalm pi (fun cl C s₀ H₀ ex=>let ⟨h1,h2,h3⟩:=hbody cl C s₀ H₀ ex;⟨h1.pe,h2.pe,h3.pe⟩) (fun y hy hf=>?_) (fun y hy hf=>?_) (by simpa using h2) (fun y hy hf=>?_) (by simpa using h3) (fun j k hj=>?_) (iN hN hiy hx hf) hsw hs,fun σ H ρ μ E E' rl h k=>Cc si σ H ρ μ _ _ rl h fun v H' d μ' t' m' p' h'=>iR iy σ H' ρ μ' v d _ _ (rl.go t' m') p' h' (k.go t').nx⟩
  · have:=(h1 y hy).1.1
    show X.env.scope.names.lookup y.1=_
    rw[hsc]
    simpa[hf] using this
  · have:=(h1 y hy).1.2
    simp[hf] at this
  · have:=(h1 y hy).2
    simpa[hf] using this
  · have hl:j < caps.length:=(List.getElem?_eq_some_iff.mp hj).1
    have:=h4 j (List.mem_range.mpr hl)
    rw[hj] at this
    dsimp only at this
    rw[hXN]
    cases e:XN[k]? with
    | none=>rw[e] at this;cases this
    | some x=>
      rw[e] at this
      dsimp only at this
      rw[Bool.and_eq_true] at this
      exact ⟨x,by simpa using this.1,rfl,by simpa using this.2⟩
end
section
open PySem PySem.Spec PyProof.Rows L2
section
variable {X:Cx} {ea:Expr} {es:List Expr} {ek:Nat} {ep p pos:Pos}
def jO (ds:List D):List D:=(List.range ds.length).zipWith (fun i d=>.tup [.int (i:Nat),d]) ds
def L1 (t:ATr):ATr:=fun ρ μ Q=>t ρ μ fun vs μ1=>match vs with
  | [.ls ds]=>Q (jO ds) μ1
  | _=>False
theorem rF (ds:List D)(i:Nat):(jO ds)[i]? = (ds[i]?).map fun d=>.tup [.int (i:Nat),d]:=by
  unfold jO
  rw[List.getElem?_zipWith]
  by_cases h:i < ds.length
  · rw[List.getElem?_range h,List.getElem?_eq_getElem h];rfl
  · rw[List.getElem?_eq_none_iff.mpr (by simpa using h),List.getElem?_eq_none_iff.mpr (by simpa using h)];rfl
theorem rE (ds:List D):(jO ds).length=ds.length:=by unfold jO;simp
variable {eb:Expr} {tg:Expr} {Ta Tb:ETr}
end
end
section
open PySem PySem.Spec PyProof PyProof.Rows L2
section
variable {X:Cx} {a b:Expr} {Ta Tb:ETr} {pos:Pos}
end
end
theorem tE (i j:Int)(μ Q):aM (.int i) (.int j) μ Q=Q (.int (i+j)) μ:=rfl
theorem sT (i j:Str)(μ Q):aM (.str i) (.str j) μ Q=(i.length+j.length≤1000000∧Q (.str (i++j)) μ):=rfl
theorem tW (a b:List D)(μ Q):aM (.tup a) (.tup b) μ Q=(a.length+b.length≤1000000∧Q (.tup (a++b)) μ):=rfl
theorem tq (a b:List D)(μ Q):aM (.ls a) (.ls b) μ Q=(a.length+b.length≤1000000∧Q (.ls (a++b)) μ):=rfl
theorem mR (a:List D)(μ Q):cP [.tup a] μ Q=Q (.tup a) μ:=rfl
theorem nV (a:List D)(μ Q):cP [.ls a] μ Q=Q (.tup a) μ:=rfl
theorem ow (a:Addr)(μ Q):cP [.obj a] μ Q=kL μ a fun xs=>Q (.tup xs) μ:=rfl
theorem oI (a:List D)(μ Q):iw [.tup a] μ Q=Q (.ls a) μ:=rfl
theorem nF (a:List D)(μ Q):iw [.ls a] μ Q=Q (.ls a) μ:=rfl
theorem o7 (a:Addr)(μ Q):iw [.obj a] μ Q=kL μ a fun xs=>Q (.ls xs) μ:=rfl
theorem nN (a:List D)(μ Q):yj [.tup a] μ Q = ∀ p,μ p=none→Q (.obj p) (up μ p (.lst a)):=rfl
theorem nr (a:List D)(μ Q):yj [.ls a] μ Q = ∀ p,μ p=none→Q (.obj p) (up μ p (.lst a)):=rfl
theorem m7 (a:Addr)(μ Q):yj [.obj a] μ Q=kL μ a fun xs=>∀ p,μ p=none→Q (.obj p) (up μ p (.lst xs)):=rfl
theorem DM (a:List D)(lo hi)(μ Q):rSl (.tup a) lo hi μ Q=Q (.tup (cutD a lo hi)) μ:=rfl
theorem DL (a:List D)(lo hi)(μ Q):rSl (.ls a) lo hi μ Q=Q (.ls (cutD a lo hi)) μ:=rfl
theorem DO (a:Addr)(lo hi)(μ Q):rSl (.obj a) lo hi μ Q=kL μ a fun xs=>Q (.ls (cutD xs lo hi)) μ:=rfl
theorem C6 (n:Bool)(x:D)(a:List D)(μ Q):L3.rIn n x (.tup a) μ Q=((gN x=true∧a.all gN=true)∧Q (.bl (if n then !inD x a else inD x a)) μ):=rfl
theorem AV (n:Bool)(x:D)(a:List D)(μ Q):L3.rIn n x (.ls a) μ Q=((gN x=true∧a.all gN=true)∧Q (.bl (if n then !inD x a else inD x a)) μ):=rfl
theorem Dh (n:Bool)(x:D)(a:Addr)(μ Q):L3.rIn n x (.obj a) μ Q=kL μ a fun xs=>(gN x=true∧xs.all gN=true)∧Q (.bl (if n then !inD x xs else inD x xs)) μ:=rfl
theorem xj (a:Addr)(μ Q):gn [.obj a] μ Q=kL μ a fun xs=>Q (.int xs.length) μ:=rfl
theorem xx (x:Str)(μ Q):gn [.str x] μ Q=(x.length≤1000000∧Q (.int x.length) μ):=rfl
theorem DC (μ Q):rIs .non .non μ Q=Q (.bl true) μ:=rfl
theorem Cu (i:Int)(μ Q):rIs (.int i) .non μ Q=Q (.bl false) μ:=rfl
theorem Dc (i:List D)(μ Q):rIs (.tup i) .non μ Q=Q (.bl false) μ:=rfl
theorem mU (μ Q):wo .non .non μ Q=Q (.bl false) μ:=rfl
theorem oJ (i:Int)(μ Q):wo (.int i) .non μ Q=Q (.bl true) μ:=rfl
theorem nA (i:List D)(μ Q):wo (.tup i) .non μ Q=Q (.bl true) μ:=rfl
theorem xQ (c:String)(i:List D)(μ Q):iY c (.ls i) μ Q=Q (.bl (dU "list" c)) μ:=rfl
theorem wJ (c:String)(i:Str)(μ Q):iY c (.str i) μ Q=Q (.bl (dU "str" c)) μ:=rfl
theorem xG (c:String)(μ Q):iY c .non μ Q=Q (.bl (dU "NoneType" c)) μ:=rfl
theorem ck (k:Nat)(ds:List D):atD ds (k:Int)=ds[k]?:=by
  unfold atD L2.atI L2.ixN
  rw[if_pos (Int.natCast_nonneg k)]
  by_cases h:k < ds.length
  · rw[if_pos (by omega)];simp
  · rw[if_neg (by omega)];simp;omega
theorem zy (ds:List D):atD ds 0=ds[0]?:=ck 0 ds
theorem zb (ds:List D):atD ds 1=ds[1]?:=ck 1 ds
theorem zF (ds:List D):atD ds 2=ds[2]?:=ck 2 ds
theorem zu (ds:List D):atD ds 3=ds[3]?:=ck 3 ds
theorem zY (ds:List D):atD ds 4=ds[4]?:=ck 4 ds
theorem zH (ds:List D):atD ds 5=ds[5]?:=ck 5 ds
theorem sk (n k:Nat):L2.ixN n (k:Int)=if k < n then some k else none:=by
  unfold L2.ixN
  rw[if_pos (Int.natCast_nonneg k)]
  by_cases h:k < n
  · rw[if_pos (by omega),if_pos h];simp
  · rw[if_neg (by omega),if_neg h]
theorem C0 (n:Nat):L2.ixN n 0=if 0 < n then some 0 else none:=sk n 0
theorem Df (n:Nat):L2.ixN n 1=if 1 < n then some 1 else none:=sk n 1
theorem D2 (n:Nat):L2.ixN n 2=if 2 < n then some 2 else none:=sk n 2
theorem jX:dU "int" "int" = true:=by decide
theorem km:dU "int" "bool" = false:=by decide
theorem jL:dU "bool" "bool" = true:=by decide
theorem jM:dU "bool" "int" = true:=by decide
theorem jW:dU "tuple" "tuple" = true:=by decide
theorem jK:dU "int" "tuple" = false:=by decide
theorem jZ:dU "bool" "tuple" = false:=by decide
theorem fm0 {a n:Int}(h:0 < n):0≤a.fmod n:=Int.fmod_nonneg_of_pos a h
theorem fm1 {a n:Int}(h:0 < n):a.fmod n < n:=Int.fmod_lt_of_pos a h
theorem CZ (A B:Prop):kIf true A B=A:=rfl
theorem Bz (A B:Prop):kIf false A B=B:=rfl
theorem CL (p:Prop) [Decidable p] (A B:Prop):kIf (decide p) A B=if p then A else B:=by by_cases h:p<;>simp[h,kIf]
theorem Bx (c:Bool)(A B:Prop):kIf (!c) A B=kIf c B A:=by cases c<;>rfl
theorem CK (c:Bool)(f):kB (.bl c) f=f c:=rfl
theorem wB (c:Int)(f):kI (.int c) f=f c:=rfl
theorem sX (c:D)(f):kO (some c) f=f c:=rfl
theorem xX (c:List D)(f):kS (.tup c) f=f c:=rfl
theorem BW (c:List D)(f):kS (.ls c) f=f c:=rfl
theorem yz (a b:D)(f):k2 [a,b] f=f a b:=rfl
theorem rR (c:Nat)(f):kN (some c) f=f c:=rfl
theorem zQ (μ:Mu)(a:Addr)(ds:List D)(f):kL (up μ a (.lst ds)) a f=f ds:=by unfold kL;rw[aD]
theorem G5 {μ:Mu}{a:Addr}{ds:List D}(h:μ a=some (.lst ds))(f):kL μ a f=f ds:=by unfold kL;rw[h]
theorem oo (a:Addr)(n:Int)(y:D)(μ:Mu)(f):KN (.obj a) (.int n) y μ f=kL μ a fun ds=>kN (L2.ixN ds.length n) fun j=>f (up μ a (.lst (ds.set j y))):=rfl
theorem xw (i j:Int)(μ Q):vD (.int i) (.int j) μ Q=Q (.int (i - j)) μ:=rfl
theorem xV (i j:Int)(μ Q):cg (.int i) (.int j) μ Q=(MulOk i j∧Q (.int (i*j)) μ):=rfl
theorem yn (i j:Int)(μ Q):kZ (.int i) (.int j) μ Q=(fX j∧Q (.int (i.fdiv j)) μ):=rfl
theorem yh (i j:Int)(μ Q):gR (.int i) (.int j) μ Q=(j≠0∧Q (.int (i.fmod j)) μ):=rfl
theorem xE (i j:Int)(μ Q):D8 (.int i) (.int j) μ Q=(rk i j∧Q (.int (i ^ j.toNat)) μ):=rfl
theorem xB (i:Int)(μ Q):wG (.int i) μ Q=Q (.int (-i)) μ:=rfl
theorem A5 (i j:Int)(μ Q):rLt (.int i) (.int j) μ Q=Q (.bl (decide (i < j))) μ:=rfl
theorem BV (i j:Int)(μ Q):rLe (.int i) (.int j) μ Q=Q (.bl (decide (i≤j))) μ:=rfl
theorem Dj (i j:Int)(μ Q):rGt (.int i) (.int j) μ Q=Q (.bl (decide (j < i))) μ:=rfl
theorem CP (i j:Int)(μ Q):rGe (.int i) (.int j) μ Q=Q (.bl (decide (j≤i))) μ:=rfl
theorem Dt (x y:D)(μ Q):L3.rEq x y μ Q=((okD 40 x=true∧okD 40 y=true)∧Q (.bl (eqD x y)) μ):=rfl
theorem CT (x y:D)(μ Q):L3.rNe x y μ Q=((okD 40 x=true∧okD 40 y=true)∧Q (.bl (!eqD x y)) μ):=rfl
theorem rC (ds:List D)(i:Int)(μ Q):L3.rIx (.tup ds) (.int i) μ Q=kO (atD ds i) fun d=>Q d μ:=rfl
theorem zP (ds:List D)(i:Int)(μ Q):L3.rIx (.ls ds) (.int i) μ Q=kO (atD ds i) fun d=>Q d μ:=rfl
theorem BC (a:Addr)(i:Int)(μ Q):L3.rIx (.obj a) (.int i) μ Q=kL μ a fun ds=>kO (atD ds i) fun d=>Q d μ:=rfl
theorem wg (c:String)(i:Int)(μ Q):iY c (.int i) μ Q=Q (.bl (dU "int" c)) μ:=rfl
theorem wC (c:String)(i:Bool)(μ Q):iY c (.bl i) μ Q=Q (.bl (dU "bool" c)) μ:=rfl
theorem xf (c:String)(i:List D)(μ Q):iY c (.tup i) μ Q=Q (.bl (dU "tuple" c)) μ:=rfl
theorem wH (i:Int)(μ Q):tR [.int i] μ Q=Q (.int (if i < 0 then -i else i)) μ:=rfl
theorem wy (i j:Int)(μ Q):LC [.int i,.int j] μ Q=Q (.int (if j > i then j else i)) μ:=rfl
theorem xM (i j:Int)(μ Q):Kj [.int i,.int j] μ Q=Q (.int (if j < i then j else i)) μ:=rfl
theorem wz (i:Int)(μ Q):DQ [.int i] μ Q=Q (.int i) μ:=rfl
theorem yq (i:Bool)(μ Q):DQ [.bl i] μ Q=Q (.int (if i then 1 else 0)) μ:=rfl
theorem w4 (i:List D)(μ Q):gn [.tup i] μ Q=Q (.int i.length) μ:=rfl
theorem xm (i:List D)(μ Q):gn [.ls i] μ Q=Q (.int i.length) μ:=rfl
local macro_rules | `(tactic| walk_at "rd")=>`(tactic| try simp only[ah,TC,aj,TUn,jm,Ij,je,TB,sW,TOr,iX,vk,xD,aw,ag,cK,gv,kr,au,bX,aF,yJ,Cj,fP,aT,Cf,dM,ax,aL,wR,fL,fF,fh,cH, 
  CZ,Bz,CL,Bx,CK,wB,sX,xX,BW,yz,rR,zQ,oo,tE,sT,tW,tq,l8,nu,xW,mR,nV,ow,oI,nF,o7,nN,nr,m7,TSl,ONo,xU,DM,DL,DO,C6,AV,Dh,xj,xx,DC,Cu,Dc,mU,oJ,nA,xQ,wJ,xG,xw,xV,yn,yh,xE,xB,A5,BV,Dj,CP,Dt,CT,rC,zP,BC,wg,wC,xf,wH,wy,xM,wz,yq,w4,xm,
  lk,ini,List.map,List.length,List.replicate,List.append,List.set,List.cons_append,List.nil_append,Nat.sub_self,Nat.reduceSub,Nat.reduceAdd,
  zy,zb,zF,zu,zY,zH,C0,Df,D2,List.getElem?_cons_zero,List.getElem?_cons_succ,aD,Nat.reduceLT,Nat.reduceLeDiff,if_true,if_false,true_and,and_true,Bool.not_true,Bool.not_false,Nat.lt_add_one,Nat.zero_lt_succ,Nat.succ_lt_succ_iff,Nat.zero_lt_one,
  decide_eq_true_eq,Bool.false_eq_true,ite_false,ite_true,ne_eq,not_false_eq_true,Int.reduceToNat,Int.reducePow,Int.reduceNeg,Int.reduceSub,Int.reduceAdd,Int.reduceMul,Int.reduceEq,okD,bC,eqD,gF,Bool.and_self,Bool.and_true,Bool.true_and,jX,km,jL,jM,jW,jK,jZ])
local macro_rules | `(tactic| walk_at "ok")=>`(tactic| (simp only[L3.fX,L3.MulOk,L3.S64,L3.eR,L3.rk] at *;omega))
def Box (μ:Mu)(b:Addr):Prop:=∃ g s c:Int,μ b=some (.lst [.int g,.int s,.int c])∧0≤s∧s < 2147483647
structure dm (b:Addr) (μ μ':Mu):Prop where
  box:Box μ' b
  oth:∀ a,a≠b→μ' a=μ a
theorem dm.trans {b:Addr}{μ μ1 μ2:Mu}(x:dm b μ μ1)(y:dm b μ1 μ2):dm b μ μ2:=⟨y.box,fun a h=>(y.oth a h).trans (x.oth a h)⟩
def aH:FSp:=fun ds μ Q=>match ds with
  | [.obj b,.int n]=>(Box μ b∧0 < n∧n < 18446744073709551616)∧∀ k μ',0≤k→k < n→dm b μ μ'→Q (.int k) μ'
  | _=>False
def CA:STr:=aF (fL (ah 0) (TC (.int 2)) (aj aM (aj L3.rIx (ah 0) (TC (.int 2))) (TC (.int 1)))) (aF (dM (sW (TB (aj rGt (aj L3.rIx (ah 0) (TC (.int 0))) (TC (.int 0)))) (TB (aj rLe (aj L3.rIx (ah 0) (TC (.int 2))) (TC (.int 60))))) (aF (aL (aj gR (aj L3.rIx (ah 0) (TC (.int 0))) (ah 1)) (ax 2)) (aF (fL (ah 0) (TC (.int 0)) (aj kZ (aj L3.rIx (ah 0) (TC (.int 0))) (ah 1))) (aT (ah 2)))) (bX)) (aF (fL (ah 0) (TC (.int 1)) (aj gR (aj aM (aj aM (aj cg (aj L3.rIx (ah 0) (TC (.int 1))) (TC (.int 48271))) (TC (.int 12345))) (aj L3.rIx (ah 0) (TC (.int 2)))) (TC (.int 2147483647)))) (aT (aj gR (aj kZ (aj gR (aj cg (aj L3.rIx (ah 0) (TC (.int 1))) (aj aM (aj gR (aj L3.rIx (ah 0) (TC (.int 1))) (TC (.int 40009))) (TC (.int 3)))) (TC (.int 2147483629))) (TC (.int 7))) (ah 1)))))
theorem EF:∀ ds μ Q,aH ds μ Q→CA { nx:=fun _ μ'=>RT Q .non μ',rt:=RT Q } (ini 3 ds) μ:=by
  intro ds μ Q h
  unfold aH at h
  split at h
  case h_2=>exact h.elim
  rename_i b n
  obtain ⟨⟨⟨g,s,c,hb,s0,s1⟩,n0,n1⟩,k⟩:=h
  unfold CA
  walk_at "rd"
  repeat (simp only[G5 hb];walk_at "rd")
  have dv:fX n:=by walk_at "ok"
  have n2:n≠0:=by omega
  have fin:∀ g' s':Int,∀ d:Int,0≤s'→s' < 2147483647→0≤d→d < n→RT Q (.int d) (up (up μ b (.lst [.int g,.int s,.int (c+1)])) b (.lst [.int g',.int s',.int (c+1)])):=fun g' s' d h1 h2 h3 h4=>
    ⟨_,.refl _,k d _ h3 h4 ⟨⟨g',s',c+1,aD,h1,h2⟩,fun a ha=>by rw[aU ha,aU ha]⟩⟩
  have els:MulOk s 48271∧MulOk ((s*48271+12345+(c+1)).fmod 2147483647) (((s*48271+12345+(c+1)).fmod 2147483647).fmod 40009+3)∧fX 7:=by
    have h1:=fm0 (a:=s*48271+12345+(c+1)) (n:=2147483647) (by decide)
    have h2:=fm1 (a:=s*48271+12345+(c+1)) (n:=2147483647) (by decide)
    refine ⟨by walk_at "ok", ?_,by walk_at "ok"⟩
    generalize (s*48271+12345+(c+1)).fmod 2147483647=z at *
    walk_at "ok"
  obtain ⟨e1,e2,e3⟩:=els
  have w:=fun g'=>fin g' ((s*48271+12345+(c+1)).fmod 2147483647) _ (fm0 (by decide)) (fm1 (by decide)) (fm0 (a:=(((s*48271+12345+(c+1)).fmod 2147483647*(((s*48271+12345+(c+1)).fmod 2147483647).fmod 40009+3)).fmod 2147483629).fdiv 7) n0) (fm1 n0)
  split
  · split
    · exact ⟨n2,dv,fin _ _ _ s0 s1 (fm0 n0) (fm1 n0)⟩
    · exact ⟨e1,e2,e3,n2,w g⟩
  · exact ⟨e1,e2,e3,n2,w g⟩
theorem Bj:∀ ds μ Q,aH ds μ Q→ds.length=2:=by
  unfold aH
  walk_at "ln"
theorem uE (x y:Int):Int.gcd y (x.fmod y)=Int.gcd x y:=by
  rw[Int.fmod_def,Int.gcd_sub_mul_left_right,Int.gcd_comm]
theorem BD (a:Int):(if a < 0 then -a else a)=(a.natAbs:Int):=by
  split<;>omega
def mz (i:Nat):ST→Mu→Nat:=fun ρ _=>match lk ρ i with
  | some (.int z)=>z.toNat
  | _=>0
structure Fr (p q:Int):Prop where
  q0:0 < q
  q1:q < 100000000000
  p0:-100000000000 < p
  p1:p < 100000000000
  g:Int.gcd p q=1
theorem jQ {a b:Int}(h:0 < b):a.fdiv b=a / b:=Int.fdiv_eq_ediv_of_nonneg a (Int.le_of_lt h)
def f9:FSp:=fun ds μ Q=>match ds with
  | [.ls xs,.int k]=>(∃ ns:List Int,xs=ns.map .int∧0≤k∧k≤1000)∧∀ p μ',μ p=none→Box μ' p→(∀ a,a≠p→μ' a=μ a)→Q (.obj p) μ'
  | _=>False
theorem Es:∀ ds μ Q,f9 ds μ Q→ds.length=2:=by
  unfold f9
  walk_at "ln"
def G4:STr:=aF (aL (vk (TB (aj rLt (ah 1) (au gn (ag (ah 0) (aw))))) (aj L3.rIx (ah 0) (ah 1)) (TC (.int 0))) (ax 2)) (aF (aL (aj cg (au tR (ag (ah 2) (aw))) (au DQ (ag (aj rGe (au tR (ag (ah 2) (aw))) (aj D8 (TC (.int 10)) (TC (.int 18)))) (aw)))) (ax 3)) (aT (kr (ag (ah 3) (ag (aj gR (aj cg (aj aM (aj aM (aj gR (ah 2) (TC (.int 2147483629))) (aj cg (aj cg (TC (.int 7919)) (ah 1)) (ah 1))) (TC (.int 11))) (TC (.int 48271))) (TC (.int 2147483647))) (ag (TC (.int 0)) (aw)))))))
theorem DP {ns:List Int}{k:Int}(h0:0≤k)(h1:k < (ns.length:Int)):∃ z,atD (ns.map D.int) k=some (.int z):=by
  rcases Int.eq_ofNat_of_zero_le h0 with ⟨j,rfl⟩
  rw[ck]
  have hj:j < ns.length:=by omega
  exact ⟨ns[j],by simp[hj]⟩
theorem Ic:∀ ds μ Q,f9 ds μ Q→G4 { nx:=fun _ μ'=>RT Q .non μ',rt:=RT Q } (ini 4 ds) μ:=by
  intro ds μ Q h
  unfold f9 at h
  split at h
  case h_2=>exact h.elim
  rename_i xs k
  obtain ⟨⟨ns,rfl,k0,k1⟩,hk⟩:=h
  have fin:∀ c:Int,rk 10 18∧MulOk (if c < 0 then -c else c) (if decide (1000000000000000000≤(if c < 0 then -c else c))=true then 1 else 0)∧MulOk 7919 k∧MulOk (7919*k) k∧MulOk (c.fmod 2147483629+7919*k*k+11) 48271:=fun c=>
    ⟨by walk_at "ok", by split<;>walk_at "ok", by walk_at "ok", by walk_at "ok", .inl (.inr (by unfold S64;omega))⟩
  unfold G4
  walk_at "rd"
  have go:∀ c:Int,RT Q=RT Q→∀ g s:Int,0≤s→s < 2147483647→∀ p,μ p=none→RT Q (.obj p) (up μ p (.lst [.int g,.int s,.int 0])):=fun c _ g s s0 s1 p hp=>
    ⟨_,.refl _,hk p _ hp ⟨g,s,0,aD,s0,s1⟩ fun a ha=>aU ha⟩
  split
  · rename_i hlt
    rw[List.length_map] at hlt
    obtain ⟨z,ez⟩:=DP k0 hlt
    rw[ez]
    walk_at "rd"
    obtain ⟨f1,f2,f3,f4,f5⟩:=fin z
    simp only[decide_eq_true_eq] at f2
    exact ⟨f1,f2,f3,f4,f5,fun p hp=>go z rfl _ _ (fm0 (by decide)) (fm1 (by decide)) p hp⟩
  · obtain ⟨f1,f2,f3,f4,f5⟩:=fin 0
    simp only[decide_eq_true_eq] at f2
    exact ⟨f1,f2,f3,f4,f5,fun p hp=>go 0 rfl _ _ (fm0 (by decide)) (fm1 (by decide)) p hp⟩
def dr:FSp:=fun ds μ Q=>match ds with
  | [.ls xs]=>(∃ ns:List Int,xs=ns.map .int∧ns.length≤63)∧∀ μ',Q (.bl true) μ'
  | _=>False
theorem rQ:∀ ds μ Q,dr ds μ Q→ds.length=1:=by
  unfold dr
  walk_at "ln"
theorem kM (ns:List Int)(h:ns.length≤63)(μ:Mu):dr [.ls (ns.map .int)] μ (fun d _=>d=.bl true):=⟨⟨ns,rfl,h⟩,fun _=>rfl⟩
local macro_rules | `(tactic| walk_at "rd")=>`(tactic| try simp only[ah,TC,aj,TUn,jm,Ij,je,TB,sW,TOr,iX,vk,xD,aw,ag,cK,gv,kr,au,bX,aF,yJ,Cj,fP,aT,Cf,dM,ax,aL,wR,fL,fF,fh,cH,bO,iD,gU,ik,LD,ILs,
  CZ,Bz,CL,Bx,CK,wB,sX,xX,BW,yz,rR,zQ,oo,tE,sT,tW,tq,l8,nu,xW,mR,nV,ow,oI,nF,o7,nN,nr,m7,TSl,ONo,xU,DM,DL,DO,C6,AV,Dh,xj,xx,DC,Cu,Dc,mU,oJ,nA,xQ,wJ,xG,xw,xV,yn,yh,xE,xB,A5,BV,Dj,CP,Dt,CT,rC,zP,BC,wg,wC,xf,wH,wy,xM,wz,yq,w4,xm,
  lk,ini,List.map,List.length,List.replicate,List.append,List.set,List.cons_append,List.nil_append,Nat.sub_self,Nat.reduceSub,Nat.reduceAdd,
  zy,zb,zF,zu,zY,zH,C0,Df,D2,List.getElem?_cons_zero,List.getElem?_cons_succ,aD,oH,Nat.reduceLT,Nat.reduceLeDiff,if_true,if_false,true_and,and_true,Bool.not_true,Bool.not_false,Nat.lt_add_one,Nat.zero_lt_succ,Nat.succ_lt_succ_iff,Nat.zero_lt_one,
  decide_eq_true_eq,Bool.false_eq_true,ite_false,ite_true,ne_eq,not_false_eq_true,Int.reduceToNat,Int.reducePow,Int.reduceNeg,Int.reduceSub,Int.reduceAdd,Int.reduceMul,Int.reduceEq,okD,bC,eqD,gF,Bool.and_self,Bool.and_true,Bool.true_and,jX,km,jL,jM,jW,jK,jZ])
structure IsPart (a b p q:Int):Prop where
  q0:0 < q
  g:Int.gcd p q=1
  e:p*b=a*q
  pa:p.natAbs≤a.natAbs
  qb:q.natAbs≤b.natAbs
theorem oq {g c:Int}(hg:0 < g):c.natAbs≤(g*c).natAbs:=by
  rw[Int.natAbs_mul]
  exact Nat.le_mul_of_pos_left _ (by omega)
theorem yX {a b:Int}(hb:b≠0):IsPart a b (a.fdiv (if b < 0 then -(Int.gcd a b:Int) else Int.gcd a b)) (b.fdiv (if b < 0 then -(Int.gcd a b:Int) else Int.gcd a b)):=by
  have gp:0 < Int.gcd a b:=Int.gcd_pos_of_ne_zero_right a hb
  have gz:0 < (Int.gcd a b:Int):=by omega
  obtain ⟨c,hc⟩:=Int.gcd_dvd_left a b
  obtain ⟨d,hd⟩:=Int.gcd_dvd_right a b
  have g1:=Int.gcd_ediv_gcd_ediv_gcd gp
  have e1:a / (Int.gcd a b:Int)=c:=Int.ediv_eq_of_eq_mul_right (by omega) hc
  have e2:b / (Int.gcd a b:Int)=d:=Int.ediv_eq_of_eq_mul_right (by omega) hd
  rw[e1,e2] at g1
  generalize (Int.gcd a b:Int)=g at *
  clear e1 e2 gp
  subst hc hd
  have p1:=oq (c:=c) gz
  have p2:=oq (c:=d) gz
  split
  · rename_i hneg
    have d0:d < 0:=by
      rcases Int.lt_trichotomy d 0 with h | h | h
      · exact h
      · subst h;omega
      · have:=Int.mul_pos gz h;omega
    have x1:(g*c).fdiv (-g) = -c:=by rw[show g*c = -g * -c by rw[Int.neg_mul_neg]];exact Int.mul_fdiv_cancel_left _ (by omega)
    have x2:(g*d).fdiv (-g) = -d:=by rw[show g*d = -g * -d by rw[Int.neg_mul_neg]];exact Int.mul_fdiv_cancel_left _ (by omega)
    rw[x1,x2]
    refine ⟨by omega,by rw[Int.neg_gcd,Int.gcd_neg];exact g1,?_,by omega,by omega⟩
    rw[Int.neg_mul,Int.mul_neg,Int.mul_left_comm,Int.mul_assoc]
  · rename_i hneg
    have d0:0 < d:=by
      rcases Int.lt_trichotomy d 0 with h | h | h
      · have:=Int.mul_neg_of_pos_of_neg gz h;omega
      · subst h;omega
      · exact h
    have x1:(g*c).fdiv g=c:=Int.mul_fdiv_cancel_left _ (by omega)
    have x2:(g*d).fdiv g=d:=Int.mul_fdiv_cancel_left _ (by omega)
    rw[x1,x2]
    refine ⟨d0,g1,?_,by omega,by omega⟩
    rw[Int.mul_left_comm,Int.mul_assoc]
theorem Fu {p q p' q':Int}(q0:0 < q)(q0':0 < q')(g:Int.gcd p q=1)(g':Int.gcd p' q'=1)(e:p*q'=p'*q):p=p'∧q=q':=by
  have h1:q ∣ q':=by
    have:q ∣ p*q':=⟨p',by rw[e,Int.mul_comm]⟩
    have h:=Int.dvd_gcd_mul_iff_dvd_mul.mpr this
    rw[Int.gcd_comm,g] at h
    simpa using h
  have h2:q' ∣ q:=by
    have:q' ∣ p'*q:=⟨p,by rw[← e,Int.mul_comm]⟩
    have h:=Int.dvd_gcd_mul_iff_dvd_mul.mpr this
    rw[Int.gcd_comm,g'] at h
    simpa using h
  have e3:q=q':=Int.dvd_antisymm (by omega) (by omega) h1 h2
  subst e3
  exact ⟨Int.eq_of_mul_eq_mul_right (by omega) e,rfl⟩
theorem IsPart.same {a b p q a' b' p' q':Int}(h:IsPart a b p q)(h':IsPart a' b' p' q')(hb:b≠0)(hb':b'≠0)(e:a*b'=a'*b):p=p'∧q=q':=by
  refine Fu h.q0 h'.q0 h.g h'.g ?_
  have e1:=h.e
  have e2:=h'.e
  have x:(p*q')*(b*b')=(p'*q)*(b*b'):=by
    calc (p*q')*(b*b')=(p*b)*(q'*b'):=by ac_rfl
      _=(a*q)*(q'*b'):=by rw[e1]
      _=(a*b')*(q*q'):=by ac_rfl
      _=(a'*b)*(q*q'):=by rw[e]
      _=(a'*q')*(q*b):=by ac_rfl
      _=(p'*b')*(q*b):=by rw[e2]
      _=(p'*q)*(b*b'):=by ac_rfl
  exact Int.eq_of_mul_eq_mul_right (Int.mul_ne_zero hb hb') x
def bS:FSp:=fun ds μ Q=>match ds with
  | [.int a,.int b]=>Q (.int (Int.gcd a b)) μ
  | _=>False
theorem pH:∀ ds μ Q,bS ds μ Q→ds.length=2:=by
  unfold bS
  walk_at "ln"
def lO:STr:=aF (aL (au tR (ag (ah 0) (aw))) (ax 2)) (aF (aL (au tR (ag (ah 1) (aw))) (ax 3)) (aF (nQ (TB (aj rGt (ah 3) (TC (.int 0)))) (aF (aL (aj gR (ah 2) (ah 3)) (ax 4)) (aF (aL (ah 3) (ax 2)) (aL (ah 4) (ax 3))))) (aT (ah 2))))
theorem rJ:∀ ds μ Q,bS ds μ Q→lO { nx:=fun _ μ'=>RT Q .non μ',rt:=RT Q } (ini 5 ds) μ:=by
  intro ds μ Q k
  unfold bS at k
  split at k
  case h_2=>exact k.elim
  rename_i a b
  unfold lO
  walk_at "rd"
  refine ⟨fun ρ μ'=>μ'=μ∧∃ (x y:Int) (z:Option D),ρ=[some (.int a),some (.int b),some (.int x),some (.int y),z]∧0≤x∧0≤y∧Int.gcd x y=Int.gcd a b,mz 3,⟨rfl,_,_,_,rfl,?_,?_,?_⟩,?_⟩
  · split<;>omega
  · split<;>omega
  · rw[BD,BD];unfold Int.gcd;rw[Int.natAbs_natCast,Int.natAbs_natCast]
  · rintro ρ _ ⟨rfl,x,y,z,rfl,x0,y0,e⟩
    walk_at "rd"
    split
    · rename_i hy
      refine ⟨by omega,⟨_,_,_,rfl,y0,fm0 hy,?_⟩,?_⟩
      · rw[uE];exact e
      · have:=fm1 (a:=x) hy
        have:=fm0 (a:=x) hy
        simp only[mz,lk]
        omega
    · rename_i hy
      have hy0:y=0:=by omega
      subst hy0
      rw[Int.gcd_zero_right] at e
      have hx:x=(Int.gcd a b:Int):=by omega
      subst hx
      exact ⟨_,.refl _,k⟩
def ei:FSp:=fun ds μ Q=>match ds with
  | [.int a,.int b]=>(b≠0∧eR b)∧∀ p q,IsPart a b p q→Q (.tup [.int p,.int q]) μ
  | _=>False
theorem Du:∀ ds μ Q,ei ds μ Q→ds.length=2:=by
  unfold ei
  walk_at "ln"
def D7:STr:=aF (aL (au bS (ag (ah 0) (ag (ah 1) (aw)))) (ax 2)) (aF (dM (TB (aj rLt (ah 1) (TC (.int 0)))) (aL (TUn wG (ah 2)) (ax 2)) (bX)) (aT (cK (ag (aj kZ (ah 0) (ah 2)) (ag (aj kZ (ah 1) (ah 2)) (aw))))))
theorem E7:∀ ds μ Q,ei ds μ Q→D7 { nx:=fun _ μ'=>RT Q .non μ',rt:=RT Q } (ini 3 ds) μ:=by
  intro ds μ Q h
  unfold ei at h
  split at h
  case h_2=>exact h.elim
  rename_i a b
  obtain ⟨⟨hb,hm⟩,k⟩:=h
  have P:=k _ _ (yX (a:=a) hb)
  have gp:0 < Int.gcd a b:=Int.gcd_pos_of_ne_zero_right a hb
  have gl:Int.gcd a b≤b.natAbs:=Int.gcd_le_natAbs_right a hb
  unfold D7
  walk_at "rd"
  show (if b < 0 then _ else _)
  split
  · rename_i hn
    rw[if_pos hn] at P
    have dv:fX (-(Int.gcd a b:Int)):=by walk_at "ok"
    exact ⟨dv,dv,_,.refl _,P⟩
  · rename_i hn
    rw[if_neg hn] at P
    have dv:fX (Int.gcd a b:Int):=by walk_at "ok"
    exact ⟨dv,dv,_,.refl _,P⟩
structure FrB (lo hi p q:Int):Prop where
  q0:0 < q
  q1:q≤10000002
  g:Int.gcd p q=1
  ge:lo*q≤p
  le:p≤hi*q
structure FrA (lo hi p q:Int):Prop extends FrB lo hi p q where
  ab:lo*q < p
structure FrL (hi p q:Int):Prop extends FrB 0 hi p q where
  ab:0 < p
  be:p < hi*q
theorem eB {a b:Int}(b0:0 < b):∃ g p q:Int,0 < g∧a=g*p∧b=g*q∧a.fdiv (Int.gcd a b)=p∧b.fdiv (Int.gcd a b)=q∧0 < q∧q≤b∧Int.gcd p q=1:=by
  have gp:0 < Int.gcd a b:=Int.gcd_pos_of_ne_zero_right a (by omega)
  have gz:0 < (Int.gcd a b:Int):=by omega
  obtain ⟨c,hc⟩:=Int.gcd_dvd_left a b
  obtain ⟨d,hd⟩:=Int.gcd_dvd_right a b
  have g1:=Int.gcd_ediv_gcd_ediv_gcd gp
  have e1:a / (Int.gcd a b:Int)=c:=Int.ediv_eq_of_eq_mul_right (by omega) hc
  have e2:b / (Int.gcd a b:Int)=d:=Int.ediv_eq_of_eq_mul_right (by omega) hd
  rw[e1,e2] at g1
  refine ⟨_,c,d,gz,hc,hd,by rw[jQ gz];exact e1,by rw[jQ gz];exact e2,?_,?_,g1⟩
  all_goals generalize (Int.gcd a b:Int)=g at *
  · rcases Int.lt_trichotomy d 0 with h | h | h
    · have:=Int.mul_neg_of_pos_of_neg gz h;omega
    · subst h;omega
    · exact h
  · have d0:0 < d:=by
      rcases Int.lt_trichotomy d 0 with h | h | h
      · have:=Int.mul_neg_of_pos_of_neg gz h;omega
      · subst h;omega
      · exact h
    have h:=Int.mul_le_mul_of_nonneg_right (show (1:Int)≤g by omega) (show (0:Int)≤d by omega)
    omega
theorem p9:(Str.ofString "still" = Str.ofString "step")=False:=eq_false (by decide +kernel)
theorem nU:(Str.ofString "still" = Str.ofString "swell")=False:=eq_false (by decide +kernel)
theorem qr:(Str.ofString "still" = Str.ofString "heed")=False:=eq_false (by decide +kernel)
theorem qH:(Str.ofString "still" = Str.ofString "calm")=False:=eq_false (by decide +kernel)
theorem pN:(Str.ofString "step" = Str.ofString "still")=False:=eq_false (by decide +kernel)
theorem qm:(Str.ofString "step" = Str.ofString "swell")=False:=eq_false (by decide +kernel)
theorem sv:(Str.ofString "step" = Str.ofString "heed")=False:=eq_false (by decide +kernel)
theorem sR:(Str.ofString "step" = Str.ofString "calm")=False:=eq_false (by decide +kernel)
theorem mN:(Str.ofString "swell" = Str.ofString "still")=False:=eq_false (by decide +kernel)
theorem pB:(Str.ofString "swell" = Str.ofString "step")=False:=eq_false (by decide +kernel)
theorem qg:(Str.ofString "swell" = Str.ofString "heed")=False:=eq_false (by decide +kernel)
theorem pX:(Str.ofString "swell" = Str.ofString "calm")=False:=eq_false (by decide +kernel)
theorem pT:(Str.ofString "heed" = Str.ofString "still")=False:=eq_false (by decide +kernel)
theorem rH:(Str.ofString "heed" = Str.ofString "step")=False:=eq_false (by decide +kernel)
theorem pz:(Str.ofString "heed" = Str.ofString "swell")=False:=eq_false (by decide +kernel)
theorem tm:(Str.ofString "heed" = Str.ofString "calm")=False:=eq_false (by decide +kernel)
theorem pF:(Str.ofString "calm" = Str.ofString "still")=False:=eq_false (by decide +kernel)
theorem tS:(Str.ofString "calm" = Str.ofString "step")=False:=eq_false (by decide +kernel)
theorem qk:(Str.ofString "calm" = Str.ofString "swell")=False:=eq_false (by decide +kernel)
theorem sj:(Str.ofString "calm" = Str.ofString "heed")=False:=eq_false (by decide +kernel)
theorem Ag:PyData.strOk (Str.ofString "still")=true:=by decide +kernel
theorem A9:PyData.strOk (Str.ofString "step")=true:=by decide +kernel
theorem AA:PyData.strOk (Str.ofString "swell")=true:=by decide +kernel
theorem BH:PyData.strOk (Str.ofString "heed")=true:=by decide +kernel
theorem C9:PyData.strOk (Str.ofString "calm")=true:=by decide +kernel
abbrev fr (p q:Int):D:=.tup [.int p,.int q]
theorem fO (i:Decidable (Str.ofString "still" = Str.ofString "step")):@decide (Str.ofString "still" = Str.ofString "step") i=false:=by cases i with | isTrue h=>exact absurd h (by rw[p9];exact not_false) | isFalse _=>rfl
theorem eI (i:Decidable (Str.ofString "still" = Str.ofString "swell")):@decide (Str.ofString "still" = Str.ofString "swell") i=false:=by cases i with | isTrue h=>exact absurd h (by rw[nU];exact not_false) | isFalse _=>rfl
theorem fJ (i:Decidable (Str.ofString "still" = Str.ofString "heed")):@decide (Str.ofString "still" = Str.ofString "heed") i=false:=by cases i with | isTrue h=>exact absurd h (by rw[qr];exact not_false) | isFalse _=>rfl
theorem fz (i:Decidable (Str.ofString "still" = Str.ofString "calm")):@decide (Str.ofString "still" = Str.ofString "calm") i=false:=by cases i with | isTrue h=>exact absurd h (by rw[qH];exact not_false) | isFalse _=>rfl
theorem fN (i:Decidable (Str.ofString "step" = Str.ofString "still")):@decide (Str.ofString "step" = Str.ofString "still") i=false:=by cases i with | isTrue h=>exact absurd h (by rw[pN];exact not_false) | isFalse _=>rfl
theorem fq (i:Decidable (Str.ofString "step" = Str.ofString "swell")):@decide (Str.ofString "step" = Str.ofString "swell") i=false:=by cases i with | isTrue h=>exact absurd h (by rw[qm];exact not_false) | isFalse _=>rfl
theorem gq (i:Decidable (Str.ofString "step" = Str.ofString "heed")):@decide (Str.ofString "step" = Str.ofString "heed") i=false:=by cases i with | isTrue h=>exact absurd h (by rw[sv];exact not_false) | isFalse _=>rfl
theorem gx (i:Decidable (Str.ofString "step" = Str.ofString "calm")):@decide (Str.ofString "step" = Str.ofString "calm") i=false:=by cases i with | isTrue h=>exact absurd h (by rw[sR];exact not_false) | isFalse _=>rfl
theorem eJ (i:Decidable (Str.ofString "swell" = Str.ofString "still")):@decide (Str.ofString "swell" = Str.ofString "still") i=false:=by cases i with | isTrue h=>exact absurd h (by rw[mN];exact not_false) | isFalse _=>rfl
theorem ft (i:Decidable (Str.ofString "swell" = Str.ofString "step")):@decide (Str.ofString "swell" = Str.ofString "step") i=false:=by cases i with | isTrue h=>exact absurd h (by rw[pB];exact not_false) | isFalse _=>rfl
theorem fk (i:Decidable (Str.ofString "swell" = Str.ofString "heed")):@decide (Str.ofString "swell" = Str.ofString "heed") i=false:=by cases i with | isTrue h=>exact absurd h (by rw[qg];exact not_false) | isFalse _=>rfl
theorem fD (i:Decidable (Str.ofString "swell" = Str.ofString "calm")):@decide (Str.ofString "swell" = Str.ofString "calm") i=false:=by cases i with | isTrue h=>exact absurd h (by rw[pX];exact not_false) | isFalse _=>rfl
theorem fM (i:Decidable (Str.ofString "heed" = Str.ofString "still")):@decide (Str.ofString "heed" = Str.ofString "still") i=false:=by cases i with | isTrue h=>exact absurd h (by rw[pT];exact not_false) | isFalse _=>rfl
theorem gy (i:Decidable (Str.ofString "heed" = Str.ofString "step")):@decide (Str.ofString "heed" = Str.ofString "step") i=false:=by cases i with | isTrue h=>exact absurd h (by rw[rH];exact not_false) | isFalse _=>rfl
theorem fu (i:Decidable (Str.ofString "heed" = Str.ofString "swell")):@decide (Str.ofString "heed" = Str.ofString "swell") i=false:=by cases i with | isTrue h=>exact absurd h (by rw[pz];exact not_false) | isFalse _=>rfl
theorem gj (i:Decidable (Str.ofString "heed" = Str.ofString "calm")):@decide (Str.ofString "heed" = Str.ofString "calm") i=false:=by cases i with | isTrue h=>exact absurd h (by rw[tm];exact not_false) | isFalse _=>rfl
theorem fw (i:Decidable (Str.ofString "calm" = Str.ofString "still")):@decide (Str.ofString "calm" = Str.ofString "still") i=false:=by cases i with | isTrue h=>exact absurd h (by rw[pF];exact not_false) | isFalse _=>rfl
theorem gs (i:Decidable (Str.ofString "calm" = Str.ofString "step")):@decide (Str.ofString "calm" = Str.ofString "step") i=false:=by cases i with | isTrue h=>exact absurd h (by rw[tS];exact not_false) | isFalse _=>rfl
theorem fm (i:Decidable (Str.ofString "calm" = Str.ofString "swell")):@decide (Str.ofString "calm" = Str.ofString "swell") i=false:=by cases i with | isTrue h=>exact absurd h (by rw[qk];exact not_false) | isFalse _=>rfl
theorem gB (i:Decidable (Str.ofString "calm" = Str.ofString "heed")):@decide (Str.ofString "calm" = Str.ofString "heed") i=false:=by cases i with | isTrue h=>exact absurd h (by rw[sj];exact not_false) | isFalse _=>rfl
theorem rT (a:Str)(i:Decidable (a=a)):@decide (a=a) i=true:=by cases i with | isTrue _=>rfl | isFalse h=>exact absurd rfl h
def kLs (x:D)(f:List D→Prop):Prop:=match x with
  | .ls ds=>f ds
  | _=>False
def mi (sp:FSp)(ds:List D)(μ:Mu)(Q:DK):Prop:=sp ds μ Q
def LEN (ds:List D)(P:Prop):Prop:=ds.length≤1000000∧P
theorem Jh (d:D)(r:ST)(μ:Mu)(Q:DK):ah 0 (some d::r) μ Q=Q d μ:=propext Iff.rfl
theorem ED (x0:Option D)(r:ST)(d:D)(μ:Mu)(k:ST→Mu→Prop):ax 0 d (x0::r) μ k=k (some d::r) μ:=propext Iff.rfl
theorem IZ (x0:Option D)(d:D)(r:ST)(μ:Mu)(Q:DK):ah 1 (x0::some d::r) μ Q=Q d μ:=propext Iff.rfl
theorem F7 (x0 x1:Option D)(r:ST)(d:D)(μ:Mu)(k:ST→Mu→Prop):ax 1 d (x0::x1::r) μ k=k (x0::some d::r) μ:=propext Iff.rfl
theorem Ip (x0 x1:Option D)(d:D)(r:ST)(μ:Mu)(Q:DK):ah 2 (x0::x1::some d::r) μ Q=Q d μ:=propext Iff.rfl
theorem FW (x0 x1 x2:Option D)(r:ST)(d:D)(μ:Mu)(k:ST→Mu→Prop):ax 2 d (x0::x1::x2::r) μ k=k (x0::x1::some d::r) μ:=propext Iff.rfl
theorem JX (x0 x1 x2:Option D)(d:D)(r:ST)(μ:Mu)(Q:DK):ah 3 (x0::x1::x2::some d::r) μ Q=Q d μ:=propext Iff.rfl
theorem Ei (x0 x1 x2 x3:Option D)(r:ST)(d:D)(μ:Mu)(k:ST→Mu→Prop):ax 3 d (x0::x1::x2::x3::r) μ k=k (x0::x1::x2::some d::r) μ:=propext Iff.rfl
theorem Jp (x0 x1 x2 x3:Option D)(d:D)(r:ST)(μ:Mu)(Q:DK):ah 4 (x0::x1::x2::x3::some d::r) μ Q=Q d μ:=propext Iff.rfl
theorem Gr (x0 x1 x2 x3 x4:Option D)(r:ST)(d:D)(μ:Mu)(k:ST→Mu→Prop):ax 4 d (x0::x1::x2::x3::x4::r) μ k=k (x0::x1::x2::x3::some d::r) μ:=propext Iff.rfl
theorem HK (x0 x1 x2 x3 x4:Option D)(d:D)(r:ST)(μ:Mu)(Q:DK):ah 5 (x0::x1::x2::x3::x4::some d::r) μ Q=Q d μ:=propext Iff.rfl
theorem Gu (x0 x1 x2 x3 x4 x5:Option D)(r:ST)(d:D)(μ:Mu)(k:ST→Mu→Prop):ax 5 d (x0::x1::x2::x3::x4::x5::r) μ k=k (x0::x1::x2::x3::x4::some d::r) μ:=propext Iff.rfl
theorem JI (x0 x1 x2 x3 x4 x5:Option D)(d:D)(r:ST)(μ:Mu)(Q:DK):ah 6 (x0::x1::x2::x3::x4::x5::some d::r) μ Q=Q d μ:=propext Iff.rfl
theorem ER (x0 x1 x2 x3 x4 x5 x6:Option D)(r:ST)(d:D)(μ:Mu)(k:ST→Mu→Prop):ax 6 d (x0::x1::x2::x3::x4::x5::x6::r) μ k=k (x0::x1::x2::x3::x4::x5::some d::r) μ:=propext Iff.rfl
theorem Hr (x0 x1 x2 x3 x4 x5 x6:Option D)(d:D)(r:ST)(μ:Mu)(Q:DK):ah 7 (x0::x1::x2::x3::x4::x5::x6::some d::r) μ Q=Q d μ:=propext Iff.rfl
theorem EB (x0 x1 x2 x3 x4 x5 x6 x7:Option D)(r:ST)(d:D)(μ:Mu)(k:ST→Mu→Prop):ax 7 d (x0::x1::x2::x3::x4::x5::x6::x7::r) μ k=k (x0::x1::x2::x3::x4::x5::x6::some d::r) μ:=propext Iff.rfl
theorem Je (x0 x1 x2 x3 x4 x5 x6 x7:Option D)(d:D)(r:ST)(μ:Mu)(Q:DK):ah 8 (x0::x1::x2::x3::x4::x5::x6::x7::some d::r) μ Q=Q d μ:=propext Iff.rfl
theorem Gv (x0 x1 x2 x3 x4 x5 x6 x7 x8:Option D)(r:ST)(d:D)(μ:Mu)(k:ST→Mu→Prop):ax 8 d (x0::x1::x2::x3::x4::x5::x6::x7::x8::r) μ k=k (x0::x1::x2::x3::x4::x5::x6::x7::some d::r) μ:=propext Iff.rfl
theorem HL (x0 x1 x2 x3 x4 x5 x6 x7 x8:Option D)(d:D)(r:ST)(μ:Mu)(Q:DK):ah 9 (x0::x1::x2::x3::x4::x5::x6::x7::x8::some d::r) μ Q=Q d μ:=propext Iff.rfl
theorem Gq (x0 x1 x2 x3 x4 x5 x6 x7 x8 x9:Option D)(r:ST)(d:D)(μ:Mu)(k:ST→Mu→Prop):ax 9 d (x0::x1::x2::x3::x4::x5::x6::x7::x8::x9::r) μ k=k (x0::x1::x2::x3::x4::x5::x6::x7::x8::some d::r) μ:=propext Iff.rfl
theorem Mm (d:D)(ρ:ST)(μ:Mu)(Q:DK):TC d ρ μ Q=Q d μ:=propext Iff.rfl
theorem HW (r:DR2)(a b:ETr)(ρ:ST)(μ:Mu)(Q:DK):aj r a b ρ μ Q=a ρ μ fun x μ1=>b ρ μ1 fun y μ2=>r x y μ2 Q:=propext Iff.rfl
theorem Kf (r:DR)(a:ETr)(ρ:ST)(μ:Mu)(Q:DK):TUn r a ρ μ Q=a ρ μ fun x μ1=>r x μ1 Q:=propext Iff.rfl
theorem Fh (a b:ETr)(ρ:ST)(μ:Mu)(Q:DK):jm a b ρ μ Q=a ρ μ fun x μ1=>kB x fun c=>kIf c (b ρ μ1 Q) (Q (.bl false) μ1):=propext Iff.rfl
theorem Ge (a:ETr)(ρ:ST)(μ:Mu)(Q:DK):je a ρ μ Q=a ρ μ fun x μ1=>kB x fun c=>Q (.bl (!c)) μ1:=propext Iff.rfl
theorem Mv (t:ETr)(ρ:ST)(μ:Mu)(Q:Bool→Mu→Prop):TB t ρ μ Q=t ρ μ fun x μ1=>kB x fun c=>Q c μ1:=propext Iff.rfl
theorem Jg (t u:TTr)(ρ:ST)(μ:Mu)(Q:Bool→Mu→Prop):sW t u ρ μ Q=t ρ μ fun c μ1=>kIf c (u ρ μ1 Q) (Q false μ1):=propext Iff.rfl
theorem Lb (t u:TTr)(ρ:ST)(μ:Mu)(Q:Bool→Mu→Prop):TOr t u ρ μ Q=t ρ μ fun c μ1=>kIf c (Q true μ1) (u ρ μ1 Q):=propext Iff.rfl
theorem J5 (t:TTr)(ρ:ST)(μ:Mu)(Q:Bool→Mu→Prop):iX t ρ μ Q=t ρ μ fun c μ1=>Q (!c) μ1:=propext Iff.rfl
theorem Hi (c:TTr)(a b:ETr)(ρ:ST)(μ:Mu)(Q:DK):vk c a b ρ μ Q=c ρ μ fun k μ1=>kIf k (a ρ μ1 Q) (b ρ μ1 Q):=propext Iff.rfl
theorem Ju (ρ:ST)(μ:Mu)(Q:List D→Mu→Prop):aw ρ μ Q=Q [] μ:=propext Iff.rfl
theorem Fc (a:ETr)(r:ATr)(ρ:ST)(μ:Mu)(Q:List D→Mu→Prop):ag a r ρ μ Q=a ρ μ fun x μ1=>r ρ μ1 fun xs μ2=>Q (x::xs) μ2:=propext Iff.rfl
theorem JL (t:ATr)(ρ:ST)(μ:Mu)(Q:DK):cK t ρ μ Q=t ρ μ fun ds μ1=>LEN ds (Q (.tup ds) μ1):=propext Iff.rfl
theorem Hc (t:ATr)(ρ:ST)(μ:Mu)(Q:DK):gv t ρ μ Q=t ρ μ fun ds μ1=>LEN ds (Q (.ls ds) μ1):=propext Iff.rfl
theorem JQ (t:ATr)(ρ:ST)(μ:Mu)(Q:DK):kr t ρ μ Q=t ρ μ fun ds μ1=>LEN ds (∀ p,μ1 p=none→Q (.obj p) (up μ1 p (.lst ds))):=propext Iff.rfl
theorem FI (sp:FSp)(t:ATr)(ρ:ST)(μ:Mu)(Q:DK):au sp t ρ μ Q=t ρ μ fun ds μ1=>mi sp ds μ1 Q:=propext Iff.rfl
theorem Fp (nx:ST→Mu→Prop)(rt:DK)(bk ct:ST→Mu→Prop)(ρ:ST)(μ:Mu):bX ⟨nx,rt,bk,ct⟩ ρ μ=nx ρ μ:=propext Iff.rfl
theorem HG (t u:STr)(nx:ST→Mu→Prop)(rt:DK)(bk ct:ST→Mu→Prop)(ρ:ST)(μ:Mu):aF t u ⟨nx,rt,bk,ct⟩ ρ μ=t ⟨u ⟨nx,rt,bk,ct⟩,rt,bk,ct⟩ ρ μ:=propext Iff.rfl
theorem FQ (e:ETr)(nx:ST→Mu→Prop)(rt:DK)(bk ct:ST→Mu→Prop)(ρ:ST)(μ:Mu):fP e ⟨nx,rt,bk,ct⟩ ρ μ=e ρ μ fun _ μ1=>nx ρ μ1:=propext Iff.rfl
theorem Hs (e:ETr)(nx:ST→Mu→Prop)(rt:DK)(bk ct:ST→Mu→Prop)(ρ:ST)(μ:Mu):aT e ⟨nx,rt,bk,ct⟩ ρ μ=e ρ μ rt:=propext Iff.rfl
theorem IS (c:TTr)(t u:STr)(nx:ST→Mu→Prop)(rt:DK)(bk ct:ST→Mu→Prop)(ρ:ST)(μ:Mu):dM c t u ⟨nx,rt,bk,ct⟩ ρ μ=c ρ μ fun b μ1=>kIf b (t ⟨nx,rt,bk,ct⟩ ρ μ1) (u ⟨nx,rt,bk,ct⟩ ρ μ1):=propext Iff.rfl
theorem Ho (e:ETr)(g:GTr)(nx:ST→Mu→Prop)(rt:DK)(bk ct:ST→Mu→Prop)(ρ:ST)(μ:Mu):aL e g ⟨nx,rt,bk,ct⟩ ρ μ=e ρ μ fun d μ1=>g d ρ μ1 nx:=propext Iff.rfl
theorem JM (i j:Nat)(a:ATr)(nx:ST→Mu→Prop)(rt:DK)(bk ct:ST→Mu→Prop)(ρ:ST)(μ:Mu):wR i j a ⟨nx,rt,bk,ct⟩ ρ μ=a ρ μ fun ds μ1=>k2 ds fun v w=>ax i v ρ μ1 fun ρ2 μ2=>ax j w ρ2 μ2 nx:=propext Iff.rfl
theorem JJ (it:ATr)(g:GTr)(b:STr)(nx:ST→Mu→Prop)(rt:DK)(bk ct:ST→Mu→Prop)(ρ:ST)(μ:Mu):fF it g b ⟨nx,rt,bk,ct⟩ ρ μ=it ρ μ fun ds μ1=>forR g b ⟨nx,rt,bk,ct⟩ ds ρ μ1:=propext Iff.rfl
theorem Ab (a:ETr)(ρ:ST)(μ:Mu)(Q:List D→Mu→Prop):fh a ρ μ Q=a ρ μ fun x μ1=>kI x fun j=>(-4611686018427387904≤j∧j < 4611686018427387904)∧Q (eK 0 j.toNat) μ1:=propext Iff.rfl
theorem yU (a:ETr)(ρ:ST)(μ:Mu)(Q:List D→Mu→Prop):L1 (ag a aw) ρ μ Q=a ρ μ fun x μ1=>kLs x fun ds=>Q (jO ds) μ1:=propext (Iff.of_eq (congrArg (a ρ μ) (funext fun x=>funext fun μ1=>by cases x<;>rfl)))
theorem Hn (a:ETr)(ρ:ST)(μ:Mu)(Q:DK):xW a ρ μ Q=a ρ μ fun x μ1=>kObj x fun b=>kL μ1 b fun ds=>Q (.ls ds) (dn μ1 b):=propext Iff.rfl
theorem JR (To Te:ETr)(ρ:ST)(μ:Mu)(Q:DK):l8 To Te ρ μ Q=To ρ μ fun x μ1=>kObj x fun a=>kL μ1 a fun _=>Te ρ μ1 fun y μ2=>kL μ2 a fun ds=>ds.length < 1000000∧Q .non (up μ2 a (.lst (ds++[y]))):=propext Iff.rfl
theorem Lq (a:ETr)(lo hi:OTr)(ρ:ST)(μ:Mu)(Q:DK):TSl a lo hi ρ μ Q=a ρ μ fun x μ1=>lo ρ μ1 fun l μ2=>hi ρ μ2 fun h μ3=>rSl x l h μ3 Q:=propext Iff.rfl
theorem KG (ρ:ST)(μ:Mu)(Q:Option Int→Mu→Prop):ONo ρ μ Q=Q none μ:=propext Iff.rfl
theorem IC (T:ETr)(ρ:ST)(μ:Mu)(Q:Option Int→Mu→Prop):xU T ρ μ Q=T ρ μ fun x μ1=>kI x fun i=>Q (some i) μ1:=propext Iff.rfl
theorem J8 (i0 i1:Nat)(d0 d1:D)(ρ:ST)(μ:Mu)(k:ST→Mu→Prop):mh [i0,i1] (.tup [d0,d1]) ρ μ k=ax i0 d0 ρ μ fun ρ1 _=>ax i1 d1 ρ1 μ fun ρ2 _=>k ρ2 μ:=by simp[mh,kX,ax]
theorem Kc (P:Prop):LEN [] P=P:=by simp[LEN]
theorem K2 (x0:D)(P:Prop):LEN [x0] P=P:=by simp[LEN]
theorem Ku (x0 x1:D)(P:Prop):LEN [x0,x1] P=P:=by simp[LEN]
theorem KZ (x0 x1 x2:D)(P:Prop):LEN [x0,x1,x2] P=P:=by simp[LEN]
theorem Kp (x0 x1 x2 x3 x4:D)(P:Prop):LEN [x0,x1,x2,x3,x4] P=P:=by simp[LEN]
theorem Kw (x0 x1 x2 x3 x4 x5:D)(P:Prop):LEN [x0,x1,x2,x3,x4,x5] P=P:=by simp[LEN]
theorem IW (x0:D)(r:List D)(μ:Mu)(Q:DK):L3.rIx (.tup (x0::r)) (.int 0) μ Q=Q x0 μ:=by rw[rC];exact congrArg (fun o=>kO o fun d=>Q d μ) (ck 0 _)
theorem IV (x0:D)(r:List D)(μ:Mu)(Q:DK):L3.rIx (.ls (x0::r)) (.int 0) μ Q=Q x0 μ:=by rw[zP];exact congrArg (fun o=>kO o fun d=>Q d μ) (ck 0 _)
theorem Iw (x0 x1:D)(r:List D)(μ:Mu)(Q:DK):L3.rIx (.tup (x0::x1::r)) (.int 1) μ Q=Q x1 μ:=by rw[rC];exact congrArg (fun o=>kO o fun d=>Q d μ) (ck 1 _)
theorem J9 (x0 x1 x2:D)(r:List D)(μ:Mu)(Q:DK):L3.rIx (.tup (x0::x1::x2::r)) (.int 2) μ Q=Q x2 μ:=by rw[rC];exact congrArg (fun o=>kO o fun d=>Q d μ) (ck 2 _)
theorem IG (i j:Int)(μ:Mu)(Q:DK):L3.rEq (.int i) (.int j) μ Q=Q (.bl (decide (i=j))) μ:=by simp[L3.rEq,okD,eqD]
theorem Hl (i j:Str)(μ:Mu)(Q:DK):L3.rEq (.str i) (.str j) μ Q=((PyData.strOk i=true∧PyData.strOk j=true)∧Q (.bl (decide (i=j))) μ):=by simp[L3.rEq,okD,eqD]
theorem IJ (i:Int)(μ:Mu)(Q:DK):mi tR [.int i] μ Q=Q (.int (if i < 0 then -i else i)) μ:=propext Iff.rfl
theorem DZ (a:List D)(μ:Mu)(Q:DK):mi cP [.ls a] μ Q=Q (.tup a) μ:=propext Iff.rfl
theorem Cz (a:Addr)(μ:Mu)(Q:DK):mi cP [.obj a] μ Q=kL μ a fun xs=>Q (.tup xs) μ:=propext Iff.rfl
theorem CC (a:List D)(μ:Mu)(Q:DK):mi iw [.tup a] μ Q=Q (.ls a) μ:=propext Iff.rfl
theorem IM (a:Addr)(μ:Mu)(Q:DK):mi gn [.obj a] μ Q=kL μ a fun xs=>Q (.int xs.length) μ:=propext Iff.rfl
theorem DE (a:List D)(μ:Mu)(Q:DK):mi gn [.tup a] μ Q=Q (.int a.length) μ:=propext Iff.rfl
theorem Ci (a:List D)(μ:Mu)(Q:DK):mi gn [.ls a] μ Q=Q (.int a.length) μ:=propext Iff.rfl
theorem LU (n:Nat)(i:Int):okD n (.int i)=true:=by cases n<;>simp[okD]
theorem Kh (n:Nat)(x:Str):okD n (.str x)=PyData.strOk x:=by cases n<;>simp[okD]
theorem Kv (n:Nat)(ds:List D):okD (n+1) (.tup ds)=bC n ds:=by simp[okD]
theorem KA (n:Nat)(ds:List D):okD (n+1) (.ls ds)=bC n ds:=by simp[okD]
theorem za (n:Nat):bC n []=true:=by simp[bC]
theorem uN (n:Nat)(d:D)(r:List D):bC n (d::r)=(okD n d&&bC n r):=by simp[bC]
theorem GL (i j:Int):eqD (.int i) (.int j)=decide (i=j):=by simp[eqD]
theorem G2 (i j:Str):eqD (.str i) (.str j)=decide (i=j):=by simp[eqD]
theorem GN (a b:List D):eqD (.tup a) (.tup b)=gF a b:=by simp[eqD]
theorem GO (a b:List D):eqD (.ls a) (.ls b)=gF a b:=by simp[eqD]
theorem y2  : gF [] []=true:=by simp[gF]
theorem Dw (b:D)(s:List D):gF (b::s) []=false:=by simp[gF]
theorem Gj (A B:Prop):kIf true A B=A:=propext Iff.rfl
theorem E1 (A B:Prop):kIf false A B=B:=propext Iff.rfl
theorem EW (c:Bool)(f):kB (.bl c) f=f c:=propext Iff.rfl
theorem Ee (c:Int)(f):kI (.int c) f=f c:=propext Iff.rfl
theorem z6 (c:D)(f):kO (some c) f=f c:=propext Iff.rfl
theorem BY (c:List D)(f):kS (.tup c) f=f c:=propext Iff.rfl
theorem FZ (c:List D)(f):kS (.ls c) f=f c:=propext Iff.rfl
theorem BU (a b:D)(f):k2 [a,b] f=f a b:=propext Iff.rfl
theorem Ai (c:Nat)(f):kN (some c) f=f c:=propext Iff.rfl
theorem AL (i j:Int)(μ Q):aM (.int i) (.int j) μ Q=Q (.int (i+j)) μ:=propext Iff.rfl
theorem Aj (a b:List D)(μ Q):aM (.tup a) (.tup b) μ Q=(a.length+b.length≤1000000∧Q (.tup (a++b)) μ):=propext Iff.rfl
theorem Az (a b:List D)(μ Q):aM (.ls a) (.ls b) μ Q=(a.length+b.length≤1000000∧Q (.ls (a++b)) μ):=propext Iff.rfl
theorem CI (i j:Int)(μ Q):vD (.int i) (.int j) μ Q=Q (.int (i - j)) μ:=propext Iff.rfl
theorem DU (i j:Int)(μ Q):cg (.int i) (.int j) μ Q=(MulOk i j∧Q (.int (i*j)) μ):=propext Iff.rfl
theorem AZ (i j:Int)(μ Q):kZ (.int i) (.int j) μ Q=(fX j∧Q (.int (i.fdiv j)) μ):=propext Iff.rfl
theorem DT (i j:Int)(μ Q):gR (.int i) (.int j) μ Q=(j≠0∧Q (.int (i.fmod j)) μ):=propext Iff.rfl
theorem Bl (i j:Int)(μ Q):D8 (.int i) (.int j) μ Q=(rk i j∧Q (.int (i ^ j.toNat)) μ):=propext Iff.rfl
theorem BQ (i:Int)(μ Q):wG (.int i) μ Q=Q (.int (-i)) μ:=propext Iff.rfl
theorem Eu (i j:Int)(μ Q):rLt (.int i) (.int j) μ Q=Q (.bl (decide (i < j))) μ:=propext Iff.rfl
theorem EV (i j:Int)(μ Q):rLe (.int i) (.int j) μ Q=Q (.bl (decide (i≤j))) μ:=propext Iff.rfl
theorem FA (i j:Int)(μ Q):rGt (.int i) (.int j) μ Q=Q (.bl (decide (j < i))) μ:=propext Iff.rfl
theorem EE (a:Addr)(i:Int)(μ Q):L3.rIx (.obj a) (.int i) μ Q=kL μ a fun ds=>kO (atD ds i) fun d=>Q d μ:=propext Iff.rfl
theorem BA (c:String)(i:Int)(μ Q):iY c (.int i) μ Q=Q (.bl (dU "int" c)) μ:=propext Iff.rfl
theorem CH (c:String)(i:List D)(μ Q):iY c (.tup i) μ Q=Q (.bl (dU "tuple" c)) μ:=propext Iff.rfl
theorem CN (c:String)(i:List D)(μ Q):iY c (.ls i) μ Q=Q (.bl (dU "list" c)) μ:=propext Iff.rfl
theorem DS (c:String)(i:Str)(μ Q):iY c (.str i) μ Q=Q (.bl (dU "str" c)) μ:=propext Iff.rfl
theorem Fj (a:List D)(lo hi)(μ Q):rSl (.tup a) lo hi μ Q=Q (.tup (cutD a lo hi)) μ:=propext Iff.rfl
theorem Gs (a:List D)(lo hi)(μ Q):rSl (.ls a) lo hi μ Q=Q (.ls (cutD a lo hi)) μ:=propext Iff.rfl
theorem y3 (ds:List D)(i:Int)(μ Q):L3.rIx (.tup ds) (.int i) μ Q=kO (atD ds i) fun d=>Q d μ:=propext Iff.rfl
theorem zk (ds:List D)(i:Int)(μ Q):L3.rIx (.ls ds) (.int i) μ Q=kO (atD ds i) fun d=>Q d μ:=propext Iff.rfl
theorem zB (x y:D)(μ Q):L3.rEq x y μ Q=((okD 40 x=true∧okD 40 y=true)∧Q (.bl (eqD x y)) μ):=propext Iff.rfl
theorem y1 (x y:D)(μ Q):L3.rNe x y μ Q=((okD 40 x=true∧okD 40 y=true)∧Q (.bl (!eqD x y)) μ):=propext Iff.rfl
theorem kif {p:Prop} [Decidable p] {A B:Prop}(h1:p→A)(h2:¬ p→B):kIf (decide p) A B:=by
  by_cases h:p
  · rw[decide_eq_true h];exact h1 h
  · rw[decide_eq_false h];exact h2 h
theorem yY {o:Option D}{d:D}{f:D→Prop}(e:o=some d)(h:f d):kO o f:=by rw[e];exact h
theorem bc {μ:Mu}{a:Addr}{ds:List D}{f:List D→Prop}(e:μ a=some (.lst ds))(h:f ds):kL μ a f:=by rw[G5 e];exact h
section
open PySem PySem.Spec PyProof.Rows L2
def GK (kvs:List (Str×D))(s:Str):Option D:=(kvs.find? fun kv=>decide (kv.1=s)).map (·.2)
def zw (K:PySem.W.Frag):List DictEntry→List (Str×D)→Prop
  | [],[]=>True
  | e::es,(x,d)::r=>(∃ t,e.key=.str x t)∧(∃ v,RelV v e.val∧∀ H,Dp K H v d)∧zw K es r
  | _,_=>False
theorem ve (s x:Str)(t:Tok):Value.isStrOf s (.str x t)=decide (x=s):=by
  by_cases h:x=s
  · subst h;simp[Value.isStrOf]
  · rw[decide_eq_false h];simp[Value.isStrOf];first | exact h | exact fun z=>h z.symm
theorem zw.find {K:PySem.W.Frag}(s:Str):∀ {es:List DictEntry} {kvs:List (Str×D)},zw K es kvs→
    match GK kvs s with
    | none=>(es.find? fun e=>Value.isStrOf s e.key)=none
    | some d=>∃ e v,(es.find? fun e=>Value.isStrOf s e.key)=some e∧RelV v e.val∧∀ H,Dp K H v d
  | [],[],_=>rfl
  | e::es,(x,d)::r,h=>by
    obtain ⟨⟨t,ht⟩,⟨v,rv,pv⟩,hr⟩:=h
    have ih:=zw.find s hr
    unfold GK at ih ⊢
    rw[List.find?_cons,List.find?_cons,ht,ve]
    by_cases hx:x=s
    · simp only[decide_eq_true hx,Option.map_some]
      exact ⟨e,v,rfl,rv,pv⟩
    · simp only[decide_eq_false hx]
      exact ih
  | [],_::_,h=>False.elim h
  | _::_,[],h=>False.elim h
section
variable {X:Cx} {a b c e:Expr} {Ta Tb Te:ETr} {pos gpos:Pos} {x:Str} {kvs:List (Str×D)}
end
def Hw (b:Bool):D→Bool
  | .bl c=>c == b
  | _=>false
def tX (neg:Bool):DR2:=fun x y μ Q=>match y with
  | .bl b=>Q (.bl (if neg then !Hw b x else Hw b x)) μ
  | _=>False
def iJ (b:Bool):V→Bool
  | .bl c=>c == b
  | _=>false
theorem uM {K:PySem.W.Frag}{H:Hp}{v:V}{d:D}(b:Bool)(h:Dp K H v d):iJ b v=Hw b d:=by cases h<;>rfl
theorem ui {v:V}{u:Value}(b:Bool)(r:RelV v u):plainIs u (.bool b)=true∧(u == .bool b)=iJ b v:=by
  cases v with
  | bl c=>cases r;exact ⟨rfl,by cases b<;>cases c<;>decide⟩
  | int i=>obtain ⟨t,rfl⟩:=r;exact ⟨rfl,by simp[iJ,beq_eq_false_iff_ne]⟩
  | str i=>obtain ⟨t,rfl⟩:=r;exact ⟨rfl,by simp[iJ,beq_eq_false_iff_ne]⟩
  | flt i=>obtain ⟨t,rfl⟩:=r;exact ⟨rfl,by simp[iJ,beq_eq_false_iff_ne]⟩
  | byt i=>obtain ⟨t,rfl⟩:=r;exact ⟨rfl,by simp[iJ,beq_eq_false_iff_ne]⟩
  | _=>cases r;exact ⟨rfl,by simp[iJ,beq_eq_false_iff_ne]⟩
theorem HE {X:Cx}:OpR X (compareOp .Is) (fun x y H Q=>∃ b,y=.bl b∧Q (.bl (iJ b x)) H):=by
  intro pins s σ H x y v u Q I rx ry h
  obtain ⟨b,rfl,q⟩:=h
  cases (show u=Value.bool b from ry)
  obtain ⟨h1,h2⟩:=ui b rx
  exact wpAny_is_plain h1 (by rw[h2];exact ⟨.bl _,H,I,rfl,q⟩)
theorem F0 {X:Cx}:OpR X (compareOp .IsNot) (fun x y H Q=>∃ b,y=.bl b∧Q (.bl (!iJ b x)) H):=by
  intro pins s σ H x y v u Q I rx ry h
  obtain ⟨b,rfl,q⟩:=h
  cases (show u=Value.bool b from ry)
  obtain ⟨h1,h2⟩:=ui b rx
  exact wpAny_isNot_plain h1 (by rw[h2];exact ⟨.bl _,H,I,rfl,q⟩)
theorem F9 {K:PySem.W.Frag}:fW K (fun x y H Q=>∃ b,y=.bl b∧Q (.bl (iJ b x)) H) (tX false):=fun H μ x y dx dy Q Q' m px py h k=>by
  cases py with
  | bl b=>exact ⟨b,rfl,k _ H _ μ (.refl H) m (by rw[uM b px];exact .bl _) h⟩
  | _=>exact False.elim h
theorem C1 {K:PySem.W.Frag}:fW K (fun x y H Q=>∃ b,y=.bl b∧Q (.bl (!iJ b x)) H) (tX true):=fun H μ x y dx dy Q Q' m px py h k=>by
  cases py with
  | bl b=>exact ⟨b,rfl,k _ H _ μ (.refl H) m (by rw[uM b px];exact .bl _) h⟩
  | _=>exact False.elim h
section
variable {X:Cx} {a b:Expr} {Ta Tb:ETr} {pos:Pos}
theorem Ia (ha:LE X a Ta)(hb:LE X b Tb):LE X (.Compare a [.Is] [b] pos) (aj (tX false) Ta Tb):=iT HE F9 ha hb (dX _)
theorem zU (ha:LE X a Ta)(hb:LE X b Tb):LT X (.Compare a [.IsNot] [b] pos) (TB (aj (tX true) Ta Tb)):=ff F0 C1 ha hb (dX _)
end
end
section
open PySem PySem.Spec PyProof.Rows L2
def a5 (kvs:List (Key×D))(k:Key):Option D:=(kvs.find? fun kv=>decide (kv.1=k)).map (·.2)
def putD (kvs:List (Key×D))(k:Key)(v:D):List (Key×D):=
  if (kvs.any fun kv=>decide (kv.1=k))=true then kvs.map (fun kv=>if kv.1=k then (kv.1,v) else kv) else kvs++[(k,v)]
def pP (x:D)(f:Key→Prop):Prop:=match x with
  | .int i=>f (.inl i)
  | .str s=>f (.inr s)
  | _=>False
theorem DpK.nil {K:PySem.W.Frag}{H:Hp}:DpK K H [] []:=⟨rfl,.nil⟩
theorem DpK.cons {K:PySem.W.Frag}{H:Hp}{k:Key}{v:V}{d:D}{xs:List (Key×V)}{kvs:List (Key×D)}(h:Dp K H v d)(r:DpK K H xs kvs):DpK K H ((k,v)::xs) ((k,d)::kvs):=
  ⟨by simp[r.1],.cons h r.2⟩
theorem DpK.ind {K:PySem.W.Frag}{H:Hp}{P:List (Key×V)→List (Key×D)→Prop}(h0:P [] [])(h1:∀ k v d xs kvs,Dp K H v d→DpK K H xs kvs→P xs kvs→P ((k,v)::xs) ((k,d)::kvs)) :
    ∀ {xs:List (Key×V)} {kvs:List (Key×D)},DpK K H xs kvs→P xs kvs
  | [],[],_=>h0
  | [],_::_,h=>by cases h.1
  | _::_,[],h=>by cases h.1
  | (k,v)::xs,(k',d)::kvs,h=>by
    obtain ⟨h2,h3⟩:=h
    simp only[List.map_cons,List.cons.injEq] at h2
    obtain ⟨rfl,h2⟩:=h2
    cases h3 with
    | cons p l=>exact h1 k v d xs kvs p ⟨h2,l⟩ (DpK.ind h0 h1 ⟨h2,l⟩)
theorem DpK.look {K:PySem.W.Frag}{H:Hp}{xs:List (Key×V)}{kvs:List (Key×D)}(h:DpK K H xs kvs)(k:Key) :
    (a5 kvs k=none∧gI xs k=none)∨∃ v d,a5 kvs k=some d∧gI xs k=some v∧Dp K H v d:=by
  refine DpK.ind (P:=fun xs kvs=>(a5 kvs k=none∧gI xs k=none)∨∃ v d,a5 kvs k=some d∧gI xs k=some v∧Dp K H v d) (.inl ⟨rfl,rfl⟩) (fun j v d xs kvs p _ ih=>?_) h
  by_cases e:j=k
  · refine .inr ⟨v,d,?_,kh (p:=(j,v)) e,p⟩
    unfold a5;rw[List.find?_cons];simp[e]
  · have e1:a5 ((j,d)::kvs) k=a5 kvs k:=by unfold a5;rw[List.find?_cons];simp[e]
    rw[e1,j4 (p:=(j,v)) e]
    exact ih
theorem DpK.any {K:PySem.W.Frag}{H:Hp}{xs:List (Key×V)}{kvs:List (Key×D)}(h:DpK K H xs kvs)(k:Key):(xs.any fun kv=>decide (kv.1=k))=kvs.any fun kv=>decide (kv.1=k):=by
  refine DpK.ind (P:=fun xs kvs=>(xs.any fun kv=>decide (kv.1=k))=kvs.any fun kv=>decide (kv.1=k)) rfl (fun j v d xs kvs p _ ih=>?_) h
  rw[List.any_cons,List.any_cons,ih]
theorem DpK.put {K:PySem.W.Frag}{H:Hp}{xs:List (Key×V)}{kvs:List (Key×D)}(h:DpK K H xs kvs)(k:Key){v:V}{d:D}(p:Dp K H v d):DpK K H (putK xs k v) (putD kvs k d):=by
  unfold putK putD
  rw[h.any k]
  split
  · refine DpK.ind (P:=fun xs kvs=>DpK K H (xs.map fun kv=>if kv.1=k then (kv.1,v) else kv) (kvs.map fun kv=>if kv.1=k then (kv.1,d) else kv)) .nil (fun j v' d' xs kvs p' _ ih=>?_) h
    rw[List.map_cons,List.map_cons]
    by_cases e:j=k
    · rw[if_pos e,if_pos e];exact .cons p ih
    · rw[if_neg e,if_neg e];exact .cons p' ih
  · refine DpK.ind (P:=fun xs kvs=>DpK K H (xs++[(k,v)]) (kvs++[(k,d)])) (.cons p .nil) (fun j v' d' xs kvs p' _ ih=>?_) h
    exact .cons p' ih
theorem DpK.length {K:PySem.W.Frag}{H:Hp}{xs:List (Key×V)}{kvs:List (Key×D)}(h:DpK K H xs kvs):xs.length=kvs.length:=by
  have:=h.2.length
  simpa using this
theorem iI {K:PySem.W.Frag}{H:Hp}{y:V}{dy:D}{f:Key→Prop}(p:Dp K H y dy)(h:pP dy f):∃ k,y=kV k∧f k:=by
  cases p with
  | int i=>exact ⟨.inl i,rfl,h⟩
  | str s=>exact ⟨.inr s,rfl,h⟩
  | _=>exact False.elim h
theorem eP {K:PySem.W.Frag}{H:Hp}{x:V}{dx:D}{f:Addr→Prop}(p:Dp K H x dx)(h:kObj dx f):∃ a,x=.ref a∧f a:=by
  cases p with
  | obj a=>exact ⟨a,rfl,h⟩
  | _=>exact False.elim h
theorem wc {H:Hp}{q:Addr}{u:HO}{xs:List (Key×V)}(ex:H q=some (.dK xs)):Tk H (L2.upd H q u):=
  .upd (fun ys z=>by rw[ex] at z;cases z) fun o' w z=>by rw[ex] at z;cases z
theorem Jd {K:PySem.W.Frag}{H:Hp}{μ:Mu}{q:Addr}{xs ys:List (Key×V)}{ds:List (Key×D)}(m:bG K H μ)(ex:H q=some (.dK xs))(l:DpK K H ys ds):bG K (L2.upd H q (.dK ys)) (up μ q (.dct ds)):=fun z y ez=>by
  by_cases zq:z=q
  · subst zq
    rw[aD] at ez;cases ez
    exact ⟨ys,aG,l.mono (wc ex)⟩
  · rw[aU zq] at ez
    exact (m z _ ez).ne (wc ex) zq
theorem zS {K:PySem.W.Frag}{H:Hp}{μ:Mu}{q:Addr}{ys:List (Key×V)}{ds:List (Key×D)}(m:bG K H μ)(hq:H q=none)(l:DpK K H ys ds):bG K (L2.upd H q (.dK ys)) (up μ q (.dct ds)):=fun z y ez=>by
  by_cases zq:z=q
  · subst zq
    rw[aD] at ez;cases ez
    exact ⟨ys,aG,l.mono (.new hq)⟩
  · rw[aU zq] at ez
    exact cR m hq z y ez
section
variable {X:Cx} {o i a b c e value:Expr} {To Ti Ta Tb Te:ETr} {pos tpos:Pos}
theorem hu1 (hu:X.A.units+64 < cLine):X.A.units+1 < cLine:=by omega
def iF (To Ti:ETr):ETr:=fun ρ μ Q=>To ρ μ fun x μ1=>Ti ρ μ1 fun y μ2=>kObj x fun a=>kD μ2 a fun kvs=>pP y fun k=>kO (a5 kvs k) fun d=>Q d μ2
theorem eu (hu:X.A.units+64 < cLine)(ho:LE X o To)(hi:LE X i Ti)(hs:Hf i:=by intro _ _;rfl):LE X (.Subscript o i pos) (iF To Ti):=by
  obtain ⟨to,po,so⟩:=ho.ex
  obtain ⟨ti,pi,si⟩:=hi.ex
  refine ⟨_,EX (hu1 hu) po pi hs,fun σ H ρ μ Q Q' rl h k=>so σ H ρ μ _ _ rl h fun x H1 dx μ1 t1 m1 p1 h1=>si σ H1 ρ μ1 _ _ (rl.go t1 m1) h1 fun y H2 dy μ2 t2 m2 p2 h2=>?_⟩
  obtain ⟨q,rfl,h2⟩:=eP p1 h2
  obtain ⟨kvs,e0,h2⟩:=jD h2
  obtain ⟨kk,rfl,h2⟩:=iI p2 h2
  obtain ⟨d,e1,h2⟩:=kR h2
  obtain ⟨xs,ex,l⟩:=m2 q _ e0
  rcases l.look kk with ⟨z,_⟩ | ⟨v,d',z,ev,pv⟩
  · rw[z] at e1;cases e1
  · rw[z] at e1;cases e1
    exact ⟨q,v,rfl,by rw[← ev];exact ki.k ex,k _ H2 _ μ2 (t1.trans t2) m2 pv h2⟩
def r9 (neg:Bool)(Ti To:ETr):ETr:=fun ρ μ Q=>Ti ρ μ fun y μ1=>To ρ μ1 fun x μ2=>kObj x fun a=>kD μ2 a fun kvs=>pP y fun k=>Q (.bl (if neg then !(a5 kvs k).isSome else (a5 kvs k).isSome)) μ2
theorem lK {K:PySem.W.Frag}{H:Hp}{xs:List (Key×V)}{kvs:List (Key×D)}(l:DpK K H xs kvs)(k:Key):(gI xs k).isSome=(a5 kvs k).isSome:=by
  rcases l.look k with ⟨a,b⟩ | ⟨v,d,a,b,_⟩ <;> rw[a,b]<;>rfl
theorem FP {ti to:TE}{K:PySem.W.Frag}(si:Sim K ti Ti)(so:Sim K to To):Sim K (K7 ti to) (r9 false Ti To):=fun σ H ρ μ Q Q' rl h k=>
  si σ H ρ μ _ _ rl h fun y H1 dy μ1 t1 m1 p1 h1=>so σ H1 ρ μ1 _ _ (rl.go t1 m1) h1 fun x H2 dx μ2 t2 m2 p2 h2=>by
    obtain ⟨q,rfl,h2⟩:=eP p2 h2
    obtain ⟨kvs,e0,h2⟩:=jD h2
    obtain ⟨kk,rfl,h2⟩:=iI p1 h2
    obtain ⟨xs,ex,l⟩:=m2 q _ e0
    exact ⟨q,_,rfl,ki.k ex,k _ H2 _ μ2 (t1.trans t2) m2 (.bl _) (by rw[lK l];exact h2)⟩
theorem xH {ti to:TE}{K:PySem.W.Frag}(si:Sim K ti Ti)(so:Sim K to To):Sim K (yT ti to) (r9 true Ti To):=fun σ H ρ μ Q Q' rl h k=>
  si σ H ρ μ _ _ rl h fun y H1 dy μ1 t1 m1 p1 h1=>so σ H1 ρ μ1 _ _ (rl.go t1 m1) h1 fun x H2 dx μ2 t2 m2 p2 h2=>by
    obtain ⟨q,rfl,h2⟩:=eP p2 h2
    obtain ⟨kvs,e0,h2⟩:=jD h2
    obtain ⟨kk,rfl,h2⟩:=iI p1 h2
    obtain ⟨xs,ex,l⟩:=m2 q _ e0
    exact ⟨q,_,rfl,ki.k ex,k _ H2 _ μ2 (t1.trans t2) m2 (.bl _) (by rw[lK l];exact h2)⟩
def zE (To Ti Te:ETr):STr:=fun E ρ μ=>Te ρ μ fun v μ1=>To ρ μ1 fun x μ2=>Ti ρ μ2 fun y μ3=>kObj x fun a=>kD μ3 a fun kvs=>pP y fun k=>kvs.length < 1000000∧E.nx ρ (up μ3 a (.dct (putD kvs k v)))
theorem y6 (hu:X.A.units+64 < cLine)(ho:LE X o To)(hi:LE X i Ti)(he:LE X value Te)(hs:swapsWith value (some (.Subscript o i tpos)) pos.line X.env=pure false:=by rfl) :
    LS X (.Assign [.Subscript o i tpos] value pos) (zE To Ti Te):=by
  obtain ⟨to,po,so⟩:=ho.ex
  obtain ⟨ti,pi,si⟩:=hi.ex
  obtain ⟨te,pe,se⟩:=he.ex
  refine ⟨_,Eo (hu1 hu) po pi pe hs,fun σ H ρ μ E E' rl h k=>se σ H ρ μ _ _ rl h fun v H1 dv μ1 t1 m1 p1 h1=>so σ H1 ρ μ1 _ _ (rl.go t1 m1) h1 fun x H2 dx μ2 t2 m2 p2 h2=>
    si σ H2 ρ μ2 _ _ (rl.go (t1.trans t2) m2) h2 fun y H3 dy μ3 t3 m3 p3 h3=>?_⟩
  obtain ⟨q,rfl,h3⟩:=eP p2 h3
  obtain ⟨kvs,e0,h3⟩:=jD h3
  obtain ⟨kk,rfl,h3⟩:=iI p3 h3
  obtain ⟨xs,ex,l⟩:=m3 q _ e0
  have t4:Tk H3 (L2.upd H3 q (.dK (putK xs kk v))):=wc ex
  have t14:=t1.trans (t2.trans (t3.trans t4))
  refine ⟨q,_,rfl,yd.k ex (by rw[l.length];exact Nat.lt_of_lt_of_le h3.1 (by decide)),k.nx _ _ ρ _ t14 (rl.go t14 (Jd m3 ex (l.put kk (p1.mono (t2.trans t3))))) h3.2⟩
def EO (f:Int→Int→Int)(i:Nat)(Te:ETr):STr:=fun E ρ μ=>kO (lk ρ i) fun d=>kI d fun m=>Te ρ μ fun w μ1=>kI w fun n=>ax i (.int (f m n)) ρ μ1 E.nx
theorem Gb {te:TE}{K:PySem.W.Frag}{f:Int→Int→Int}{j:Nat}(se:Sim K te Te):EA K (Lr j te (ipI f)) (EO f j Te):=fun σ H ρ μ E E' rl h k=>by
  obtain ⟨d,e1,h⟩:=kR h
  obtain ⟨v,ev,pv⟩:=rl.loc j d e1
  cases pv with
  | int m=>
    refine ⟨.int m,ev,se σ H ρ μ _ _ rl h fun w H1 dw μ1 t1 m1 p1 h1=>?_⟩
    cases p1 with
    | int n=>exact ⟨m,n,rfl,rfl,k.nx _ _ _ _ t1 ((rl.go t1 m1).set (.int _) j) h1⟩
    | _=>exact False.elim h1
  | _=>exact False.elim h
theorem AO (j:Nat){x:Str}(hN:X.N.Nodup)(he:LE X e Te)(hi:X.N[j]? = some x:=by rfl)(hx:Loc X.env.scope x:=by first | exact Or.inl rfl | exact Or.inr rfl)(hf:X.fn x=true∨X.env.scope.names.lookup x=some .local:=by first | exact .inl rfl | exact .inr rfl | assumption) :
    LS X (.AugAssign (.Name x tpos) .Add e pos) (EO (fun m n=>m+n) j Te):=by
  obtain ⟨te,pe,se⟩:=he.ex
  exact ⟨_,Jo hN hi hx pe Hm hf,Gb se⟩
theorem ET:LE X (.Dict [] [] pos) (fun ρ μ Q=>∀ p,μ p=none→Q (.obj p) (up μ p (.dct []))):=
  ⟨_,CV,fun σ H ρ μ Q Q' rl h k p hp=>k _ _ _ _ (.new hp) (zS rl.mu hp .nil) (.obj p) (h p (rl.mu.free hp))⟩
theorem DpK.zip {K:PySem.W.Frag}{H:Hp}:∀ {ks:List Key} {vs:List V} {ds:List D},DpL K H vs ds→DpK K H (ks.zip vs) (ks.zip ds)
  | [],_,_,_=>by simp;exact .nil
  | _::_,_,_,.nil=>by simp;exact .nil
  | k::ks,_,_,.cons p l=>.cons p (DpK.zip l)
end
end
section
open PySem PySem.Spec PyProof.Rows L2
theorem z4:typeLookup (.type "list") (Str.ofString "keys")=pure none:=am_miss_of_fast (by kernel_rfl)
theorem J3 {prog:Program}{w:World}{A:Around}{E:Value→Shared→Prop}{s:Shared}{a:Addr}{o:Obj}{xs:Array Value}{k:Nat}{Q:Option Value→Shared→Prop}
    (hx:s.heap.get? a=some o) (hc:o.cls=.type "list") (hdat:o.data=.seq xs k) (hd:o.dict=none) (hA:A.handled=none)
    (h:∀ h' tk,(∀ b ob,s.heap.get? b=some ob→h'.get? b=some ob)→Q none { s with heap:=h',toks:=tk }) :
    wpAny (model prog w) A (getAttr? (.ref a) "keys") Q E s:=by
  obtain ⟨c,dct,dat,sl⟩:=o
  simp only at hc hdat hd
  subst hc hdat hd
  obtain ⟨hp,g,d,tk,os⟩:=s
  have hT:∀ tk',(⟨hp,g,d,tk',os⟩:Shared).TypeIs (.ref a) "list" := fun _=>⟨_,hx,rfl⟩
  have f1:=sub_AttributeError
  have f3:=F.slot_list_getattribute.lookup
  have f4:=F.slot_list_getattribute.bind (.ref a)
  have f5:=am_list_getattr_none
  unfold getAttr? getAttrBy? getAttrBy
  repeat (any_goals (first | assumption | exact hT _ | ((with_reducible show wpAny _ _ (call (Value.builtin "list.__getattribute__") _ _) _ _ _);refine call_meets F.slot_list_getattribute (hT _) am_entry_list_getattribute (F.args_list_getattribute_2 _ _) (meets_getattribute_miss_list a xs k sl (Str.ofString "keys") _ z4 (by decide +kernel) (by decide +kernel)) ⟨hx,hA,fun h' tk' e hx'=>?_⟩) | wp_step))
  obtain ⟨t',u',he⟩:=hx'.there
  show wpAny _ _ (getattributeRaised _ _ _ _ _ _ _) _ _ _
  unfold getattributeRaised
  repeat (any_goals (first | assumption | wp_step))
  exact h _ _ hx'.keeps
theorem j9:plainId "dict.update.loop" = true:=by decide +kernel
theorem uP:entryFor table "dict.update.loop" = some Builtin.«dict.update.loop»:=entryFor_of_fast (by kernel_rfl)
inductive eh {prog:Program} {w:World} {κ:Type} [DecidableEq κ] (knd:KeyKind prog w κ) (h:Heap):List Value→List (κ×Value)→Prop
  | nil:eh knd h [] []
  | cons {a:Addr} {u v:Value} {k:κ} {us:List Value} {r:List (κ×Value)}:IsTup h a #[u,v]→knd.is k u=true→eh knd h us r→eh knd h (.ref a::us) ((k,v)::r)
section
variable {prog:Program} {w:World} {κ:Type} [DecidableEq κ] {knd:KeyKind prog w κ}
theorem eh.keeps {h h':Heap}(kp:∀ b o,h.get? b=some o→o.cls=.type "tuple" → h'.get? b=some o):∀ {us:List Value} {r:List (κ×Value)},eh knd h us r→eh knd h' us r
  | _,_,.nil=>.nil
  | _,_,.cons t k r=>.cons (by obtain ⟨o,e,c,n,d⟩:=t;exact ⟨o,kp _ o e c,c,n,d⟩) k (r.keeps kp)
theorem v9 {A:Around}{R:Result→Shared→Prop}{d it l:Addr}{items:Array Value}(hA:A.handled=none)(n1:d≠it)(n2:l≠it)(n3:l≠d) :
    ∀ (us:List Value) (r:List (κ×Value)) (i:Nat) (kvs:List (κ×Value)) (s:Shared),items.toList.drop i=us→eh knd s.heap us r→s.heap.IsListIter it l i→s.heap.IsList l items→s.heap.DictOf knd d kvs→kvs.length+r.length≤sizeLine→
      (∀ h' tk,h'.DictOf knd d (merged kvs r)→(∀ b o,b≠it→b≠d→s.heap.get? b=some o→h'.get? b=some o)→R (.ok (.ret .none)) { s with heap:=h',toks:=tk })→
      wpAny (model prog w) A.in1 (Builtin.«dict.update.loop» ⟨[.ref d,.ref it,rawInt i,.none],[]⟩) (fun fin s'=>match fin with | .done f=>R (.ok f) s' | .again c'=>c'.quiet=true∧codeAny (model prog w) A c' R s') (fun e s'=>R (.error e) s') s
  | [],r,i,kvs,s,hd,P,hit,hl,hm,hz,h=>by
    cases P
    have hx:items[i]? = none:=by
      have:items.toList.length≤i:=by
        have:=congrArg List.length hd
        simp at this;simp;omega
      simpa using this
    show wpAny _ _ (pyNext (.ref it) >>= _) _ _ _
    refine wpAny_bind (wpAny_pyNext_list_end (by exact hA) hit hl hx fun h' k=>?_)
    show wpAny _ _ (Builtin.Dict.addKeywords d [] >>= _) _ _ _
    refine wpAny_bind (wpAny_pure (wpAny_pure ?_))
    refine h h' s.toks ?_ fun b o hb _ e=>k b o hb e
    obtain ⟨o,es,ep,ho,rest⟩:=hm
    exact ⟨o,es,ep,k d o n1 ho,rest⟩
  | u::us,r,i,kvs,s,hd,P,hit,hl,hm,hz,h=>by
    cases P with
    | @cons a ku v k _ r tp hk P=>
    have hx:items[i]? = some (.ref a):=by
      have:items.toList[i]? = some (.ref a):=by
        have:=congrArg (fun l=>l[0]?) hd
        simpa using this
      simpa using this
    have hd':items.toList.drop (i+1)=us:=by
      have:=congrArg List.tail hd
      simpa using this
    show wpAny _ _ (pyNext (.ref it) >>= _) _ _ _
    refine wpAny_bind (wpAny_pyNext_list_item hit hl hx fun h1 it1 k1=>?_)
    have ne_it:∀ b o,s.heap.get? b=some o→o.cls≠.type "list_iterator" → b≠it:=fun b o e c z=>by
      subst z
      obtain ⟨o',e',c',_⟩:=hit
      rw[e] at e';cases e';exact c c'
    have tp1:IsTup h1 a #[ku,v]:=by
      obtain ⟨o,e,c,n,dd⟩:=tp
      exact ⟨o,(k1.2 a (ne_it a o e (by rw[c];decide))).trans e,c,n,dd⟩
    obtain ⟨o,e,c,n,dd⟩:=tp1
    have hm1:h1.DictOf knd d kvs:=by
      obtain ⟨o,es,ep,ho,rest⟩:=hm
      exact ⟨o,es,ep,(k1.2 d n1).trans ho,rest⟩
    have hl1:h1.IsList l items:=by
      obtain ⟨o,e,c,n,dd⟩:=hl
      exact ⟨o,(k1.2 l n2).trans e,c,n,dd⟩
    dsimp only
    refine wpAny_bind (wpAny_holding ?_)
    refine wpAny_bind (wpAny_tryCatch ?_)
    unfold Builtin.Dict.pairItems
    refine wpAny_bind (wpAny_typeOf (T := "tuple") ⟨o,e,c⟩ ?_)
    rw[if_pos (by decide)]
    refine wpAny_bind (wpAny_seqItems e dd (wpAny_pure ?_))
    show wpAny _ _ (holding [ku,v] (dictSet d ku v)) _ _ _
    refine wpAny_holding (wpAny_dictSet_pairs (hsz:=by have:=hz;simp at this;omega) hk hm1 fun h2 hm2 k2=>?_)
    refine wpAny_pure ?_
    refine ⟨plainId_quiet j9 _,codeAny_builtin uP ?_⟩
    rw[Around.under_plainId j9 _]
    have kp:∀ b o,b≠it→b≠d→s.heap.get? b=some o→h2.get? b=some o:=fun b o b1 b2 q=>(k2.2 b b2).trans ((k1.2 b b1).trans q)
    have ci:((i:Int)+1)=((i+1:Nat):Int):=by push_cast;rfl
    have nd:∀ b o,s.heap.get? b=some o→o.cls≠.type "dict" → b≠d:=fun b o q c z=>by
      subst z
      obtain ⟨o',_,_,e',ex,_⟩:=hm
      rw[q] at e';cases e';exact c ex.1
    show wpAny _ _ (Builtin.«dict.update.loop» ⟨[.ref d,.ref it,rawInt ((i:Int)+1),.none],[]⟩) _ _ _
    rw[ci]
    refine v9 hA n1 n2 n3 us r (i+1) (stored kvs k v) _ hd' (P.keeps fun b o q c=>kp b o (ne_it b o q (by rw[c];decide)) (nd b o q (by rw[c];decide)) q) ?_ ?_ hm2 ?_ ?_
    · obtain ⟨o,e,c⟩:=it1
      exact ⟨o,(k2.2 it (Ne.symm n1)).trans e,c⟩
    · obtain ⟨o,e,c⟩:=hl1
      exact ⟨o,(k2.2 l n3).trans e,c⟩
    · have:=stored_length_le kvs k v
      simp at hz;omega
    · intro h' tk hm' kp'
      exact h h' tk hm' fun b o b1 b2 q=>kp' b o b1 b2 (kp b o b1 b2 q)
end
end
section
open PySem PySem.Spec PyProof.Rows L2
section
variable {prog:Program} {w:World} {κ:Type} [DecidableEq κ] {knd:KeyKind prog w κ}
theorem me {A:Around}{E:Value→Shared→Prop}{s:Shared}{l:Addr}{o:Obj}{items:Array Value}{k:Nat}{r:List (κ×Value)}{Q:Value→Shared→Prop}(hA:A.handled=none)
    (hx:s.heap.get? l=some o) (hc:o.cls=.type "list") (hdat:o.data=.seq items k) (hd:o.dict=none) (P:eh knd s.heap items.toList r) (hz:r.length≤sizeLine)
    (h:∀ h' tk,h'.DictOf knd s.heap.objs.size (merged [] r)→(∀ b o,s.heap.get? b=some o→h'.get? b=some o)→Q (.ref s.heap.objs.size) { s with heap:=h',toks:=tk }) :
    wpAny (model prog w) A (call (.type "dict") [.ref l]) Q E s:=by
  refine callType_codes (Q₁:=fun obj s₁=>obj=.ref s.heap.objs.size∧s₁={ s with heap:=s.heap.push { cls:=.type "dict", data:=.dict #[] } }) F.kt_called_dict (F.kt_typeCall_dict_1 _) F.entry_dict_init (kt_code_dict_new _ ⟨rfl,rfl⟩) ?_
  rintro obj s₁ ⟨rfl,rfl⟩
  have FN:(s.heap.push { cls:=.type "dict", data:=.dict #[] }).DictOf knd s.heap.objs.size []:=Heap.DictOf.new s.heap
  have hx1:(s.heap.push { cls:=.type "dict", data:=.dict #[] }).get? l=some o:=Heap.get?_push_of_some _ hx
  have ll:l < s.heap.objs.size:=Heap.lt_size hx
  refine ⟨FN.typeIs,F.args_dict_init_2 _ _,?_⟩
  unfold Builtin.«dict.__init__»
  refine wpAny_bind ?_
  unfold Builtin.Dict.selfAndRest
  refine wpAny_bind (wpAny_notOrdered_dict FN.typeIs ?_)
  show wpAny _ _ (pure (s.heap.objs.size,[Value.ref l])) _ _ _
  refine wpAny_pure ?_
  show wpAny _ _ (Builtin.Dict.updateFrom "dict.__init__" s.heap.objs.size (.ref l) [] .none) _ _ _
  unfold Builtin.Dict.updateFrom
  refine wpAny_bind (wpAny_typeOf (T := "list") ⟨o,hx1,hc⟩ ?_)
  rw[if_pos (by decide)]
  refine wpAny_bind (J3 hx1 hc hdat hd hA fun h1 tk1 kp1=>?_)
  rw[if_pos (by decide)]
  refine wpAny_bind (wpAny_rule ?_)
  have hx2:h1.get? l=some o:=kp1 _ _ hx1
  have hl2:h1.IsList l items:=⟨o,hx2,hc,k,hdat⟩
  have lt1:s.heap.objs.size < h1.objs.size:=by
    obtain ⟨o',es,ep,ho,_⟩:=FN
    exact Heap.lt_size (kp1 _ _ ho)
  refine wpAny_bind (wpAny_pyIter_list hl2 ?_)
  refine wpAny_bind (wpAny_pure (wpAny_pure ?_))
  refine ⟨plainId_quiet j9 _,codeAny_builtin uP ?_⟩
  rw[Around.under_plainId j9 _]
  have kp2:∀ b o,s.heap.get? b=some o→(h1.push { cls:=.type "list_iterator", data:=.fields #[.ref l,.int 0 0] }).get? b=some o:=fun b o q=>Heap.get?_push_of_some _ (kp1 _ _ (Heap.get?_push_of_some _ q))
  refine v9 (A:=A.in1) (knd:=knd) (it:=h1.objs.size) (d:=s.heap.objs.size) (l:=l) (items:=items) (R:=wants (fun r s₂=>r=Value.none∧Q (Value.ref s.heap.objs.size) s₂) E) hA (Nat.ne_of_lt lt1) (Nat.ne_of_lt (Nat.lt_trans ll lt1)) (Nat.ne_of_lt ll) items.toList r 0 [] _ rfl ?_ ?_ ?_ ?_ (by simpa using hz) ?_
  · exact P.keeps fun b o q _=>kp2 b o q
  · exact ⟨_,Heap.get?_push_size _ rfl,rfl,rfl⟩
  · exact ⟨o,Heap.get?_push_of_some _ hx2,hc,k,hdat⟩
  · obtain ⟨o',es,ep,ho,rest⟩:=FN
    exact ⟨o',es,ep,Heap.get?_push_of_some _ (kp1 _ _ ho),rest⟩
  · intro h' tk hm' kp'
    refine ⟨rfl,h h' tk hm' fun b o q=>?_⟩
    have hb:b < s.heap.objs.size:=Heap.lt_size q
    exact kp' b o (Nat.ne_of_lt (Nat.lt_trans hb lt1)) (Nat.ne_of_lt hb) (kp2 b o q)
end
def dK:Key→D
  | .inl i=>.int i
  | .inr s=>.str s
def wX (kv:Key×D):D:=.tup [dK kv.1,kv.2]
def fj (kvs more:List (Key×D)):List (Key×D):=more.foldl (fun acc kv=>putD acc kv.1 kv.2) kvs
inductive dW (K:PySem.W.Frag) (H:Hp):List V→List (Key×V)→Prop
  | nil:dW K H [] []
  | cons {a:Addr} {k:Key} {v:V} {ys:List V} {r:List (Key×V)}:SqT K H a [kV k,v]→dW K H ys r→dW K H (.ref a::ys) ((k,v)::r)
theorem dW.at {X:Cx}{pins:List (Addr×Obj)}{σ:L2.St}{H:Hp}{s:Shared}(I:Inv X pins σ H s):∀ {ys:List V} {kvs:List (Key×V)} {us:List Value},dW X.K H ys kvs→Vals ys us→∃ r,eh (bE X.prog X.w) s.heap us r∧KV kvs r
  | _,_,_,.nil,.nil=>⟨[],.nil,.nil⟩
  | _,_,_,@dW.cons _ _ a k v ys r sq h,.cons ru rs=>by
    cases (show _=Value.ref a from ru)
    obtain ⟨r,p,q⟩:=h.at I rs
    obtain ⟨its,vs,it,_⟩:=I.tuple sq
    cases vs with | @cons _ u1 _ _ r1 vs=>cases vs with | @cons _ u2 _ _ r2 vs=>
    cases vs
    exact ⟨(k,u2)::r,.cons it (oX r1) p,.cons ⟨rfl,r2⟩ q⟩
theorem xP {X:Cx}(hc:X.calm=true):bQ X (.type "dict") (fun xs H Q=>∃ l ys kvs,xs=[.ref l]∧SqL X.K H l ys∧dW X.K H ys kvs∧kvs.length≤sizeLine∧∀ p,H p=none→Q (.ref p) (L2.upd H p (.dK (f7 [] kvs)))):=by
  intro pins s σ H xs us Q I rx h
  obtain ⟨l,ys,kvs,rfl,sq,pv,hz,q⟩:=h
  obtain ⟨u,rfl,ru⟩:=vals1 rx
  cases (show u=Value.ref l from ru)
  obtain ⟨its,vs,pl,_⟩:=I.list sq
  obtain ⟨o,n,e,c,hd,hdat⟩:=pl
  obtain ⟨r,pr,kv⟩:=pv.at I vs
  refine me (knd:=bE X.prog X.w) (I.ok.hd hc) e c hdat hd (r:=r) (by simpa using pr) (by rw[← kv.length];exact hz) fun h' tk dd kp=>?_
  have hl:(f7 [] kvs).length≤sizeLine:=by have:=i4 kvs [];simp at this;omega
  exact ⟨.ref s.heap.objs.size,_,I.laid (a:=s.heap.objs.size) (o:=.dK (f7 [] kvs)) kp (Nat.le_refl _) (CU hl (beq_eq_false_iff_ne.mpr (Ne.symm (Nat.ne_of_lt I.big))) (KV.merge kv .nil) dd),rfl,q _ (I.hok.fresh (Nat.le_refl _))⟩
def yS:FSp:=fun ds μ Q=>match ds with
  | [.ls xs]=>∃ kvs:List (Key×D),xs=kvs.map wX∧kvs.length≤1000000∧∀ p,μ p=none→Q (.obj p) (up μ p (.dct (fj [] kvs)))
  | _=>False
theorem JP {K:PySem.W.Frag}{H:Hp}{v:V}{k:Key}(h:Dp K H v (dK k)):v=kV k:=by
  cases k with
  | inl i=>cases h;rfl
  | inr s=>cases h;rfl
theorem dW.of {K:PySem.W.Frag}{H:Hp}:∀ {kvs:List (Key×D)} {xs:List V},DpL K H xs (kvs.map wX)→∃ r,dW K H xs r∧DpK K H r kvs
  | [],_,h=>by cases h;exact ⟨[],.nil,.nil⟩
  | kv::kvs,_,h=>by
    obtain ⟨k,d⟩:=kv
    cases h with
    | cons p l=>
      obtain ⟨r,h1,h2⟩:=dW.of l
      cases p with
      | tup sq lp=>
        cases lp with | cons p1 lp=>cases lp with | cons p2 lp=>
        cases lp
        cases JP p1
        exact ⟨(k,_)::r,.cons sq h1,.cons p2 h2⟩
theorem DpK.merge {K:PySem.W.Frag}{H:Hp}{xs:List (Key×V)}{kvs:List (Key×D)}(h:DpK K H xs kvs):∀ {axs:List (Key×V)} {akvs:List (Key×D)},DpK K H axs akvs→DpK K H (f7 axs xs) (fj akvs kvs):=
  DpK.ind (P:=fun xs kvs=>∀ {axs:List (Key×V)} {akvs:List (Key×D)},DpK K H axs akvs→DpK K H (f7 axs xs) (fj akvs kvs)) (fun h=>h) (fun k v d xs kvs p _ ih axs akvs ha=>ih (ha.put k p)) h
theorem A0 {K:PySem.W.Frag}:md K (fun xs H Q=>∃ l ys kvs,xs=[.ref l]∧SqL K H l ys∧dW K H ys kvs∧kvs.length≤sizeLine∧∀ p,H p=none→Q (.ref p) (L2.upd H p (.dK (f7 [] kvs)))) yS:=fun H μ xs ds Q Q' m p h k=>by
  unfold yS at h
  split at h
  · obtain ⟨kvs,rfl,hl,h⟩:=h
    cases p with | cons p1 p2=>
    cases p2
    cases p1 with
    | ls q l=>
      obtain ⟨r,h1,h2⟩:=dW.of l
      exact ⟨_,_,r,rfl,q.sq,h1,by rw[h2.length];exact big hl,fun z hz=>k _ _ _ _ (.new hz) (zS m hz (h2.merge .nil)) (.obj z) (h z (m.free hz))⟩
  · exact False.elim h
end
section
open PySem PySem.Spec PyProof.Rows L2
section
variable {X:Cx} {o i a b c e value:Expr} {To Ti Ta Tb Te:ETr} {pos tpos apos cpos:Pos}
def HB (To Ti:ETr):ETr:=fun ρ μ Q=>To ρ μ fun x μ1=>kObj x fun a=>kL μ1 a fun _=>Ti ρ μ1 fun y μ2=>kI y fun j=>(-9223372036854775808≤j∧j < 9223372036854775808)∧kL μ2 a fun ds=>kN (L2.ixN ds.length j) fun k=>kO ds[k]? fun d=>Q d (up μ2 a (.lst (ds.eraseIdx k)))
theorem Ca {n k:Nat}{j:Int}(h:L2.ixN n j=some k):seqIndex? j n=some k:=by
  unfold L2.ixN at h
  unfold seqIndex?
  split at h
  · split at h
    · cases h
      rename_i h1 h2
      simp[show ¬ (j < 0) by omega,h1,h2]
    · cases h
  · split at h
    · cases h
      rename_i h1 h2
      simp[show j < 0 by omega]
      omega
    · cases h
theorem DpL.erase {K:PySem.W.Frag}{H:Hp}:∀ {vs:List V} {ds:List D} (i:Nat),DpL K H vs ds→DpL K H (vs.eraseIdx i) (ds.eraseIdx i)
  | _,_,_,.nil=>by simp;exact .nil
  | _,_,0,.cons _ l=>l
  | _,_,i+1,.cons q l=>.cons q (DpL.erase i l)
theorem Ir (ho:LE X o To)(hi:LE X i Ti)
    (hbase:attributeBase o "pop" X.env (eval o X.env)=eval o X.env:=by rfl)
    (hfew:((backTo cpos (starEach [i] X.env)).all (fun x=>!x.1)&&(backToKw cpos (keywordEach [] X.env)).all (fun x=>x.1.isSome)
      && decide (([i]:List Expr).length+([]:List Keyword).length+(if ([]:List Keyword).isEmpty then 0 else 1) < 30))=true:=by rfl)
    (hline:(apos.endLine == cpos.line)=true:=by rfl) (hs:starEach [i] X.env=(false,eval i X.env)::starEach [] X.env:=by rfl) (hplain:(backTo cpos (starEach [] X.env)).any (·.1)=false:=by rfl) :
    LE X (.Call (.Attribute o "pop" apos) [i] [] cpos) (HB To Ti):=by
  obtain ⟨to,po,so⟩:=ho.ex
  obtain ⟨ti,pi,si⟩:=hi.ex
  refine ⟨_,BP PySem.F.plainAttrs_list PySem.F.slot_list_pop PySem.F.type_list_pop Cd po (eW pi lu hs) hbase hfew hline hs hplain,fun σ H ρ μ Q Q' rl h k=>so σ H ρ μ _ _ rl h fun x H1 dx μ1 t1 m1 p1 h1=>?_⟩
  obtain ⟨q,rfl,h1⟩:=eP p1 h1
  obtain ⟨ds0,e0,h1⟩:=bV h1
  obtain ⟨xs0,ex0,_⟩:=m1 q _ e0
  refine ⟨.inl ⟨rfl,_,SqL.of ex0⟩,si σ H1 ρ μ1 _ _ (rl.go t1 m1) h1 fun y H2 dy μ2 t2 m2 p2 h2=>?_⟩
  cases p2 with
  | int j=>
    obtain ⟨hr,h2⟩:=h2
    obtain ⟨ds,e2,h3⟩:=bV (show kL μ2 q _ from h2)
    obtain ⟨kk,e3,h3⟩:=Dd h3
    obtain ⟨d,e4,h3⟩:=kR h3
    obtain ⟨xs,ex,l⟩:=m2 q _ e2
    obtain ⟨v,ev,pv⟩:=l.get e4
    have e3':L2.ixN xs.length j=some kk:=by rw[l.length];exact e3
    exact ⟨q,xs,j,kk,v,rfl,rfl,ex,by omega,by omega,Ca e3',ev,k _ _ _ _ ((t1.trans t2).trans (kH ex)) (GP m2 ex (l.erase kk)) (pv.mono (kH ex)) h3⟩
  | _=>exact False.elim h2
end
noncomputable def vf (h:Heap) (dx:PyData) (y:Value):Bool:=@decide (∃ d as,Reads h y d as∧PyData.canLay0 d=true∧PyData.eqv d dx=true) (Classical.propDecidable _)
theorem F4 {h:Heap}{dx d:PyData}{y:Value}{as:List Addr}(r:Reads h y d as)(hd:d.canLay0=true):vf h dx y=PyData.eqv d dx:=by
  unfold vf
  cases e:PyData.eqv d dx with
  | true=>exact @decide_eq_true _ (Classical.propDecidable _) ⟨d,as,r,hd,e⟩
  | false=>
    refine @decide_eq_false _ (Classical.propDecidable _) ?_
    rintro ⟨d',as',r',hd',e'⟩
    cases SeqAt.Reads.unique _ _ _ _ _ hd r r'
    rw[e] at e';cases e'
theorem yZ {n:Nat}:∀ {ds:List D} {d:D},bC n ds=true→d∈ds→okD n d=true
  | x::r,d,h,hm=>by
    have h':okD n x=true∧bC n r=true:=by simpa[bC] using h
    rcases List.mem_cons.mp hm with rfl | hm
    · exact h'.1
    · exact yZ h'.2 hm
section
variable {X:Cx} {pins:List (Addr×Obj)} {σ:L2.St} {H:Hp} {s:Shared}
theorem item_at (I:Inv X pins σ H s){vs:List V}{ds:List D}{us:List Value}(l:DpL X.K H vs ds)(r:Vals vs us)(ok:bC 38 ds=true){dy:D}{y:Value}{bs:List Addr}(oy:okD 38 dy=true)(ry:Reads s.heap y (toP dy) bs)(hu:X.A.units+64 < cLine)
    {m:Nat} {u:Value} (hm:us[m]? = some u):∃ d,ds[m]? = some d∧vf s.heap (toP dy) u=eqD d dy∧SeqAt.EqAt X.A.in1 s u y (vf s.heap (toP dy) u):=by
  have hlt:m < vs.length:=by rw[r.length];exact (List.getElem?_eq_some_iff.mp hm).1
  obtain ⟨u',e1,rv⟩:=r.get (List.getElem?_eq_getElem hlt)
  rw[hm] at e1;cases e1
  obtain ⟨d,ed,pd⟩:=l.get' (List.getElem?_eq_getElem hlt)
  have od:=yZ ok (List.mem_of_getElem? ed)
  obtain ⟨as,ra⟩:=dR I pd od rv
  obtain ⟨l1,d1⟩:=gw 38 d od
  obtain ⟨l2,d2⟩:=gw 38 dy oy
  have e:=F4 (dx:=toP dy) ra l1
  refine ⟨d,ed,by rw[e,mJ 38 38 d dy od oy],?_⟩
  rw[e]
  exact SeqAt.eqAt_reads _ _ _ s _ _ _ _ ra ry l1 l2 (by have:=Nat.min_le_left (toP d).depth (toP dy).depth;rw[Around.in1_units];omega)
end
section
variable {X:Cx} {o i a b c e value:Expr} {To Ti Ta Tb Te:ETr} {pos tpos apos cpos:Pos}
def inG (x:D)(ds:List D):Bool:=ds.any fun y=>eqD y x
def Di (K:PySem.W.Frag)(neg:Bool):L2.R2:=fun x y H Q=>∃ p xs ds dx,y=.ref p∧(SqL K H p xs∨SqT K H p xs)∧DpL K H xs ds∧Dp K H x dx∧bC 38 ds=true∧okD 38 dx=true∧Q (.bl (if neg then !inG dx ds else inG dx ds)) H
theorem t7 {pins:List (Addr×Obj)}{σ:L2.St}{H:Hp}{s:Shared}(I:Inv X pins σ H s)(hu:X.A.units+64 < cLine){vs:List V}{ds:List D}{us:List Value}(l:DpL X.K H vs ds)(r:Vals vs us)(ok:bC 38 ds=true){dy:D}{y:Value}{bs:List Addr}(oy:okD 38 dy=true)(ry:Reads s.heap y (toP dy) bs) :
    (∀ w,w∈us.toArray→SeqAt.EqAt X.A.in1 s w y (vf s.heap (toP dy) w))∧us.toArray.any (vf s.heap (toP dy))=inG dy ds:=by
  have hl:ds.length=us.length:=by rw[← l.length,r.length]
  constructor
  · intro w hw
    obtain ⟨m,hm,rfl⟩:=Array.mem_iff_getElem.mp hw
    obtain ⟨d,_,_,e3⟩:=item_at I l r ok oy ry hu (m:=m) (u:=us.toArray[m]) (by simp at hm ⊢)
    exact e3
  · unfold inG
    rw[show us.toArray.any (vf s.heap (toP dy))=us.any (vf s.heap (toP dy)) by simp]
    rw[Bool.eq_iff_iff,List.any_eq_true,List.any_eq_true]
    constructor
    · rintro ⟨w,hw,e⟩
      obtain ⟨m,hm,rfl⟩:=List.mem_iff_getElem.mp hw
      obtain ⟨d,e1,e2,_⟩:=item_at I l r ok oy ry hu (m:=m) (u:=us[m]) (by simp)
      exact ⟨d,List.mem_of_getElem? e1,by rw[← e2];exact e⟩
    · rintro ⟨d,hd,e⟩
      obtain ⟨m,hm,rfl⟩:=List.mem_iff_getElem.mp hd
      obtain ⟨d',e1,e2,_⟩:=item_at I l r ok oy ry hu (m:=m) (u:=us[m]'(by omega)) (by simp)
      rw[List.getElem?_eq_getElem hm] at e1;cases e1
      exact ⟨us[m]'(by omega),List.getElem_mem _,by rw[e2];exact e⟩
theorem Jy (hu:X.A.units+64 < cLine):OpR X (compareOp .In) (Di X.K false):=by
  intro pins s σ H x y v u Q I rx ry h
  obtain ⟨p,xs,ds,dx,rfl,hq,l,px,o1,o2,q⟩:=h
  cases (show u=Value.ref p from ry)
  obtain ⟨bs,rb⟩:=dR I px o2 rx
  rcases hq with hq | hq
  · obtain ⟨its,r,pl,hz⟩:=I.list hq
    obtain ⟨h1,h2⟩:=t7 I hu l r o1 o2 rb
    exact SeqAt.in_listAt _ pl.isList h1 ⟨.bl _,H,I,rfl,by rw[h2];exact q⟩
  · obtain ⟨its,r,pl,hz⟩:=I.tuple hq
    obtain ⟨h1,h2⟩:=t7 I hu l r o1 o2 rb
    exact SeqAt.in_tupleAt _ pl h1 ⟨.bl _,H,I,rfl,by rw[h2];exact q⟩
theorem Ao (hu:X.A.units+64 < cLine):OpR X (compareOp .NotIn) (Di X.K true):=by
  intro pins s σ H x y v u Q I rx ry h
  obtain ⟨p,xs,ds,dx,rfl,hq,l,px,o1,o2,q⟩:=h
  cases (show u=Value.ref p from ry)
  obtain ⟨bs,rb⟩:=dR I px o2 rx
  rcases hq with hq | hq
  · obtain ⟨its,r,pl,hz⟩:=I.list hq
    obtain ⟨h1,h2⟩:=t7 I hu l r o1 o2 rb
    exact SeqAt.notIn_listAt _ pl.isList h1 ⟨.bl _,H,I,rfl,by rw[h2];exact q⟩
  · obtain ⟨its,r,pl,hz⟩:=I.tuple hq
    obtain ⟨h1,h2⟩:=t7 I hu l r o1 o2 rb
    exact SeqAt.notIn_tupleAt _ pl h1 ⟨.bl _,H,I,rfl,by rw[h2];exact q⟩
def Md (μ:Mu)(x:D)(f:List D→Prop):Prop:=match x with
  | .tup ds=>f ds
  | .ls ds=>f ds
  | .obj a=>kL μ a f
  | _=>False
def oz (neg:Bool):DR2:=fun x y μ Q=>Md μ y fun ds=>(bC 38 ds=true∧okD 38 x=true)∧Q (.bl (if neg then !inG x ds else inG x ds)) μ
theorem y4 {K:PySem.W.Frag}(neg:Bool):fW K (Di K neg) (oz neg):=fun H μ x y dx dy Q Q' m px py h k=>by
  cases py with
  | tup sq l=>exact ⟨_,_,_,dx,rfl,.inr sq,l,px,h.1.1,h.1.2,k _ H _ μ (.refl H) m (.bl _) h.2⟩
  | ls sq l=>exact ⟨_,_,_,dx,rfl,.inl sq.sq,l,px,h.1.1,h.1.2,k _ H _ μ (.refl H) m (.bl _) h.2⟩
  | obj q=>
    obtain ⟨ds,e0,h⟩:=bV (show kL μ q _ from h)
    obtain ⟨xs,ex,l⟩:=m q _ e0
    exact ⟨_,_,_,dx,rfl,.inl (SqL.of ex),l,px,h.1.1,h.1.2,k _ H _ μ (.refl H) m (.bl _) h.2⟩
  | _=>exact False.elim h
theorem kJ (hu:X.A.units+64 < cLine)(ha:LE X a Ta)(hb:LE X b Tb)(hm:behindInMarks .In b=false:=by rfl):LT X (.Compare a [.In] [b] pos) (TB (aj (oz false) Ta Tb)):=ff (Jy hu) (y4 false) ha hb hm
theorem AE (hu:X.A.units+64 < cLine)(ha:LE X a Ta)(hb:LE X b Tb)(hm:behindInMarks .NotIn b=false:=by rfl):LT X (.Compare a [.NotIn] [b] pos) (TB (aj (oz true) Ta Tb)):=ff (Ao hu) (y4 true) ha hb hm
end
end
section
open PySem PySem.Spec PyProof.Rows L2
def HN (K:PySem.W.Frag)(n:Nat)(t:TGs)(is:List Nat):Prop:=∀ σ H ρ μ vs ds (k:ST→Mu→Prop) (k':L2.St→Hp→Prop),Rl K σ H ρ μ→DpL K H vs ds→ds.length=is.length→k (kX ρ is ds) μ→GD K n σ H k k'→t vs σ H k'
structure FG (X:Cx) (n:Nat) (es:List Expr) (is:List Nat):Prop where
  ex:∃ t,PGs X es t∧HN X.K n t is
section
variable {X:Cx} {e tg:Expr} {es:List Expr} {is:List Nat} {pos:Pos} {x:Str} {n:Nat}
theorem ko:FG X n [] []:=⟨_,zV,fun σ H ρ μ vs ds k k' rl l hl h q=>by
  cases ds with
  | nil=>cases l;exact ⟨rfl,q _ _ _ _ (.refl H) rl ⟨rfl,fun _ _=>rfl⟩ h⟩
  | cons=>cases hl⟩
theorem cZ (i:Nat)(hN:X.N.Nodup)(h2:FG X n es is)(hin:i < n:=by decide)(hi:X.N[i]? = some x:=by rfl)(hx:Loc X.env.scope x:=by first | exact Or.inl rfl | exact Or.inr rfl)(hf:X.fn x=true∨X.env.scope.names.lookup x=some .local:=by first | exact .inr rfl | exact .inl rfl | assumption)
    (hs:(assignEach (.Name x pos::es) X.env).map (·.2)=assign (.Name x pos) X.env::(assignEach es X.env).map (·.2):=by rfl):FG X n (.Name x pos::es) (i::is):=by
  obtain ⟨t,pt,st⟩:=h2.ex
  refine ⟨_,u3 (iN hN hi hx hf) pt hs,fun σ H ρ μ vs ds k k' rl l hl h q=>?_⟩
  cases l with
  | nil=>cases hl
  | @cons v d vs ds p l=>
    refine ⟨v,vs,rfl,st _ H _ μ vs ds k k' (rl.set p i) l (by simpa using hl) h fun σ' H' ρ' μ' t' r' hk kk=>q σ' H' ρ' μ' t' r' ⟨?_,fun j hj=>?_⟩ kk⟩
    · rw[hk.1];simp
    · rw[hk.2 j hj,List.getElem?_set_ne (by omega)]
theorem mC {k:Nat}(hc:X.calm=true)(h:FG X n es is)(hn:(assignEach es X.env).length=is.length:=by rfl)(hst:(assignEach es X.env).findIdx? (·.1)=none:=by rfl):LGc X n (.Tuple es k pos) (mh is):=by
  obtain ⟨t,pt,st⟩:=h.ex
  refine ⟨fun pins s σ H v u k' I r ⟨ρ,μ,d,k,rl,p,h,post⟩=>Bn hc pt hn hst pins s σ H v u k' I r ?_⟩
  cases p with
  | @tup a xs ds sq l=>exact ⟨a,xs,rfl,sq,by rw[l.length];exact h.1,st σ H ρ μ xs ds k k' rl l h.1 h.2 post⟩
  | _=>exact False.elim h
end
section
variable {X:Cx} {o i a b c e value:Expr} {To Ti Ta Tb Te:ETr} {pos tpos apos cpos:Pos}
end
section
variable {P:Program} {w:World} {K:PySem.W.Frag} {mg:Str→Option Value} {base:Heap}
end
end
section
open PySem PySem.Spec PyProof.Rows L2
section
variable {X:Cx} {tg a ea eb:Expr} {Ta:ETr} {es:List Expr} {ek:Nat} {ep p pos:Pos}
def Mq (K:PySem.W.Frag)(tl:TE):TI:=fun σ H R=>tl σ H fun x H1=>∃ q,x=.ref q∧(((∃ xs,SqL K H1 q xs)∧R (Itl K q) H1)∨((∃ xs,SqT K H1 q xs)∧R (Itt K q) H1))
theorem JT {tl:TE}(hl:PE X a tl):PI X tg a (Mq X.K tl):=by
  intro pins s σ H R I h
  refine thn (hl pins s σ H _ I h) fun v s1 ⟨x,H1,I1,r1,q,ex,qq⟩=>?_
  subst ex
  cases (show v=Value.ref q from r1)
  have fp:∀ b∈[s1.heap.objs.size],_:=fun b hb=>by
    have e:b=s1.heap.objs.size:=by simpa using hb
    subst e
    exact I1.AR (Nat.le_refl _) (I1.hok.fresh (Nat.le_refl _))
  rcases qq with ⟨⟨xs,sq⟩,qq⟩ | ⟨⟨xs,sq⟩,qq⟩
  · obtain ⟨its,rv,pl,hz⟩:=I1.list sq
    exact wpAny_pyIter_list pl.isList ⟨s1.heap.objs.size,[s1.heap.objs.size],_,_,H1,rfl,I1.kept (t':=s1.toks) (fun b o e=>Heap.get?_push_of_some _ e),qQ q _,⟨_,Heap.get?_push_size _ rfl,rfl,rfl⟩,fp,qq⟩
  · obtain ⟨its,rv,pl,hz⟩:=I1.tuple sq
    exact wpAny_pyIter_tuple (show s1.heap.IsTuple q its.toArray from pl) ⟨s1.heap.objs.size,[s1.heap.objs.size],_,_,H1,rfl,I1.kept (t':=s1.toks) (fun b o e=>Heap.get?_push_of_some _ e),wM q _,⟨_,Heap.get?_push_size _ rfl,rfl,rfl⟩,fp,qq⟩
theorem aY (ha:LE X a Ta):LI X tg a (cH Ta):=by
  obtain ⟨ta,pa,sa⟩:=ha.ex
  refine ⟨_,JT pa,fun σ H ρ μ Q R rl h k=>sa σ H ρ μ _ _ rl h fun x H1 d μ1 t1 m1 p1 h1=>?_⟩
  cases p1 with
  | @tup p xs ds q l=>exact ⟨p,rfl,.inr ⟨⟨xs,q⟩,k _ H1 ds μ1 t1 m1 (AU q l) h1⟩⟩
  | @ls p xs ds q l=>exact ⟨p,rfl,.inl ⟨⟨xs,q.sq⟩,k _ H1 ds μ1 t1 m1 (EU q l) h1⟩⟩
  | _=>exact False.elim h1
def LK (K:PySem.W.Frag)(t:TA):TI:=fun σ H R=>t σ H fun vs H1=>∃ (ta tb:Bool) (a b:Addr),vs=[.ref a,.ref b]∧(∃ xs,Sq ta K H1 a xs)∧(∃ ys,Sq tb K H1 b ys)∧R (Itz ta tb K a b) H1
theorem Et {t:TA}(hg:Gl X "zip")(hm:X.mg "zip" = none)(ha:PA X [ea,eb] t)(hs:starEach [ea,eb] X.env=[(false,eval ea X.env),(false,eval eb X.env)]:=by rfl)(hs2:starEach [eb] X.env=[(false,eval eb X.env)]:=by rfl) :
    PI X (.Tuple es ek ep) (.Call (.Name "zip" p) [ea,eb] [] pos) (LK X.K t):=by
  intro pins s σ H R I h
  refine Call_ (kG I hg hm boot_zip (PyProof.Rows.callWith_type1 (thn (ha pos pins s σ H _ I h) fun us s1 ⟨vs,H1,I1,r1,ta,tb,a,b,e,⟨xs,qa⟩,⟨ys,qb⟩,q⟩=>?_) (by rw[hs,hs2]) (by rw[hs2];rfl)))
  subst e
  cases r1 with | cons r rr=>cases rr with | cons r' rr=>
  cases rr
  cases (show _=Value.ref a from r)
  cases (show _=Value.ref b from r')
  obtain ⟨ia,ra,sa⟩:=Inv.sq I1 qa
  obtain ⟨ib,rb,sb⟩:=Inv.sq I1 qb
  have alt:a < s1.heap.objs.size:=by cases ta<;>(obtain ⟨o,e,_⟩:=sa;exact Heap.lt_size e)
  have blt:b < s1.heap.objs.size:=by cases tb<;>(obtain ⟨o,e,_⟩:=sb;exact Heap.lt_size e)
  refine As sa sb fun g S kp=>wpAny_pyIter_zip S.zz ⟨s1.heap.objs.size+4,[s1.heap.objs.size+4,s1.heap.objs.size+2,s1.heap.objs.size+3,s1.heap.objs.size,s1.heap.objs.size+1],_,_,H1,rfl,I1.kept (t':=s1.toks) kp,Ce (LB _ _ _ alt blt),S,fun c hc=>?_,q⟩
  exact I1.AR (GC _ _ hc) (I1.hok.fresh (GC _ _ hc))
def rh (t:ATr):ATr:=fun ρ μ Q=>t ρ μ fun vs μ1=>k2 vs fun x y=>kS x fun ds=>kS y fun es=>Q (List.zipWith (fun d e=>.tup [d,e]) ds es) μ1
theorem wU {K:PySem.W.Frag}{H:Hp}{v:V}{x:D}{f:List D→Prop}(p:Dp K H v x)(h:kS x f):∃ (tp:Bool) (a:Addr) (xs:List V) (ds:List D),v=.ref a∧Sq tp K H a xs∧DpL K H xs ds∧kQ tp x f:=by
  cases p with
  | @tup a xs ds q l=>exact ⟨true,a,xs,ds,rfl,q,l,h⟩
  | @ls a xs ds q l=>exact ⟨false,a,xs,ds,rfl,q,l,h⟩
  | _=>exact False.elim h
theorem mG {At:ATr}(hg:Gl X "zip")(hm:X.mg "zip" = none)(ha:LA X [ea,eb] At)
    (hs:starEach [ea,eb] X.env=[(false,eval ea X.env),(false,eval eb X.env)]:=by rfl) (hs2:starEach [eb] X.env=[(false,eval eb X.env)]:=by rfl) :
    LI X (.Tuple es ek ep) (.Call (.Name "zip" p) [ea,eb] [] pos) (rh At):=by
  obtain ⟨t,pt,st⟩:=ha.ex
  refine ⟨_,Et hg hm pt hs hs2,fun σ H ρ μ Q R rl h k=>st σ H ρ μ _ _ rl h fun vs H1 ds μ1 t1 m1 p1 h1=>?_⟩
  unfold L3.k2 at h1
  split at h1
  case h_2=>exact False.elim h1
  cases p1 with | cons pa p2=>cases p2 with | cons pb p3=>
  cases p3
  obtain ⟨ta,a,xs,dx,rfl,qa,la,h2⟩:=wU pa h1
  obtain ⟨a',xs',dx',ea',qa',la',h2⟩:=xI pa h2
  cases ea'
  obtain ⟨tb,b,ys,dy,rfl,qb,lb,h3⟩:=wU pb h2
  obtain ⟨b',ys',dy',eb',qb',lb',h3⟩:=xI pb h3
  cases eb'
  refine ⟨ta,tb,a,b,rfl,⟨xs',qa'⟩,⟨ys',qb'⟩,k _ H1 _ μ1 t1 m1 ⟨fun i H' tk hi=>?_,fun i H' v H'' tk hi yv=>?_,fun i H' tk hi=>?_⟩ h3⟩
  · have l1:=la'.length
    have l2:=lb'.length
    rw[List.length_zipWith] at hi
    exact ⟨xs',ys',xs'[i],ys'[i],tk.sq qa',tk.sq qb',by simp[show i < xs'.length by omega],by simp[show i < ys'.length by omega]⟩
  · obtain ⟨x,y,q,fx,fy,rfl,fr,rfl⟩:=yv
    obtain ⟨d,ed,pd⟩:=la'.get' (fx _ (tk.sq qa'))
    obtain ⟨e,ee,pe⟩:=lb'.get' (fy _ (tk.sq qb'))
    have tn:Tk H' (L2.upd H' q (.tup [x,y])):=.new fr
    exact ⟨tn,⟨.tup [d,e],by simp[List.getElem?_zipWith,ed,ee],.tup (SqT.of aG) (.cons ((pd.mono tk).mono tn) (.cons ((pe.mono tk).mono tn) .nil))⟩,fun μ' m'=>cR m' fr⟩
  · have l1:=la'.length
    have l2:=lb'.length
    rw[List.length_zipWith] at hi
    exact ⟨xs',ys',tk.sq qa',tk.sq qb',by omega⟩
variable {i o:Expr} {Ti To:ETr}
theorem IL (hu:X.A.units+64 < cLine)(hi:LE X i Ti)(ho:LE X o To)(hm:behindInMarks .In o=false:=by rfl):LT X (.Compare i [.In] [o] pos) (TB (r9 false Ti To)):=by
  obtain ⟨ti,pi,si⟩:=hi.ex
  obtain ⟨to,po,so⟩:=ho.ex
  exact ⟨_,Dr (HP (hu1 hu) pi po) hm,xq (FP si so)⟩
end
end
section
open PySem PySem.Spec PyProof.Rows L2
def ltS (x y:Str):Bool:=decide (x.cps.toList < y.cps.toList)
theorem kn:∀ {us:List Value} {ss:List Str},StrsAre us ss→Vals (ss.map V.str) us
  | _,_,.nil=>.nil
  | _,_,.cons n t h=>.cons ⟨t,rfl⟩ (kn h)
theorem zp:∀ {us:List Value} {ss:List Str},Vals (ss.map V.str) us→StrsAre us ss
  | _,[],h=>by cases h;exact .nil
  | _,s::r,h=>by
    cases h with
    | cons q h=>obtain ⟨t,rfl⟩:=(show ∃ t,_=Value.str s t from q);exact .cons s t (zp h)
def IP (K:PySem.W.Frag):List V→Hp→VK→Prop:=fun xs H Q=>∃ (p:Addr) (ss:List Str),xs=[.ref p]∧SqL K H p (ss.map V.str)∧ss.length < 64∧∀ ss':List Str,ss'.Perm ss→ss'.Pairwise (fun a b=>ltS b a=false)→∀ z,H z=none→Q (.ref z) (L2.upd H z (.lst (ss'.map V.str)))
theorem AS:∀ (p:Str) (l:List Str),risingS p l=true→(p::l).Pairwise (fun a b=>ltS b a=false):=by
  have tr:∀ a b c:Str,ltS b a=false→ltS c b=false→ltS c a=false:=by
    intro a b c h1 h2
    unfold ltS at *
    rw[decide_eq_false_iff_not,List.not_lt] at *
    exact List.le_trans h1 h2
  intro p l
  induction l generalizing p with
  | nil=>intro _;exact List.pairwise_singleton _ _
  | cons x r ih=>
    intro h
    have h':ltCps x.cps.toList p.cps.toList=false∧risingS x r=true:=by
      have:(!ltCps x.cps.toList p.cps.toList&&risingS x r)=true:=h
      simpa using this
    have hx:=ih x h'.2
    have hpx:ltS x p=false:=by unfold ltS;rw[← ltCps_eq];exact h'.1
    refine List.pairwise_cons.mpr ⟨fun y hy=>?_,hx⟩
    rcases List.mem_cons.mp hy with rfl | hy
    · exact hpx
    · exact tr p x y hpx ((List.pairwise_cons.mp hx).1 y hy)
theorem Ah:∀ (l:List Str),sortedS l=true→l.Pairwise (fun a b=>ltS b a=false)
  | [],_=>.nil
  | p::l,h=>AS p l h
theorem yr {X:Cx}:bQ X (.builtin "sorted") (IP X.K):=fun pins s σ H xs us Q I rx ⟨p,ss,e1,sq,hl,q⟩=>by
  subst e1
  obtain ⟨u,rfl,ru⟩:=vals1 rx
  cases (show u=Value.ref p from ru)
  obtain ⟨its,rv,pl,hz⟩:=I.list sq
  have hi:StrsAre its ss:=zp rv
  have hlen:its.length < 64:=by have:=rv.length;simp at this;omega
  refine sorted_strs pl.isList hi hlen fun out ss' a1 a2 a3=>?_
  obtain ⟨n,en⟩:=sortedAll_at s.heap its out
  refine ⟨.ref _,_,I.laid (t':=s.toks) (o:=.lst (ss'.map V.str)) (fun b o e=>sortedAll_old e) (Nat.le_succ _) ?_,rfl,q ss' a2 (Ah _ a3) _ (I.hok.fresh (Nat.le_succ _))⟩
  have z1:ss'.length=ss.length:=a2.length_eq
  exact ⟨by rw[List.length_map,z1];exact Nat.le_of_lt (Nat.lt_of_lt_of_le hl (by decide)),out.toList,n,kn a1,by simpa[seqObj] using en⟩
def wx:FSp:=fun ds μ Q=>match ds with
  | [.ls xs]=>∃ ss:List Str,(xs=ss.map .str∧ss.length < 64)∧∀ ss':List Str,ss'.Perm ss→ss'.Pairwise (fun a b=>ltS b a=false)→Q (.ls (ss'.map .str)) μ
  | _=>False
theorem DpL.strs {K:PySem.W.Frag}{H:Hp}:∀ ss:List Str,DpL K H (ss.map V.str) (ss.map D.str)
  | []=>.nil
  | s::r=>.cons (.str s) (DpL.strs r)
theorem DpL.kn {K:PySem.W.Frag}{H:Hp}:∀ {xs:List V} {ss:List Str},DpL K H xs (ss.map .str)→xs=ss.map V.str
  | _,[],.nil=>rfl
  | _,s::r,.cons h l=>by cases h;rw[DpL.kn l];rfl
section
variable {X:Cx} {e a b:Expr} {x:Str} {p pos:Pos} {At:ATr} {Ta Tb:ETr}
theorem Cp (hg:Gl X x)(hm:X.mg x=none)(hv:bootBuiltins x=some (.builtin "sorted"))(ha:LA X [e] At)(hn:x ≠ "__name__" := by decide)(hdb:(x == ("__debug__" : Str))=false:=by decide)
    (h1:starEach [e] X.env=(false,eval e X.env)::starEach [] X.env:=by rfl) (h2:(backTo pos (starEach [] X.env)).any (·.1)=false:=by rfl):LE X (.Call (.Name x p) [e] [] pos) (au wx At):=by
  obtain ⟨ta,pa,sa⟩:=ha.ex
  refine ⟨_,jI (o5 yr hg hm hv pa hn hdb h1 h2),fun σ H ρ μ Q Q' rl h k=>sa σ H ρ μ _ _ rl h fun xs H1 ds μ1 t1 m1 p1 h1=>?_⟩
  unfold wx at h1
  split at h1
  · obtain ⟨ss,⟨rfl,hl⟩,h2⟩:=h1
    cases p1 with | cons p1 p2=>
    cases p2
    cases p1 with
    | @ls a ys _ q l=>
      cases DpL.kn l
      refine ⟨a,ss,rfl,q.sq,hl,fun ss' a2 a3 z hz=>⟨z,_,rfl,aG,fun o=>?_⟩⟩
      have e:L2.upd (L2.upd H1 z (.lst (ss'.map V.str))) z (.frz o (.lst (ss'.map V.str)))=L2.upd H1 z (.frz o (.lst (ss'.map V.str))):=sL
      rw[e]
      exact k _ _ _ μ1 (t1.trans (.new hz)) (cR m1 hz) (.ls (.inl ⟨o,aG⟩) (.strs ss')) (h2 ss' a2 a3)
  · exact False.elim h1
end
end
section
open PySem PySem.Spec PyProof.Rows L2
def jB (C:Mu→Prop)(p:Addr)(G:GTr)(tt:TTr)(te:ETr)(ρc:ST)(K:Mu→Prop):List D→Mu→Prop
  | [],μ=>C μ∧K μ
  | d::r,μ=>C μ∧G d ρc μ fun ρ1 μ1=>tt ρ1 μ1 fun b μ2=>kIf b (te ρ1 μ2 fun y μ3=>kL μ3 p fun zs=>zs.length < 1000000∧jB C p G tt te ρc K r (up μ3 p (.lst (zs++[y])))) (jB C p G tt te ρc K r μ2)
def jH (To:ETr)(G:GTr)(tt:TTr)(te:ETr)(n:Nat)(caps:List Nat):ETr:=fun ρ μ Q=>To ρ μ fun x μ1=>kObj x fun a=>kL μ1 a fun ds=>∀ p,μ1 p=none→
  jB (fun μ=>μ a=some (.lst ds)) p G tt te (gU ρ n caps) (fun μ'=>kL μ' p fun zs=>Q (.ls zs) (dn μ' p)) ds (up μ1 p (.lst []))
theorem rj {K:PySem.W.Frag}{ta:TE}{To:ETr}{G:GTr}{Tt:TTr}{Te:ETr}{n:Nat}{caps:List Nat}(sa:Sim K ta To):Sim K (A1 (zd (GY K ta) (oG K n G) (liftT K Tt) (m4 K Te) n caps)) (jH To G Tt Te n caps):=by
  intro σ H ρ μ Q Q' rl h k
  refine sa σ H ρ μ _ _ rl h fun x H1 dx μ1 t1 m1 px hx=>?_
  obtain ⟨q,rfl,hx⟩:=eP px hx
  obtain ⟨ds,eq0,h1⟩:=bV hx
  obtain ⟨xs0,exs0,l0⟩:=m1 q _ eq0
  refine ⟨q,rfl,⟨_,SqL.of exs0⟩,fun D hD=>?_⟩
  have hp:=h1 D (m1.free hD)
  have tD:Tk H1 (L2.upd H1 D (.lst [])):=.new hD
  have mD:bG K (L2.upd H1 D (.lst [])) (up μ1 D (.lst [])):=fun a o e=>by
    by_cases ha:a=D
    · subst ha
      rw[aD] at e;cases e
      exact ⟨[],aG,.nil⟩
    · rw[aU ha] at e
      exact cR m1 hD a o e
  refine ⟨fun i m ys H2=>m=ds.length - i∧i≤ds.length∧Tk H1 H2∧∃ μ2,bG K H2 μ2∧jB (fun μ=>μ q=some (.lst ds)) D G Tt Te (gU ρ n caps) (fun μ'=>kL μ' D fun zs=>Q (.ls zs) (dn μ' D)) (ds.drop i) μ2,
    ⟨ds.length,by simp,Nat.zero_le _,tD,_,mD,by simpa using hp⟩,?_⟩
  rintro i m ys H2 ⟨rfl,hi,t12,μ2,m2,h2⟩
  have hg:μ2 q=some (.lst ds):=by
    cases hdr:ds.drop i with
    | nil=>rw[hdr] at h2;exact h2.1
    | cons=>rw[hdr] at h2;exact h2.1
  obtain ⟨xs2,ex2,l2⟩:=m2 q _ hg
  have ll:=l2.length
  by_cases hlt:i < ds.length
  · refine .inr ⟨⟨xs2,xs2[i]'(by omega),SqL.of ex2,List.getElem?_eq_getElem (by omega)⟩,fun ys' H'=>Tk H1 H'∧∃ μ',bG K H' μ'∧jB (fun μ=>μ q=some (.lst ds)) D G Tt Te (gU ρ n caps) (fun μ'=>kL μ' D fun zs=>Q (.ls zs) (dn μ' D)) (ds.drop (i+1)) μ',fun ys' H' ⟨t',μ',m',h'⟩=>⟨ds.length - (i+1),by omega,rfl,hlt,t',μ',m',h'⟩,fun x H3 y=>?_⟩
    obtain ⟨rfl,y⟩:=y
    have exi:=y xs2 (SqL.of ex2)
    obtain ⟨d,ed,pd⟩:=l2.get' exi
    have e:ds.drop i=d::ds.drop (i+1):=by
      refine (List.drop_eq_getElem_cons hlt).trans ?_
      congr 1
      rw[List.getElem?_eq_getElem hlt] at ed
      exact Option.some.inj ed
    rw[e] at h2
    have t13:=t12
    have r3:Rl K (fS σ n caps) H3 (gU ρ n caps) μ2:=sF (rl.go (t1.trans t13) m2) n caps
    refine ⟨_,_,d,_,r3,pd,h2.2,fun σ4 H4 ρ4 μ4 t4 r4 kp h4=>⟨⟨kp.1.symm,fun j v ej=>?_⟩,_,_,_,r4,h4,fun b H5 μ5 t5 m5 h5=>?_⟩⟩
    · by_cases hj:n≤j
      · rw[kp.2 j hj];exact ej
      · obtain ⟨j',k',e1,_⟩:=gZ ej
        omega
    · have t15:=t13.trans (t4.trans t5)
      cases b with
      | false=>exact sY ⟨t15,μ5,m5,h5⟩
      | true=>
        refine rW ⟨_,_,_,r4.go t5 m5,h5,fun v H6 d6 μ6 t6 m6 p6 h6=>?_⟩
        obtain ⟨zs,ez,lz,h7⟩:=bV h6
        obtain ⟨xs,ex,lx⟩:=m6 D _ ez
        have t67:Tk H6 (L2.upd H6 D (.lst (xs++[v]))):=.upd (fun ys z=>by rw[ex] at z;cases z) fun o' u z=>by rw[ex] at z;cases z
        refine ⟨xs,ex,by rw[lx.length];exact Nat.lt_of_lt_of_le lz (by decide),(t15.trans t6).trans t67,up μ6 D (.lst (zs++[d6])),fun a o ea=>?_,h7⟩
        by_cases ha:a=D
        · subst ha
          rw[aD] at ea;cases ea
          exact ⟨_,aG,(lx.append (.cons p6 .nil)).mono t67⟩
        · rw[aU ha] at ea
          exact (m6 a _ ea).ne t67 ha
  · have e:i=ds.length:=by omega
    subst e
    rw[List.drop_length] at h2
    obtain ⟨zs,ez,hq⟩:=bV (show kL μ2 D fun zs=>Q (.ls zs) (dn μ2 D) from h2.2)
    obtain ⟨xs,ex,lx⟩:=m2 D _ ez
    refine .inl ⟨⟨xs2,SqL.of ex2,by omega⟩,D,xs,rfl,ex,fun o=>?_⟩
    have t2f:Tk H2 (L2.upd H2 D (.frz o (.lst xs))):=.upd (fun ys z=>by rw[ex] at z;cases z) fun o' u z=>by rw[ex] at z;cases z
    refine k _ _ _ (dn μ2 D) ((t1.trans t12).trans t2f) (fun a o' ea=>?_) (.ls (.inl ⟨o,aG⟩) (lx.mono t2f)) hq
    have ha:a≠D:=fun z=>by subst z;unfold dn at ea;rw[if_pos rfl] at ea;cases ea
    have ea':μ2 a=some o':=by unfold dn at ea;rw[if_neg ha] at ea;exact ea
    exact (m2 a _ ea').ne t2f ha
theorem AD {X:Cx}{tg elt iter:Expr}{Te:ETr}{Tt:TTr}{pos spos py:Pos}{y:Str}{To:ETr}{G:GTr}{ifs:List Expr}{scope fsc:Scope}(iy:Nat)(hN:X.N.Nodup)(XN Nc:List Str)(n:Nat)(caps:List Nat)(hxe:X.xe=fun _ _=>False)(hcalm:X.calm=true)(hi:LE X iter To)
    (hbody:∀ (cl:List (Str×Addr)) (C:Addr) (s₀:Shared) (H₀:Hp) (ex:List Addr),LGc (aZ X scope Nc cl C s₀ H₀ ex) n tg G∧wZ (aZ X scope Nc cl C s₀ H₀ ex) ifs Tt∧LE (aZ X scope Nc cl C s₀ H₀ ex) elt Te)
    (hsc:X.env.scope=fsc) (hXN:X.N=XN) (hok:iz fsc.names XN scope Nc n caps=true)
    (hiy:X.N[iy]? = some y:=by rfl) (hx:Loc X.env.scope y:=by first | exact Or.inl rfl | exact Or.inr rfl) (hf:X.fn y=true∨X.env.scope.names.lookup y=some .local:=by first | exact .inl rfl | exact .inr rfl | assumption)
    (hsw:swapsWith (.ListComp elt [⟨tg,iter,ifs,0⟩] scope pos) (some (.Name y py)) spos.line X.env=pure true:=by rfl)
    (hs:∀ x,foldedSetIterable iter X.env x=pure x:=by intro _;rfl) :
    LS X (.Assign [.Name y py] (.ListComp elt [⟨tg,iter,ifs,0⟩] scope pos) spos) (aL (jH To G Tt Te n caps) (ax iy)):=by
  unfold iz at hok
  simp only[Bool.and_eq_true,List.all_eq_true] at hok
  obtain ⟨⟨⟨h1,h2⟩,h3⟩,h4⟩:=hok
  obtain ⟨ta,pa,sa⟩:=hi.ex
  refine ⟨_,yO (g:=oG X.K n G) (tt:=liftT X.K Tt) (te:=m4 X.K Te) hxe hcalm (zm pa) (fun cl C s₀ H₀ ex=>let ⟨h1,h2,h3⟩:=hbody cl C s₀ H₀ ex;⟨h1.pe,h2.pe,h3.pe⟩) (fun y hy hf=>?_) (fun y hy hf=>?_) (by simpa using h2) (fun y hy hf=>?_) (by simpa using h3) (fun j k hj=>?_) (iN hN hiy hx hf) hsw hs,fun σ H ρ μ E E' rl h k=>rj sa σ H ρ μ _ _ rl h fun v H' d μ' t' m' p' h'=>iR iy σ H' ρ μ' v d _ _ (rl.go t' m') p' h' (k.go t').nx⟩
  · have:=(h1 y hy).1.1
    show X.env.scope.names.lookup y.1=_
    rw[hsc]
    simpa[hf] using this
  · have:=(h1 y hy).1.2
    simp[hf] at this
  · have:=(h1 y hy).2
    simpa[hf] using this
  · have hl:j < caps.length:=(List.getElem?_eq_some_iff.mp hj).1
    have:=h4 j (List.mem_range.mpr hl)
    rw[hj] at this
    dsimp only at this
    rw[hXN]
    cases e:XN[k]? with
    | none=>rw[e] at this;cases this
    | some x=>
      rw[e] at this
      dsimp only at this
      rw[Bool.and_eq_true] at this
      exact ⟨x,by simpa using this.1,rfl,by simpa using this.2⟩
theorem qX {X:Cx}{tg elt iter:Expr}{Te:ETr}{Tt:TTr}{pos:Pos}{To:ETr}{G:GTr}{ifs:List Expr}{scope fsc:Scope}(XN Nc:List Str)(n:Nat)(caps:List Nat)(hxe:X.xe=fun _ _=>False)(hcalm:X.calm=true)(hi:LE X iter To)
    (hbody:∀ (cl:List (Str×Addr)) (C:Addr) (s₀:Shared) (H₀:Hp) (ex:List Addr),LGc (aZ X scope Nc cl C s₀ H₀ ex) n tg G∧wZ (aZ X scope Nc cl C s₀ H₀ ex) ifs Tt∧LE (aZ X scope Nc cl C s₀ H₀ ex) elt Te)
    (hsc:X.env.scope=fsc) (hXN:X.N=XN) (hok:iz fsc.names XN scope Nc n caps=true)
    (hs:∀ x,foldedSetIterable iter X.env x=pure x:=by intro _;rfl) :
    LE X (.ListComp elt [⟨tg,iter,ifs,0⟩] scope pos) (jH To G Tt Te n caps):=by
  unfold iz at hok
  simp only[Bool.and_eq_true,List.all_eq_true] at hok
  obtain ⟨⟨⟨h1,h2⟩,h3⟩,h4⟩:=hok
  obtain ⟨ta,pa,sa⟩:=hi.ex
  refine ⟨_,jI (zG (g:=oG X.K n G) (tt:=liftT X.K Tt) (te:=m4 X.K Te) hxe hcalm (zm pa) (fun cl C s₀ H₀ ex=>let ⟨h1,h2,h3⟩:=hbody cl C s₀ H₀ ex;⟨h1.pe,h2.pe,h3.pe⟩) (fun y hy hf=>?_) (fun y hy hf=>?_) (by simpa using h2) (fun y hy hf=>?_) (by simpa using h3) (fun j k hj=>?_) hs),rj sa⟩
  · have:=(h1 y hy).1.1
    show X.env.scope.names.lookup y.1=_
    rw[hsc]
    simpa[hf] using this
  · have:=(h1 y hy).1.2
    simp[hf] at this
  · have:=(h1 y hy).2
    simpa[hf] using this
  · have hl:j < caps.length:=(List.getElem?_eq_some_iff.mp hj).1
    have:=h4 j (List.mem_range.mpr hl)
    rw[hj] at this
    dsimp only at this
    rw[hXN]
    cases e:XN[k]? with
    | none=>rw[e] at this;cases this
    | some x=>
      rw[e] at this
      dsimp only at this
      rw[Bool.and_eq_true] at this
      exact ⟨x,by simpa using this.1,rfl,by simpa using this.2⟩
end
theorem Ii (c b:Bool)(μ:Mu)(Q:DK):tX true (.bl c) (.bl b) μ Q=Q (.bl (!(c == b))) μ:=propext Iff.rfl
theorem Hv (c b:Bool)(μ:Mu)(Q:DK):tX false (.bl c) (.bl b) μ Q=Q (.bl (c == b)) μ:=propext Iff.rfl
theorem Ep (a b:ETr)(ρ:ST)(μ:Mu)(Q:DK):iF a b ρ μ Q=a ρ μ fun x μ1=>b ρ μ1 fun y μ2=>kObj x fun a=>kD μ2 a fun kvs=>pP y fun k=>kO (a5 kvs k) fun d=>Q d μ2:=propext Iff.rfl
theorem JV (n:Bool)(a b:ETr)(ρ:ST)(μ:Mu)(Q:DK):r9 n a b ρ μ Q=a ρ μ fun y μ1=>b ρ μ1 fun x μ2=>kObj x fun a=>kD μ2 a fun kvs=>pP y fun k=>Q (.bl (if n then !(a5 kvs k).isSome else (a5 kvs k).isSome)) μ2:=propext Iff.rfl
theorem Ff (a b e:ETr)(nx:ST→Mu→Prop)(rt:DK)(bk ct:ST→Mu→Prop)(ρ:ST)(μ:Mu):zE a b e ⟨nx,rt,bk,ct⟩ ρ μ=e ρ μ fun v μ1=>a ρ μ1 fun x μ2=>b ρ μ2 fun y μ3=>kObj x fun a=>kD μ3 a fun kvs=>pP y fun k=>kvs.length < 1000000∧nx ρ (up μ3 a (.dct (putD kvs k v))):=propext Iff.rfl
theorem Iz (f:Int→Int→Int)(i:Nat)(e:ETr)(nx:ST→Mu→Prop)(rt:DK)(bk ct:ST→Mu→Prop)(ρ:ST)(μ:Mu):EO f i e ⟨nx,rt,bk,ct⟩ ρ μ=ah i ρ μ fun d _=>kI d fun m=>e ρ μ fun w μ1=>kI w fun n=>ax i (.int (f m n)) ρ μ1 nx:=propext Iff.rfl
theorem HQ (a b:ETr)(ρ:ST)(μ:Mu)(Q:DK):HB a b ρ μ Q=a ρ μ fun x μ1=>kObj x fun a=>kL μ1 a fun _=>b ρ μ1 fun y μ2=>kI y fun j=>(-9223372036854775808≤j∧j < 9223372036854775808)∧kL μ2 a fun ds=>kN (L2.ixN ds.length j) fun k=>kO ds[k]? fun d=>Q d (up μ2 a (.lst (ds.eraseIdx k))):=propext Iff.rfl
theorem Jr (a:ETr)(ρ:ST)(μ:Mu)(Q:List D→Mu→Prop):cH a ρ μ Q=a ρ μ fun x μ1=>kS x fun ds=>Q ds μ1:=propext Iff.rfl
theorem FU (t:ATr)(ρ:ST)(μ:Mu)(Q:List D→Mu→Prop):rh t ρ μ Q=t ρ μ fun vs μ1=>k2 vs fun x y=>kS x fun ds=>kS y fun es=>Q (List.zipWith (fun d e=>.tup [d,e]) ds es) μ1:=propext Iff.rfl
theorem Il (n:Bool)(x:D)(ds:List D)(μ:Mu)(Q:DK):oz n x (.tup ds) μ Q=((bC 38 ds=true∧okD 38 x=true)∧Q (.bl (if n then !inG x ds else inG x ds)) μ):=propext Iff.rfl
theorem Jm (s:Str)(f:L2.Key→Prop):pP (.str s) f=f (.inr s):=propext Iff.rfl
theorem Ke {μ:Mu}{a:Addr}{ds:List (L2.Key×D)}(h:μ a=some (.dct ds))(f):kD μ a f=f ds:=by unfold kD;rw[h]
theorem di {μ:Mu}{a:Addr}{ds:List (L2.Key×D)}{f:List (L2.Key×D)→Prop}(e:μ a=some (.dct ds))(h:f ds):kD μ a f:=by rw[Ke e];exact h
theorem E8 (xs:List D)(μ:Mu)(Q:DK):mi yS [.ls xs] μ Q=(∃ kvs:List (L2.Key×D),xs=kvs.map wX∧kvs.length≤1000000∧∀ p,μ p=none→Q (.obj p) (up μ p (.dct (fj [] kvs)))):=propext Iff.rfl
theorem IsPart.of_eq {a b c d x y:Int}(h:IsPart a b x y)(hb:0 < b)(hd:0 < d)(e:a*d=c*b):IsPart c d x y:=by
  have xd:x*d=c*y:=by
    refine Int.eq_of_mul_eq_mul_right (a:=b) (by omega) ?_
    calc x*d*b=(x*b)*d:=by ac_rfl
      _=(a*y)*d:=by rw[h.e]
      _=(a*d)*y:=by ac_rfl
      _=(c*b)*y:=by rw[e]
      _=c*y*b:=by ac_rfl
  have y0:=h.q0
  have dx:x ∣ c:=by
    have:x ∣ y*c:=⟨d,by rw[Int.mul_comm y c];exact xd.symm⟩
    have h':=Int.dvd_gcd_mul_iff_dvd_mul.mpr this
    rw[h.g] at h'
    simpa using h'
  have dy:y ∣ d:=by
    have:y ∣ x*d:=⟨c,by rw[xd,Int.mul_comm]⟩
    have h':=Int.dvd_gcd_mul_iff_dvd_mul.mpr this
    rw[Int.gcd_comm,h.g] at h'
    simpa using h'
  refine ⟨h.q0,h.g,xd,?_,Nat.le_of_dvd (by omega) (Int.natAbs_dvd_natAbs.mpr dy)⟩
  by_cases hc:c=0
  · subst hc
    have:x=0:=by
      rcases Int.mul_eq_zero.mp (show x*d=0 by rw[xd,Int.zero_mul]) with z | z
      · exact z
      · omega
    rw[this];exact Nat.le_refl _
  · exact Nat.le_of_dvd (by omega) (Int.natAbs_dvd_natAbs.mpr dx)
structure Vl (d:D) (a b:Int):Prop where
  ex:∃ p q,d=fr p q∧IsPart a b p q
  b0:0 < b
theorem Vl.of_eq {d:D}{a b a' b':Int}(h:Vl d a b)(hb:0 < b')(e:a*b'=a'*b):Vl d a' b':=by
  obtain ⟨⟨p,q,rfl,P⟩,b0⟩:=h
  exact ⟨⟨p,q,rfl,P.of_eq b0 hb e⟩,hb⟩
theorem nH (a:Int){b:Int}(b0:0 < b):Vl (.tup [.int (a.fdiv (Int.gcd a b)),.int (b.fdiv (Int.gcd a b))]) a b:=by
  have h:=yX (a:=a) (b:=b) (by omega)
  rw[if_neg (by omega)] at h
  exact ⟨⟨_,_,rfl,h⟩,b0⟩
theorem HU {lo hi p q:Int}(h:FrB lo hi p q):Vl (fr p q) p q:=⟨⟨p,q,rfl,h.q0,h.g,rfl,Nat.le_refl _,Nat.le_refl _⟩,h.q0⟩
theorem zW {a b x y:Int}(h:IsPart a b x y)(b0:0 < b):Vl (fr x y) a b:=⟨⟨x,y,rfl,h⟩,b0⟩
theorem Lp {p q a b:Int}(g:Int)(q0:0 < q)(b0:0 < b)(e:p*b=a*q):p*g / q=a*g / b:=by
  calc p*g / q=(p*g)*b / (q*b):=(Int.mul_ediv_mul_of_pos_left _ _ b0).symm
    _=(a*g)*q / (b*q):=by rw[show p*g*b=(p*b)*g by ac_rfl,e,Int.mul_comm q b,show a*q*g=a*g*q by ac_rfl]
    _=a*g / b:=Int.mul_ediv_mul_of_pos_left _ _ q0
theorem Ht {p q a b:Int}(q0:0 < q)(b0:0 < b)(e:p*b=a*q):p / q=a / b:=by
  have:=Lp 1 q0 b0 e
  simpa using this
theorem KL {p q r s a b c e:Int}(q0:0 < q)(s0:0 < s)(b0:0 < b)(e0:0 < e)(h1:p*b=a*q)(h2:r*e=c*s):(p*s < r*q)↔(a*e < c*b):=by
  have k1:(p*s)*(b*e)=(a*e)*(q*s):=by
    calc (p*s)*(b*e)=(p*b)*(s*e):=by ac_rfl
      _=(a*q)*(s*e):=by rw[h1]
      _=(a*e)*(q*s):=by ac_rfl
  have k2:(r*q)*(b*e)=(c*b)*(q*s):=by
    calc (r*q)*(b*e)=(r*e)*(q*b):=by ac_rfl
      _=(c*s)*(q*b):=by rw[h2]
      _=(c*b)*(q*s):=by ac_rfl
  have be:0 < b*e:=Int.mul_pos b0 e0
  have qs:0 < q*s:=Int.mul_pos q0 s0
  constructor
  · intro h
    have:=Int.mul_lt_mul_of_pos_right h be
    rw[k1,k2] at this
    exact Int.lt_of_mul_lt_mul_right this (Int.le_of_lt qs)
  · intro h
    have:=Int.mul_lt_mul_of_pos_right h qs
    rw[← k1,← k2] at this
    exact Int.lt_of_mul_lt_mul_right this (Int.le_of_lt be)
def Le (a A:Int):Prop:=-A≤a∧a≤A
theorem Le.mono {a A B:Int}(h:Le a A)(hb:A≤B):Le a B:=⟨by have:=h.1;omega,by have:=h.2;omega⟩
theorem Le.of {a A:Int}(h0:0≤a)(h1:a≤A):Le a A:=⟨by omega,h1⟩
theorem Le.add {a b A B:Int}(h:Le a A)(k:Le b B):Le (a+b) (A+B):=⟨by have:=h.1;have:=k.1;omega,by have:=h.2;have:=k.2;omega⟩
theorem Le.sub {a b A B:Int}(h:Le a A)(k:Le b B):Le (a - b) (A+B):=⟨by have:=h.1;have:=k.2;omega,by have:=h.2;have:=k.1;omega⟩
theorem Le.neg {a A:Int}(h:Le a A):Le (-a) A:=⟨by have:=h.2;omega,by have:=h.1;omega⟩
theorem Le.abs {a A:Int}(h:Le a A):(a.natAbs:Int)≤A:=by have:=h.1;have:=h.2;omega
theorem Le.Ck {a A:Int}(h:(a.natAbs:Int)≤A):Le a A:=⟨by omega,by omega⟩
theorem Le.mul {a b A B:Int}(h:Le a A)(k:Le b B):Le (a*b) (A*B):=by
  refine .Ck ?_
  rw[Int.natAbs_mul,Int.natCast_mul]
  have a0:(0:Int)≤(a.natAbs:Int):=Int.natCast_nonneg _
  have b0:(0:Int)≤(b.natAbs:Int):=Int.natCast_nonneg _
  exact Int.mul_le_mul h.abs k.abs b0 (Int.le_trans a0 h.abs)
abbrev Bd (a:Int):Prop:=Le a 1000000000000000000000000000000
theorem Bd.m {a:Int}(h:Bd a):eR a:=by have:=h.1;have:=h.2;unfold eR;omega
theorem Bd.mm {a b:Int}(h:Bd a)(k:Bd b):eR (a*b):=by
  have:=(h.mul k).1;have:=(h.mul k).2
  unfold eR;omega
theorem Bd.mul {a b:Int}(h:Bd a)(k:Bd b):MulOk a b:=.inr ⟨h.m,k.m⟩
theorem IsPart.bp {a b x y:Int}(h:IsPart a b x y)(ha:Bd a):Bd x:=.Ck (by have:=h.pa;have:=ha.abs;omega)
theorem IsPart.bq {a b x y:Int}(h:IsPart a b x y)(hb:Bd b):Bd y:=.Ck (by have:=h.qb;have:=hb.abs;omega)
inductive Wd | oB | step | qS | Dg | calm
  deriving DecidableEq
structure RN where
  wd:Wd
  p:Int
  q:Int
  x:Int
  y:Int
  a:Int
  b:Int
  l:Int
  h:Int
  r:Int
  s:Int
def Wd.str:Wd→Str
  | .oB=>Str.ofString "still"
  | .step=>Str.ofString "step"
  | .qS=>Str.ofString "swell"
  | .Dg=>Str.ofString "heed"
  | .calm=>Str.ofString "calm"
def RN.toD (R:RN):D:=match R.wd with
  | .oB=>.tup [.str "still", fr R.p R.q]
  | .step=>.tup [.str "step", fr R.p R.q,fr R.x R.y,fr R.a R.b,fr R.r R.s]
  | .qS=>.tup [.str "swell", fr R.p R.q,fr R.x R.y,fr R.a R.b,fr R.r R.s]
  | .Dg=>.tup [.str "heed", fr R.p R.q,fr R.x R.y,fr R.a R.b,fr R.r R.s]
  | .calm=>.tup [.str "calm", fr R.p R.q,fr R.x R.y,.int R.l,.int R.h,fr R.r R.s]
structure RN.Ok (R:RN):Prop where
  w:FrB 1 60 R.p R.q
  t:FrB 1 60 R.r R.s
  wt:R.p*R.s≤R.r*R.q
  u:FrA 0 60 R.x R.y
  u1:R.wd=.qS→R.y < R.x
  g:FrA 0 1 R.a R.b
  d1:R.wd=.step∨R.wd=.qS→R.a < R.b
  l0:0≤R.l
  lh:R.l≤R.h
  h1:R.h≤60
  st:R.wd=.oB→R.r=R.p∧R.s=R.q
theorem Lh {lo hi:Int}(h0:lo < 1)(h1:1≤hi):FrA lo hi 1 1:=⟨⟨by decide,by decide,by decide,by omega,by omega⟩,by omega⟩
structure Hd where
  good:Int
  mark:Int
  D0:Int
  wt:Int
structure Hd.Ok (h:Hd):Prop where
  g0:0≤h.good
  g1:h.good≤1000000
  m0:0≤h.mark
  m1:h.mark≤1000000
  l0:0≤h.D0
  l1:h.D0≤1000000
  w0:0≤h.wt
def Hd.toD (h:Hd):D:=.tup [.int h.good,.int h.mark,.int h.D0,.int h.wt]
def Hd.bad (h:Hd):Int:=h.mark+h.D0
def Hd.many (h:Hd):Int:=h.good+h.bad
def RN.idle (R:RN)(h:Hd):Prop:=R.wd=.oB∨h.good+h.mark+h.D0=0
instance (R:RN) (h:Hd):Decidable (R.idle h):=by unfold RN.idle;infer_instance
theorem Le.div {a b A:Int}(h:Le a A)(hb:0 < b)(hA:0≤A):Le (a / b) A:=by
  constructor
  · rw[Int.le_ediv_iff_mul_le hb]
    have:=h.1
    have:A*1≤A*b:=Int.mul_le_mul_of_nonneg_left (by omega) hA
    rw[Int.neg_mul];omega
  · refine Int.ediv_le_of_le_mul hb ?_
    have:=h.2
    have:A*1≤A*b:=Int.mul_le_mul_of_nonneg_left (by omega) hA
    omega
local macro_rules | `(tactic| walk_at "rd")=>`(tactic| try simp only[ah,TC,aj,TUn,jm,Ij,je,TB,sW,TOr,iX,vk,xD,aw,ag,cK,gv,kr,au,bX,aF,yJ,Cj,fP,aT,Cf,dM,ax,aL,wR,fL,fF,fh,cH,bO,iD,gU,ik,LD,ILs,
  CZ,Bz,CL,Bx,CK,wB,sX,xX,BW,yz,rR,zQ,oo,tE,sT,tW,tq,l8,nu,xW,mR,nV,ow,oI,nF,o7,nN,nr,m7,TSl,ONo,xU,DM,DL,DO,C6,AV,Dh,xj,xx,DC,Cu,Dc,mU,oJ,nA,xQ,wJ,xG,xw,xV,yn,yh,xE,xB,A5,BV,Dj,CP,Dt,CT,rC,zP,BC,wg,wC,xf,wH,wy,xM,wz,yq,w4,xm,
  lk,ini,List.map,List.length,List.replicate,List.append,List.set,List.cons_append,List.nil_append,Nat.sub_self,Nat.reduceSub,Nat.reduceAdd,
  zy,zb,zF,zu,zY,zH,C0,Df,D2,List.getElem?_cons_zero,List.getElem?_cons_succ,aD,oH,Nat.reduceLT,Nat.reduceLeDiff,if_true,if_false,true_and,and_true,Bool.not_true,Bool.not_false,Nat.lt_add_one,Nat.zero_lt_succ,Nat.succ_lt_succ_iff,Nat.zero_lt_one,
  decide_eq_true_eq,Bool.false_eq_true,ite_false,ite_true,ne_eq,not_false_eq_true,Int.reduceToNat,Int.reducePow,Int.reduceNeg,Int.reduceSub,Int.reduceAdd,Int.reduceMul,Int.reduceEq,okD,bC,eqD,gF,Bool.and_self,Bool.and_true,Bool.true_and,mh,kX,decide_true,decide_false,Bool.or_true,Bool.or_false,Bool.true_or,Bool.false_or,Bool.and_false,Bool.false_and,and_self,fO,eI,fJ,fz,fN,fq,gq,gx,eJ,ft,fk,fD,fM,gy,fu,gj,fw,gs,fm,gB,rT,Ag,A9,AA,BH,C9,jX,km,jL,jM,jW,jK,jZ])
def iO:FSp:=fun ds μ Q=>match ds with
  | [d1,d2]=>∃ a b c e,((Vl d1 a b∧Vl d2 c e)∧Bd a∧Bd b∧Bd c∧Bd e)∧∀ z,Vl z (a*e+c*b) (b*e)→Q z μ
  | _=>False
theorem AW:∀ ds μ Q,iO ds μ Q→ds.length=2:=by
  unfold iO
  walk_at "ln"
def BL:STr:=aT (au ei (ag (aj aM (aj cg (aj L3.rIx (ah 0) (TC (.int 0))) (aj L3.rIx (ah 1) (TC (.int 1)))) (aj cg (aj L3.rIx (ah 1) (TC (.int 0))) (aj L3.rIx (ah 0) (TC (.int 1))))) (ag (aj cg (aj L3.rIx (ah 0) (TC (.int 1))) (aj L3.rIx (ah 1) (TC (.int 1)))) (aw))))
theorem Fd:∀ ds μ Q,iO ds μ Q→BL { nx:=fun _ μ'=>RT Q .non μ',rt:=RT Q } (ini 2 ds) μ:=by
  intro ds μ Q h
  unfold iO at h
  split at h
  case h_2=>exact h.elim
  rename_i d1 d2
  unfold BL
  walk_at "rd"
  obtain ⟨a,b,c,e,⟨⟨V1,V2⟩,Ba,Bb,Bc,Be⟩,k⟩:=h
  obtain ⟨⟨p,q,rfl,P⟩,b0⟩:=V1
  obtain ⟨⟨r,s,rfl,S⟩,e0⟩:=V2
  have q0:=P.q0
  have s0:=S.q0
  have be:0 < b*e:=Int.mul_pos b0 e0
  have qs:0 < q*s:=Int.mul_pos q0 s0
  have Bp:=P.bp Ba
  have Bq:=P.bq Bb
  have Br:=S.bp Bc
  have Bs:=S.bq Be
  walk_at "rd"
  refine ⟨Bp.mul Bs,Br.mul Bq,Bq.mul Bs,⟨by omega,Bq.mm Bs⟩,fun x y Pt=>⟨_,.refl _,k _ ⟨⟨x,y,rfl,Pt.of_eq qs be ?_⟩,be⟩⟩⟩
  calc (p*s+r*q)*(b*e)=(p*b)*(s*e)+(r*e)*(q*b):=by rw[Int.add_mul];congr 1<;>ac_rfl
    _=(a*q)*(s*e)+(c*s)*(q*b):=by rw[P.e,S.e]
    _=(a*e+c*b)*(q*s):=by rw[Int.add_mul];congr 1<;>ac_rfl
def fY:FSp:=fun ds μ Q=>match ds with
  | [d1,d2]=>∃ a b c e,((Vl d1 a b∧Vl d2 c e)∧Bd a∧Bd b∧Bd c∧Bd e)∧∀ z,Vl z (a*e - c*b) (b*e)→Q z μ
  | _=>False
theorem AB:∀ ds μ Q,fY ds μ Q→ds.length=2:=by
  unfold fY
  walk_at "ln"
def zT:STr:=aT (au ei (ag (aj vD (aj cg (aj L3.rIx (ah 0) (TC (.int 0))) (aj L3.rIx (ah 1) (TC (.int 1)))) (aj cg (aj L3.rIx (ah 1) (TC (.int 0))) (aj L3.rIx (ah 0) (TC (.int 1))))) (ag (aj cg (aj L3.rIx (ah 0) (TC (.int 1))) (aj L3.rIx (ah 1) (TC (.int 1)))) (aw))))
theorem BK:∀ ds μ Q,fY ds μ Q→zT { nx:=fun _ μ'=>RT Q .non μ',rt:=RT Q } (ini 2 ds) μ:=by
  intro ds μ Q h
  unfold fY at h
  split at h
  case h_2=>exact h.elim
  rename_i d1 d2
  unfold zT
  walk_at "rd"
  obtain ⟨a,b,c,e,⟨⟨V1,V2⟩,Ba,Bb,Bc,Be⟩,k⟩:=h
  obtain ⟨⟨p,q,rfl,P⟩,b0⟩:=V1
  obtain ⟨⟨r,s,rfl,S⟩,e0⟩:=V2
  have q0:=P.q0
  have s0:=S.q0
  have be:0 < b*e:=Int.mul_pos b0 e0
  have qs:0 < q*s:=Int.mul_pos q0 s0
  have Bp:=P.bp Ba
  have Bq:=P.bq Bb
  have Br:=S.bp Bc
  have Bs:=S.bq Be
  walk_at "rd"
  refine ⟨Bp.mul Bs,Br.mul Bq,Bq.mul Bs,⟨by omega,Bq.mm Bs⟩,fun x y Pt=>⟨_,.refl _,k _ ⟨⟨x,y,rfl,Pt.of_eq qs be ?_⟩,be⟩⟩⟩
  calc (p*s - r*q)*(b*e)=(p*b)*(s*e) - (r*e)*(q*b):=by rw[Int.sub_mul];congr 1<;>ac_rfl
    _=(a*q)*(s*e) - (c*s)*(q*b):=by rw[P.e,S.e]
    _=(a*e - c*b)*(q*s):=by rw[Int.sub_mul];congr 1<;>ac_rfl
def dG:FSp:=fun ds μ Q=>match ds with
  | [d1,d2]=>∃ a b c e,((Vl d1 a b∧Vl d2 c e)∧Bd a∧Bd b∧Bd c∧Bd e)∧Q (.bl (decide (a*e < c*b))) μ
  | _=>False
theorem BE:∀ ds μ Q,dG ds μ Q→ds.length=2:=by
  unfold dG
  walk_at "ln"
def BJ:STr:=aT (aj rLt (aj cg (aj L3.rIx (ah 0) (TC (.int 0))) (aj L3.rIx (ah 1) (TC (.int 1)))) (aj cg (aj L3.rIx (ah 1) (TC (.int 0))) (aj L3.rIx (ah 0) (TC (.int 1)))))
theorem EY:∀ ds μ Q,dG ds μ Q→BJ { nx:=fun _ μ'=>RT Q .non μ',rt:=RT Q } (ini 2 ds) μ:=by
  intro ds μ Q h
  unfold dG at h
  split at h
  case h_2=>exact h.elim
  rename_i d1 d2
  unfold BJ
  walk_at "rd"
  obtain ⟨a,b,c,e,⟨⟨V1,V2⟩,Ba,Bb,Bc,Be⟩,k⟩:=h
  obtain ⟨⟨p,q,rfl,P⟩,b0⟩:=V1
  obtain ⟨⟨r,s,rfl,S⟩,e0⟩:=V2
  walk_at "rd"
  refine ⟨(P.bp Ba).mul (S.bq Be),(S.bp Bc).mul (P.bq Bb),_,.refl _,?_⟩
  rw[show decide (p*s < r*q)=decide (a*e < c*b) from decide_eq_decide.mpr (KL P.q0 S.q0 b0 e0 P.e S.e)]
  exact k
def cV:FSp:=fun ds μ Q=>match ds with
  | [d1]=>∃ a b,(Vl d1 a b∧Bd b)∧Q (.int (a / b)) μ
  | _=>False
theorem tJ:∀ ds μ Q,cV ds μ Q→ds.length=1:=by
  unfold cV
  walk_at "ln"
def oP:STr:=aT (aj kZ (aj L3.rIx (ah 0) (TC (.int 0))) (aj L3.rIx (ah 0) (TC (.int 1))))
theorem u0:∀ ds μ Q,cV ds μ Q→oP { nx:=fun _ μ'=>RT Q .non μ',rt:=RT Q } (ini 1 ds) μ:=by
  intro ds μ Q h
  unfold cV at h
  split at h
  case h_2=>exact h.elim
  rename_i d1
  unfold oP
  walk_at "rd"
  obtain ⟨a,b,⟨⟨⟨p,q,rfl,P⟩,b0⟩,Bb⟩,k⟩:=h
  have q0:=P.q0
  walk_at "rd"
  rw[jQ q0,Ht q0 b0 P.e]
  exact ⟨⟨by omega,(P.bq Bb).m⟩,_,.refl _,k⟩
theorem Bh {xs:List D}{d:D}(h:xs[xs.length - 1]? = some d)(h0:xs≠[]):atD xs ((xs.length:Int) - 1)=some d:=by
  have:0 < xs.length:=List.length_pos_iff.mpr h0
  have e:((xs.length:Int) - 1)=((xs.length - 1:Nat):Int):=by omega
  rw[e,ck,h]
theorem RN.tup (R:RN)(hst:R.wd=.oB→R.r=R.p∧R.s=R.q):∃ xs,R.toD=.tup xs∧xs[0]? = some (.str R.wd.str)∧xs[1]? = some (fr R.p R.q)∧xs[xs.length - 1]? = some (fr R.r R.s)∧xs≠[]:=by
  obtain ⟨wd,p,q,x,y,a,b,l,h,r,s⟩:=R
  cases wd
  · obtain ⟨e1,e2⟩:=hst rfl
    dsimp only at e1 e2
    subst e1 e2
    exact ⟨_,rfl,rfl,rfl,rfl,nofun⟩
  all_goals exact ⟨_,rfl,rfl,rfl,rfl,nofun⟩
def eA:FSp:=fun ds μ Q=>match ds with
  | [d]=>∃ R:RN,(R.Ok∧d=R.toD)∧Q (fr R.r R.s) μ
  | _=>False
theorem wj:∀ ds μ Q,eA ds μ Q→ds.length=1:=by
  unfold eA
  walk_at "ln"
def uO:STr:=aT (aj L3.rIx (ah 0) (aj vD (au gn (ag (ah 0) (aw))) (TC (.int 1))))
theorem AN:∀ ds μ Q,eA ds μ Q→uO { nx:=fun _ μ'=>RT Q .non μ',rt:=RT Q } (ini 1 ds) μ:=by
  intro ds μ Q h
  unfold eA at h
  split at h
  case h_2=>exact h.elim
  rename_i d
  unfold uO
  walk_at "rd"
  obtain ⟨R,⟨K,rfl⟩,k⟩:=h
  obtain ⟨xs,e,_,_,e3,e4⟩:=R.tup K.st
  rw[e]
  walk_at "rd"
  rw[Bh e3 e4]
  exact ⟨_,.refl _,k⟩
theorem FrB.bd {lo hi p q:Int}(h:FrB lo hi p q)(l0:0≤lo)(h1:hi≤60):Le p 600000120∧Le q 10000002:=by
  have:=h.q0;have:=h.q1
  have e1:=h.ge;have e2:=h.le
  have a1:0≤lo*q:=Int.mul_nonneg l0 (by omega)
  have a2:hi*q≤60*q:=Int.mul_le_mul_of_nonneg_right h1 (by omega)
  exact ⟨.of (by omega) (by omega),.of (by omega) (by omega)⟩
def Lg:=Jn @Jh <| Jn @ED <| Jn @IZ <| Jn @F7 <| Jn @Ip <| Jn @FW <| Jn @JX <| Jn @Ei <| Jn @Jp <| Jn @Gr <| Jn @HK <| Jn @Gu <| Jn @JI <| Jn @ER <| Jn @Hr <| Jn @EB <| Jn @Je <| Jn @Gv <| Jn @HL <| Jn @Gq <| Jn @Mm <| Jn @HW <| Jn @Kf <| Jn @Fh <| Jn @Ge <| Jn @Mv <| Jn @Jg <| Jn @Lb <| Jn @J5 <| Jn @Hi <| Jn @Ju <| Jn @Fc <| Jn @JL <| Jn @Hc <| Jn @JQ <| Jn @FI <| Jn @Fp <| Jn @HG <| Jn @FQ <| Jn @Hs <| Jn @IS <| Jn @Ho <| Jn @JM <| Jn @JJ <| Jn @Ab <| Jn @Hn <| Jn @JR <| Jn @Lq <| Jn @KG <| Jn @IC <| Jn @J8 <| Jn @Kc <| Jn @K2 <| Jn @Ku <| Jn @KZ <| Jn @Kp <| Jn @Kw <| Jn @IW <| Jn @IV <| Jn @Iw <| Jn @J9 <| Jn @Gj <| Jn @E1 <| Jn @EW <| Jn @Ee <| Jn @z6 <| Jn @BY <| Jn @FZ <| Jn @BU <| Jn @Ai <| Jn @zQ <| Jn @AL <| Jn @Aj <| Jn @Az <| Jn @CI <| Jn @DU <| Jn @AZ <| Jn @DT <| Jn @Bl <| Jn @BQ <| Jn @Eu <| Jn @EV <| Jn @FA <| Jn @EE <| Jn @BA <| Jn @CH <| Jn @CN <| Jn @DS <| Jn @Fj <| Jn @Gs <| Jn @IG <| Jn @Hl <| Jn @IJ <| Jn @DZ <| Jn @Cz <| Jn @CC <| @IM
local macro_rules | `(tactic| walk_at "go")=>`(tactic| try simp only[↓Lg,↓yU,↓nu,fO,eI,fJ,fz,fN,fq,gq,gx,eJ,ft,fk,fD,fM,gy,fu,gj,fw,gs,fm,gB,rT,LU,Kh,Kv,KA,za,uN,GL,G2,GN,GO,y2,Dw,DE,Ci,y3,zk,zB,y1,true_and,and_true,and_self,Bool.not_true,Bool.not_false,decide_true,decide_false,Bool.or_true,Bool.or_false,Bool.true_or,Bool.false_or,Bool.and_false,Bool.false_and,Bool.and_true,Bool.true_and,Int.reduceToNat,Int.reducePow,Int.reduceNeg,Int.reduceSub,Int.reduceAdd,Int.reduceMul,Int.reduceEq,Int.reduceLT,Int.reduceLE,Int.reduceBEq,oH,jX,km,jL,jM,jW,jK,jZ,if_true,if_false,Bool.false_eq_true,reduceCtorEq,decide_eq_true_eq])
local macro_rules | `(tactic| walk_at "ini")=>`(tactic| simp only[ini,List.map,List.length,List.replicate,Nat.reduceSub,Nat.reduceAdd,Nat.sub_self,List.cons_append,List.nil_append,List.append_nil])
theorem gk {xs:List D}{P:D→Prop}(h:∀ d∈xs,P d){k:Int}(k0:0≤k)(k1:k < xs.length):∃ d,atD xs k=some d∧P d:=by
  obtain ⟨j,rfl⟩:=Int.eq_ofNat_of_zero_le k0
  rw[ck]
  have hj:j < xs.length:=by omega
  exact ⟨xs[j],by simp[hj],h _ (List.getElem_mem hj)⟩
def IsL (hi:Int)(d:D):Prop:=∃ p q,d=fr p q∧FrL hi p q
def IsI (lo hi:Int)(d:D):Prop:=∃ i:Int,d=.int i∧lo≤i∧i≤hi
theorem kP {P:D→Prop}:∀ d∈([]:List D),P d:=fun _ h=>nomatch h
theorem bB {P:D→Prop}{a:D}{xs:List D}(h:P a)(k:∀ d∈xs,P d):∀ d∈a::xs,P d:=fun d hd=>by
  rcases List.mem_cons.mp hd with e | e
  · rw[e];exact h
  · exact k d e
local macro_rules | `(tactic| walk_at "all")=>`(tactic| repeat' (first | exact kP | refine bB ?_ ?_))
structure qA (b p:Addr) (xs:List D) (μ μ':Mu):Prop where
  box:Box μ' b
  ne:p≠b
  new:μ p=none
  at':μ' p=some (.lst xs)
  oth:∀ a,a≠b→a≠p→μ' a=μ a
theorem qA.go {b p:Addr}{xs:List D}{μ μ1 μ2:Mu}(h:qA b p xs μ μ1)(B:dm b μ1 μ2):qA b p xs μ μ2:=
  ⟨B.box,h.ne,h.new,by rw[B.oth p h.ne];exact h.at',fun a h1 h2=>by rw[B.oth a h1];exact h.oth a h1 h2⟩
theorem qA.set {b p:Addr}{xs ys:List D}{μ μ1:Mu}(h:qA b p xs μ μ1):qA b p ys μ (up μ1 p (.lst ys)):=by
  obtain ⟨g,s,c,e,hh⟩:=h.box
  exact ⟨⟨g,s,c,by rw[aU h.ne.symm];exact e,hh⟩,h.ne,h.new,aD,fun a h1 h2=>by rw[aU h2];exact h.oth a h1 h2⟩
theorem JH (μ:Mu)(p:Addr):Sub (dn μ p) μ:=fun a o e=>by
  unfold dn at e
  split at e
  · cases e
  · exact e
theorem qA.fin {b p:Addr}{xs:List D}{μ μ1:Mu}(h:qA b p xs μ μ1):dm b μ (dn μ1 p):=by
  obtain ⟨g,s,c,e,hh⟩:=h.box
  refine ⟨⟨g,s,c,?_,hh⟩,fun a ha=>?_⟩
  · unfold dn;rw[if_neg h.ne.symm];exact e
  · unfold dn
    split
    · rename_i z;subst z;exact h.new.symm
    · rename_i z;exact h.oth a ha z
theorem qA.rt {b p:Addr}{xs:List D}{μ μ1:Mu}{Q:DK}{d:D}(h:qA b p xs μ μ1)(k:∀ μ',dm b μ μ'→Q d μ'):RT Q d μ1:=⟨_,JH μ1 p,k _ h.fin⟩
theorem rn {p:Addr}{G:GTr}{tt:TTr}{te:ETr}{ρc:ST}{K:Mu→Prop}(P:List D→Mu→Prop)(hnil:∀ μ,P [] μ→K μ)
    (hcons:∀ d r μ (N:Mu→Prop),P (d::r) μ→(∀ μ',P r μ'→N μ')→G d ρc μ fun ρ1 μ1=>tt ρ1 μ1 fun b μ2=>kIf b (te ρ1 μ2 fun y μ3=>kL μ3 p fun zs=>zs.length < 1000000∧N (up μ3 p (.lst (zs++[y])))) (N μ2)) :
    ∀ (ds:List D) (μ:Mu),P ds μ→iD p G tt te ρc K ds μ
  | [],μ,h=>hnil μ h
  | d::r,μ,h=>hcons d r μ _ h fun μ' q=>rn P hnil hcons r μ' q
mutual
theorem uB:∀ (n:Nat) (d:D),okD n d=true→eqD d d=true
  | n,.non,_=>rfl
  | n,.bl b,_=>by simp[eqD]
  | n,.int i,_=>by simp[eqD]
  | n,.str x,_=>by simp[eqD]
  | n+1,.tup ds,h=>by simp only[eqD];exact kT n ds h
  | n+1,.ls ds,h=>by simp only[eqD];exact kT n ds h
  | 0,.tup ds,h=>by cases h
  | 0,.ls ds,h=>by cases h
  | n,.ty _,h=>by cases n<;>cases h
  | n,.obj _,h=>by cases n<;>cases h
theorem kT:∀ (n:Nat) (ds:List D),bC n ds=true→gF ds ds=true
  | n,[],_=>rfl
  | n,d::r,h=>by
    have h':okD n d=true∧bC n r=true:=by simpa[bC] using h
    simp only[gF,uB n d h'.1,kT n r h'.2,Bool.and_self]
end
theorem Kb (d0:D)(r:List D)(f:D→Prop):kO (atD (d0::r) 0) f=f d0:=by rw[zy];rfl
theorem KJ (d0 d1:D)(r:List D)(f:D→Prop):kO (atD (d0::d1::r) 1) f=f d1:=by rw[zb];rfl
theorem LJ (d0 d1 d2:D)(r:List D)(f:D→Prop):kO (atD (d0::d1::d2::r) 2) f=f d2:=by rw[zF];rfl
theorem LF (d0 d1 d2 d3:D)(r:List D)(f:D→Prop):kO (atD (d0::d1::d2::d3::r) 3) f=f d3:=by rw[zu];rfl
theorem LQ (d0 d1 d2 d3 d4:D)(r:List D)(f:D→Prop):kO (atD (d0::d1::d2::d3::d4::r) 4) f=f d4:=by rw[zY];rfl
theorem KQ (d0 d1 d2 d3 d4 d5:D)(r:List D)(f:D→Prop):kO (atD (d0::d1::d2::d3::d4::d5::r) 5) f=f d5:=by rw[zH];rfl
def Gi (G:GTr)(tt:TTr)(te:ETr)(ρc:ST)(ds:List D)(μ:Mu)(Q:DK):Prop:=∀ p,μ p=none→iD p G tt te ρc (fun μ'=>kL μ' p fun zs=>Q (.ls zs) (dn μ' p)) ds (up μ p (.lst []))
theorem EL (it:ATr)(G:GTr)(tt:TTr)(te:ETr)(n:Nat)(caps:List Nat)(ρ:ST)(μ:Mu)(Q:DK):bO it G tt te n caps ρ μ Q=it ρ μ fun ds μ1=>Gi G tt te (gU ρ n caps) ds μ1 Q:=propext Iff.rfl
theorem JU (ρ:ST)(μ:Mu)(Q:Bool→Mu→Prop):ik ρ μ Q=Q true μ:=propext Iff.rfl
theorem Ja {μ:Mu}{a:Addr}{o:MO}(h:μ a=none):dn (up μ a o) a=μ:=De h
section
variable {G:GTr} {tt:TTr} {te:ETr} {ρc:ST} {ds:List D} {μ:Mu} {Q:DK}
theorem DH (I:List D→List D→Prop)(h0:I ds [])(hl:ds.length≤999999)
    (step:∀ d r zs μ',Sub μ μ'→I (d::r) zs→∀ (N:Option D→Mu→Prop),(∀ oy,I r (zs++oy.toList)→N oy μ')→G d ρc μ' fun ρ1 μ1=>tt ρ1 μ1 fun b μ2=>kIf b (te ρ1 μ2 fun y μ3=>N (some y) μ3) (N none μ2))
    (k:∀ zs,I [] zs→Q (.ls zs) μ):Gi G tt te ρc ds μ Q:=by
  intro p hp
  refine rn (fun r μ'=>∃ zs,I r zs∧zs.length+r.length≤ds.length∧μ'=up μ p (.lst zs)) ?_ ?_ _ _ ⟨[],h0,by simp,rfl⟩
  · rintro μ' ⟨zs,hI,_,rfl⟩
    refine bc aD ?_
    rw[De hp];exact k zs hI
  · rintro d r μ' N ⟨zs,hI,hz,rfl⟩ hN
    rw[List.length_cons] at hz
    refine step d r zs _ (Sub.new hp) hI (fun oy μ3=>match oy with
      | some y=>kL μ3 p fun zs=>zs.length < 1000000∧N (up μ3 p (.lst (zs++[y])))
      | none=>N μ3) ?_
    intro oy hoy
    cases oy with
    | none=>exact hN _ ⟨zs,by simpa using hoy,by omega,rfl⟩
    | some y=>
      refine bc aD ⟨by omega,hN _ ⟨zs++[y],hoy,by rw[List.length_append];simp;omega,?_⟩⟩
      rw[oH]
theorem cM {α:Type}(xs:List α)(t:α→D)(h:α→Option D)(hds:ds=xs.map t)(hl:xs.length≤999999)
    (step:∀ x∈xs,∀ μ',Sub μ μ'→∀ (N:Option D→Mu→Prop),N (h x) μ'→G (t x) ρc μ' fun ρ1 μ1=>tt ρ1 μ1 fun b μ2=>kIf b (te ρ1 μ2 fun y μ3=>N (some y) μ3) (N none μ2))
    (k:Q (.ls (xs.filterMap h)) μ):Gi G tt te ρc ds μ Q:=by
  subst hds
  refine DH (fun r zs=>∃ a c,xs=a++c∧r=c.map t∧zs=a.filterMap h) ⟨[],xs,rfl,rfl,rfl⟩ (by simpa using hl) ?_ ?_
  · rintro d r zs μ' sb ⟨a,c,e,er,rfl⟩ N hN
    cases c with
    | nil=>cases er
    | cons x c=>
    cases er
    refine step x (by rw[e];simp) μ' sb N (hN _ ⟨a++[x],c,by rw[e];simp,rfl,?_⟩)
    rw[List.filterMap_append]
    cases hx:h x<;>simp[hx]
  · rintro zs ⟨a,c,e,er,rfl⟩
    have:c=[]:=by cases c with | nil=>rfl | cons=>cases er
    subst this
    rw[List.append_nil] at e
    subst e;exact k
theorem bH {α:Type}(xs:List α)(t:α→D)(h:α→D)(hds:ds=xs.map t)(hl:xs.length≤999999)
    (step:∀ x∈xs,∀ μ',Sub μ μ'→∀ (N:DK),N (h x) μ'→G (t x) ρc μ' fun ρ1 μ1=>te ρ1 μ1 N)
    (k:Q (.ls (xs.map h)) μ):Gi G ik te ρc ds μ Q:=by
  refine cM xs t (fun x=>some (h x)) hds hl (fun x hx μ' s N n=>?_) (by rw[show (fun x=>some (h x))=some ∘ h from rfl,List.filterMap_eq_map];exact k)
  exact step x hx μ' s (fun y μ3=>N (some y) μ3) n
def Ct (a:Addr)(full:List D)(G:GTr)(tt:TTr)(te:ETr)(ρc:ST)(ds:List D)(μ:Mu)(Q:DK):Prop:=∀ p,μ p=none→jB (fun μ=>μ a=some (.lst full)) p G tt te ρc (fun μ'=>kL μ' p fun zs=>Q (.ls zs) (dn μ' p)) ds (up μ p (.lst []))
theorem C7 (To:ETr)(G:GTr)(tt:TTr)(te:ETr)(n:Nat)(caps:List Nat)(ρ:ST)(μ:Mu)(Q:DK):jH To G tt te n caps ρ μ Q=To ρ μ fun x μ1=>kObj x fun a=>kL μ1 a fun ds=>Ct a ds G tt te (gU ρ n caps) ds μ1 Q:=propext Iff.rfl
theorem jE {C:Mu→Prop}{p:Addr}{ρc:ST}{K:Mu→Prop}(P:List D→Mu→Prop)(hC:∀ r μ,P r μ→C μ)(hnil:∀ μ,P [] μ→K μ)
    (hcons:∀ d r μ (N:Mu→Prop),P (d::r) μ→(∀ μ',P r μ'→N μ')→G d ρc μ fun ρ1 μ1=>tt ρ1 μ1 fun b μ2=>kIf b (te ρ1 μ2 fun y μ3=>kL μ3 p fun zs=>zs.length < 1000000∧N (up μ3 p (.lst (zs++[y])))) (N μ2)) :
    ∀ (ds:List D) (μ:Mu),P ds μ→jB C p G tt te ρc K ds μ
  | [],μ,h=>⟨hC _ _ h,hnil μ h⟩
  | d::r,μ,h=>⟨hC _ _ h,hcons d r μ _ h fun μ' q=>jE P hC hnil hcons r μ' q⟩
theorem qT {α:Type}{a:Addr}(xs:List α)(t:α→D)(h:α→Option D)(hds:ds=xs.map t)(hm:μ a=some (.lst (xs.map t)))(hl:xs.length≤999999)
    (step:∀ x∈xs,∀ μ',Sub μ μ'→∀ (N:Option D→Mu→Prop),N (h x) μ'→G (t x) ρc μ' fun ρ1 μ1=>tt ρ1 μ1 fun b μ2=>kIf b (te ρ1 μ2 fun y μ3=>N (some y) μ3) (N none μ2))
    (k:Q (.ls (xs.filterMap h)) μ):Ct a (xs.map t) G tt te ρc ds μ Q:=by
  subst hds
  intro p hp
  refine jE (fun r μ'=>∃ b c,xs=b++c∧r=c.map t∧μ'=up μ p (.lst (b.filterMap h))) ?_ ?_ ?_ _ _ ⟨[],xs,rfl,rfl,rfl⟩
  · rintro r μ' ⟨b,c,_,_,rfl⟩
    exact Sub.new hp _ _ hm
  · rintro μ' ⟨b,c,e,er,rfl⟩
    have:c=[]:=by cases c with | nil=>rfl | cons=>cases er
    subst this
    rw[List.append_nil] at e
    subst e
    refine bc aD ?_
    rw[De hp];exact k
  · rintro d r μ' N ⟨b,c,e,er,rfl⟩ hN
    cases c with
    | nil=>cases er
    | cons x c=>
    cases er
    have e':xs=(b++[x])++c:=by rw[e];simp
    have lf:(b.filterMap h).length < 1000000:=by
      have h1:=List.length_filterMap_le h b
      have h2:xs.length=b.length+(x::c).length:=by rw[e,List.length_append]
      rw[List.length_cons] at h2;omega
    refine step x (by rw[e];simp) _ (Sub.new hp) (fun oy μ3=>match oy with
      | some y=>kL μ3 p fun zs=>zs.length < 1000000∧N (up μ3 p (.lst (zs++[y])))
      | none=>N μ3) ?_
    cases hf:h x with
    | none=>
      refine hN _ ⟨b++[x],c,e',rfl,?_⟩
      rw[List.filterMap_append];simp[hf]
    | some y=>
      refine bc aD ⟨lf,hN _ ⟨b++[x],c,e',rfl,?_⟩⟩
      rw[List.filterMap_append,oH];simp[hf]
end
section
open PySem PySem.Spec PyProof.Rows L2
section
variable {prog:Program} {w:World} {A:Around} {E:Value→Shared→Prop} {s:Shared}
end
section
variable {X:Cx} {ea eb:Expr} {Ta Tb:ETr} {p p2 pos rpos:Pos}
end
end
section
open PySem PySem.Spec PyProof.Rows L2
section
variable {prog:Program} {w:World} {A:Around} {E:Value→Shared→Prop} {s:Shared}
end
end
section
open PySem PySem.Spec PyProof.Rows L2
section
variable {prog:Program} {w:World} {A:Around} {E:Value→Shared→Prop} {s:Shared}
theorem DB {tp:Bool}{e it a:Addr}{i:Nat}{xs:Array Value}{x old:Value}{Q:Option Value→Shared→Prop}(en:IsEnum s.heap e it i old)(li:fR tp s.heap it a i)(se:dZ tp s.heap a xs)(hx:xs[i]? = some x)(ne:e≠it)
    (q:∀ g,IsEnumOut g e it ((i:Int)+1) x s.heap.objs.size→fR tp g it a (i+1)→g.get? s.heap.objs.size=some { cls:=.type "tuple", data:=.seq #[.int i s.toks,x] }→
      (∀ c o,c≠e→c≠it→s.heap.get? c=some o→g.get? c=some o)→Q (some (.ref s.heap.objs.size)) { s with heap:=g,toks:=s.toks+1 }):wpAny (model prog w) A (pyNext (.ref e)) Q E s:=by
  have ty:s.TypeIs (.ref e) "enumerate" := ⟨_,en,rfl⟩
  unfold pyNext
  refine wpAny_bind (wpAny_attempt (wpAny_callSpecial?_slot (name:=Str.ofString "__next__") ty F.slot_enumerate_next (wpAny_call_entry F.slot_enumerate_next ty F.entry_enumerate_next ?_ (F.args_enumerate_next_1 _))))
  refine wpAny_bind (m:=field (.ref e) 2) (wpAny_field en rfl (x:=.ref it) rfl (wpAny_bind (m:=Builtin.SmallTypes.nextOf (.ref it)) (mK li se hx fun g1 li1 k1=>?_)))
  have en1:IsEnum g1 e it i old:=(k1.2 e ne).trans en
  refine wpAny_bind (m:=field (.ref e) 3) (wpAny_field (s:={ s with heap:=g1 }) en1 rfl (x:=rawInt i) rfl (wpAny_bind (m:=field (.ref e) 4) (wpAny_field (s:={ s with heap:=g1 }) en1 rfl (x:=.none) rfl (wpAny_bind (m:=mkInt i) (wpAny_mkInt ?_)))))
  refine wpAny_bind (m:=setField (.ref e) 3 (rawInt ((i:Int)+1))) (wpAny_setField_rec en1 (by simp) fun g2 en2 k2=>?_)
  have en2:IsEnum g2 e it ((i:Int)+1) old:=en2
  refine wpAny_bind (m:=setField (.ref e) 4 .none) (wpAny_setField_rec en2 (by simp) fun g3 en3 k3=>?_)
  have en3:IsEnum g3 e it ((i:Int)+1) old:=en3
  refine wpAny_bind (m:=newTuple [.int i s.toks,x]) (wpAny_newTuple ?_)
  have sz:g3.objs.size=s.heap.objs.size:=by rw[k3.1,k2.1,k1.1]
  have en4:IsEnum (g3.push { cls:=.type "tuple", data:=.seq #[.int i s.toks,x] }) e it ((i:Int)+1) old:=Heap.get?_push_of_some _ en3
  have elt:e < g3.objs.size:=Heap.lt_size en3
  refine wpAny_bind (m:=Builtin.SmallTypes.ownedTupleIsFree (.ref e)) ?_
  delta Builtin.SmallTypes.ownedTupleIsFree
  refine wpAny_bind (wpAny_field (s:={ s with heap:=g3.push { cls:=.type "tuple", data:=.seq #[.int i s.toks,x] },toks:=s.toks+1 }) en4 rfl (x:=.none) rfl (wpAny_pure ?_))
  simp only[if_true]
  refine wpAny_bind (wpAny_rule (wpAny_bind (wpAny_field en4 rfl (x:=old) rfl (wpAny_bind (wpAny_setField_rec en4 (by simp) fun g5 en5 k5=>?_)))))
  have en5:IsEnum g5 e it ((i:Int)+1) x:=en5
  refine wpAny_bind (m:=Builtin.SmallTypes.ownedTupleHandOut (.ref e) (.ref g3.objs.size)) ?_
  delta Builtin.SmallTypes.ownedTupleHandOut
  refine wpAny_bind (wpAny_setField_rec en5 (by simp) fun g6 en6 k6=>?_)
  have en6:IsEnumOut g6 e it ((i:Int)+1) x g3.objs.size:=en6
  refine wpAny_setField_rec en6 (by simp) fun g7 en7 k7=>?_
  have en7:IsEnumOut g7 e it ((i:Int)+1) x g3.objs.size:=en7
  have up3:∀ c o,c≠e→g3.get? c=some o→g7.get? c=some o:=fun c o c1 h=>(k7.2 c c1).trans ((k6.2 c c1).trans ((k5.2 c c1).trans (Heap.get?_push_of_some _ h)))
  have new:g7.get? g3.objs.size=some { cls:=.type "tuple", data:=.seq #[.int i s.toks,x] }:=(k7.2 _ (Nat.ne_of_gt elt)).trans ((k6.2 _ (Nat.ne_of_gt elt)).trans ((k5.2 _ (Nat.ne_of_gt elt)).trans (Heap.get?_push_size _ rfl)))
  rw[sz] at en7 new
  have fin:=q g7 en7 (li1.at fun o h=>up3 it o (Ne.symm ne) ((k3.2 it (Ne.symm ne)).trans ((k2.2 it (Ne.symm ne)).trans h))) new fun c o c1 c2 h=>up3 c o c1 ((k3.2 c c1).trans ((k2.2 c c1).trans ((k1.2 c c2).trans h)))
  rw[← sz] at fin
  exact wpAny_bind (wpAny_letGo (wpAny_pure ⟨_,rfl,wpAny_pure fin⟩))
theorem Ey {tp:Bool}{e it a:Addr}{i:Nat}{xs:Array Value}{old:Value}{Q:Option Value→Shared→Prop}(hh:A.handled=none)(en:IsEnum s.heap e it i old)(li:fR tp s.heap it a i)(se:dZ tp s.heap a xs)(hx:xs[i]? = none)
    (q:∀ g,Heap.ExtBut it s.heap g→Q none { s with heap:=g }):wpAny (model prog w) A (pyNext (.ref e)) Q E s:=by
  have ty:s.TypeIs (.ref e) "enumerate" := ⟨_,en,rfl⟩
  unfold pyNext
  refine wpAny_bind (wpAny_attempt (wpAny_callSpecial?_slot (name:=Str.ofString "__next__") ty F.slot_enumerate_next (wpAny_call_entry F.slot_enumerate_next ty F.entry_enumerate_next ?_ (F.args_enumerate_next_1 _))))
  refine wpAny_bind (m:=field (.ref e) 2) (wpAny_field en rfl (x:=.ref it) rfl (wpAny_bind (m:=Builtin.SmallTypes.nextOf (.ref it)) (we hh li se hx fun g z kp sz=>?_)))
  obtain ⟨o,ho,hc⟩:=sz
  exact wpAny_bind (wpAny_isInstance (T := "StopIteration") (b:=true) ⟨o,ho,hc⟩ isSubtype_stop (wpAny_pure (q _ kp)))
theorem Ef (tp:Bool)(a:Addr)(xs:Array Value):Meets (Builtin.«enumerate.__new__» ⟨[.type "enumerate", .ref a],[]⟩) (fun _ R s=>dZ tp s.heap a xs∧
      R (.ok (.ret (.ref (s.heap.push (itO tp a)).objs.size))) { s with heap:=(s.heap.push (itO tp a)).push { cls:=.type "enumerate", data:=.fields #[.none,.bool false,.ref s.heap.objs.size,rawInt 0,.none,.none] } }):=
  .of_wp fun prog w A R s h=>by
    rcases s with ⟨hp,g,d,tk,os⟩
    obtain ⟨h1,h⟩:=h
    have hs0:=sub_enumerate
    have H1:dZ tp (Shared.heap ⟨hp,g,d,tk,os⟩) a xs:=h1
    wp_walk
    refine wpAny_stack_any fun stk=>wpAny_pure ?_
    split
    · rename_i c _ _ _ _ _
      cases (c == Value.type "enumerate")<;>(wp_walk using EH H1;exact ⟨_,rfl,h⟩)
    · wp_walk using EH H1
      exact ⟨_,rfl,h⟩
theorem yk {tp:Bool}{a:Addr}{xs:Array Value}{Q:Value→Shared→Prop}(h1:dZ tp s.heap a xs)
    (q:∀ g,IsEnum g (s.heap.objs.size+1) s.heap.objs.size 0 .none→fR tp g s.heap.objs.size a 0→(∀ c o,s.heap.get? c=some o→g.get? c=some o)→Q (.ref (s.heap.objs.size+1)) { s with heap:=g }) :
    wpAny (model prog w) A (call (.type "enumerate") [.ref a]) Q E s:=by
  refine callType_new F.called_enumerate (by decide) (F.typeCall_enumerate_1 _) (F.newCall_enumerate_1 _) (fun obj=>F.args_object_init_2 obj _) F.entry_enumerate_new (Ef tp a xs) ⟨h1,?_⟩
  have s1:(s.heap.push (itO tp a)).objs.size=s.heap.objs.size+1:=Heap.size_push ..
  have new:IsEnum ((s.heap.push (itO tp a)).push { cls:=.type "enumerate", data:=.fields #[.none,.bool false,.ref s.heap.objs.size,rawInt 0,.none,.none] }) (s.heap.push (itO tp a)).objs.size s.heap.objs.size 0 .none:=Heap.get?_push_size _ rfl
  refine ⟨⟨_,new,rfl⟩,?_⟩
  rw[s1] at new ⊢
  refine q _ new ?_ fun c o h=>Heap.get?_push_of_some _ (Heap.get?_push_of_some _ h)
  have z:=Heap.get?_push_of_some { cls:=.type "enumerate", data:=.fields #[.none,.bool false,.ref s.heap.objs.size,rawInt 0,.none,.none] } (Heap.get?_push_size s.heap (o:=itO tp a) (by cases tp<;>rfl))
  cases tp<;>exact ⟨_,z,rfl,rfl⟩
end
def Itn (tp:Bool)(K:PySem.W.Frag)(a:Addr):It:=
  ⟨fun i H=>∃ xs x,Sq tp K H a xs∧xs[i]? = some x,
   fun i H v H'=>∃ x p,(∀ xs,Sq tp K H a xs→xs[i]? = some x)∧v=.ref p∧H p=none∧H'=L2.upd H p (.tup [.int i,x]),
   fun i H=>∃ xs,Sq tp K H a xs∧xs.length≤i⟩
structure NAt (tp:Bool) (h:Heap) (e it a:Addr) (k:Nat):Prop where
  en:∃ old,IsEnum h e it k old
  li:fR tp h it a k
theorem DX {P:Program}{w:World}{K:PySem.W.Frag}{es:List Expr}{ek:Nat}{ep:Pos}{tp:Bool}{e it a:Addr}(n1:e≠it) :
    Turn P w K (.Tuple es ek ep) (Itn tp K a) [e,it] e (fun k h=>NAt tp h e it a k) where
  mem:=by simp
  obj:=fun k h S c hc=>by
    obtain ⟨⟨old,en⟩,li⟩:=S
    simp only[List.mem_cons,List.not_mem_nil,or_false] at hc
    rcases hc with rfl | rfl
    · exact ⟨_,en,fun v y=>by cases y⟩
    · obtain ⟨o,ho,vs,hd⟩:=li.ex;exact ⟨o,ho,fun v y=>by rw[hd] at y;cases y⟩
  keep:=fun k h g S kp=>by
    obtain ⟨⟨old,en⟩,li⟩:=S
    exact ⟨⟨old,kp e (by simp) _ en⟩,li.at fun o q=>kp it (by simp) o q⟩
  item:=by
    intro X hP hw hK hc k pins s σ H E I hf S hg
    subst hP hw hK
    obtain ⟨xs,x,qa,ex⟩:=hg
    obtain ⟨⟨old,en⟩,li⟩:=S
    obtain ⟨ia,ra,sa⟩:=Inv.sq I qa
    obtain ⟨ux,hux,rx⟩:=ra.get ex
    have elt:e < s.heap.objs.size:=Heap.lt_size en
    have fr:H s.heap.objs.size=none:=I.hok.fresh (Nat.le_refl _)
    refine DB en li sa (x:=ux) (by simpa using hux) n1 fun g eo li2 new al=>⟨_,rfl,wpAny_letOwnedTupleGo_enum eo fun g2 en2 k2=>?_⟩
    have k2:Heap.SameBut e g g2:=k2
    have all:∀ c o,c ∉ [e,it]→s.heap.get? c=some o→g2.get? c=some o:=fun c o hc q=>by
      simp only[List.mem_cons,List.not_mem_nil,or_false,not_or] at hc
      exact (k2.2 c hc.1).trans (al c o hc.1 hc.2 q)
    have new2:g2.get? s.heap.objs.size=some { cls:=.type "tuple", data:=.seq #[.int k s.toks,ux] }:=(k2.2 _ (Nat.ne_of_gt elt)).trans new
    have nfp:∀ c u,H c=some u→c ∉ [e,it]:=fun c u q hc=>by rw[(hf c hc).1] at q;cases q
    refine ⟨.ref s.heap.objs.size,L2.upd H s.heap.objs.size (.tup [.int k,x]),?_,rfl,⟨x,_,fun xs' q=>by rw[Inv.xt I q qa];exact ex,rfl,fr,rfl⟩,⟨⟨_,en2⟩,li2.at fun o q=>(k2.2 it (Ne.symm n1)).trans q⟩,fun c hc=>?_⟩
    · refine L2.Inv.step (s:=s) (H:=H) (H':=L2.upd H s.heap.objs.size (.tup [.int k,x])) (g':=s.gens) (d':=s.drawn) (t':=s.toks+1) (h':=g2) (ch:=[e,it]) I (fun c hc=>⟨(hf c hc).2.2.2.1,(hf c hc).2.1,(hf c hc).2.2.2.2.1,(hf c hc).2.2.2.2.2⟩) (fun c o _ _ hc q _=>all c o hc q) (fun c o _ _ hc q _=>⟨o.slots,all c o hc q⟩) (fun c o hc q n=>?_) (fun c o hc q=>⟨o,all c o hc q⟩)
        (fun c xs q=>?_) (fun c o u q=>?_) (fun c ps q=>⟨#[],?_⟩) (fun m hm=>?_) (fun c u q=>?_) I.bare
      · rw[aB (Nat.ne_of_lt (Heap.lt_size q))];exact n
      · rw[aB (aP q fr)];exact q
      · rw[aB (aP q fr)];exact q
      · rw[aB (aP q fr),q];simp
      · obtain ⟨o,es',ep',ho,r⟩:=hm
        exact ⟨o,es',ep',all _ o (fun hc=>(hf _ hc).2.1 rfl) ho,r⟩
      · by_cases hcT:c=s.heap.objs.size
        · subst hcT
          rw[aG] at q;cases q
          exact ⟨by show 2≤sizeLine;decide,[.int k s.toks,ux],.cons ⟨s.toks,rfl⟩ (.cons rx .nil),⟨_,new2⟩⟩
        · rw[aB hcT] at q
          refine (I.hok c u q).lq (fun c' v hc' z=>all c' v ?_ z) (fun c' z=>by rw[aB (aP z fr)];exact z) fun c' xs z=>by rw[aB (aP z fr)];exact z
          rcases hc' with rfl | hc'
          · exact nfp _ _ q
          · exact nfp _ _ hc'
    · have hcl:c≠s.heap.objs.size:=by
        simp only[List.mem_cons,List.not_mem_nil,or_false] at hc
        rcases hc with rfl | rfl
        · exact Nat.ne_of_lt elt
        · obtain ⟨o,q,_⟩:=li.ex;exact Nat.ne_of_lt (Heap.lt_size q)
      rw[aB hcl];exact (hf c hc).1
  done:=by
    intro X hP hw hK hc k pins s σ H E I hf S hg
    subst hP hw hK
    obtain ⟨xs,qa,he⟩:=hg
    obtain ⟨⟨old,en⟩,li⟩:=S
    obtain ⟨ia,ra,sa⟩:=Inv.sq I qa
    have la:=ra.length
    obtain ⟨f0,f1,f2,f3,f4,f5⟩:=hf it (by simp)
    exact Ey (I.ok.hd hc) en li sa (by simp;omega) fun g eb=>⟨rfl,I.turned (t':=s.toks) (fun b o hb q=>eb b o hb q) f0 f1 f3 f4 f5⟩
  self:=fun _ _ _ _ _ S h=>by
    obtain ⟨⟨old,en⟩,_⟩:=S
    exact wpAny_pyIter_enum en h
def Ms (K:PySem.W.Frag)(t:TA):TI:=fun σ H R=>t σ H fun vs H1=>∃ (tp:Bool) (a:Addr),vs=[.ref a]∧(∃ xs,Sq tp K H1 a xs)∧R (Itn tp K a) H1
section
variable {X:Cx} {ea:Expr} {es:List Expr} {ek:Nat} {ep p pos:Pos}
theorem HF {t:TA}(hg:Gl X "enumerate")(hm:X.mg "enumerate" = none)(ha:PA X [ea] t)(hs:starEach [ea] X.env=[(false,eval ea X.env)]:=by rfl) :
    PI X (.Tuple es ek ep) (.Call (.Name "enumerate" p) [ea] [] pos) (Ms X.K t):=by
  intro pins s σ H R I h
  refine Call_ (kG I hg hm boot_enumerate (PyProof.Rows.callWith_type1 (thn (ha pos pins s σ H _ I h) fun us s1 ⟨vs,H1,I1,r1,q1⟩=>?_) (by rw[hs];rfl) rfl))
  obtain ⟨tp,a,e,⟨xs,qa⟩,q⟩:=q1
  subst e
  cases r1 with | cons r rr=>
  cases rr
  cases (show _=Value.ref a from r)
  obtain ⟨ia,ra,sa⟩:=Inv.sq I1 qa
  refine yk sa fun g en li kp=>wpAny_pyIter_enum en ?_
  refine ⟨s1.heap.objs.size+1,[s1.heap.objs.size+1,s1.heap.objs.size],_,_,H1,rfl,I1.kept (t':=s1.toks) kp,DX (tp:=tp) (a:=a) (Nat.succ_ne_self _),⟨⟨_,en⟩,li⟩,fun c hc=>?_,q⟩
  have hc':s1.heap.objs.size≤c:=by
    simp only[List.mem_cons,List.not_mem_nil,or_false] at hc
    rcases hc with rfl | rfl
    · exact Nat.le_succ _
    · exact Nat.le_refl _
  exact I1.AR hc' (I1.hok.fresh hc')
def Cy (t:ATr):ATr:=fun ρ μ Q=>t ρ μ fun vs μ1=>match vs with
  | [x]=>kS x fun ds=>Q (jO ds) μ1
  | _=>False
theorem Ek {At:ATr}(hg:Gl X "enumerate")(hm:X.mg "enumerate" = none)(ha:LA X [ea] At)(hs:starEach [ea] X.env=[(false,eval ea X.env)]:=by rfl) :
    LI X (.Tuple es ek ep) (.Call (.Name "enumerate" p) [ea] [] pos) (Cy At):=by
  obtain ⟨t,pt,st⟩:=ha.ex
  refine ⟨_,HF hg hm pt hs,fun σ H ρ μ Q R rl h k=>st σ H ρ μ _ _ rl h fun vs H1 ds μ1 t1 m1 p1 h1=>?_⟩
  split at h1
  case h_2=>exact False.elim h1
  cases p1 with | cons pa p2=>
  cases p2
  obtain ⟨tp,a,xs,dx,rfl,qa,la,h2⟩:=wU pa h1
  obtain ⟨a',xs',dx',ea',qa',la',h2⟩:=xI pa h2
  cases ea'
  refine ⟨tp,a,rfl,⟨xs',qa'⟩,k _ H1 _ μ1 t1 m1 ⟨fun i H' tk hi=>?_,fun i H' v H'' tk hi yv=>?_,fun i H' tk hi=>?_⟩ h2⟩
  · have l1:=la'.length
    rw[rE] at hi
    exact ⟨xs',xs'[i],tk.sq qa',by simp[show i < xs'.length by omega]⟩
  · obtain ⟨x,q,fx,rfl,fr,rfl⟩:=yv
    have ex:=fx _ (tk.sq qa')
    obtain ⟨d,ed,pd⟩:=la'.get' ex
    have tn:Tk H' (L2.upd H' q (.tup [.int i,x])):=.new fr
    exact ⟨tn,⟨.tup [.int i,d],by rw[rF,ed];rfl,.tup (SqT.of aG) (.cons (.int _) (.cons ((pd.mono tk).mono tn) .nil))⟩,fun μ' m'=>cR m' fr⟩
  · rw[rE] at hi
    exact ⟨xs',tk.sq qa',by rw[la'.length];exact hi⟩
end
end
section
open PySem PySem.Spec PyProof PyProof.Rows L2
section
variable {w:World} {prog:Program} {A:Around} {E:Value→Shared→Prop}
section
variable {R:Result→Shared→Prop} {I:Addr} {fp wr:List Addr} {n:Nat} {P:Nat→Value→Prop} {St:Nat→Heap→Prop}
end
variable {s:Shared}
end
section
variable {X:Cx} {e d:Expr} {p pos kp:Pos} {Te Td:ETr}
end
end
section
open PySem PySem.Spec PyProof.Rows L2
section
variable {X:Cx} {o i:Expr} {To Ti:ETr} {apos cpos:Pos}
end
end
section
open PySem PySem.Spec PyProof.Rows L2
section
variable {X:Cx} {o i:Expr} {To Ti:ETr} {apos cpos:Pos}
end
end
section
open PySem PySem.Spec PyProof.Rows L2
end
section
open PySem PySem.Spec PyProof.Rows L2
section
variable {X:Cx} {a b c d:Expr} {ta tb tc td:TE} {Ta Tb Tc Td:ETr} {pos:Pos} {o1 o2 o3:CmpOp} {r1 r2 r3:L2.R2} {R1 R2 R3:DR2}
end
end
section
open PySem PySem.Spec PyProof.Rows L2
section
variable {X:Cx} {tg a b:Expr} {Ta Tb:ETr} {pos:Pos}
end
end
section
open PySem PySem.Spec PyProof.Rows L2
def zM:ETr:=fun ρ μ Q=>∀ p,μ p=none→Q (.obj p) (up μ p (.dct []))
theorem CS {X:Cx}{pos:Pos}:LE X (.Dict [] [] pos) zM:=ET
end
section
open PySem PySem.Spec PyProof.Rows L2
section
variable {X:Cx} {o i:Expr} {apos cpos:Pos}
end
end
section
open PySem PySem.Spec PyProof PyProof.Rows L2
section
variable {X:Cx} {o:Expr} {apos cpos pos p:Pos} {x:Str}
end
end
section
open PySem PySem.Spec PyProof.Rows L2
end
structure WE where
  nm:Str
  pc:Int
  rm:D
  ma:D
  so:D
def WE.toD (w:WE):D:=.tup [.str w.nm,.int w.pc,w.rm,w.ma,w.so]
structure WE.Ok (w:WE):Prop where
  n:PyData.strOk w.nm=true
  ne:w.nm≠Str.ofString ""
  p0:1≤w.pc
  p1:w.pc≤20
structure SE where
  nm:Str
  r0:Str
  rd:List Str
  bt:Int
  bg:D
  mn:D
  R:RN
def SE.road (s:SE):List Str:=s.r0::s.rd
def SE.toD (s:SE):D:=.tup [.str s.nm,.tup (s.road.map .str),.int s.bt,s.bg,s.mn,s.R.toD]
structure SE.Ok (s:SE):Prop where
  n:PyData.strOk s.nm=true
  r:∀ x∈s.road,PyData.strOk x=true
  b0:1≤s.bt
  b1:s.bt≤8
  R:s.R.Ok
  bo:okD 38 s.bg=true
  mo:okD 38 s.mn=true
def SE.lim (s:SE):Int:=s.R.r / s.R.s
theorem SE.Ok.lim {s:SE}(h:s.Ok):1≤s.lim∧s.lim≤60:=by
  have t:=h.R.t
  have q0:=t.q0
  have h1:=t.ge
  have h2:=t.le
  exact ⟨(Int.le_ediv_iff_mul_le q0).mpr h1,Int.ediv_le_of_le_mul q0 h2⟩
structure PE' (ws:List WE) (ss:List SE):Prop where
  w:∀ x∈ws,x.Ok
  s:∀ x∈ss,x.Ok
  rd:∀ x∈ss,x.road.Sublist (ws.map WE.nm)
  wl:ws.length≤8
  sl:ss.length≤8
  nd:(ss.map SE.nm).Nodup
  wn:(ws.map WE.nm).Nodup
theorem PE'.all {ws:List WE}{ss:List SE}(h:PE' ws ss):∀ x∈ss,∀ n∈x.road,∃ y∈ws,y.nm=n:=fun x hx n hn=>List.mem_map.mp ((h.rd x hx).subset hn)
theorem PE'.on {ws:List WE}{ss:List SE}(h:PE' ws ss):∀ x∈ss,∃ y∈ws,y.nm=x.r0:=fun x hx=>h.all x hx x.r0 List.mem_cons_self
theorem MP (w:WE)(μ:Mu)(Q:DK):L3.rIx w.toD (.int 0) μ Q=Q (.str w.nm) μ:=propext Iff.rfl
theorem MB (w:WE)(μ:Mu)(Q:DK):L3.rIx w.toD (.int 1) μ Q=Q (.int w.pc) μ:=propext Iff.rfl
theorem ME (w:SE)(μ:Mu)(Q:DK):L3.rIx w.toD (.int 0) μ Q=Q (.str w.nm) μ:=propext Iff.rfl
theorem MN (w:SE)(μ:Mu)(Q:DK):L3.rIx w.toD (.int 1) μ Q=Q (.tup (w.road.map .str)) μ:=propext Iff.rfl
theorem L8 (w:SE)(μ:Mu)(Q:DK):L3.rIx w.toD (.int 2) μ Q=Q (.int w.bt) μ:=propext Iff.rfl
theorem MU (w:SE)(μ:Mu)(Q:DK):L3.rIx w.toD (.int 5) μ Q=Q w.R.toD μ:=propext Iff.rfl
def a6 (g:D)(ws:List WE)(ss:List SE):D:=.tup [g,.tup (ws.map WE.toD),.tup (ss.map SE.toD)]
theorem L6 (g:D)(ws:List WE)(ss:List SE)(μ:Mu)(Q:DK):L3.rIx (a6 g ws ss) (.int 1) μ Q=Q (.tup (ws.map WE.toD)) μ:=propext Iff.rfl
theorem MD (g:D)(ws:List WE)(ss:List SE)(μ:Mu)(Q:DK):L3.rIx (a6 g ws ss) (.int 2) μ Q=Q (.tup (ss.map SE.toD)) μ:=propext Iff.rfl
theorem gh (w:Str)(os:List Str):inG (.str w) (os.map .str)=decide (w∈os):=by
  unfold inG
  rw[List.any_map,Bool.eq_iff_iff,List.any_eq_true,decide_eq_true_eq]
  constructor
  · rintro ⟨x,hx,e⟩
    have:x=w:=by simpa[eqD] using e
    exact this ▸ hx
  · exact fun h=>⟨w,h,by simp[eqD]⟩
theorem fb {os:List Str}{k:Nat}(h:∀ x∈os,PyData.strOk x=true):bC k (os.map .str)=true:=by
  induction os with
  | nil=>simp[bC]
  | cons a r ih=>
    rw[List.map_cons,bC,Bool.and_eq_true]
    exact ⟨by cases k<;>simpa[okD] using h a List.mem_cons_self,ih fun n z=>h n (List.mem_cons_of_mem _ z)⟩
structure SOk (x:Int×Int):Prop where
  d0:0 < x.2
  g:Int.gcd x.1 x.2=1
  n:Le x.1 (1000*x.2)
def frS (x:Int×Int):D:=fr x.1 x.2
theorem SOk.vl {x:Int×Int}(h:SOk x):Vl (frS x) x.1 x.2:=⟨⟨x.1,x.2,rfl,h.d0,h.g,rfl,Nat.le_refl _,Nat.le_refl _⟩,h.d0⟩
theorem Im {a b:Int}(b0:0 < b)(h:Le a (1000*b)):SOk (a.fdiv (Int.gcd a b),b.fdiv (Int.gcd a b))∧b.fdiv (Int.gcd a b)≤b:=by
  obtain ⟨g,p,q,g0,ea,eb,e1,e2,q0,qb,gg⟩:=eB (a:=a) b0
  rw[e1,e2]
  refine ⟨⟨q0,gg,?_,?_⟩,qb⟩
  · have h1:=h.1
    rw[ea,eb] at h1
    have:g*(-(1000*q))≤g*p:=by
      rw[show g*(-(1000*q)) = -(1000*(g*q)) by rw[Int.mul_neg,Int.mul_left_comm]]
      exact h1
    exact Int.le_of_mul_le_mul_left this g0
  · have h1:=h.2
    rw[ea,eb] at h1
    have:g*p≤g*(1000*q):=by
      rw[Int.mul_left_comm g 1000 q]
      exact h1
    exact Int.le_of_mul_le_mul_left this g0
def Mr (t x:Int×Int):Int×Int:=(t.1*x.2+x.1*t.2,t.2*x.2)
def dJ:List (Int×Int)→Int
  | []=>1
  | x::r=>x.2*dJ r
theorem eE:∀ {xs:List (Int×Int)},(∀ x∈xs,SOk x)→1≤dJ xs
  | [],_=>Int.le_refl _
  | x::r,h=>by
    have h1:=eE fun y hy=>h y (List.mem_cons_of_mem _ hy)
    have h2:=(h x List.mem_cons_self).d0
    show 1≤x.2*dJ r
    have:=Int.mul_le_mul (show 1≤x.2 by omega) h1 (by decide) (by omega)
    omega
structure Sm (t:Int×Int) (r:List (Int×Int)) (k:Nat):Prop where
  b0:0 < t.2
  pr:t.2*dJ r≤100000000000000000000000
  a:Le t.1 (1000*k*t.2)
  k:k+r.length≤8
  o:∀ x∈r,SOk x
theorem Sm.bd {t:Int×Int}{r:List (Int×Int)}{k:Nat}(h:Sm t r k):Bd t.1∧Bd t.2∧t.2≤100000000000000000000000:=by
  have p1:=eE h.o
  have b0:=h.b0
  have hb:t.2≤100000000000000000000000:=by
    have:=Int.mul_le_mul_of_nonneg_left p1 (show 0≤t.2 by omega)
    have:=h.pr
    omega
  have hk:(k:Int)≤8:=by have:=h.k;omega
  have MX:1000*(k:Int)*t.2≤8000*t.2:=Int.mul_le_mul_of_nonneg_right (by omega) (by omega)
  exact ⟨h.a.mono (by omega),Le.of (by omega) (by omega),hb⟩
theorem Sm.item {t x:Int×Int}{r:List (Int×Int)}{k:Nat}(h:Sm t (x::r) k):Bd x.1∧Bd x.2:=by
  have hx:=h.o x List.mem_cons_self
  have d0:=hx.d0
  have p1:=eE fun y hy=>h.o y (List.mem_cons_of_mem _ hy)
  have b0:=h.b0
  have hb:x.2≤100000000000000000000000:=by
    have e:t.2*dJ (x::r)=x.2*(t.2*dJ r):=by show t.2*(x.2*dJ r)=_;rw[Int.mul_left_comm]
    have h1:1≤t.2*dJ r:=by
      have:=Int.mul_le_mul (show 1≤t.2 by omega) p1 (by decide) (by omega)
      omega
    have:=Int.mul_le_mul_of_nonneg_left h1 (show 0≤x.2 by omega)
    have:=h.pr
    rw[e] at this
    omega
  exact ⟨hx.n.mono (by omega),Le.of (by omega) (by omega)⟩
theorem Sm.next {t x:Int×Int}{r:List (Int×Int)}{k:Nat}(h:Sm t (x::r) k):Sm (Mr t x) r (k+1):=by
  have hx:=h.o x List.mem_cons_self
  have d0:=hx.d0
  have b0:=h.b0
  refine ⟨Int.mul_pos b0 d0,?_,?_,by have:=h.k;simp at this;omega,fun y hy=>h.o y (List.mem_cons_of_mem _ hy)⟩
  · have:=h.pr
    show t.2*x.2*dJ r≤_
    rw[Int.mul_assoc]
    exact this
  · have h1:=h.a.mul (Le.of (a:=x.2) (A:=x.2) (by omega) (Int.le_refl _))
    have h2:=hx.n.mul (Le.of (a:=t.2) (A:=t.2) (by omega) (Int.le_refl _))
    refine (h1.add h2).mono (Int.le_of_eq ?_)
    show 1000*(k:Int)*t.2*x.2+1000*x.2*t.2=1000*((k+1:Nat):Int)*(t.2*x.2)
    rw[Int.natCast_succ]
    rw[show 1000*((k:Int)+1)=1000*k+1000 by omega,Int.add_mul,Int.mul_assoc (1000*(k:Int)),Int.mul_assoc 1000 x.2 t.2,Int.mul_comm x.2 t.2]
theorem Sm.less {t x:Int×Int}{r:List (Int×Int)}{k:Nat}(h:Sm t (x::r) k):Sm t r k:=by
  have hx:=h.o x List.mem_cons_self
  have d0:=hx.d0
  have b0:=h.b0
  have o':=fun y hy=>h.o y (List.mem_cons_of_mem x hy)
  refine ⟨b0,?_,h.a,by have:=h.k;simp at this;omega,o'⟩
  have p1:=eE o'
  have e:t.2*dJ (x::r)=x.2*(t.2*dJ r):=by show t.2*(x.2*dJ r)=_;rw[Int.mul_left_comm]
  have h1:0≤t.2*dJ r:=Int.mul_nonneg (by omega) (by omega)
  have:=Int.mul_le_mul_of_nonneg_right (show 1≤x.2 by omega) h1
  have:=h.pr
  rw[e] at this
  omega
abbrev ShF:=Str→Int×Int
structure Lo (f:ShF) (ss:List SE):Prop where
  o:∀ s∈ss,SOk (f s.nm)
  p:dJ (ss.map fun s=>f s.nm)≤100000000000000000000000
def kY (f:ShF)(n:Str)(x:Int×Int):ShF:=fun w=>if w=n then x else f w
theorem nP {f:ShF}:∀ {ss:List SE},(∀ s∈ss,SOk (f s.nm)∧(f s.nm).2≤96)→dJ (ss.map fun s=>f s.nm)≤96 ^ ss.length
  | [],_=>Int.le_refl _
  | s::r,h=>by
    have ih:=nP fun y hy=>h y (List.mem_cons_of_mem s hy)
    obtain ⟨h1,h2⟩:=h s List.mem_cons_self
    have p1:=eE (xs:=r.map fun s=>f s.nm) fun x hx=>by
      obtain ⟨y,yi,rfl⟩:=List.mem_map.mp hx
      exact (h y (List.mem_cons_of_mem s yi)).1
    show (f s.nm).2*_≤96 ^ (r.length+1)
    rw[Int.pow_succ,Int.mul_comm]
    exact Int.mul_le_mul ih h2 (by have:=h1.d0;omega) (by omega)
theorem GS {n:Nat}(h:n≤7):(96:Int) ^ n≤96 ^ 7:=by
  match n,h with
  | 0,_=>decide
  | 1,_=>decide
  | 2,_=>decide
  | 3,_=>decide
  | 4,_=>decide
  | 5,_=>decide
  | 6,_=>decide
  | 7,_=>decide
theorem Lo.one {f:ShF}{ss:List SE}{n:Str}{x:Int×Int}(h:∀ s∈ss,SOk (f s.nm)∧(f s.nm).2≤96)(hl:ss.length≤8)(nd:(ss.map SE.nm).Nodup)(hx:SOk x)(hd:x.2≤1000000000):Lo (kY f n x) ss:=by
  have key:∀ (r:List SE),(∀ s∈r,SOk (f s.nm)∧(f s.nm).2≤96)→(r.map SE.nm).Nodup→r.length≤8→dJ (r.map fun s=>kY f n x s.nm)≤1000000000*96 ^ (r.length - 1)∨(n ∉ r.map SE.nm∧dJ (r.map fun s=>kY f n x s.nm)≤96 ^ r.length):=by
    intro r
    induction r with
    | nil=>exact fun _ _ _=>.inr ⟨(fun z=>nomatch z),Int.le_refl _⟩
    | cons s r ih=>
      intro hr hn hl
      rw[List.map_cons] at hn;rw[List.nodup_cons] at hn
      have hr':=fun y hy=>hr y (List.mem_cons_of_mem s hy)
      obtain ⟨h1,h2⟩:=hr s List.mem_cons_self
      have hl':r.length≤7:=by simpa using hl
      have ok':∀ x'∈r.map fun s=>kY f n x s.nm,SOk x':=fun x' hx'=>by
        obtain ⟨y,hy,rfl⟩:=List.mem_map.mp hx'
        show SOk (kY f n x y.nm)
        unfold kY
        split
        · exact hx
        · exact (hr' y hy).1
      have p1:=eE ok'
      show (kY f n x s.nm).2*_≤1000000000*96 ^ (r.length+1 - 1)∨(n ∉ s.nm::r.map SE.nm∧(kY f n x s.nm).2*_≤96 ^ (r.length+1))
      rw[Nat.add_sub_cancel]
      by_cases e:s.nm=n
      · refine .inl ?_
        have hs:kY f n x s.nm=x:=if_pos e
        rw[hs]
        have hnr:n ∉ r.map SE.nm:=by rw[← e];exact hn.1
        have eq:(r.map fun s=>kY f n x s.nm)=r.map fun s=>f s.nm:=List.map_congr_left fun y hy=>if_neg fun z=>hnr (List.mem_map.mpr ⟨y,hy,z⟩)
        rw[eq] at p1 ⊢
        exact Int.mul_le_mul hd (nP hr') (by omega) (by decide)
      · have hs:kY f n x s.nm=f s.nm:=if_neg e
        rw[hs]
        have d0:=h1.d0
        rcases ih hr' hn.2 (by omega) with q | ⟨q1,q2⟩
        · refine .inl ?_
          cases r with
          | nil=>
            show (f s.nm).2*1≤1000000000*1
            omega
          | cons s' r'=>
            rw[List.length_cons,Nat.add_sub_cancel] at q
            have:=Int.mul_le_mul h2 q (by omega) (by decide)
            rw[List.length_cons,Int.pow_succ]
            have e3:(96:Int)*(1000000000*96 ^ r'.length)=1000000000*(96 ^ r'.length*96):=by
              rw[Int.mul_left_comm,Int.mul_comm 96 (96 ^ r'.length)]
            rw[e3] at this
            exact this
        · refine .inr ⟨fun z=>?_,?_⟩
          · rcases List.mem_cons.mp z with z | z
            · exact e z.symm
            · exact q1 z
          · rw[Int.pow_succ,Int.mul_comm]
            exact Int.mul_le_mul q2 h2 (by omega) (by omega)
  refine ⟨fun s hs=>?_,?_⟩
  · show SOk (kY f n x s.nm)
    unfold kY
    split
    · exact hx
    · exact (h s hs).1
  · have e8:(96:Int) ^ 8≤100000000000000000000000:=by decide
    have e7:1000000000*(96:Int) ^ 7≤100000000000000000000000:=by decide
    rcases key ss h nd hl with q | ⟨_,q⟩
    · have:=GS (n:=ss.length - 1) (by omega)
      have:=Int.mul_le_mul_of_nonneg_left this (show (0:Int)≤1000000000 by decide)
      omega
    · by_cases e:ss.length=8
      · rw[e] at q;omega
      · have:=GS (n:=ss.length) (by omega)
        have:(96:Int) ^ 7≤96 ^ 8:=by decide
        omega
theorem Lf {x:Int×Int}{a b:Int}(h:Vl (frS x) a b):IsPart a b x.1 x.2:=by
  obtain ⟨⟨p,q,e,P⟩,_⟩:=h
  unfold frS fr at e
  injection e with e
  injection e with e1 e
  injection e with e2 _
  injection e1 with e1
  injection e2 with e2
  rw[e1,e2];exact P
theorem iU (kvs:List (L2.Key×D))(k j:L2.Key)(d:D):a5 (putD kvs k d) j=if j=k then some d else a5 kvs j:=by
  unfold putD a5
  split
  · rename_i ha
    induction kvs with
    | nil=>cases ha
    | cons kv r ih=>
      rw[List.map_cons,List.find?_cons,List.find?_cons]
      by_cases e:kv.1=k
      · rw[if_pos e]
        by_cases f:j=k
        · rw[if_pos f,f,decide_eq_true e];rfl
        · rw[if_neg f,e,decide_eq_false (Ne.symm f)]
          by_cases hr:(r.any fun kv=>decide (kv.1=k))=true
          · have:=ih hr
            rw[if_neg f] at this
            exact this
          · have same:r.map (fun kv=>if kv.1=k then (kv.1,d) else kv)=r:=by
              refine (List.map_congr_left fun x hx=>?_).trans (List.map_id r)
              have:¬ x.1=k:=fun z=>hr (List.any_eq_true.mpr ⟨x,hx,decide_eq_true z⟩)
              rw[if_neg this];rfl
            rw[same]
      · rw[if_neg e]
        have hr:(r.any fun kv=>decide (kv.1=k))=true:=by
          rw[List.any_cons,decide_eq_false e] at ha
          exact ha
        by_cases f:kv.1=j
        · rw[decide_eq_true f]
          have:¬ j=k:=fun z=>e (f.trans z)
          rw[if_neg this]
        · rw[decide_eq_false f]
          exact ih hr
  · rename_i ha
    rw[List.find?_append]
    by_cases f:j=k
    · rw[if_pos f,f]
      have:kvs.find? (fun kv=>decide (kv.1=k))=none:=List.find?_eq_none.mpr fun x hx z=>ha (List.any_eq_true.mpr ⟨x,hx,z⟩)
      rw[this]
      simp
    · rw[if_neg f]
      have:([(k,d)]:List (L2.Key×D)).find? (fun kv=>decide (kv.1=j))=none:=by simp[Ne.symm f]
      rw[this]
      simp
def frR (r:Rat):D:=fr r.num r.den
theorem zg (n:Int):(n:Rat)=Rat.divInt n 1:=Rat.mk_eq_divInt (num:=n) (den:=1) (nz:=by decide) (c:=by simp[Nat.Coprime])
theorem eU (r:Rat):r*((r.den:Int):Rat)=(r.num:Rat):=by
  have h:(r.den:Int)≠0:=by have:=r.den_pos;omega
  have e1:((r.den:Int):Rat)=Rat.divInt r.den 1:=zg _
  have e2:((r.num:Int):Rat)=Rat.divInt r.num 1:=zg _
  have e3:r*Rat.divInt r.den 1=Rat.divInt r.num r.den*Rat.divInt r.den 1:=by rw[Rat.num_divInt_den]
  rw[e1,e2,e3,Rat.divInt_mul_divInt,Rat.divInt_eq_divInt_iff (by simpa using h) (by decide)]
  simp
theorem JY {r:Rat}{p q:Int}(q0:0 < q)(g:Int.gcd p q=1)(h:r*(q:Rat)=(p:Rat)):r.num=p∧(r.den:Int)=q:=by
  have nz:q.toNat≠0:=by omega
  have rd:p.natAbs.Coprime q.toNat:=by
    have:Nat.gcd p.natAbs q.natAbs=1:=g
    rw[show q.natAbs=q.toNat by omega] at this
    exact this
  have e:r=⟨p,q.toNat,nz,rd⟩:=by
    have h0:=eU ⟨p,q.toNat,nz,rd⟩
    have hq:((q.toNat:Int):Rat)=(q:Rat):=by rw[Int.toNat_of_nonneg (by omega)]
    simp only[hq] at h0
    have hz:(q:Rat)≠0:=fun z=>by
      have:q=0:=by simpa using z
      omega
    generalize ({ num:=p,den:=q.toNat,den_nz:=nz,reduced:=rd }:Rat)=r0 at h0 ⊢
    grind
  rw[e]
  exact ⟨rfl,Int.toNat_of_nonneg (by omega)⟩
theorem vr {z:D}{a b:Int}{r:Rat}(V:Vl z a b)(h:r*(b:Rat)=(a:Rat)):z=frR r:=by
  obtain ⟨⟨p,q,rfl,P⟩,b0⟩:=V
  have hb:(b:Rat)≠0:=fun z=>by
    have:b=0:=by simpa using z
    omega
  have pe:(p:Rat)*(b:Rat)=(a:Rat)*(q:Rat):=by rw[← Rat.intCast_mul,← Rat.intCast_mul,P.e]
  have hr:r*(q:Rat)=(p:Rat):=by grind
  obtain ⟨e1,e2⟩:=JY P.q0 P.g hr
  unfold frR
  rw[e1,e2]
theorem vlR {r:Rat}{n D:Int}(hD:0 < D)(h:r*(D:Rat)=(n:Rat)):Vl (frR r) n D:=by
  have V:=nH n hD
  rw[← vr V h];exact V
theorem vlN (r:Rat):Vl (frR r) r.num r.den:=vlR (by have:=r.den_pos;omega) (eU r)
def InD (D:Int)(r:Rat):Prop:=∃ n:Int,r*(D:Rat)=(n:Rat)
theorem InD.add {D:Int}{r s:Rat}(h:InD D r)(h':InD D s):InD D (r+s):=by
  obtain ⟨n,h⟩:=h
  obtain ⟨m,h'⟩:=h'
  exact ⟨n+m,by grind⟩
theorem InD.sub {D:Int}{r s:Rat}(h:InD D r)(h':InD D s):InD D (r - s):=by
  obtain ⟨n,h⟩:=h
  obtain ⟨m,h'⟩:=h'
  exact ⟨n - m,by grind⟩
theorem InD.up {D:Int}{r:Rat}(h:InD D r)(k:Int):InD (D*k) r:=by
  obtain ⟨n,h⟩:=h
  exact ⟨n*k,by grind⟩
theorem InD.int (D:Int)(i:Int):InD D (i:Rat):=⟨i*D,by grind⟩
theorem JF {k:Int}(h0:0 < k)(h1:k≤8):∃ m:Int,k*m=840:=by
  have:k=1∨k=2∨k=3∨k=4∨k=5∨k=6∨k=7∨k=8:=by omega
  rcases this with rfl | rfl | rfl | rfl | rfl | rfl | rfl | rfl
  · exact ⟨840,rfl⟩
  · exact ⟨420,rfl⟩
  · exact ⟨280,rfl⟩
  · exact ⟨210,rfl⟩
  · exact ⟨168,rfl⟩
  · exact ⟨140,rfl⟩
  · exact ⟨120,rfl⟩
  · exact ⟨105,rfl⟩
theorem InD.div {D k:Int}{r x:Rat}(h:InD D r)(h0:0 < k)(h1:k≤8)(e:x*(k:Rat)=r):InD (D*840) x:=by
  obtain ⟨n,h⟩:=h
  obtain ⟨m,hm⟩:=JF h0 h1
  refine ⟨n*m,?_⟩
  rw[← hm]
  grind
structure BR (r:Rat):Prop where
  n:Bd r.num
  d:Bd r.den
theorem BR.of {D:Int}{r:Rat}(h:InD D r)(d0:0 < D)(d1:D≤1000000000000000000000000000)(lo:-1000≤r)(hi:r≤1000):BR r:=by
  obtain ⟨n,h⟩:=h
  have V:=vlR d0 h
  have I:IsPart n D r.num r.den:=Lf (x:=(r.num,(r.den:Int))) V
  have hD:(0:Rat)≤(D:Rat):=Rat.intCast_nonneg.mpr (by omega)
  have h1:=Rat.mul_le_mul_of_nonneg_right lo hD
  have h2:=Rat.mul_le_mul_of_nonneg_right hi hD
  rw[h] at h1 h2
  have e1:(-1000:Rat)*(D:Rat)=((-1000*D:Int):Rat):=by rw[Rat.intCast_mul];rfl
  have e2:(1000:Rat)*(D:Rat)=((1000*D:Int):Rat):=by rw[Rat.intCast_mul];rfl
  rw[e1,Rat.intCast_le_intCast] at h1
  rw[e2,Rat.intCast_le_intCast] at h2
  have bn:Bd n:=⟨by omega,by omega⟩
  exact ⟨I.bp bn,I.bq (Le.of (by omega) (by omega))⟩
theorem kK {r s:Rat}:eqD (frR r) (frR s)=decide (r=s):=by
  have e:eqD (frR r) (frR s)=(decide (r.num=s.num)&&(decide ((r.den:Int)=s.den)&&true)):=rfl
  rw[e,Bool.and_true,Bool.eq_iff_iff,Bool.and_eq_true,decide_eq_true_eq,decide_eq_true_eq,decide_eq_true_eq]
  constructor
  · rintro ⟨h1,h2⟩
    exact Rat.ext h1 (by omega)
  · rintro rfl
    exact ⟨rfl,rfl⟩
theorem oY {r s:Rat}:decide (r.num*(s.den:Int) < s.num*(r.den:Int))=decide (r < s):=decide_eq_decide.mpr (Rat.lt_iff r s).symm
theorem HX {r s:Rat}:decide (r.num*(s.den:Int)≤s.num*(r.den:Int))=decide (r≤s):=decide_eq_decide.mpr (Rat.le_iff r s).symm
abbrev Fm:=Str→Option Rat
def sS (f:Fm):List SE→Rat
  | []=>0
  | s::r=>(f s.nm).getD 0+sS f r
def cS (f:Fm):List SE→Nat
  | []=>0
  | s::r=>(if f s.nm=none then 1 else 0)+cS f r
def onL (n:Str)(ss:List SE):List SE:=ss.filter fun s=>decide (n∈s.road)
def SE.cI (s:SE):Rat:=(s.lim:Rat) / (s.bt:Rat)
theorem SE.Ok.cI {s:SE}(h:s.Ok):s.cI*(s.bt:Rat)=(s.lim:Rat):=by
  have b0:=h.b0
  have hb:(s.bt:Rat)≠0:=fun z=>by
    have:s.bt=0:=by simpa using z
    omega
  unfold SE.cI
  rw[Rat.div_def,Rat.mul_assoc,Rat.inv_mul_cancel _ hb,Rat.mul_one]
theorem SE.Ok.ur {s:SE}(h:s.Ok):0≤s.cI∧s.cI≤60:=by
  have b0:=h.b0
  have l:=h.lim
  have e:=h.cI
  have hb:(0:Rat) < (s.bt:Rat):=Rat.intCast_pos.mpr (by omega)
  have h1:(0:Rat)≤(s.lim:Rat):=Rat.intCast_nonneg.mpr (by omega)
  constructor
  · refine Rat.le_of_mul_le_mul_right (c:=(s.bt:Rat)) ?_ hb
    rw[e,Rat.zero_mul];exact h1
  · refine Rat.le_of_mul_le_mul_right (c:=(s.bt:Rat)) ?_ hb
    rw[e,show (60:Rat)*(s.bt:Rat)=((60*s.bt:Int):Rat) by rw[Rat.intCast_mul];rfl,Rat.intCast_le_intCast]
    omega
structure jg (b:Rat) (xs:List Rat):Prop where
  i:b∈xs
  l:∀ x∈xs,b≤x
theorem iQ {f:Fm}{l:List SE}:cS f l=0→∀ s∈l,f s.nm≠none:=by
  induction l with
  | nil=>exact fun _ _ h=>nomatch h
  | cons x r ih=>
    intro h s hs
    unfold cS at h
    rcases List.mem_cons.mp hs with rfl | z
    · intro e
      rw[if_pos e] at h
      omega
    · exact ih (by omega) s z
theorem df {f:Fm}:∀ {l:List SE},(∀ s∈l,f s.nm≠none)→cS f l=0
  | [],_=>rfl
  | x::r,h=>by
    unfold cS
    rw[if_neg (h x List.mem_cons_self),df fun y z=>h y (List.mem_cons_of_mem _ z)]
theorem sZ {f:Fm}{l:List SE}{s:SE}(hs:s∈l)(h:f s.nm=none):0 < cS f l:=by
  rcases Nat.eq_zero_or_pos (cS f l) with z | z
  · exact absurd h (iQ z s hs)
  · exact z
theorem qP {f:Fm}:∀ (l:List SE),cS f l≤l.length
  | []=>Nat.le_refl _
  | x::r=>by
    unfold cS
    have:=qP (f:=f) r
    rw[List.length_cons]
    split<;>omega
theorem qb1 {v a a' k c c' x:Rat}(h:a'+c'*x=a+c*x):v+a'+(k+c')*x=v+a+(k+c)*x:=by grind
theorem qb2 {a a' c c' x:Rat}(h:a'+c'*x=a+c*x):x+a'+(0+c')*x=0+a+(1+c)*x:=by grind
theorem both {f f':Fm}{x:Rat}:∀ {l:List SE},(∀ s∈l,f' s.nm=f s.nm∨(f s.nm=none∧f' s.nm=some x))→sS f' l+(cS f' l:Rat)*x=sS f l+(cS f l:Rat)*x
  | [],_=>rfl
  | s::r,h=>by
    have ih:=both (l:=r) fun y z=>h y (List.mem_cons_of_mem _ z)
    unfold sS cS
    rcases h s List.mem_cons_self with e | ⟨e1,e2⟩
    · rw[e,Rat.natCast_add,Rat.natCast_add]
      exact qb1 ih
    · rw[e1,e2,if_neg (by simp),if_pos rfl,Rat.natCast_add,Rat.natCast_add]
      show x+sS f' r+(((0:Nat):Rat)+(cS f' r:Rat))*x=0+sS f r+(((1:Nat):Rat)+(cS f r:Rat))*x
      exact qb2 ih
theorem z3 {k:Nat}(h:0 < k):(0:Rat) < (k:Rat):=by
  have:((0:Nat):Rat) < (k:Rat):=Rat.natCast_lt_natCast.mpr h
  simpa using this
theorem q1 {S k t p:Rat}(h:S+k*t≤p):t*k≤p - S:=by grind
theorem q2 {S k t p:Rat}(h:t*k≤p - S):S+k*t≤p:=by grind
theorem q3 {S k t v:Rat}(h:S+k*t≤S+k*v):k*t≤k*v:=by grind
theorem q4 {S p:Rat}:S+(p - S)=p:=by grind
theorem q5 {S x p:Rat}(h:S+x≤p)(k:0≤x):0≤p - S:=by grind
theorem q6 {l S p:Rat}(h:l≤p - S)(s0:0≤S)(pc:p≤20):l≤20:=by grind
theorem q7 {a b c d:Rat}(h:a≤b)(k:c≤d):a+c≤b+d:=by grind
theorem q8 {a b c d:Rat}(h:a < b)(k:c≤d):a+c < b+d:=by grind
theorem q9 {a b c d:Rat}(h:a≤b)(k:c < d):a+c < b+d:=by grind
theorem MM {l k p S a:Rat}(h:l*k=p - S):l*(a*k)=p*a - S*a:=by grind
structure FJ (ws:List WE) (ss:List SE) (f:Fm) (t:Rat):Prop where
  p:0≤t
  a:∀ s∈ss,∀ v,f s.nm=some v→0≤v∧v≤t∧v≤s.cI
  b:∀ s∈ss,f s.nm=none→t≤s.cI
  c:∀ w∈ws,sS f (onL w.nm ss)+(cS f (onL w.nm ss):Rat)*t≤(w.pc:Rat)
  d:∀ s∈ss,∀ v,f s.nm=some v→v=s.cI∨∃ w∈ws,w.nm∈s.road∧sS f (onL w.nm ss)+(cS f (onL w.nm ss):Rat)*v=(w.pc:Rat)∧(0 < cS f (onL w.nm ss)→t=v)∧∀ y∈onL w.nm ss,∀ u,f y.nm=some u→u≤v
theorem FJ.step {ws:List WE}{ss:List SE}{f f':Fm}{t t':Rat}(F:FJ ws ss f t)(lev:Str→Rat)(bnd:SE→Rat)
    (road:∀ s∈ss,∀ n∈s.road,∃ w∈ws,w.nm=n)
    (hl:∀ w∈ws,0 < cS f (onL w.nm ss)→lev w.nm*(cS f (onL w.nm ss):Rat)=(w.pc:Rat) - sS f (onL w.nm ss))
    (hb:∀ s∈ss,f s.nm=none→jg (bnd s) (s.cI::s.road.map lev))
    (ht:∃ s∈ss,f s.nm=none∧bnd s=t') (ht':∀ s∈ss,f s.nm=none→t'≤bnd s)
    (cases:∀ s∈ss,f' s.nm=f s.nm∨(f s.nm=none∧bnd s=t'∧f' s.nm=some t')):FJ ws ss f' t'∧t≤t':=by
  have onM:∀ {w:WE} {s:SE},s∈onL w.nm ss↔s∈ss∧w.nm∈s.road:=fun {w s}=>by unfold onL;rw[List.mem_filter,decide_eq_true_eq]
  have lv:∀ w∈ws,0 < cS f (onL w.nm ss)→t≤lev w.nm:=fun w hw h=>by
    have h1:=hl w hw h
    have h2:=F.c w hw
    have h3:=z3 h
    refine Rat.le_of_mul_le_mul_right (c:=(cS f (onL w.nm ss):Rat)) ?_ h3
    rw[h1]
    exact q1 h2
  have up:t≤t':=by
    obtain ⟨s,hs,e,rfl⟩:=ht
    have hm:=(hb s hs e).i
    rcases List.mem_cons.mp hm with z | z
    · rw[z];exact F.b s hs e
    · obtain ⟨n,hn,z⟩:=List.mem_map.mp z
      obtain ⟨w,hw,rfl⟩:=road s hs n hn
      rw[← z]
      exact lv w hw (sZ (onM.mpr ⟨hs,hn⟩) e)
  have bo:∀ w:WE,sS f' (onL w.nm ss)+(cS f' (onL w.nm ss):Rat)*t'=sS f (onL w.nm ss)+(cS f (onL w.nm ss):Rat)*t':=fun w=>both fun s hs=>(cases s (onM.mp hs).1).imp (fun h=>h) fun h=>⟨h.1,h.2.2⟩
  have bl:∀ w∈ws,0 < cS f (onL w.nm ss)→t'≤lev w.nm:=fun w hw h=>by
    have:∃ s∈onL w.nm ss,f s.nm=none:=by
      refine Classical.byContradiction fun z=>?_
      have:cS f (onL w.nm ss)=0:=df fun s hs e=>z ⟨s,hs,e⟩
      omega
    obtain ⟨s,hs,e⟩:=this
    obtain ⟨h1,h2⟩:=onM.mp hs
    have a:=(hb s h1 e).l (lev w.nm) (List.mem_cons_of_mem _ (List.mem_map.mpr ⟨_,h2,rfl⟩))
    exact Rat.le_trans (ht' s h1 e) a
  have bt:∀ w∈ws,0 < cS f (onL w.nm ss)→sS f (onL w.nm ss)+(cS f (onL w.nm ss):Rat)*t'≤(w.pc:Rat):=fun w hw h=>by
    have h1:=hl w hw h
    have h2:=Rat.mul_le_mul_of_nonneg_right (bl w hw h) (Rat.le_of_lt (z3 h))
    rw[h1] at h2
    exact q2 h2
  have aa:∀ s∈ss,∀ v,f' s.nm=some v→0≤v∧v≤t'∧v≤s.cI:=fun s hs v e=>by
    rcases cases s hs with q | ⟨q1,q2,q3⟩
    · rw[q] at e
      have:=F.a s hs v e
      exact ⟨this.1,Rat.le_trans this.2.1 up,this.2.2⟩
    · rw[q3] at e
      obtain rfl:t'=v:=Option.some.inj e
      have h1:=(hb s hs q1).l s.cI List.mem_cons_self
      rw[q2] at h1
      exact ⟨Rat.le_trans F.p up,Rat.le_refl,h1⟩
  refine ⟨⟨Rat.le_trans F.p up,aa,fun s hs e=>?_,fun w hw=>?_,fun s hs v e=>?_⟩,up⟩
  · rcases cases s hs with q | ⟨_,_,q3⟩
    · rw[q] at e
      exact Rat.le_trans (ht' s hs e) ((hb s hs e).l s.cI List.mem_cons_self)
    · rw[q3] at e;cases e
  · rw[bo w]
    by_cases z:0 < cS f (onL w.nm ss)
    · exact bt w hw z
    · have z0:cS f (onL w.nm ss)=0:=by omega
      have h1:=F.c w hw
      rw[z0] at h1 ⊢
      have e0:((0:Nat):Rat)=0:=rfl
      rw[e0,Rat.zero_mul] at h1 ⊢
      exact h1
  · rcases cases s hs with q | ⟨q1,q2,q3⟩
    · rw[q] at e
      rcases F.d s hs v e with h | ⟨w,hw,h1,h2,h3,h4⟩
      · exact .inl h
      · refine .inr ⟨w,hw,h1,?_⟩
        by_cases z:0 < cS f (onL w.nm ss)
        · have tv:=h3 z
          have m:=bt w hw z
          have tt:t'=v:=by
            have h5:(cS f (onL w.nm ss):Rat)*t'≤(cS f (onL w.nm ss):Rat)*v:=by
              rw[← h2] at m
              exact q3 m
            rw[Rat.mul_comm _ t',Rat.mul_comm _ v] at h5
            have h6:=Rat.le_of_mul_le_mul_right h5 (z3 z)
            rw[tv] at up
            exact Rat.le_antisymm h6 up
          subst tt
          refine ⟨by rw[bo w];exact h2,fun _=>rfl,fun y hy u hu=>(aa y (onM.mp hy).1 u hu).2.1⟩
        · have z0:cS f (onL w.nm ss)=0:=by omega
          have same:∀ y∈onL w.nm ss,f' y.nm=f y.nm:=fun y hy=>by
            rcases cases y (onM.mp hy).1 with q | ⟨q1,_⟩
            · exact q
            · exact absurd q1 (iQ z0 y hy)
          have c0:cS f' (onL w.nm ss)=0:=df fun y hy z=>by rw[same y hy] at z;exact iQ z0 y hy z
          have b0:=bo w
          have e0:((0:Nat):Rat)=0:=rfl
          rw[c0,z0,e0,Rat.zero_mul] at b0
          rw[z0,e0,Rat.zero_mul] at h2
          rw[c0,e0,Rat.zero_mul]
          exact ⟨b0.trans h2,fun h=>absurd h (by omega),fun y hy u hu=>h4 y hy u (by rw[← same y hy];exact hu)⟩
    · rw[q3] at e
      obtain rfl:t'=v:=Option.some.inj e
      have hm:=(hb s hs q1).i
      rw[q2] at hm
      rcases List.mem_cons.mp hm with z | z
      · exact .inl z
      · obtain ⟨n,hn,z⟩:=List.mem_map.mp z
        obtain ⟨w,hw,rfl⟩:=road s hs n hn
        have k0:=sZ (onM.mpr ⟨hs,hn⟩) q1
        have h1:=hl w hw k0
        refine .inr ⟨w,hw,hn,?_,fun _=>rfl,fun y hy u hu=>(aa y (onM.mp hy).1 u hu).2.1⟩
        rw[bo w,← z,Rat.mul_comm,h1]
        exact q4
def mnR (m x:Rat):Rat:=if x < m then x else m
def sy:List Rat→Rat
  | []=>0
  | x::r=>(x::r).foldl mnR x
theorem zc:∀ (xs:List Rat) (m:Rat),(xs.foldl mnR m=m∨xs.foldl mnR m∈xs)∧xs.foldl mnR m≤m∧∀ x∈xs,xs.foldl mnR m≤x
  | [],m=>⟨.inl rfl,Rat.le_refl,fun _ h=>nomatch h⟩
  | x::r,m=>by
    obtain ⟨i1,i2,i3⟩:=zc r (mnR m x)
    rw[List.foldl_cons]
    have h1:mnR m x≤m∧mnR m x≤x∧(mnR m x=m∨mnR m x=x):=by
      unfold mnR
      split
      · rename_i h;exact ⟨Rat.le_of_lt h,Rat.le_refl,.inr rfl⟩
      · rename_i h;exact ⟨Rat.le_refl,Rat.not_lt.mp h,.inl rfl⟩
    refine ⟨?_,Rat.le_trans i2 h1.1,fun y hy=>?_⟩
    · rcases i1 with e | e
      · rw[e]
        rcases h1.2.2 with q | q
        · exact .inl q
        · rw[q];exact .inr List.mem_cons_self
      · exact .inr (List.mem_cons_of_mem _ e)
    · rcases List.mem_cons.mp hy with rfl | z
      · exact Rat.le_trans i2 h1.2.1
      · exact i3 y z
theorem d9 {xs:List Rat}(h:xs≠[]):jg (sy xs) xs:=by
  cases xs with
  | nil=>exact absurd rfl h
  | cons x r=>
    obtain ⟨i1,i2,i3⟩:=zc (x::r) x
    refine ⟨?_,i3⟩
    rcases i1 with e | e
    · show (x::r).foldl mnR x∈_
      rw[e];exact List.mem_cons_self
    · exact e
def eS (ss:List SE)(f:Fm)(w:WE):Rat:=((w.pc:Rat) - sS f (onL w.nm ss)) / (cS f (onL w.nm ss):Rat)
def eQ (ws:List WE)(ss:List SE)(f:Fm)(n:Str):Rat:=match ws.find? fun w=>decide (w.nm=n) with
  | some w=>eS ss f w
  | none=>0
def bz (ws:List WE)(ss:List SE)(f:Fm)(s:SE):Rat:=sy (s.cI::s.road.map (eQ ws ss f))
def bW (ss:List SE)(f:Fm):List SE:=ss.filter fun s=>decide (f s.nm=none)
def tF (ws:List WE)(ss:List SE)(f:Fm):Rat:=sy ((bW ss f).map (bz ws ss f))
def gK (ws:List WE)(ss:List SE)(f:Fm):Fm:=fun n=>match ss.find? fun s=>decide (s.nm=n) with
  | some s=>if f n=none∧bz ws ss f s=tF ws ss f then some (tF ws ss f) else f n
  | none=>f n
theorem eV {α:Type}(g:α→Str):∀ {xs:List α} {x:α},(xs.map g).Nodup→x∈xs→xs.find? (fun y=>decide (g y=g x))=some x
  | y::r,x,nd,h=>by
    rw[List.map_cons] at nd
    obtain ⟨m1,m2⟩:=List.nodup_cons.mp nd
    rw[List.find?_cons]
    rcases List.mem_cons.mp h with rfl | z
    · simp
    · have:¬ g y=g x:=fun e=>m1 (by rw[e];exact List.mem_map.mpr ⟨x,z,rfl⟩)
      rw[decide_eq_false this]
      exact eV g m2 z
theorem tO {ws:List WE}{ss:List SE}(P:PE' ws ss)(f:Fm){w:WE}(hw:w∈ws):eQ ws ss f w.nm=eS ss f w:=by
  unfold eQ
  rw[eV WE.nm P.wn hw]
theorem step_at {ws:List WE}{ss:List SE}(P:PE' ws ss)(f:Fm){s:SE}(hs:s∈ss):gK ws ss f s.nm=if f s.nm=none∧bz ws ss f s=tF ws ss f then some (tF ws ss f) else f s.nm:=by
  unfold gK
  rw[eV SE.nm P.nd hs]
theorem wI {ss:List SE}(nd:(ss.map SE.nm).Nodup){s y:SE}(hs:s∈ss)(hy:y∈ss)(e:s.nm=y.nm):s=y:=by
  have h1:=eV SE.nm nd hs
  rw[e,eV SE.nm nd hy] at h1
  exact (Option.some.inj h1).symm
theorem gD {ss:List SE}{f:Fm}{w:WE}(h:0 < cS f (onL w.nm ss)):eS ss f w*(cS f (onL w.nm ss):Rat)=(w.pc:Rat) - sS f (onL w.nm ss):=by
  have h0:=z3 h
  unfold eS
  generalize (cS f (onL w.nm ss):Rat)=k at h0
  generalize (w.pc:Rat) - sS f (onL w.nm ss)=a
  have hk:k≠0:=fun z=>by rw[z] at h0;exact absurd h0 (by decide)
  rw[Rat.div_def,Rat.mul_assoc,Rat.inv_mul_cancel k hk,Rat.mul_one]
theorem cE {ss:List SE}{f:Fm}{s:SE}:s∈bW ss f↔s∈ss∧f s.nm=none:=by unfold bW;rw[List.mem_filter,decide_eq_true_eq]
theorem FD {ws:List WE}{ss:List SE}{f:Fm}{t:Rat}(P:PE' ws ss)(F:FJ ws ss f t)(h:0 < cS f ss):FJ ws ss (gK ws ss f) (tF ws ss f):=by
  have ne:bW ss f≠[]:=fun z=>by
    have:cS f ss=0:=df fun s hs e=>by
      have:=cE.mpr ⟨hs,e⟩
      rw[z] at this;cases this
    omega
  have M:jg (tF ws ss f) ((bW ss f).map (bz ws ss f)):=d9 (by simpa using ne)
  refine (F.step (eQ ws ss f) (bz ws ss f) P.all (fun w hw h=>?_) (fun s hs e=>d9 (by simp)) ?_ (fun s hs e=>M.l _ (List.mem_map.mpr ⟨s,cE.mpr ⟨hs,e⟩,rfl⟩)) fun s hs=>?_).1
  · rw[tO P f hw];exact gD h
  · obtain ⟨s,hs,e⟩:=List.mem_map.mp M.i
    exact ⟨s,(cE.mp hs).1,(cE.mp hs).2,e⟩
  · rw[step_at P f hs]
    by_cases q:f s.nm=none∧bz ws ss f s=tF ws ss f
    · rw[if_pos q];exact .inr ⟨q.1,q.2,rfl⟩
    · rw[if_neg q];exact .inl rfl
theorem zO {f f':Fm}:∀ {l:List SE},(∀ s∈l,f s.nm≠none→f' s.nm≠none)→cS f' l≤cS f l∧((∃ s∈l,f s.nm=none∧f' s.nm≠none)→cS f' l < cS f l)
  | [],_=>⟨Nat.le_refl _,fun ⟨_,h,_⟩=>nomatch h⟩
  | x::r,h=>by
    obtain ⟨i1,i2⟩:=zO (l:=r) fun y z=>h y (List.mem_cons_of_mem _ z)
    have hx:=h x List.mem_cons_self
    unfold cS
    by_cases e:f x.nm=none
    · rw[if_pos e]
      refine ⟨by split<;>omega,fun ⟨s,hs,h1,h2⟩=>?_⟩
      rcases List.mem_cons.mp hs with rfl | z
      · rw[if_neg h2];omega
      · have:=i2 ⟨s,z,h1,h2⟩
        split<;>omega
    · rw[if_neg e,if_neg (hx e)]
      refine ⟨by omega,fun ⟨s,hs,h1,h2⟩=>?_⟩
      rcases List.mem_cons.mp hs with rfl | z
      · exact absurd h1 e
      · have:=i2 ⟨s,z,h1,h2⟩
        omega
theorem ly {ws:List WE}{ss:List SE}{f:Fm}(P:PE' ws ss)(h:0 < cS f ss):cS (gK ws ss f) ss < cS f ss:=by
  have ne:bW ss f≠[]:=fun z=>by
    have:cS f ss=0:=df fun s hs e=>by
      have:=cE.mpr ⟨hs,e⟩
      rw[z] at this;cases this
    omega
  have M:jg (tF ws ss f) ((bW ss f).map (bz ws ss f)):=d9 (by simpa using ne)
  refine (zO fun s hs e=>?_).2 ?_
  · rw[step_at P f hs,if_neg fun z=>e z.1];exact e
  · obtain ⟨s,hs,e⟩:=List.mem_map.mp M.i
    obtain ⟨h1,h2⟩:=cE.mp hs
    refine ⟨s,h1,h2,?_⟩
    rw[step_at P f h1,if_pos ⟨h2,e⟩]
    exact nofun
def dO (c:Nat):Int:=840 ^ (c+1)
theorem Eb (c:Nat):dO (c+1)=dO c*840:=Int.pow_succ _ _
theorem bA (c:Nat):0 < dO c:=Int.pow_pos (by decide)
theorem dY {c:Nat}(h:c≤8):dO c≤1000000000000000000000000000:=by
  match c,h with
  | 0,_=>decide
  | 1,_=>decide
  | 2,_=>decide
  | 3,_=>decide
  | 4,_=>decide
  | 5,_=>decide
  | 6,_=>decide
  | 7,_=>decide
  | 8,_=>decide
theorem InD.to {c c':Nat}{r:Rat}(h:InD (dO c) r)(hc:c≤c'):InD (dO c') r:=by
  obtain ⟨k,rfl⟩:=Nat.exists_eq_add_of_le hc
  induction k with
  | zero=>exact h
  | succ k ih=>
    rw[← Nat.add_assoc,Eb]
    exact (ih (by omega)).up 840
structure FB (c:Nat) (f:Fm) (ss:List SE):Prop where
  i:∀ s∈ss,∀ v,f s.nm=some v→InD (dO c) v
  l:∀ s∈ss,∀ v,f s.nm=some v→0≤v∧v≤60
theorem GZ {c:Nat}{f:Fm}:∀ {l:List SE},(∀ s∈l,∀ v,f s.nm=some v→InD (dO c) v)→InD (dO c) (sS f l)
  | [],_=>InD.int _ 0
  | s::r,h=>by
    have ih:=GZ fun y z=>h y (List.mem_cons_of_mem s z)
    unfold sS
    refine InD.add ?_ ih
    cases e:f s.nm with
    | none=>exact InD.int _ 0
    | some v=>exact h s List.mem_cons_self v e
theorem xC {s:SE}(h:s.Ok)(c:Nat):InD (dO c) s.cI:=by
  have:InD (1*840) s.cI:=InD.div (D:=1) (k:=s.bt) (r:=(s.lim:Rat)) (InD.int _ _) (by have:=h.b0;omega) h.b1 h.cI
  have h0:InD (dO 0) s.cI:=this
  exact h0.to (Nat.zero_le _)
theorem Dz {c:Nat}{ss:List SE}{f:Fm}{w:WE}(F:FB c f ss)(sl:ss.length≤8)(h:0 < cS f (onL w.nm ss)):InD (dO (c+1)) (eS ss f w):=by
  rw[Eb]
  have on:∀ s∈onL w.nm ss,s∈ss:=fun s hs=>(List.mem_filter.mp hs).1
  have le:=qP (f:=f) (onL w.nm ss)
  have ll:(onL w.nm ss).length≤ss.length:=List.length_filter_le _ _
  refine InD.div (k:=(cS f (onL w.nm ss):Int)) (r:=(w.pc:Rat) - sS f (onL w.nm ss)) ((InD.int _ _).sub (GZ fun s hs=>F.i s (on s hs))) (by omega) (by omega) ?_
  exact gD h
theorem IB {f:Fm}:∀ {l:List SE},(∀ s∈l,∀ v,f s.nm=some v→0≤v)→0≤sS f l
  | [],_=>Rat.le_refl
  | s::r,h=>by
    have ih:=IB fun y z=>h y (List.mem_cons_of_mem s z)
    unfold sS
    cases e:f s.nm with
    | none=>show 0≤0+sS f r;rw[Rat.zero_add];exact ih
    | some v=>exact Rat.add_nonneg (h s List.mem_cons_self v e) ih
theorem Ie {ws:List WE}{ss:List SE}{f:Fm}{t:Rat}(P:PE' ws ss)(F:FJ ws ss f t){w:WE}(hw:w∈ws)(h:0 < cS f (onL w.nm ss)):0≤eS ss f w∧eS ss f w≤20:=by
  have m:=gD h
  have k0:=z3 h
  have c:=F.c w hw
  have p:=F.p
  have on:∀ s∈onL w.nm ss,s∈ss:=fun s hs=>(List.mem_filter.mp hs).1
  have s0:0≤sS f (onL w.nm ss):=IB fun s hs v e=>(F.a s (on s hs) v e).1
  have k1:(1:Rat)≤(cS f (onL w.nm ss):Rat):=by
    have:((1:Nat):Rat)≤(cS f (onL w.nm ss):Rat):=Rat.natCast_le_natCast.mpr h
    simpa using this
  have pc:(w.pc:Rat)≤20:=by
    have:(w.pc:Rat)≤((20:Int):Rat):=Rat.intCast_le_intCast.mpr (P.w w hw).p1
    exact this
  have kt:0≤(cS f (onL w.nm ss):Rat)*t:=Rat.mul_nonneg (Rat.le_of_lt k0) p
  generalize (cS f (onL w.nm ss):Rat)=k at *
  generalize sS f (onL w.nm ss)=S at *
  have l0:0≤eS ss f w:=by
    refine Rat.le_of_mul_le_mul_right (c:=k) ?_ k0
    rw[m,Rat.zero_mul]
    grind
  refine ⟨l0,?_⟩
  have h1:eS ss f w*1≤eS ss f w*k:=Rat.mul_le_mul_of_nonneg_left k1 l0
  rw[m,Rat.mul_one] at h1
  grind
structure FS (ws:List WE) (ss:List SE) (f:Fm) (c:Nat):Prop where
  P:PE' ws ss
  F:∃ t,FJ ws ss f t
  b:FB c f ss
  n:c+cS f ss=ss.length
theorem FS.begin {ws:List WE}{ss:List SE}(P:PE' ws ss):FS ws ss (fun _=>none) 0:=by
  have s0:∀ l:List SE,sS (fun _=>none) l=0:=fun l=>by
    induction l with
    | nil=>rfl
    | cons x r ih=>unfold sS;rw[ih];exact Rat.add_zero 0
  have c0:∀ l:List SE,cS (fun _=>none) l=l.length:=fun l=>by
    induction l with
    | nil=>rfl
    | cons x r ih=>unfold cS;rw[ih,if_pos rfl,List.length_cons];omega
  refine ⟨P,⟨0,⟨Rat.le_refl,(fun _ _ _ h=>nomatch h),fun s hs _=>(P.s s hs).ur.1,fun w hw=>?_,fun _ _ _ h=>nomatch h⟩⟩,⟨(fun _ _ _ h=>nomatch h),fun _ _ _ h=>nomatch h⟩,by rw[c0];omega⟩
  rw[s0,Rat.mul_zero,Rat.zero_add]
  have:((0:Int):Rat)≤(w.pc:Rat):=Rat.intCast_le_intCast.mpr (by have:=(P.w w hw).p0;omega)
  exact this
theorem FS.bnd {ws:List WE}{ss:List SE}{f:Fm}{c:Nat}(h:FS ws ss f c){s:SE}(hs:s∈ss)(e:f s.nm=none):∀ n∈s.road,∃ w∈ws,w.nm=n∧eQ ws ss f n=eS ss f w∧0 < cS f (onL n ss)∧InD (dO (c+1)) (eQ ws ss f n)∧0≤eQ ws ss f n∧eQ ws ss f n≤20:=fun n hn=>by
  obtain ⟨w,hw,rfl⟩:=h.P.all s hs n hn
  have k0:0 < cS f (onL w.nm ss):=sZ (s:=s) (List.mem_filter.mpr ⟨hs,decide_eq_true hn⟩) e
  obtain ⟨t,F⟩:=h.F
  rw[tO h.P f hw]
  exact ⟨w,hw,rfl,rfl,k0,Dz h.b h.P.sl k0,Ie h.P F hw k0⟩
theorem FS.MT {ws:List WE}{ss:List SE}{f:Fm}{c:Nat}(h:FS ws ss f c){s:SE}(hs:s∈ss)(e:f s.nm=none):∀ x∈s.cI::s.road.map (eQ ws ss f),InD (dO (c+1)) x∧0≤x∧x≤60:=fun x hx=>by
  rcases List.mem_cons.mp hx with rfl | z
  · exact ⟨xC (h.P.s s hs) _,(h.P.s s hs).ur⟩
  · obtain ⟨n,hn,rfl⟩:=List.mem_map.mp z
    obtain ⟨_,_,_,_,_,i,l0,l1⟩:=h.bnd hs e n hn
    exact ⟨i,l0,Rat.le_trans l1 (by decide)⟩
theorem FS.K9 {ws:List WE}{ss:List SE}{f:Fm}{c:Nat}(h:FS ws ss f c){s:SE}(hs:s∈ss)(e:f s.nm=none):InD (dO (c+1)) (bz ws ss f s)∧0≤bz ws ss f s∧bz ws ss f s≤60:=h.MT hs e _ (d9 (by simp)).i
theorem FS.tB {ws:List WE}{ss:List SE}{f:Fm}{c:Nat}(h:FS ws ss f c)(h0:0 < cS f ss):InD (dO (c+1)) (tF ws ss f)∧0≤tF ws ss f∧tF ws ss f≤60:=by
  have ne:bW ss f≠[]:=fun z=>by
    have:cS f ss=0:=df fun s hs e=>by
      have:=cE.mpr ⟨hs,e⟩
      rw[z] at this;cases this
    omega
  have M:jg (tF ws ss f) ((bW ss f).map (bz ws ss f)):=d9 (by simpa using ne)
  obtain ⟨s,hs,e⟩:=List.mem_map.mp M.i
  obtain ⟨h1,h2⟩:=cE.mp hs
  rw[← e]
  exact h.K9 h1 h2
theorem FS.next {ws:List WE}{ss:List SE}{f:Fm}{c:Nat}(h:FS ws ss f c)(h0:0 < cS f ss):∃ c',FS ws ss (gK ws ss f) c'∧c < c':=by
  obtain ⟨t,F⟩:=h.F
  have F':=FD h.P F h0
  have lt:=ly (ws:=ws) h.P h0
  have n:=h.n
  obtain ⟨i,l0,l1⟩:=h.tB h0
  refine ⟨ss.length - cS (gK ws ss f) ss,⟨h.P,⟨_,F'⟩,⟨fun s hs v e=>?_,fun s hs v e=>?_⟩,by omega⟩,by omega⟩
  · rw[step_at h.P f hs] at e
    split at e
    · rw[← Option.some.inj e];exact i.to (by omega)
    · exact (h.b.i s hs v e).to (by omega)
  · rw[step_at h.P f hs] at e
    split at e
    · rw[← Option.some.inj e];exact ⟨l0,l1⟩
    · exact h.b.l s hs v e
def vG (ws:List WE)(ss:List SE):Nat→Fm→Fm
  | 0,f=>f
  | k+1,f=>if cS f ss=0 then f else vG ws ss k (gK ws ss f)
theorem um {ws:List WE}{ss:List SE}{f:Fm}(h:cS f ss=0):∀ k,vG ws ss k f=f
  | 0=>rfl
  | k+1=>if_pos h
theorem vR {ws:List WE}{ss:List SE}{f:Fm}(h:0 < cS f ss)(k:Nat):vG ws ss (k+1) f=vG ws ss k (gK ws ss f):=if_neg (by omega)
def evF (ws:List WE)(ss:List SE):Fm:=vG ws ss 8 fun _=>none
theorem FS.fin {ws:List WE}{ss:List SE}:∀ (k:Nat) {f:Fm} {c:Nat},FS ws ss f c→cS f ss≤k→∃ c',FS ws ss (vG ws ss k f) c'∧cS (vG ws ss k f) ss=0
  | 0,f,c,h,hk=>⟨c,h,by show cS f ss=0;omega⟩
  | k+1,f,c,h,hk=>by
    by_cases z:cS f ss=0
    · rw[um z];exact ⟨c,h,z⟩
    · have z0:0 < cS f ss:=by omega
      rw[vR z0]
      obtain ⟨c',h',_⟩:=h.next z0
      exact FS.fin k h' (by have:=ly (ws:=ws) h.P z0;omega)
theorem Li {ws:List WE}{ss:List SE}(P:PE' ws ss):∃ c,FS ws ss (evF ws ss) c∧cS (evF ws ss) ss=0:=
  FS.fin 8 (FS.begin P) (by have:=qP (f:=fun _=>none) ss;have:=P.sl;omega)
theorem Iu {z:D}{r s:Rat}(V:Vl z (r.num*s.den - s.num*r.den) (r.den*s.den)):z=frR (r - s):=by
  refine vr V ?_
  have h1:=eU r
  have h2:=eU s
  rw[Rat.intCast_mul,Rat.intCast_sub,Rat.intCast_mul,Rat.intCast_mul]
  generalize ((r.den:Int):Rat)=a at *
  generalize ((s.den:Int):Rat)=b at *
  grind
theorem xg {z:D}{r s:Rat}(V:Vl z (r.num*s.den+s.num*r.den) (r.den*s.den)):z=frR (r+s):=by
  refine vr V ?_
  have h1:=eU r
  have h2:=eU s
  rw[Rat.intCast_mul,Rat.intCast_add,Rat.intCast_mul,Rat.intCast_mul]
  generalize ((r.den:Int):Rat)=a at *
  generalize ((s.den:Int):Rat)=b at *
  grind
theorem Ex {z:D}{r x:Rat}{k:Int}(V:Vl z (r.num*1) (r.den*k))(e:x*(k:Rat)=r):z=frR x:=by
  refine vr V ?_
  have h1:=eU r
  rw[Rat.intCast_mul,Int.mul_one]
  generalize ((r.den:Int):Rat)=a at *
  grind
def val (f:Fm)(s:SE):Rat:=(f s.nm).getD 0
def A4 (f:Fm)(ss:List SE):List D:=ss.map fun s=>.tup [.str s.nm,frR (val f s)]
def jv (tab:List (L2.Key×D))(f:Fm)(ss:List SE):Prop:=∀ s∈ss,a5 tab (.inr s.nm)=(f s.nm).map frR
structure FE (ws:List WE) (ss:List SE) (f:Fm):Prop where
  P:PE' ws ss
  a:∀ s∈ss,f s.nm≠none
  i:∀ s∈ss,InD (dO 8) (val f s)
  l:∀ s∈ss,0≤val f s∧val f s≤60
  m:∀ s∈ss,val f s≤s.cI
  c:∀ w∈ws,sS f (onL w.nm ss)≤(w.pc:Rat)
  d:∀ s∈ss,val f s=s.cI∨∃ w∈ws,w.nm∈s.road∧sS f (onL w.nm ss)=(w.pc:Rat)∧∀ y∈onL w.nm ss,val f y≤val f s
theorem Gx {ws:List WE}{ss:List SE}(P:PE' ws ss):FE ws ss (evF ws ss):=by
  obtain ⟨c,h,z⟩:=Li P
  obtain ⟨t,F⟩:=h.F
  have a:=iQ z
  have n:=h.n
  have sl:=P.sl
  have some:∀ s∈ss,evF ws ss s.nm=some (val (evF ws ss) s):=fun s hs=>by
    unfold val
    cases e:evF ws ss s.nm with
    | none=>exact absurd e (a s hs)
    | some v=>rfl
  have on:∀ {n:Str},∀ s∈onL n ss,s∈ss:=fun s hs=>(List.mem_filter.mp hs).1
  refine ⟨P,a,fun s hs=>(h.b.i s hs _ (some s hs)).to (by omega),fun s hs=>h.b.l s hs _ (some s hs),fun s hs=>(F.a s hs _ (some s hs)).2.2,fun w hw=>?_,fun s hs=>?_⟩
  · have:=F.c w hw
    rw[df fun s hs=>a s (on s hs)] at this
    have e0:((0:Nat):Rat)=0:=rfl
    rw[e0,Rat.zero_mul,Rat.add_zero] at this
    exact this
  · rcases F.d s hs _ (some s hs) with e | ⟨w,hw,h1,h3,_,h4⟩
    · exact .inl e
    · rw[df fun s hs=>a s (on s hs)] at h3
      have e0:((0:Nat):Rat)=0:=rfl
      rw[e0,Rat.zero_mul,Rat.add_zero] at h3
      exact .inr ⟨w,hw,h1,h3,fun y hy=>h4 y hy _ (some y (on y hy))⟩
theorem FE.br {ws:List WE}{ss:List SE}{f:Fm}(h:FE ws ss f){s:SE}(hs:s∈ss):BR (val f s):=BR.of (h.i s hs) (bA 8) (dY (Nat.le_refl _)) (Rat.le_trans (by decide) (h.l s hs).1) (Rat.le_trans (h.l s hs).2 (by decide))
theorem Dm {i:Int}(h0:-1000≤i)(h1:i≤1000):BR (i:Rat):=BR.of (D:=1) (InD.int _ _) (by decide) (by decide) (by
  have:((-1000:Int):Rat)≤(i:Rat):=Rat.intCast_le_intCast.mpr h0
  exact this) (by
  have:(i:Rat)≤((1000:Int):Rat):=Rat.intCast_le_intCast.mpr h1
  exact this)
theorem w6 {s:SE}(h:s.Ok):BR s.cI:=BR.of (xC h 0) (bA 0) (dY (by decide)) (Rat.le_trans (by decide) h.ur.1) (Rat.le_trans h.ur.2 (by decide))
theorem gG (i:Int):fr i 1=frR (i:Rat):=by
  have:Vl (fr i 1) i 1:=⟨⟨i,1,rfl,by decide,by simp,rfl,Nat.le_refl _,Nat.le_refl _⟩,by decide⟩
  exact vr this (by rw[show ((1:Int):Rat)=1 from rfl,Rat.mul_one])
theorem mY {s:SE}(h:s.Ok){z:D}(V:Vl z s.lim s.bt):z=frR s.cI:=vr V h.cI
structure SmR (D:Int) (t:Rat) (j:Nat):Prop where
  i:InD D t
  l:-(60*(j:Rat))≤t
  u:t≤60*(j:Rat)+20
theorem j8 {j:Nat}(h:j≤8):(j:Rat)≤8:=by
  have:(j:Rat)≤((8:Nat):Rat):=Rat.natCast_le_natCast.mpr h
  exact this
theorem SmR.br {D:Int}{t:Rat}{j:Nat}(h:SmR D t j)(d0:0 < D)(d1:D≤1000000000000000000000000000)(hj:j≤8):BR t:=by
  have h1:=h.l
  have h2:=h.u
  have h3:=j8 hj
  exact BR.of h.i d0 d1 (by grind) (by grind)
theorem SmR.add {D:Int}{t v:Rat}{j:Nat}(h:SmR D t j)(i:InD D v)(v0:0≤v)(v1:v≤60):SmR D (t+v) (j+1):=by
  have h1:=h.l
  have h2:=h.u
  refine ⟨h.i.add i,?_,?_⟩
  · rw[Rat.natCast_add];grind
  · rw[Rat.natCast_add];grind
theorem SmR.sub {D:Int}{t v:Rat}{j:Nat}(h:SmR D t j)(i:InD D v)(v0:0≤v)(v1:v≤60):SmR D (t - v) (j+1):=by
  have h1:=h.l
  have h2:=h.u
  refine ⟨h.i.sub i,?_,?_⟩
  · rw[Rat.natCast_add];grind
  · rw[Rat.natCast_add];grind
theorem SmR.skip {D:Int}{t:Rat}{j:Nat}(h:SmR D t j):SmR D t (j+1):=by
  have h1:=h.l
  have h2:=h.u
  refine ⟨h.i,?_,?_⟩
  · rw[Rat.natCast_add];grind
  · rw[Rat.natCast_add];grind
theorem SmR.zero {D:Int}:SmR D 0 0:=by
  have e0:((0:Nat):Rat)=0:=rfl
  exact ⟨InD.int D 0,by rw[e0];grind,by rw[e0];grind⟩
theorem SmR.MH {D:Int}{p:Int}(h0:0≤p)(h1:p≤20):SmR D (p:Rat) 0:=by
  have a:((0:Int):Rat)≤(p:Rat):=Rat.intCast_le_intCast.mpr h0
  have b:(p:Rat)≤((20:Int):Rat):=Rat.intCast_le_intCast.mpr h1
  have e0:((0:Nat):Rat)=0:=rfl
  have a:(0:Rat)≤(p:Rat):=a
  have b:(p:Rat)≤(20:Rat):=b
  exact ⟨InD.int D p,by rw[e0];grind,by rw[e0];grind⟩
theorem vq {a b:Rat}{xs:List Rat}(h:jg a xs)(h':jg b xs):a=b:=Rat.le_antisymm (h.l b h'.i) (h'.l a h.i)
structure FT (ws:List WE) (ss:List SE) (f:Fm) (c:Nat):Prop where
  P:PE' ws ss
  F:∃ t,FJ ws ss f t
  b:FB c f ss
  n:c+cS f ss=ss.length
theorem FT.begin {ws:List WE}{ss:List SE}(P:PE' ws ss):FT ws ss (fun _=>none) 0:=by
  have h:=FS.begin P
  obtain ⟨t,F⟩:=h.F
  exact ⟨P,⟨t,F⟩,h.b,h.n⟩
theorem FT.lev {ws:List WE}{ss:List SE}{f:Fm}{c:Nat}(h:FT ws ss f c){w:WE}(hw:w∈ws)(k:0 < cS f (onL w.nm ss)):InD (dO (c+1)) (eS ss f w)∧0≤eS ss f w∧eS ss f w≤20:=by
  obtain ⟨t,F⟩:=h.F
  refine ⟨Dz h.b h.P.sl k,?_⟩
  have m:=gD k
  have k0:=z3 k
  have cc:=F.c w hw
  have p:=F.p
  have on:∀ s∈onL w.nm ss,s∈ss:=fun s hs=>(List.mem_filter.mp hs).1
  have s0:0≤sS f (onL w.nm ss):=IB fun s hs v e=>(F.a s (on s hs) v e).1
  have k1:(1:Rat)≤(cS f (onL w.nm ss):Rat):=by
    have:((1:Nat):Rat)≤(cS f (onL w.nm ss):Rat):=Rat.natCast_le_natCast.mpr k
    simpa using this
  have pc:(w.pc:Rat)≤20:=by
    have:(w.pc:Rat)≤((20:Int):Rat):=Rat.intCast_le_intCast.mpr (h.P.w w hw).p1
    exact this
  have kt:0≤(cS f (onL w.nm ss):Rat)*t:=Rat.mul_nonneg (Rat.le_of_lt k0) p
  generalize (cS f (onL w.nm ss):Rat)=k at *
  generalize sS f (onL w.nm ss)=S at *
  have l0:0≤eS ss f w:=by
    refine Rat.le_of_mul_le_mul_right (c:=k) ?_ k0
    rw[m,Rat.zero_mul]
    exact q5 cc kt
  refine ⟨l0,?_⟩
  have h1:eS ss f w*1≤eS ss f w*k:=Rat.mul_le_mul_of_nonneg_left k1 l0
  rw[m,Rat.mul_one] at h1
  exact q6 h1 s0 pc
theorem FT.lim {ws:List WE}{ss:List SE}{f:Fm}{c:Nat}(h:FT ws ss f c){s:SE}(hs:s∈ss)(e:f s.nm=none):∀ n∈s.road,∃ w∈ws,w.nm=n∧eQ ws ss f n=eS ss f w∧0 < cS f (onL n ss)∧InD (dO (c+1)) (eQ ws ss f n)∧0≤eQ ws ss f n∧eQ ws ss f n≤20:=fun n hn=>by
  obtain ⟨w,hw,rfl⟩:=h.P.all s hs n hn
  have k0:0 < cS f (onL w.nm ss):=sZ (s:=s) (List.mem_filter.mpr ⟨hs,decide_eq_true hn⟩) e
  rw[tO h.P f hw]
  exact ⟨w,hw,rfl,rfl,k0,h.lev hw k0⟩
theorem FT.bnd {ws:List WE}{ss:List SE}{f:Fm}{c:Nat}(h:FT ws ss f c){s:SE}(hs:s∈ss)(e:f s.nm=none):InD (dO (c+1)) (bz ws ss f s)∧0≤bz ws ss f s∧bz ws ss f s≤60:=by
  have M:jg (bz ws ss f s) (s.cI::s.road.map (eQ ws ss f)):=d9 (by simp)
  rcases List.mem_cons.mp M.i with z | z
  · rw[z];exact ⟨xC (h.P.s s hs) _,(h.P.s s hs).ur⟩
  · obtain ⟨n,hn,z⟩:=List.mem_map.mp z
    obtain ⟨_,_,_,_,_,i,l0,l1⟩:=h.lim hs e n hn
    rw[← z]
    exact ⟨i,l0,Rat.le_trans l1 (by decide)⟩
def vS (f:Fm)(n:Str)(t:Rat):Fm:=fun m=>if m=n then some t else f m
theorem FT.one {ws:List WE}{ss:List SE}{f:Fm}{c:Nat}(h:FT ws ss f c){s:SE}(hs:s∈ss)(e:f s.nm=none)(ht:∀ y∈ss,f y.nm=none→bz ws ss f s≤bz ws ss f y)(n1:cS (vS f s.nm (bz ws ss f s)) ss+1=cS f ss):FT ws ss (vS f s.nm (bz ws ss f s)) (c+1):=by
  have P:=h.P
  obtain ⟨t,F⟩:=h.F
  obtain ⟨i,l0,l1⟩:=h.bnd hs e
  have cs:∀ y∈ss,vS f s.nm (bz ws ss f s) y.nm=f y.nm∨(f y.nm=none∧bz ws ss f y=bz ws ss f s∧vS f s.nm (bz ws ss f s) y.nm=some (bz ws ss f s)):=fun y hy=>by
    by_cases z:y.nm=s.nm
    · have:y=s:=wI P.nd hy hs z
      subst this
      exact .inr ⟨e,rfl,if_pos rfl⟩
    · exact .inl (if_neg z)
  refine ⟨P,⟨_,(F.step (eQ ws ss f) (bz ws ss f) P.all (fun w hw h=>by rw[tO P f hw];exact gD h) (fun y hy e=>d9 (by simp)) ⟨s,hs,e,rfl⟩ ht cs).1⟩,⟨fun y hy v ev=>?_,fun y hy v ev=>?_⟩,by have:=h.n;omega⟩
  · rcases cs y hy with q | ⟨_,_,q⟩
    · rw[q] at ev;exact (h.b.i y hy v ev).to (by omega)
    · rw[q] at ev;rw[← Option.some.inj ev];exact i
  · rcases cs y hy with q | ⟨_,_,q⟩
    · rw[q] at ev;exact h.b.l y hy v ev
    · rw[q] at ev;rw[← Option.some.inj ev];exact ⟨l0,l1⟩
theorem FT.fe {ws:List WE}{ss:List SE}{f:Fm}{c:Nat}(h:FT ws ss f c)(z:cS f ss=0):FE ws ss f:=by
  have P:=h.P
  obtain ⟨t,F⟩:=h.F
  have a:=iQ z
  have n:=h.n
  have sl:=P.sl
  have some:∀ s∈ss,f s.nm=some (val f s):=fun s hs=>by
    unfold val
    cases e:f s.nm with
    | none=>exact absurd e (a s hs)
    | some v=>rfl
  have on:∀ {n:Str},∀ s∈onL n ss,s∈ss:=fun s hs=>(List.mem_filter.mp hs).1
  have c0:∀ n:Str,cS f (onL n ss)=0:=fun n=>df fun s hs=>a s (on s hs)
  have e0:((0:Nat):Rat)=0:=rfl
  refine ⟨P,a,fun s hs=>(h.b.i s hs _ (some s hs)).to (by omega),fun s hs=>h.b.l s hs _ (some s hs),fun s hs=>(F.a s hs _ (some s hs)).2.2,fun w hw=>?_,fun s hs=>?_⟩
  · have:=F.c w hw
    rw[c0,e0,Rat.zero_mul,Rat.add_zero] at this
    exact this
  · rcases F.d s hs _ (some s hs) with e | ⟨w,hw,h1,h3,_,h4⟩
    · exact .inl e
    · rw[c0,e0,Rat.zero_mul,Rat.add_zero] at h3
      exact .inr ⟨w,hw,h1,h3,fun y hy=>h4 y hy _ (some y (on y hy))⟩
theorem GR {f g:Fm}:∀ {l:List SE},(∀ y∈l,val f y≤val g y)→sS f l≤sS g l∧((∃ y∈l,val f y < val g y)→sS f l < sS g l)
  | [],_=>⟨Rat.le_refl,fun ⟨_,h,_⟩=>nomatch h⟩
  | x::r,h=>by
    obtain ⟨i1,i2⟩:=GR (l:=r) fun y z=>h y (List.mem_cons_of_mem _ z)
    have hx:=h x List.mem_cons_self
    have ef:sS f (x::r)=val f x+sS f r:=rfl
    have eg:sS g (x::r)=val g x+sS g r:=rfl
    rw[ef,eg]
    refine ⟨q7 hx i1,fun ⟨y,hy,lt⟩=>?_⟩
    rcases List.mem_cons.mp hy with rfl | z
    · exact q8 lt i1
    · exact q9 hx (i2 ⟨y,z,lt⟩)
theorem DA {α:Type}(v:α→Rat):∀ {l:List α},l≠[]→∃ x∈l,∀ y∈l,v x≤v y
  | [],h=>absurd rfl h
  | x::r,_=>by
    by_cases e:r=[]
    · subst e
      exact ⟨x,List.mem_cons_self,fun y hy=>by rw[List.mem_singleton.mp hy];exact Rat.le_refl⟩
    · obtain ⟨z,hz,h⟩:=DA v e
      by_cases q:v x≤v z
      · exact ⟨x,List.mem_cons_self,fun y hy=>by
          rcases List.mem_cons.mp hy with rfl | k
          · exact Rat.le_refl
          · exact Rat.le_trans q (h y k)⟩
      · refine ⟨z,List.mem_cons_of_mem _ hz,fun y hy=>?_⟩
        rcases List.mem_cons.mp hy with rfl | k
        · exact Rat.le_of_lt (Rat.not_le.mp q)
        · exact h y k
theorem zL {ws:List WE}{ss:List SE}{f g:Fm}(F:FE ws ss f)(G:FE ws ss g){s:SE}(hs:s∈ss)(lt:val f s < val g s)(low:∀ y∈ss,val f y≠val g y→val f s≤val f y∧val f s≤val g y):False:=by
  rcases F.d s hs with e | ⟨w,hw,h1,h2,h3⟩
  · have:=G.m s hs
    rw[e] at lt
    exact absurd lt (Rat.not_lt.mpr this)
  · have on:∀ y∈onL w.nm ss,y∈ss:=fun s hs=>(List.mem_filter.mp hs).1
    have le:∀ y∈onL w.nm ss,val f y≤val g y:=fun y hy=>by
      by_cases e:val f y=val g y
      · rw[e];exact Rat.le_refl
      · exact Rat.le_trans (h3 y hy) (low y (on y hy) e).2
    have:=(GR le).2 ⟨s,List.mem_filter.mpr ⟨hs,decide_eq_true h1⟩,lt⟩
    rw[h2] at this
    exact absurd this (Rat.not_lt.mpr (G.c w hw))
theorem FY {ws:List WE}{ss:List SE}{f g:Fm}(F:FE ws ss f)(G:FE ws ss g):∀ s∈ss,val f s=val g s:=by
  refine Classical.byContradiction fun z=>?_
  have ne:(ss.filter fun s=>decide (val f s≠val g s))≠[]:=fun e=>z fun s hs=>Classical.byContradiction fun q=>by
    have:s∈ss.filter fun s=>decide (val f s≠val g s):=List.mem_filter.mpr ⟨hs,decide_eq_true q⟩
    rw[e] at this;cases this
  obtain ⟨s,hs,h⟩:=DA (fun s=>if val f s≤val g s then val f s else val g s) ne
  obtain ⟨h1,h2⟩:=List.mem_filter.mp hs
  have h2:val f s≠val g s:=of_decide_eq_true h2
  have key:∀ y∈ss,val f y≠val g y→(if val f s≤val g s then val f s else val g s)≤val f y∧(if val f s≤val g s then val f s else val g s)≤val g y:=fun y hy e=>by
    have:=h y (List.mem_filter.mpr ⟨hy,decide_eq_true e⟩)
    by_cases q:val f y≤val g y
    · rw[if_pos q] at this
      exact ⟨this,Rat.le_trans this q⟩
    · rw[if_neg q] at this
      exact ⟨Rat.le_trans this (Rat.le_of_lt (Rat.not_le.mp q)),this⟩
  by_cases q:val f s≤val g s
  · rw[if_pos q] at key
    exact zL F G h1 (Rat.lt_of_le_of_ne q h2) key
  · rw[if_neg q] at key
    exact zL G F h1 (Rat.not_le.mp q) fun y hy e=>(key y hy (Ne.symm e)).symm
section
open PySem PySem.Spec PyProof.Rows L2
section
variable {X:Cx} {i o:Expr} {pos:Pos} {Ti To:ETr}
theorem tM (hu:X.A.units+64 < cLine)(hi:LE X i Ti)(ho:LE X o To)(hm:behindInMarks .NotIn o=false:=by rfl):LT X (.Compare i [.NotIn] [o] pos) (TB (r9 true Ti To)):=by
  obtain ⟨ti,pi,si⟩:=hi.ex
  obtain ⟨to,po,so⟩:=ho.ex
  exact ⟨_,Dr (AH (hu1 hu) pi po) hm,xq (xH si so)⟩
theorem qY:bQ X (.builtin "len") (fun xs H Q=>∃ l kvs,xs=[.ref l]∧H l=some (.dK kvs)∧Q (.int kvs.length) H):=by
  intro pins s σ H xs us Q I rx h
  obtain ⟨l,kvs,rfl,e,q⟩:=h
  obtain ⟨u,rfl,ru⟩:=vals1 rx
  cases (show u=Value.ref l from ru)
  obtain ⟨hz,hs,vs,kv,dd⟩:=(show cj X.prog X.w H s.heap l (.dK kvs) from I.hok l _ e)
  have hn:=jz
  have kl:=kv.length
  refine call_len_dict (knd:=bE X.prog X.w) hs dd (by omega) ?_
  exact ⟨.int kvs.length,H,(I.tok _),⟨s.toks+1,by rw[kl]⟩,q⟩
def uC:FSp:=fun ds μ Q=>match ds with
  | [.obj a]=>kD μ a fun kvs=>Q (.int kvs.length) μ
  | _=>False
theorem wa {K:PySem.W.Frag}:md K (fun xs H Q=>∃ l kvs,xs=[.ref l]∧H l=some (.dK kvs)∧Q (.int kvs.length) H) uC:=fun H μ xs ds Q Q' m p h k=>by
  unfold uC at h
  split at h
  · cases p with | cons p1 p2=>
    cases p2
    cases p1 with
    | obj a=>
      obtain ⟨kvs,e0,h⟩:=jD h
      obtain ⟨xs,ex,l⟩:=m _ _ e0
      exact ⟨_,xs,rfl,ex,k _ H _ μ (.refl H) m (by rw[l.length];exact .int _) h⟩
  · exact False.elim h
end
end
section
open PySem PySem.Spec PyProof.Rows L2
section
variable {X:Cx} {o i e:Expr} {apos cpos:Pos} {To Ti Te:ETr}
theorem Aa {a:Option V}{b:Option Value}{y:V}{u:Value}(r:lA a b)(ry:RelV y u):RelV (a.getD y) (b.getD u):=by
  cases a with
  | none=>cases b with
    | none=>exact ry
    | some _=>cases r
  | some x=>cases b with
    | none=>cases r
    | some _=>exact r
theorem EG:MtM X "dict.get" (fun x vs H Q=>∃ p kvs kk y,x=.ref p∧vs=[kV kk,y]∧H p=some (.dK kvs)∧Q ((gI kvs kk).getD y) H):=by
  intro pins s σ H x vs v us Q I rx rv h
  obtain ⟨p,kvs,kk,y,rfl,rfl,ep,q⟩:=h
  cases (show v=Value.ref p from rx)
  obtain ⟨u1,u2,rfl,r1,r2⟩:=rv.two
  obtain ⟨hz,hs,ws,kv,dd⟩:=(show cj X.prog X.w H s.heap p (.dK kvs) from I.hok p _ ep)
  refine call_meetsIn PySem.F.slot_dict_get dd.typeIs PySem.F.entry_dict_get (PySem.F.args_dict_get_3 _ _ _) (meets_dict_get_default (bE X.prog X.w) p (oX r1) hs u2) ⟨_,dd.mapOf,?_⟩
  exact ⟨(gI kvs kk).getD y,H,I.tok _,Aa (kv.val kk) r2,q⟩
def xO (To Ti Te:ETr):ETr:=fun ρ μ Q=>To ρ μ fun x μ1=>kObj x fun a=>kD μ1 a fun _=>Ti ρ μ1 fun y μ2=>Te ρ μ2 fun z μ3=>kD μ3 a fun kvs=>pP y fun k=>Q ((a5 kvs k).getD z) μ3
theorem CG (ho:LE X o To)(hi:LE X i Ti)(he:LE X e Te)
    (hbase:attributeBase o "get" X.env (eval o X.env)=eval o X.env:=by rfl)
    (hfew:((backTo cpos (starEach [i,e] X.env)).all (fun x=>!x.1)&&(backToKw cpos (keywordEach [] X.env)).all (fun x=>x.1.isSome)
      && decide (([i,e]:List Expr).length+([]:List Keyword).length+(if ([]:List Keyword).isEmpty then 0 else 1) < 30))=true:=by rfl)
    (hline:(apos.endLine == cpos.line)=true:=by rfl) (hs:starEach [i,e] X.env=(false,eval i X.env)::starEach [e] X.env:=by rfl) (hs2:starEach [e] X.env=(false,eval e X.env)::starEach [] X.env:=by rfl) (hplain:(backTo cpos (starEach [e] X.env)).any (·.1)=false:=by rfl) :
    LE X (.Call (.Attribute o "get" apos) [i,e] [] cpos) (xO To Ti Te):=by
  obtain ⟨to,po,so⟩:=ho.ex
  obtain ⟨ti,pi,si⟩:=hi.ex
  obtain ⟨te,pe,se⟩:=he.ex
  refine ⟨_,BP PySem.F.plainAttrs_dict PySem.F.slot_dict_get PySem.F.type_dict_get EG po (eW pi (eW pe lu hs2) hs) hbase hfew hline hs hplain,fun σ H ρ μ Q Q' rl h k=>so σ H ρ μ _ _ rl h fun x H1 dx μ1 t1 m1 p1 h1=>?_⟩
  obtain ⟨q,rfl,h1⟩:=eP p1 h1
  obtain ⟨kvs0,e0,h1⟩:=jD h1
  obtain ⟨xs0,ex0,l0⟩:=m1 q _ e0
  refine ⟨.inr (.inr (.inl ⟨rfl,.inl ⟨_,ex0⟩⟩)),si σ H1 ρ μ1 _ _ (rl.go t1 m1) h1 fun y H2 dy μ2 t2 m2 p2 h2=>?_⟩
  refine se σ H2 ρ μ2 _ _ ((rl.go t1 m1).go t2 m2) h2 fun z H3 dz μ3 t3 m3 p3 h3=>?_
  obtain ⟨kvs,e3,h3⟩:=jD h3
  obtain ⟨kk,rfl,h3⟩:=iI (p2.mono t3) h3
  obtain ⟨xs,ex,l⟩:=m3 q _ e3
  refine ⟨q,xs,kk,z,rfl,rfl,ex,?_⟩
  rcases l.look kk with ⟨a,b⟩ | ⟨v,d,a,b,pv⟩
  · rw[b];rw[a] at h3
    exact k _ H3 _ μ3 (t1.trans (t2.trans t3)) m3 p3 h3
  · rw[b];rw[a] at h3
    exact k _ H3 _ μ3 (t1.trans (t2.trans t3)) m3 pv h3
end
end
end L3
namespace Kk
local macro_rules | `(tactic| walk_at "ln")=>`(tactic| (intro ds μ Q h;split at h;rfl;exact h.elim))
open PySem L3
theorem El (ρ:ST)(μ:Mu)(Q:DK):zM ρ μ Q = ∀ p,μ p=none→Q (.obj p) (up μ p (.dct [])):=propext Iff.rfl
theorem Fi (a:ETr)(ρ:ST)(μ:Mu)(Q:List D→Mu→Prop):Cy (ag a aw) ρ μ Q=a ρ μ fun x μ1=>kS x fun ds=>Q (jO ds) μ1:=propext Iff.rfl
theorem E9 (a:Addr)(μ:Mu)(Q:DK):mi uC [.obj a] μ Q=kD μ a fun kvs=>Q (.int kvs.length) μ:=propext Iff.rfl
theorem Ml (x:Rat)(μ:Mu)(Q:DK):L3.rIx (frR x) (.int 0) μ Q=Q (.int x.num) μ:=propext Iff.rfl
theorem MA (x:Rat)(μ:Mu)(Q:DK):L3.rIx (frR x) (.int 1) μ Q=Q (.int x.den) μ:=propext Iff.rfl
theorem Bk (a b e:ETr)(ρ:ST)(μ:Mu)(Q:DK):xO a b e ρ μ Q=a ρ μ fun x μ1=>kObj x fun a=>kD μ1 a fun _=>b ρ μ1 fun y μ2=>e ρ μ2 fun z μ3=>kD μ3 a fun kvs=>pP y fun k=>Q ((a5 kvs k).getD z) μ3:=propext Iff.rfl
def MK:=Jn @MP <| Jn @MB <| Jn @ME <| Jn @MN <| Jn @L8 <| Jn @MU <| Jn @L6 <| Jn @MD <| Jn @El <| Jn @Bk <| Jn @E9 <| Jn @Ml <| Jn @MA <| Jn @Fi <| Jn @EL <| Jn @C7 <| Jn @JU <| Jn @Ii <| Jn @Hv <| Jn @Ep <| Jn @JV <| Jn @Ff <| Jn @Iz <| Jn @HQ <| Jn @Jr <| Jn @FU <| Jn @Il <| Jn @Jm <| Jn @E8 <| @Lg
local macro_rules | `(tactic| walk_at "go")=>`(tactic| try simp only[↓MK,↓Kb,↓KJ,↓LJ,↓LF,↓LQ,↓KQ,↓yU,↓nu,fO,eI,fJ,fz,fN,fq,gq,gx,eJ,ft,fk,fD,fM,gy,fu,gj,fw,gs,fm,gB,rT,gU,List.map_cons,List.map_nil,List.replicate,List.cons_append,List.nil_append,lk,LU,Kh,Kv,KA,za,uN,GL,G2,GN,GO,y2,Dw,DE,Ci,y3,zk,zB,y1,true_and,and_true,and_self,Bool.not_true,Bool.not_false,decide_true,decide_false,Bool.or_true,Bool.or_false,Bool.true_or,Bool.false_or,Bool.and_false,Bool.false_and,Bool.and_true,Bool.true_and,Int.reduceToNat,Int.reducePow,Int.reduceNeg,Int.reduceSub,Int.reduceAdd,Int.reduceMul,Int.reduceEq,Int.reduceLT,Int.reduceLE,Int.reduceBEq,oH,jX,km,jL,jM,jW,jK,jZ,if_true,if_false,Bool.false_eq_true,reduceCtorEq,decide_eq_true_eq])
local macro_rules | `(tactic| walk_at "ok")=>`(tactic| (simp only[L3.fX,L3.MulOk,L3.S64,L3.eR,L3.rk] at *;omega))
local macro_rules | `(tactic| walk_at "ini")=>`(tactic| simp only[ini,List.map,List.length,List.replicate,Nat.reduceSub,Nat.reduceAdd,Nat.sub_self,List.cons_append,List.nil_append,List.append_nil])
def cu:FSp:=fun ds μ Q=>match ds with
  | [.int _]=>True∧Q (.bl true) μ
  | _=>False
theorem tH:∀ ds μ Q,cu ds μ Q→ds.length=1:=by
  unfold cu
  walk_at "ln"
def oU:STr:=aT (jm (TUn (iY "int") (ah 0)) (je (TUn (iY "bool") (ah 0))))
theorem vO:∀ ds μ Q,cu ds μ Q→oU { nx:=fun _ μ'=>RT Q .non μ',rt:=RT Q } (ini 1 ds) μ:=by
  intro ds μ Q h
  unfold cu at h
  split at h
  case h_2=>exact h.elim
  rename_i i
  walk_at "ini"
  unfold oU
  walk_at "go"
  exact ⟨_,.refl _,h.2⟩
def sqD (t:Bool)(xs:List D):D:=if t then .tup xs else .ls xs
def a8:FSp:=fun ds μ Q=>match ds with
  | [d,.int n]=>∃ (t:Bool) (xs:List D),d=sqD t xs∧Q (.bl (t&&decide ((xs.length:Int)=n))) μ
  | _=>False
theorem mq:∀ ds μ Q,a8 ds μ Q→ds.length=2:=by
  unfold a8
  walk_at "ln"
def ju:STr:=aT (jm (TUn (iY "tuple") (ah 0)) (aj rEq (au gn (ag (ah 0) (aw))) (ah 1)))
theorem oQ:∀ ds μ Q,a8 ds μ Q→ju { nx:=fun _ μ'=>RT Q .non μ',rt:=RT Q } (ini 2 ds) μ:=by
  intro ds μ Q h
  unfold a8 at h
  split at h
  case h_2=>exact h.elim
  rename_i d n
  walk_at "ini"
  unfold ju
  obtain ⟨t,xs,rfl,k⟩:=h
  cases t with
  | true=>
    unfold sqD
    walk_at "go"
    exact ⟨_,.refl _,k⟩
  | false=>
    unfold sqD
    walk_at "go"
    rw[show dU "list" "tuple" = false by decide]
    exact ⟨_,.refl _,k⟩
def bJ:FSp:=fun ds μ Q=>match ds with
  | [.tup [.int p,.int q]]=>(0 < q∧Int.gcd p q=1)∧Q (.bl true) μ
  | _=>False
theorem mj:∀ ds μ Q,bJ ds μ Q→ds.length=1:=by
  unfold bJ
  walk_at "ln"
def jn:STr:=aF (dM (TOr (iX (TB (au a8 (ag (ah 0) (ag (TC (.int 2)) (aw)))))) (TOr (iX (TB (au cu (ag (aj L3.rIx (ah 0) (TC (.int 0))) (aw))))) (iX (TB (au cu (ag (aj L3.rIx (ah 0) (TC (.int 1))) (aw))))))) (aT (TC (.bl false))) (bX)) (aT (jm (aj rGt (aj L3.rIx (ah 0) (TC (.int 1))) (TC (.int 0))) (aj rEq (au L3.bS (ag (aj L3.rIx (ah 0) (TC (.int 0))) (ag (aj L3.rIx (ah 0) (TC (.int 1))) (aw)))) (TC (.int 1)))))
theorem nk:∀ ds μ Q,bJ ds μ Q→jn { nx:=fun _ μ'=>RT Q .non μ',rt:=RT Q } (ini 1 ds) μ:=by
  intro ds μ Q h
  unfold bJ at h
  split at h
  case h_2=>exact h.elim
  rename_i p q
  walk_at "ini"
  unfold jn
  walk_at "go"
  obtain ⟨⟨q0,g⟩,k⟩:=h
  refine ⟨true,[.int p,.int q],rfl,?_⟩
  walk_at "go"
  rw[show decide ((([D.int p,D.int q]:List D).length:Int)=2)=true from rfl]
  walk_at "go"
  refine ⟨trivial,?_⟩
  walk_at "go"
  refine ⟨trivial,?_⟩
  walk_at "go"
  rw[decide_eq_true q0]
  walk_at "go"
  refine ⟨rfl,?_⟩
  show RT Q (.bl (eqD (.int (Int.gcd p q)) (.int 1))) μ
  rw[g]
  exact ⟨_,.refl _,k⟩
def iM:FSp:=fun ds μ Q=>match ds with
  | [d1,d2]=>∃ (r x:Rat) (k:Int),(d1=frR r∧d2=fr k 1∧BR r∧0 < k∧k≤8∧x*(k:Rat)=r)∧Q (frR x) μ
  | _=>False
theorem A8:∀ ds μ Q,iM ds μ Q→ds.length=2:=by
  unfold iM
  walk_at "ln"
def BF:STr:=aT (au L3.ei (ag (aj cg (aj L3.rIx (ah 0) (TC (.int 0))) (aj L3.rIx (ah 1) (TC (.int 1)))) (ag (aj cg (aj L3.rIx (ah 0) (TC (.int 1))) (aj L3.rIx (ah 1) (TC (.int 0)))) (aw))))
theorem E5:∀ ds μ Q,iM ds μ Q→BF { nx:=fun _ μ'=>RT Q .non μ',rt:=RT Q } (ini 2 ds) μ:=by
  intro ds μ Q h
  unfold iM at h
  split at h
  case h_2=>exact h.elim
  rename_i d1 d2
  walk_at "ini"
  unfold BF
  walk_at "go"
  obtain ⟨r,x,n,⟨rfl,rfl,B,k0,k1,e⟩,k⟩:=h
  walk_at "go"
  have d0:0 < (r.den:Int):=by have:=r.den_pos;omega
  have bk:Bd n:=Le.of (by omega) (by omega)
  refine ⟨.inl (.inr (by unfold S64;decide)),B.d.mul bk,⟨by have:=Int.mul_pos d0 k0;omega,B.d.mm bk⟩,fun p q hp=>?_⟩
  rw[show D.tup [.int p,.int q]=frR x from Ex (zW hp (Int.mul_pos d0 k0)) e]
  exact ⟨_,.refl _,k⟩
def aR:FSp:=fun ds μ Q=>match ds with
  | [d1,d2,d3]=>∃ r a b:Rat,((d1=frR r∧d2=frR a∧d3=frR b)∧BR r∧BR a∧BR b∧a≤r∧r≤b)∧Q (.bl true) μ
  | _=>False
theorem gc:∀ ds μ Q,aR ds μ Q→ds.length=3:=by
  unfold aR
  walk_at "ln"
def dQ:STr:=aT (jm (au bJ (ag (ah 0) (aw))) (jm (je (au L3.dG (ag (ah 0) (ag (ah 1) (aw))))) (je (au L3.dG (ag (ah 2) (ag (ah 0) (aw)))))))
theorem gS:∀ ds μ Q,aR ds μ Q→dQ { nx:=fun _ μ'=>RT Q .non μ',rt:=RT Q } (ini 3 ds) μ:=by
  intro ds μ Q h
  unfold aR at h
  split at h
  case h_2=>exact h.elim
  rename_i d1 d2 d3
  walk_at "ini"
  unfold dQ
  walk_at "go"
  obtain ⟨r,a,b,⟨⟨rfl,rfl,rfl⟩,B1,B2,B3,h1,h2⟩,k⟩:=h
  have d0:0 < (r.den:Int):=by have:=r.den_pos;omega
  refine ⟨⟨d0,r.reduced⟩,?_⟩
  walk_at "go"
  refine ⟨r.num,r.den,a.num,a.den,⟨⟨vlN _,vlN _⟩,B1.n,B1.d,B2.n,B2.d⟩,?_⟩
  rw[oY,decide_eq_false (Rat.not_lt.mpr h1)]
  walk_at "go"
  refine ⟨b.num,b.den,r.num,r.den,⟨⟨vlN _,vlN _⟩,B3.n,B3.d,B1.n,B1.d⟩,?_⟩
  rw[oY,decide_eq_false (Rat.not_lt.mpr h2)]
  exact ⟨_,.refl _,k⟩
def da:FSp:=fun ds μ Q=>match ds with
  | [d]=>∃ R:RN,(R.Ok∧d=R.toD)∧Q (.int (R.r / R.s)) μ
  | _=>False
theorem sG:∀ ds μ Q,da ds μ Q→ds.length=1:=by
  unfold da
  walk_at "ln"
def mP:STr:=aT (au L3.cV (ag (au L3.eA (ag (ah 0) (aw))) (aw)))
theorem vB:∀ ds μ Q,da ds μ Q→mP { nx:=fun _ μ'=>RT Q .non μ',rt:=RT Q } (ini 1 ds) μ:=by
  intro ds μ Q h
  unfold da at h
  split at h
  case h_2=>exact h.elim
  rename_i d
  walk_at "ini"
  unfold mP
  walk_at "go"
  obtain ⟨R,⟨K,rfl⟩,k⟩:=h
  refine ⟨R,⟨K,rfl⟩,?_⟩
  walk_at "go"
  refine ⟨R.r,R.s,⟨HU K.t,Le.of (by have:=K.t.q0;omega) (by have:=K.t.q1;omega)⟩,?_⟩
  exact ⟨_,.refl _,k⟩
def a9:FSp:=fun ds μ Q=>match ds with
  | [d]=>∃ s:SE,(d=s.toD∧s.Ok)∧∀ z,Vl z s.lim s.bt→Q z μ
  | _=>False
theorem l9:∀ ds μ Q,a9 ds μ Q→ds.length=1:=by
  unfold a9
  walk_at "ln"
def jd:STr:=aT (au L3.ei (ag (au da (ag (aj L3.rIx (ah 0) (TC (.int 5))) (aw))) (ag (aj L3.rIx (ah 0) (TC (.int 2))) (aw))))
theorem mL:∀ ds μ Q,a9 ds μ Q→jd { nx:=fun _ μ'=>RT Q .non μ',rt:=RT Q } (ini 1 ds) μ:=by
  intro ds μ Q h
  unfold a9 at h
  split at h
  case h_2=>exact h.elim
  rename_i d
  walk_at "ini"
  unfold jd
  walk_at "go"
  obtain ⟨s,⟨rfl,S⟩,k⟩:=h
  walk_at "go"
  refine ⟨s.R,⟨S.R,rfl⟩,?_⟩
  walk_at "go"
  have b0:=S.b0
  have b1:=S.b1
  refine ⟨⟨by omega,by unfold eR;omega⟩,fun p q hp=>?_⟩
  exact ⟨_,.refl _,k _ (zW hp (by omega))⟩
theorem jh {α:Type}(xs:List α)(P:α→Bool)(t:α→D):(xs.filterMap fun x=>if P x then some (t x) else none)=(xs.filter P).map t:=by
  rw[← List.filterMap_eq_map,List.filterMap_filter]
  rfl
theorem all_true {α:Type}(xs:List α)(P:α→Bool):(xs.map P).all id=xs.all P:=by
  rw[List.all_map];rfl
theorem Gf {α:Type}(xs:List α)(P:α→Bool):(!(xs.map fun x=>!P x).any id)=xs.all P:=by
  induction xs with
  | nil=>rfl
  | cons x r ih=>
    rw[List.map_cons,List.any_cons,List.all_cons,← ih]
    cases P x<;>rfl
def b7:FSp:=fun ds μ Q=>match ds with
  | [d,.str n]=>∃ (g:D) (ws:List WE) (ss:List SE),(d=a6 g ws ss∧PyData.strOk n=true∧PE' ws ss)∧Q (.ls ((onL n ss).map SE.toD)) μ
  | _=>False
theorem og:∀ ds μ Q,b7 ds μ Q→ds.length=2:=by
  unfold b7
  walk_at "ln"
def j1:STr:=aT (bO (cH (aj L3.rIx (ah 0) (TC (.int 2)))) (ax 0) (TB (aj (oz false) (ah 1) (aj L3.rIx (ah 0) (TC (.int 1))))) (ah 0) 1 [1])
theorem pI:∀ ds μ Q,b7 ds μ Q→j1 { nx:=fun _ μ'=>RT Q .non μ',rt:=RT Q } (ini 2 ds) μ:=by
  intro ds μ Q h
  unfold b7 at h
  split at h
  case h_2=>exact h.elim
  rename_i d n
  walk_at "ini"
  unfold j1
  walk_at "go"
  obtain ⟨g,ws,ss,⟨rfl,on,P⟩,k⟩:=h
  have sl:=P.sl
  walk_at "go"
  refine cM ss SE.toD (fun y=>if decide (n∈y.road) then some y.toD else none) rfl (by omega) (fun y hy μ' _ N m=>?_) ?_
  · walk_at "go"
    rw[gh]
    refine ⟨⟨fb (P.s y hy).r,on⟩,?_⟩
    refine kif (fun h=>?_) fun h=>?_
    · rw[decide_eq_true h] at m;exact m
    · rw[decide_eq_false h] at m;exact m
  rw[jh]
  exact ⟨_,.refl _,k⟩
def cL (f:Fm)(ext:SE→List D)(ss:List SE):List D:=ss.map fun s=>.tup (.str s.nm::frR (val f s)::ext s)
theorem Bv (h:SE→D):∀ ss:List SE,List.zipWith (fun d e=>D.tup [d,e]) (ss.map SE.toD) (ss.map h)=ss.map fun s=>.tup [s.toD,h s]
  | []=>rfl
  | s::r=>by rw[List.map_cons,List.map_cons,List.zipWith_cons_cons,Bv h r];rfl
theorem kE (f:Fm)(ext:SE→List D)(ss:List SE):List.zipWith (fun d e=>D.tup [d,e]) (ss.map SE.toD) (cL f ext ss)=ss.map fun s=>.tup [s.toD,.tup (.str s.nm::frR (val f s)::ext s)]:=Bv _ ss
theorem Ap (f:Fm)(ss:List SE):List.zipWith (fun d e=>D.tup [d,e]) (ss.map SE.toD) (A4 f ss)=ss.map fun s=>.tup [s.toD,.tup [.str s.nm,frR (val f s)]]:=Bv _ ss
def bT:FSp:=fun ds μ Q=>match ds with
  | [d,.tup rs,.str n]=>∃ (g:D) (ws:List WE) (ss:List SE) (f:Fm) (ext:SE→List D),(d=a6 g ws ss∧rs=cL f ext ss∧PyData.strOk n=true∧PE' ws ss)∧Q (.ls ((onL n ss).map fun s=>frR (val f s))) μ
  | _=>False
theorem pA:∀ ds μ Q,bT ds μ Q→ds.length=3:=by
  unfold bT
  walk_at "ln"
def lR:STr:=aT (bO (rh (ag (aj L3.rIx (ah 0) (TC (.int 2))) (ag (ah 1) (aw)))) (mh [0,1]) (TB (aj (oz false) (ah 2) (aj L3.rIx (ah 0) (TC (.int 1))))) (aj L3.rIx (ah 1) (TC (.int 1))) 2 [2])
theorem sm:∀ ds μ Q,bT ds μ Q→lR { nx:=fun _ μ'=>RT Q .non μ',rt:=RT Q } (ini 3 ds) μ:=by
  intro ds μ Q h
  unfold bT at h
  split at h
  case h_2=>exact h.elim
  rename_i d rs n
  walk_at "ini"
  unfold lR
  walk_at "go"
  obtain ⟨g,ws,ss,f,ext,⟨rfl,rfl,on,P⟩,k⟩:=h
  walk_at "go"
  rw[kE]
  have sl:=P.sl
  refine cM ss (fun s=>.tup [s.toD,.tup (.str s.nm::frR (val f s)::ext s)]) (fun s=>if decide (n∈s.road) then some (frR (val f s)) else none) rfl (by omega) (fun s hs μ' _ N m=>?_) ?_
  · have S:=P.s s hs
    walk_at "go"
    rw[gh]
    refine ⟨⟨fb S.r,on⟩,?_⟩
    refine kif (fun h=>?_) fun h=>?_
    · rw[decide_eq_true h] at m;exact m
    · rw[decide_eq_false h] at m;exact m
  · rw[jh]
    exact ⟨_,.refl _,k⟩
theorem gH (f:Fm)(s:SE)(r:List SE):cS f (s::r)=(if f s.nm=none then 1 else 0)+cS f r:=rfl
theorem ky (f:Fm)(s:SE)(r:List SE):sS f (s::r)=val f s+sS f r:=rfl
def dA:FSp:=fun ds μ Q=>match ds with
  | [d,.tup rs,.str n]=>∃ (g:D) (ws:List WE) (ss:List SE) (f:Fm) (ext:SE→List D),(d=a6 g ws ss∧rs=cL f ext ss∧PyData.strOk n=true∧FE ws ss f)∧Q (frR (sS f (onL n ss))) μ
  | _=>False
theorem wV:∀ ds μ Q,dA ds μ Q→ds.length=3:=by
  unfold dA
  walk_at "ln"
def vA:STr:=aF (aL (TC (.tup [.int 0,.int 1])) (ax 3)) (aF (fF (cH (au bT (ag (ah 0) (ag (ah 1) (ag (ah 2) (aw)))))) (ax 4) (aL (au L3.iO (ag (ah 3) (ag (ah 4) (aw)))) (ax 3))) (aT (ah 3)))
theorem An:∀ ds μ Q,dA ds μ Q→vA { nx:=fun _ μ'=>RT Q .non μ',rt:=RT Q } (ini 5 ds) μ:=by
  intro ds μ Q h
  unfold dA at h
  split at h
  case h_2=>exact h.elim
  rename_i d rs n
  walk_at "ini"
  unfold vA
  walk_at "go"
  obtain ⟨g,ws,ss,f,ext,⟨rfl,rfl,on,F⟩,k⟩:=h
  have P:=F.P
  walk_at "go"
  refine ⟨g,ws,ss,f,ext,⟨rfl,rfl,on,P⟩,?_⟩
  walk_at "go"
  have ol:(onL n ss).length≤ss.length:=List.length_filter_le _ _
  have sl:=P.sl
  have d8:=dY (c:=8) (Nat.le_refl _)
  refine ba (fun r ρ μ'=>∃ (xs:List SE) (t:Rat) (j:Nat) (v4:Option D),r=xs.map (fun s=>frR (val f s))∧(∀ s∈xs,s∈ss)∧ρ=[some (a6 g ws ss),some (.tup (cL f ext ss)),some (.str n),some (frR t),v4]∧μ'=μ∧SmR (dO 8) t j∧j+xs.length≤8∧t+sS f xs=sS f (onL n ss)) ?_ ?_ _ _ _ ⟨onL n ss,0,0,_,rfl,(fun s hs=>(List.mem_filter.mp hs).1),by rw[show (D.tup [.int 0,.int 1])=frR 0 from gG 0],rfl,SmR.zero,by omega,by rw[Rat.zero_add]⟩
  · rintro ρ μ' ⟨xs,t,j,v4,er,_,rfl,rfl,S,_,e⟩
    cases xs with
    | cons _ _=>cases er
    | nil=>
    have e:t+0=sS f (onL n ss):=e
    rw[Rat.add_zero] at e
    rw[← e] at k
    walk_at "go"
    exact ⟨_,.refl _,k⟩
  · rintro d r ρ μ' N ⟨xs,t,j,v4,er,hx,rfl,rfl,S,hj,e⟩ hN
    cases xs with
    | nil=>cases er
    | cons s xs=>
    cases er
    rw[List.length_cons] at hj
    rw[ky] at e
    have hs:=hx s List.mem_cons_self
    have B:=F.br hs
    have T:=S.br (bA 8) d8 (by omega)
    walk_at "go"
    refine ⟨t.num,t.den,(val f s).num,(val f s).den,⟨⟨vlN t,vlN _⟩,T.n,T.d,B.n,B.d⟩,fun z V=>?_⟩
    rw[xg V]
    exact hN _ _ ⟨xs,t+val f s,j+1,_,rfl,(fun y hy=>hx y (List.mem_cons_of_mem _ hy)),rfl,rfl,S.add (F.i s hs) (F.l s hs).1 (F.l s hs).2,by omega,by rw[← e,Rat.add_assoc]⟩
def cA:FSp:=fun ds μ Q=>match ds with
  | [d,.int m,r]=>∃ (s:SE) (x:Rat) (ext:List D),((d=s.toD∧s.Ok∧m=3)∧r=.tup (.str s.nm::frR x::ext)∧ext.length=1∧BR x∧0≤x∧x≤s.cI)∧Q (.bl true) μ
  | _=>False
theorem qJ:∀ ds μ Q,cA ds μ Q→ds.length=3:=by
  unfold cA
  walk_at "ln"
def lI:STr:=aF (dM (TOr (iX (TB (au a8 (ag (ah 2) (ag (ah 1) (aw)))))) (TOr (iX (TB (TUn (iY "str") (aj L3.rIx (ah 2) (TC (.int 0)))))) (TB (aj rNe (aj L3.rIx (ah 2) (TC (.int 0))) (aj L3.rIx (ah 0) (TC (.int 0))))))) (aT (TC (.bl false))) (bX)) (aT (au aR (ag (aj L3.rIx (ah 2) (TC (.int 1))) (ag (TC (.tup [.int 0,.int 1])) (ag (au a9 (ag (ah 0) (aw))) (aw))))))
theorem sx:∀ ds μ Q,cA ds μ Q→lI { nx:=fun _ μ'=>RT Q .non μ',rt:=RT Q } (ini 3 ds) μ:=by
  intro ds μ Q h
  unfold cA at h
  split at h
  case h_2=>exact h.elim
  rename_i d m r
  walk_at "ini"
  unfold lI
  walk_at "go"
  obtain ⟨s,x,ext,⟨⟨rfl,S,rfl⟩,rfl,el,B,h1,h2⟩,k⟩:=h
  match ext,el with
  | [y],_=>
  refine ⟨true,[.str s.nm,frR x,y],rfl,?_⟩
  walk_at "go"
  rw[show decide ((([D.str s.nm,frR x,y]:List D).length:Int)=3)=true from rfl]
  walk_at "go"
  rw[show dU "str" "str" = true by decide]
  walk_at "go"
  refine ⟨S.n,?_⟩
  refine ⟨s,⟨rfl,S⟩,fun z V=>?_⟩
  rw[mY S V]
  refine ⟨x,0,s.cI,⟨⟨rfl,gG 0,rfl⟩,B,Dm (i:=0) (by decide) (by decide),w6 S,h1,h2⟩,⟨_,.refl _,k⟩⟩
def bK:FSp:=fun ds μ Q=>match ds with
  | [d,.int m,e]=>∃ (g:D) (ws:List WE) (ss:List SE) (f:Fm) (ext:SE→List D) (t:Bool),(d=a6 g ws ss∧m=3∧e=sqD t (cL f ext ss)∧FE ws ss f∧∀ s∈ss,(ext s).length=1)∧Q (.bl t) μ
  | _=>False
theorem l7:∀ ds μ Q,bK ds μ Q→ds.length=3:=by
  unfold bK
  walk_at "ln"
def i9:STr:=aF (dM (iX (TB (au a8 (ag (ah 2) (ag (au gn (ag (aj L3.rIx (ah 0) (TC (.int 2))) (aw))) (aw)))))) (aT (TC (.bl false))) (bX)) (aT (au Fw (ag (bO (rh (ag (aj L3.rIx (ah 0) (TC (.int 2))) (ag (ah 2) (aw)))) (mh [0,1]) (ik) (au cA (ag (ah 0) (ag (ah 2) (ag (ah 1) (aw))))) 2 [1]) (aw))))
theorem oN:∀ ds μ Q,bK ds μ Q→i9 { nx:=fun _ μ'=>RT Q .non μ',rt:=RT Q } (ini 3 ds) μ:=by
  intro ds μ Q h
  unfold bK at h
  split at h
  case h_2=>exact h.elim
  rename_i d m e
  walk_at "ini"
  unfold i9
  walk_at "go"
  obtain ⟨g,ws,ss,f,ext,t,⟨rfl,rfl,rfl,F,he⟩,k⟩:=h
  have P:=F.P
  have sl:=P.sl
  have rl:(cL f ext ss).length=ss.length:=by unfold cL;rw[List.length_map]
  walk_at "go"
  refine ⟨t,cL f ext ss,rfl,?_⟩
  rw[rl,List.length_map,decide_eq_true rfl,Bool.and_true]
  walk_at "go"
  cases t with
  | false=>
    walk_at "go"
    exact ⟨_,.refl _,k⟩
  | true=>
    unfold sqD
    walk_at "go"
    rw[kE]
    refine bH ss (fun s=>.tup [s.toD,.tup (.str s.nm::frR (val f s)::ext s)]) (fun _=>.bl true) rfl (by omega) (fun s hs μ' _ N m=>?_) ?_
    · walk_at "go"
      exact ⟨s,val f s,ext s,⟨⟨rfl,P.s s hs,rfl⟩,rfl,he s hs,F.br hs,(F.l s hs).1,F.m s hs⟩,m⟩
    · refine ⟨ss.map fun _=>true,by rw[List.map_map];rfl,?_⟩
      rw[show (ss.map fun _=>true).all id=true from List.all_eq_true.mpr fun b hb=>by obtain ⟨_,_,rfl⟩:=List.mem_map.mp hb;rfl]
      exact ⟨_,.refl _,k⟩
theorem onS {n:Str}{ss:List SE}:∀ t∈onL n ss,t∈ss:=fun t ht=>(List.mem_filter.mp ht).1
theorem Jq {ws:List WE}{ss:List SE}{f:Fm}(F:FE ws ss f)(n:Str):BR (sS f (onL n ss)):=by
  have key:∀ (l:List SE) (t:Rat) (j:Nat),(∀ s∈l,s∈ss)→SmR (dO 8) t j→j+l.length≤8→BR (t+sS f l):=by
    intro l
    induction l with
    | nil=>
      intro t j _ S hj
      show BR (t+0)
      rw[Rat.add_zero]
      exact S.br (bA 8) (dY (Nat.le_refl _)) (by simpa using hj)
    | cons s r ih=>
      intro t j hl S hj
      have hs:=hl s List.mem_cons_self
      rw[ky,← Rat.add_assoc]
      exact ih _ (j+1) (fun y z=>hl y (List.mem_cons_of_mem _ z)) (S.add (F.i s hs) (F.l s hs).1 (F.l s hs).2) (by simp at hj;omega)
  have:=key (onL n ss) 0 0 onS SmR.zero (by have:(onL n ss).length≤ss.length:=List.length_filter_le _ _;have:=F.P.sl;omega)
  rwa [Rat.zero_add] at this
def cq:FSp:=fun ds μ Q=>match ds with
  | [d,.tup rs]=>∃ (g:D) (ws:List WE) (ss:List SE) (f:Fm) (ext:SE→List D),(d=a6 g ws ss∧rs=cL f ext ss∧FE ws ss f)∧Q (.bl true) μ
  | _=>False
theorem ue:∀ ds μ Q,cq ds μ Q→ds.length=2:=by
  unfold cq
  walk_at "ln"
def oZ:STr:=aT (je (au Gg (ag (bO (cH (aj L3.rIx (ah 0) (TC (.int 1)))) (ax 0) (ik) (au L3.dG (ag (cK (ag (aj L3.rIx (ah 0) (TC (.int 1))) (ag (TC (.int 1)) (aw)))) (ag (au dA (ag (ah 1) (ag (ah 2) (ag (aj L3.rIx (ah 0) (TC (.int 0))) (aw))))) (aw)))) 1 [0,1]) (aw))))
theorem wb:∀ ds μ Q,cq ds μ Q→oZ { nx:=fun _ μ'=>RT Q .non μ',rt:=RT Q } (ini 2 ds) μ:=by
  intro ds μ Q h
  unfold cq at h
  split at h
  case h_2=>exact h.elim
  rename_i d rs
  walk_at "ini"
  unfold oZ
  walk_at "go"
  obtain ⟨g,ws,ss,f,ext,⟨rfl,rfl,F⟩,k⟩:=h
  have P:=F.P
  have wl:=P.wl
  walk_at "go"
  refine bH ws WE.toD (fun w=>.bl false) rfl (by omega) (fun w hw μ' _ N m=>?_) ?_
  · have W:=P.w w hw
    have p0:=W.p0
    have p1:=W.p1
    walk_at "go"
    refine ⟨g,ws,ss,f,ext,⟨rfl,rfl,W.n,F⟩,?_⟩
    rw[show (D.tup [.int w.pc,.int 1])=frR (w.pc:Rat) from gG _]
    have B1:=Dm (i:=w.pc) (by omega) (by omega)
    have B2:=Jq F w.nm
    refine ⟨(w.pc:Rat).num,(w.pc:Rat).den,_,_,⟨⟨vlN _,vlN _⟩,B1.n,B1.d,B2.n,B2.d⟩,?_⟩
    rw[oY,decide_eq_false (Rat.not_lt.mpr (F.c w hw))]
    exact m
  · refine ⟨ws.map fun _=>false,by rw[List.map_map];rfl,?_⟩
    rw[show (ws.map fun _=>false).any id=false from List.any_eq_false.mpr fun b hb=>by obtain ⟨_,_,rfl⟩:=List.mem_map.mp hb;decide]
    exact ⟨_,.refl _,k⟩
theorem zI {ws:List WE}{w:WE}(nd:(ws.map WE.nm).Nodup)(hw:w∈ws):(ws.filter fun y=>decide (y.nm=w.nm)).map (fun w=>D.int w.pc)=[.int w.pc]:=by
  induction ws with
  | nil=>cases hw
  | cons y r ih=>
    rw[List.map_cons] at nd
    obtain ⟨h1,h2⟩:=List.nodup_cons.mp nd
    rw[List.filter_cons]
    rcases List.mem_cons.mp hw with rfl | z
    · rw[if_pos (decide_eq_true rfl),List.filter_eq_nil_iff.mpr fun x hx q=>h1 (List.mem_map.mpr ⟨x,hx,of_decide_eq_true q⟩)]
      rfl
    · rw[if_neg fun q=>h1 (by rw[of_decide_eq_true q];exact List.mem_map.mpr ⟨w,z,rfl⟩)]
      exact ih h2 z
def du:FSp:=fun ds μ Q=>match ds with
  | [d,.tup rs,.str n]=>∃ (g:D) (ws:List WE) (ss:List SE) (f:Fm) (ext:SE→List D) (w:WE),(d=a6 g ws ss∧rs=cL f ext ss∧FE ws ss f∧w∈ws∧n=w.nm)∧Q (.bl (decide (sS f (onL n ss)=(w.pc:Rat)))) μ
  | _=>False
theorem vb:∀ ds μ Q,du ds μ Q→ds.length=3:=by
  unfold du
  walk_at "ln"
def rz:STr:=aF (aL (aj L3.rIx (bO (cH (aj L3.rIx (ah 0) (TC (.int 1)))) (ax 0) (TB (aj rEq (aj L3.rIx (ah 0) (TC (.int 0))) (ah 1))) (aj L3.rIx (ah 0) (TC (.int 1))) 1 [2]) (TC (.int 0))) (ax 3)) (aT (aj rEq (au dA (ag (ah 0) (ag (ah 1) (ag (ah 2) (aw))))) (cK (ag (ah 3) (ag (TC (.int 1)) (aw))))))
theorem wQ:∀ ds μ Q,du ds μ Q→rz { nx:=fun _ μ'=>RT Q .non μ',rt:=RT Q } (ini 4 ds) μ:=by
  intro ds μ Q h
  unfold du at h
  split at h
  case h_2=>exact h.elim
  rename_i d rs n
  walk_at "ini"
  unfold rz
  walk_at "go"
  obtain ⟨g,ws,ss,f,ext,w,⟨rfl,rfl,F,hw,rfl⟩,k⟩:=h
  have P:=F.P
  have wl:=P.wl
  walk_at "go"
  refine cM ws WE.toD (fun y=>if decide (y.nm=w.nm) then some (D.int y.pc) else none) rfl (by omega) (fun y hy μ' _ N m=>?_) ?_
  · walk_at "go"
    refine ⟨⟨(P.w y hy).n,(P.w w hw).n⟩,?_⟩
    refine kif (fun h=>?_) fun h=>?_
    · rw[decide_eq_true h] at m;exact m
    · rw[decide_eq_false h] at m;exact m
  rw[jh,zI P.wn hw]
  walk_at "go"
  refine ⟨g,ws,ss,f,ext,⟨rfl,rfl,(P.w w hw).n,F⟩,?_⟩
  walk_at "go"
  refine ⟨rfl,?_⟩
  rw[show (D.tup [.int w.pc,.int 1])=frR (w.pc:Rat) from gG _,kK]
  exact ⟨_,.refl _,k⟩
theorem wY:PyData.strOk (Str.ofString "")=true:=by decide +kernel
def sN (ss:List SE)(f:Fm)(s:SE)(w:WE):Bool:=decide (sS f (onL w.nm ss)=(w.pc:Rat))&&(onL w.nm ss).all fun t=>decide (val f t≤val f s)
def fo (ws:List WE)(ss:List SE)(f:Fm)(s:SE)(y:Str):Bool:=if y=Str.ofString "" then decide (val f s=s.cI) else match ws.find? fun w=>decide (w.nm=y) with
  | some w=>sN ss f s w
  | none=>false
def dq:FSp:=fun ds μ Q=>match ds with
  | [d,.tup rs,sd,sh,.str y]=>∃ (g:D) (ws:List WE) (ss:List SE) (f:Fm) (ext:SE→List D) (s:SE),(d=a6 g ws ss∧rs=cL f ext ss∧FE ws ss f∧s∈ss∧sd=s.toD∧sh=frR (val f s)∧(y=Str.ofString "" ∨ y∈s.road))∧Q (.bl (fo ws ss f s y)) μ
  | _=>False
theorem wK:∀ ds μ Q,dq ds μ Q→ds.length=5:=by
  unfold dq
  walk_at "ln"
def u5:STr:=aF (dM (TB (aj rEq (ah 4) (TC (.str "")))) (aT (aj rEq (ah 3) (au a9 (ag (ah 2) (aw))))) (bX)) (aF (dM (TOr (TB (aj (oz true) (ah 4) (aj L3.rIx (ah 2) (TC (.int 1))))) (iX (TB (au du (ag (ah 0) (ag (ah 1) (ag (ah 4) (aw)))))))) (aT (TC (.bl false))) (bX)) (aT (je (au Gg (ag (bO (cH (au bT (ag (ah 0) (ag (ah 1) (ag (ah 4) (aw)))))) (ax 0) (ik) (au L3.dG (ag (ah 1) (ag (ah 0) (aw)))) 1 [3]) (aw))))))
theorem AM:∀ ds μ Q,dq ds μ Q→u5 { nx:=fun _ μ'=>RT Q .non μ',rt:=RT Q } (ini 5 ds) μ:=by
  intro ds μ Q h
  unfold dq at h
  split at h
  case h_2=>exact h.elim
  rename_i d rs sd sh y
  walk_at "ini"
  unfold u5
  walk_at "go"
  obtain ⟨g,ws,ss,f,ext,s,⟨rfl,rfl,F,hs,rfl,rfl,hy⟩,k⟩:=h
  have P:=F.P
  have S:=P.s s hs
  have sl:=P.sl
  have oy:PyData.strOk y=true:=by
    rcases hy with rfl | h
    · exact wY
    · exact S.r y h
  refine ⟨⟨oy,wY⟩,?_⟩
  unfold fo at k
  refine kif (fun h=>?_) fun h=>?_
  · rw[if_pos h] at k
    walk_at "go"
    refine ⟨s,⟨rfl,S⟩,fun z V=>?_⟩
    rw[mY S V]
    walk_at "go"
    refine ⟨⟨rfl,rfl⟩,?_⟩
    rw[kK]
    exact ⟨_,.refl _,k⟩
  · rw[if_neg h] at k
    have hr:=hy.resolve_left h
    obtain ⟨w,hw,rfl⟩:=P.all s hs y hr
    rw[eV WE.nm P.wn hw] at k
    have k:Q (.bl (sN ss f s w)) μ:=k
    unfold sN at k
    walk_at "go"
    rw[gh,decide_eq_true hr]
    refine ⟨⟨fb S.r,oy⟩,?_⟩
    walk_at "go"
    refine ⟨g,ws,ss,f,ext,w,⟨rfl,rfl,F,hw,rfl⟩,?_⟩
    walk_at "go"
    by_cases e:sS f (onL w.nm ss)=(w.pc:Rat)
    · rw[decide_eq_true e] at k ⊢
      walk_at "go"
      refine ⟨g,ws,ss,f,ext,⟨rfl,rfl,oy,P⟩,?_⟩
      walk_at "go"
      have ol:(onL w.nm ss).length≤ss.length:=List.length_filter_le _ _
      have on:∀ t∈onL w.nm ss,t∈ss:=fun t ht=>(List.mem_filter.mp ht).1
      refine bH (onL w.nm ss) (fun t=>frR (val f t)) (fun t=>.bl (!decide (val f t≤val f s))) rfl (by omega) (fun t ht μ' _ N m=>?_) ?_
      · walk_at "go"
        have B:=F.br (on t ht)
        have B':=F.br hs
        refine ⟨(val f s).num,(val f s).den,(val f t).num,(val f t).den,⟨⟨vlN _,vlN _⟩,B'.n,B'.d,B.n,B.d⟩,?_⟩
        rw[oY,show decide (val f s < val f t) = !decide (val f t≤val f s) by rw[← decide_not];exact decide_eq_decide.mpr Rat.not_le.symm]
        exact m
      · refine ⟨(onL w.nm ss).map fun t=>!decide (val f t≤val f s),by rw[List.map_map];rfl,?_⟩
        walk_at "go"
        rw[Gf]
        exact ⟨_,.refl _,k⟩
    · rw[decide_eq_false e] at k ⊢
      walk_at "go"
      exact ⟨_,.refl _,k⟩
def bu:FSp:=fun ds μ Q=>match ds with
  | [d,e]=>∃ (g:D) (ws:List WE) (ss:List SE) (f:Fm) (y:SE→Str) (t:Bool),(d=a6 g ws ss∧e=sqD t (cL f (fun s=>[.str (y s)]) ss)∧FE ws ss f∧∀ s∈ss,fo ws ss f s (y s)=true∧(y s=Str.ofString "" ∨ y s∈s.road))∧Q (.bl t) μ
  | _=>False
theorem nc:∀ ds μ Q,bu ds μ Q→ds.length=2:=by
  unfold bu
  walk_at "ln"
def kj:STr:=aF (dM (TOr (iX (TB (au bK (ag (ah 0) (ag (TC (.int 3)) (ag (ah 1) (aw))))))) (iX (TB (au cq (ag (ah 0) (ag (ah 1) (aw))))))) (aT (TC (.bl false))) (bX)) (aF (fF (rh (ag (aj L3.rIx (ah 0) (TC (.int 2))) (ag (ah 1) (aw)))) (mh [2,3]) (dM (TOr (iX (TB (TUn (iY "str") (aj L3.rIx (ah 3) (TC (.int 2)))))) (iX (TB (au dq (ag (ah 0) (ag (ah 1) (ag (ah 2) (ag (aj L3.rIx (ah 3) (TC (.int 1))) (ag (aj L3.rIx (ah 3) (TC (.int 2))) (aw)))))))))) (aT (TC (.bl false))) (bX))) (aT (TC (.bl true))))
theorem pZ:∀ ds μ Q,bu ds μ Q→kj { nx:=fun _ μ'=>RT Q .non μ',rt:=RT Q } (ini 4 ds) μ:=by
  intro ds μ Q h
  unfold bu at h
  split at h
  case h_2=>exact h.elim
  rename_i d e
  walk_at "ini"
  unfold kj
  walk_at "go"
  obtain ⟨g,ws,ss,f,y,t,⟨rfl,rfl,F,hy⟩,k⟩:=h
  refine ⟨g,ws,ss,f,_,t,⟨rfl,rfl,rfl,F,fun _ _=>rfl⟩,?_⟩
  walk_at "go"
  cases t with
  | false=>
    walk_at "go"
    exact ⟨_,.refl _,k⟩
  | true=>
    walk_at "go"
    refine (show cq [a6 g ws ss,.tup (cL f (fun s=>[.str (y s)]) ss)] μ _ from ?_)
    refine ⟨g,ws,ss,f,_,⟨rfl,rfl,F⟩,?_⟩
    walk_at "go"
    have es:sqD true (cL f (fun s=>[.str (y s)]) ss)=.tup (cL f (fun s=>[.str (y s)]) ss):=rfl
    rw[es]
    walk_at "go"
    rw[kE]
    refine ba (fun r ρ μ'=>∃ (rs:List SE) (v2 v3:Option D),r=rs.map (fun s=>.tup [s.toD,.tup (.str s.nm::frR (val f s)::[.str (y s)])])∧(∀ s∈rs,s∈ss)∧ρ=[some (a6 g ws ss),some (.tup (cL f (fun s=>[.str (y s)]) ss)),v2,v3]∧μ'=μ) ?_ ?_ _ _ _ ⟨ss,_,_,rfl,(fun _ h=>h),rfl,rfl⟩
    · rintro ρ μ' ⟨rs,v2,v3,er,_,rfl,rfl⟩
      walk_at "go"
      exact ⟨_,.refl _,k⟩
    · rintro d r ρ μ' N ⟨rs,v2,v3,er,hr,rfl,rfl⟩ hN
      cases rs with
      | nil=>cases er
      | cons s rs=>
      cases er
      have hs:=hr s List.mem_cons_self
      walk_at "go"
      rw[show dU "str" "str" = true by decide]
      walk_at "go"
      refine ⟨g,ws,ss,f,_,s,⟨rfl,rfl,F,hs,rfl,rfl,(hy s hs).2⟩,?_⟩
      rw[(hy s hs).1]
      walk_at "go"
      exact hN _ _ ⟨rs,_,_,rfl,(fun z h=>hr z (List.mem_cons_of_mem _ h)),rfl,rfl⟩
def cm:FSp:=fun ds μ Q=>match ds with
  | [.ls ds]=>∃ xs:List Rat,(ds=xs.map frR∧xs≠[]∧∀ x∈xs,BR x)∧Q (frR (sy xs)) μ
  | _=>False
theorem tf:∀ ds μ Q,cm ds μ Q→ds.length=1:=by
  unfold cm
  walk_at "ln"
def nT:STr:=aF (aL (aj L3.rIx (ah 0) (TC (.int 0))) (ax 1)) (aF (fF (cH (ah 0)) (ax 2) (dM (TB (au L3.dG (ag (ah 2) (ag (ah 1) (aw))))) (aL (ah 2) (ax 1)) (bX))) (aT (ah 1)))
theorem vo:∀ ds μ Q,cm ds μ Q→nT { nx:=fun _ μ'=>RT Q .non μ',rt:=RT Q } (ini 3 ds) μ:=by
  intro ds μ Q h
  unfold cm at h
  split at h
  case h_2=>exact h.elim
  rename_i ds
  walk_at "ini"
  unfold nT
  walk_at "go"
  obtain ⟨xs,⟨rfl,ne,hB⟩,k⟩:=h
  cases xs with
  | nil=>exact absurd rfl ne
  | cons x r=>
  walk_at "go"
  refine ba (fun q ρ μ'=>∃ (ys:List Rat) (m:Rat) (v2:Option D),q=ys.map frR∧(∀ y∈ys,BR y)∧BR m∧ρ=[some (.ls ((x::r).map frR)),some (frR m),v2]∧μ'=μ∧ys.foldl mnR m=sy (x::r)) ?_ ?_ _ _ _ ⟨x::r,x,_,rfl,hB,hB x List.mem_cons_self,rfl,rfl,rfl⟩
  · rintro ρ μ' ⟨ys,m,v2,er,_,_,rfl,rfl,e⟩
    cases ys with
    | cons _ _=>cases er
    | nil=>
    have e:m=sy (x::r):=e
    rw[← e] at k
    walk_at "go"
    exact ⟨_,.refl _,k⟩
  · rintro d q ρ μ' N ⟨ys,m,v2,er,hy,bm,rfl,rfl,e⟩ hN
    cases ys with
    | nil=>cases er
    | cons y ys=>
    cases er
    have by':=hy y List.mem_cons_self
    have hy':=fun z hz=>hy z (List.mem_cons_of_mem y hz)
    rw[List.foldl_cons] at e
    walk_at "go"
    refine ⟨y.num,y.den,m.num,m.den,⟨⟨vlN _,vlN _⟩,by'.n,by'.d,bm.n,bm.d⟩,?_⟩
    rw[oY]
    walk_at "go"
    unfold mnR at e
    refine kif (fun h=>?_) fun h=>?_
    · rw[if_pos h] at e
      walk_at "go"
      exact hN _ _ ⟨ys,y,_,rfl,hy',by',rfl,rfl,e⟩
    · rw[if_neg h] at e
      exact hN _ _ ⟨ys,m,_,rfl,hy',bm,rfl,rfl,e⟩
def tP (ss:List SE)(f:Fm)(w:WE):D:=if cS f (onL w.nm ss)=0 then .non else frR (eS ss f w)
def cX:FSp:=fun ds μ Q=>match ds with
  | [d,wd,.obj q]=>∃ (g:D) (ws:List WE) (ss:List SE) (f:Fm) (w:WE) (tab:List (L2.Key×D)) (c:Nat),(d=a6 g ws ss∧wd=w.toD∧w∈ws∧FS ws ss f c∧μ q=some (.dct tab)∧jv tab f ss)∧Q (tP ss f w) μ
  | _=>False
theorem rV:∀ ds μ Q,cX ds μ Q→ds.length=3:=by
  unfold cX
  walk_at "ln"
def oA:STr:=aF (aL (cK (ag (aj L3.rIx (ah 1) (TC (.int 1))) (ag (TC (.int 1)) (aw)))) (ax 3)) (aF (aL (TC (.int 0)) (ax 4)) (aF (fF (cH (au b7 (ag (ah 0) (ag (aj L3.rIx (ah 1) (TC (.int 0))) (aw))))) (ax 5) (dM (TB (r9 false (aj L3.rIx (ah 5) (TC (.int 0))) (ah 2))) (aL (au L3.fY (ag (ah 3) (ag (iF (ah 2) (aj L3.rIx (ah 5) (TC (.int 0)))) (aw)))) (ax 3)) (EO (fun m n=>m+n) 4 (TC (.int 1))))) (aT (vk (TB (aj rEq (ah 4) (TC (.int 0)))) (TC .non) (au iM (ag (ah 3) (ag (cK (ag (ah 4) (ag (TC (.int 1)) (aw)))) (aw))))))))
theorem vV:∀ ds μ Q,cX ds μ Q→oA { nx:=fun _ μ'=>RT Q .non μ',rt:=RT Q } (ini 6 ds) μ:=by
  intro ds μ Q h
  unfold cX at h
  split at h
  case h_2=>exact h.elim
  rename_i d wd q
  walk_at "ini"
  unfold oA
  walk_at "go"
  obtain ⟨g,ws,ss,f,w,tab,c,⟨rfl,rfl,hw,F,eq,T⟩,k⟩:=h
  have P:=F.P
  have W:=P.w w hw
  have sl:=P.sl
  have p0:=W.p0
  have p1:=W.p1
  have cl:c≤8:=by have:=F.n;omega
  have d8:=dY cl
  walk_at "go"
  refine ⟨g,ws,ss,⟨rfl,W.n,P⟩,?_⟩
  walk_at "go"
  have ol:(onL w.nm ss).length≤ss.length:=List.length_filter_le _ _
  rw[show (D.tup [.int w.pc,.int 1])=frR (w.pc:Rat) from gG _]
  refine ba (fun r ρ μ'=>∃ (xs:List SE) (t:Rat) (j n:Nat) (v5:Option D),r=xs.map SE.toD∧(∀ s∈xs,s∈ss)∧ρ=[some (a6 g ws ss),some w.toD,some (.obj q),some (frR t),some (.int n),v5]∧μ'=μ∧SmR (dO c) t j∧j+xs.length≤8∧t - sS f xs=(w.pc:Rat) - sS f (onL w.nm ss)∧n+cS f xs=cS f (onL w.nm ss)) ?_ ?_ _ _ _ ⟨onL w.nm ss,(w.pc:Rat),0,0,_,rfl,(fun s hs=>(List.mem_filter.mp hs).1),rfl,rfl,SmR.MH (by omega) p1,by omega,rfl,by omega⟩
  · rintro ρ μ' ⟨xs,t,j,n,v5,er,_,rfl,rfl,S,hj,e1,e2⟩
    cases xs with
    | cons _ _=>cases er
    | nil=>
    have e1:t - 0=(w.pc:Rat) - sS f (onL w.nm ss):=e1
    have e2:n+0=cS f (onL w.nm ss):=e2
    have cle:=qP (f:=f) (onL w.nm ss)
    unfold tP at k
    walk_at "go"
    refine kif (fun h=>?_) fun h=>?_
    · rw[if_pos (by omega)] at k
      walk_at "go"
      exact ⟨_,.refl _,k⟩
    · rw[if_neg (by omega)] at k
      walk_at "go"
      have lm:=gD (ss:=ss) (f:=f) (w:=w) (by omega)
      refine ⟨t,eS ss f w,n,⟨rfl,rfl,S.br (bA c) d8 (by omega),by omega,by omega,?_⟩,⟨_,.refl _,k⟩⟩
      have en:((n:Int):Rat)=(cS f (onL w.nm ss):Rat):=by rw[← e2,Nat.add_zero];rfl
      rw[en,lm,← e1]
      grind
  · rintro d r ρ μ' N ⟨xs,t,j,n,v5,er,hx,rfl,rfl,S,hj,e1,e2⟩ hN
    cases xs with
    | nil=>cases er
    | cons s xs=>
    cases er
    rw[List.length_cons] at hj
    rw[ky] at e1
    have hs:=hx s List.mem_cons_self
    have hx':=fun y hy=>hx y (List.mem_cons_of_mem s hy)
    have Ts:=T s hs
    walk_at "go"
    refine di eq ?_
    rw[Ts]
    cases ef:f s.nm with
    | some v=>
      have e2:n+(0+cS f xs)=cS f (onL w.nm ss):=by rw[← e2,gH,ef,if_neg (by simp)]
      have ev:val f s=v:=by unfold val;rw[ef];rfl
      have bi:=F.b.i s hs v ef
      have bl:=F.b.l s hs v ef
      have Tb:=S.br (bA c) d8 (by omega)
      have Vb:BR v:=BR.of bi (bA c) d8 (Rat.le_trans (by decide) bl.1) (Rat.le_trans bl.2 (by decide))
      walk_at "go"
      refine (show kIf true _ _ from ?_)
      walk_at "go"
      refine di eq ?_
      rw[Ts,ef]
      refine (show kO (some (frR v)) _ from ?_)
      walk_at "go"
      refine ⟨t.num,t.den,v.num,v.den,⟨⟨vlN _,vlN _⟩,Tb.n,Tb.d,Vb.n,Vb.d⟩,fun z V=>?_⟩
      rw[Iu V]
      rw[ev] at e1
      exact hN _ _ ⟨xs,t - v,j+1,n,_,rfl,hx',rfl,rfl,S.sub bi bl.1 bl.2,by omega,by grind,by omega⟩
    | none=>
      have e2:n+(1+cS f xs)=cS f (onL w.nm ss):=by rw[← e2,gH,ef,if_pos rfl]
      have ev:val f s=0:=by unfold val;rw[ef];rfl
      rw[ev] at e1
      refine (show kIf false _ _ from ?_)
      walk_at "go"
      exact hN _ _ ⟨xs,t,j+1,n+1,some s.toD,rfl,hx',rfl,rfl,S.skip,by omega,by grind,by omega⟩
def cv:FSp:=fun ds μ Q=>match ds with
  | [sd,.obj q]=>∃ (s:SE) (lev:Str→Rat) (tab:List (L2.Key×D)),(sd=s.toD∧s.Ok∧μ q=some (.dct tab)∧s.road.length≤100∧∀ n∈s.road,a5 tab (.inr n)=some (frR (lev n))∧BR (lev n))∧Q (frR (sy (s.cI::s.road.map lev))) μ
  | _=>False
theorem rO:∀ ds μ Q,cv ds μ Q→ds.length=2:=by
  unfold cv
  walk_at "ln"
def o4:STr:=aT (au cm (ag (aj aM (gv (ag (au a9 (ag (ah 0) (aw))) (aw))) (bO (cH (aj L3.rIx (ah 0) (TC (.int 1)))) (ax 0) (ik) (iF (ah 1) (ah 0)) 1 [1])) (aw)))
theorem vZ:∀ ds μ Q,cv ds μ Q→o4 { nx:=fun _ μ'=>RT Q .non μ',rt:=RT Q } (ini 2 ds) μ:=by
  intro ds μ Q h
  unfold cv at h
  split at h
  case h_2=>exact h.elim
  rename_i sd q
  walk_at "ini"
  unfold o4
  walk_at "go"
  obtain ⟨s,lev,tab,⟨rfl,S,eq,rl,hl⟩,k⟩:=h
  walk_at "go"
  refine ⟨s,⟨rfl,S⟩,fun z V=>?_⟩
  rw[mY S V]
  walk_at "go"
  refine bH s.road .str (fun n=>frR (lev n)) rfl (by omega) (fun n hn μ' s' N m=>?_) ?_
  · walk_at "go"
    refine di (s' q _ eq) ?_
    rw[(hl n hn).1]
    exact m
  walk_at "go"
  refine ⟨by simp;omega,?_⟩
  refine ⟨s.cI::s.road.map lev,⟨by rw[List.map_cons,List.map_map];rfl,by simp,fun x hx=>?_⟩,⟨_,.refl _,k⟩⟩
  rcases List.mem_cons.mp hx with rfl | z
  · exact w6 S
  · obtain ⟨n,hn,rfl⟩:=List.mem_map.mp z
    exact (hl n hn).2
theorem uj:∀ (more acc:List (L2.Key×D)) (k:L2.Key),(∀ p∈more,p.1≠k)→a5 (fj acc more) k=a5 acc k
  | [],_,_,_=>rfl
  | p::r,acc,k,h=>by
    show a5 (fj (putD acc p.1 p.2) r) k=_
    rw[uj r _ k fun q z=>h q (List.mem_cons_of_mem _ z),iU,if_neg fun e=>h p List.mem_cons_self e.symm]
theorem LZ {α:Type}(nm:α→Str)(v:α→D):∀ (xs:List α) (acc:List (L2.Key×D)),(xs.map nm).Nodup→∀ x∈xs,a5 (fj acc (xs.map fun x=>(.inr (nm x),v x))) (.inr (nm x))=some (v x)
  | y::r,acc,nd,x,hx=>by
    rw[List.map_cons] at nd
    obtain ⟨m1,m2⟩:=List.nodup_cons.mp nd
    show a5 (fj (putD acc (.inr (nm y)) (v y)) (r.map fun x=>(.inr (nm x),v x))) _=_
    rcases List.mem_cons.mp hx with rfl | z
    · rw[uj,iU,if_pos rfl]
      intro p hp e
      obtain ⟨q,hq,rfl⟩:=List.mem_map.mp hp
      have e:nm q=nm x:=by injection e
      exact m1 (by rw[← e];exact List.mem_map.mpr ⟨q,hq,rfl⟩)
    · exact LZ nm v r _ m2 x z
theorem zC {kvs:List (L2.Key×D)}{k:L2.Key}{d:D}(h:a5 kvs k=none):(putD kvs k d).length=kvs.length+1:=by
  unfold putD
  rw[if_neg]
  · rw[List.length_append];rfl
  · intro z
    obtain ⟨kv,h1,h2⟩:=List.any_eq_true.mp z
    unfold a5 at h
    rw[Option.map_eq_none_iff,List.find?_eq_none] at h
    exact h kv h1 h2
theorem CB {f f':Fm}:∀ {l:List SE},(∀ s∈l,f' s.nm=f s.nm)→cS f' l=cS f l
  | [],_=>rfl
  | x::r,h=>by
    rw[gH,gH,h x List.mem_cons_self,CB fun y z=>h y (List.mem_cons_of_mem _ z)]
def yE (f:Fm)(n:Str)(t:Rat):Fm:=fun m=>if m=n then some t else f m
theorem xK {f:Fm}{t:Rat}{s:SE}:∀ {ss:List SE},(ss.map SE.nm).Nodup→s∈ss→f s.nm=none→cS (yE f s.nm t) ss+1=cS f ss
  | x::r,nd,hs,e=>by
    rw[List.map_cons] at nd
    obtain ⟨m1,m2⟩:=List.nodup_cons.mp nd
    rw[gH,gH]
    by_cases q:x.nm=s.nm
    · have h1:yE f s.nm t x.nm=some t:=if_pos q
      have h2:cS (yE f s.nm t) r=cS f r:=CB fun y hy=>if_neg fun z=>m1 (by rw[q,← z];exact List.mem_map.mpr ⟨y,hy,rfl⟩)
      rw[h1,h2,q,e,if_neg (by simp),if_pos rfl]
      omega
    · have h1:yE f s.nm t x.nm=f x.nm:=if_neg q
      have hr:s∈r:=(List.mem_cons.mp hs).resolve_left fun z=>q (by rw[z])
      have:=xK (t:=t) m2 hr e
      rw[h1]
      omega
def Kq (q:Addr)(μ μ':Mu):Prop:=∀ a o,a≠q→μ a=some o→μ' a=some o
theorem Kq.put {q:Addr}{μ μ':Mu}{o:MO}(h:Kq q μ μ'):Kq q μ (up μ' q o):=fun a u n e=>by rw[aU n];exact h a u n e
def eC:FSp:=fun ds μ Q=>match ds with
  | [d,.obj q]=>∃ (g:D) (ws:List WE) (ss:List SE) (f:Fm) (tab:List (L2.Key×D)) (c:Nat),(d=a6 g ws ss∧FS ws ss f c∧0 < cS f ss∧μ q=some (.dct tab)∧jv tab f ss∧tab.length=c)∧∀ (tab':List (L2.Key×D)) (c':Nat) μ',FS ws ss (gK ws ss f) c'→c < c'→μ' q=some (.dct tab')→jv tab' (gK ws ss f) ss→tab'.length=c'→Kq q μ μ'→Q .non μ'
  | _=>False
theorem wW:∀ ds μ Q,eC ds μ Q→ds.length=2:=by
  unfold eC
  walk_at "ln"
def uz:STr:=aF (aL (au yS (ag (bO (cH (aj L3.rIx (ah 0) (TC (.int 1)))) (ax 0) (ik) (cK (ag (aj L3.rIx (ah 0) (TC (.int 0))) (ag (au cX (ag (ah 1) (ag (ah 0) (ag (ah 2) (aw))))) (aw)))) 1 [0,1]) (aw))) (ax 2)) (aF (aL (bO (cH (aj L3.rIx (ah 0) (TC (.int 2)))) (ax 0) (TB (r9 true (aj L3.rIx (ah 0) (TC (.int 0))) (ah 1))) (ah 0) 1 [1]) (ax 3)) (aF (aL (au cm (ag (bO (cH (ah 3)) (ax 0) (ik) (au cv (ag (ah 0) (ag (ah 1) (aw)))) 1 [2]) (aw))) (ax 4)) (fF (cH (ah 3)) (ax 5) (dM (TB (aj rEq (au cv (ag (ah 5) (ag (ah 2) (aw)))) (ah 4))) (zE (ah 1) (aj L3.rIx (ah 5) (TC (.int 0))) (ah 4)) (bX)))))
theorem z7:∀ ds μ Q,eC ds μ Q→uz { nx:=fun _ μ'=>RT Q .non μ',rt:=RT Q } (ini 6 ds) μ:=by
  intro ds μ Q h
  unfold eC at h
  split at h
  case h_2=>exact h.elim
  rename_i d q
  walk_at "ini"
  unfold uz
  walk_at "go"
  obtain ⟨g,ws,ss,f,tab,c,⟨rfl,F,c0,eq,T,tl⟩,k⟩:=h
  have P:=F.P
  have sl:=P.sl
  have wl:=P.wl
  have cl:c+1≤8:=by have:=F.n;omega
  have d8:=dY cl
  walk_at "go"
  refine bH ws WE.toD (fun w=>.tup [.str w.nm,tP ss f w]) rfl (by omega) (fun w hw μ' s' N m=>?_) ?_
  · walk_at "go"
    exact ⟨g,ws,ss,f,w,tab,c,⟨rfl,rfl,hw,F,s' q _ eq,T⟩,m⟩
  walk_at "go"
  refine ⟨ws.map fun w=>(.inr w.nm,tP ss f w),by rw[List.map_map];rfl,by simp;omega,fun p hp=>?_⟩
  have pq:p≠q:=fun z=>by subst z;rw[eq] at hp;cases hp
  have lk:∀ w∈ws,a5 (fj [] (ws.map fun w=>((.inr w.nm,tP ss f w):L2.Key×D))) (.inr w.nm)=some (tP ss f w):=LZ WE.nm (tP ss f) ws [] P.wn
  generalize fj [] (ws.map fun w=>((.inr w.nm,tP ss f w):L2.Key×D))=lv at lk
  have e1:up μ p (.dct lv) q=some (.dct tab):=by rw[aU (Ne.symm pq)];exact eq
  have bd:∀ s∈bW ss f,∀ n∈s.road,a5 lv (.inr n)=some (frR (eQ ws ss f n))∧BR (eQ ws ss f n):=fun s hs n hn=>by
    obtain ⟨h1,h2⟩:=cE.mp hs
    obtain ⟨w,hw,rfl,e,k0,i,l0,l1⟩:=F.bnd h1 h2 n hn
    refine ⟨?_,BR.of i (bA _) d8 (Rat.le_trans (by decide) l0) (Rat.le_trans l1 (by decide))⟩
    rw[lk w hw,e]
    unfold tP
    rw[if_neg (by omega)]
  have rl:∀ s∈bW ss f,s.road.length≤100:=fun s hs=>by
    have:=(P.rd s (cE.mp hs).1).length_le
    rw[List.length_map] at this
    omega
  generalize hμ:up μ p (.dct lv)=μ1 at e1
  have e1p:μ1 p=some (.dct lv):=by rw[← hμ];exact aD
  have k1:Kq q μ μ1:=fun a o _ h=>by rw[← hμ,aU (fun z=>by subst z;rw[hp] at h;cases h)];exact h
  refine cM ss SE.toD (fun s=>if decide (f s.nm=none) then some s.toD else none) rfl (by omega) (fun s hs μ' s' N m=>?_) ?_
  · walk_at "go"
    refine di (s' q _ e1) ?_
    rw[T s hs]
    walk_at "go"
    cases e:f s.nm with
    | none=>rw[e] at m;exact m
    | some v=>rw[e] at m;exact m
  rw[jh]
  have er:(ss.filter fun s=>decide (f s.nm=none))=bW ss f:=rfl
  rw[er]
  have MY:(bW ss f).length≤ss.length:=List.length_filter_le _ _
  walk_at "go"
  refine bH (bW ss f) SE.toD (fun s=>frR (bz ws ss f s)) rfl (by omega) (fun s hs μ' s' N m=>?_) ?_
  · walk_at "go"
    exact ⟨s,eQ ws ss f,lv,⟨rfl,P.s s (cE.mp hs).1,s' p _ e1p,rl s hs,bd s hs⟩,m⟩
  have rne:bW ss f≠[]:=fun z=>by
    have:cS f ss=0:=df fun s hs e=>by
      have:=cE.mpr ⟨hs,e⟩
      rw[z] at this;cases this
    omega
  refine ⟨(bW ss f).map (bz ws ss f),⟨by rw[List.map_map];rfl,by simpa using rne,fun x hx=>?_⟩,?_⟩
  · obtain ⟨s,hs,rfl⟩:=List.mem_map.mp hx
    obtain ⟨i,l0,l1⟩:=F.K9 (cE.mp hs).1 (cE.mp hs).2
    exact BR.of i (bA _) d8 (Rat.le_trans (by decide) l0) (Rat.le_trans l1 (by decide))
  have et:sy ((bW ss f).map (bz ws ss f))=tF ws ss f:=rfl
  rw[et]
  have rnd:(bW ss f).Nodup:=by
    have:ss.Nodup:=(List.Pairwise.of_map SE.nm (fun a b h e=>h (by rw[e])) P.nd)
    exact this.sublist List.filter_sublist
  walk_at "go"
  refine ba (fun r ρ μ'=>∃ (dn rs:List SE) (fc:Fm) (tc:List (L2.Key×D)) (v5:Option D),r=rs.map SE.toD∧dn++rs=bW ss f∧ρ=[some (a6 g ws ss),some (.obj q),some (.obj p),some (.ls ((bW ss f).map SE.toD)),some (frR (tF ws ss f)),v5]∧μ' q=some (.dct tc)∧μ' p=some (.dct lv)∧Kq q μ μ'∧jv tc fc ss∧tc.length+cS fc ss=ss.length∧∀ s∈ss,(s∈dn∧bz ws ss f s=tF ws ss f→fc s.nm=some (tF ws ss f))∧(¬ (s∈dn∧bz ws ss f s=tF ws ss f)→fc s.nm=f s.nm)) ?_ ?_ _ _ _ ⟨[],bW ss f,f,tab,_,rfl,rfl,rfl,e1,e1p,k1,T,by rw[tl];exact F.n,fun s hs=>⟨(fun h=>nomatch h.1),fun _=>rfl⟩⟩
  · rintro ρ μ2 ⟨dn,rs,fc,tc,v5,er,es,rfl,eq2,_,kq,Tc,n2,hfc⟩
    cases rs with
    | cons _ _=>cases er
    | nil=>
    rw[List.append_nil] at es
    have same:∀ s∈ss,gK ws ss f s.nm=fc s.nm:=fun s hs=>by
      rw[step_at P f hs]
      by_cases z:f s.nm=none∧bz ws ss f s=tF ws ss f
      · rw[if_pos z,(hfc s hs).1 ⟨by rw[es];exact cE.mpr ⟨hs,z.1⟩,z.2⟩]
      · rw[if_neg z,(hfc s hs).2 fun y=>z ⟨(cE.mp (es ▸ y.1)).2,y.2⟩]
    obtain ⟨c',F',lt⟩:=F.next c0
    refine ⟨_,.refl _,k tc c' μ2 F' lt eq2 (fun s hs=>by rw[same s hs];exact Tc s hs) ?_ kq⟩
    have:=F'.n
    rw[CB same] at this
    omega
  · rintro d r ρ μ2 N ⟨dn,rs,fc,tc,v5,er,es,rfl,eq2,ep2,kq,Tc,n2,hfc⟩ hN
    cases rs with
    | nil=>cases er
    | cons s rs=>
    cases er
    have hs:s∈bW ss f:=by rw[← es];simp
    obtain ⟨hs1,hs2⟩:=cE.mp hs
    have snd:s ∉ dn:=fun z=>by
      rw[← es] at rnd
      exact (List.nodup_append.mp rnd).2.2 s z s List.mem_cons_self rfl
    have fcs:fc s.nm=none:=by rw[(hfc s hs1).2 fun z=>snd z.1];exact hs2
    walk_at "go"
    refine ⟨s,eQ ws ss f,lv,⟨rfl,P.s s hs1,ep2,rl s hs,bd s hs⟩,?_⟩
    have eb:sy (s.cI::s.road.map (eQ ws ss f))=bz ws ss f s:=rfl
    rw[eb]
    walk_at "go"
    refine ⟨⟨rfl,rfl⟩,?_⟩
    rw[kK]
    refine kif (fun h=>?_) fun h=>?_
    · walk_at "go"
      have lz:a5 tc (.inr s.nm)=none:=by rw[Tc s hs1,fcs];rfl
      have cs:=xK (t:=tF ws ss f) P.nd hs1 fcs
      have pl:=zC (d:=frR (tF ws ss f)) lz
      refine di eq2 ⟨by omega,hN _ _ ⟨dn++[s],rs,yE fc s.nm (tF ws ss f),putD tc (.inr s.nm) (frR (tF ws ss f)),_,rfl,by rw[← es];simp,rfl,aD,by rw[aU pq];exact ep2,kq.put,fun y hy=>?_,by omega,fun y hy=>?_⟩⟩
      · rw[iU]
        unfold yE
        by_cases z:y.nm=s.nm
        · rw[if_pos (by rw[z]),if_pos z];rfl
        · rw[if_neg (fun x=>z (by injection x)),if_neg z];exact Tc y hy
      · by_cases z:y.nm=s.nm
        · have:y=s:=wI P.nd hy hs1 z
          subst this
          exact ⟨fun _=>if_pos rfl,fun x=>absurd ⟨List.mem_append_right _ List.mem_cons_self,h⟩ x⟩
        · have e:yE fc s.nm (tF ws ss f) y.nm=fc y.nm:=if_neg z
          have iff:y∈dn++[s]↔y∈dn:=⟨fun x=>(List.mem_append.mp x).resolve_right fun x=>z (by rw[List.mem_singleton.mp x]),fun x=>List.mem_append_left _ x⟩
          rw[e,iff]
          exact hfc y hy
    · walk_at "go"
      refine hN _ _ ⟨dn++[s],rs,fc,tc,_,rfl,by rw[← es];simp,rfl,eq2,ep2,kq,Tc,n2,fun y hy=>?_⟩
      by_cases z:y=s
      · subst z
        exact ⟨fun x=>absurd x.2 h,fun _=>(hfc y hy).2 fun x=>snd x.1⟩
      · have iff:y∈dn++[s]↔y∈dn:=⟨fun x=>(List.mem_append.mp x).resolve_right fun x=>z (List.mem_singleton.mp x),fun x=>List.mem_append_left _ x⟩
        rw[iff]
        exact hfc y hy
def bL:FSp:=fun ds μ Q=>match ds with
  | [d]=>∃ (g:D) (ws:List WE) (ss:List SE),(d=a6 g ws ss∧PE' ws ss)∧Q (.tup (A4 (evF ws ss) ss)) μ
  | _=>False
theorem mv:∀ ds μ Q,bL ds μ Q→ds.length=1:=by
  unfold bL
  walk_at "ln"
def ji:STr:=aF (aL (zM) (ax 1)) (aF (nQ (TB (aj rLt (au uC (ag (ah 1) (aw))) (au gn (ag (aj L3.rIx (ah 0) (TC (.int 2))) (aw))))) (fP (au eC (ag (ah 0) (ag (ah 1) (aw)))))) (aT (au cP (ag (bO (cH (aj L3.rIx (ah 0) (TC (.int 2)))) (ax 0) (ik) (cK (ag (aj L3.rIx (ah 0) (TC (.int 0))) (ag (iF (ah 1) (aj L3.rIx (ah 0) (TC (.int 0)))) (aw)))) 1 [1]) (aw)))))
theorem nS:∀ ds μ Q,bL ds μ Q→ji { nx:=fun _ μ'=>RT Q .non μ',rt:=RT Q } (ini 2 ds) μ:=by
  intro ds μ Q h
  unfold bL at h
  split at h
  case h_2=>exact h.elim
  rename_i d
  walk_at "ini"
  unfold ji
  walk_at "go"
  obtain ⟨g,ws,ss,⟨rfl,P⟩,k⟩:=h
  have sl:=P.sl
  intro q hq
  walk_at "go"
  refine ⟨fun ρ μ'=>∃ (f:Fm) (tab:List (L2.Key×D)) (c n:Nat),ρ=[some (a6 g ws ss),some (.obj q)]∧μ' q=some (.dct tab)∧Sub μ μ'∧FS ws ss f c∧jv tab f ss∧tab.length=c∧vG ws ss n f=evF ws ss∧cS f ss≤n,fun _ μ'=>match μ' q with
    | some (.dct t)=>ss.length - t.length
    | _=>0,⟨fun _=>none,[],0,8,rfl,aD,Sub.new hq,FS.begin P,(fun _ _=>rfl),rfl,rfl,by have:=qP (f:=fun _=>none) ss;omega⟩,?_⟩
  rintro ρ μ' ⟨f,tab,c,n,rfl,eq,sb,F,T,tl,ef,hn⟩
  walk_at "go"
  refine di eq ?_
  rw[List.length_map]
  have Fn:=F.n
  refine kif (fun h=>?_) fun h=>?_
  · have c0:0 < cS f ss:=by omega
    walk_at "go"
    refine ⟨g,ws,ss,f,tab,c,⟨rfl,F,c0,eq,T,tl⟩,fun tab' c' μ2 F' lt eq2 T' tl' kq=>?_⟩
    obtain ⟨m,rfl⟩:∃ m,n=m+1:=⟨n - 1,by omega⟩
    rw[vR c0] at ef
    have Fn':=F'.n
    refine ⟨⟨gK ws ss f,tab',c',m,eq2,(fun a o h=>kq a o (fun z=>by subst z;rw[hq] at h;cases h) (sb a o h)),F',T',tl',ef,by have:=ly (ws:=ws) P c0;omega⟩,?_⟩
    simp only[eq,eq2]
    omega
  · have z:cS f ss=0:=by omega
    rw[um z] at ef
    subst ef
    have a:=iQ z
    refine bH ss SE.toD (fun s=>.tup [.str s.nm,frR (val (evF ws ss) s)]) rfl (by omega) (fun s hs μ2 s2 N m=>?_) ?_
    · walk_at "go"
      refine di (s2 q _ eq) ?_
      rw[T s hs]
      unfold val at m
      cases e:evF ws ss s.nm with
      | none=>exact absurd e (a s hs)
      | some v=>rw[e] at m;exact m
    walk_at "go"
    exact ⟨μ,sb,k⟩
def mf (ws:List WE)(ss:List SE)(f:Fm)(s:SE):Str:=((Str.ofString "" :: s.road).filter (fo ws ss f s)).headD (Str.ofString "")
def GB (ws:List WE)(ss:List SE)(f:Fm):List D:=ss.map fun s=>.tup [.str s.nm,frR (val f s),.str (mf ws ss f s)]
theorem Ed {ws:List WE}{ss:List SE}{f:Fm}(F:FE ws ss f){s:SE}(hs:s∈ss):(Str.ofString "" :: s.road).filter (fo ws ss f s)≠[]:=by
  intro z
  have z:=List.filter_eq_nil_iff.mp z
  rcases F.d s hs with e | ⟨w,hw,h1,h2,h3⟩
  · refine z _ List.mem_cons_self ?_
    unfold fo
    rw[if_pos rfl,decide_eq_true e]
  · refine z _ (List.mem_cons_of_mem _ h1) ?_
    unfold fo
    rw[if_neg (F.P.w w hw).ne,eV WE.nm F.P.wn hw]
    show sN ss f s w=true
    unfold sN
    rw[decide_eq_true h2,Bool.true_and]
    exact List.all_eq_true.mpr fun t ht=>decide_eq_true (h3 t ht)
def iS:FSp:=fun ds μ Q=>match ds with
  | [d]=>∃ (g:D) (ws:List WE) (ss:List SE),(d=a6 g ws ss∧PE' ws ss)∧Q (.tup (GB ws ss (evF ws ss))) μ
  | _=>False
theorem CO:∀ ds μ Q,iS ds μ Q→ds.length=1:=by
  unfold iS
  walk_at "ln"
def DF:STr:=aF (aL (au bL (ag (ah 0) (aw))) (ax 1)) (aF (aL (kr (aw)) (ax 2)) (aF (fF (rh (ag (aj L3.rIx (ah 0) (TC (.int 2))) (ag (ah 1) (aw)))) (mh [3,4]) (aF (aL (bO (cH (aj aM (cK (ag (TC (.str "")) (aw))) (aj L3.rIx (ah 3) (TC (.int 1))))) (ax 0) (TB (au dq (ag (ah 1) (ag (ah 2) (ag (ah 3) (ag (aj L3.rIx (ah 4) (TC (.int 1))) (ag (ah 0) (aw)))))))) (ah 0) 1 [0,1,3,4]) (ax 5)) (fP (l8 (ah 2) (cK (ag (aj L3.rIx (ah 4) (TC (.int 0))) (ag (aj L3.rIx (ah 4) (TC (.int 1))) (ag (aj L3.rIx (ah 5) (TC (.int 0))) (aw))))))))) (aT (au cP (ag (ah 2) (aw))))))
theorem Gd:∀ ds μ Q,iS ds μ Q→DF { nx:=fun _ μ'=>RT Q .non μ',rt:=RT Q } (ini 6 ds) μ:=by
  intro ds μ Q h
  unfold iS at h
  split at h
  case h_2=>exact h.elim
  rename_i d
  walk_at "ini"
  unfold DF
  walk_at "go"
  obtain ⟨g,ws,ss,⟨rfl,P⟩,k⟩:=h
  have sl:=P.sl
  have F:=Gx P
  refine ⟨g,ws,ss,⟨rfl,P⟩,?_⟩
  generalize evF ws ss=f at F k ⊢
  walk_at "go"
  intro p hp
  rw[Ap]
  refine ba (fun r ρ μ'=>∃ (dn rs:List SE) (v3 v4 v5:Option D),r=rs.map (fun s=>.tup [s.toD,.tup [.str s.nm,frR (val f s)]])∧dn++rs=ss∧ρ=[some (a6 g ws ss),some (.tup (A4 f ss)),some (.obj p),v3,v4,v5]∧Sub μ μ'∧μ' p=some (.lst (dn.map fun s=>.tup [.str s.nm,frR (val f s),.str (mf ws ss f s)]))) ?_ ?_ _ _ _ ⟨[],ss,_,_,_,rfl,rfl,rfl,Sub.new hp,aD⟩
  · rintro ρ μ' ⟨dn,rs,v3,v4,v5,er,es,rfl,sb,ep⟩
    cases rs with
    | cons _ _=>cases er
    | nil=>
    rw[List.append_nil] at es
    subst es
    walk_at "go"
    refine bc ep ?_
    exact ⟨μ,sb,k⟩
  · rintro d r ρ μ' N ⟨dn,rs,v3,v4,v5,er,es,rfl,sb,ep⟩ hN
    cases rs with
    | nil=>cases er
    | cons s rs=>
    cases er
    have hs:s∈ss:=by rw[← es];simp
    have S:=P.s s hs
    have dl:dn.length+(rs.length+1)=ss.length:=by rw[← es];simp
    have rdl:=(P.rd s hs).length_le
    rw[List.length_map] at rdl
    have wl:=P.wl
    walk_at "go"
    have e0:(D.str "" :: s.road.map D.str)=(Str.ofString "" :: s.road).map D.str:=rfl
    rw[e0]
    refine ⟨by simp;omega,?_⟩
    refine cM (Str.ofString "" :: s.road) .str (fun y=>if fo ws ss f s y then some (.str y) else none) rfl (by simp;omega) (fun y hy μ2 _ M m=>?_) ?_
    · walk_at "go"
      refine ⟨g,ws,ss,f,(fun _=>[]),s,⟨rfl,rfl,F,hs,rfl,rfl,List.mem_cons.mp hy⟩,?_⟩
      walk_at "go"
      cases h:fo ws ss f s y with
      | true=>rw[h] at m;exact m
      | false=>rw[h] at m;exact m
    rw[jh]
    have ne:=Ed F hs
    walk_at "go"
    refine bc ep ?_
    have ew:∃ r,(Str.ofString "" :: s.road).filter (fo ws ss f s)=mf ws ss f s::r:=by
      unfold mf
      cases h:(Str.ofString "" :: s.road).filter (fo ws ss f s) with
      | nil=>exact absurd h ne
      | cons y r=>exact ⟨r,rfl⟩
    obtain ⟨r0,ew⟩:=ew
    rw[ew]
    walk_at "go"
    refine bc ep ⟨by rw[List.length_map];omega,hN _ _ ⟨dn++[s],rs,_,_,_,rfl,by rw[← es];simp,rfl,(fun a o h=>by rw[aU (fun z=>by subst z;rw[hp] at h;cases h)];exact sb a o h),by rw[aD,List.map_append];rfl⟩⟩
abbrev gd:FSp:=L3.aH
def oK:STr:=aF (fL (ah 0) (TC (.int 1)) (aj gR (aj aM (aj aM (aj cg (aj L3.rIx (ah 0) (TC (.int 1))) (TC (.int 48271))) (TC (.int 12345))) (aj L3.rIx (ah 0) (TC (.int 2)))) (TC (.int 2147483647)))) (aT (aj gR (aj kZ (aj gR (aj cg (aj L3.rIx (ah 0) (TC (.int 1))) (aj aM (aj gR (aj L3.rIx (ah 0) (TC (.int 1))) (TC (.int 40009))) (TC (.int 3)))) (TC (.int 2147483629))) (TC (.int 7))) (ah 1)))
def vP:STr:=aF (fL (ah 0) (TC (.int 2)) (aj aM (aj L3.rIx (ah 0) (TC (.int 2))) (TC (.int 1)))) (aF (dM (sW (TB (aj rGt (aj L3.rIx (ah 0) (TC (.int 0))) (TC (.int 0)))) (TB (aj rLe (aj L3.rIx (ah 0) (TC (.int 2))) (TC (.int 60))))) (aF (aL (aj gR (aj L3.rIx (ah 0) (TC (.int 0))) (ah 1)) (ax 2)) (aF (fL (ah 0) (TC (.int 0)) (aj kZ (aj L3.rIx (ah 0) (TC (.int 0))) (ah 1))) (aT (ah 2)))) (bX)) (oK))
theorem pW:∀ ds μ Q,gd ds μ Q→ds.length=2:=L3.Bj
theorem ub:∀ ds μ Q,gd ds μ Q→vP { nx:=fun _ μ'=>RT Q .non μ',rt:=RT Q } (ini 3 ds) μ:=L3.EF
def aQ:FSp:=fun ds μ Q=>match ds with
  | [.int a,.int b]=>(0 < b∧eR b)∧Q (fr (a.fdiv (Int.gcd a b)) (b.fdiv (Int.gcd a b))) μ
  | _=>False
theorem su:∀ ds μ Q,aQ ds μ Q→ds.length=2:=by
  unfold aQ
  walk_at "ln"
def nX:STr:=aF (wR 2 3 (ag (au tR (ag (ah 0) (aw))) (ag (ah 1) (aw)))) (aF (nQ (TB (aj rGt (ah 3) (TC (.int 0)))) (wR 2 3 (ag (ah 3) (ag (aj gR (ah 2) (ah 3)) (aw))))) (aT (cK (ag (aj kZ (ah 0) (ah 2)) (ag (aj kZ (ah 1) (ah 2)) (aw))))))
theorem vh:∀ ds μ Q,aQ ds μ Q→nX { nx:=fun _ μ'=>RT Q .non μ',rt:=RT Q } (ini 4 ds) μ:=by
  intro ds μ Q h
  unfold aQ at h
  split at h
  case h_2=>exact h.elim
  rename_i a b
  walk_at "ini"
  unfold nX
  walk_at "go"
  obtain ⟨⟨b0,b1⟩,k⟩:=h
  have ea:(if a < 0 then -a else a)=(a.natAbs:Int):=by split<;>omega
  rw[ea]
  refine ⟨fun ρ μ'=>μ'=μ∧∃ x y:Int,ρ=[some (.int a),some (.int b),some (.int x),some (.int y)]∧0≤x∧0≤y∧Int.gcd x y=Int.gcd a b,mz 3,⟨rfl,a.natAbs,b,rfl,Int.natCast_nonneg _,by omega,by simp[Int.gcd]⟩,?_⟩
  rintro ρ _ ⟨rfl,x,y,rfl,x0,y0,e⟩
  walk_at "go"
  refine kif (fun hy=>?_) fun hy=>?_
  · walk_at "go"
    refine ⟨by omega,⟨_,_,rfl,y0,fm0 hy,?_⟩,?_⟩
    · rw[uE];exact e
    · have:=fm1 (a:=x) hy
      have:=fm0 (a:=x) hy
      simp only[mz,lk]
      omega
  · have hy0:y=0:=by omega
    subst hy0
    rw[Int.gcd_zero_right] at e
    have hx:x=(Int.gcd a b:Int):=by omega
    subst hx
    have gp:0 < Int.gcd a b:=Int.gcd_pos_of_ne_zero_right a (by omega)
    have gl:(Int.gcd a b:Int)≤b:=Int.gcd_le_right a b0
    have dv:fX (Int.gcd a b:Int):=⟨by omega,by unfold eR at *;omega⟩
    walk_at "go"
    exact ⟨dv,dv,_,.refl _,k⟩
theorem mE {a b:Int}(b0:0 < b)(b1:b≤10000002){lo hi:Int}(h0:lo*b≤a)(h1:a≤hi*b):FrB lo hi (a.fdiv (Int.gcd a b)) (b.fdiv (Int.gcd a b)):=by
  obtain ⟨g,p,q,g0,ea,eb,e1,e2,q0,qb,gg⟩:=eB (a:=a) b0
  rw[e1,e2]
  rw[ea,eb] at h0 h1
  refine ⟨q0,by omega,gg,?_,?_⟩
  · rw[Int.mul_left_comm] at h0
    exact Int.le_of_mul_le_mul_left h0 g0
  · rw[Int.mul_left_comm] at h1
    exact Int.le_of_mul_le_mul_left h1 g0
theorem tkE {μ:Mu}{b:Addr}{n:Int}{Q:DK}(hB:Box μ b)(h0:0 < n)(h1:n < 18446744073709551616)(h:∀ k μ',0≤k→k < n→dm b μ μ'→Q (.int k) μ'):mi L3.aH [.obj b,.int n] μ Q:=⟨⟨hB,h0,h1⟩,h⟩
def cB:FSp:=fun ds μ Q=>match ds with
  | [d,.obj b,.int m]=>∃ p q:Int,(d=fr p q∧FrB 1 60 p q∧q≤1000∧Box μ b∧0 < m∧m≤100)∧∀ r s μ',FrB 1 60 r s→s≤4000→p*s≤r*q→dm b μ μ'→Q (fr r s) μ'
  | _=>False
theorem p7:∀ ds μ Q,cB ds μ Q→ds.length=3:=by
  unfold cB
  walk_at "ln"
def lN:STr:=aF (aL (aj aM (TC (.int 1)) (au L3.aH (ag (ah 1) (ag (TC (.int 4)) (aw))))) (ax 3)) (aF (aL (au aQ (ag (aj aM (aj cg (aj L3.rIx (ah 0) (TC (.int 0))) (ah 3)) (aj cg (aj L3.rIx (ah 0) (TC (.int 1))) (au L3.aH (ag (ah 1) (ag (ah 2) (aw)))))) (ag (aj cg (aj L3.rIx (ah 0) (TC (.int 1))) (ah 3)) (aw)))) (ax 4)) (aT (vk (TB (aj rLe (aj L3.rIx (ah 4) (TC (.int 0))) (aj cg (TC (.int 60)) (aj L3.rIx (ah 4) (TC (.int 1)))))) (ah 4) (cK (ag (TC (.int 60)) (ag (TC (.int 1)) (aw)))))))
theorem tN:∀ ds μ Q,cB ds μ Q→lN { nx:=fun _ μ'=>RT Q .non μ',rt:=RT Q } (ini 5 ds) μ:=by
  intro ds μ Q h
  unfold cB at h
  split at h
  case h_2=>exact h.elim
  rename_i d b m
  walk_at "ini"
  unfold lN
  walk_at "go"
  obtain ⟨p,q,⟨rfl,F,q1,hB,m0,m1⟩,k⟩:=h
  have q0:=F.q0
  have g1:=F.ge
  have g2:=F.le
  refine tkE hB (by decide) (by decide) fun c μ1 c0 c1 B1=>?_
  walk_at "go"
  refine ⟨.inl (.inr (by unfold S64;omega)),?_⟩
  refine tkE B1.box m0 (by omega) fun e μ2 e0 e1 B2=>?_
  walk_at "go"
  have hc:0 < q*(1+c):=Int.mul_pos q0 (by omega)
  have hc4:q*(1+c)≤q*4:=Int.mul_le_mul_of_nonneg_left (by omega) (by omega)
  refine ⟨.inl (.inr (by unfold S64;omega)),.inl (.inr (by unfold S64;omega)),⟨hc,by unfold eR;omega⟩,?_⟩
  have qe:0≤q*e:=Int.mul_nonneg (by omega) e0
  obtain ⟨g,r,s,gp,ea,eb,e3,e4,s0,sb,gg⟩:=eB (a:=p*(1+c)+q*e) hc
  rw[e3,e4]
  walk_at "go"
  refine ⟨.inl (.inl (by unfold S64;decide)),?_⟩
  have ge1:1*(q*(1+c))≤p*(1+c):=by rw[Int.one_mul];exact Int.mul_le_mul_of_nonneg_right (by omega) (by omega)
  have wt:p*s≤r*q:=by
    have h1:p*(q*(1+c))≤(p*(1+c)+q*e)*q:=by
      rw[Int.add_mul]
      have:p*(1+c)*q=p*(q*(1+c)):=by ac_rfl
      have:0≤q*e*q:=Int.mul_nonneg qe (by omega)
      omega
    rw[ea,eb] at h1
    rw[show p*(g*s)=g*(p*s) by ac_rfl,show g*r*q=g*(r*q) by ac_rfl] at h1
    exact Int.le_of_mul_le_mul_left h1 gp
  refine kif (fun h=>?_) fun h=>?_
  · refine ⟨_,.refl _,k r s μ2 ⟨s0,by omega,gg,?_,h⟩ (by omega) wt (B1.trans B2)⟩
    have:g*(1*s)≤g*r:=by rw[← ea,show g*(1*s)=1*(g*s) by ac_rfl,← eb];omega
    exact Int.le_of_mul_le_mul_left this gp
  · refine ⟨_,.refl _,k 60 1 μ2 ⟨by decide,by decide,by decide,by decide,by decide⟩ (by decide) (by omega) (B1.trans B2)⟩
theorem mI {a b:Int}(b0:0 < b)(b1:b≤10000002){lo hi:Int}(h0:lo*b < a)(h1:a≤hi*b):FrA lo hi (a.fdiv (Int.gcd a b)) (b.fdiv (Int.gcd a b)):=by
  refine ⟨mE b0 b1 (by omega) h1,?_⟩
  obtain ⟨g,p,q,g0,ea,eb,e1,e2,q0,qb,gg⟩:=eB (a:=a) b0
  rw[e1,e2]
  rw[ea,eb,Int.mul_left_comm] at h0
  exact Int.lt_of_mul_lt_mul_left h0 (by omega)
theorem DN {a b:Int}(b0:0 < b):b.fdiv (Int.gcd a b)≤b:=by
  obtain ⟨g,p,q,g0,ea,eb,e1,e2,q0,qb,gg⟩:=eB (a:=a) b0
  rw[e2];exact qb
theorem HJ {a b:Int}(b0:0 < b)(h:a < b):a.fdiv (Int.gcd a b) < b.fdiv (Int.gcd a b):=by
  obtain ⟨g,p,q,g0,ea,eb,e1,e2,q0,qb,gg⟩:=eB (a:=a) b0
  rw[e1,e2]
  rw[ea,eb] at h
  exact Int.lt_of_mul_lt_mul_left h (by omega)
def cz:FSp:=fun ds μ Q=>match ds with
  | [.obj b]=>Box μ b∧∀ (R:RN) μ',R.Ok→dm b μ μ'→Q R.toD μ'
  | _=>False
theorem qy:∀ ds μ Q,cz ds μ Q→ds.length=1:=by
  unfold cz
  walk_at "ln"
def hV:STr:=aF (aL (au cB (ag (ah 3) (ag (ah 0) (ag (TC (.int 40)) (aw))))) (ax 4)) (aF (aL (au aQ (ag (aj aM (TC (.int 1)) (au L3.aH (ag (ah 0) (ag (TC (.int 8)) (aw))))) (ag (aj aM (TC (.int 1)) (au L3.aH (ag (ah 0) (ag (TC (.int 4)) (aw))))) (aw)))) (ax 5)) (aF (aL (aj aM (TC (.int 2)) (au L3.aH (ag (ah 0) (ag (TC (.int 5)) (aw))))) (ax 6)) (aF (aL (au aQ (ag (aj aM (TC (.int 1)) (au L3.aH (ag (ah 0) (ag (aj vD (ah 6) (TC (.int 1))) (aw))))) (ag (ah 6) (aw)))) (ax 7)) (aF (aL (au L3.aH (ag (ah 0) (ag (TC (.int 6)) (aw)))) (ax 8)) (aF (aL (gv (ag (cK (ag (TC (.str "still")) (ag (ah 3) (aw)))) (ag (cK (ag (TC (.str "step")) (ag (ah 3) (ag (ah 5) (ag (ah 7) (ag (ah 4) (aw))))))) (ag (cK (ag (TC (.str "swell")) (ag (ah 3) (ag (au aQ (ag (aj aM (aj L3.rIx (ah 5) (TC (.int 0))) (aj L3.rIx (ah 5) (TC (.int 1)))) (ag (aj L3.rIx (ah 5) (TC (.int 1))) (aw)))) (ag (ah 7) (ag (ah 4) (aw))))))) (aw))))) (ax 9)) (aF (aL (aj aM (ah 9) (gv (ag (cK (ag (TC (.str "heed")) (ag (ah 3) (ag (ah 5) (ag (ah 7) (ag (ah 4) (aw))))))) (ag (cK (ag (TC (.str "heed")) (ag (ah 3) (ag (ah 5) (ag (cK (ag (TC (.int 1)) (ag (TC (.int 1)) (aw)))) (ag (ah 4) (aw))))))) (aw))))) (ax 9)) (aT (aj L3.rIx (aj aM (ah 9) (gv (ag (cK (ag (TC (.str "calm")) (ag (ah 3) (ag (ah 5) (ag (ah 8) (ag (aj aM (ah 8) (au L3.aH (ag (ah 0) (ag (TC (.int 6)) (aw))))) (ag (ah 4) (aw)))))))) (aw)))) (au L3.aH (ag (ah 0) (ag (TC (.int 6)) (aw))))))))))))
def lD:STr:=aF (aL (aj L3.rIx (gv (ag (aj aM (TC (.int 1)) (au L3.aH (ag (ah 0) (ag (TC (.int 5)) (aw))))) (ag (aj aM (TC (.int 1)) (au L3.aH (ag (ah 0) (ag (TC (.int 12)) (aw))))) (ag (aj aM (TC (.int 1)) (au L3.aH (ag (ah 0) (ag (TC (.int 59)) (aw))))) (aw))))) (au L3.aH (ag (ah 0) (ag (TC (.int 3)) (aw))))) (ax 1)) (aF (aL (aj aM (TC (.int 1)) (au L3.aH (ag (ah 0) (ag (TC (.int 4)) (aw))))) (ax 2)) (aF (aL (au aQ (ag (aj aM (aj cg (ah 1) (ah 2)) (au L3.aH (ag (ah 0) (ag (ah 2) (aw))))) (ag (ah 2) (aw)))) (ax 3)) (hV)))
theorem rY:∀ ds μ Q,cz ds μ Q→lD { nx:=fun _ μ'=>RT Q .non μ',rt:=RT Q } (ini 10 ds) μ:=by
  intro ds μ Q h
  unfold cz at h
  split at h
  case h_2=>exact h.elim
  rename_i b
  walk_at "ini"
  unfold lD
  walk_at "go"
  obtain ⟨hB,k⟩:=h
  refine tkE hB (by decide) (by decide) fun c1 μ1 c10 c11 B1=>?_
  walk_at "go"
  refine tkE B1.box (by decide) (by decide) fun c2 μ2 c20 c21 B2=>?_
  walk_at "go"
  refine tkE B2.box (by decide) (by decide) fun c3 μ3 c30 c31 B3=>?_
  walk_at "go"
  refine tkE B3.box (by decide) (by decide) fun c4 μ4 c40 c41 B4=>?_
  have al:∀ d∈([.int (1+c1),.int (1+c2),.int (1+c3)]:List D),IsI 1 59 d:=bB ⟨_,rfl,by omega,by omega⟩ (bB ⟨_,rfl,by omega,by omega⟩ (bB ⟨_,rfl,by omega,by omega⟩ kP))
  obtain ⟨_,e1,wh,rfl,w0,w1⟩:=gk al c40 c41
  walk_at "go"
  rw[e1]
  walk_at "go"
  refine tkE B4.box (by decide) (by decide) fun c5 μ5 c50 c51 B5=>?_
  walk_at "go"
  have bb0:0 < 1+c5:=by omega
  refine ⟨.inl (.inl (by unfold S64;omega)),?_⟩
  refine tkE B5.box bb0 (by omega) fun c6 μ6 c60 c61 B6=>?_
  walk_at "go"
  refine ⟨⟨bb0,by unfold eR;omega⟩,?_⟩
  have wl:1*(1+c5)≤wh*(1+c5):=Int.mul_le_mul_of_nonneg_right w0 (by omega)
  have wu:(wh+1)*(1+c5)≤60*(1+c5):=Int.mul_le_mul_of_nonneg_right (by omega) (by omega)
  rw[Int.add_mul] at wu
  have W:=mE (a:=wh*(1+c5)+c6) (lo:=1) (hi:=60) bb0 (by omega) (by omega) (by omega)
  have wq:=DN (a:=wh*(1+c5)+c6) bb0
  generalize (wh*(1+c5)+c6).fdiv (Int.gcd (wh*(1+c5)+c6) (1+c5))=p at W
  generalize (1+c5).fdiv (Int.gcd (wh*(1+c5)+c6) (1+c5))=q at W wq
  unfold hV
  walk_at "go"
  refine ⟨p,q,⟨rfl,W,by omega,B6.box,by decide,by decide⟩,fun r s μ7 T s1 wt B7=>?_⟩
  walk_at "go"
  refine tkE B7.box (by decide) (by decide) fun c8 μ8 c80 c81 B8=>?_
  walk_at "go"
  refine tkE B8.box (by decide) (by decide) fun c9 μ9 c90 c91 B9=>?_
  walk_at "go"
  have d0:0 < 1+c9:=by omega
  refine ⟨⟨d0,by unfold eR;omega⟩,?_⟩
  have U:=mI (a:=1+c8) (lo:=0) (hi:=60) d0 (by omega) (by omega) (by omega)
  have U8:=mE (a:=1+c8) (lo:=0) (hi:=8) d0 (by omega) (by omega) (by omega)
  have uq:=DN (a:=1+c8) d0
  generalize (1+c8).fdiv (Int.gcd (1+c8) (1+c9))=x at U U8
  generalize (1+c9).fdiv (Int.gcd (1+c8) (1+c9))=y at U U8 uq
  walk_at "go"
  refine tkE B9.box (by decide) (by decide) fun c10 μ10 c100 c101 B10=>?_
  walk_at "go"
  refine tkE B10.box (by omega) (by omega) fun c11 μ11 c110 c111 B11=>?_
  walk_at "go"
  have n0:0 < 2+c10:=by omega
  refine ⟨⟨n0,by unfold eR;omega⟩,?_⟩
  have Dn:=mI (a:=1+c11) (b:=2+c10) (lo:=0) (hi:=1) n0 (by omega) (by omega) (by omega)
  have dl:=HJ (a:=1+c11) n0 (by omega)
  generalize (1+c11).fdiv (Int.gcd (1+c11) (2+c10))=a at Dn dl
  generalize (2+c10).fdiv (Int.gcd (1+c11) (2+c10))=bb at Dn dl
  walk_at "go"
  refine tkE B11.box (by decide) (by decide) fun c12 μ12 c120 c121 B12=>?_
  walk_at "go"
  have y0:=U.q0
  have x0:=U.ab
  have x8:=U8.le
  refine ⟨⟨y0,by unfold eR;omega⟩,?_⟩
  have X:=mI (a:=x+y) (lo:=0) (hi:=60) y0 (by omega) (by omega) (by omega)
  have Xl:=mI (a:=x+y) (lo:=1) (hi:=60) y0 (by omega) (by omega) (by omega)
  generalize (x+y).fdiv (Int.gcd (x+y) y)=x' at X Xl
  generalize y.fdiv (Int.gcd (x+y) y)=y' at X Xl
  walk_at "go"
  refine ⟨by simp,?_⟩
  refine tkE B12.box (by decide) (by decide) fun c13 μ13 c130 c131 B13=>?_
  walk_at "go"
  refine ⟨by simp,?_⟩
  refine tkE B13.box (by decide) (by decide) fun c14 μ14 c140 c141 B14=>?_
  walk_at "go"
  have ob:=Lh (lo:=0) (hi:=1) (by decide) (by decide)
  have al2:∀ d∈([.tup [.str "still", fr p q],.tup [.str "step", fr p q,fr x y,fr a bb,fr r s],.tup [.str "swell", fr p q,fr x' y',fr a bb,fr r s],.tup [.str "heed", fr p q,fr x y,fr a bb,fr r s],.tup [.str "heed", fr p q,fr x y,fr 1 1,fr r s],.tup [.str "calm", fr p q,fr x y,.int c12,.int (c12+c13),fr r s]]:List D),∃ R:RN,d=R.toD∧R.Ok:=by
    refine bB ⟨⟨.oB,p,q,1,1,1,1,0,0,p,q⟩,rfl,⟨W,W,Int.le_refl _,Lh (by decide) (by decide),nofun,ob,(fun z=>by rcases z with z | z<;>cases z),Int.le_refl 0,Int.le_refl 0,(show (0:Int)≤60 by decide),fun _=>⟨rfl,rfl⟩⟩⟩ ?_
    refine bB ⟨⟨.step,p,q,x,y,a,bb,0,0,r,s⟩,rfl,⟨W,T,wt,U,nofun,Dn,(fun _=>dl),Int.le_refl 0,Int.le_refl 0,(show (0:Int)≤60 by decide),nofun⟩⟩ ?_
    refine bB ⟨⟨.qS,p,q,x',y',a,bb,0,0,r,s⟩,rfl,⟨W,T,wt,X,(fun _=>by show y' < x';have:=Xl.ab;omega),Dn,(fun _=>dl),Int.le_refl 0,Int.le_refl 0,(show (0:Int)≤60 by decide),nofun⟩⟩ ?_
    refine bB ⟨⟨.Dg,p,q,x,y,a,bb,0,0,r,s⟩,rfl,⟨W,T,wt,U,nofun,Dn,(fun _=>dl),Int.le_refl 0,Int.le_refl 0,(show (0:Int)≤60 by decide),nofun⟩⟩ ?_
    refine bB ⟨⟨.Dg,p,q,x,y,1,1,0,0,r,s⟩,rfl,⟨W,T,wt,U,nofun,ob,(fun z=>by rcases z with z | z<;>cases z),Int.le_refl 0,Int.le_refl 0,(show (0:Int)≤60 by decide),nofun⟩⟩ ?_
    refine bB ⟨⟨.calm,p,q,x,y,1,1,c12,c12+c13,r,s⟩,rfl,⟨W,T,wt,U,nofun,ob,(fun z=>by rcases z with z | z<;>cases z),c120,(show c12≤c12+c13 by omega),(show c12+c13≤60 by omega),nofun⟩⟩ kP
  obtain ⟨_,e2,R,rfl,K⟩:=gk al2 c140 c141
  refine yY e2 ?_
  exact ⟨_,.refl _,k R _ K (B1.trans (B2.trans (B3.trans (B4.trans (B5.trans (B6.trans (B7.trans (B8.trans (B9.trans (B10.trans (B11.trans (B12.trans (B13.trans B14)))))))))))))⟩
theorem Gk {R:RN}(h:R.Ok):∃ xs,R.toD=.tup xs∧atD xs (-1)=some (fr R.r R.s):=by
  unfold RN.toD
  cases e:R.wd with
  | oB=>
    obtain ⟨e1,e2⟩:=h.st e
    rw[e1,e2]
    exact ⟨_,rfl,rfl⟩
  | step=>exact ⟨_,rfl,rfl⟩
  | qS=>exact ⟨_,rfl,rfl⟩
  | Dg=>exact ⟨_,rfl,rfl⟩
  | calm=>exact ⟨_,rfl,rfl⟩
def cf:FSp:=fun ds μ Q=>match ds with
  | [d]=>∃ R:RN,(R.Ok∧d=R.toD)∧Q (.int (R.r / R.s)) μ
  | _=>False
theorem mZ:∀ ds μ Q,cf ds μ Q→ds.length=1:=by
  unfold cf
  walk_at "ln"
def ke:STr:=aT (aj kZ (aj L3.rIx (aj L3.rIx (ah 0) (TUn wG (TC (.int 1)))) (TC (.int 0))) (aj L3.rIx (aj L3.rIx (ah 0) (TUn wG (TC (.int 1)))) (TC (.int 1))))
theorem qt:∀ ds μ Q,cf ds μ Q→ke { nx:=fun _ μ'=>RT Q .non μ',rt:=RT Q } (ini 1 ds) μ:=by
  intro ds μ Q h
  unfold cf at h
  split at h
  case h_2=>exact h.elim
  rename_i d
  walk_at "ini"
  unfold ke
  walk_at "go"
  obtain ⟨R,⟨K,rfl⟩,k⟩:=h
  obtain ⟨xs,e,el⟩:=Gk K
  have q0:=K.t.q0
  have q1:=K.t.q1
  rw[e]
  walk_at "go"
  rw[el]
  walk_at "go"
  refine ⟨⟨by omega,by unfold eR;omega⟩,?_⟩
  rw[jQ q0]
  exact ⟨_,.refl _,k⟩
def cW:FSp:=fun ds μ Q=>match ds with
  | [.obj b,.str n]=>(Box μ b∧PyData.strOk n=true∧n≠Str.ofString "")∧∀ (w:WE) μ',w.Ok→w.nm=n→dm b μ μ'→Q w.toD μ'
  | _=>False
theorem tG:∀ ds μ Q,cW ds μ Q→ds.length=2:=by
  unfold cW
  walk_at "ln"
def ni:STr:=aF (aL (aj L3.rIx (gv (ag (aj aM (TC (.int 1)) (au L3.aH (ag (ah 0) (ag (TC (.int 3)) (aw))))) (ag (aj aM (TC (.int 1)) (au L3.aH (ag (ah 0) (ag (TC (.int 20)) (aw))))) (aw)))) (au L3.aH (ag (ah 0) (ag (TC (.int 2)) (aw))))) (ax 2)) (aF (aL (aj L3.rIx (gv (ag (TC .non) (ag (au L3.aH (ag (ah 0) (ag (TC (.int 61)) (aw)))) (aw)))) (au L3.aH (ag (ah 0) (ag (TC (.int 2)) (aw))))) (ax 3)) (aT (cK (ag (ah 1) (ag (ah 2) (ag (aj aM (TC (.int 1)) (au L3.aH (ag (ah 0) (ag (TC (.int 60)) (aw))))) (ag (ah 3) (ag (aj L3.rIx (gv (ag (TC (.str "line")) (ag (TC (.str "turns")) (aw)))) (au L3.aH (ag (ah 0) (ag (TC (.int 2)) (aw))))) (aw)))))))))
theorem vt:∀ ds μ Q,cW ds μ Q→ni { nx:=fun _ μ'=>RT Q .non μ',rt:=RT Q } (ini 4 ds) μ:=by
  intro ds μ Q h
  unfold cW at h
  split at h
  case h_2=>exact h.elim
  rename_i b n
  walk_at "ini"
  unfold ni
  walk_at "go"
  obtain ⟨⟨hB,on,one⟩,k⟩:=h
  refine tkE hB (by decide) (by decide) fun c1 μ1 c10 c11 B1=>?_
  walk_at "go"
  refine tkE B1.box (by decide) (by decide) fun c2 μ2 c20 c21 B2=>?_
  walk_at "go"
  refine tkE B2.box (by decide) (by decide) fun c3 μ3 c30 c31 B3=>?_
  have al:∀ d∈([.int (1+c1),.int (1+c2)]:List D),IsI 1 20 d:=bB ⟨_,rfl,by omega,by omega⟩ (bB ⟨_,rfl,by omega,by omega⟩ kP)
  obtain ⟨_,e1,pc,rfl,p0,p1⟩:=gk al c30 c31
  walk_at "go"
  rw[e1]
  walk_at "go"
  refine tkE B3.box (by decide) (by decide) fun c4 μ4 c40 c41 B4=>?_
  walk_at "go"
  refine tkE B4.box (by decide) (by decide) fun c5 μ5 c50 c51 B5=>?_
  obtain ⟨mk,e2,_⟩:=gk (P:=fun _=>True) (xs:=[.non,.int c4]) (fun _ _=>trivial) c50 c51
  walk_at "go"
  rw[e2]
  walk_at "go"
  refine tkE B5.box (by decide) (by decide) fun c6 μ6 c60 c61 B6=>?_
  walk_at "go"
  refine tkE B6.box (by decide) (by decide) fun c7 μ7 c70 c71 B7=>?_
  obtain ⟨so,e3,_⟩:=gk (P:=fun _=>True) (xs:=[.str "line", .str "turns"]) (fun _ _=>trivial) c70 c71
  walk_at "go"
  rw[e3]
  walk_at "go"
  exact ⟨_,.refl _,k ⟨n,pc,.int (1+c6),mk,so⟩ _ ⟨on,one,p0,p1⟩ rfl (B1.trans (B2.trans (B3.trans (B4.trans (B5.trans (B6.trans B7))))))⟩
theorem lF {μ:Mu}{b p:Addr}(h:Box μ b)(hp:μ p=none):p≠b:=fun z=>by subst z;obtain ⟨_,_,_,e,_⟩:=h;rw[hp] at e;cases e
theorem gL {μ:Mu}{b p:Addr}{o:MO}(h:Box μ b)(hp:p≠b):Box (up μ p o) b:=by
  obtain ⟨g,s,c,e,h0⟩:=h
  exact ⟨g,s,c,by rw[aU (Ne.symm hp)];exact e,h0⟩
theorem GX {μ:Mu}{b p:Addr}(h:Box μ b)(hp:p≠b):Box (dn μ p) b:=by
  obtain ⟨g,s,c,e,h0⟩:=h
  exact ⟨g,s,c,by unfold L3.dn;rw[if_neg (Ne.symm hp)];exact e,h0⟩
theorem AK {G:GTr}{tt:TTr}{te:ETr}{ρc:ST}{ds:List D}{μ:Mu}{Q:DK}{a b:Addr}{full:List D}(hm:μ a=some (.lst full))(hB:Box μ b)(ab:a≠b)(I:List D→List D→Prop)(h0:I ds [])(hl:ds.length≤999999)
    (step:∀ d r zs μ',Box μ' b→I (d::r) zs→∀ (N:Option D→Mu→Prop),(∀ oy μ2,I r (zs++oy.toList)→dm b μ' μ2→N oy μ2)→G d ρc μ' fun ρ1 μ1=>tt ρ1 μ1 fun c μ2=>kIf c (te ρ1 μ2 fun y μ3=>N (some y) μ3) (N none μ2))
    (k:∀ zs μ',I [] zs→dm b μ μ'→Q (.ls zs) μ'):Ct a full G tt te ρc ds μ Q:=by
  intro p hp
  have pb:=lF hB hp
  have pa:p≠a:=fun z=>by subst z;rw[hm] at hp;cases hp
  refine jE (fun r μ'=>∃ zs,I r zs∧zs.length+r.length≤ds.length∧μ' p=some (.lst zs)∧Box μ' b∧∀ x,x≠b→x≠p→μ' x=μ x) ?_ ?_ ?_ _ _ ⟨[],h0,by simp,aD,gL hB pb,fun x _ h=>aU h⟩
  · rintro r μ' ⟨zs,_,_,_,_,fr⟩
    rw[fr a ab (Ne.symm pa)];exact hm
  · rintro μ' ⟨zs,hI,_,e,P,fr⟩
    refine bc e (k zs _ hI ⟨GX P pb,fun x hx=>?_⟩)
    unfold L3.dn
    split
    · rename_i z;subst z;exact hp.symm
    · rename_i z;exact fr x hx z
  · rintro d r μ' N ⟨zs,hI,hz,e,P,fr⟩ hN
    rw[List.length_cons] at hz
    refine step d r zs μ' P hI (fun oy μ3=>match oy with
      | some y=>kL μ3 p fun zs=>zs.length < 1000000∧N (up μ3 p (.lst (zs++[y])))
      | none=>N μ3) ?_
    intro oy μ2 hoy P2
    have e2:μ2 p=some (.lst zs):=by rw[P2.oth p pb];exact e
    cases oy with
    | none=>exact hN _ ⟨zs,by simpa using hoy,by omega,e2,P2.box,fun x h1 h2=>(P2.oth x h1).trans (fr x h1 h2)⟩
    | some y=>
      refine bc e2 ⟨by omega,hN _ ⟨zs++[y],hoy,by rw[List.length_append];simp;omega,aD,gL P2.box pb,fun x h1 h2=>?_⟩⟩
      rw[aU h2];exact (P2.oth x h1).trans (fr x h1 h2)
def bP:FSp:=fun ds μ Q=>match ds with
  | [.obj b,.str n,.obj a]=>∃ ws:List WE,(Box μ b∧a≠b∧μ a=some (.lst (ws.map WE.toD))∧(0 < ws.length∧ws.length≤8)∧(∀ x∈ws,x.Ok)∧PyData.strOk n=true)∧∀ (s:SE) μ',s.Ok→s.nm=n→s.road.Sublist (ws.map WE.nm)→dm b μ μ'→Q s.toD μ'
  | _=>False
theorem l5:∀ ds μ Q,bP ds μ Q→ds.length=3:=by
  unfold bP
  walk_at "ln"
def dB:STr:=aF (aL (aj L3.rIx (gv (ag (TC (.int 0)) (ag (au L3.aH (ag (ah 0) (ag (TC (.int 30)) (aw)))) (ag (au L3.aH (ag (ah 0) (ag (aj aM (aj D8 (TC (.int 10)) (TC (.int 6))) (TC (.int 1))) (aw)))) (aw))))) (au L3.aH (ag (ah 0) (ag (TC (.int 3)) (aw))))) (ax 4)) (aF (aL (aj L3.rIx (gv (ag (TC .non) (ag (au L3.aH (ag (ah 0) (ag (TC (.int 50)) (aw)))) (aw)))) (au L3.aH (ag (ah 0) (ag (TC (.int 2)) (aw))))) (ax 5)) (aT (cK (ag (ah 1) (ag (au cP (ag (ah 3) (aw))) (ag (aj aM (TC (.int 1)) (au L3.aH (ag (ah 0) (ag (TC (.int 8)) (aw))))) (ag (ah 4) (ag (ah 5) (ag (au cz (ag (ah 0) (aw))) (aw))))))))))
def js:STr:=aF (aL (jH (ah 2) (ax 0) (TB (aj rEq (au L3.aH (ag (ah 1) (ag (TC (.int 2)) (aw)))) (TC (.int 0)))) (aj L3.rIx (ah 0) (TC (.int 0))) 1 [0]) (ax 3)) (aF (dM (TB (aj rEq (ah 3) (gv (aw)))) (aL (gv (ag (aj L3.rIx (aj L3.rIx (ah 2) (au L3.aH (ag (ah 0) (ag (au gn (ag (ah 2) (aw))) (aw))))) (TC (.int 0))) (aw))) (ax 3)) (bX)) (dB))
theorem o8:∀ ds μ Q,bP ds μ Q→js { nx:=fun _ μ'=>RT Q .non μ',rt:=RT Q } (ini 6 ds) μ:=by
  intro ds μ Q h
  unfold bP at h
  split at h
  case h_2=>exact h.elim
  rename_i b n a
  walk_at "ini"
  unfold js
  walk_at "go"
  obtain ⟨ws,⟨hB,ab,em,⟨l0,l1⟩,hw,on⟩,k⟩:=h
  refine bc em ?_
  refine AK em hB ab (fun r zs=>∃ (rs:List WE) (ns:List Str),r=rs.map WE.toD∧zs=ns.map .str∧(∀ x∈rs,x∈ws)∧ns.length+rs.length≤8∧(ns++rs.map WE.nm).Sublist (ws.map WE.nm)) ⟨ws,[],rfl,rfl,(fun _ h=>h),by simpa using l1,List.Sublist.refl _⟩ (by simp;omega) ?_ ?_
  · rintro d r zs μ1 hB1 ⟨rs,ns,er,rfl,hr,hl,hn⟩ N hN
    cases rs with
    | nil=>cases er
    | cons x rs=>
    cases er
    rw[List.length_cons] at hl
    have hr':=fun y hy=>hr y (List.mem_cons_of_mem x hy)
    walk_at "go"
    refine tkE hB1 (by decide) (by decide) fun c μ2 c0 c1 B2=>?_
    walk_at "go"
    refine kif (fun h=>?_) fun h=>?_
    · exact hN _ _ ⟨rs,ns++[x.nm],rfl,by simp,hr',by simp;omega,by simpa using hn⟩ B2
    · exact hN none _ ⟨rs,ns,rfl,by simp,hr',by omega,(List.Sublist.append_left (List.sublist_cons_self x.nm _) ns).trans hn⟩ B2
  · rintro zs μ1 ⟨rs,ns,er,rfl,_,hl,hn⟩ B1
    walk_at "go"
    have hn:ns.Sublist (ws.map WE.nm):=(List.sublist_append_left ns _).trans hn
    have okn:∀ x∈ns,PyData.strOk x=true:=fun x xi=>by
      obtain ⟨y,yi,rfl⟩:=List.mem_map.mp (hn.subset xi)
      exact (hw y yi).n
    have fin:∀ (x:Str) (xs:List Str) μ2,(∀ y∈x::xs,PyData.strOk y=true)→(x::xs).Sublist (ws.map WE.nm)→xs.length≤8→dm b μ μ2→dB { nx:=fun _ μ'=>RT Q .non μ',rt:=RT Q } [some (.obj b),some (.str n),some (.obj a),some (.ls ((x::xs).map .str)),none,none] μ2:=by
      intro x xs μ2 ho hx hxl B2
      unfold dB
      walk_at "go"
      refine tkE B2.box (by decide) (by decide) fun c3 μ3 c30 c31 B3=>?_
      walk_at "go"
      refine ⟨⟨by decide,by decide,by decide⟩,?_⟩
      refine tkE B3.box (by decide) (by decide) fun c4 μ4 c40 c41 B4=>?_
      walk_at "go"
      refine tkE B4.box (by decide) (by decide) fun c5 μ5 c50 c51 B5=>?_
      obtain ⟨bg,e2,ob⟩:=gk (P:=fun d=>okD 38 d=true) (xs:=[.int 0,.int c3,.int c4]) (bB rfl (bB rfl (bB rfl kP))) c50 c51
      walk_at "go"
      rw[e2]
      walk_at "go"
      refine tkE B5.box (by decide) (by decide) fun c6 μ6 c60 c61 B6=>?_
      walk_at "go"
      refine tkE B6.box (by decide) (by decide) fun c7 μ7 c70 c71 B7=>?_
      obtain ⟨mn,e3,om⟩:=gk (P:=fun d=>okD 38 d=true) (xs:=[.non,.int c6]) (bB rfl (bB rfl kP)) c70 c71
      walk_at "go"
      rw[e3]
      walk_at "go"
      refine tkE B7.box (by decide) (by decide) fun c8 μ8 c80 c81 B8=>?_
      walk_at "go"
      refine ⟨B8.box,fun R μ9 K B9=>?_⟩
      walk_at "go"
      exact ⟨_,.refl _,k ⟨n,x,xs,1+c8,bg,mn,R⟩ _ ⟨on,ho,by show 1≤1+c8;omega,by show 1+c8≤8;omega,K,ob,om⟩ rfl hx (B2.trans (B3.trans (B4.trans (B5.trans (B6.trans (B7.trans (B8.trans B9))))))) ⟩
    cases ns with
    | cons x xs=>
      walk_at "go"
      rw[List.length_cons] at hl
      exact ⟨by rw[okn x List.mem_cons_self,fb fun y z=>okn y (List.mem_cons_of_mem _ z)];rfl,fin x xs μ1 okn hn (by omega) B1⟩
    | nil=>
      walk_at "go"
      have em1:μ1 a=some (.lst (ws.map WE.toD)):=by rw[B1.oth a ab];exact em
      refine bc em1 ?_
      rw[List.length_map]
      refine tkE B1.box (by omega) (by omega) fun c μ2 c0 c1 B2=>?_
      have em2:μ2 a=some (.lst (ws.map WE.toD)):=by rw[B2.oth a ab];exact em1
      walk_at "go"
      refine bc em2 ?_
      obtain ⟨_,e2,y,hy,rfl⟩:=gk (P:=fun d=>∃ y,y∈ws∧d=y.toD) (xs:=ws.map WE.toD) (fun d hd=>by obtain ⟨y,hy,rfl⟩:=List.mem_map.mp hd;exact ⟨y,hy,rfl⟩) c0 (by rw[List.length_map];exact c1)
      refine yY e2 ?_
      walk_at "go"
      exact fin y.nm [] μ2 (fun z hz=>by rw[List.mem_singleton.mp hz];exact (hw y hy).n) (List.singleton_sublist.mpr (List.mem_map.mpr ⟨y,hy,rfl⟩)) (by decide) (B1.trans B2)
def j5:List Str:=[Str.ofString "a", Str.ofString "ab", Str.ofString "b", Str.ofString "ba", Str.ofString "bb", Str.ofString "c", Str.ofString "line", Str.ofString "longest", Str.ofString "longests", Str.ofString "m", Str.ofString "turns", Str.ofString "way", Str.ofString "x", Str.ofString "z", Str.ofString "zz"]
theorem C3:j5.Nodup:=by decide +kernel
theorem D1:∀ x∈j5,PyData.strOk x=true∧x≠Str.ofString "" := by decide +kernel
theorem CF (lo:Int)(m:Nat):eK lo (m+1)=.int lo::eK (lo+1) m:=by
  unfold eK
  rw[List.range_succ_eq_map]
  rw[List.map_cons,List.map_map]
  congr 1
  · simp
  · refine List.map_congr_left fun i _=>?_
    show D.int (lo+((i+1:Nat):Int))=D.int (lo+1+(i:Int))
    congr 1
    omega
theorem ixE {n j:Nat}(h:j < n):L2.ixN n (j:Int)=some j:=by
  unfold L2.ixN
  rw[if_pos (Int.natCast_nonneg j),if_pos (by omega)]
  simp
theorem Lw {α β:Type}(f:α→β):∀ (xs:List α) (j:Nat),(xs.map f).eraseIdx j=(xs.eraseIdx j).map f
  | [],_=>rfl
  | _::_,0=>rfl
  | x::r,j+1=>by rw[List.map_cons,List.eraseIdx_cons_succ,List.eraseIdx_cons_succ,List.map_cons,Lw f r j]
theorem KC {α:Type}:∀ (xs:List α) (j:Nat) (h:j < xs.length),(xs.eraseIdx j++[xs[j]]).Perm xs
  | x::r,0,_=>List.perm_append_singleton x r
  | x::r,j+1,h=>(KC r j (Nat.lt_of_succ_lt_succ h)).cons x
def enF (i:Nat):List Str→List D
  | []=>[]
  | x::r=>.tup [.int (i:Nat),.str x]::enF (i+1) r
theorem y8:∀ (T:List Str) (k i:Nat),(enF k T)[i]? = T[i]?.map fun x=>.tup [.int ((k+i:Nat):Int),.str x]
  | [],_,_=>rfl
  | x::r,k,0=>rfl
  | x::r,k,i+1=>by
    show (enF (k+1) r)[i]? = r[i]?.map _
    rw[y8 r (k+1) i,show k+1+i=k+(i+1) by omega]
theorem Bt (T:List Str):jO (T.map .str)=enF 0 T:=by
  refine List.ext_getElem? fun i=>?_
  rw[rF,y8,List.getElem?_map,Option.map_map,Nat.zero_add]
  rfl
theorem Mz (xs:List D){k:Int}(k0:0≤k):cutD xs none (some k)=xs.take k.toNat:=by
  have:=F5 xs k.toNat
  rwa [Int.toNat_of_nonneg k0] at this
def cy:FSp:=fun ds μ Q=>match ds with
  | [.ls xs]=>(∃ ns:List Int,xs=ns.map .int)∧∀ (g:D) (ws:List WE) (ss:List SE) μ',PE' ws ss→Q (a6 g ws ss) μ'
  | _=>False
theorem qo:∀ ds μ Q,cy ds μ Q→ds.length=1:=by
  unfold cy
  walk_at "ln"
def lH:STr:=aF (aL (au L3.f9 (ag (ah 0) (ag (TC (.int 0)) (aw)))) (ax 1)) (aF (aL (kr (ag (TC (.str "a")) (ag (TC (.str "ab")) (ag (TC (.str "b")) (ag (TC (.str "ba")) (ag (TC (.str "bb")) (ag (TC (.str "c")) (ag (TC (.str "line")) (ag (TC (.str "longest")) (ag (TC (.str "longests")) (ag (TC (.str "m")) (ag (TC (.str "turns")) (ag (TC (.str "way")) (ag (TC (.str "x")) (ag (TC (.str "z")) (ag (TC (.str "zz")) (aw))))))))))))))))) (ax 2)) (aF (aL (kr (aw)) (ax 3)) (aF (fF (fh (TC (.int 8))) (ax 4) (fP (l8 (ah 3) (HB (ah 2) (au L3.aH (ag (ah 1) (ag (au gn (ag (ah 2) (aw))) (aw)))))))) (aF (aL (kr (aw)) (ax 5)) (aF (fF (fh (aj aM (TC (.int 1)) (au L3.aH (ag (ah 1) (ag (TC (.int 6)) (aw)))))) (ax 4) (fP (l8 (ah 5) (au cW (ag (au L3.f9 (ag (ah 0) (ag (aj aM (TC (.int 1)) (ah 4)) (aw)))) (ag (aj L3.rIx (ah 3) (aj gR (aj aM (aj cg (TC (.int 3)) (ah 4)) (TC (.int 1))) (TC (.int 8)))) (aw))))))) (aF (aL (kr (aw)) (ax 6)) (aF (fF (Cy (ag (TSl (au wx (ag (xW (ah 3)) (aw))) (ONo) (xU (au L3.aH (ag (ah 1) (ag (TC (.int 9)) (aw)))))) (aw))) (mh [4,7]) (fP (l8 (ah 6) (au bP (ag (au L3.f9 (ag (ah 0) (ag (aj aM (TC (.int 7)) (ah 4)) (aw)))) (ag (ah 7) (ag (ah 5) (aw)))))))) (aT (cK (ag (aj aM (TC (.int 1)) (au L3.aH (ag (ah 1) (ag (TC (.int 60)) (aw))))) (ag (au cP (ag (ah 5) (aw))) (ag (au cP (ag (ah 6) (aw))) (aw)))))))))))))
theorem uf:∀ ds μ Q,cy ds μ Q→lH { nx:=fun _ μ'=>RT Q .non μ',rt:=RT Q } (ini 8 ds) μ:=by
  intro ds μ Q h
  unfold cy at h
  split at h
  case h_2=>exact h.elim
  rename_i xs
  walk_at "ini"
  unfold lH
  walk_at "go"
  obtain ⟨⟨ns,rfl⟩,k⟩:=h
  refine ⟨⟨ns,rfl,by decide,by decide⟩,fun b μ1 hb hB1 oth1=>?_⟩
  walk_at "go"
  refine ⟨by simp,fun p2 hp2 p3 hp3=>?_⟩
  have b2:=lF hB1 hp2
  have p32:p3≠p2:=fun z=>by subst z;rw[aD] at hp3;cases hp3
  have Mx:μ1 p3=none:=by rw[aU p32] at hp3;exact hp3
  have b3:=lF hB1 Mx
  refine ba (fun r ρ μ'=>∃ (st nm:List Str) (v4:Option D),ρ=[some (.ls (ns.map .int)),some (.obj b),some (.obj p2),some (.obj p3),v4,none,none,none]∧μ' p2=some (.lst (st.map .str))∧μ' p3=some (.lst (nm.map .str))∧Box μ' b∧(st++nm).Perm j5∧nm.length+r.length=8) ?_ ?_ _ _ _ ⟨j5,[],_,rfl,by rw[aU (Ne.symm p32),aD];rfl,by rw[aD];rfl,gL (gL hB1 b2) b3,by rw[List.append_nil],by simp[eK]⟩
  rotate_left
  · rintro d r ρ μ2 N ⟨st,nm,v4,rfl,e2,e3,hB,pm,hl⟩ hN
    rw[List.length_cons] at hl
    have pl:=pm.length_eq
    rw[List.length_append,show j5.length=15 from rfl] at pl
    walk_at "go"
    refine bc e3 (bc e2 (bc e2 ?_))
    rw[List.length_map]
    refine tkE hB (by omega) (by omega) fun c μ3 c0 c1 B3=>?_
    walk_at "go"
    have e2':μ3 p2=some (.lst (st.map .str)):=by rw[B3.oth p2 b2];exact e2
    have e3':μ3 p3=some (.lst (nm.map .str)):=by rw[B3.oth p3 b3];exact e3
    refine ⟨⟨by omega,by omega⟩,bc e2' ?_⟩
    obtain ⟨j,rfl⟩:=Int.eq_ofNat_of_zero_le c0
    have hj:j < st.length:=by omega
    rw[List.length_map,ixE hj]
    walk_at "go"
    rw[List.getElem?_map,List.getElem?_eq_getElem hj]
    walk_at "go"
    refine bc (by rw[aU p32];exact e3') ⟨by rw[List.length_map];omega,hN _ _ ⟨st.eraseIdx j,nm++[st[j]],_,rfl,?_,?_,gL (gL B3.box b2) b3,?_,by simp;omega⟩⟩
    · rw[aU (Ne.symm p32),aD,Lw]
    · rw[aD];simp
    · refine List.Perm.trans ?_ pm
      have h1:=(KC st j hj).append_right nm
      refine List.Perm.trans ?_ h1
      rw[List.append_assoc]
      exact List.Perm.append_left _ List.perm_append_comm
  rintro ρ μ2 ⟨st,nm,v4,rfl,e2,e3,hB,pm,hl⟩
  have nl:nm.length=8:=by simpa using hl
  have nnd:nm.Nodup:=((pm.nodup_iff.mpr C3).sublist (List.sublist_append_right st nm))
  have KR:∀ x∈nm,PyData.strOk x=true∧x≠Str.ofString "" := fun x hx=>D1 x (pm.mem_iff.mp (List.mem_append_right _ hx))
  have nok:∀ x∈nm,PyData.strOk x=true:=fun x hx=>(KR x hx).1
  walk_at "go"
  intro p5 hp5
  have b5:=lF hB hp5
  have p53:p5≠p3:=fun z=>by subst z;rw[e3] at hp5;cases hp5
  refine tkE (gL hB b5) (by decide) (by decide) fun c μ3 c0 c1 B3=>?_
  walk_at "go"
  refine ⟨⟨by omega,by omega⟩,?_⟩
  refine ba (fun r ρ μ'=>∃ (wl:List WE) (v4:Option D),ρ=[some (.ls (ns.map .int)),some (.obj b),some (.obj p2),some (.obj p3),v4,some (.obj p5),none,none]∧μ' p3=some (.lst (nm.map .str))∧μ' p5=some (.lst (wl.map WE.toD))∧Box μ' b∧(∀ x∈wl,x.Ok)∧(∃ m,r=eK wl.length m∧wl.length+m=(1+c).toNat)∧∀ i < wl.length,(wl.map WE.nm)[i]? = nm[(3*i+1) % 8]?) ?_ ?_ _ _ _ ⟨[],_,rfl,by rw[B3.oth p3 b3,aU (Ne.symm p53)];exact e3,by rw[B3.oth p5 b5,aD];rfl,B3.box,(fun _ h=>nomatch h),⟨(1+c).toNat,rfl,by simp⟩,fun i h=>nomatch h⟩
  rotate_left
  · rintro d r ρ μ4 N ⟨wl,v4,rfl,e3,e5,hB,hw,⟨m,hl,hm⟩,hI⟩ hN
    cases m with
    | zero=>cases hl
    | succ m=>
    rw[CF] at hl
    obtain ⟨rfl,hr⟩:=List.cons.inj hl
    generalize hi:(wl.length:Int)=i at hr ⊢
    have i0:0≤i:=by omega
    have i1:i≤5:=by omega
    walk_at "go"
    refine bc e5 ?_
    refine ⟨⟨ns,rfl,by omega,by omega⟩,fun b' μ5 hb' hB' oth'=>?_⟩
    have n3:p3≠b':=fun z=>by subst z;rw[e3] at hb';cases hb'
    have n5:p5≠b':=fun z=>by subst z;rw[e5] at hb';cases hb'
    have nb:b≠b':=Ne.symm (lF hB hb')
    have e3':μ5 p3=some (.lst (nm.map .str)):=by rw[oth' p3 n3];exact e3
    have e5':μ5 p5=some (.lst (wl.map WE.toD)):=by rw[oth' p5 n5];exact e5
    walk_at "go"
    refine ⟨.inl (.inl (by unfold S64;decide)),by decide,bc e3' ?_⟩
    have m0:=fm0 (a:=3*i+1) (n:=8) (by decide)
    have m1:=fm1 (a:=3*i+1) (n:=8) (by decide)
    have mt:(3*i+1).fmod 8=(((3*wl.length+1) % 8:Nat):Int):=by rw[← hi,Int.fmod_eq_emod_of_nonneg _ (by decide)];omega
    have mlt:(3*wl.length+1) % 8 < nm.length:=by omega
    have ex:atD (nm.map D.str) ((3*i+1).fmod 8)=some (.str nm[(3*wl.length+1) % 8]):=by rw[mt,ck,List.getElem?_map,List.getElem?_eq_getElem mlt];rfl
    have hx:nm[(3*wl.length+1) % 8]∈nm:=List.getElem_mem mlt
    generalize hxe:nm[(3*wl.length+1) % 8]=x at ex hx
    refine yY ex ?_
    refine ⟨⟨hB',KR x hx⟩,fun w μ6 W wn B6=>?_⟩
    have e3'':μ6 p3=some (.lst (nm.map .str)):=by rw[B6.oth p3 n3];exact e3'
    have e5'':μ6 p5=some (.lst (wl.map WE.toD)):=by rw[B6.oth p5 n5];exact e5'
    have hB6:Box μ6 b:=by
      obtain ⟨g,s,c,e,h0⟩:=hB
      exact ⟨g,s,c,by rw[B6.oth b nb,oth' b nb];exact e,h0⟩
    refine bc e5'' ⟨by rw[List.length_map];omega,hN _ _ ⟨wl++[w],_,rfl,by rw[aU (Ne.symm p53)];exact e3'',by rw[aD];simp,gL hB6 b5,?_,⟨m,by rw[hr,List.length_append,← hi];rfl,by simp;omega⟩,fun j hj=>?_⟩⟩
    · intro y hy
      rcases List.mem_append.mp hy with z | z
      · exact hw y z
      · rw[List.mem_singleton.mp z];exact W
    · rw[List.length_append,List.length_singleton] at hj
      rw[List.map_append]
      by_cases jl:j < wl.length
      · rw[List.getElem?_append_left (by rw[List.length_map];exact jl)]
        exact hI j jl
      · have:j=wl.length:=by omega
        subst this
        rw[List.getElem?_append_right (by rw[List.length_map];exact Nat.le_refl _),List.length_map,Nat.sub_self,List.getElem?_eq_getElem mlt,hxe,← wn]
        rfl
  rintro ρ μ4 ⟨wl,v4,rfl,e3,e5,hB,hw,⟨m,hl,hm⟩,hI⟩
  have wl':wl.length=(1+c).toNat:=by
    cases m with
    | zero=>omega
    | succ m=>rw[CF] at hl;cases hl
  have wnd:(wl.map WE.nm).Nodup:=by
    refine List.pairwise_iff_getElem.mpr fun i j hi hj ij e=>?_
    rw[List.length_map] at hi hj
    have a1:(3*i+1) % 8 < nm.length:=by omega
    have a2:(3*j+1) % 8 < nm.length:=by omega
    have h1:=hI i hi
    have h2:=hI j hj
    rw[List.getElem?_eq_getElem (by rw[List.length_map];exact hi),List.getElem?_eq_getElem a1] at h1
    rw[List.getElem?_eq_getElem (by rw[List.length_map];exact hj),List.getElem?_eq_getElem a2] at h2
    have:=(List.getElem_inj nnd).mp ((Option.some.inj h1).symm.trans (e.trans (Option.some.inj h2)))
    omega
  walk_at "go"
  intro p6 hp6
  have b6:=lF hB hp6
  have p63:p6≠p3:=fun z=>by subst z;rw[e3] at hp6;cases hp6
  have p65:p6≠p5:=fun z=>by subst z;rw[e5] at hp6;cases hp6
  refine bc (by rw[aU (Ne.symm p63)];exact e3) ?_
  refine ⟨nm,⟨rfl,by omega⟩,fun sn sp1 sp2=>?_⟩
  have e5d:dn (up μ4 p6 (.lst [])) p3 p5=some (.lst (wl.map WE.toD)):=by unfold L3.dn;rw[if_neg p53,aU (Ne.symm p65)];exact e5
  have e6d:dn (up μ4 p6 (.lst [])) p3 p6=some (.lst []):=by unfold L3.dn;rw[if_neg p63,aD]
  have hBd:=GX (gL (o:=.lst []) hB b6) b3
  generalize dn (up μ4 p6 (.lst [])) p3=μ5 at e5d e6d hBd
  refine tkE hBd (by decide) (by decide) fun c9 μ6 c90 c91 B6=>?_
  walk_at "go"
  rw[Mz _ c90,← List.map_take,Bt]
  generalize hT:sn.take c9.toNat=T
  have snd:sn.Nodup:=sp1.nodup_iff.mpr nnd
  have Tnd:T.Nodup:=by rw[← hT];exact snd.sublist (List.take_sublist _ _)
  have Tok:∀ x∈T,PyData.strOk x=true:=fun x hx=>nok x (sp1.mem_iff.mp (by rw[← hT] at hx;exact List.mem_of_mem_take hx))
  have Tl:T.length≤8:=by rw[← hT,List.length_take,sp1.length_eq];omega
  refine ba (fun r ρ μ'=>∃ (dn rest:List Str) (sl:List SE) (v4 v7:Option D),r=enF dn.length rest∧dn++rest=T∧sl.map SE.nm=dn∧(∀ s∈sl,s.Ok∧s.road.Sublist (wl.map WE.nm))∧ρ=[some (.ls (ns.map .int)),some (.obj b),some (.obj p2),some (.obj p3),v4,some (.obj p5),some (.obj p6),v7]∧μ' p5=some (.lst (wl.map WE.toD))∧μ' p6=some (.lst (sl.map SE.toD))∧Box μ' b) ?_ ?_ _ _ _ ⟨[],T,[],_,_,rfl,rfl,rfl,(fun _ h=>nomatch h),rfl,by rw[B6.oth p5 b5];exact e5d,by rw[B6.oth p6 b6];exact e6d,B6.box⟩
  rotate_left
  · rintro d r ρ μ7 N ⟨dn,rest,sl,v4,v7,er,eT,en,hs,rfl,e5,e6,hB⟩ hN
    cases rest with
    | nil=>cases er
    | cons x rest=>
    cases er
    have Tl':dn.length+(rest.length+1)=T.length:=by rw[← eT];simp
    have xok:=Tok x (by rw[← eT];simp)
    walk_at "go"
    refine bc e6 ?_
    refine ⟨⟨ns,rfl,by omega,by omega⟩,fun b' μ8 hb' hB' oth'=>?_⟩
    have n5:p5≠b':=fun z=>by subst z;rw[e5] at hb';cases hb'
    have n6:p6≠b':=fun z=>by subst z;rw[e6] at hb';cases hb'
    have nb:b≠b':=Ne.symm (lF hB hb')
    have e5':μ8 p5=some (.lst (wl.map WE.toD)):=by rw[oth' p5 n5];exact e5
    have e6':μ8 p6=some (.lst (sl.map SE.toD)):=by rw[oth' p6 n6];exact e6
    walk_at "go"
    refine ⟨wl,⟨hB',n5,e5',⟨by omega,by omega⟩,hw,xok⟩,fun s μ9 S sn' so B9=>?_⟩
    have hB9:Box μ9 b:=by
      obtain ⟨g,s,c,e,h0⟩:=hB
      exact ⟨g,s,c,by rw[B9.oth b nb,oth' b nb];exact e,h0⟩
    refine bc (by rw[B9.oth p6 n6];exact e6') ⟨by rw[List.length_map,show sl.length=dn.length by rw[← en,List.length_map]];omega,hN _ _ ⟨dn++[x],rest,sl++[s],_,_,by rw[List.length_append];rfl,by rw[← eT];simp,by rw[List.map_append,en];simp[sn'],?_,rfl,by rw[aU (Ne.symm p65),B9.oth p5 n5];exact e5',by rw[aD];simp,gL hB9 b6⟩⟩
    intro y hy
    rcases List.mem_append.mp hy with z | z
    · exact hs y z
    · rw[List.mem_singleton.mp z];exact ⟨S,so⟩
  rintro ρ μ7 ⟨dn,rest,sl,v4,v7,er,eT,en,hs,rfl,e5,e6,hB⟩
  cases rest with
  | cons _ _=>cases er
  | nil=>
  rw[List.append_nil] at eT
  walk_at "go"
  refine tkE hB (by decide) (by decide) fun c10 μ8 c100 c101 B8=>?_
  walk_at "go"
  refine bc (by rw[B8.oth p5 b5];exact e5) ?_
  walk_at "go"
  refine bc (by rw[B8.oth p6 b6];exact e6) ?_
  exact ⟨_,.refl _,k (.int (1+c10)) wl sl _ ⟨hw,(fun s h=>(hs s h).1),(fun s h=>(hs s h).2),by omega,by rw[← List.length_map (f:=SE.nm),en,eT];exact Tl,by rw[en,eT];exact Tnd,wnd⟩⟩
def bf:FSp:=fun ds μ Q=>match ds with
  | [d1,d2]=>∃ x y:Rat,((d1=frR x∧d2=frR y)∧BR x∧BR y)∧Q (.bl (decide (x≤y))) μ
  | _=>False
theorem lj:∀ ds μ Q,bf ds μ Q→ds.length=2:=by
  unfold bf
  walk_at "ln"
def gY:STr:=aT (aj rLe (aj cg (aj L3.rIx (ah 0) (TC (.int 0))) (aj L3.rIx (ah 1) (TC (.int 1)))) (aj cg (aj L3.rIx (ah 1) (TC (.int 0))) (aj L3.rIx (ah 0) (TC (.int 1)))))
theorem mB:∀ ds μ Q,bf ds μ Q→gY { nx:=fun _ μ'=>RT Q .non μ',rt:=RT Q } (ini 2 ds) μ:=by
  intro ds μ Q h
  unfold bf at h
  split at h
  case h_2=>exact h.elim
  rename_i d1 d2
  walk_at "ini"
  unfold gY
  walk_at "go"
  obtain ⟨x,y,⟨⟨rfl,rfl⟩,b1,b2⟩,k⟩:=h
  walk_at "go"
  refine ⟨b1.n.mul b2.d,b2.n.mul b1.d,?_⟩
  rw[HX]
  exact ⟨_,.refl _,k⟩
def aO:FSp:=fun ds μ Q=>match ds with
  | [d]=>∃ s:SE,(d=s.toD∧s.Ok)∧∀ x:Int×Int,SOk x→Vl (frS x) s.lim s.bt→x.2≤8→0≤x.1→x.1≤60*x.2→Q (frS x) μ
  | _=>False
theorem iB:∀ ds μ Q,aO ds μ Q→ds.length=1:=by
  unfold aO
  walk_at "ln"
def eF:STr:=aT (au aQ (ag (au cf (ag (aj L3.rIx (ah 0) (TC (.int 5))) (aw))) (ag (aj L3.rIx (ah 0) (TC (.int 2))) (aw))))
theorem iW:∀ ds μ Q,aO ds μ Q→eF { nx:=fun _ μ'=>RT Q .non μ',rt:=RT Q } (ini 1 ds) μ:=by
  intro ds μ Q h
  unfold aO at h
  split at h
  case h_2=>exact h.elim
  rename_i d
  walk_at "ini"
  unfold eF
  walk_at "go"
  obtain ⟨s,⟨rfl,S⟩,k⟩:=h
  walk_at "go"
  refine ⟨s.R,⟨S.R,rfl⟩,?_⟩
  walk_at "go"
  have b0:=S.b0
  have b1:=S.b1
  have l1:=S.lim
  refine ⟨⟨by omega,by unfold eR;omega⟩,?_⟩
  have V:=nH (s.R.r / s.R.s) (b:=s.bt) (by omega)
  have O:=Im (a:=s.R.r / s.R.s) (b:=s.bt) (by omega) (Le.of (by unfold SE.lim at l1;omega) (by unfold SE.lim at l1;omega))
  have F:=mE (a:=s.R.r / s.R.s) (b:=s.bt) (lo:=0) (hi:=60) (by omega) (by omega) (by unfold SE.lim at l1;omega) (by unfold SE.lim at l1;omega)
  have f1:=F.ge
  have f2:=F.le
  exact ⟨_,.refl _,k (_,_) O.1 V (by have:=O.2;show Int.fdiv s.bt _≤8;omega) (by show 0≤Int.fdiv (s.R.r / s.R.s) _;omega) f2⟩
theorem iL {ws:List WE}{ss:List SE}{f:Fm}(F:FE ws ss f){tab:List (L2.Key×D)}(T:jv tab f ss){s:SE}(hs:s∈ss):a5 tab (.inr s.nm)=some (frR (val f s)):=by
  rw[T s hs]
  unfold val
  cases e:f s.nm with
  | none=>exact absurd e (F.a s hs)
  | some v=>rfl
def bM:FSp:=fun ds μ Q=>match ds with
  | [d,.str n,.obj q]=>∃ (g:D) (ws:List WE) (ss:List SE) (f:Fm) (tab:List (L2.Key×D)),(d=a6 g ws ss∧PyData.strOk n=true∧FE ws ss f∧μ q=some (.dct tab)∧jv tab f ss)∧Q (frR (sS f (onL n ss))) μ
  | _=>False
theorem mw:∀ ds μ Q,bM ds μ Q→ds.length=3:=by
  unfold bM
  walk_at "ln"
def i5:STr:=aF (aL (cK (ag (TC (.int 0)) (ag (TC (.int 1)) (aw)))) (ax 3)) (aF (fF (cH (aj L3.rIx (ah 0) (TC (.int 2)))) (ax 4) (dM (TB (aj (oz false) (ah 1) (aj L3.rIx (ah 4) (TC (.int 1))))) (aF (aL (iF (ah 2) (aj L3.rIx (ah 4) (TC (.int 0)))) (ax 5)) (aL (au aQ (ag (aj aM (aj cg (aj L3.rIx (ah 3) (TC (.int 0))) (aj L3.rIx (ah 5) (TC (.int 1)))) (aj cg (aj L3.rIx (ah 5) (TC (.int 0))) (aj L3.rIx (ah 3) (TC (.int 1))))) (ag (aj cg (aj L3.rIx (ah 3) (TC (.int 1))) (aj L3.rIx (ah 5) (TC (.int 1)))) (aw)))) (ax 3))) (bX))) (aT (ah 3)))
theorem mQ:∀ ds μ Q,bM ds μ Q→i5 { nx:=fun _ μ'=>RT Q .non μ',rt:=RT Q } (ini 6 ds) μ:=by
  intro ds μ Q h
  unfold bM at h
  split at h
  case h_2=>exact h.elim
  rename_i d n q
  walk_at "ini"
  unfold i5
  walk_at "go"
  obtain ⟨g,ws,ss,f,tab,⟨rfl,on,F,eq,T⟩,k⟩:=h
  have P:=F.P
  walk_at "go"
  have ol:(onL n ss).length≤ss.length:=List.length_filter_le _ _
  have sl:=P.sl
  have d8:=dY (c:=8) (Nat.le_refl _)
  rw[show (D.tup [.int 0,.int 1])=frR 0 from gG 0]
  refine ba (fun r ρ μ'=>∃ (xs:List SE) (t:Rat) (j:Nat) (v4 v5:Option D),r=xs.map SE.toD∧(∀ s∈xs,s∈ss)∧ρ=[some (a6 g ws ss),some (.str n),some (.obj q),some (frR t),v4,v5]∧μ'=μ∧SmR (dO 8) t j∧j+xs.length≤8∧t+sS f (onL n xs)=sS f (onL n ss)) ?_ ?_ _ _ _ ⟨ss,0,0,_,_,rfl,(fun _ h=>h),rfl,rfl,SmR.zero,by omega,by rw[Rat.zero_add]⟩
  · rintro ρ μ' ⟨xs,t,j,v4,v5,er,_,rfl,rfl,S,_,e⟩
    cases xs with
    | cons _ _=>cases er
    | nil=>
    have e:t+0=sS f (onL n ss):=e
    rw[Rat.add_zero] at e
    rw[← e] at k
    walk_at "go"
    exact ⟨_,.refl _,k⟩
  · rintro d r ρ μ' N ⟨xs,t,j,v4,v5,er,hx,rfl,rfl,S,hj,e⟩ hN
    cases xs with
    | nil=>cases er
    | cons s xs=>
    cases er
    rw[List.length_cons] at hj
    have hs:=hx s List.mem_cons_self
    have hx':=fun y hy=>hx y (List.mem_cons_of_mem s hy)
    have So:=P.s s hs
    walk_at "go"
    rw[gh]
    refine ⟨⟨fb So.r,on⟩,?_⟩
    refine kif (fun h=>?_) fun h=>?_
    · have eo:onL n (s::xs)=s::onL n xs:=by unfold onL;rw[List.filter_cons,if_pos (decide_eq_true h)]
      rw[eo,ky] at e
      walk_at "go"
      refine di eq ?_
      rw[iL F T hs]
      have B:=F.br hs
      have Tb:=S.br (bA 8) d8 (by omega)
      walk_at "go"
      have d0:0 < (t.den:Int):=by have:=t.den_pos;omega
      have d1:0 < ((val f s).den:Int):=by have:=(val f s).den_pos;omega
      refine ⟨Tb.n.mul B.d,B.n.mul Tb.d,Tb.d.mul B.d,⟨Int.mul_pos d0 d1,Tb.d.mm B.d⟩,?_⟩
      have V:=nH (t.num*(val f s).den+(val f s).num*t.den) (Int.mul_pos d0 d1)
      have ez:=xg V
      unfold fr
      rw[ez]
      exact hN _ _ ⟨xs,t+val f s,j+1,_,_,rfl,hx',rfl,rfl,S.add (F.i s hs) (F.l s hs).1 (F.l s hs).2,by omega,by rw[← e,Rat.add_assoc]⟩
    · have eo:onL n (s::xs)=onL n xs:=by unfold onL;rw[List.filter_cons,if_neg (by simpa using h)]
      rw[eo] at e
      walk_at "go"
      exact hN _ _ ⟨xs,t,j+1,_,_,rfl,hx',rfl,rfl,S.skip,by omega,e⟩
def iA (ws:List WE)(ss:List SE)(f:Fm)(s:SE):List Str:=(ws.filter fun w=>decide (w.nm∈s.road)&&sN ss f s w).map WE.nm
def bN:FSp:=fun ds μ Q=>match ds with
  | [d,sd,.obj q]=>∃ (g:D) (ws:List WE) (ss:List SE) (f:Fm) (tab:List (L2.Key×D)) (s:SE),(d=a6 g ws ss∧sd=s.toD∧s∈ss∧FE ws ss f∧μ q=some (.dct tab)∧jv tab f ss)∧Q (.ls ((iA ws ss f s).map .str)) μ
  | _=>False
theorem mr:∀ ds μ Q,bN ds μ Q→ds.length=3:=by
  unfold bN
  walk_at "ln"
def jb:STr:=aF (aL (kr (aw)) (ax 3)) (aF (fF (cH (aj L3.rIx (ah 0) (TC (.int 1)))) (ax 4) (aF (aL (bO (cH (aj L3.rIx (ah 0) (TC (.int 2)))) (ax 0) (TB (aj (oz false) (aj L3.rIx (ah 1) (TC (.int 0))) (aj L3.rIx (ah 0) (TC (.int 1))))) (aj L3.rIx (ah 0) (TC (.int 0))) 1 [4]) (ax 5)) (aF (aL (aj rEq (au bM (ag (ah 0) (ag (aj L3.rIx (ah 4) (TC (.int 0))) (ag (ah 2) (aw))))) (cK (ag (aj L3.rIx (ah 4) (TC (.int 1))) (ag (TC (.int 1)) (aw))))) (ax 6)) (aF (aL (au Fw (ag (bO (cH (ah 5)) (ax 0) (ik) (au bf (ag (iF (ah 1) (ah 0)) (ag (iF (ah 1) (aj L3.rIx (ah 2) (TC (.int 0)))) (aw)))) 1 [2,1]) (aw))) (ax 7)) (dM (sW (TB (aj (oz false) (aj L3.rIx (ah 4) (TC (.int 0))) (aj L3.rIx (ah 1) (TC (.int 1))))) (sW (TB (ah 6)) (TB (ah 7)))) (fP (l8 (ah 3) (aj L3.rIx (ah 4) (TC (.int 0))))) (bX)))))) (aT (xW (ah 3))))
theorem nB:∀ ds μ Q,bN ds μ Q→jb { nx:=fun _ μ'=>RT Q .non μ',rt:=RT Q } (ini 8 ds) μ:=by
  intro ds μ Q h
  unfold bN at h
  split at h
  case h_2=>exact h.elim
  rename_i d sd q
  walk_at "ini"
  unfold jb
  walk_at "go"
  obtain ⟨g,ws,ss,f,tab,s,⟨rfl,rfl,hs,F,eq,T⟩,k⟩:=h
  have P:=F.P
  have S:=P.s s hs
  have sl:=P.sl
  have wl:=P.wl
  intro p hp
  have pq:p≠q:=fun z=>by subst z;rw[eq] at hp;cases hp
  walk_at "go"
  refine ba (fun r ρ μ'=>∃ (dn rs:List WE) (v4 v5 v6 v7:Option D),r=rs.map WE.toD∧dn++rs=ws∧ρ=[some (a6 g ws ss),some s.toD,some (.obj q),some (.obj p),v4,v5,v6,v7]∧μ'=up μ p (.lst ((iA dn ss f s).map .str))) ?_ ?_ _ _ _ ⟨[],ws,_,_,_,_,rfl,rfl,rfl,rfl⟩
  · rintro ρ μ' ⟨dn,rs,v4,v5,v6,v7,er,es,rfl,rfl⟩
    cases rs with
    | cons _ _=>cases er
    | nil=>
    rw[List.append_nil] at es
    subst es
    walk_at "go"
    rw[Ja hp]
    exact ⟨_,.refl _,k⟩
  · rintro d r ρ μ' N ⟨dn,rs,v4,v5,v6,v7,er,es,rfl,rfl⟩ hN
    cases rs with
    | nil=>cases er
    | cons w rs=>
    cases er
    have hw:w∈ws:=by rw[← es];simp
    have W:=P.w w hw
    have p0:=W.p0
    have p1:=W.p1
    have dl:dn.length+(rs.length+1)=ws.length:=by rw[← es];simp
    generalize hμ:up μ p (.lst ((iA dn ss f s).map .str))=μ1 at *
    have e1:μ1 q=some (.dct tab):=by rw[← hμ,aU (Ne.symm pq)];exact eq
    have e1p:μ1 p=some (.lst ((iA dn ss f s).map .str)):=by rw[← hμ,aD]
    walk_at "go"
    refine cM ss SE.toD (fun y=>if decide (w.nm∈y.road) then some (.str y.nm) else none) rfl (by omega) (fun y hy μ' _ N m=>?_) ?_
    · walk_at "go"
      rw[gh]
      refine ⟨⟨fb (P.s y hy).r,W.n⟩,?_⟩
      refine kif (fun h=>?_) fun h=>?_
      · rw[decide_eq_true h] at m;exact m
      · rw[decide_eq_false h] at m;exact m
    rw[jh]
    have eo:(ss.filter fun y=>decide (w.nm∈y.road))=onL w.nm ss:=rfl
    rw[eo]
    have ol:(onL w.nm ss).length≤ss.length:=List.length_filter_le _ _
    walk_at "go"
    refine ⟨g,ws,ss,f,tab,⟨rfl,W.n,F,e1,T⟩,?_⟩
    walk_at "go"
    refine ⟨rfl,?_⟩
    rw[show (D.tup [.int w.pc,.int 1])=frR (w.pc:Rat) from gG _,kK]
    refine bH (onL w.nm ss) (fun y=>.str y.nm) (fun y=>.bl (decide (val f y≤val f s))) rfl (by omega) (fun y hy μ' s' N m=>?_) ?_
    · have hy':=onS y hy
      walk_at "go"
      refine di (s' q _ e1) ?_
      rw[iL F T hy']
      walk_at "go"
      refine di (s' q _ e1) ?_
      rw[iL F T hs]
      walk_at "go"
      exact ⟨val f y,val f s,⟨⟨rfl,rfl⟩,F.br hy',F.br hs⟩,m⟩
    refine ⟨(onL w.nm ss).map fun y=>decide (val f y≤val f s),by rw[List.map_map];rfl,?_⟩
    rw[all_true]
    walk_at "go"
    rw[gh]
    refine ⟨⟨fb S.r,W.n⟩,?_⟩
    have bn:iA (dn++[w]) ss f s=iA dn ss f s++if (decide (w.nm∈s.road)&&sN ss f s w)=true then [w.nm] else []:=by
      unfold iA
      rw[List.filter_append,List.map_append]
      congr 1
      rw[List.filter_cons]
      split<;>rfl
    have bl:(iA dn ss f s).length≤dn.length:=by unfold iA;rw[List.length_map];exact List.length_filter_le _ _
    unfold sN at bn
    have no:(decide (w.nm∈s.road)&&(decide (sS f (onL w.nm ss)=(w.pc:Rat))&&(onL w.nm ss).all fun t=>decide (val f t≤val f s)))=false→N [some (a6 g ws ss),some s.toD,some (.obj q),some (.obj p),some w.toD,some (.ls ((onL w.nm ss).map fun y=>.str y.nm)),some (.bl (decide (sS f (onL w.nm ss)=(w.pc:Rat)))),some (.bl ((onL w.nm ss).all fun y=>decide (val f y≤val f s)))] μ1:=fun h=>by
      refine hN _ _ ⟨dn++[w],rs,_,_,_,_,rfl,by rw[← es];simp,rfl,?_⟩
      rw[bn,h,← hμ]
      simp
    refine kif (fun h1=>?_) fun h1=>no (by rw[decide_eq_false h1];rfl)
    walk_at "go"
    refine kif (fun h2=>?_) fun h2=>no (by rw[decide_eq_false h2,Bool.false_and,Bool.and_false])
    walk_at "go"
    cases h3:(onL w.nm ss).all fun t=>decide (val f t≤val f s) with
    | false=>
      rw[h3] at no
      walk_at "go"
      exact no (by rw[Bool.and_false,Bool.and_false])
    | true=>
      walk_at "go"
      refine bc e1p (bc e1p ⟨by rw[List.length_map];omega,hN _ _ ⟨dn++[w],rs,_,_,_,_,rfl,by rw[← es];simp,rfl,?_⟩⟩)
      rw[bn,h3,decide_eq_true h1,decide_eq_true h2,← hμ,oH]
      simp
def bF:FSp:=fun ds μ Q=>match ds with
  | [.ls ds]=>∃ xs:List Rat,(ds=xs.map frR∧xs≠[]∧∀ x∈xs,BR x)∧∀ m,jg m xs→Q (frR m) μ
  | _=>False
theorem o6:∀ ds μ Q,bF ds μ Q→ds.length=1:=by
  unfold bF
  walk_at "ln"
def jN:STr:=aF (aL (aj L3.rIx (ah 0) (TC (.int 0))) (ax 1)) (aF (fF (cH (ah 0)) (ax 2) (dM (TB (au bf (ag (ah 2) (ag (ah 1) (aw))))) (aL (ah 2) (ax 1)) (bX))) (aT (ah 1)))
theorem pK:∀ ds μ Q,bF ds μ Q→jN { nx:=fun _ μ'=>RT Q .non μ',rt:=RT Q } (ini 3 ds) μ:=by
  intro ds μ Q h
  unfold bF at h
  split at h
  case h_2=>exact h.elim
  rename_i ds
  walk_at "ini"
  unfold jN
  walk_at "go"
  obtain ⟨xs,⟨rfl,ne,hB⟩,k⟩:=h
  cases xs with
  | nil=>exact absurd rfl ne
  | cons x r=>
  walk_at "go"
  refine ba (fun q ρ μ'=>∃ (dn ys:List Rat) (m:Rat) (v2:Option D),q=ys.map frR∧dn++ys=x::r∧m∈x::r∧(∀ y∈dn,m≤y)∧ρ=[some (.ls ((x::r).map frR)),some (frR m),v2]∧μ'=μ) ?_ ?_ _ _ _ ⟨[],x::r,x,_,rfl,rfl,List.mem_cons_self,(fun _ h=>nomatch h),rfl,rfl⟩
  · rintro ρ μ' ⟨dn,ys,m,v2,er,es,hm,hl,rfl,rfl⟩
    cases ys with
    | cons _ _=>cases er
    | nil=>
    rw[List.append_nil] at es
    walk_at "go"
    exact ⟨_,.refl _,k m ⟨hm,fun y hy=>hl y (by rw[es];exact hy)⟩⟩
  · rintro d q ρ μ' N ⟨dn,ys,m,v2,er,es,hm,hl,rfl,rfl⟩ hN
    cases ys with
    | nil=>cases er
    | cons y ys=>
    cases er
    have hy:y∈x::r:=by rw[← es];simp
    walk_at "go"
    refine ⟨y,m,⟨⟨rfl,rfl⟩,hB y hy,hB m hm⟩,?_⟩
    walk_at "go"
    refine kif (fun h=>?_) fun h=>?_
    · walk_at "go"
      refine hN _ _ ⟨dn++[y],ys,y,_,rfl,by rw[← es];simp,hy,fun z hz=>?_,rfl,rfl⟩
      rcases List.mem_append.mp hz with q | q
      · exact Rat.le_trans h (hl z q)
      · rw[List.mem_singleton.mp q];exact Rat.le_refl
    · refine hN _ _ ⟨dn++[y],ys,m,_,rfl,by rw[← es];simp,hm,fun z hz=>?_,rfl,rfl⟩
      rcases List.mem_append.mp hz with q | q
      · exact hl z q
      · rw[List.mem_singleton.mp q];exact Rat.le_of_lt (Rat.not_le.mp h)
theorem Ft {tab:List (L2.Key×D)}{f:Fm}{ss:List SE}(T:jv tab f ss){s:SE}(hs:s∈ss):(a5 tab (.inr s.nm)).getD (.tup [.int 0,.int 1])=frR (val f s):=by
  rw[T s hs,show (D.tup [.int 0,.int 1])=frR 0 from gG 0]
  unfold val
  cases f s.nm<;>rfl
theorem tL (f:Fm):∀ l:List SE,(l.filter fun s=>decide (f s.nm=none)).length=cS f l
  | []=>rfl
  | x::r=>by
    rw[List.filter_cons,gH]
    by_cases e:f x.nm=none
    · rw[if_pos (decide_eq_true e),if_pos e,List.length_cons,tL f r];omega
    · rw[if_neg (by simpa using e),if_neg e,tL f r];omega
def b9:FSp:=fun ds μ Q=>match ds with
  | [d,.str n,.obj q]=>∃ (g:D) (ws:List WE) (ss:List SE) (f:Fm) (w:WE) (tab:List (L2.Key×D)) (c:Nat),(d=a6 g ws ss∧n=w.nm∧w∈ws∧FT ws ss f c∧0 < cS f (onL w.nm ss)∧μ q=some (.dct tab)∧jv tab f ss)∧Q (frR (eS ss f w)) μ
  | _=>False
theorem oE:∀ ds μ Q,b9 ds μ Q→ds.length=3:=by
  unfold b9
  walk_at "ln"
def j2:STr:=aF (aL (aj L3.rIx (bO (cH (aj L3.rIx (ah 0) (TC (.int 1)))) (ax 0) (TB (aj rEq (aj L3.rIx (ah 0) (TC (.int 0))) (ah 1))) (aj L3.rIx (ah 0) (TC (.int 1))) 1 [1]) (TC (.int 0))) (ax 3)) (aF (aL (bO (cH (aj L3.rIx (ah 0) (TC (.int 2)))) (ax 0) (TB (aj (oz false) (ah 1) (aj L3.rIx (ah 0) (TC (.int 1))))) (aj L3.rIx (ah 0) (TC (.int 0))) 1 [1]) (ax 4)) (aF (aL (cK (ag (TC (.int 0)) (ag (TC (.int 1)) (aw)))) (ax 5)) (aF (fF (cH (ah 4)) (ax 6) (aF (aL (xO (ah 2) (ah 6) (cK (ag (TC (.int 0)) (ag (TC (.int 1)) (aw))))) (ax 7)) (aL (au aQ (ag (aj aM (aj cg (aj L3.rIx (ah 5) (TC (.int 0))) (aj L3.rIx (ah 7) (TC (.int 1)))) (aj cg (aj L3.rIx (ah 7) (TC (.int 0))) (aj L3.rIx (ah 5) (TC (.int 1))))) (ag (aj cg (aj L3.rIx (ah 5) (TC (.int 1))) (aj L3.rIx (ah 7) (TC (.int 1)))) (aw)))) (ax 5)))) (aF (aL (au gn (ag (bO (cH (ah 4)) (ax 0) (TB (r9 true (ah 0) (ah 1))) (ah 0) 1 [2]) (aw))) (ax 8)) (aT (au aQ (ag (aj vD (aj cg (ah 3) (aj L3.rIx (ah 5) (TC (.int 1)))) (aj L3.rIx (ah 5) (TC (.int 0)))) (ag (aj cg (aj L3.rIx (ah 5) (TC (.int 1))) (ah 8)) (aw)))))))))
theorem pC:∀ ds μ Q,b9 ds μ Q→j2 { nx:=fun _ μ'=>RT Q .non μ',rt:=RT Q } (ini 9 ds) μ:=by
  intro ds μ Q h
  unfold b9 at h
  split at h
  case h_2=>exact h.elim
  rename_i d n q
  walk_at "ini"
  unfold j2
  walk_at "go"
  obtain ⟨g,ws,ss,f,w,tab,c,⟨rfl,rfl,hw,F,c0,eq,T⟩,k⟩:=h
  have P:=F.P
  have W:=P.w w hw
  have sl:=P.sl
  have wl:=P.wl
  have p0:=W.p0
  have p1:=W.p1
  have cl:c≤8:=by have:=F.n;omega
  have d8:=dY cl
  walk_at "go"
  refine cM ws WE.toD (fun y=>if decide (y.nm=w.nm) then some (D.int y.pc) else none) rfl (by omega) (fun y hy μ' _ N m=>?_) ?_
  · walk_at "go"
    refine ⟨⟨(P.w y hy).n,W.n⟩,?_⟩
    refine kif (fun h=>?_) fun h=>?_
    · rw[decide_eq_true h] at m;exact m
    · rw[decide_eq_false h] at m;exact m
  rw[jh,zI P.wn hw]
  walk_at "go"
  refine cM ss SE.toD (fun y=>if decide (w.nm∈y.road) then some (.str y.nm) else none) rfl (by omega) (fun y hy μ' _ N m=>?_) ?_
  · walk_at "go"
    rw[gh]
    refine ⟨⟨fb (P.s y hy).r,W.n⟩,?_⟩
    refine kif (fun h=>?_) fun h=>?_
    · rw[decide_eq_true h] at m;exact m
    · rw[decide_eq_false h] at m;exact m
  rw[jh]
  have eo:(ss.filter fun y=>decide (w.nm∈y.road))=onL w.nm ss:=rfl
  rw[eo]
  have ol:(onL w.nm ss).length≤ss.length:=List.length_filter_le _ _
  walk_at "go"
  rw[show (D.tup [.int 0,.int 1])=frR 0 from gG 0]
  refine ba (fun r ρ μ'=>∃ (xs:List SE) (t:Rat) (j:Nat) (v6 v7:Option D),r=xs.map (fun s=>.str s.nm)∧(∀ s∈xs,s∈ss)∧ρ=[some (a6 g ws ss),some (.str w.nm),some (.obj q),some (.int w.pc),some (.ls ((onL w.nm ss).map fun s=>.str s.nm)),some (frR t),v6,v7,none]∧μ'=μ∧SmR (dO c) t j∧j+xs.length≤8∧t+sS f xs=sS f (onL w.nm ss)) ?_ ?_ _ _ _ ⟨onL w.nm ss,0,0,_,_,rfl,onS,rfl,rfl,SmR.zero,by omega,by rw[Rat.zero_add]⟩
  · rintro ρ μ' ⟨xs,t,j,v6,v7,er,_,rfl,rfl,S,hj,e⟩
    cases xs with
    | cons _ _=>cases er
    | nil=>
    have e:t+0=sS f (onL w.nm ss):=e
    rw[Rat.add_zero] at e
    walk_at "go"
    refine cM (onL w.nm ss) (fun s=>.str s.nm) (fun s=>if decide (f s.nm=none) then some (.str s.nm) else none) rfl (by omega) (fun s hs μ2 s2 M m=>?_) ?_
    · walk_at "go"
      refine di (s2 q _ eq) ?_
      rw[T s (onS s hs)]
      walk_at "go"
      cases ef:f s.nm with
      | none=>rw[ef] at m;exact m
      | some v=>rw[ef] at m;exact m
    rw[jh]
    walk_at "go"
    rw[List.length_map,tL]
    have cle:=qP (f:=f) (onL w.nm ss)
    have Tb:=S.br (bA c) d8 (by omega)
    have t0:0 < (t.den:Int):=by have:=t.den_pos;omega
    have kb:Bd (cS f (onL w.nm ss):Int):=Le.of (by omega) (by omega)
    have pos:0 < (t.den:Int)*(cS f (onL w.nm ss):Int):=Int.mul_pos t0 (by omega)
    refine ⟨.inl (.inl (by unfold S64;omega)),Tb.d.mul kb,⟨pos,Tb.d.mm kb⟩,?_⟩
    have V:=nH (w.pc*t.den - t.num) pos
    have lm:=gD c0
    have td:=eU t
    have ez:=vr (r:=eS ss f w) V (by
      rw[Rat.intCast_mul,Rat.intCast_sub,Rat.intCast_mul,← td,e]
      exact MM lm)
    unfold fr
    rw[ez]
    exact ⟨_,.refl _,k⟩
  · rintro d r ρ μ' N ⟨xs,t,j,v6,v7,er,hx,rfl,rfl,S,hj,e⟩ hN
    cases xs with
    | nil=>cases er
    | cons s xs=>
    cases er
    rw[List.length_cons] at hj
    rw[ky] at e
    have hs:=hx s List.mem_cons_self
    have hx':=fun y hy=>hx y (List.mem_cons_of_mem s hy)
    have bv:InD (dO c) (val f s)∧0≤val f s∧val f s≤60:=by
      unfold val
      cases ef:f s.nm with
      | none=>exact ⟨InD.int _ 0,Rat.le_refl,by decide⟩
      | some v=>exact ⟨F.b.i s hs v ef,F.b.l s hs v ef⟩
    have B:BR (val f s):=BR.of bv.1 (bA c) d8 (Rat.le_trans (by decide) bv.2.1) (Rat.le_trans bv.2.2 (by decide))
    have Tb:=S.br (bA c) d8 (by omega)
    walk_at "go"
    refine di eq (di eq ?_)
    rw[Ft T hs]
    walk_at "go"
    have d0:0 < (t.den:Int):=by have:=t.den_pos;omega
    have d1:0 < ((val f s).den:Int):=by have:=(val f s).den_pos;omega
    refine ⟨Tb.n.mul B.d,B.n.mul Tb.d,Tb.d.mul B.d,⟨Int.mul_pos d0 d1,Tb.d.mm B.d⟩,?_⟩
    have V:=nH (t.num*(val f s).den+(val f s).num*t.den) (Int.mul_pos d0 d1)
    have ez:=xg V
    unfold fr
    rw[ez]
    exact hN _ _ ⟨xs,t+val f s,j+1,_,_,rfl,hx',rfl,rfl,S.add bv.1 bv.2.1 bv.2.2,by omega,by rw[← e,Rat.add_assoc]⟩
theorem DY {tab:List (L2.Key×D)}{f:Fm}{ss:List SE}(T:jv tab f ss)(n:Str)(x:Rat):jv (putD tab (.inr n) (frR x)) (vS f n x) ss:=fun s hs=>by
  rw[iU]
  unfold vS
  by_cases e:s.nm=n
  · rw[if_pos (by rw[e]),if_pos e];rfl
  · rw[if_neg (fun z=>e (by injection z)),if_neg e];exact T s hs
theorem Ec (f:Fm)(dn:List SE)(s:SE):bW (dn++[s]) f=bW dn f++if f s.nm=none then [s] else []:=by
  unfold bW
  rw[List.filter_append]
  congr 1
  rw[List.filter_cons]
  by_cases e:f s.nm=none
  · rw[if_pos (decide_eq_true e),if_pos e];rfl
  · rw[if_neg (by simpa using e),if_neg e];rfl
def Ea (ws:List WE)(ss:List SE)(f:Fm)(s:SE):D:=.tup [.str s.nm,frR (bz ws ss f s)]
def cD:FSp:=fun ds μ Q=>match ds with
  | [d]=>∃ (g:D) (ws:List WE) (ss:List SE),(d=a6 g ws ss∧PE' ws ss)∧∀ (q:Addr) (f:Fm) (tab:List (L2.Key×D)) μ',FE ws ss f→μ' q=some (.dct tab)→jv tab f ss→Q (.obj q) μ'
  | _=>False
theorem p8:∀ ds μ Q,cD ds μ Q→ds.length=1:=by
  unfold cD
  walk_at "ln"
def lZ:STr:=aF (aL (zM) (ax 1)) (aF (nQ (TB (aj rLt (au uC (ag (ah 1) (aw))) (au gn (ag (aj L3.rIx (ah 0) (TC (.int 2))) (aw))))) (aF (aL (kr (aw)) (ax 2)) (aF (fF (cH (aj L3.rIx (ah 0) (TC (.int 2)))) (ax 3) (dM (TB (r9 true (aj L3.rIx (ah 3) (TC (.int 0))) (ah 1))) (aF (aL (aj aM (gv (ag (au aO (ag (ah 3) (aw))) (aw))) (bO (cH (aj L3.rIx (ah 3) (TC (.int 1)))) (ax 0) (ik) (au b9 (ag (ah 1) (ag (ah 0) (ag (ah 2) (aw))))) 1 [0,1])) (ax 4)) (fP (l8 (ah 2) (cK (ag (aj L3.rIx (ah 3) (TC (.int 0))) (ag (au bF (ag (ah 4) (aw))) (aw))))))) (bX))) (aF (aL (au bF (ag (jH (ah 2) (mh [0,1]) (ik) (ah 1) 2 []) (aw))) (ax 5)) (aF (aL (aj L3.rIx (jH (ah 2) (mh [0,1]) (TB (aj rEq (ah 1) (ah 2))) (ah 0) 2 [5]) (TC (.int 0))) (ax 6)) (zE (ah 1) (ah 6) (ah 5))))))) (aT (ah 1)))
theorem t9:∀ ds μ Q,cD ds μ Q→lZ { nx:=fun _ μ'=>RT Q .non μ',rt:=RT Q } (ini 7 ds) μ:=by
  intro ds μ Q h
  unfold cD at h
  split at h
  case h_2=>exact h.elim
  rename_i d
  walk_at "ini"
  unfold lZ
  walk_at "go"
  obtain ⟨g,ws,ss,⟨rfl,P⟩,k⟩:=h
  have sl:=P.sl
  intro q hq
  walk_at "go"
  refine ⟨fun ρ μ'=>∃ (f:Fm) (tab:List (L2.Key×D)) (c:Nat) (v2 v3 v4 v5 v6:Option D),ρ=[some (a6 g ws ss),some (.obj q),v2,v3,v4,v5,v6]∧μ' q=some (.dct tab)∧FT ws ss f c∧jv tab f ss∧tab.length=c,fun _ μ'=>match μ' q with
    | some (.dct t)=>ss.length - t.length
    | _=>0,⟨fun _=>none,[],0,_,_,_,_,_,rfl,aD,FT.begin P,(fun _ _=>rfl),rfl⟩,?_⟩
  rintro ρ μ' ⟨f,tab,c,v2,v3,v4,v5,v6,rfl,eq,F,T,tl⟩
  walk_at "go"
  refine di eq ?_
  rw[List.length_map]
  have Fn:=F.n
  refine kif (fun h=>?_) fun h=>?_
  rotate_left
  · exact ⟨_,.refl _,k q f tab μ' (F.fe (by omega)) eq T⟩
  have c0:0 < cS f ss:=by omega
  have cl:c+1≤8:=by omega
  have d8:=dY cl
  walk_at "go"
  intro p hp
  have pq:p≠q:=fun z=>by subst z;rw[eq] at hp;cases hp
  have bbr:∀ s∈ss,f s.nm=none→BR (bz ws ss f s):=fun s hs e=>by
    obtain ⟨i,l0,l1⟩:=F.bnd hs e
    exact BR.of i (bA _) d8 (Rat.le_trans (by decide) l0) (Rat.le_trans l1 (by decide))
  refine ba (fun r ρ μ1=>∃ (dn rs:List SE) (v3 v4:Option D),r=rs.map SE.toD∧dn++rs=ss∧ρ=[some (a6 g ws ss),some (.obj q),some (.obj p),v3,v4,v5,v6]∧μ1 q=some (.dct tab)∧μ1 p=some (.lst ((bW dn f).map (Ea ws ss f)))) ?_ ?_ _ _ _ ⟨[],ss,_,_,rfl,rfl,rfl,by rw[aU (Ne.symm pq)];exact eq,aD⟩
  rotate_left
  · rintro d r ρ μ1 N ⟨dn,rs,v3,v4,er,es,rfl,eq1,ep1⟩ hN
    cases rs with
    | nil=>cases er
    | cons s rs=>
    cases er
    have hs:s∈ss:=by rw[← es];simp
    have S:=P.s s hs
    have dl:dn.length+(rs.length+1)=ss.length:=by rw[← es];simp
    have rl:(bW dn f).length≤dn.length:=List.length_filter_le _ _
    have rsn:=Ec f dn s
    walk_at "go"
    refine di eq1 ?_
    rw[T s hs]
    cases ef:f s.nm with
    | some v=>
      rw[ef,if_neg (by simp),List.append_nil] at rsn
      refine (show kIf false _ _ from ?_)
      walk_at "go"
      exact hN _ _ ⟨dn++[s],rs,_,_,rfl,by rw[← es];simp,rfl,eq1,by rw[rsn];exact ep1⟩
    | none=>
      rw[ef,if_pos rfl] at rsn
      refine (show kIf true _ _ from ?_)
      walk_at "go"
      refine ⟨s,⟨rfl,S⟩,fun x X V x8 x0 x60=>?_⟩
      rw[mY S V]
      walk_at "go"
      have rdl:=(P.rd s hs).length_le
      rw[List.length_map] at rdl
      have wl:=P.wl
      refine bH s.road .str (fun n=>frR (eQ ws ss f n)) rfl (by omega) (fun n hn μ2 s2 M m=>?_) ?_
      · obtain ⟨w,hw,rfl,el,k0,_⟩:=F.lim hs ef n hn
        walk_at "go"
        refine ⟨g,ws,ss,f,w,tab,c,⟨rfl,rfl,hw,F,k0,s2 q _ eq1,T⟩,?_⟩
        rw[← el]
        exact m
      walk_at "go"
      refine ⟨by simp;omega,bc ep1 ?_⟩
      refine ⟨s.cI::s.road.map (eQ ws ss f),⟨by rw[List.map_cons,List.map_map];rfl,by simp,fun x hx=>?_⟩,fun m M=>?_⟩
      · rcases List.mem_cons.mp hx with rfl | z
        · exact w6 S
        · obtain ⟨n,hn,rfl⟩:=List.mem_map.mp z
          obtain ⟨_,_,_,_,_,i,l0,l1⟩:=F.lim hs ef n hn
          exact BR.of i (bA _) d8 (Rat.le_trans (by decide) l0) (Rat.le_trans l1 (by decide))
      have em:m=bz ws ss f s:=vq M (d9 (by simp))
      rw[em]
      refine bc ep1 ⟨by rw[List.length_map];omega,hN _ _ ⟨dn++[s],rs,_,_,rfl,by rw[← es];simp,rfl,by rw[aU (Ne.symm pq)];exact eq1,?_⟩⟩
      rw[aD,rsn,List.map_append]
      rfl
  rintro ρ μ1 ⟨dn,rs,v3,v4,er,es,rfl,eq1,ep1⟩
  cases rs with
  | cons _ _=>cases er
  | nil=>
  rw[List.append_nil] at es
  subst es
  have rl:(bW dn f).length≤dn.length:=List.length_filter_le _ _
  have rne:bW dn f≠[]:=fun z=>by
    have:cS f dn=0:=df fun s hs e=>by
      have:=cE.mpr ⟨hs,e⟩
      rw[z] at this;cases this
    omega
  have Mt:jg (tF ws dn f) ((bW dn f).map (bz ws dn f)):=d9 (by simpa using rne)
  walk_at "go"
  refine bc ep1 ?_
  refine qT (bW dn f) (Ea ws dn f) (fun s=>some (frR (bz ws dn f s))) rfl ep1 (by omega) (fun s hs μ2 s2 M m=>?_) ?_
  · unfold Ea
    walk_at "go"
    exact m
  rw[show (fun s=>some (frR (bz ws dn f s)))=some ∘ (fun s=>frR (bz ws dn f s)) from rfl,List.filterMap_eq_map]
  refine ⟨(bW dn f).map (bz ws dn f),⟨by rw[List.map_map];rfl,by simpa using rne,fun x hx=>?_⟩,fun m M=>?_⟩
  · obtain ⟨s,hs,rfl⟩:=List.mem_map.mp hx
    exact bbr s (cE.mp hs).1 (cE.mp hs).2
  have em:m=tF ws dn f:=vq M Mt
  subst em
  walk_at "go"
  refine bc ep1 ?_
  refine qT (bW dn f) (Ea ws dn f) (fun s=>if decide (bz ws dn f s=tF ws dn f) then some (.str s.nm) else none) rfl ep1 (by omega) (fun s hs μ2 s2 M m=>?_) ?_
  · unfold Ea
    walk_at "go"
    refine ⟨⟨rfl,rfl⟩,?_⟩
    rw[kK]
    refine kif (fun h=>?_) fun h=>?_
    · rw[decide_eq_true h] at m;exact m
    · rw[decide_eq_false h] at m;exact m
  rw[jh]
  obtain ⟨s,r0,hs,hb,ehd⟩:∃ s r0,s∈bW dn f∧bz ws dn f s=tF ws dn f∧((bW dn f).filter fun s=>decide (bz ws dn f s=tF ws dn f))=s::r0:=by
    cases hh:(bW dn f).filter fun s=>decide (bz ws dn f s=tF ws dn f) with
    | nil=>
      obtain ⟨s,hs,e⟩:=List.mem_map.mp Mt.i
      have:s∈(bW dn f).filter fun s=>decide (bz ws dn f s=tF ws dn f):=List.mem_filter.mpr ⟨hs,decide_eq_true e⟩
      rw[hh] at this;cases this
    | cons s r0=>
      have:s∈(bW dn f).filter fun s=>decide (bz ws dn f s=tF ws dn f):=by rw[hh];exact List.mem_cons_self
      obtain ⟨h1,h2⟩:=List.mem_filter.mp this
      exact ⟨s,r0,h1,of_decide_eq_true h2,rfl⟩
  rw[ehd]
  obtain ⟨hs1,hs2⟩:=cE.mp hs
  walk_at "go"
  have lz:a5 tab (.inr s.nm)=none:=by rw[T s hs1,hs2];rfl
  have pn:=zC (d:=frR (tF ws dn f)) lz
  have cs:cS (vS f s.nm (bz ws dn f s)) dn+1=cS f dn:=xK P.nd hs1 hs2
  have F':=F.one hs1 hs2 (fun y hy e=>by rw[hb];exact Mt.l _ (List.mem_map.mpr ⟨y,cE.mpr ⟨hy,e⟩,rfl⟩)) cs
  rw[hb] at F'
  refine di eq1 ⟨by omega,?_⟩
  refine ⟨⟨vS f s.nm (tF ws dn f),putD tab (.inr s.nm) (frR (tF ws dn f)),c+1,?_⟩,?_⟩
  · exact ⟨_,_,_,_,_,rfl,aD,F',DY T _ _,by omega⟩
  · simp only[eq,aD]
    omega
theorem F8 {b:Addr}{μ μ':Mu}{d:D}{Q:DK}(hB:Box μ' b)(h:∀ a o,a≠b→μ a=some o→μ' a=some o)(k:∀ μ2,dm b μ μ2→Q d μ2):RT Q d μ':=by
  obtain ⟨g,s,c,e,h0⟩:=hB
  refine ⟨fun a=>if a=b then μ' a else μ a,fun a o e'=>?_,k _ ⟨⟨g,s,c,?_,h0⟩,fun a ha=>by simp only[if_neg ha]⟩⟩
  · dsimp only at e'
    by_cases z:a=b
    · rw[if_pos z] at e';exact e'
    · rw[if_neg z] at e';exact h a o z e'
  · simp only[if_true]
    exact e
theorem mH {ws:List WE}{ss:List SE}{f:Fm}(F:FE ws ss f){s:SE}{y:Str}(h:y∈iA ws ss f s):y∈s.road∧fo ws ss f s y=true:=by
  obtain ⟨w,hw,rfl⟩:=List.mem_map.mp h
  obtain ⟨h1,h2⟩:=List.mem_filter.mp hw
  rw[Bool.and_eq_true] at h2
  refine ⟨of_decide_eq_true h2.1,?_⟩
  unfold fo
  rw[if_neg (F.P.w w h1).ne,eV WE.nm F.P.wn h1]
  exact h2.2
theorem By {ws:List WE}{ss:List SE}{f:Fm}(F:FE ws ss f){s:SE}(hs:s∈ss)(ne:val f s≠s.cI):0 < (iA ws ss f s).length:=by
  rcases F.d s hs with e | ⟨w,hw,h1,h2,h3⟩
  · exact absurd e ne
  · refine List.length_pos_of_mem (a:=w.nm) (List.mem_map.mpr ⟨w,List.mem_filter.mpr ⟨hw,?_⟩,rfl⟩)
    unfold sN
    rw[decide_eq_true h1,decide_eq_true h2,Bool.true_and,Bool.true_and]
    exact List.all_eq_true.mpr fun t ht=>decide_eq_true (h3 t ht)
def b8:FSp:=fun ds μ Q=>match ds with
  | [.obj b,d,.obj q]=>∃ (g:D) (ws:List WE) (ss:List SE) (f:Fm) (tab:List (L2.Key×D)),(d=a6 g ws ss∧FE ws ss f∧Box μ b∧q≠b∧μ q=some (.dct tab)∧jv tab f ss)∧∀ (y:SE→Str) μ',(∀ s∈ss,fo ws ss f s (y s)=true∧(y s=Str.ofString "" ∨ y s∈s.road))→dm b μ μ'→Q (.tup (cL f (fun s=>[.str (y s)]) ss)) μ'
  | _=>False
theorem oR:∀ ds μ Q,b8 ds μ Q→ds.length=3:=by
  unfold b8
  walk_at "ln"
def jU:STr:=aF (aL (kr (aw)) (ax 3)) (aF (fF (cH (aj L3.rIx (ah 1) (TC (.int 2)))) (ax 4) (aF (aL (au bN (ag (ah 1) (ag (ah 4) (ag (ah 2) (aw))))) (ax 5)) (aF (dM (TB (aj rEq (iF (ah 2) (aj L3.rIx (ah 4) (TC (.int 0)))) (au aO (ag (ah 4) (aw))))) (aL (aj aM (ah 5) (gv (ag (TC (.str "")) (aw)))) (ax 5)) (bX)) (fP (l8 (ah 3) (cK (ag (aj L3.rIx (ah 4) (TC (.int 0))) (ag (iF (ah 2) (aj L3.rIx (ah 4) (TC (.int 0)))) (ag (aj L3.rIx (ah 5) (au L3.aH (ag (ah 0) (ag (au gn (ag (ah 5) (aw))) (aw))))) (aw)))))))))) (aT (au cP (ag (ah 3) (aw)))))
theorem pD:∀ ds μ Q,b8 ds μ Q→jU { nx:=fun _ μ'=>RT Q .non μ',rt:=RT Q } (ini 6 ds) μ:=by
  intro ds μ Q h
  unfold b8 at h
  split at h
  case h_2=>exact h.elim
  rename_i b d q
  walk_at "ini"
  unfold jU
  walk_at "go"
  obtain ⟨g,ws,ss,f,tab,⟨rfl,F,hB,qb,eq,T⟩,k⟩:=h
  have P:=F.P
  have sl:=P.sl
  have wl:=P.wl
  intro p hp
  have pb:=lF hB hp
  have pq:p≠q:=fun z=>by subst z;rw[eq] at hp;cases hp
  walk_at "go"
  refine ba (fun r ρ μ'=>∃ (dn rs:List SE) (y:SE→Str) (v4 v5:Option D),r=rs.map SE.toD∧dn++rs=ss∧ρ=[some (.obj b),some (a6 g ws ss),some (.obj q),some (.obj p),v4,v5]∧μ' p=some (.lst (cL f (fun s=>[.str (y s)]) dn))∧Box μ' b∧(∀ a o,a≠b→μ a=some o→μ' a=some o)∧∀ s∈dn,fo ws ss f s (y s)=true∧(y s=Str.ofString "" ∨ y s∈s.road)) ?_ ?_ _ _ _ ⟨[],ss,fun _=>Str.ofString "", _,_,rfl,rfl,rfl,aD,gL hB pb,(fun a o _ h=>by rw[aU (fun z=>by subst z;rw[hp] at h;cases h)];exact h),fun _ h=>nomatch h⟩
  · rintro ρ μ' ⟨dn,rs,y,v4,v5,er,es,rfl,ep,hB',kp,hy⟩
    cases rs with
    | cons _ _=>cases er
    | nil=>
    rw[List.append_nil] at es
    subst es
    walk_at "go"
    refine bc ep ?_
    exact F8 hB' kp fun μ2 B2=>k y μ2 hy B2
  · rintro d r ρ μ' N ⟨dn,rs,y,v4,v5,er,es,rfl,ep,hB',kp,hy⟩ hN
    cases rs with
    | nil=>cases er
    | cons s rs=>
    cases er
    have hs:s∈ss:=by rw[← es];simp
    have S:=P.s s hs
    have dl:dn.length+(rs.length+1)=ss.length:=by rw[← es];simp
    have eq':=kp q _ qb eq
    have bl:(iA ws ss f s).length≤ws.length:=by unfold iA;rw[List.length_map];exact List.length_filter_le _ _
    have fin:∀ (L:List Str),0 < L.length→L.length≤100→(∀ z∈L,fo ws ss f s z=true∧(z=Str.ofString "" ∨ z∈s.road))→kL μ' p fun _=>kD μ' q fun kvs=>kO (a5 kvs (.inr s.nm)) fun d=>mi L3.aH [.obj b,.int (L.map D.str).length] μ' fun y μ2=>L3.rIx (.ls (L.map .str)) y μ2 fun x μ1=>kL μ1 p fun ds=>ds.length < 1000000∧N [some (.obj b),some (a6 g ws ss),some (.obj q),some (.obj p),some s.toD,some (.ls (L.map .str))] (up μ1 p (.lst (ds++[.tup [.str s.nm,d,x]]))):=by
      intro L l0 l1 hL
      walk_at "go"
      refine bc ep (di eq' ?_)
      rw[iL F T hs]
      walk_at "go"
      rw[List.length_map]
      refine tkE hB' (by omega) (by omega) fun c μ2 c0 c1 B2=>?_
      obtain ⟨_,ex,z,hz,rfl⟩:=gk (P:=fun d=>∃ z,z∈L∧d=.str z) (xs:=L.map D.str) (fun d hd=>by obtain ⟨z,zi,rfl⟩:=List.mem_map.mp hd;exact ⟨z,zi,rfl⟩) c0 (by rw[List.length_map];omega)
      walk_at "go"
      refine yY ex ?_
      have rl:(cL f (fun s=>[.str (y s)]) dn).length=dn.length:=by unfold cL;rw[List.length_map]
      refine bc (by rw[B2.oth p pb];exact ep) ⟨by omega,hN _ _ ⟨dn++[s],rs,fun t=>if t.nm=s.nm then z else y t,_,_,rfl,by rw[← es];simp,rfl,?_,gL B2.box pb,fun a o ha h=>?_,fun t ht=>?_⟩⟩
      · have ne:∀ t∈dn,t.nm≠s.nm:=fun t ht e=>by
          have nd:=P.nd
          rw[← es,List.map_append] at nd
          exact (List.nodup_append.mp nd).2.2 t.nm (List.mem_map.mpr ⟨t,ht,rfl⟩) s.nm List.mem_cons_self e
        rw[aD]
        unfold cL
        rw[List.map_append]
        congr 3
        · refine List.map_congr_left fun t ht=>?_
          show D.tup [.str t.nm,frR (val f t),.str (y t)]=D.tup [.str t.nm,frR (val f t),.str (if t.nm=s.nm then z else y t)]
          rw[if_neg (ne t ht)]
        · show [D.tup [.str s.nm,frR (val f s),.str z]]=[D.tup [.str s.nm,frR (val f s),.str (if s.nm=s.nm then z else y s)]]
          rw[if_pos rfl]
      · rw[aU (fun x=>by subst x;rw[hp] at h;cases h),B2.oth a ha]
        exact kp a o ha h
      · show fo ws ss f t (if t.nm=s.nm then z else y t)=true∧((if t.nm=s.nm then z else y t)=Str.ofString "" ∨ (if t.nm=s.nm then z else y t)∈t.road)
        by_cases e:t.nm=s.nm
        · have ti:t∈ss:=by
            rw[← es]
            rcases List.mem_append.mp ht with q | q
            · exact List.mem_append_left _ q
            · rw[List.mem_singleton.mp q];simp
          have:t=s:=wI P.nd ti hs e
          subst this
          rw[if_pos rfl]
          exact hL z hz
        · rw[if_neg e]
          rcases List.mem_append.mp ht with q | q
          · exact hy t q
          · exact absurd (by rw[List.mem_singleton.mp q]) e
    walk_at "go"
    refine ⟨g,ws,ss,f,tab,s,⟨rfl,rfl,hs,F,eq',T⟩,?_⟩
    walk_at "go"
    refine di eq' ?_
    rw[iL F T hs]
    walk_at "go"
    refine ⟨s,⟨rfl,S⟩,fun x X V x8 x0 x60=>?_⟩
    rw[mY S V]
    walk_at "go"
    refine ⟨⟨rfl,rfl⟩,?_⟩
    rw[kK]
    refine kif (fun h=>?_) fun h=>?_
    · walk_at "go"
      refine ⟨by simp;omega,?_⟩
      have eL:(iA ws ss f s).map D.str++[.str ""]=(iA ws ss f s++[Str.ofString ""]).map D.str:=by simp
      rw[eL]
      have fi:=fin (iA ws ss f s++[Str.ofString ""]) (by simp) (by simp;omega) fun z hz=>by
        rcases List.mem_append.mp hz with q | q
        · exact ⟨(mH F q).2,.inr (mH F q).1⟩
        · rw[List.mem_singleton.mp q]
          exact ⟨by unfold fo;rw[if_pos rfl,decide_eq_true h],.inl rfl⟩
      exact fi
    · have fi:=fin (iA ws ss f s) (By F hs h) (by omega) fun z hz=>⟨(mH F hz).2,.inr (mH F hz).1⟩
      walk_at "go"
      exact fi
abbrev dr:FSp:=L3.dr
theorem rQ:∀ ds μ Q,dr ds μ Q→ds.length=1:=L3.rQ
def BN:STr:=aF (aL (au cy (ag (ah 0) (aw))) (ax 1)) (aF (aL (au cD (ag (ah 1) (aw))) (ax 2)) (aF (aL (au iS (ag (ah 1) (aw))) (ax 3)) (aF (dM (TB (aj rNe (au cP (ag (bO (cH (ah 3)) (ax 0) (ik) (TSl (ah 0) (ONo) (xU (TC (.int 2)))) 1 []) (aw))) (au cP (ag (bO (cH (aj L3.rIx (ah 1) (TC (.int 2)))) (ax 0) (ik) (cK (ag (aj L3.rIx (ah 0) (TC (.int 0))) (ag (iF (ah 1) (aj L3.rIx (ah 0) (TC (.int 0)))) (aw)))) 1 [2]) (aw))))) (aT (TC (.bl false))) (bX)) (aF (aL (au L3.f9 (ag (ah 0) (ag (TC (.int 16)) (aw)))) (ax 4)) (aF (fF (fh (TC (.int 6))) (ax 5) (aF (aL (au b8 (ag (ah 4) (ag (ah 1) (ag (ah 2) (aw))))) (ax 6)) (dM (TOr (TB (aj (tX true) (au bu (ag (ah 1) (ag (ah 6) (aw)))) (TC (.bl true)))) (TB (aj (tX true) (au bu (ag (ah 1) (ag (au iw (ag (ah 6) (aw))) (aw)))) (TC (.bl false))))) (aT (TC (.bl false))) (bX)))) (aT (aj (tX false) (au bu (ag (ah 1) (ag (ah 3) (aw)))) (TC (.bl true)))))))))
theorem Hz:∀ ds μ Q,dr ds μ Q→BN { nx:=fun _ μ'=>RT Q .non μ',rt:=RT Q } (ini 7 ds) μ:=by
  intro ds μ Q h
  unfold dr L3.dr at h
  split at h
  case h_2=>exact h.elim
  obtain ⟨⟨ns,rfl,hn⟩,k⟩:=h
  walk_at "ini"
  unfold BN
  walk_at "go"
  refine ⟨⟨ns,rfl⟩,fun g ws ss μ1 P=>?_⟩
  have sl:=P.sl
  walk_at "go"
  refine ⟨g,ws,ss,⟨rfl,P⟩,fun q f tab μ2 F eq T=>?_⟩
  walk_at "go"
  refine ⟨g,ws,ss,⟨rfl,P⟩,?_⟩
  have E:=Gx P
  have same:=FY E F
  have okw:∀ s∈ss,PyData.strOk (mf ws ss (evF ws ss) s)=true∧fo ws ss (evF ws ss) s (mf ws ss (evF ws ss) s)=true∧(mf ws ss (evF ws ss) s=Str.ofString "" ∨ mf ws ss (evF ws ss) s∈s.road):=fun s hs=>by
    have ne:=Ed E hs
    have:mf ws ss (evF ws ss) s∈(Str.ofString "" :: s.road).filter (fo ws ss (evF ws ss) s):=by
      unfold mf
      cases h:(Str.ofString "" :: s.road).filter (fo ws ss (evF ws ss) s) with
      | nil=>exact absurd h ne
      | cons y r=>exact List.mem_cons_self
    obtain ⟨h1,h2⟩:=List.mem_filter.mp this
    have h3:=List.mem_cons.mp h1
    refine ⟨?_,h2,h3⟩
    rcases h3 with z | z
    · rw[z];exact wY
    · exact (P.s s hs).r _ z
  generalize evF ws ss=e at E same okw ⊢
  walk_at "go"
  refine bH ss (fun s=>.tup [.str s.nm,frR (val e s),.str (mf ws ss e s)]) (fun s=>.tup [.str s.nm,frR (val e s)]) rfl (by omega) (fun s hs μ' _ N m=>?_) ?_
  · walk_at "go"
    exact m
  walk_at "go"
  refine bH ss SE.toD (fun s=>.tup [.str s.nm,frR (val f s)]) rfl (by omega) (fun s hs μ' s' N m=>?_) ?_
  · walk_at "go"
    refine di (s' q _ eq) ?_
    rw[iL F T hs]
    exact m
  have er:(ss.map fun s=>D.tup [.str s.nm,frR (val e s)])=ss.map fun s=>.tup [.str s.nm,frR (val f s)]:=List.map_congr_left fun s hs=>by rw[same s hs]
  rw[er]
  have okr:bC 39 (ss.map fun s=>D.tup [.str s.nm,frR (val f s)])=true:=by
    have:∀ l:List SE,(∀ s∈l,s∈ss)→bC 39 (l.map fun s=>D.tup [.str s.nm,frR (val f s)])=true:=by
      intro l
      induction l with
      | nil=>exact fun _=>rfl
      | cons s r ih=>
        intro h
        have e1:okD 39 (.tup [.str s.nm,frR (val f s)])=true:=by
          have h1:okD 38 (.str s.nm)=true:=(P.s s (h s List.mem_cons_self)).n
          have h3:okD 38 (frR (val f s))=true:=rfl
          show bC 38 [.str s.nm,frR (val f s)]=true
          simp only[bC,h1,h3,Bool.and_self]
        rw[List.map_cons,bC,e1,ih fun y z=>h y (List.mem_cons_of_mem _ z)]
        rfl
    exact this ss fun _ h=>h
  walk_at "go"
  have es:gF (ss.map fun s=>D.tup [.str s.nm,frR (val f s)]) (ss.map fun s=>D.tup [.str s.nm,frR (val f s)])=true:=uB 40 (.tup _) okr
  refine ⟨okr,?_⟩
  rw[es]
  walk_at "go"
  refine ⟨⟨ns,rfl,by decide,by decide⟩,fun b μ3 hb hB oth=>?_⟩
  have qb:q≠b:=fun z=>by subst z;rw[eq] at hb;cases hb
  have eq3:μ3 q=some (.dct tab):=by rw[oth q qb];exact eq
  walk_at "go"
  refine ba (fun r ρ μ'=>∃ (v5 v6:Option D),ρ=[some (.ls (ns.map .int)),some (a6 g ws ss),some (.obj q),some (.tup (GB ws ss e)),some (.obj b),v5,v6]∧Box μ' b∧μ' q=some (.dct tab)) ?_ ?_ _ _ _ ⟨_,_,rfl,hB,eq3⟩
  · rintro ρ μ' ⟨v5,v6,rfl,_,_⟩
    walk_at "go"
    refine ⟨g,ws,ss,e,mf ws ss e,true,⟨rfl,rfl,E,fun s hs=>(okw s hs).2⟩,?_⟩
    walk_at "go"
    exact ⟨_,.refl _,k _⟩
  · rintro d r ρ μ' N ⟨v5,v6,rfl,hB',eq'⟩ hN
    walk_at "go"
    refine ⟨g,ws,ss,f,tab,⟨rfl,F,hB',qb,eq',T⟩,fun y μ4 hy B4=>?_⟩
    walk_at "go"
    refine ⟨g,ws,ss,f,y,true,⟨rfl,rfl,F,hy⟩,?_⟩
    walk_at "go"
    rw[show (!(true == true))=false from rfl]
    walk_at "go"
    refine ⟨g,ws,ss,f,y,false,⟨rfl,rfl,F,hy⟩,?_⟩
    walk_at "go"
    rw[show (!(false == false))=false from rfl]
    walk_at "go"
    exact hN _ _ ⟨_,_,rfl,B4.box,by rw[B4.oth q qb];exact eq'⟩
theorem kM (ns:List Int)(h:ns.length≤63)(μ:Mu):dr [.ls (ns.map .int)] μ (fun d _=>d=.bl true):=L3.kM ns h μ
end Kk
namespace Kk
open PySem L2 L3
theorem Kz {α:Type}{us:List α}(h:us.length=1):∃ x0,us=[x0]:=match us,h with | [x0],_=>⟨x0,rfl⟩
theorem Ki {α:Type}{us:List α}(h:us.length=2):∃ x0 x1,us=[x0,x1]:=match us,h with | [x0,x1],_=>⟨x0,x1,rfl⟩
theorem K0 {α:Type}{us:List α}(h:us.length=3):∃ x0 x1 x2,us=[x0,x1,x2]:=match us,h with | [x0,x1,x2],_=>⟨x0,x1,x2,rfl⟩
theorem KI {α:Type}{us:List α}(h:us.length=5):∃ x0 x1 x2 x3 x4,us=[x0,x1,x2,x3,x4]:=match us,h with | [x0,x1,x2,x3,x4],_=>⟨x0,x1,x2,x3,x4,rfl⟩
def top (i:Nat):Stmt:=PySem.Challenge.pw_swellways_k60_tables_of_other_hands.main.body.getD i (.Pass ⟨0,0,0,0⟩)
abbrev nZ:Stmt:=top 1
abbrev ja:Stmt:=top 2
abbrev lB:Stmt:=top 3
abbrev jr:Stmt:=top 4
abbrev DV:Stmt:=top 5
abbrev Cg:Stmt:=top 6
abbrev zr:Stmt:=top 7
abbrev Dl:Stmt:=top 8
abbrev Dx:Stmt:=top 9
abbrev ny:Stmt:=top 10
abbrev uK:Stmt:=top 20
abbrev dI:Stmt:=top 21
abbrev mT:Stmt:=top 22
abbrev jt:Stmt:=top 24
abbrev gr:Stmt:=top 25
abbrev hZ:Stmt:=top 29
abbrev uV:Stmt:=top 30
abbrev lV:Stmt:=top 31
abbrev fH:Stmt:=top 32
abbrev jA:Stmt:=top 33
abbrev kC:Stmt:=top 34
abbrev nD:Stmt:=top 35
abbrev jJ:Stmt:=top 36
abbrev oj:Stmt:=top 38
abbrev pf:Stmt:=top 39
abbrev jG:Stmt:=top 40
abbrev iH:Stmt:=top 41
abbrev fB:Stmt:=top 42
abbrev xY:Stmt:=top 43
abbrev nv:Stmt:=top 45
abbrev lU:Stmt:=top 46
abbrev oT:Stmt:=top 47
abbrev lX:Stmt:=top 48
abbrev lQ:Stmt:=top 49
abbrev kg:Stmt:=top 50
abbrev o9:Stmt:=top 51
abbrev fG:Stmt:=top 52
abbrev lP:Stmt:=top 53
abbrev iC:Stmt:=top 54
abbrev eN:Stmt:=top 55
abbrev jo:Stmt:=top 56
abbrev dD:Stmt:=top 57
abbrev jP:Stmt:=top 58
abbrev dk:Stmt:=top 60
abbrev dN:Stmt:=top 59
abbrev kd:Stmt:=top 61
abbrev zD:Stmt:=top 62
set_option genInjectivity false in
set_option genSizeOfSpec false in
structure Adr where
  nJ:Addr
  xZ:FuncData
  jf:Addr
  qi:FuncData
  lL:Addr
  vv:FuncData
  i8:Addr
  qE:FuncData
  B0:Addr
  Hj:FuncData
  Cs:Addr
  HY:FuncData
  yR:Addr
  EZ:FuncData
  D5:Addr
  Jc:FuncData
  Bw:Addr
  JK:FuncData
  mW:Addr
  yb:FuncData
  uw:Addr
  CW:FuncData
  dP:Addr
  ix:FuncData
  mV:Addr
  yg:FuncData
  jq:Addr
  qv:FuncData
  jR:Addr
  sQ:FuncData
  lE:Addr
  vx:FuncData
  uG:Addr
  BM:FuncData
  lT:Addr
  vI:FuncData
  i7:Addr
  qI:FuncData
  nR:Addr
  w8:FuncData
  qW:Addr
  AI:FuncData
  uU:Addr
  C2:FuncData
  kx:Addr
  t8:FuncData
  ng:Addr
  yL:FuncData
  oh:Addr
  ym:FuncData
  mM:Addr
  wD:FuncData
  vL:Addr
  DJ:FuncData
  i6:Addr
  pU:FuncData
  BX:Addr
  Jv:FuncData
  oW:Addr
  xy:FuncData
  lW:Addr
  vc:FuncData
  nG:Addr
  wA:FuncData
  l3:Addr
  vW:FuncData
  l4:Addr
  vy:FuncData
  j3:Addr
  tI:FuncData
  mS:Addr
  yF:FuncData
  jc:Addr
  pV:FuncData
  lG:Addr
  vC:FuncData
  g9:Addr
  oi:FuncData
  eG:Addr
  jF:FuncData
  jj:Addr
  pL:FuncData
  jk:Addr
  qx:FuncData
  kc:Addr
  rN:FuncData
  j6:Addr
  sD:FuncData
  lJ:Addr
  uh:FuncData
  kf:Addr
  sP:FuncData
  A6:Addr
  GA:FuncData
structure Txt (Pm:Params) (K:PySem.W.Frag) (mg:Str→Option Value) (t:Adr):Prop where
  yG:mg "is_whole" = some (.ref t.nJ)
  xk:Fun K "is_whole" "is_whole" nZ t.nJ t.xZ
  pG:mg "is_tuple_of" = some (.ref t.jf)
  pR:Fun K "is_tuple_of" "is_tuple_of" ja t.jf t.qi
  uk:mg "common_of" = some (.ref t.lL)
  uv:Fun K "common_of" "common_of" lB t.lL t.vv
  pO:mg "is_fraction" = some (.ref t.i8)
  qj:Fun K "is_fraction" "is_fraction" jr t.i8 t.qE
  Jl:mg "part" = some (.ref t.B0)
  IU:Fun K "part" "part" DV t.B0 t.Hj
  Hh:mg "plus" = some (.ref t.Cs)
  Jf:Fun K "plus" "plus" Cg t.Cs t.HY
  Ez:mg "minus" = some (.ref t.yR)
  EC:Fun K "minus" "minus" zr t.yR t.EZ
  IY:mg "over" = some (.ref t.D5)
  Jb:Fun K "over" "over" Dl t.D5 t.Jc
  Jw:mg "less" = some (.ref t.Bw)
  Ig:Fun K "less" "less" Dx t.Bw t.JK
  xo:mg "floor_of" = some (.ref t.mW)
  yo:Fun K "floor_of" "floor_of" ny t.mW t.yb
  D9:mg "top_of" = some (.ref t.uw)
  Cv:Fun K "top_of" "top_of" uK t.uw t.CW
  hU:mg "is_fraction_within" = some (.ref t.dP)
  h8:Fun K "is_fraction_within" "is_fraction_within" dI t.dP t.ix
  xa:mg "limit_of" = some (.ref t.mV)
  xl:Fun K "limit_of" "limit_of" mT t.mV t.yg
  qB:mg "limit_share" = some (.ref t.jq)
  qd:Fun K "limit_share" "limit_share" jt t.jq t.qv
  r6:mg "senders_on" = some (.ref t.jR)
  ua:Fun K "senders_on" "senders_on" gr t.jR t.sQ
  vi:mg "shares_on" = some (.ref t.lE)
  uW:Fun K "shares_on" "shares_on" hZ t.lE t.vx
  Bm:mg "sum_on" = some (.ref t.uG)
  Dv:Fun K "sum_on" "sum_on" uV t.uG t.BM
  uY:mg "is_row_by" = some (.ref t.lT)
  vp:Fun K "is_row_by" "is_row_by" lV t.lT t.vI
  qC:mg "are_rows_by" = some (.ref t.i7)
  qz:Fun K "are_rows_by" "are_rows_by" fH t.i7 t.qI
  xu:mg "fit_ways" = some (.ref t.nR)
  xp:Fun K "fit_ways" "fit_ways" jA t.nR t.w8
  Af:mg "is_full" = some (.ref t.qW)
  Ay:Fun K "is_full" "is_full" kC t.qW t.AI
  Cq:mg "is_why" = some (.ref t.uU)
  BS:Fun K "is_why" "is_why" nD t.uU t.C2
  rL:mg "shows_even" = some (.ref t.kx)
  sH:Fun K "shows_even" "shows_even" jJ t.kx t.t8
  xr:mg "least_of" = some (.ref t.ng)
  wm:Fun K "least_of" "least_of" oj t.ng t.yL
  yN:mg "level_on" = some (.ref t.oh)
  wF:Fun K "level_on" "level_on" pf t.oh t.ym
  yt:mg "bound_of" = some (.ref t.mM)
  yB:Fun K "bound_of" "bound_of" jG t.mM t.wD
  CQ:mg "settle" = some (.ref t.vL)
  BB:Fun K "settle" "settle" iH t.vL t.DJ
  pM:mg "even_shares" = some (.ref t.i6)
  pJ:Fun K "even_shares" "even_shares" fB t.i6 t.pU
  JB:mg "even" = some (.ref t.BX)
  JO:Fun K "even" "even" xY t.BX t.Jv
  xc:mg "_law_box" = some (.ref t.oW)
  yC:Fun K "_law_box" "_law_box" nv t.oW t.xy
  vQ:mg "_law_take" = some (.ref t.lW)
  vw:Fun K "_law_take" "_law_take" lU t.lW t.vc
  yI:mg "_law_low" = some (.ref t.nG)
  xN:Fun K "_law_low" "_law_low" oT t.nG t.wA
  vU:mg "_law_more" = some (.ref t.l3)
  uH:Fun K "_law_more" "_law_more" lX t.l3 t.vW
  u4:mg "_law_rule" = some (.ref t.l4)
  vJ:Fun K "_law_rule" "_law_rule" lQ t.l4 t.vy
  sJ:mg "_law_limit" = some (.ref t.j3)
  uc:Fun K "_law_limit" "_law_limit" kg t.j3 t.tI
  yD:mg "_law_way" = some (.ref t.mS)
  yf:Fun K "_law_way" "_law_way" o9 t.mS t.yF
  pw:mg "_law_sender" = some (.ref t.jc)
  qu:Fun K "_law_sender" "_law_sender" fG t.jc t.pV
  uo:mg "_law_plan" = some (.ref t.lG)
  vd:Fun K "_law_plan" "_law_plan" lP t.lG t.vC
  nL:mg "_law_at_most" = some (.ref t.g9)
  oD:Fun K "_law_at_most" "_law_at_most" iC t.g9 t.oi
  jy:mg "_law_limit_share" = some (.ref t.eG)
  jC:Fun K "_law_limit_share" "_law_limit_share" eN t.eG t.jF
  pY:mg "_law_sum_on" = some (.ref t.jj)
  pQ:Fun K "_law_sum_on" "_law_sum_on" jo t.jj t.pL
  qp:mg "_law_bounds" = some (.ref t.jk)
  qF:Fun K "_law_bounds" "_law_bounds" dD t.jk t.qx
  sC:mg "_law_least" = some (.ref t.kc)
  rX:Fun K "_law_least" "_law_least" jP t.kc t.rN
  rS:mg "_law_level" = some (.ref t.j6)
  sO:Fun K "_law_level" "_law_level" dk t.j6 t.sD
  va:mg "_law_even" = some (.ref t.lJ)
  uZ:Fun K "_law_even" "_law_even" dN t.lJ t.uh
  rM:mg "_law_table" = some (.ref t.kf)
  r8:Fun K "_law_table" "_law_table" kd t.kf t.sP
  Lx:mg "law" = some (.ref t.A6)
  yW:Fun K "law" "law" zD t.A6 t.GA
  uF:mg "abs" = none
  G6:mg "all" = none
  GH:mg "any" = none
  JW:mg "bool" = none
  IE:mg "dict" = none
  vK:mg "enumerate" = none
  G8:mg "int" = none
  dh:mg "isinstance" = none
  gM:mg "len" = none
  Ik:mg "list" = none
  tU:mg "range" = none
  BZ:mg "sorted" = none
  G1:mg "str" = none
  d7:mg "tuple" = none
  zA:mg "zip" = none
  JZ:GV K mg "BEAT" (.int 2)
  dj:GV K mg "NAME" (.int 0)
  u6:GV K mg "NOUGHT" (.tup [.int 0,.int 1])
  xF:GV K mg "PACE" (.int 1)
  oS:GV K mg "ROAD" (.int 1)
  dH:GV K mg "ROW_SHARE" (.int 1)
  rB:GV K mg "ROW_WHY" (.int 2)
  JC:GV K mg "RULE" (.int 5)
  cC:GV K mg "SENDERS" (.int 2)
  wL:GV K mg "WAYS" (.int 1)
local macro_rules | `(tactic| walk_at "sc")=>`(tactic| exact ⟨rfl,rfl,rfl,by decide +kernel,rfl,by decide +kernel,by decide +kernel⟩)
local macro_rules | `(tactic| walk_at "b1")=>`(tactic| (rename_i hl;obtain ⟨x0,e⟩:=Kz hl;subst e;rfl))
local macro_rules | `(tactic| walk_at "b2")=>`(tactic| (rename_i hl;obtain ⟨x0,x1,e⟩:=Ki hl;subst e;rfl))
local macro_rules | `(tactic| walk_at "b3")=>`(tactic| (rename_i hl;obtain ⟨x0,x1,x2,e⟩:=K0 hl;subst e;rfl))
local macro_rules | `(tactic| walk_at "b5")=>`(tactic| (rename_i hl;obtain ⟨x0,x1,x2,x3,x4,e⟩:=KI hl;subst e;rfl))
section
variable {P:Program} {w:World} {K:PySem.W.Frag} {mg:Str→Option Value} {base:Heap} {t:Adr}
theorem vM:aA ["thing"] ["thing"] (aq nZ):=by walk_at "sc"
theorem pj (T:Txt w.params K mg t):aI P w K mg base 1 "is_whole" ["thing"] cu:=aC T.yG T.xk vM tH vO (fun _ _ _ _ _ _ _ _=>by walk_at "b1") fun _ _ _ _ _ _ hr hu=>
  av (aE (oM (nY rfl T.dh rfl (af 0) rfl T.G8 rfl) (rZ (nh (nY rfl T.dh rfl (af 0) rfl T.JW rfl)))))
theorem oa:aA ["thing", "many"] ["thing", "many"] (aq ja):=by walk_at "sc"
theorem fI (T:Txt w.params K mg t):aI P w K mg base 1 "is_tuple_of" ["thing", "many"] a8:=aC T.pG T.pR oa mq oQ (fun _ _ _ _ _ _ _ _=>by walk_at "b2") fun _ _ _ _ _ _ hr hu=>
  av (aE (oM (nY rfl T.dh rfl (af 0) rfl T.d7 rfl) (rZ (le_eq hu (aS bY dF rfl T.gM rfl (ae (af 0) (ai))) (af 1)))))
theorem cx:aA ["one", "other", "divisor", "rest", "behind"] ["one", "other"] (aq lB):=by walk_at "sc"
theorem lY (T:Txt w.params K mg t):aI P w K mg base 1 "common_of" ["one", "other"] L3.bS:=aC T.uk T.uv cx L3.pH L3.rJ (fun _ _ _ _ _ _ _ _=>by walk_at "b2") fun _ _ _ _ _ _ hr hu=>
  ao (az 2 cx.nd (aS hX jS rfl T.uF rfl (ae (af 0) (ai)))) (ao (az 3 cx.nd (aS hX jS rfl T.uF rfl (ae (af 1) (ai)))) (ao (jV PassesOwn.never (Dq (af 3) (le_int)) (ao (az 4 cx.nd (fA (af 2) (af 3))) (ao (az 2 cx.nd (af 3)) (av (az 3 cx.nd (af 4)))))) (av (aE (af 2)))))
theorem m9:aA ["thing"] ["thing"] (aq jr):=by walk_at "sc"
theorem pS (T:Txt w.params K mg t):aI P w K mg base 2 "is_fraction" ["thing"] bJ:=aC T.pO T.qj m9 mj nk (fun _ _ _ _ _ _ _ _=>by walk_at "b1") fun _ _ _ _ _ _ hr hu=>
  ao (cT (LW.lt (lM (eM (cJ (ak (fI T) hr rfl (ae (af 0) (ae (le_int) (ai)))))) (lM (eM (cJ (ak (pj T) hr rfl (ae (ar (af 0) (le_int)) (ai))))) (lg (eM (cJ (ak (pj T) hr rfl (ae (ar (af 0) (le_int)) (ai))))))))) (av (aE (gO))) (bj)) (av (aE (oM (Kg (ar (af 0) (le_int)) (le_int)) (rZ (le_eq hu (ak (lY T) hr rfl (ae (ar (af 0) (le_int)) (ae (ar (af 0) (le_int)) (ai)))) (le_int))))))
theorem tj:aA ["top", "bottom", "divisor"] ["top", "bottom"] (aq DV):=by walk_at "sc"
theorem tZ (T:Txt w.params K mg t):aI P w K mg base 2 "part" ["top", "bottom"] L3.ei:=aC T.Jl T.IU tj L3.Du L3.E7 (fun _ _ _ _ _ _ _ _=>by walk_at "b2") fun _ _ _ _ _ _ hr hu=>
  ao (az 2 tj.nd (ak (lY T) hr rfl (ae (af 0) (ae (af 1) (ai))))) (ao (cT (zR (af 1) (le_int)) (av (az 2 tj.nd (le_neg (af 2)))) (bj)) (av (aE (aX (ae (ip (af 0) (af 2)) (ae (ip (af 1) (af 2)) (ai)))))))
theorem EN:aA ["one", "other"] ["one", "other"] (aq Cg):=by walk_at "sc"
theorem IK (T:Txt w.params K mg t):aI P w K mg base 3 "plus" ["one", "other"] L3.iO:=aC T.Hh T.Jf EN L3.AW L3.Fd (fun _ _ _ _ _ _ _ _=>by walk_at "b2") fun _ _ _ _ _ _ hr hu=>
  av (aE (ak (tZ T) hr rfl (ae (aJ (le_mul (ar (af 0) (le_int)) (ar (af 1) (le_int))) (le_mul (ar (af 1) (le_int)) (ar (af 0) (le_int)))) (ae (le_mul (ar (af 0) (le_int)) (ar (af 1) (le_int))) (ai)))))
theorem CD:aA ["one", "other"] ["one", "other"] (aq zr):=by walk_at "sc"
theorem FK (T:Txt w.params K mg t):aI P w K mg base 3 "minus" ["one", "other"] L3.fY:=aC T.Ez T.EC CD L3.AB L3.BK (fun _ _ _ _ _ _ _ _=>by walk_at "b2") fun _ _ _ _ _ _ hr hu=>
  av (aE (ak (tZ T) hr rfl (ae (sE (le_mul (ar (af 0) (le_int)) (ar (af 1) (le_int))) (le_mul (ar (af 1) (le_int)) (ar (af 0) (le_int)))) (ae (le_mul (ar (af 0) (le_int)) (ar (af 1) (le_int))) (ai)))))
theorem Fb:aA ["one", "other"] ["one", "other"] (aq Dl):=by walk_at "sc"
theorem Hk (T:Txt w.params K mg t):aI P w K mg base 3 "over" ["one", "other"] iM:=aC T.IY T.Jb Fb A8 E5 (fun _ _ _ _ _ _ _ _=>by walk_at "b2") fun _ _ _ _ _ _ hr hu=>
  av (aE (ak (tZ T) hr rfl (ae (le_mul (ar (af 0) (le_int)) (ar (af 1) (le_int))) (ae (le_mul (ar (af 0) (le_int)) (ar (af 1) (le_int))) (ai)))))
theorem Fy:aA ["one", "other"] ["one", "other"] (aq Dx):=by walk_at "sc"
theorem nE (T:Txt w.params K mg t):aI P w K mg base 1 "less" ["one", "other"] L3.dG:=aC T.Jw T.Ig Fy L3.BE L3.EY (fun _ _ _ _ _ _ _ _=>by walk_at "b2") fun _ _ _ _ _ _ hr hu=>
  av (aE (Ly (le_mul (ar (af 0) (le_int)) (ar (af 1) (le_int))) (le_mul (ar (af 1) (le_int)) (ar (af 0) (le_int)))))
theorem vn:aA ["one"] ["one"] (aq ny):=by walk_at "sc"
theorem wO (T:Txt w.params K mg t):aI P w K mg base 1 "floor_of" ["one"] L3.cV:=aC T.xo T.yo vn L3.tJ L3.u0 (fun _ _ _ _ _ _ _ _=>by walk_at "b1") fun _ _ _ _ _ _ hr hu=>
  av (aE (ip (ar (af 0) (le_int)) (ar (af 0) (le_int))))
theorem AQ:aA ["rule"] ["rule"] (aq uK):=by walk_at "sc"
theorem Bf (T:Txt w.params K mg t):aI P w K mg base 1 "top_of" ["rule"] L3.eA:=aC T.D9 T.Cv AQ L3.wj L3.AN (fun _ _ _ _ _ _ _ _=>by walk_at "b1") fun _ _ _ _ _ _ hr hu=>
  av (aE (ar (af 0) (sE (aS bY dF rfl T.gM rfl (ae (af 0) (ai))) (le_int))))
theorem gW:aA ["thing", "least", "most"] ["thing", "least", "most"] (aq dI):=by walk_at "sc"
theorem h9 (T:Txt w.params K mg t):aI P w K mg base 3 "is_fraction_within" ["thing", "least", "most"] aR:=aC T.hU T.h8 gW gc gS (fun _ _ _ _ _ _ _ _=>by walk_at "b3") fun _ _ _ _ _ _ hr hu=>
  av (aE (oM (ak (pS T) hr rfl (ae (af 0) (ai))) (oM (nh (ak (nE T) hr rfl (ae (af 0) (ae (af 1) (ai))))) (rZ (nh (ak (nE T) hr rfl (ae (af 2) (ae (af 0) (ai)))))))))
theorem u7:aA ["rule"] ["rule"] (aq mT):=by walk_at "sc"
theorem yp (T:Txt w.params K mg t):aI P w K mg base 2 "limit_of" ["rule"] da:=aC T.xa T.xl u7 sG vB (fun _ _ _ _ _ _ _ _=>by walk_at "b1") fun _ _ _ _ _ _ hr hu=>
  av (aE (ak (wO T) hr rfl (ae (ak (Bf T) hr rfl (ae (af 0) (ai))) (ai))))
theorem nj:aA ["sender"] ["sender"] (aq jt):=by walk_at "sc"
theorem fv (T:Txt w.params K mg t):aI P w K mg base 3 "limit_share" ["sender"] a9:=aC T.qB T.qd nj l9 mL (fun _ _ _ _ _ _ _ _=>by walk_at "b1") fun _ _ _ _ _ _ hr hu=>
  av (aE (ak (tZ T) hr rfl (ae (ak (yp T) hr rfl (ae (ar (af 0) (aN rfl T.JC)) (ai))) (ae (ar (af 0) (aN rfl T.JZ)) (ai)))))
theorem pE:aA ["plan", "name"] ["plan", "name"] (aq gr):=by walk_at "sc"
theorem sV (T:Txt w.params K mg t):aI P w K mg base 1 "senders_on" ["plan", "name"] b7:=aC T.r6 T.ua pE og pI (fun _ _ _ _ _ _ _ _=>by walk_at "b2") fun _ _ _ _ _ _ hr hu=>
  av (aE (bh (fsc:=aq gr) ["plan", "name"] ["sender", "name"] 1 [1] rfl rfl (aY (ar (af 0) (aN rfl T.cC))) (fun cl C s₀ H₀ ex=>⟨aW 0 (show (["sender", "name"]:List Str).Nodup from by decide +kernel),de (kJ hu (af 1) (ar (af 0) (aN rfl T.oS))),af 0⟩) rfl rfl (by decide +kernel)))
theorem sA:aA ["plan", "shares", "name"] ["plan", "shares", "name"] (aq hZ):=by walk_at "sc"
theorem lC (T:Txt w.params K mg t):aI P w K mg base 1 "shares_on" ["plan", "shares", "name"] bT:=aC T.vi T.uW sA pA sm (fun _ _ _ _ _ _ _ _=>by walk_at "b3") fun _ _ _ _ _ _ hr hu=>
  av (aE (bh (fsc:=aq hZ) ["plan", "shares", "name"] ["sender", "row", "name"] 2 [2] rfl rfl (mG rfl T.zA (ae (ar (af 0) (aN rfl T.cC)) (ae (af 1) (ai)))) (fun cl C s₀ H₀ ex=>⟨mC rfl (cZ 0 (show (["sender", "row", "name"]:List Str).Nodup from by decide +kernel) (cZ 1 (show (["sender", "row", "name"]:List Str).Nodup from by decide +kernel) (ko))),de (kJ hu (af 2) (ar (af 0) (aN rfl T.oS))),ar (af 1) (aN rfl T.dH)⟩) rfl rfl (by decide +kernel)))
theorem iP:aA ["plan", "shares", "name", "total", "share"] ["plan", "shares", "name"] (aq uV):=by walk_at "sc"
theorem uR (T:Txt w.params K mg t):aI P w K mg base 4 "sum_on" ["plan", "shares", "name"] dA:=aC T.Bm T.Dv iP wV An (fun _ _ _ _ _ _ _ _=>by walk_at "b3") fun _ _ _ _ _ _ hr hu=>
  ao (az 3 iP.nd (aN rfl T.u6)) (ao (cG PassesOwn.never rfl (aY (ak (lC T) hr rfl (ae (af 0) (ae (af 1) (ae (af 2) (ai)))))) (cw 4 iP.nd) (av (az 3 iP.nd (ak (IK T) hr rfl (ae (af 3) (ae (af 4) (ai))))))) (av (aE (af 3))))
theorem sf:aA ["sender", "many", "thing"] ["sender", "many", "thing"] (aq lV):=by walk_at "sc"
theorem uX (T:Txt w.params K mg t):aI P w K mg base 4 "is_row_by" ["sender", "many", "thing"] cA:=aC T.uY T.vp sf qJ sx (fun _ _ _ _ _ _ _ _=>by walk_at "b3") fun _ _ _ _ _ _ hr hu=>
  ao (cT (LW.lt (lM (eM (cJ (ak (fI T) hr rfl (ae (af 2) (ae (af 1) (ai)))))) (lM (eM (cJ (nY rfl T.dh rfl (ar (af 2) (aN rfl T.dj)) rfl T.G1 rfl))) (lg (GQ hu (ar (af 2) (aN rfl T.dj)) (ar (af 0) (aN rfl T.dj))))))) (av (aE (gO))) (bj)) (av (aE (ak (h9 T) hr rfl (ae (ar (af 2) (aN rfl T.dH)) (ae (aN rfl T.u6) (ae (ak (fv T) hr rfl (ae (af 0) (ai))) (ai)))))))
theorem oO:aA ["plan", "many", "thing"] ["plan", "many", "thing"] (aq fH):=by walk_at "sc"
theorem qw (T:Txt w.params K mg t):aI P w K mg base 5 "are_rows_by" ["plan", "many", "thing"] bK:=aC T.qC T.qz oO l7 oN (fun _ _ _ _ _ _ _ _=>by walk_at "b3") fun _ _ _ _ _ _ hr hu=>
  ao (cT (eM (cJ (ak (fI T) hr rfl (ae (af 2) (ae (aS bY dF rfl T.gM rfl (ae (ar (af 0) (aN rfl T.cC)) (ai))) (ai)))))) (av (aE (gO))) (bj)) (av (aE (aS (qU rfl) zl rfl T.G6 rfl (ae (bh (fsc:=aq fH) ["plan", "many", "thing"] ["sender", "row", "many"] 2 [1] rfl rfl (mG rfl T.zA (ae (ar (af 0) (aN rfl T.cC)) (ae (af 2) (ai)))) (fun cl C s₀ H₀ ex=>⟨mC rfl (cZ 0 (show (["sender", "row", "many"]:List Str).Nodup from by decide +kernel) (cZ 1 (show (["sender", "row", "many"]:List Str).Nodup from by decide +kernel) (ko))),cO,ak (uX T) hr rfl (ae (af 0) (ae (af 2) (ae (af 1) (ai))))⟩) rfl rfl (by decide +kernel)) (ai)))))
theorem vj:aA ["plan", "shares"] ["plan", "shares"] (aq jA):=by walk_at "sc"
theorem yl (T:Txt w.params K mg t):aI P w K mg base 5 "fit_ways" ["plan", "shares"] cq:=aC T.xu T.xp vj ue wb (fun _ _ _ _ _ _ _ _=>by walk_at "b2") fun _ _ _ _ _ _ hr hu=>
  av (aE (nh (aS (qV rfl) ze rfl T.GH rfl (ae (bh (fsc:=aq jA) ["plan", "shares"] ["way", "plan", "shares"] 1 [0,1] rfl rfl (aY (ar (af 0) (aN rfl T.wL))) (fun cl C s₀ H₀ ex=>⟨aW 0 (show (["way", "plan", "shares"]:List Str).Nodup from by decide +kernel),cO,ak (nE T) hr rfl (ae (aX (ae (ar (af 0) (aN rfl T.xF)) (ae (le_int) (ai)))) (ae (ak (uR T) hr rfl (ae (af 1) (ae (af 2) (ae (ar (af 0) (aN rfl T.dj)) (ai))))) (ai)))⟩) rfl rfl (by decide +kernel)) (ai)))))
theorem nq:aA ["plan", "shares", "name", "pace"] ["plan", "shares", "name"] (aq kC):=by walk_at "sc"
theorem Av (T:Txt w.params K mg t):aI P w K mg base 5 "is_full" ["plan", "shares", "name"] du:=aC T.Af T.Ay nq vb wQ (fun _ _ _ _ _ _ _ _=>by walk_at "b3") fun _ _ _ _ _ _ hr hu=>
  ao (az 3 nq.nd (ar (bh (fsc:=aq kC) ["plan", "shares", "name", "pace"] ["way", "name"] 1 [2] rfl rfl (aY (ar (af 0) (aN rfl T.wL))) (fun cl C s₀ H₀ ex=>⟨aW 0 (show (["way", "name"]:List Str).Nodup from by decide +kernel),de (lt_eq hu (ar (af 0) (aN rfl T.dj)) (af 1)),ar (af 0) (aN rfl T.xF)⟩) rfl rfl (by decide +kernel)) (le_int))) (av (aE (le_eq hu (ak (uR T) hr rfl (ae (af 0) (ae (af 1) (ae (af 2) (ai))))) (aX (ae (af 3) (ae (le_int) (ai)))))))
theorem Au:aA ["plan", "shares", "sender", "share", "why"] ["plan", "shares", "sender", "share", "why"] (aq nD):=by walk_at "sc"
theorem vm (T:Txt w.params K mg t):aI P w K mg base 6 "is_why" ["plan", "shares", "sender", "share", "why"] dq:=aC T.Cq T.BS Au wK AM (fun _ _ _ _ _ _ _ _=>by walk_at "b5") fun _ _ _ _ _ _ hr hu=>
  ao (cT (lt_eq hu (af 4) (le_str)) (av (aE (le_eq hu (af 3) (ak (fv T) hr rfl (ae (af 2) (ai)))))) (bj)) (ao (cT (LW.lt (lM (AE hu (af 4) (ar (af 2) (aN rfl T.oS))) (lg (eM (cJ (ak (Av T) hr rfl (ae (af 0) (ae (af 1) (ae (af 4) (ai)))))))))) (av (aE (gO))) (bj)) (av (aE (nh (aS (qV rfl) ze rfl T.GH rfl (ae (bh (fsc:=aq nD) ["plan", "shares", "sender", "share", "why"] ["other", "share"] 1 [3] rfl rfl (aY (ak (lC T) hr rfl (ae (af 0) (ae (af 1) (ae (af 4) (ai)))))) (fun cl C s₀ H₀ ex=>⟨aW 0 (show (["other", "share"]:List Str).Nodup from by decide +kernel),cO,ak (nE T) hr rfl (ae (af 1) (ae (af 0) (ai)))⟩) rfl rfl (by decide +kernel)) (ai)))))))
theorem fK:aA ["plan", "table", "sender", "row"] ["plan", "table"] (aq jJ):=by walk_at "sc"
theorem gE (T:Txt w.params K mg t):aI P w K mg base 7 "shows_even" ["plan", "table"] bu:=aC T.rL T.sH fK nc pZ (fun _ _ _ _ _ _ _ _=>by walk_at "b2") fun _ _ _ _ _ _ hr hu=>
  ao (cT (LW.lt (lM (eM (cJ (ak (qw T) hr rfl (ae (af 0) (ae (le_int) (ae (af 1) (ai))))))) (lg (eM (cJ (ak (yl T) hr rfl (ae (af 0) (ae (af 1) (ai))))))))) (av (aE (gO))) (bj)) (ao (cG PassesOwn.never rfl (mG rfl T.zA (ae (ar (af 0) (aN rfl T.cC)) (ae (af 1) (ai)))) (xS rfl (fT 2 fK.nd (fT 3 fK.nd (rK)))) (av (cT (LW.lt (lM (eM (cJ (nY rfl T.dh rfl (ar (af 3) (aN rfl T.rB)) rfl T.G1 rfl))) (lg (eM (cJ (ak (vm T) hr rfl (ae (af 0) (ae (af 1) (ae (af 2) (ae (ar (af 3) (aN rfl T.dH)) (ae (ar (af 3) (aN rfl T.rB)) (ai)))))))))))) (av (aE (gO))) (bj)))) (av (aE (gO))))
theorem eX:aA ["row", "least", "one"] ["row"] (aq oj):=by walk_at "sc"
theorem nW (T:Txt w.params K mg t):aI P w K mg base 2 "least_of" ["row"] cm:=aC T.xr T.wm eX tf vo (fun _ _ _ _ _ _ _ _=>by walk_at "b1") fun _ _ _ _ _ _ hr hu=>
  ao (az 1 eX.nd (ar (af 0) (le_int))) (ao (cG PassesOwn.never rfl (aY (af 0)) (cw 2 eX.nd) (av (cT (cJ (ak (nE T) hr rfl (ae (af 2) (ae (af 1) (ai))))) (av (az 1 eX.nd (af 2))) (bj)))) (av (aE (af 1))))
theorem cU:aA ["plan", "way", "settled", "remains", "rising", "sender"] ["plan", "way", "settled"] (aq pf):=by walk_at "sc"
theorem xJ (T:Txt w.params K mg t):aI P w K mg base 4 "level_on" ["plan", "way", "settled"] cX:=aC T.yN T.wF cU rV vV (fun _ _ _ _ _ _ _ _=>by walk_at "b3") fun _ _ _ _ _ _ hr hu=>
  ao (az 3 cU.nd (aX (ae (ar (af 1) (aN rfl T.xF)) (ae (le_int) (ai))))) (ao (az 4 cU.nd (le_int)) (ao (cG PassesOwn.never rfl (aY (ak (sV T) hr rfl (ae (af 0) (ae (ar (af 1) (aN rfl T.dj)) (ai))))) (cw 5 cU.nd) (av (cT (IL hu (ar (af 5) (aN rfl T.dj)) (af 2)) (av (az 3 cU.nd (ak (FK T) hr rfl (ae (af 3) (ae (eu hu (af 2) (ar (af 5) (aN rfl T.dj))) (ai)))))) (av (AO 4 cU.nd (le_int)))))) (av (aE (xn (lt_eq hu (af 4) (le_int)) (wN) (ak (Hk T) hr rfl (ae (af 3) (ae (aX (ae (af 4) (ae (le_int) (ai)))) (ai)))))))))
theorem v8:aA ["sender", "levels"] ["sender", "levels"] (aq jG):=by walk_at "sc"
theorem mO (T:Txt w.params K mg t):aI P w K mg base 4 "bound_of" ["sender", "levels"] cv:=aC T.yt T.yB v8 rO vZ (fun _ _ _ _ _ _ _ _=>by walk_at "b2") fun _ _ _ _ _ _ hr hu=>
  av (aE (ak (nW T) hr rfl (ae (aJ (dg (ae (ak (fv T) hr rfl (ae (af 0) (ai))) (ai))) (bh (fsc:=aq jG) ["sender", "levels"] ["name", "levels"] 1 [1] rfl rfl (aY (ar (af 0) (aN rfl T.oS))) (fun cl C s₀ H₀ ex=>⟨aW 0 (show (["name", "levels"]:List Str).Nodup from by decide +kernel),cO,eu hu (af 1) (af 0)⟩) rfl rfl (by decide +kernel))) (ai))))
theorem fZ:aA ["plan", "settled", "levels", "rising", "least", "sender"] ["plan", "settled"] (aq iH):=by walk_at "sc"
theorem AY (T:Txt w.params K mg t):aI P w K mg base 5 "settle" ["plan", "settled"] eC:=aC T.CQ T.BB fZ wW z7 (fun _ _ _ _ _ _ _ _=>by walk_at "b2") fun _ _ _ _ _ _ hr hu=>
  ao (az 2 fZ.nd (bZ (xP rfl) A0 rfl T.IE rfl (ae (bh (fsc:=aq iH) ["plan", "settled", "levels", "rising", "least", "sender"] ["way", "plan", "settled"] 1 [0,1] rfl rfl (aY (ar (af 0) (aN rfl T.wL))) (fun cl C s₀ H₀ ex=>⟨aW 0 (show (["way", "plan", "settled"]:List Str).Nodup from by decide +kernel),cO,aX (ae (ar (af 0) (aN rfl T.dj)) (ae (ak (xJ T) hr rfl (ae (af 1) (ae (af 0) (ae (af 2) (ai))))) (ai)))⟩) rfl rfl (by decide +kernel)) (ai)))) (ao (jY (fsc:=aq iH) 3 fZ.nd ["plan", "settled", "levels", "rising", "least", "sender"] ["sender", "settled"] 1 [1] rfl rfl (aY (ar (af 0) (aN rfl T.cC))) (fun cl C s₀ H₀ ex=>⟨aW 0 (show (["sender", "settled"]:List Str).Nodup from by decide +kernel),de (tM hu (ar (af 0) (aN rfl T.dj)) (af 1)),af 0⟩) rfl rfl (by decide +kernel)) (ao (az 4 fZ.nd (ak (nW T) hr rfl (ae (bh (fsc:=aq iH) ["plan", "settled", "levels", "rising", "least", "sender"] ["sender", "levels"] 1 [2] rfl rfl (aY (af 3)) (fun cl C s₀ H₀ ex=>⟨aW 0 (show (["sender", "levels"]:List Str).Nodup from by decide +kernel),cO,ak (mO T) hr rfl (ae (af 0) (ae (af 1) (ai)))⟩) rfl rfl (by decide +kernel)) (ai)))) (av (cG PassesOwn.never rfl (aY (af 3)) (cw 5 fZ.nd) (av (cT (lt_eq hu (ak (mO T) hr rfl (ae (af 5) (ae (af 2) (ai)))) (af 4)) (av (y6 hu (af 1) (ar (af 5) (aN rfl T.dj)) (af 4))) (bj)))))))
theorem ir:aA ["plan", "settled"] ["plan"] (aq fB):=by walk_at "sc"
theorem qG (T:Txt w.params K mg t):aI P w K mg base 6 "even_shares" ["plan"] bL:=aC T.pM T.pJ ir mv nS (fun _ _ _ _ _ _ _ _=>by walk_at "b1") fun _ _ _ _ _ _ hr hu=>
  ao (az 1 ir.nd (CS)) (ao (jV PassesOwn.never (zR (aS qY wa rfl T.gM rfl (ae (af 1) (ai))) (aS bY dF rfl T.gM rfl (ae (ar (af 0) (aN rfl T.cC)) (ai)))) (av (eZ (ak (AY T) hr rfl (ae (af 0) (ae (af 1) (ai))))))) (av (aE (bZ bw cY rfl T.d7 rfl (ae (bh (fsc:=aq fB) ["plan", "settled"] ["sender", "settled"] 1 [1] rfl rfl (aY (ar (af 0) (aN rfl T.cC))) (fun cl C s₀ H₀ ex=>⟨aW 0 (show (["sender", "settled"]:List Str).Nodup from by decide +kernel),cO,aX (ae (ar (af 0) (aN rfl T.dj)) (ae (eu hu (af 1) (ar (af 0) (aN rfl T.dj))) (ai)))⟩) rfl rfl (by decide +kernel)) (ai))))))
theorem iK:aA ["plan", "shares", "rows", "sender", "row", "whys"] ["plan"] (aq xY):=by walk_at "sc"
theorem IF (T:Txt w.params K mg t):aI P w K mg base 7 "even" ["plan"] iS:=aC T.JB T.JO iK CO Gd (fun _ _ _ _ _ _ _ _=>by walk_at "b1") fun _ _ _ _ _ _ hr hu=>
  ao (az 1 iK.nd (ak (qG T) hr rfl (ae (af 0) (ai)))) (ao (az 2 iK.nd (gi (ai))) (ao (cG PassesOwn.never rfl (mG rfl T.zA (ae (ar (af 0) (aN rfl T.cC)) (ae (af 1) (ai)))) (xS rfl (fT 3 iK.nd (fT 4 iK.nd (rK)))) (ao (jY (fsc:=aq xY) 5 iK.nd ["plan", "shares", "rows", "sender", "row", "whys"] ["why", "plan", "shares", "sender", "row"] 1 [0,1,3,4] rfl rfl (aY (aJ (aX (ae (le_str) (ai))) (ar (af 3) (aN rfl T.oS)))) (fun cl C s₀ H₀ ex=>⟨aW 0 (show (["why", "plan", "shares", "sender", "row"]:List Str).Nodup from by decide +kernel),de (cJ (ak (vm T) hr rfl (ae (af 1) (ae (af 2) (ae (af 3) (ae (ar (af 4) (aN rfl T.dH)) (ae (af 0) (ai)))))))),af 0⟩) rfl rfl (by decide +kernel)) (av (eZ (le_app (af 2) (aX (ae (ar (af 4) (aN rfl T.dj)) (ae (ar (af 4) (aN rfl T.dH)) (ae (ar (af 5) (le_int)) (ai)))))))))) (av (aE (bZ bw cY rfl T.d7 rfl (ae (af 2) (ai)))))))
theorem hE:aA ["_law_script", "_law_k", "_law_cell", "_law_great"] ["_law_script", "_law_k"] (aq nv):=by walk_at "sc"
theorem gA (T:Txt w.params K mg t):aI P w K mg base 1 "_law_box" ["_law_script", "_law_k"] L3.f9:=aC T.xc T.yC hE L3.Es L3.Ic (fun _ _ _ _ _ _ _ _=>by walk_at "b2") fun _ _ _ _ _ _ hr hu=>
  ao (az 2 hE.nd (xn (zR (af 1) (aS bY dF rfl T.gM rfl (ae (af 0) (ai)))) (ar (af 0) (af 1)) (le_int))) (ao (az 3 hE.nd (le_mul (aS hX jS rfl T.uF rfl (ae (af 2) (ai))) (bZ Aq Gp rfl T.G8 rfl (ae (KP (aS hX jS rfl T.uF rfl (ae (af 2) (ai))) (le_pow (le_int) (le_int))) (ai))))) (av (aE (gi (ae (af 3) (ae (fA (le_mul (aJ (aJ (fA (af 2) (le_int)) (le_mul (le_mul (le_int) (af 1)) (af 1))) (le_int)) (le_int)) (le_int)) (ae (le_int) (ai))))))))
theorem ka:aA ["_law_box_here", "_law_many", "_law_digit"] ["_law_box_here", "_law_many"] (aq lU):=by walk_at "sc"
theorem ay (T:Txt w.params K mg t):aI P w K mg base 1 "_law_take" ["_law_box_here", "_law_many"] gd:=aC T.vQ T.vw ka pW ub (fun _ _ _ _ _ _ _ _=>by walk_at "b2") fun _ _ _ _ _ _ hr hu=>
  ao (nK (af 0) (le_int) (aJ (ar (af 0) (le_int)) (le_int))) (ao (cT (LW.lt (xb (Dq (ar (af 0) (le_int)) (le_int)) (zh (Hb (ar (af 0) (le_int)) (le_int))))) (ao (az 2 ka.nd (fA (ar (af 0) (le_int)) (af 1))) (ao (nK (af 0) (le_int) (ip (ar (af 0) (le_int)) (af 1))) (av (aE (af 2))))) (bj)) (ao (nK (af 0) (le_int) (fA (aJ (aJ (le_mul (ar (af 0) (le_int)) (le_int)) (le_int)) (ar (af 0) (le_int))) (le_int))) (av (aE (fA (ip (fA (le_mul (ar (af 0) (le_int)) (aJ (fA (ar (af 0) (le_int)) (le_int)) (le_int))) (le_int)) (le_int)) (af 1))))))
theorem iu:aA ["_law_top", "_law_bottom", "_law_one", "_law_other"] ["_law_top", "_law_bottom"] (aq oT):=by walk_at "sc"
theorem bR (T:Txt w.params K mg t):aI P w K mg base 1 "_law_low" ["_law_top", "_law_bottom"] aQ:=aC T.yI T.xN iu su vh (fun _ _ _ _ _ _ _ _=>by walk_at "b2") fun _ _ _ _ _ _ hr hu=>
  ao (AX 2 3 rfl iu.nd (ae (aS hX jS rfl T.uF rfl (ae (af 0) (ai))) (ae (af 1) (ai)))) (ao (jV PassesOwn.never (Dq (af 3) (le_int)) (av (AX 2 3 rfl iu.nd (ae (af 3) (ae (fA (af 2) (af 3)) (ai)))))) (av (aE (aX (ae (ip (af 0) (af 2)) (ae (ip (af 1) (af 2)) (ai)))))))
theorem gm:aA ["_law_one", "_law_box_here", "_law_most", "_law_bottom", "_law_made"] ["_law_one", "_law_box_here", "_law_most"] (aq lX):=by walk_at "sc"
theorem uL (T:Txt w.params K mg t):aI P w K mg base 2 "_law_more" ["_law_one", "_law_box_here", "_law_most"] cB:=aC T.vU T.uH gm p7 tN (fun _ _ _ _ _ _ _ _=>by walk_at "b3") fun _ _ _ _ _ _ hr hu=>
  ao (az 3 gm.nd (aJ (le_int) (ak (ay T) hr rfl (ae (af 1) (ae (le_int) (ai)))))) (ao (az 4 gm.nd (ak (bR T) hr rfl (ae (aJ (le_mul (ar (af 0) (le_int)) (af 3)) (le_mul (ar (af 0) (le_int)) (ak (ay T) hr rfl (ae (af 1) (ae (af 2) (ai)))))) (ae (le_mul (ar (af 0) (le_int)) (af 3)) (ai))))) (av (aE (xn (Hb (ar (af 4) (le_int)) (le_mul (le_int) (ar (af 4) (le_int)))) (af 4) (aX (ae (le_int) (ae (le_int) (ai))))))))
theorem aV:aA ["_law_box_here", "_law_whole", "_law_bottom", "_law_w", "_law_top", "_law_up", "_law_under", "_law_down", "_law_least_here", "_law_rules"] ["_law_box_here"] (aq lQ):=by walk_at "sc"
theorem uT (T:Txt w.params K mg t):aI P w K mg base 3 "_law_rule" ["_law_box_here"] cz:=aC T.u4 T.vJ aV qy rY (fun _ _ _ _ _ _ _ _=>by walk_at "b1") fun _ _ _ _ _ _ hr hu=>
  ao (az 1 aV.nd (ar (dg (ae (aJ (le_int) (ak (ay T) hr rfl (ae (af 0) (ae (le_int) (ai))))) (ae (aJ (le_int) (ak (ay T) hr rfl (ae (af 0) (ae (le_int) (ai))))) (ae (aJ (le_int) (ak (ay T) hr rfl (ae (af 0) (ae (le_int) (ai))))) (ai))))) (ak (ay T) hr rfl (ae (af 0) (ae (le_int) (ai)))))) (ao (az 2 aV.nd (aJ (le_int) (ak (ay T) hr rfl (ae (af 0) (ae (le_int) (ai)))))) (ao (az 3 aV.nd (ak (bR T) hr rfl (ae (aJ (le_mul (af 1) (af 2)) (ak (ay T) hr rfl (ae (af 0) (ae (af 2) (ai))))) (ae (af 2) (ai))))) (ao (az 4 aV.nd (ak (uL T) hr rfl (ae (af 3) (ae (af 0) (ae (le_int) (ai)))))) (ao (az 5 aV.nd (ak (bR T) hr rfl (ae (aJ (le_int) (ak (ay T) hr rfl (ae (af 0) (ae (le_int) (ai))))) (ae (aJ (le_int) (ak (ay T) hr rfl (ae (af 0) (ae (le_int) (ai))))) (ai))))) (ao (az 6 aV.nd (aJ (le_int) (ak (ay T) hr rfl (ae (af 0) (ae (le_int) (ai)))))) (ao (az 7 aV.nd (ak (bR T) hr rfl (ae (aJ (le_int) (ak (ay T) hr rfl (ae (af 0) (ae (sE (af 6) (le_int)) (ai))))) (ae (af 6) (ai))))) (ao (az 8 aV.nd (ak (ay T) hr rfl (ae (af 0) (ae (le_int) (ai))))) (ao (az 9 aV.nd (dg (ae (aX (ae (le_str) (ae (af 3) (ai)))) (ae (aX (ae (le_str) (ae (af 3) (ae (af 5) (ae (af 7) (ae (af 4) (ai))))))) (ae (aX (ae (le_str) (ae (af 3) (ae (ak (bR T) hr rfl (ae (aJ (ar (af 5) (le_int)) (ar (af 5) (le_int))) (ae (ar (af 5) (le_int)) (ai)))) (ae (af 7) (ae (af 4) (ai))))))) (ai)))))) (ao (az 9 aV.nd (aJ (af 9) (dg (ae (aX (ae (le_str) (ae (af 3) (ae (af 5) (ae (af 7) (ae (af 4) (ai))))))) (ae (aX (ae (le_str) (ae (af 3) (ae (af 5) (ae (aX (ae (le_int) (ae (le_int) (ai)))) (ae (af 4) (ai))))))) (ai)))))) (av (aE (ar (aJ (af 9) (dg (ae (aX (ae (le_str) (ae (af 3) (ae (af 5) (ae (af 8) (ae (aJ (af 8) (ak (ay T) hr rfl (ae (af 0) (ae (le_int) (ai))))) (ae (af 4) (ai)))))))) (ai)))) (ak (ay T) hr rfl (ae (af 0) (ae (le_int) (ai))))))))))))))))
theorem qD:aA ["_law_rule_here"] ["_law_rule_here"] (aq kg):=by walk_at "sc"
theorem ug (T:Txt w.params K mg t):aI P w K mg base 1 "_law_limit" ["_law_rule_here"] cf:=aC T.sJ T.uc qD mZ qt (fun _ _ _ _ _ _ _ _=>by walk_at "b1") fun _ _ _ _ _ _ hr hu=>
  av (aE (ip (ar (ar (af 0) (le_neg (le_int))) (le_int)) (ar (ar (af 0) (le_neg (le_int))) (le_int))))
theorem iE:aA ["_law_box_here", "_law_name", "_law_pace", "_law_mark"] ["_law_box_here", "_law_name"] (aq o9):=by walk_at "sc"
theorem ya (T:Txt w.params K mg t):aI P w K mg base 2 "_law_way" ["_law_box_here", "_law_name"] cW:=aC T.yD T.yf iE tG vt (fun _ _ _ _ _ _ _ _=>by walk_at "b2") fun _ _ _ _ _ _ hr hu=>
  ao (az 2 iE.nd (ar (dg (ae (aJ (le_int) (ak (ay T) hr rfl (ae (af 0) (ae (le_int) (ai))))) (ae (aJ (le_int) (ak (ay T) hr rfl (ae (af 0) (ae (le_int) (ai))))) (ai)))) (ak (ay T) hr rfl (ae (af 0) (ae (le_int) (ai)))))) (ao (az 3 iE.nd (ar (dg (ae (wN) (ae (ak (ay T) hr rfl (ae (af 0) (ae (le_int) (ai)))) (ai)))) (ak (ay T) hr rfl (ae (af 0) (ae (le_int) (ai)))))) (av (aE (aX (ae (af 1) (ae (af 2) (ae (aJ (le_int) (ak (ay T) hr rfl (ae (af 0) (ae (le_int) (ai))))) (ae (af 3) (ae (ar (dg (ae (le_str) (ae (le_str) (ai)))) (ak (ay T) hr rfl (ae (af 0) (ae (le_int) (ai))))) (ai))))))))))
theorem cn:aA ["_law_box_here", "_law_name", "_law_ways", "_law_road", "_law_begin", "_law_many"] ["_law_box_here", "_law_name", "_law_ways"] (aq fG):=by walk_at "sc"
theorem ql (T:Txt w.params K mg t):aI P w K mg base 4 "_law_sender" ["_law_box_here", "_law_name", "_law_ways"] bP:=aC T.pw T.qu cn l5 o8 (fun _ _ _ _ _ _ _ _=>by walk_at "b3") fun _ _ _ _ _ _ hr hu=>
  ao (AD (fsc:=aq fG) 3 cn.nd ["_law_box_here", "_law_name", "_law_ways", "_law_road", "_law_begin", "_law_many"] ["_law_way_here", "_law_box_here"] 1 [0] rfl rfl (af 2) (fun cl C s₀ H₀ ex=>⟨aW 0 (show (["_law_way_here", "_law_box_here"]:List Str).Nodup from by decide +kernel),de (lt_eq hu (ak (ay T) hr rfl (ae (af 1) (ae (le_int) (ai)))) (le_int)),ar (af 0) (le_int)⟩) rfl rfl (by decide +kernel)) (ao (cT (lt_eq hu (af 3) (dg (ai))) (av (az 3 cn.nd (dg (ae (ar (ar (af 2) (ak (ay T) hr rfl (ae (af 0) (ae (aS bY dF rfl T.gM rfl (ae (af 2) (ai))) (ai))))) (le_int)) (ai))))) (bj)) (ao (az 4 cn.nd (ar (dg (ae (le_int) (ae (ak (ay T) hr rfl (ae (af 0) (ae (le_int) (ai)))) (ae (ak (ay T) hr rfl (ae (af 0) (ae (aJ (le_pow (le_int) (le_int)) (le_int)) (ai)))) (ai))))) (ak (ay T) hr rfl (ae (af 0) (ae (le_int) (ai)))))) (ao (az 5 cn.nd (ar (dg (ae (wN) (ae (ak (ay T) hr rfl (ae (af 0) (ae (le_int) (ai)))) (ai)))) (ak (ay T) hr rfl (ae (af 0) (ae (le_int) (ai)))))) (av (aE (aX (ae (af 1) (ae (bZ bw cY rfl T.d7 rfl (ae (af 3) (ai))) (ae (aJ (le_int) (ak (ay T) hr rfl (ae (af 0) (ae (le_int) (ai))))) (ae (af 4) (ae (af 5) (ae (ak (uT T) hr rfl (ae (af 0) (ai))) (ai)))))))))))))
theorem a7:aA ["_law_script", "_law_box_here", "_law_stock", "_law_names", "_law_k", "_law_ways", "_law_senders", "_law_name"] ["_law_script"] (aq lP):=by walk_at "sc"
theorem vH (T:Txt w.params K mg t):aI P w K mg base 5 "_law_plan" ["_law_script"] cy:=aC T.uo T.vd a7 qo uf (fun _ _ _ _ _ _ _ _=>by walk_at "b1") fun _ _ _ _ _ _ hr hu=>
  ao (az 1 a7.nd (ak (gA T) hr rfl (ae (af 0) (ae (le_int) (ai))))) (ao (az 2 a7.nd (gi (ae (le_str) (ae (le_str) (ae (le_str) (ae (le_str) (ae (le_str) (ae (le_str) (ae (le_str) (ae (le_str) (ae (le_str) (ae (le_str) (ae (le_str) (ae (le_str) (ae (le_str) (ae (le_str) (ae (le_str) (ai)))))))))))))))))) (ao (az 3 a7.nd (gi (ai))) (ao (cG PassesOwn.never rfl (lr rfl T.tU (le_int)) (cw 4 a7.nd) (av (eZ (le_app (af 3) (Ir (af 2) (ak (ay T) hr rfl (ae (af 1) (ae (aS bY dF rfl T.gM rfl (ae (af 2) (ai))) (ai))))))))) (ao (az 5 a7.nd (gi (ai))) (ao (cG PassesOwn.never rfl (lr rfl T.tU (aJ (le_int) (ak (ay T) hr rfl (ae (af 1) (ae (le_int) (ai)))))) (cw 4 a7.nd) (av (eZ (le_app (af 5) (ak (ya T) hr rfl (ae (ak (gA T) hr rfl (ae (af 0) (ae (aJ (le_int) (af 4)) (ai)))) (ae (ar (af 3) (fA (aJ (le_mul (le_int) (af 4)) (le_int)) (le_int))) (ai)))))))) (ao (az 6 a7.nd (gi (ai))) (ao (cG PassesOwn.never rfl (Ek rfl T.vK (ae (Gz (Cp rfl T.BZ rfl (ae (C8 (af 3)) (ai))) (G7) (CY (ak (ay T) hr rfl (ae (af 1) (ae (le_int) (ai)))))) (ai))) (xS rfl (fT 4 a7.nd (fT 7 a7.nd (rK)))) (av (eZ (le_app (af 6) (ak (ql T) hr rfl (ae (ak (gA T) hr rfl (ae (af 0) (ae (aJ (le_int) (af 4)) (ai)))) (ae (af 7) (ae (af 5) (ai))))))))) (av (aE (aX (ae (aJ (le_int) (ak (ay T) hr rfl (ae (af 1) (ae (le_int) (ai))))) (ae (bZ bw cY rfl T.d7 rfl (ae (af 5) (ai))) (ae (bZ bw cY rfl T.d7 rfl (ae (af 6) (ai))) (ai))))))))))))))
theorem my:aA ["_law_one", "_law_other"] ["_law_one", "_law_other"] (aq iC):=by walk_at "sc"
theorem ie (T:Txt w.params K mg t):aI P w K mg base 1 "_law_at_most" ["_law_one", "_law_other"] bf:=aC T.nL T.oD my lj mB (fun _ _ _ _ _ _ _ _=>by walk_at "b2") fun _ _ _ _ _ _ hr hu=>
  av (aE (L0 (le_mul (ar (af 0) (le_int)) (ar (af 1) (le_int))) (le_mul (ar (af 1) (le_int)) (ar (af 0) (le_int)))))
theorem iZ:aA ["_law_sender_here"] ["_law_sender_here"] (aq eN):=by walk_at "sc"
theorem eO (T:Txt w.params K mg t):aI P w K mg base 2 "_law_limit_share" ["_law_sender_here"] aO:=aC T.jy T.jC iZ iB iW (fun _ _ _ _ _ _ _ _=>by walk_at "b1") fun _ _ _ _ _ _ hr hu=>
  av (aE (ak (bR T) hr rfl (ae (ak (ug T) hr rfl (ae (ar (af 0) (le_int)) (ai))) (ae (ar (af 0) (le_int)) (ai)))))
theorem cp:aA ["_law_plan_here", "_law_name", "_law_shares", "_law_total", "_law_sender_here", "_law_share"] ["_law_plan_here", "_law_name", "_law_shares"] (aq jo):=by walk_at "sc"
theorem pk (T:Txt w.params K mg t):aI P w K mg base 2 "_law_sum_on" ["_law_plan_here", "_law_name", "_law_shares"] bM:=aC T.pY T.pQ cp mw mQ (fun _ _ _ _ _ _ _ _=>by walk_at "b3") fun _ _ _ _ _ _ hr hu=>
  ao (az 3 cp.nd (aX (ae (le_int) (ae (le_int) (ai))))) (ao (cG PassesOwn.never rfl (aY (ar (af 0) (le_int))) (cw 4 cp.nd) (av (cT (kJ hu (af 1) (ar (af 4) (le_int))) (ao (az 5 cp.nd (eu hu (af 2) (ar (af 4) (le_int)))) (av (az 3 cp.nd (ak (bR T) hr rfl (ae (aJ (le_mul (ar (af 3) (le_int)) (ar (af 5) (le_int))) (le_mul (ar (af 5) (le_int)) (ar (af 3) (le_int)))) (ae (le_mul (ar (af 3) (le_int)) (ar (af 5) (le_int))) (ai))))))) (bj)))) (av (aE (af 3))))
theorem bI:aA ["_law_plan_here", "_law_sender_here", "_law_shares", "_law_found", "_law_way_here", "_law_on", "_law_full", "_law_none_more"] ["_law_plan_here", "_law_sender_here", "_law_shares"] (aq dD):=by walk_at "sc"
theorem qc (T:Txt w.params K mg t):aI P w K mg base 3 "_law_bounds" ["_law_plan_here", "_law_sender_here", "_law_shares"] bN:=aC T.qp T.qF bI mr nB (fun _ _ _ _ _ _ _ _=>by walk_at "b3") fun _ _ _ _ _ _ hr hu=>
  ao (az 3 bI.nd (gi (ai))) (ao (cG PassesOwn.never rfl (aY (ar (af 0) (le_int))) (cw 4 bI.nd) (ao (jY (fsc:=aq dD) 5 bI.nd ["_law_plan_here", "_law_sender_here", "_law_shares", "_law_found", "_law_way_here", "_law_on", "_law_full", "_law_none_more"] ["_law_other", "_law_way_here"] 1 [4] rfl rfl (aY (ar (af 0) (le_int))) (fun cl C s₀ H₀ ex=>⟨aW 0 (show (["_law_other", "_law_way_here"]:List Str).Nodup from by decide +kernel),de (kJ hu (ar (af 1) (le_int)) (ar (af 0) (le_int))),ar (af 0) (le_int)⟩) rfl rfl (by decide +kernel)) (ao (az 6 bI.nd (le_eq hu (ak (pk T) hr rfl (ae (af 0) (ae (ar (af 4) (le_int)) (ae (af 2) (ai))))) (aX (ae (ar (af 4) (le_int)) (ae (le_int) (ai)))))) (ao (az 7 bI.nd (aS (qU rfl) zl rfl T.G6 rfl (ae (bh (fsc:=aq dD) ["_law_plan_here", "_law_sender_here", "_law_shares", "_law_found", "_law_way_here", "_law_on", "_law_full", "_law_none_more"] ["_law_name", "_law_shares", "_law_sender_here"] 1 [2,1] rfl rfl (aY (af 5)) (fun cl C s₀ H₀ ex=>⟨aW 0 (show (["_law_name", "_law_shares", "_law_sender_here"]:List Str).Nodup from by decide +kernel),cO,ak (ie T) hr rfl (ae (eu hu (af 1) (af 0)) (ae (eu hu (af 1) (ar (af 2) (le_int))) (ai)))⟩) rfl rfl (by decide +kernel)) (ai)))) (av (cT (LW.lt (xb (kJ hu (ar (af 4) (le_int)) (ar (af 1) (le_int))) (xb (cJ (af 6)) (zh (cJ (af 7)))))) (av (eZ (le_app (af 3) (ar (af 4) (le_int))))) (bj))))))) (av (aE (C8 (af 3)))))
theorem dE:aA ["_law_some", "_law_found", "_law_one"] ["_law_some"] (aq jP):=by walk_at "sc"
theorem kA (T:Txt w.params K mg t):aI P w K mg base 2 "_law_least" ["_law_some"] bF:=aC T.sC T.rX dE o6 pK (fun _ _ _ _ _ _ _ _=>by walk_at "b1") fun _ _ _ _ _ _ hr hu=>
  ao (az 1 dE.nd (ar (af 0) (le_int))) (ao (cG PassesOwn.never rfl (aY (af 0)) (cw 2 dE.nd) (av (cT (cJ (ak (ie T) hr rfl (ae (af 2) (ae (af 1) (ai))))) (av (az 1 dE.nd (af 2))) (bj)))) (av (aE (af 1))))
theorem bx:aA ["_law_plan_here", "_law_name", "_law_shares", "_law_pace", "_law_on", "_law_used", "_law_one", "_law_share", "_law_free"] ["_law_plan_here", "_law_name", "_law_shares"] (aq dk):=by walk_at "sc"
theorem tu (T:Txt w.params K mg t):aI P w K mg base 2 "_law_level" ["_law_plan_here", "_law_name", "_law_shares"] b9:=aC T.rS T.sO bx oE pC (fun _ _ _ _ _ _ _ _=>by walk_at "b3") fun _ _ _ _ _ _ hr hu=>
  ao (az 3 bx.nd (ar (bh (fsc:=aq dk) ["_law_plan_here", "_law_name", "_law_shares", "_law_pace", "_law_on", "_law_used", "_law_one", "_law_share", "_law_free"] ["_law_way_here", "_law_name"] 1 [1] rfl rfl (aY (ar (af 0) (le_int))) (fun cl C s₀ H₀ ex=>⟨aW 0 (show (["_law_way_here", "_law_name"]:List Str).Nodup from by decide +kernel),de (lt_eq hu (ar (af 0) (le_int)) (af 1)),ar (af 0) (le_int)⟩) rfl rfl (by decide +kernel)) (le_int))) (ao (jY (fsc:=aq dk) 4 bx.nd ["_law_plan_here", "_law_name", "_law_shares", "_law_pace", "_law_on", "_law_used", "_law_one", "_law_share", "_law_free"] ["_law_sender_here", "_law_name"] 1 [1] rfl rfl (aY (ar (af 0) (le_int))) (fun cl C s₀ H₀ ex=>⟨aW 0 (show (["_law_sender_here", "_law_name"]:List Str).Nodup from by decide +kernel),de (kJ hu (af 1) (ar (af 0) (le_int))),ar (af 0) (le_int)⟩) rfl rfl (by decide +kernel)) (ao (az 5 bx.nd (aX (ae (le_int) (ae (le_int) (ai))))) (ao (cG PassesOwn.never rfl (aY (af 4)) (cw 6 bx.nd) (ao (az 7 bx.nd (CG (af 2) (af 6) (aX (ae (le_int) (ae (le_int) (ai)))))) (av (az 5 bx.nd (ak (bR T) hr rfl (ae (aJ (le_mul (ar (af 5) (le_int)) (ar (af 7) (le_int))) (le_mul (ar (af 7) (le_int)) (ar (af 5) (le_int)))) (ae (le_mul (ar (af 5) (le_int)) (ar (af 7) (le_int))) (ai)))))))) (ao (az 8 bx.nd (aS bY dF rfl T.gM rfl (ae (bh (fsc:=aq dk) ["_law_plan_here", "_law_name", "_law_shares", "_law_pace", "_law_on", "_law_used", "_law_one", "_law_share", "_law_free"] ["_law_one", "_law_shares"] 1 [2] rfl rfl (aY (af 4)) (fun cl C s₀ H₀ ex=>⟨aW 0 (show (["_law_one", "_law_shares"]:List Str).Nodup from by decide +kernel),de (tM hu (af 0) (af 1)),af 0⟩) rfl rfl (by decide +kernel)) (ai)))) (av (aE (ak (bR T) hr rfl (ae (sE (le_mul (af 3) (ar (af 5) (le_int))) (ar (af 5) (le_int))) (ae (le_mul (ar (af 5) (le_int)) (af 8)) (ai))))))))))
theorem bU:aA ["_law_plan_here", "_law_shares", "_law_asked", "_law_sender_here", "_law_levels", "_law_least_here", "_law_name"] ["_law_plan_here"] (aq dN):=by walk_at "sc"
theorem uI (T:Txt w.params K mg t):aI P w K mg base 3 "_law_even" ["_law_plan_here"] cD:=aC T.va T.uZ bU p8 t9 (fun _ _ _ _ _ _ _ _=>by walk_at "b1") fun _ _ _ _ _ _ hr hu=>
  ao (az 1 bU.nd (CS)) (ao (jV PassesOwn.never (zR (aS qY wa rfl T.gM rfl (ae (af 1) (ai))) (aS bY dF rfl T.gM rfl (ae (ar (af 0) (le_int)) (ai)))) (ao (az 2 bU.nd (gi (ai))) (ao (cG PassesOwn.never rfl (aY (ar (af 0) (le_int))) (cw 3 bU.nd) (av (cT (tM hu (ar (af 3) (le_int)) (af 1)) (ao (az 4 bU.nd (aJ (dg (ae (ak (eO T) hr rfl (ae (af 3) (ai))) (ai))) (bh (fsc:=aq dN) ["_law_plan_here", "_law_shares", "_law_asked", "_law_sender_here", "_law_levels", "_law_least_here", "_law_name"] ["_law_name", "_law_plan_here", "_law_shares"] 1 [0,1] rfl rfl (aY (ar (af 3) (le_int))) (fun cl C s₀ H₀ ex=>⟨aW 0 (show (["_law_name", "_law_plan_here", "_law_shares"]:List Str).Nodup from by decide +kernel),cO,ak (tu T) hr rfl (ae (af 1) (ae (af 0) (ae (af 2) (ai))))⟩) rfl rfl (by decide +kernel)))) (av (eZ (le_app (af 2) (aX (ae (ar (af 3) (le_int)) (ae (ak (kA T) hr rfl (ae (af 4) (ai))) (ai)))))))) (bj)))) (ao (az 5 bU.nd (ak (kA T) hr rfl (ae (qX (fsc:=aq dN) ["_law_plan_here", "_law_shares", "_law_asked", "_law_sender_here", "_law_levels", "_law_least_here", "_law_name"] ["_law_name", "_law_level_here"] 2 [] rfl rfl (af 2) (fun cl C s₀ H₀ ex=>⟨mC rfl (cZ 0 (show (["_law_name", "_law_level_here"]:List Str).Nodup from by decide +kernel) (cZ 1 (show (["_law_name", "_law_level_here"]:List Str).Nodup from by decide +kernel) (ko))),cO,af 1⟩) rfl rfl (by decide +kernel)) (ai)))) (ao (az 6 bU.nd (ar (qX (fsc:=aq dN) ["_law_plan_here", "_law_shares", "_law_asked", "_law_sender_here", "_law_levels", "_law_least_here", "_law_name"] ["_law_name", "_law_level_here", "_law_least_here"] 2 [5] rfl rfl (af 2) (fun cl C s₀ H₀ ex=>⟨mC rfl (cZ 0 (show (["_law_name", "_law_level_here", "_law_least_here"]:List Str).Nodup from by decide +kernel) (cZ 1 (show (["_law_name", "_law_level_here", "_law_least_here"]:List Str).Nodup from by decide +kernel) (ko))),de (lt_eq hu (af 1) (af 2)),af 0⟩) rfl rfl (by decide +kernel)) (le_int))) (av (y6 hu (af 1) (af 6) (af 5)))))))) (av (aE (af 1))))
theorem cN:aA ["_law_box_here", "_law_plan_here", "_law_shares", "_law_rows", "_law_sender_here", "_law_some"] ["_law_box_here", "_law_plan_here", "_law_shares"] (aq kd):=by walk_at "sc"
theorem tK (T:Txt w.params K mg t):aI P w K mg base 4 "_law_table" ["_law_box_here", "_law_plan_here", "_law_shares"] b8:=aC T.rM T.r8 cN oR pD (fun _ _ _ _ _ _ _ _=>by walk_at "b3") fun _ _ _ _ _ _ hr hu=>
  ao (az 3 cN.nd (gi (ai))) (ao (cG PassesOwn.never rfl (aY (ar (af 1) (le_int))) (cw 4 cN.nd) (ao (az 5 cN.nd (ak (qc T) hr rfl (ae (af 1) (ae (af 4) (ae (af 2) (ai)))))) (ao (cT (lt_eq hu (eu hu (af 2) (ar (af 4) (le_int))) (ak (eO T) hr rfl (ae (af 4) (ai)))) (av (az 5 cN.nd (aJ (af 5) (dg (ae (le_str) (ai)))))) (bj)) (av (eZ (le_app (af 3) (aX (ae (ar (af 4) (le_int)) (ae (eu hu (af 2) (ar (af 4) (le_int))) (ae (ar (af 5) (ak (ay T) hr rfl (ae (af 0) (ae (aS bY dF rfl T.gM rfl (ae (af 5) (ai))) (ai))))) (ai))))))))))) (av (aE (bZ bw cY rfl T.d7 rfl (ae (af 3) (ai))))))
theorem jx:aA ["_law_script", "_law_plan_here", "_law_shares", "_law_told", "_law_box_here", "_law_k", "_law_table_here"] ["_law_script"] (aq zD):=by walk_at "sc"
theorem yW (T:Txt w.params K mg t):gT P w K mg base CX0 8 t.A6 t.GA ["_law_script"] (lift K dr):=by
  refine GI (T:=BN) T.yW jx rQ (fun cdv A outer s H E hr=>?_) Hz
  have hu:=hr.units
  exact ao (az 1 jx.nd (ak (vH T) hr rfl (ae (af 0) (ai)))) (ao (az 2 jx.nd (ak (uI T) hr rfl (ae (af 1) (ai)))) (ao (az 3 jx.nd (ak (IF T) hr rfl (ae (af 1) (ai)))) (ao (cT (GQ hu (bZ bw cY rfl T.d7 rfl (ae (bh (fsc:=aq zD) ["_law_script", "_law_plan_here", "_law_shares", "_law_told", "_law_box_here", "_law_k", "_law_table_here"] ["_law_row"] 1 [] rfl rfl (aY (af 3)) (fun cl C s₀ H₀ ex=>⟨aW 0 (show (["_law_row"]:List Str).Nodup from by decide +kernel),cO,Gz (af 0) (G7) (CY (le_int))⟩) rfl rfl (by decide +kernel)) (ai))) (bZ bw cY rfl T.d7 rfl (ae (bh (fsc:=aq zD) ["_law_script", "_law_plan_here", "_law_shares", "_law_told", "_law_box_here", "_law_k", "_law_table_here"] ["_law_sender_here", "_law_shares"] 1 [2] rfl rfl (aY (ar (af 1) (le_int))) (fun cl C s₀ H₀ ex=>⟨aW 0 (show (["_law_sender_here", "_law_shares"]:List Str).Nodup from by decide +kernel),cO,aX (ae (ar (af 0) (le_int)) (ae (eu hu (af 1) (ar (af 0) (le_int))) (ai)))⟩) rfl rfl (by decide +kernel)) (ai)))) (av (aE (gO))) (bj)) (ao (az 4 jx.nd (ak (gA T) hr rfl (ae (af 0) (ae (le_int) (ai))))) (ao (cG PassesOwn.never rfl (lr rfl T.tU (le_int)) (cw 5 jx.nd) (ao (az 6 jx.nd (ak (tK T) hr rfl (ae (af 4) (ae (af 1) (ae (af 2) (ai)))))) (av (cT (LW.lt (lM (zU (ak (gE T) hr rfl (ae (af 1) (ae (af 6) (ai)))) (gO)) (lg (zU (ak (gE T) hr rfl (ae (af 1) (ae (D3 rfl rfl T.Ik rfl (ae (af 6) (ai))) (ai)))) (gO))))) (av (aE (gO))) (bj))))) (av (aE (Ia (ak (gE T) hr rfl (ae (af 1) (ae (af 3) (ai)))) (gO)))))))))
end
theorem all_mk {l:PySem.W.OpenLaw}{w:World}{K:PySem.W.Frag}{mg:Str→Option Value}{fa:Addr}{t:Adr}(hfa:mg "law" = some (.ref fa))(T:Txt w.params K mg t):∃ fd:FuncData,(∀ (s:Shared) (v:Value),BindsTo s fd ⟨[v],[]⟩ [("_law_script", v)])∧∀ base:Heap,K.In base→base.Ns mainGlobals mg→gT l.prog w K mg base CX0 8 fa fd ["_law_script"] (lift K dr):=by
  have e:=hfa.symm.trans T.Lx
  injection e with e
  injection e with e
  subst e
  obtain ⟨oc,od,kV,dc,pm,an,cd,ct,sl,ed,_,_⟩:=T.yW.ex
  exact ⟨_,fun s v=>.of_eq (by rw[ed];rfl),fun base _ _=>yW T⟩
end Kk
namespace PySem.W.Fast
def tw12104081005883758178:=0
def tw5824285568072473696:=0
def tw4485175727544971456:=0
def tw3435230476246970176:=0
def tw3260744065152018368:=0
def tw5137566497620676576:=0
def tw15311289917304456193:=0
def tw957190146213962849:=0
def tw734679980599611905:=0
def tw8907128110239870753:=0
def tw3952444444285226817:=0
def tw2576253561748530081:=0
def tw4710830933019939809:=0
def tw11581556488882536514:=0
def tw15809591314316777538:=0
def tw12485612543878130850:=0
def tw7871110060647793954:=0
def tw17837282742445753698:=0
def tw4719400959760729570:=0
def tw11955396870103147202:=0
def tw14668762434571256835:=0
def tw398692812717208739:=0
def tw4597648627701065283:=0
def tw10680033885940405059:=0
def tw93144617530934243:=0
def tw9438975061105096452:=0
def tw18288631796020344133:=0
def tw16187032924118066597:=0
def tw11304985477041512997:=0
def tw3235052291630932038:=0
def tw1781440187972455846:=0
def tw925470640612741958:=0
def tw13072982745069955527:=0
def tw5033825656076673511:=0
def tw5163722893924754951:=0
def tw3478340627440672551:=0
def tw8218558761455675016:=0
def tw17571231514007947944:=0
def tw1842223288997323624:=0
def tw7859459859400038409:=0
def tw969747951843241033:=0
def tw16505228957164273769:=0
def tw3695464625797896105:=0
def tw17639535665765652650:=0
def tw4119678271005513226:=0
def tw304076462328257130:=0
def tw15469672238662605418:=0
def tw9541387966831308426:=0
def tw12734334714734361675:=0
def tw1594820747497621771:=0
def tw13662885802676200235:=0
def tw3831909971599540492:=0
def tw8754644288304776684:=0
def tw8100241699927696332:=0
def tw12424682275887285357:=0
def tw8559552606226606605:=0
def tw14824865011414545325:=0
def tw10688683067247068109:=0
def tw9093304308864247726:=0
def tw14579090313523486319:=0
def tw12472326055659194159:=0
def tw17347411024593568623:=0
def tw2156469273521626224:=0
def tw3316061558265161840:=0
def tw13865278236657181040:=0
def tw966653124140026352:=0
def tw5403091135888115153:=0
def tw2389018034945232914:=0
def tw14145560546597071954:=0
def tw2595025943134693970:=0
def tw8040907294550986322:=0
def tw12248561363282929426:=0
def tw18124153847836023027:=0
def tw772920545238053235:=0
def tw7122676285509049875:=0
def tw11340177052070805139:=0
def tw3374935548887027764:=0
def tw18206590512034294260:=0
def tw7611353345830398580:=0
def tw12960001610848117588:=0
def tw5083013659195882484:=0
def tw8894204125254554645:=0
def tw10255493193526272021:=0
def tw18233350954506461141:=0
def tw15905986721394572245:=0
def tw17564447612576704950:=0
def tw13975789536951298518:=0
def tw5438181774190071286:=0
def tw8905859252921568918:=0
def tw4506761068580947606:=0
def tw2087642903465441974:=0
def tw4053046146260196182:=0
def tw5159294951715700566:=0
def tw13362893436946111543:=0
def tw17975409145360675927:=0
def tw17805122807109541303:=0
def tw14633628431683137111:=0
def tw10530705393544745687:=0
def tw16035145435254152951:=0
def tw13220872466364501496:=0
def tw6789077418755845656:=0
def tw13590810323902255513:=0
def tw7638464612353048153:=0
def tw4025240004663663322:=0
def tw4151344143711714395:=0
def tw12290378533130885307:=0
def tw13693995859453891227:=0
def tw1166099430572014427:=0
def tw14009276345601922108:=0
def tw7502675091973660892:=0
def tw15024153918712921404:=0
def tw5897239686312916508:=0
def tw2061933826328475228:=0
def tw7330407605727558588:=0
def tw7663255665748991964:=0
def tw5901682951886002269:=0
def tw2583526965159439773:=0
def tw12653975645725578813:=0
def tw15702321440821058974:=0
def tw10304943550376308126:=0
def tw3041530009044333054:=0
def tw5800327971237672798:=0
def tw14007068366055509982:=0
def tw4329807946495835167:=0
def tw7908285338513801887:=0
end PySem.W.Fast
open PySem PySem.W PyProof.Rows L2 L3
set_option maxRecDepth 100000 in
set_option maxHeartbeats 0 in
theorem PySem.Challenge.cw_swellways_k60_tables_of_other_hands_holds : PySem.Challenge.rw_swellways_k60_tables_of_other_hands.Holds := by
  w_on;o_law;k_head;(case hw=>w_witness2)
  k_fill
  refine L3.KS (l:=PySem.Challenge.rw_swellways_k60_tables_of_other_hands) (k:=8) (sp:=Kk.dr) (x := "_law_script") rfl rfl ⟨rfl,by decide,by decide⟩ (fun w h Y=>PySem.W.kIn_of Y) Kk.kM ?F
  case F=>
    intro w mg fa h KX G hmg
    refine' Kk.all_mk (t:=⟨_,_,_,_,_,_,_,_,_,_,_,_,_,_,_,_,_,_,_,_,_,_,_,_,_,_,_,_,_,_,_,_,_,_,_,_,_,_,_,_,_,_,_,_,_,_,_,_,_,_,_,_,_,_,_,_,_,_,_,_,_,_,_,_,_,_,_,_,_,_,_,_,_,_,_,_,_,_,_,_,_,_,_,_,_,_,_,_,_,_,_,_,_,_⟩) hmg ⟨mg_of KX G ?_,aK ?_ ?_ ?_,mg_of KX G ?_,aK ?_ ?_ ?_,mg_of KX G ?_,aK ?_ ?_ ?_,mg_of KX G ?_,aK ?_ ?_ ?_,mg_of KX G ?_,aK ?_ ?_ ?_,mg_of KX G ?_,aK ?_ ?_ ?_,mg_of KX G ?_,aK ?_ ?_ ?_,mg_of KX G ?_,aK ?_ ?_ ?_,mg_of KX G ?_,aK ?_ ?_ ?_,mg_of KX G ?_,aK ?_ ?_ ?_,mg_of KX G ?_,aK ?_ ?_ ?_,mg_of KX G ?_,aK ?_ ?_ ?_,mg_of KX G ?_,aK ?_ ?_ ?_,mg_of KX G ?_,aK ?_ ?_ ?_,mg_of KX G ?_,aK ?_ ?_ ?_,mg_of KX G ?_,aK ?_ ?_ ?_,mg_of KX G ?_,aK ?_ ?_ ?_,mg_of KX G ?_,aK ?_ ?_ ?_,mg_of KX G ?_,aK ?_ ?_ ?_,mg_of KX G ?_,aK ?_ ?_ ?_,mg_of KX G ?_,aK ?_ ?_ ?_,mg_of KX G ?_,aK ?_ ?_ ?_,mg_of KX G ?_,aK ?_ ?_ ?_,mg_of KX G ?_,aK ?_ ?_ ?_,mg_of KX G ?_,aK ?_ ?_ ?_,mg_of KX G ?_,aK ?_ ?_ ?_,mg_of KX G ?_,aK ?_ ?_ ?_,mg_of KX G ?_,aK ?_ ?_ ?_,mg_of KX G ?_,aK ?_ ?_ ?_,mg_of KX G ?_,aK ?_ ?_ ?_,mg_of KX G ?_,aK ?_ ?_ ?_,mg_of KX G ?_,aK ?_ ?_ ?_,mg_of KX G ?_,aK ?_ ?_ ?_,mg_of KX G ?_,aK ?_ ?_ ?_,mg_of KX G ?_,aK ?_ ?_ ?_,mg_of KX G ?_,aK ?_ ?_ ?_,mg_of KX G ?_,aK ?_ ?_ ?_,mg_of KX G ?_,aK ?_ ?_ ?_,mg_of KX G ?_,aK ?_ ?_ ?_,mg_of KX G ?_,aK ?_ ?_ ?_,mg_of KX G ?_,aK ?_ ?_ ?_,mg_of KX G ?_,aK ?_ ?_ ?_,mg_of KX G ?_,aK ?_ ?_ ?_,mg_of KX G ?_,aK ?_ ?_ ?_,mg_of KX G ?_,aK ?_ ?_ ?_,mg_of KX G ?_,aK ?_ ?_ ?_,mg_of KX G ?_,aK ?_ ?_ ?_,mg_none_of KX G ?_,mg_none_of KX G ?_,mg_none_of KX G ?_,mg_none_of KX G ?_,mg_none_of KX G ?_,mg_none_of KX G ?_,mg_none_of KX G ?_,mg_none_of KX G ?_,mg_none_of KX G ?_,mg_none_of KX G ?_,mg_none_of KX G ?_,mg_none_of KX G ?_,mg_none_of KX G ?_,mg_none_of KX G ?_,mg_none_of KX G ?_,gf KX G ?_,gf KX G ?_,Ji (its:=#[.int 0 _,.int 1 _]) (xs:=[V.int 0,V.int 1]) KX G ?_ ?_ ?_ ?_ ?_ (show 2≤sizeLine by decide) (.cons ⟨_,rfl⟩ (.cons ⟨_,rfl⟩ (.nil))) (fun _=>.cons (.int _) (.cons (.int _) (.nil))),gf KX G ?_,gf KX G ?_,gf KX G ?_,gf KX G ?_,gf KX G ?_,gf KX G ?_,gf KX G ?_⟩
    all_goals try first | k_is | rfl
