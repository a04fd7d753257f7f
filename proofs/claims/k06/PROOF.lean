import PyProof.Rows.All
import Wide.All
import OpenK.AllK
import Wide.FinOn
import Lean
import PyProof.EqAt
import PyProof.EqKinds
import PyProof.TupleCall
import PyProof.P3Eq
import PyProof.NeKinds
import PyProof.NeData
import PyProof.ZipIter
import PyProof.EnumMake
import PyProof.EnumFor
import OpenK.KTop
import PyProof.IsRules
import PyProof.AttrMissHeap
import PyProof.DictUpdate
import KE.KDictOf
import PyProof.Rows.SortStr
import PyProof.FString5
import PyProof.StrOps
import PyProof.ListRange
import PyProof.TupleOfGen
import PyProof.Rows.SumAny
import PyProof.Rows.CallKwBuiltin
import PySem.Challenge.RW_swellways_k06_what_rules_are
set_option Elab.async false
set_option linter.all false
set_option maxRecDepth 100000
set_option maxHeartbeats 4000000
namespace L2
open PySem PySem.Spec PyProof.Rows
abbrev Key:=Sum Int Str
def kg:Key→Value→Bool
  | .inl k,v=>Value.isInt k v
  | .inr x,v=>Value.isStrOf x v
def zp (w:World):Key→Int
  | .inl k=>hashInt k
  | .inr x=>hashStr w x
theorem a7:∀ {k:Key} {v:Value},kg k v=true→(∃ i t,k=Sum.inl i∧v=Value.int i t)∨(∃ x t,k=Sum.inr x∧v=Value.str x t)
  | .inl i,v,h=>by
    obtain ⟨t,e⟩:=Value.isInt_shape (k:=i) (v:=v) h
    exact .inl ⟨i,t,rfl,e⟩
  | .inr x,v,h=>by
    obtain ⟨t,e⟩:=Value.isStrOf_shape (x:=x) (v:=v) h
    exact .inr ⟨x,t,rfl,e⟩
theorem pV (i:Int)(t:Tok):kg (.inl i) (.int i t)=true:=by simp[kg,Value.isInt]
theorem o7 (x:Str)(t:Tok):kg (.inr x) (.str x t)=true:=by simp[kg,Value.isStrOf]
theorem vE (a b:Int):decide ((Sum.inl a:Key)=Sum.inl b)=(a == b):=by
  by_cases e:a=b
  · subst e;simp
  · have h:¬ (Sum.inl a:Key)=Sum.inl b:=fun q=>e (Sum.inl.inj q)
    rw[decide_eq_false h]
    exact (beq_eq_false_iff_ne.mpr e).symm
theorem xg (a b:Str):decide ((Sum.inr a:Key)=Sum.inr b)=decide (a=b):=by
  by_cases e:a=b
  · subst e;simp
  · have h:¬ (Sum.inr a:Key)=Sum.inr b:=fun q=>e (Sum.inr.inj q)
    rw[decide_eq_false h,decide_eq_false e]
theorem xc (a:Int)(b:Str):decide ((Sum.inl a:Key)=Sum.inr b)=false:=decide_eq_false (fun q=>nomatch q)
theorem xh (a:Str)(b:Int):decide ((Sum.inr a:Key)=Sum.inl b)=false:=decide_eq_false (fun q=>nomatch q)
def fc (prog:Program)(w:World):PySem.KeyKind prog w Key where
  is:=kg
  hash:=zp w
  inj:=fun v a b ha hb=>by
    rcases a7 ha with ⟨i,t,rfl,rfl⟩ | ⟨x,t,rfl,rfl⟩
    · rcases a7 hb with ⟨j,u,rfl,e⟩ | ⟨y,u,rfl,e⟩
      · injection e with e1 _;rw[e1]
      · exact nomatch e
    · rcases a7 hb with ⟨j,u,rfl,e⟩ | ⟨y,u,rfl,e⟩
      · exact nomatch e
      · injection e with e1 _;rw[e1]
  byValue:=fun k v h=>by
    rcases a7 h with ⟨i,t,rfl,rfl⟩ | ⟨x,t,rfl,rfl⟩ <;> rfl
  pyHash:=fun hv h=>by
    rcases a7 hv with ⟨i,t,rfl,rfl⟩ | ⟨x,t,rfl,rfl⟩
    · exact wpAny_pyHash_int h
    · exact wpAny_pyHash_str h
  eqBool:=fun hu hv h=>by
    rcases a7 hu with ⟨i,t,rfl,rfl⟩ | ⟨x,t,rfl,rfl⟩
    · rcases a7 hv with ⟨j,u,rfl,rfl⟩ | ⟨y,u,rfl,rfl⟩
      · rw[vE] at h;exact wpAny_eqBool_int h
      · rw[xc] at h;exact SeqAt.EqAt.int_str i t y u _ _ _ _ h
    · rcases a7 hv with ⟨j,u,rfl,rfl⟩ | ⟨y,u,rfl,rfl⟩
      · rw[xh] at h;exact SeqAt.EqAt.str_int x t j u _ _ _ _ h
      · rw[xg] at h;exact wpAny_eqBool_str h
  «strs»:=fun k x t v h=>by
    rcases a7 h with ⟨i,u,rfl,e⟩ | ⟨y,u,rfl,e⟩
    · exact nomatch e
    · injection e with e1 _
      subst e1
      cases v<;>rfl
theorem lZ (prog:Program)(w:World)(i:Int)(t:Tok):(fc prog w).is (.inl i) (.int i t)=true:=pV i t
theorem lX (prog:Program)(w:World)(x:Str)(t:Tok):(fc prog w).is (.inr x) (.str x t)=true:=o7 x t
end L2
namespace L2
open PySem PySem.Spec PyProof.Rows
inductive V where
  | non | bl (b:Bool) | int (i:Int) | str (x:Str) | byt (b:Array UInt8) | flt (b:UInt64) | ref (a:Addr) | ty (n:String)
  deriving DecidableEq
def RelV:V→Value→Prop
  | .non,u=>u=Value.none
  | .bl b,u=>u=Value.bool b
  | .int i,u=>∃ t,u=Value.int i t
  | .str x,u=>∃ t,u=Value.str x t
  | .byt b,u=>∃ t,u=Value.bytes b t
  | .flt b,u=>∃ t,u=Value.float b t
  | .ref a,u=>u=Value.ref a
  | .ty n,u=>u=Value.type n
abbrev Vals:List V→List Value→Prop:=Paired RelV
theorem Vals.length {xs:List V}{us:List Value}(r:Vals xs us):xs.length=us.length:=Paired.length r
theorem Vals.get:∀ {xs:List V} {us:List Value} {i:Nat} {x:V},Vals xs us→xs[i]? = some x→∃ u,us[i]? = some u∧RelV x u
  | _,_,_,_,.nil,e=>by simp at e
  | _,_,0,_,.cons r _,e=>by simp at e;subst e;exact ⟨_,rfl,r⟩
  | _,_,i+1,x,.cons _ t,e=>by
    obtain ⟨u,h1,h2⟩:=Vals.get (i:=i) (x:=x) t (by simpa using e)
    exact ⟨u,by simpa using h1,h2⟩
theorem Vals.set {x:V}{u:Value}(r:RelV x u):∀ {xs:List V} {us:List Value} (i:Nat),Vals xs us→Vals (xs.set i x) (us.set i u)
  | _,_,_,.nil=>.nil
  | _,_,0,.cons _ t=>.cons r t
  | _,_,i+1,.cons q t=>.cons q (Vals.set r i t)
theorem Vals.append:∀ {xs ys:List V} {us ws:List Value},Vals xs us→Vals ys ws→Vals (xs++ys) (us++ws)
  | _,_,_,_,.nil,s=>s
  | _,_,_,_,.cons r t,s=>.cons r (Vals.append t s)
theorem Vals.take:∀ {xs:List V} {us:List Value} (n:Nat),Vals xs us→Vals (xs.take n) (us.take n)
  | _,_,0,_=>.nil
  | _,_,_+1,.nil=>.nil
  | _,_,n+1,.cons r t=>.cons r (Vals.take n t)
theorem Vals.drop:∀ {xs:List V} {us:List Value} (n:Nat),Vals xs us→Vals (xs.drop n) (us.drop n)
  | _,_,0,r=>r
  | _,_,_+1,.nil=>.nil
  | _,_,n+1,.cons _ t=>Vals.drop n t
def pS:Option V→Option Value→Prop
  | some v,some u=>RelV v u
  | none,none=>True
  | _,_=>False
def KV {κ:Type}:List (κ×V)→List (κ×Value)→Prop:=Paired fun (p:κ×V) (q:κ×Value)=>p.1=q.1∧RelV p.2 q.2
def kV:Key→V
  | .inl i=>.int i
  | .inr x=>.str x
inductive HO where
    | lst (xs:List V)
    | tup (xs:List V)
    | dK (kvs:List (Key×V)) | dT (kvs:List (List Key×V))
    | set (S:Int→Bool) (n:Nat)
    | ins (C dx:Addr) (fs:List (Str×V))
    | own (x:Addr)
    | xd (fs:List (Str×V))
    | met (f x:Addr)
    | rng (lo hi:Int)
    | frz (o:Obj) (u:HO)
    | tbl (ps:Array Value)
    | ext (φ:Heap→Prop)
abbrev Hp:=Addr→Option HO
def upd (H:Hp)(a:Addr)(o:HO):Hp:=fun b=>if b=a then some o else H b
theorem aV {H:Hp}{a:Addr}{o:HO}:upd H a o a=some o:=by unfold upd;rw[if_pos rfl]
theorem aF {H:Hp}{a b:Addr}{o:HO}(h:b≠a):upd H a o b=H b:=by unfold upd;rw[if_neg h]
theorem ot {H:Hp}{a:Addr}{o u:HO}:upd (upd H a o) a u=upd H a u:=by
  funext b;unfold upd;split<;>rfl
theorem b8 {H:Hp}{a b:Addr}{o:HO}(h:H a=some o)(h':H b=none):a≠b:=by
  intro e;subst e;rw[h] at h';cases h'
def nH (h:Heap)(a:Addr)(items:Array Value):Prop:=∃ n,h.get? a=some { cls:=.type "tuple", data:=.seq items n }
theorem nH.tup {h:Heap}{a:Addr}{items:Array Value}(p:nH h a items):IsTup h a items:=by obtain ⟨n,e⟩:=p;exact ⟨_,e,rfl,n,rfl⟩
theorem nH.new (h:Heap)(items:Array Value):nH (h.push { cls:=.type "tuple", data:=.seq items }) h.objs.size items:=⟨_,Heap.get?_push_size _ rfl⟩
section
variable (P:Program) (w:World)
def cS (H:Hp)(h:Heap)(a:Addr):HO→Prop
  | .lst xs=>xs.length≤sizeLine∧∃ (its:List Value) (n:Nat),Vals xs its∧h.get? a=some { cls:=.type "list", data:=.seq its.toArray n }
  | .tup xs=>xs.length≤sizeLine∧∃ its:List Value,Vals xs its∧nH h a its.toArray
  | .dK kvs=>kvs.length≤sizeLine∧(a == sysModules)=false∧∃ vs,KV kvs vs∧h.DictOf (fc P w) a vs
  | .dT kvs=>kvs.length≤sizeLine∧(a == sysModules)=false∧∃ xs:List (List Key×Addr×Value),
      Paired (fun (p:List Key×V) (q:List Key×Addr×Value)=>p.1=q.1∧H q.2.1=some (.tup (p.1.map kV))∧RelV p.2 q.2.2) kvs xs∧
      ∃ o es ep,h.get? a=some o∧o.ExactDict∧o.data=.dict es ep∧es.toList=xs.map (entryOfKey (tupleKind (fc P w)))∧(xs.map (·.1)).Nodup
  | .set S n=>h.SetOf (intKind P w) a S n
  | .ins C dx fs=>H dx=some (.own a)∧fs.length≤1000∧dx≠a∧h.get? a=some (PySem.W.instObj C dx)∧
      ∃ mA,h.Ns1 dx mA∧(∀ f,pS (fs.lookup f) (mA f))∧PySem.Within mA (fs.map (·.1))
  | .own _=>∃ o,h.get? a=some o
  | .xd fs=>∃ mA,h.Ns1 a mA∧∀ f,pS (fs.lookup f) (mA f)
  | .rng lo hi=>∃ t u v,h.get? a=some { cls:=.type "range", data:=.fields #[.int lo t,.int hi u,.int 1 v] }
  | .frz o u=>h.get? a=some o∧cS H h a u
  | .tbl ps=>h.get? a=some { cls:=.none,data:=.fields ps }
  | .met f x=>h.get? a=some (PySem.W.methodObj (.ref f) (.ref x))
  | .ext φ=>φ h∧(∃ o,h.get? a=some o)∧∀ h1 h2:Heap,φ h1→(∀ o,h1.get? a=some o→h2.get? a=some o)→φ h2
def HOk (H:Hp)(h:Heap):Prop:=∀ a o,H a=some o→cS P w H h a o
end
section
variable {P:Program} {w:World} {H H':Hp} {h h':Heap} {a:Addr} {o:HO}
theorem cS.lt (x:cS P w H h a o):a < h.objs.size:=by
  cases o with
  | lst xs=>obtain ⟨_,_,_,_,e⟩:=x;exact Heap.lt_size e
  | tup xs=>obtain ⟨_,_,_,p⟩:=x;exact p.tup.lt
  | dK kvs=>obtain ⟨_,_,_,_,o,_,_,e,_⟩:=x;exact Heap.lt_size e
  | dT kvs=>obtain ⟨_,_,_,_,o,_,_,e,_⟩:=x;exact Heap.lt_size e
  | set S n=>obtain ⟨o,_,_,_,e,_⟩:=x;exact Heap.lt_size e
  | ins C dx fs=>obtain ⟨_,_,_,e,_⟩:=x;exact Heap.lt_size e
  | own y=>obtain ⟨_,e⟩:=x;exact Heap.lt_size e
  | xd fs=>obtain ⟨_,⟨_,_,_,e,_⟩,_⟩:=x;exact Heap.lt_size e
  | rng lo hi=>obtain ⟨_,_,_,e⟩:=x;exact Heap.lt_size e
  | frz ob u=>obtain ⟨e,_⟩:=x;exact Heap.lt_size e
  | tbl ps=>exact Heap.lt_size (show h.get? a=some _ from x)
  | met f y=>exact Heap.lt_size (show h.get? a=some _ from x)
  | ext φ=>obtain ⟨_,⟨_,e⟩,_⟩:=x;exact Heap.lt_size e
theorem Paired.wD {α β:Type}{F G:α→β→Prop}:∀ {l₁:List α} {l₂:List β},Paired F l₁ l₂→(∀ a b,F a b→G a b)→Paired G l₁ l₂
  | _,_,.nil,_=>.nil
  | _,_,.cons r t,f=>.cons (f _ _ r) (Paired.wD t f)
theorem cS.mB (x:cS P w H h a o)(k:∀ b u,(b=a∨H b=some (.own a))→h.get? b=some u→h'.get? b=some u)
    (ho:∀ b,H b=some (.own a)→H' b=some (.own a)) (ht:∀ b xs,H b=some (.tup xs)→H' b=some (.tup xs)):cS P w H' h' a o:=by
  induction o with
  | lst xs=>obtain ⟨z,its,n,r,e⟩:=x;exact ⟨z,its,n,r,k _ _ (.inl rfl) e⟩
  | tup xs=>obtain ⟨z,its,r,m,e⟩:=x;exact ⟨z,its,r,m,k _ _ (.inl rfl) e⟩
  | dK kvs=>obtain ⟨z,y,vs,r,ob,es,ep,e,c⟩:=x;exact ⟨z,y,vs,r,ob,es,ep,k _ _ (.inl rfl) e,c⟩
  | dT kvs=>
    obtain ⟨z,y,xs,r,ob,es,ep,e,c⟩:=x
    exact ⟨z,y,xs,Paired.wD r fun p q z=>⟨z.1,ht _ _ z.2.1,z.2.2⟩,ob,es,ep,k _ _ (.inl rfl) e,c⟩
  | set S n=>obtain ⟨ob,es,ep,t,e,c⟩:=x;exact ⟨ob,es,ep,t,k _ _ (.inl rfl) e,c⟩
  | ins C dx fs=>
    obtain ⟨d,z,ne,e,mA,⟨od,es,ep,e2,c⟩,r⟩:=x
    exact ⟨ho _ d,z,ne,k _ _ (.inl rfl) e,mA,⟨od,es,ep,k _ _ (.inr d) e2,c⟩,r⟩
  | own y=>obtain ⟨ob,e⟩:=x;exact ⟨ob,k _ _ (.inl rfl) e⟩
  | xd fs=>obtain ⟨mA,⟨od,es,ep,e,c⟩,r⟩:=x;exact ⟨mA,⟨od,es,ep,k _ _ (.inl rfl) e,c⟩,r⟩
  | rng lo hi=>obtain ⟨t,u,v,e⟩:=x;exact ⟨t,u,v,k _ _ (.inl rfl) e⟩
  | frz ob u ih=>obtain ⟨e,q⟩:=x;exact ⟨k _ _ (.inl rfl) e,ih q⟩
  | tbl ps=>
    have e:h.get? a=some { cls:=.none,data:=.fields ps }:=x
    show h'.get? a=some { cls:=.none,data:=.fields ps }
    exact k a _ (.inl rfl) e
  | met f y=>
    have e:h.get? a=some (PySem.W.methodObj (.ref f) (.ref y)):=x
    show h'.get? a=some (PySem.W.methodObj (.ref f) (.ref y))
    exact k a _ (.inl rfl) e
  | ext φ=>obtain ⟨p,⟨o,e⟩,st⟩:=x;exact ⟨st _ _ p fun o q=>k _ _ (.inl rfl) q,⟨o,k _ _ (.inl rfl) e⟩,st⟩
theorem HOk.lt (x:HOk P w H h)(e:H a=some o):a < h.objs.size:=(x a o e).lt
theorem HOk.fresh (x:HOk P w H h)(e:h.objs.size≤a):H a=none:=by
  cases q:H a with
  | none=>rfl
  | some u=>exact absurd (Nat.lt_of_lt_of_le (x.lt q) e) (Nat.lt_irrefl _)
theorem HOk.kept (x:HOk P w H h)(k:∀ b u,h.get? b=some u→h'.get? b=some u):HOk P w H h':=fun a o e=>
  (x a o e).mB (fun b u _ q=>k b u q) (fun _ q=>q) fun _ _ q=>q
theorem HOk.laid (x:HOk P w H h)(k:∀ b u,h.get? b=some u→h'.get? b=some u)(hp:h.objs.size≤a)(new:cS P w (upd H a o) h' a o):HOk P w (upd H a o) h':=fun b u e=>by
  have hn:=x.fresh hp
  by_cases hb:b=a
  · subst hb;rw[aV] at e;cases e;exact new
  · rw[aF hb] at e
    exact (x b u e).mB (fun c v _ q=>k c v q) (fun c q=>by rw[aF (b8 q hn)];exact q) fun c xs q=>by rw[aF (b8 q hn)];exact q
end
def Rd (H:Hp)(a:Addr)(u:HO):Prop:=H a=some u∨∃ o,H a=some (.frz o u)
theorem Rd.of {H:Hp}{a:Addr}{u:HO}(h:H a=some u):Rd H a u:=.inl h
theorem Rd.ok {P:Program}{w:World}{H:Hp}{h:Heap}{a:Addr}{u:HO}(r:Rd H a u)(x:HOk P w H h):cS P w H h a u:=by
  rcases r with r | ⟨o,r⟩
  · exact x a u r
  · obtain ⟨_,q⟩:=x a _ r
    exact q
def Mut:Option HO→Prop
  | some (.lst _)=>True
  | some (.dK _)=>True
  | some (.dT _)=>True
  | some (.set _ _)=>True
  | some (.ins _ _ _)=>True
  | some (.ext _)=>True
  | _=>False
section
variable {P:Program} {w:World} {H:Hp} {h h':Heap} {x e:Addr} {o':HO}
theorem HOk.write (ok:HOk P w H h)(mu:Mut (H x))(he:e=x∨H e=some (.own x))(k:∀ b u,b≠e→h.get? b=some u→h'.get? b=some u)(heo:∃ u,h'.get? e=some u)
    (new:cS P w (upd H x o') h' x o'):HOk P w (upd H x o') h':=fun b u q=>by
  have yr:∀ c y,H c=some (.own y)→c≠x:=fun c y r z=>by subst z;rw[r] at mu;exact mu
  have zi:∀ c xs,H c=some (.tup xs)→c≠x:=fun c xs r z=>by subst z;rw[r] at mu;exact mu
  by_cases hb:b=x
  · subst hb;rw[aV] at q;cases q;exact new
  · rw[aF hb] at q
    by_cases hbe:b=e
    · have q':H b=some (.own x):=by
        rcases he with z | z
        · exact absurd (hbe.trans z) hb
        · rw[hbe];exact z
      rw[q] at q';cases q'
      obtain ⟨v,hv⟩:=heo
      exact ⟨v,by rw[hbe];exact hv⟩
    · refine (ok b u q).mB (fun c v hc r=>k c v ?_ r) (fun c r=>by rw[aF (yr c b r)];exact r) fun c xs r=>by rw[aF (zi c xs r)];exact r
      rcases hc with rfl | hc
      · exact hbe
      · rintro rfl
        rcases he with z | z
        · exact yr c b hc z
        · rw[hc] at z;cases z;exact hb rfl
end
structure Un (fs ex:List Addr) (H H':Hp) (h h':Heap):Prop where
  keep:∀ b o,h.get? b=some o→H b=none→b ∉ fs→b ∉ ex→h'.get? b=some o
  slot:∀ b o,h.get? b=some o→H b=none→b∈fs→b ∉ ex→∃ sl,h'.get? b=some { o with slots:=sl }
  free:∀ b o,h.get? b=some o→H b=none→b ∉ ex→H' b=none
  there:∀ b o,h.get? b=some o→b ∉ ex→∃ o',h'.get? b=some o'
  hW:∀ b xs,H b=some (.tup xs)→H' b=some (.tup xs)
  gX:∀ b o u,H b=some (.frz o u)→H' b=some (.frz o u)
  hZ:∀ b ps,H b=some (.tbl ps)→∃ more,H' b=some (.tbl (ps++more))
section
variable {fs fs' ex ex':List Addr} {H H1 H2:Hp} {h h1 h2 h':Heap} {a x e:Addr} {o:HO}
theorem Un.any (u:Un fs ex H H1 h h1){b:Addr}{ob:Obj}(q:h.get? b=some ob)(n:H b=none)(hx:b ∉ ex):∃ sl,h1.get? b=some { ob with slots:=sl }:=by
  by_cases hb:b∈fs
  · exact u.slot b ob q n hb hx
  · exact ⟨ob.slots,u.keep b ob q n hb hx⟩
theorem Un.trans (a:Un fs ex H H1 h h1)(b:Un fs ex H1 H2 h1 h2):Un fs ex H H2 h h2 where
  keep:=fun c ob q n hc hx=>b.keep c ob (a.keep c ob q n hc hx) (a.free c ob q n hx) hc hx
  slot:=fun c ob q n hc hx=>by
    obtain ⟨sl,e1⟩:=a.slot c ob q n hc hx
    obtain ⟨sl',e2⟩:=b.slot c _ e1 (a.free c ob q n hx) hc hx
    exact ⟨sl',e2⟩
  free:=fun c ob q n hx=>by
    obtain ⟨o',e1⟩:=a.there c ob q hx
    exact b.free c o' e1 (a.free c ob q n hx) hx
  there:=fun c ob q hx=>by
    obtain ⟨o',e1⟩:=a.there c ob q hx
    exact b.there c o' e1 hx
  hW:=fun c xs q=>b.hW c xs (a.hW c xs q)
  gX:=fun c ob xs q=>b.gX c ob xs (a.gX c ob xs q)
  hZ:=fun c ps q=>by
    obtain ⟨m1,e1⟩:=a.hZ c ps q
    obtain ⟨m2,e2⟩:=b.hZ c _ e1
    exact ⟨m1++m2,by rw[e2,Array.append_assoc]⟩
theorem Un.kept (k:∀ b u,h.get? b=some u→h'.get? b=some u):Un fs ex H H h h':=
  ⟨fun b ob q _ _ _=>k b ob q,fun b ob q _ _ _=>⟨ob.slots,k b ob q⟩,fun _ _ _ n _=>n,fun b ob q _=>⟨ob,k b ob q⟩,fun _ _ q=>q,fun _ _ _ q=>q,fun _ ps q=>⟨#[],by rw[q];simp⟩⟩
theorem Un.refl:Un fs ex H H h h:=Un.kept fun _ _ q=>q
theorem Un.laid (k:∀ b u,h.get? b=some u→h'.get? b=some u)(hp:h.objs.size≤a)(hn:H a=none):Un fs ex H (upd H a o) h h' where
  keep:=fun b u q _ _ _=>k b u q
  slot:=fun b u q _ _ _=>⟨u.slots,k b u q⟩
  free:=fun b u q n _=>by rw[aF (Nat.ne_of_lt (Nat.lt_of_lt_of_le (Heap.lt_size q) hp))];exact n
  there:=fun b u q _=>⟨u,k b u q⟩
  hW:=fun b xs q=>by rw[aF (b8 q hn)];exact q
  gX:=fun b u xs q=>by rw[aF (b8 q hn)];exact q
  hZ:=fun b ps q=>⟨#[],by rw[aF (b8 q hn),q];simp⟩
theorem Un.write (mu:Mut (H x))(he:e=x∨H e=some (.own x))(k:∀ b u,b≠e→h.get? b=some u→h'.get? b=some u)(heo:∃ u,h'.get? e=some u):Un fs ex H (upd H x o) h h':=by
  have hx:∀ b,H b=none→b≠x:=fun b n z=>by subst z;rw[n] at mu;exact mu
  have hb:∀ b,H b=none→b≠e:=fun b n z=>by
    subst z
    rcases he with r | r
    · exact hx b n r
    · rw[n] at r;cases r
  have hm:∀ b u,H b=some u→¬ Mut (some u)→b≠x:=fun b u q nm z=>by subst z;rw[q] at mu;exact nm mu
  refine ⟨fun b u q n _ _=>k b u (hb b n) q,fun b u q n _ _=>⟨u.slots,k b u (hb b n) q⟩,fun b u q n _=>by rw[aF (hx b n)];exact n,fun b u q _=>?_,
    fun b xs q=>by rw[aF (hm b _ q fun z=>z)];exact q,fun b u xs q=>by rw[aF (hm b _ q fun z=>z)];exact q,fun b ps q=>⟨#[],by rw[aF (hm b _ q fun z=>z),q];simp⟩⟩
  by_cases hbe:b=e
  · subst hbe;exact heo
  · exact ⟨u,k b u hbe q⟩
theorem Un.mono (u:Un fs ex H H1 h h1)(hs:∀ b∈fs,b∈fs')(hx:∀ b∈ex,b∈ex'):Un fs' ex' H H1 h h1:=
  ⟨fun b ob q n hb he=>u.keep b ob q n (fun z=>hb (hs b z)) fun z=>he (hx b z),fun _ _ q n _ he=>u.any q n fun z=>he (hx _ z),fun b ob q n he=>u.free b ob q n fun z=>he (hx b z),fun b ob q he=>u.there b ob q fun z=>he (hx b z),u.hW,u.gX,u.hZ⟩
end
def trk (h:Heap)(H:Hp):List Addr:=(List.range h.objs.size).filter fun a=>(H a).isSome
def kG (h:Heap)(H:Hp):Heap:=PySem.W.hideAll h (trk h H)
theorem pK (h:Heap)(H:Hp):(kG h H).objs.size=h.objs.size:=PySem.W.hideAll_size _ _
theorem qy {h:Heap}{H:Hp}{b:Addr}{o:Obj}(e:h.get? b=some o)(n:H b=none):(kG h H).get? b=some o:=
  PySem.W.hideAll_get _ e fun hm=>by
    have q:(H b).isSome=true:=(List.mem_filter.mp hm).2
    rw[n] at q;simp at q
theorem tf {h:Heap}{H:Hp}{b:Addr}{o:Obj}(e:(kG h H).get? b=some o):h.get? b=some o∧H b=none:=by
  have e':h.get? b=some o:=PySem.W.of_hideAll (trk h H) e
  refine ⟨e',?_⟩
  cases q:H b with
  | none=>rfl
  | some x=>
    have hm:b∈trk h H:=List.mem_filter.mpr ⟨List.mem_range.mpr (Heap.lt_size e'),by simp[q]⟩
    have z:(kG h H).get? b=none:=PySem.W.hideAll_none (trk h H) hm
    rw[z] at e;cases e
def uG (g h:Heap)(L:Addr):List (Addr×Obj):=(List.range h.objs.size).filterMap fun a=>if a=L∨(g.get? a).isSome=true then none else (h.get? a).map fun o=>(a,o)
def rest (g h:Heap)(L d:Addr):List (Addr×Obj):=(uG g h L).filter fun p=>decide (p.1≠d)
end L2
namespace L2
open PySem PySem.Spec PyProof.Rows
structure Mod (K:PySem.W.Frag) (mg:Str→Option Value) (base:Heap):Prop where
  kin:K.In base
  glob:base.Ns mainGlobals mg
  blt:∃ mb,base.Ns builtinsNs mb∧∀ x:Str,x ≠ "__name__" → mb x=bootBuiltins x
  nolimit:base.NoLimit
structure Cx where
  prog:Program
  w:World
  K:PySem.W.Frag
  mg:Str→Option Value
  base:Heap
  A:Around
  N:List Str
  s₀:Shared
  H₀:Hp
  env:Env
  outer:List Env
  stack:List Env
  ex:List Addr
  fn:Str→Bool
  calm:Bool
  pn:List (Addr×Obj)
  xe:Value→Shared→Prop
def frs (l:List Env):List Addr:=l.filterMap (·.frame)
abbrev Cx.fs (X:Cx):List Addr:=frs X.outer
def Vis (sc:Scope)(x:Str):Prop:=sc.names.lookup x=some .local∨sc.names.lookup x=some .cell∨sc.names.lookup x=some .free
def Loc (sc:Scope)(x:Str):Prop:=sc.names.lookup x=some .local∨sc.names.lookup x=some .cell
def Look (env:Env)(h:Heap)(m:Str→Option Value)(x:Str)(u:Value):Prop:=
  (env.kindOf x=some .local∧m x=some u)∨((env.kindOf x=some .cell∨env.kindOf x=some .free)∧∃ c,env.cells.lookup x=some c∧h.IsCell c (some u))
structure Cx.Ok (X:Cx):Prop where
  mod:Mod X.K X.mg X.base
  kind:X.env.scope.kind=.function
  glob:X.env.globals=mainGlobals
  blt:X.env.builtins=builtinsNs
  above:X.s₀.heap.objs.size≤X.env.locals
  inj:∀ x y c,X.env.cells.lookup x=some c→X.env.cells.lookup y=some c→x=y
  has:∀ x,(X.env.kindOf x=some .cell∨X.env.kindOf x=some .free)→∃ c,X.env.cells.lookup x=some c
  cab:∀ x c,X.fn x=true→X.env.cells.lookup x=some c→X.s₀.heap.objs.size≤c
  hd:X.calm=true→X.A.handled=none
  frames:X.A.frames=some X.stack
  stk:X.stack=X.outer∨(X.stack=X.env::X.outer∧X.env.frame=some X.env.locals)
  exf:∀ b∈X.ex,b≠X.env.locals∧∀ x c,X.env.cells.lookup x=some c→c≠b
  bs:∀ b o,X.base.get? b=some o→X.s₀.heap.get? b=some o∧X.H₀ b=none
  bsz:X.base.objs.size≤X.s₀.heap.objs.size
  uC:∀ b o,X.base.get? b=some o→b ∉ X.ex
  sO:∀ b∈X.ex,b ∉ X.fs
  h9:X.s₀.heap.FunFrames X.base X.outer
  frf:∀ b∈X.fs,X.H₀ b=none
structure Inv (X:Cx) (pins:List (Addr×Obj)) (σ:List (Option V)) (H:Hp) (s:Shared):Prop where
  ok:X.Ok
  os:s.os=X.s₀.os
  bare:AllBare s.gens
  base:Un X.fs X.ex X.H₀ H X.s₀.heap s.heap
  loc:∃ m,s.heap.Ns X.env.locals m∧∀ (i:Nat) (x:Str) (v:V),X.N[i]? = some x→σ[i]? = some (some v)→Vis X.env.scope x→∃ u,RelV v u∧Look X.env s.heap m x u
  cell:∀ x c,X.env.cells.lookup x=some c→∃ v,s.heap.IsCell c v
  free:H X.env.locals=none
  fR:∀ x c,X.env.cells.lookup x=some c→H c=none
  pin:∀ p∈X.pn++pins,s.heap.get? p.1=some p.2∧H p.1=none∧p.1≠X.env.locals∧p.1 ∉ X.fs∧∀ v,p.2.data≠.cell v
  hok:HOk X.prog X.w H s.heap
  len:σ.length=X.N.length
section
variable {X:Cx} {pins:List (Addr×Obj)} {σ:List (Option V)} {H H':Hp} {s:Shared} {h':Heap}
theorem Cx.Ok.zu (ok:X.Ok){b:Addr}{o:Obj}(e:X.base.get? b=some o):b ∉ X.fs:=fun hb=>by
  have:=(ok.h9.mem hb).1
  rw[e] at this;cases this
theorem Inv.bs (I:Inv X pins σ H s):∀ b o,X.base.get? b=some o→s.heap.get? b=some o∧H b=none:=fun b o e=>
  ⟨I.base.keep b o (I.ok.bs b o e).1 (I.ok.bs b o e).2 (I.ok.zu e) (I.ok.uC b o e),I.base.free b o (I.ok.bs b o e).1 (I.ok.bs b o e).2 (I.ok.uC b o e)⟩
theorem Inv.bk (I:Inv X pins σ H s):∀ b o,X.base.get? b=some o→s.heap.get? b=some o:=fun b o e=>(I.bs b o e).1
theorem Inv.mod (I:Inv X pins σ H s):Mod X.K X.mg X.base:=I.ok.mod
theorem Inv.kIn (I:Inv X pins σ H s):X.K.In s.heap:=I.ok.mod.kin.keeps I.bk
theorem Inv.nolimit (I:Inv X pins σ H s):s.heap.NoLimit:=I.ok.mod.nolimit.keeps I.bk
theorem Inv.fr (I:Inv X pins σ H s):∃ m,Fr X.base X.env.locals s.heap m:=
  let ⟨m,hn,_⟩:=I.loc
  ⟨m,hn,I.bk,Nat.le_trans I.ok.bsz I.ok.above⟩
theorem Inv.lt (I:Inv X pins σ H s):X.env.locals < s.heap.objs.size:=let ⟨_,hn,_⟩:=I.loc;hn.lt
theorem Inv.sz (I:Inv X pins σ H s):X.s₀.heap.objs.size≤s.heap.objs.size:=Nat.le_trans I.ok.above (Nat.le_of_lt I.lt)
theorem Inv.yX (I:Inv X pins σ H s){a:Addr}(h:s.heap.objs.size≤a):a ∉ X.fs:=fun hb=>by
  obtain ⟨_,o,ho,_⟩:=I.ok.h9.mem hb
  exact absurd (Nat.lt_of_lt_of_le (Heap.lt_size ho) (Nat.le_trans I.sz h)) (Nat.lt_irrefl _)
theorem Inv.cne (I:Inv X pins σ H s):∀ x c,X.env.cells.lookup x=some c→c≠X.env.locals:=fun x c e z=>by
  obtain ⟨v,o,ho,hd⟩:=I.cell x c e
  obtain ⟨m,⟨o',es,ep,ho',hd',_⟩,_⟩:=I.loc
  rw[z,ho'] at ho;cases ho;rw[hd'] at hd;cases hd
theorem Inv.h9 (I:Inv X pins σ H s):s.heap.FunFrames X.base X.outer:=by
  have all:∀ (l:List Env),(∀ b∈frs l,b∈X.fs)→X.s₀.heap.FunFrames X.base l→s.heap.FunFrames X.base l:=by
    intro l
    induction l with
    | nil=>intro _ _;trivial
    | cons env r ih=>
      intro hs hl
      obtain ⟨hk,⟨L,o,hf,hn,ho,hd⟩,hr⟩:=hl
      have hL:L∈X.fs:=hs L (by unfold frs;rw[List.filterMap_cons,hf];exact List.mem_cons_self)
      obtain ⟨sl,e⟩:=I.base.slot L o ho (I.ok.frf L hL) hL fun z=>I.ok.sO L z hL
      exact ⟨hk,⟨L,_,hf,hn,e,hd⟩,ih (fun b hb=>hs b (by unfold frs;rw[List.filterMap_cons,hf];exact List.mem_cons_of_mem _ hb)) hr⟩
  exact all X.outer (fun _ hb=>hb) I.ok.h9
theorem Inv.stack (I:Inv X pins σ H s):s.heap.FunFrames X.base X.stack:=by
  rcases I.ok.stk with e | ⟨e,hf⟩
  · rw[e];exact I.h9
  · rw[e]
    obtain ⟨m,hn,_⟩:=I.loc
    refine .cons (by rw[I.ok.kind];decide) hf hn ?_ I.h9
    exact Heap.get?_none_of_le (Nat.le_trans I.ok.bsz I.ok.above)
theorem Inv.sF (I:Inv X pins σ H s):∀ b∈frs X.stack,b∈X.env.locals::X.fs:=fun b hb=>by
  rcases I.ok.stk with e | ⟨e,hf⟩
  · rw[e] at hb;exact List.mem_cons_of_mem _ hb
  · rw[e] at hb
    unfold frs at hb
    rw[List.filterMap_cons,hf] at hb
    exact hb
theorem Inv.tM (I:Inv X pins σ H s):∀ b∈frs X.stack,H b=none:=fun b hb=>by
  rcases List.mem_cons.mp (I.sF b hb) with e | hb
  · rw[e];exact I.free
  · obtain ⟨_,o,ho,_⟩:=I.ok.h9.mem hb
    exact I.base.free b o ho (I.ok.frf b hb) fun z=>I.ok.sO b z hb
theorem Inv.step {g':Array GenState}{t':Nat}{d':Drawn}{ch:List Addr}(I:Inv X pins σ H s)
    (hch:∀ b∈ch,(b∈X.ex∨X.s₀.heap.objs.size≤b)∧b≠X.env.locals∧(∀ x c,X.env.cells.lookup x=some c→c≠b)∧∀ p∈X.pn++pins,p.1≠b)
    (keep:∀ b o,b≠X.env.locals→b ∉ X.fs→b ∉ ch→s.heap.get? b=some o→H b=none→h'.get? b=some o)
    (slot:∀ b o,b≠X.env.locals→b∈X.fs→b ∉ ch→s.heap.get? b=some o→H b=none→∃ sl,h'.get? b=some { o with slots:=sl }) (free:∀ b o,b ∉ ch→s.heap.get? b=some o→H b=none→H' b=none)
    (there:∀ b o,b ∉ ch→s.heap.get? b=some o→∃ o',h'.get? b=some o')
    (hW:∀ b xs,H b=some (.tup xs)→H' b=some (.tup xs)) (gX:∀ b o u,H b=some (.frz o u)→H' b=some (.frz o u)) (hZ:∀ b ps,H b=some (.tbl ps)→∃ more,H' b=some (.tbl (ps++more)))
    (ns:∀ m,s.heap.Ns X.env.locals m→h'.Ns X.env.locals m) (hok:HOk X.prog X.w H' h') (hg:AllBare g') :
    Inv X pins σ H' { s with heap:=h',gens:=g',drawn:=d',toks:=t' }:=by
  have neL:∀ b o,X.s₀.heap.get? b=some o→b≠X.env.locals:=fun b o e=>Nat.ne_of_lt (Nat.lt_of_lt_of_le (Heap.lt_size e) I.ok.above)
  have neC:∀ b o,X.s₀.heap.get? b=some o→b ∉ X.ex→b ∉ ch:=fun b o e hx hb=>by
    rcases (hch b hb).1 with z | z
    · exact hx z
    · exact absurd (Nat.lt_of_lt_of_le (Heap.lt_size e) z) (Nat.lt_irrefl _)
  have cellK:∀ x c,X.env.cells.lookup x=some c→∀ v,s.heap.IsCell c v→h'.IsCell c v:=fun x c e v ⟨o,ho,hd⟩=>by
    have nch:c ∉ ch:=fun z=>(hch c z).2.2.1 x c e rfl
    by_cases hc:c∈X.fs
    · obtain ⟨sl,q⟩:=slot c o (I.cne x c e) hc nch ho (I.fR x c e)
      exact ⟨_,q,hd⟩
    · exact ⟨o,keep c o (I.cne x c e) hc nch ho (I.fR x c e),hd⟩
  refine ⟨I.ok,I.os,hg,⟨fun b o e n hb hx=>?_,fun b o e n hb hx=>?_,fun b o e n hx=>?_,fun b o e hx=>?_,fun b xs e=>hW b xs (I.base.hW b xs e),fun b o xs e=>gX b o xs (I.base.gX b o xs e),fun b ps e=>?_⟩,?_,fun x c e=>?_,?_,fun x c e=>?_,fun p hp=>?_,hok,I.len⟩
  · exact keep b o (neL b o e) hb (neC b o e hx) (I.base.keep b o e n hb hx) (I.base.free b o e n hx)
  · obtain ⟨sl,e1⟩:=I.base.slot b o e n hb hx
    obtain ⟨sl',e2⟩:=slot b _ (neL b o e) hb (neC b o e hx) e1 (I.base.free b o e n hx)
    exact ⟨sl',e2⟩
  · obtain ⟨o',e1⟩:=I.base.there b o e hx
    exact free b o' (neC b o e hx) e1 (I.base.free b o e n hx)
  · obtain ⟨o',e1⟩:=I.base.there b o e hx
    exact there b o' (neC b o e hx) e1
  · obtain ⟨m1,e1⟩:=I.base.hZ b ps e
    obtain ⟨m2,e2⟩:=hZ b _ e1
    exact ⟨m1++m2,by rw[e2,Array.append_assoc]⟩
  · obtain ⟨m,hn,hl⟩:=I.loc
    refine ⟨m,ns m hn,fun i x v e1 e2 e3=>?_⟩
    obtain ⟨u,r,l⟩:=hl i x v e1 e2 e3
    refine ⟨u,r,?_⟩
    rcases l with l | ⟨k,c,e,z⟩
    · exact .inl l
    · exact .inr ⟨k,c,e,cellK x c e _ z⟩
  · obtain ⟨v,z⟩:=I.cell x c e
    exact ⟨v,cellK x c e v z⟩
  · obtain ⟨m,⟨o,_,_,ho,_⟩,_⟩:=I.loc
    exact free _ o (fun z=>(hch _ z).2.1 rfl) ho I.free
  · obtain ⟨v,o,ho,hd⟩:=I.cell x c e
    exact free c o (fun z=>(hch c z).2.2.1 x c e rfl) ho (I.fR x c e)
  · obtain ⟨e,n,ne,nf,d⟩:=I.pin p hp
    have nch:p.1 ∉ ch:=fun z=>(hch p.1 z).2.2.2 p hp rfl
    exact ⟨keep p.1 p.2 ne nf nch e n,free p.1 p.2 nch e n,ne,nf,d⟩
theorem Inv.un {t':Nat}(I:Inv X pins σ H s)(u:Un X.fs [] H H' s.heap h')(hok:HOk X.prog X.w H' h'):Inv X pins σ H' { s with heap:=h',toks:=t' }:=by
  obtain ⟨m,⟨o,es,ep,ho,r⟩,_⟩:=id I.loc
  obtain ⟨sl,hL⟩:=u.any ho I.free (by simp)
  exact I.step (g':=s.gens) (d':=s.drawn) (ch:=[]) (fun _ z=>nomatch z) (fun b o _ hb _ e n=>u.keep b o e n hb (by simp)) (fun b o _ hb _ e n=>u.slot b o e n hb (by simp)) (fun b o _ e n=>u.free b o e n (by simp)) (fun b o _ e=>u.there b o e (by simp)) u.hW u.gX u.hZ (fun m' hm=>by
    obtain ⟨o',es',ep',ho',r'⟩:=hm
    rw[ho] at ho';cases ho'
    exact ⟨_,es',ep',hL,r'⟩) hok I.bare
theorem Inv.call {g':Array GenState}{t':Nat}{d':Drawn}{ch:List Addr}(I:Inv X pins σ H s)(u:Un (frs X.stack) ch H H' s.heap h')(hok:HOk X.prog X.w H' h')(hg:AllBare g')
    (hch:∀ b∈ch,(b∈X.ex∨X.s₀.heap.objs.size≤b)∧b≠X.env.locals∧(∀ x c,X.env.cells.lookup x=some c→c≠b)∧∀ p∈X.pn++pins,p.1≠b) :
    Inv X pins σ H' { s with heap:=h',gens:=g',drawn:=d',toks:=t' }:=by
  obtain ⟨m,⟨o,es,ep,ho,r⟩,_⟩:=id I.loc
  obtain ⟨sl,hL⟩:=u.any ho I.free fun z=>(hch _ z).2.1 rfl
  exact I.step (ch:=ch) hch (fun b o hL hb hc e n=>u.keep b o e n (fun z=>(List.mem_cons.mp (I.sF b z)).elim hL hb) hc) (fun b o _ _ hc e n=>u.any e n hc) (fun b o hc e n=>u.free b o e n hc) (fun b o hc e=>u.there b o e hc) u.hW u.gX u.hZ (fun m' hm=>by
    obtain ⟨o',es',ep',ho',r'⟩:=hm
    rw[ho] at ho';cases ho'
    exact ⟨_,es',ep',hL,r'⟩) hok hg
theorem Inv.turned {t':Nat}{it:Addr}(I:Inv X pins σ H s)(k:∀ b o,b≠it→s.heap.get? b=some o→h'.get? b=some o)(hn:H it=none)(hL:it≠X.env.locals)
    (h1:it∈X.ex∨X.s₀.heap.objs.size≤it) (h2:∀ x c,X.env.cells.lookup x=some c→c≠it) (h3:∀ p∈X.pn++pins,p.1≠it):Inv X pins σ H { s with heap:=h',toks:=t' }:=by
  have nit:∀ b u,H b=some u→b≠it:=fun b u e z=>by rw[z,hn] at e;cases e
  refine I.step (g':=s.gens) (d':=s.drawn) (ch:=[it]) (fun b hb=>?_) (fun b o _ _ hc e _=>k b o (fun z=>hc (by simp[z])) e) (fun b o _ _ hc e _=>⟨o.slots,k b o (fun z=>hc (by simp[z])) e⟩) (fun _ _ _ _ n=>n)
    (fun b o hc e=>⟨o,k b o (fun z=>hc (by simp[z])) e⟩) (fun _ _ e=>e) (fun _ _ _ e=>e) (fun b ps e=>⟨#[],by rw[e];simp⟩) (fun m hm=>?_) (fun b u e=>?_) I.bare
  · have e:b=it:=by simpa using hb
    subst e
    exact ⟨h1,hL,h2,h3⟩
  · obtain ⟨o,es,ep,ho,r⟩:=hm
    exact ⟨o,es,ep,k _ o (Ne.symm hL) ho,r⟩
  · refine (I.hok b u e).mB (fun c v hc q=>k c v ?_ q) (fun _ q=>q) fun _ _ q=>q
    rcases hc with z | z
    · rw[z];exact nit b u e
    · exact nit c _ z
theorem Inv.tok (I:Inv X pins σ H s)(t:Nat):Inv X pins σ H { s with toks:=t }:=I.un (h':=s.heap) (t':=t) Un.refl I.hok
theorem Inv.kept {t':Nat}(I:Inv X pins σ H s)(k:∀ b u,s.heap.get? b=some u→h'.get? b=some u):Inv X pins σ H { s with heap:=h',toks:=t' }:=I.un (Un.kept k) (I.hok.kept k)
theorem Inv.laid {a:Addr}{o:HO}{t':Nat}(I:Inv X pins σ H s)(k:∀ b u,s.heap.get? b=some u→h'.get? b=some u)(hp:s.heap.objs.size≤a)(new:cS X.prog X.w (upd H a o) h' a o) :
    Inv X pins σ (upd H a o) { s with heap:=h',toks:=t' }:=I.un (Un.laid k hp (I.hok.fresh hp)) (I.hok.laid k hp new)
theorem Inv.write {x e:Addr}{o:HO}{t':Nat}(I:Inv X pins σ H s)(mu:Mut (H x))(he:e=x∨H e=some (.own x))(k:∀ b u,b≠e→s.heap.get? b=some u→h'.get? b=some u)(heo:∃ u,h'.get? e=some u)
    (new:cS X.prog X.w (upd H x o) h' x o):Inv X pins σ (upd H x o) { s with heap:=h',toks:=t' }:=I.un (Un.write mu he k heo) (I.hok.write mu he k heo new)
theorem Inv.oN {pins':List (Addr×Obj)}(I:Inv X pins σ H s)(h:∀ p∈pins',s.heap.get? p.1=some p.2∧H p.1=none∧p.1≠X.env.locals∧p.1 ∉ X.fs∧∀ v,p.2.data≠.cell v):Inv X pins' σ H s:=
  ⟨I.ok,I.os,I.bare,I.base,I.loc,I.cell,I.free,I.fR,fun p hp=>(List.mem_append.mp hp).elim (fun z=>I.pin p (List.mem_append_left _ z)) (h p),I.hok,I.len⟩
theorem l5 {N:List Str}(hN:N.Nodup){i j:Nat}{x:Str}(a:N[i]? = some x)(b:N[j]? = some x):i=j:=by
  obtain ⟨h1,e1⟩:=List.getElem?_eq_some_iff.mp a
  obtain ⟨h2,e2⟩:=List.getElem?_eq_some_iff.mp b
  exact (List.getElem_inj hN).mp (e1.trans e2.symm)
theorem pF {M:Model}{A:Around}{E:Value→Shared→Prop}{i:Nat}{x:Str}{v:V}{u:Value}{Q:Unit→Shared→Prop}(I:Inv X pins σ H s)(hN:X.N.Nodup)(hi:X.N[i]? = some x)(hx:Loc X.env.scope x)(r:RelV v u)
    (h:∀ s',Inv X pins (σ.set i (some v)) H s'→(∃ a,Heap.SameBut a s.heap s'.heap∧(a=X.env.locals∨X.env.cells.lookup x=some a))→Q () s') (hf:X.fn x=true∨X.env.scope.names.lookup x=some .local:=by first | exact .inl rfl | exact .inr rfl | assumption):wpAny M A (storeName X.env x u) Q E s:=by
  obtain ⟨m,hn,hl⟩:=id I.loc
  have zb:(X.env.scope.kind == .class || (X.env.scope.kind == .module&&X.env.locals != X.env.globals))=false:=by rw[I.ok.kind];rfl
  have hiσ:i < σ.length:=by rw[I.len];exact (List.getElem?_eq_some_iff.mp hi).1
  have cne:=I.cne
  have tracked:∀ {a:Addr} {h':Heap},(∃ o,s.heap.get? a=some o∧H a=none)→Heap.SameBut a s.heap h'→HOk X.prog X.w H h':=fun {a h'} ha hs b ob e=>by
    obtain ⟨_,_,hfree⟩:=ha
    refine (I.hok b ob e).mB (fun c w' hc q=>(hs.2 c ?_).trans q) (fun _ q=>q) fun _ _ q=>q
    rintro rfl
    rcases hc with rfl | hc
    · rw[hfree] at e;cases e
    · rw[hfree] at hc;cases hc
  rcases hx with hk | hk
  · refine wpAny_storeName_local hk hn (fun h' hn' hs=>?_) zb
    obtain ⟨oL,_,_,hoL,_⟩:=id hn
    refine h _ ⟨I.ok,I.os,I.bare,⟨fun b o e n hb hx=>?_,fun b o e n hb hx=>?_,I.base.free,fun b o e hx=>?_,I.base.hW,I.base.gX,I.base.hZ⟩,⟨_,hn',fun j y v' e1 e2 e3=>?_⟩,fun y c e=>?_,I.free,I.fR,fun p hp=>?_,tracked ⟨oL,hoL,I.free⟩ hs,by simpa using I.len⟩ ⟨_,hs,.inl rfl⟩
    · exact (hs.2 b (Nat.ne_of_lt (Nat.lt_of_lt_of_le (Heap.lt_size e) I.ok.above))).trans (I.base.keep b o e n hb hx)
    · obtain ⟨sl,e1⟩:=I.base.slot b o e n hb hx
      exact ⟨sl,(hs.2 b (Nat.ne_of_lt (Nat.lt_of_lt_of_le (Heap.lt_size e) I.ok.above))).trans e1⟩
    · obtain ⟨o',e1⟩:=I.base.there b o e hx
      exact ⟨o',(hs.2 b (Nat.ne_of_lt (Nat.lt_of_lt_of_le (Heap.lt_size e) I.ok.above))).trans e1⟩
    · by_cases hj:j=i
      · subst hj
        rw[hi] at e1;cases e1
        rw[List.getElem?_set_self hiσ] at e2
        cases e2
        exact ⟨u,r,.inl ⟨hk,by simp⟩⟩
      · rw[List.getElem?_set_ne (Ne.symm hj)] at e2
        obtain ⟨u',r',q⟩:=hl j y v' e1 e2 e3
        refine ⟨u',r',?_⟩
        rcases q with ⟨k,e⟩ | ⟨k,c,e,z⟩
        · refine .inl ⟨k,?_⟩
          have:y≠x:=fun e=>hj (l5 hN e1 (e ▸ hi))
          simp[this,e]
        · exact .inr ⟨k,c,e,z.sameBut hs (cne y c e)⟩
    · obtain ⟨w',z⟩:=I.cell y c e
      exact ⟨w',z.sameBut hs (cne y c e)⟩
    · obtain ⟨e,n,ne,nf,d⟩:=I.pin p hp
      exact ⟨(hs.2 p.1 ne).trans e,n,ne,nf,d⟩
  · have hfn:X.fn x=true:=by
      rcases hf with z | z
      · exact z
      · rw[z] at hk;cases hk
    obtain ⟨c,hc⟩:=I.ok.has x (.inl hk)
    obtain ⟨w',z⟩:=I.cell x c hc
    refine wpAny_storeName_cell I.ok.kind hk hc z (fun h' hc' hs=>?_)
    obtain ⟨oc,hoc,hocd⟩:=id z
    refine h { s with heap:=h' } ⟨I.ok,I.os,I.bare,⟨fun b o e n hb hx=>?_,fun b o e n hb hx=>?_,I.base.free,fun b o e hx=>?_,I.base.hW,I.base.gX,I.base.hZ⟩,⟨m,hn.sameBut hs (Ne.symm (cne x c hc)),fun j y v' e1 e2 e3=>?_⟩,fun y c' e=>?_,I.free,I.fR,fun p hp=>?_,tracked ⟨oc,hoc,I.fR x c hc⟩ hs,by simpa using I.len⟩ ⟨c,hs,.inr hc⟩
    · exact (hs.2 b (Nat.ne_of_lt (Nat.lt_of_lt_of_le (Heap.lt_size e) (I.ok.cab x c hfn hc)))).trans (I.base.keep b o e n hb hx)
    · obtain ⟨sl,e1⟩:=I.base.slot b o e n hb hx
      exact ⟨sl,(hs.2 b (Nat.ne_of_lt (Nat.lt_of_lt_of_le (Heap.lt_size e) (I.ok.cab x c hfn hc)))).trans e1⟩
    · obtain ⟨o',e1⟩:=I.base.there b o e hx
      exact ⟨o',(hs.2 b (Nat.ne_of_lt (Nat.lt_of_lt_of_le (Heap.lt_size e) (I.ok.cab x c hfn hc)))).trans e1⟩
    · by_cases hj:j=i
      · subst hj
        rw[hi] at e1;cases e1
        rw[List.getElem?_set_self hiσ] at e2
        cases e2
        exact ⟨u,r,.inr ⟨.inl hk,c,hc,hc'⟩⟩
      · rw[List.getElem?_set_ne (Ne.symm hj)] at e2
        obtain ⟨u',r',q⟩:=hl j y v' e1 e2 e3
        refine ⟨u',r',?_⟩
        rcases q with q | ⟨k,c',e,z'⟩
        · exact .inl q
        · refine .inr ⟨k,c',e,z'.sameBut hs ?_⟩
          rintro rfl
          exact hj (l5 hN e1 (I.ok.inj _ _ _ e hc ▸ hi))
    · by_cases hcc:c'=c
      · subst hcc;exact ⟨_,hc'⟩
      · obtain ⟨w2,z2⟩:=I.cell y c' e
        exact ⟨w2,z2.sameBut hs hcc⟩
    · obtain ⟨e,n,ne,nf,d⟩:=I.pin p hp
      refine ⟨(hs.2 p.1 ?_).trans e,n,ne,nf,d⟩
      intro q
      rw[q,hoc] at e
      have q':oc=p.2:=Option.some.inj e
      exact d w' (by rw[← q'];exact hocd)
theorem fU {M:Model}{A:Around}{E:Value→Shared→Prop}{i:Nat}{x:Str}{v:V}{u:Value}{Q:Unit→Shared→Prop}(I:Inv X pins σ H s)(hN:X.N.Nodup)(hi:X.N[i]? = some x)(hx:Loc X.env.scope x)(r:RelV v u)
    (h:∀ s',Inv X pins (σ.set i (some v)) H s'→Q () s') (hf:X.fn x=true∨X.env.scope.names.lookup x=some .local:=by first | exact .inl rfl | exact .inr rfl | assumption):wpAny M A (storeName X.env x u) Q E s:=
  pF I hN hi hx r (fun s' I' _=>h s' I') hf
end
abbrev XK:=Value→Option Addr→Hp→Prop
abbrev St:=List (Option V)
abbrev VK:=V→Hp→Prop
abbrev TE:=St→Hp→VK→Prop
abbrev TT:=St→Hp→(Bool→Hp→Prop)→Prop
abbrev TA:=St→Hp→(List V→Hp→Prop)→Prop
structure Ends where
  nx:St→Hp→Prop
  rt:VK
  bk:St→Hp→Prop:=fun _ _=>False
  ct:St→Hp→Prop:=fun _ _=>False
abbrev TS:=Ends→St→Hp→Prop
def EP (X:Cx)(pins:List (Addr×Obj))(σ:St)(Q:VK)(u:Value)(s':Shared):Prop:=∃ v H',Inv X pins σ H' s'∧RelV v u∧Q v H'
def TP (X:Cx)(pins:List (Addr×Obj))(σ:St)(Q:Bool→Hp→Prop)(b:Bool)(s':Shared):Prop:=∃ H',Inv X pins σ H' s'∧Q b H'
def AP (X:Cx)(pins:List (Addr×Obj))(σ:St)(Q:List V→Hp→Prop)(us:List Value)(s':Shared):Prop:=∃ vs H',Inv X pins σ H' s'∧Vals vs us∧Q vs H'
def SP (X:Cx)(pins:List (Addr×Obj))(D:Ends)(f:Flow)(s':Shared):Prop:=
  match f with
  | .next=>∃ σ' H',Inv X pins σ' H' s'∧D.nx σ' H'
  | .brk=>∃ σ' H',Inv X pins σ' H' s'∧D.bk σ' H'
  | .cont=>∃ σ' H',Inv X pins σ' H' s'∧D.ct σ' H'
  | .ret u=>∃ v σ' H',Inv X pins σ' H' s'∧RelV v u∧D.rt v H'
def PE (X:Cx)(e:Expr)(t:TE):Prop:=
  ∀ (pins:List (Addr×Obj)) (s:Shared) (σ:St) (H:Hp) (Q:VK),Inv X pins σ H s→t σ H Q→wpAny (model X.prog X.w) X.A (eval e X.env) (EP X pins σ Q) X.xe s
def PT (X:Cx)(e:Expr)(t:TT):Prop:=
  ∀ (pins:List (Addr×Obj)) (s:Shared) (σ:St) (H:Hp) (Q:Bool→Hp→Prop),Inv X pins σ H s→t σ H Q→wpAny (model X.prog X.w) X.A (isTrue e X.env (eval e X.env)) (TP X pins σ Q) X.xe s
def PW (X:Cx)(e:Expr)(t:TT):Prop:=
  ∀ (whole:Sem Value) (pins:List (Addr×Obj)) (s:Shared) (σ:St) (H:Hp) (Q:Bool→Hp→Prop),Inv X pins σ H s→t σ H Q→wpAny (model X.prog X.w) X.A (isTrue e X.env whole) (TP X pins σ Q) X.xe s
theorem PW.pt {X:Cx}{e:Expr}{t:TT}(h:PW X e t):PT X e t:=h _
def PA (X:Cx)(es:List Expr)(t:TA):Prop:=
  ∀ (pos:Pos) (pins:List (Addr×Obj)) (s:Shared) (σ:St) (H:Hp) (Q:List V→Hp→Prop),Inv X pins σ H s→t σ H Q→wpAny (model X.prog X.w) X.A (spliced (backTo pos (starEach es X.env))) (AP X pins σ Q) X.xe s
def PS (X:Cx)(st:Stmt)(t:TS):Prop:=
  ∀ (pins:List (Addr×Obj)) (s:Shared) (σ:St) (H:Hp) (D:Ends),Inv X pins σ H s→t D σ H→wpAny (model X.prog X.w) X.A (exec st X.env) (SP X pins D) X.xe s
def PSs (X:Cx)(st:List Stmt)(t:TS):Prop:=
  ∀ (pins:List (Addr×Obj)) (s:Shared) (σ:St) (H:Hp) (D:Ends),Inv X pins σ H s→t D σ H→wpAny (model X.prog X.w) X.A (execs st X.env) (SP X pins D) X.xe s
theorem thn {α:Type}{t:Sem α}{Q Q':α→Shared→Prop}{M:Model}{A:Around}{E:Value→Shared→Prop}{s:Shared}(h:wpAny M A t Q E s)(hQ:∀ a s,Q a s→Q' a s):wpAny M A t Q' E s:=wpAny_mono h hQ fun _ _ x=>x
end L2
namespace L2
open PySem PySem.Spec PyProof.Rows
section
variable {X:Cx}
def xK (i:Nat):TE:=fun σ H Q=>∃ v,σ[i]? = some (some v)∧Q v H
def tC (v:V):TE:=fun _ H Q=>Q v H
theorem qm {i:Nat}{x:Str}{pos:Pos}(hN:X.N[i]? = some x)(hv:Vis X.env.scope x)(hd:(x == ("__debug__" : Str))=false:=by decide)(hcd:(x == ("__classdict__" : Str))=false:=by decide):PE X (.Name x pos) (xK i):=by
  intro pins s σ H Q I h
  obtain ⟨v,e,h⟩:=h
  obtain ⟨m,hn,hl⟩:=I.loc
  obtain ⟨u,r,l⟩:=hl i x v hN e hv
  have fin:EP X pins σ Q u s:=⟨v,H,I,r,h⟩
  rcases l with ⟨hk,hm⟩ | ⟨hk,c,hc,hcell⟩
  · exact wpAny_Name (wpAny_loadName_local I.ok.kind hk hn hm fin) hd
  · rcases hk with hk | hk
    · exact wpAny_Name (wpAny_loadName_cell I.ok.kind hk hc hcell fin) hd
    · exact wpAny_Name (wpAny_loadName_free I.ok.kind hk hc hcell fin hcd) hd
theorem vy {i j pos}:PE X (.Constant (.int i) j pos) (tC (.int i)):=fun _ _ _ H _ I h=>wpAny_Constant_int ⟨.int i,H,I.tok _,⟨_,rfl⟩,h⟩
theorem yd {b j pos}:PE X (.Constant (.bool b) j pos) (tC (.bl b)):=fun _ _ _ H _ I h=>Constant_bool ⟨.bl b,H,I,rfl,h⟩
theorem wM {x j pos}:PE X (.Constant (.str x) j pos) (tC (.str x)):=fun _ _ _ H _ I h=>Calls.Constant_str ⟨.str x,H,I.tok _,⟨_,rfl⟩,h⟩
def Gl (X:Cx)(x:Str):Prop:=X.env.kindOf x=some .globalImplicit
theorem oJ {E:Value→Shared→Prop}{pins:List (Addr×Obj)}{s:Shared}{σ:St}{H:Hp}{x:Str}{u:Value}{pos:Pos}{Q:Value→Shared→Prop}(I:Inv X pins σ H s)(hg:Gl X x)(hm:X.mg x=some u)(h:Q u s)
    (hd:(x == ("__debug__" : Str))=false:=by decide):wpAny (model X.prog X.w) X.A (eval (.Name x pos) X.env) Q E s:=
  Calls.Name_function_global I.ok.kind hg (Calls.loadGlobal_global (by rw[I.ok.glob];exact I.mod.glob.keeps I.bk) hm h) hd
theorem kT {E:Value→Shared→Prop}{pins:List (Addr×Obj)}{s:Shared}{σ:St}{H:Hp}{x:Str}{u:Value}{pos:Pos}{Q:Value→Shared→Prop}(I:Inv X pins σ H s)(hg:Gl X x)(hm:X.mg x=none)(hv:bootBuiltins x=some u)(h:Q u s)
    (hn:x ≠ "__name__" := by decide) (hd:(x == ("__debug__" : Str))=false:=by decide):wpAny (model X.prog X.w) X.A (eval (.Name x pos) X.env) Q E s:=by
  obtain ⟨mb,h1,h2⟩:=I.mod.blt
  exact Calls.Name_function_global I.ok.kind hg (Calls.loadGlobal_builtin (by rw[I.ok.glob];exact I.mod.glob.keeps I.bk) hm (by rw[I.ok.blt];exact h1.keeps I.bk) ((h2 x hn).trans hv) h) hd
theorem ko {x:Str}{v:V}{u:Value}{pos:Pos}(hg:Gl X x)(hm:X.mg x=some u)(r:RelV v u)(hd:(x == ("__debug__" : Str))=false:=by decide):PE X (.Name x pos) (tC v):=
  fun _ _ _ H _ I h=>oJ I hg hm ⟨v,H,I,r,h⟩ hd
theorem sU {x:Str}{v:V}{u:Value}{pos:Pos}(hg:Gl X x)(hm:X.mg x=none)(hv:bootBuiltins x=some u)(r:RelV v u)(hn:x ≠ "__name__" := by decide)(hd:(x == ("__debug__" : Str))=false:=by decide):PE X (.Name x pos) (tC v):=
  fun _ _ _ H _ I h=>kT I hg hm hv ⟨v,H,I,r,h⟩ hn hd
variable {a b:Expr} {ta tb:TE} {pos:Pos}
def tB (t:TE):TT:=fun σ H Q=>t σ H fun x H1=>∃ c,x=.bl c∧Q c H1
theorem wk {e:Expr}{t:TE}(h:PE X e t)(he:∀ whole,isTrue e X.env whole=(do let v ← whole;standAt e.pos;holding [v] (truthy v)):=by intro _;rfl):PT X e (tB t):=by
  intro pins s σ H Q I hw
  refine isTrue_plain (thn (h pins s σ H _ I hw) fun v s1 ⟨x,H1,I1,r1,q1⟩=>?_) (he _)
  obtain ⟨d,rfl,q⟩:=q1
  cases r1
  exact wpAny_truthy_bool ⟨H1,I1,q⟩
variable {tA tB':TT} {rest:List Expr}
def y6 (t u:TT):TT:=fun σ H Q=>t σ H fun c H1=>if c=true then u σ H1 Q else Q false H1
def tOr (t u:TT):TT:=fun σ H Q=>t σ H fun c H1=>if c=true then Q true H1 else u σ H1 Q
def yW (t:TT):TT:=fun σ H Q=>t σ H fun c H1=>Q (!c) H1
theorem pw_and1 (ha:PT X a tA):PW X (.BoolOp .And [a] pos) tA:=by
  intro wh pins s σ H Q I h
  refine isTrue_and (thn (ha pins s σ H Q I h) fun c s1 e=>?_)
  cases c with
  | true=>exact isTrue_and_nil e
  | false=>exact e
theorem pw_or1 (ha:PT X a tA):PW X (.BoolOp .Or [a] pos) tA:=by
  intro wh pins s σ H Q I h
  refine isTrue_or (thn (ha pins s σ H Q I h) fun c s1 e=>?_)
  cases c with
  | false=>exact isTrue_or_nil e
  | true=>exact e
theorem pw_and (ha:PT X a tA)(hb:PW X (.BoolOp .And (b::rest) pos) tB'):PW X (.BoolOp .And (a::b::rest) pos) (y6 tA tB'):=by
  intro wh pins s σ H Q I h
  refine isTrue_and (thn (ha pins s σ H _ I h) fun c s1 ⟨H1,I1,q1⟩=>?_)
  cases c with
  | true=>exact hb wh pins s1 σ H1 Q I1 q1
  | false=>exact ⟨H1,I1,q1⟩
theorem pw_or (ha:PT X a tA)(hb:PW X (.BoolOp .Or (b::rest) pos) tB'):PW X (.BoolOp .Or (a::b::rest) pos) (tOr tA tB'):=by
  intro wh pins s σ H Q I h
  refine isTrue_or (thn (ha pins s σ H _ I h) fun c s1 ⟨H1,I1,q1⟩=>?_)
  cases c with
  | true=>exact ⟨H1,I1,q1⟩
  | false=>exact hb wh pins s1 σ H1 Q I1 q1
theorem vO (ha:PT X a tA):PT X (.UnaryOp .Not a pos) (yW tA):=by
  intro pins s σ H Q I h
  exact isTrue_not (ha pins s σ H (fun c H1=>Q (!c) H1) I h)
def xH (ta tb:TE):TE:=fun σ H Q=>ta σ H fun x H1=>∃ c,x=.bl c∧if c=true then tb σ H1 Q else Q (.bl false) H1
def zf (ta tb:TE):TE:=fun σ H Q=>ta σ H fun x H1=>∃ c,x=.bl c∧if c=true then Q (.bl true) H1 else tb σ H1 Q
def yh (ta:TE):TE:=fun σ H Q=>ta σ H fun x H1=>∃ c,x=.bl c∧Q (.bl (!c)) H1
theorem v9 {op}{t:TE}(h:PE X a t):PE X (.BoolOp op [a] pos) t:=fun pins s σ H Q I hw=>BoolOp_one (h pins s σ H Q I hw)
theorem xi (ha:PE X a ta)(hb:PE X (.BoolOp .And (b::rest) pos) tb):PE X (.BoolOp .And (a::b::rest) pos) (xH ta tb):=by
  intro pins s σ H Q I h
  refine BoolOp_and (thn (ha pins s σ H _ I h) fun v s1 ⟨x,H1,I1,r1,q1⟩=>?_)
  obtain ⟨c,rfl,q1⟩:=q1
  cases r1
  refine wpAny_truthy_bool ?_
  cases c with
  | true=>exact hb pins s1 σ H1 Q I1 q1
  | false=>exact ⟨.bl false,H1,I1,rfl,q1⟩
theorem yn (ha:PE X a ta)(hb:PE X (.BoolOp .Or (b::rest) pos) tb):PE X (.BoolOp .Or (a::b::rest) pos) (zf ta tb):=by
  intro pins s σ H Q I h
  refine BoolOp_or (thn (ha pins s σ H _ I h) fun v s1 ⟨x,H1,I1,r1,q1⟩=>?_)
  obtain ⟨c,rfl,q1⟩:=q1
  cases r1
  refine wpAny_truthy_bool ?_
  cases c with
  | false=>exact hb pins s1 σ H1 Q I1 q1
  | true=>exact ⟨.bl true,H1,I1,rfl,q1⟩
theorem vG (ha:PE X a ta):PE X (.UnaryOp .Not a pos) (yh ta):=by
  intro pins s σ H Q I h
  refine UnaryOp_ (thn (ha pins s σ H _ I h) fun v s1 ⟨x,H1,I1,r1,q1⟩=>?_)
  obtain ⟨c,rfl,q1⟩:=q1
  cases r1
  exact not_of (wpAny_truthy_bool ⟨.bl (!c),H1,I1,rfl,q1⟩)
def tIf (t:TT)(ta tb:TE):TE:=fun σ H Q=>t σ H fun c H1=>if c=true then ta σ H1 Q else tb σ H1 Q
theorem sG {c:Expr}(hc:PT X c tA)(ha:PE X a ta)(hb:PE X b tb):PE X (.IfExp c a b pos) (tIf tA ta tb):=by
  intro pins s σ H Q I h
  refine wpAny_IfExp (thn (hc pins s σ H _ I h) fun d s1 ⟨H1,I1,q1⟩=>?_)
  cases d with
  | true=>exact ha pins s1 σ H1 Q I1 q1
  | false=>exact hb pins s1 σ H1 Q I1 q1
end
end L2
namespace L2
open PySem PySem.Spec PyProof.Rows
def SqL (K:PySem.W.Frag)(H:Hp)(a:Addr)(xs:List V):Prop:=
  Rd H a (.lst xs)∨
    ∃ (o:Obj) (its:Array Value) (n:Nat),K.lookup a=some o∧o.cls=.type "list" ∧ o.dict=none∧o.data=.seq its n∧its.size≤sizeLine∧Vals xs its.toList
def SqT (K:PySem.W.Frag)(H:Hp)(a:Addr)(xs:List V):Prop:=
  Rd H a (.tup xs)∨
    ∃ (o:Obj) (its:Array Value) (n:Nat),K.lookup a=some o∧o.cls=.type "tuple" ∧ o.dict=none∧o.data=.seq its n∧its.size≤sizeLine∧Vals xs its.toList
def y8:Value→Option V
  | .none=>some .non
  | .bool b=>some (.bl b)
  | .int i _=>some (.int i)
  | .str x _=>some (.str x)
  | .bytes b _=>some (.byt b)
  | .float b _=>some (.flt b)
  | .ref a=>some (.ref a)
  | .type n=>some (.ty n)
  | _=>none
theorem RelV.abs {x:V}{u:Value}(r:RelV x u):y8 u=some x:=by
  cases x with
  | non=>cases r;rfl
  | bl _=>cases r;rfl
  | int _=>obtain ⟨t,rfl⟩:=r;rfl
  | str _=>obtain ⟨t,rfl⟩:=r;rfl
  | byt _=>obtain ⟨t,rfl⟩:=r;rfl
  | flt _=>obtain ⟨t,rfl⟩:=r;rfl
  | ref _=>cases r;rfl
  | ty _=>cases r;rfl
theorem RelV.inj {x y:V}{u:Value}(r:RelV x u)(q:RelV y u):x=y:=Option.some.inj (r.abs.symm.trans q.abs)
theorem Vals.inj:∀ {xs ys:List V} {us:List Value},Vals xs us→Vals ys us→xs=ys
  | _,_,_,.nil,.nil=>rfl
  | _,_,_,.cons r t,.cons r' t'=>by rw[r.inj r',Vals.inj t t']
section
variable {X:Cx} {pins:List (Addr×Obj)} {σ:St} {H:Hp} {s:Shared} {a:Addr} {xs ys:List V}
theorem SqL.of {K:PySem.W.Frag}(h:H a=some (.lst xs)):SqL K H a xs:=.inl (.inl h)
theorem SqT.of {K:PySem.W.Frag}(h:H a=some (.tup xs)):SqT K H a xs:=.inl (.inl h)
theorem Inv.list (I:Inv X pins σ H s)(h:SqL X.K H a xs):∃ its:List Value,Vals xs its∧PlainL s.heap a its.toArray∧xs.length≤sizeLine:=by
  rcases h with h | ⟨o,its,n,hk,hc,hd,hs,hz,r⟩
  · obtain ⟨z,its,n,r,e⟩:=h.ok I.hok
    exact ⟨its,r,⟨_,n,e,rfl,rfl,rfl⟩,z⟩
  · refine ⟨its.toList,r,⟨o,n,I.kIn a o hk,hc,hd,by simpa using hs⟩,?_⟩
    have e:=r.length
    simp only[Array.length_toList] at e
    omega
theorem Inv.tuple (I:Inv X pins σ H s)(h:SqT X.K H a xs):∃ its:List Value,Vals xs its∧IsTup s.heap a its.toArray∧xs.length≤sizeLine:=by
  rcases h with h | ⟨o,its,n,hk,hc,hdn,hs,hz,r⟩
  · obtain ⟨z,its,r,p⟩:=h.ok I.hok
    exact ⟨its,r,p.tup,z⟩
  · refine ⟨its.toList,r,⟨o,I.kIn a o hk,hc,n,by simpa using hs⟩,?_⟩
    have e:=r.length
    simp only[Array.length_toList] at e
    omega
end
abbrev Cx.ig (X:Cx)(E:Value→Shared→Prop):Cx:={ X with xe:=E }
abbrev Cx.nox (X:Cx):Cx:=X.ig fun _ _=>False
theorem Cx.Ok.ig {X:Cx}(ok:X.Ok)(E:Value→Shared→Prop):(X.ig E).Ok:=
  ⟨ok.mod,ok.kind,ok.glob,ok.blt,ok.above,ok.inj,ok.has,ok.cab,ok.hd,ok.frames,ok.stk,ok.exf,ok.bs,ok.bsz,ok.uC,ok.sO,ok.h9,ok.frf⟩
theorem Cx.Ok.dr {X:Cx}{E:Value→Shared→Prop}(ok:(X.ig E).Ok):X.Ok:=
  ⟨ok.mod,ok.kind,ok.glob,ok.blt,ok.above,ok.inj,ok.has,ok.cab,ok.hd,ok.frames,ok.stk,ok.exf,ok.bs,ok.bsz,ok.uC,ok.sO,ok.h9,ok.frf⟩
section
variable {X:Cx} {pins:List (Addr×Obj)} {σ:St} {H:Hp} {s:Shared} {E:Value→Shared→Prop}
theorem Inv.ig (I:Inv X pins σ H s)(E:Value→Shared→Prop):Inv (X.ig E) pins σ H s:=⟨I.ok.ig E,I.os,I.bare,I.base,I.loc,I.cell,I.free,I.fR,I.pin,I.hok,I.len⟩
theorem Inv.dr (I:Inv (X.ig E) pins σ H s):Inv X pins σ H s:=⟨I.ok.dr,I.os,I.bare,I.base,I.loc,I.cell,I.free,I.fR,I.pin,I.hok,I.len⟩
theorem SP.dr {D:Ends}{f:Flow}{s':Shared}(h:SP (X.ig E) pins D f s'):SP X pins D f s':=by
  cases f with
  | next=>obtain ⟨σ',H',I,q⟩:=h;exact ⟨σ',H',I.dr,q⟩
  | brk=>obtain ⟨σ',H',I,q⟩:=h;exact ⟨σ',H',I.dr,q⟩
  | cont=>obtain ⟨σ',H',I,q⟩:=h;exact ⟨σ',H',I.dr,q⟩
  | ret u=>obtain ⟨v,σ',H',I,r,q⟩:=h;exact ⟨v,σ',H',I.dr,r,q⟩
theorem PE.nox {e:Expr}{t:TE}(h:PE X.nox e t):PE X e t:=fun pins s σ H Q I hw=>
  wpAny_mono (h pins s σ H Q (I.ig _) hw) (fun _ _ ⟨v,H',I',r,q⟩=>⟨v,H',I'.dr,r,q⟩) fun _ _ z=>False.elim z
theorem PT.nox {e:Expr}{t:TT}(h:PT X.nox e t):PT X e t:=fun pins s σ H Q I hw=>
  wpAny_mono (h pins s σ H Q (I.ig _) hw) (fun _ _ ⟨H',I',q⟩=>⟨H',I'.dr,q⟩) fun _ _ z=>False.elim z
theorem PSs.nox {st:List Stmt}{t:TS}(h:PSs X.nox st t):PSs X st t:=fun pins s σ H D I hw=>
  wpAny_mono (h pins s σ H D (I.ig _) hw) (fun _ _ q=>q.dr) fun _ _ z=>False.elim z
end
section
variable {X:Cx} {st:Stmt} {rest:List Stmt} {t u:TS} {e:Expr} {te:TE} {pos:Pos}
def yI:TS:=fun D σ H=>D.nx σ H
def yU (t u:TS):TS:=fun D σ H=>t { D with nx:=u D } σ H
theorem tR:PSs X [] yI:=fun _ _ σ H _ I h=>wpAny_execs_nil ⟨σ,H,I,h⟩
theorem sm (h1:PS X st t)(h2:PSs X rest u):PSs X (st::rest) (yU t u):=by
  intro pins s σ H D I h
  refine wpAny_execs_cons (thn (h1 pins s σ H { D with nx:=u D } I h) fun f s1 q=>?_)
  cases f with
  | next=>
    obtain ⟨σ',H',I',q⟩:=q
    exact h2 pins s1 σ' H' D I' q
  | ret v=>exact q
  | brk=>exact q
  | cont=>exact q
theorem tV (h1:PS X st t):PSs X [st] t:=by
  intro pins s σ H D I h
  refine wpAny_execs_cons (thn (h1 pins s σ H D I h) fun f s1 q=>?_)
  cases f with
  | next=>exact wpAny_execs_nil q
  | ret v=>exact q
  | brk=>exact q
  | cont=>exact q
def yZ (te:TE):TS:=fun D σ H=>te σ H D.rt
theorem wN (he:PE X e te):PS X (.Return (some e) pos) (yZ te):=by
  intro pins s σ H D I h
  exact wpAny_Return_some (thn (he pins s σ H _ I h) fun v s1 ⟨x,H1,I1,r1,q1⟩=>⟨x,σ,H1,I1,r1,q1⟩)
def y9 (c:TT)(t u:TS):TS:=fun D σ H=>c σ H fun b H1=>if b=true then t D σ H1 else u D σ H1
theorem xV {c:Expr}{a b:List Stmt}{tc:TT}(hc:PT X c tc)(ha:PSs X a t)(hb:PSs X b u):PS X (.If c a b pos) (y9 tc t u):=by
  intro pins s σ H D I h
  refine wpAny_If (thn (hc pins s σ H _ I h) fun d s1 ⟨H1,I1,q1⟩=>?_)
  cases d with
  | true=>exact ha pins s1 σ H1 D I1 q1
  | false=>exact hb pins s1 σ H1 D I1 q1
end
abbrev TG:=V→St→Hp→(St→Hp→Prop)→Prop
def PG (X:Cx)(target:Expr)(t:TG):Prop:=
  ∀ (pins:List (Addr×Obj)) (s:Shared) (σ:St) (H:Hp) (v:V) (u:Value) (Q:St→Hp→Prop),Inv X pins σ H s→RelV v u→t v σ H Q→
    wpAny (model X.prog X.w) X.A (assign target X.env u) (fun _ s'=>∃ σ' H',Inv X pins σ' H' s'∧Q σ' H') X.xe s
abbrev vP:=V→V→V→Hp→(Hp→Prop)→Prop
def yL (X:Cx)(t:vP):Prop:=
  ∀ (pins:List (Addr×Obj)) (s:Shared) (σ:St) (H:Hp) (o i v:V) (ov iv u:Value) (Q:Hp→Prop),Inv X pins σ H s→RelV o ov→RelV i iv→RelV v u→t o i v H Q→
    wpAny (model X.prog X.w) X.A (setItem ov iv u) (fun _ s'=>∃ H',Inv X pins σ H' s'∧Q H') X.xe s
section
variable {X:Cx} {pos:Pos}
def qu (i:Nat):TG:=fun v σ H Q=>Q (σ.set i (some v)) H
theorem sS {i:Nat}{x:Str}(hN:X.N.Nodup)(hi:X.N[i]? = some x)(hx:Loc X.env.scope x)(hf:X.fn x=true∨X.env.scope.names.lookup x=some .local:=by first | exact .inl rfl | exact .inr rfl | assumption):PG X (.Name x pos) (qu i):=by
  intro pins s σ H v u Q I r h
  exact wpAny_assign_Name (fU I hN hi hx r (fun s' I'=>⟨_,H,I',h⟩) hf)
def zm (to ti:TE)(t:vP):TG:=fun v σ H Q=>to σ H fun o H1=>ti σ H1 fun i H2=>t o i v H2 fun H3=>Q σ H3
theorem w8 {o i:Expr}{to ti:TE}{t:vP}(ho:PE X o to)(hi:PE X i ti)(hs:yL X t)
    (ha:∀ v,assign (.Subscript o i pos) X.env v=(do
      let ov ← holding [v] (eval o X.env)
      let iv ← holding [v,ov] (eval i X.env)
      standAt pos
      holding [v,ov,iv] (setItem ov iv v)
      release [v,ov,iv] []):=by intro _;rfl):PG X (.Subscript o i pos) (zm to ti t):=by
  intro pins s σ H v u Q I r h
  rw[ha]
  refine wpAny_bind (wpAny_holding (thn (ho pins s σ H _ I h) fun ov s1 ⟨x,H1,I1,r1,q1⟩=>?_))
  refine wpAny_bind (wpAny_holding (thn (hi pins s1 σ H1 _ I1 q1) fun iv s2 ⟨y,H2,I2,r2,q2⟩=>?_))
  refine wpAny_bind (wpAny_standAt (wpAny_bind (wpAny_holding (thn (hs pins s2 σ H2 x y v ov iv u _ I2 r1 r2 r q2) fun _ s3 ⟨H3,I3,q3⟩=>?_))))
  exact wpAny_release ⟨σ,H3,I3,q3⟩
def xC (te:TE)(g:TG):TS:=fun D σ H=>te σ H fun x H1=>g x σ H1 D.nx
theorem vX {tg e:Expr}{te:TE}{g:TG}(he:PE X e te)(hg:PG X tg g)(hs:swapsWithSole [tg] e pos.line X.env=pure false:=by rfl)(hw:swappedStores [tg] e X.env=pure none:=by rfl)
    (h1:(assignEach [tg] X.env).map (·.2)=[assign tg X.env]:=by rfl):PS X (.Assign [tg] e pos) (xC te g):=by
  intro pins s σ H D I h
  refine wpAny_Assign_stores (thn (he pins s σ H _ I h) fun v s1 ⟨x,H1,I1,r1,q1⟩=>?_) hs hw
  rw[h1]
  exact thn (hg pins s1 σ H1 x v _ I1 r1 q1) fun _ s2 q=>q
theorem vh {i:Nat}{x:Str}{e:Expr}{te:TE}{pos':Pos}(hN:X.N.Nodup)(hi:X.N[i]? = some x)(hx:Loc X.env.scope x)(he:PE X e te)(hs:swapsWith e (some (.Name x pos')) pos.line X.env=pure false:=by rfl)(hf:X.fn x=true∨X.env.scope.names.lookup x=some .local:=by first | exact .inl rfl | exact .inr rfl | assumption) :
    PS X (.Assign [.Name x pos'] e pos) (xC te (qu i)):=by
  intro pins s σ H D I h
  refine wpAny_Assign_Name (thn (he pins s σ H _ I h) fun v s1 ⟨y,H1,I1,r1,q1⟩=>?_) hs
  exact fU I1 hN hi hx r1 (fun s2 I2=>⟨_,H1,I2,q1⟩) hf
def yV (i j:Nat)(ta:TA):TS:=fun D σ H=>ta σ H fun vs H1=>∃ v w,vs=[v,w]∧D.nx ((σ.set i (some v)).set j (some w)) H1
theorem vz {i j:Nat}{x y:Str}{a b:Expr}{ta:TA}{px py pt:Pos}{kt k2 pt2}(hc:X.calm=true)(hN:X.N.Nodup)(hi:X.N[i]? = some x)(hj:X.N[j]? = some y)(hij:i≠j)
    (hx:X.env.scope.names.lookup x=some .local) (hy:X.env.scope.names.lookup y=some .local) (ha:PA X [a,b] ta)
    (hw:swappedStores [.Tuple [.Name x px,.Name y py] kt pt] (.Tuple [a,b] k2 pt2) X.env=pure (some [x,y]))
    (hs:swapsWithSole [.Tuple [.Name x px,.Name y py] kt pt] (.Tuple [a,b] k2 pt2) pos.line X.env=pure false:=by rfl) :
    PS X (.Assign [.Tuple [.Name x px,.Name y py] kt pt] (.Tuple [a,b] k2 pt2) pos) (yV i j ta):=by
  intro pins s σ H D I h
  rw[exec_Assign_arm]
  refine wpAny_bind (wpAny_standAt ?_)
  rw[hs]
  refine wpAny_bind (wpAny_pure ?_)
  rw[if_neg (by decide)]
  refine wpAny_bind (Tuple_ (thn (ha _ pins s σ H _ I h) fun us s1 ⟨vs,H1,I1,r1,q1⟩=>?_))
  obtain ⟨v,w,e1,q1⟩:=q1
  subst e1
  obtain ⟨u1,u2,rfl,rv,rw'⟩:∃ u1 u2,us=[u1,u2]∧RelV v u1∧RelV w u2:=by
    cases r1 with
    | cons p q=>
      cases q with
      | cons p' q'=>
        cases q'
        exact ⟨_,_,rfl,p,p'⟩
  refine wpAny_newObj_type ?_ (by show 2≤sizeLine;decide)
  have I2:Inv X pins σ H1 { s1 with heap:=s1.heap.push { cls:=.type "tuple", data:=.seq [u1,u2].toArray } }:=I1.kept (t':=s1.toks) fun b o e=>Heap.get?_push_of_some _ e
  rw[hw]
  refine wpAny_bind (wpAny_pure ?_)
  show wpAny (model X.prog X.w) X.A (do rule "assign.swapped-stores";let items ← unpackItems (.ref s1.heap.objs.size) 2 none;assignInOrder [fun v=>bindName X.env y v,fun v=>bindName X.env x v] items.reverse;pure Flow.next) _ _ _
  refine wpAny_bind (wpAny_rule (wpAny_bind (unpackItems_tuple (items:=#[u1,u2]) (I.ok.hd hc) (IsTup.new s1.heap _) fun h' hx'=>?_)))
  have I3:=I2.kept (h':=h') (t':=s1.toks) fun b o e=>hx' b o (Nat.ne_of_lt (Heap.lt_size e)) e
  show wpAny _ _ (assignInOrder [fun v=>bindName X.env y v,fun v=>bindName X.env x v] [u2,u1] >>= fun _=>pure Flow.next) _ _ _
  refine wpAny_bind (assignInOrder_cons (wpAny_bindName (fU I3 hN hj (.inl hy) rw' (fun s2 I4=>?_) (.inr hy))))
  refine assignInOrder_cons (wpAny_bindName (fU I4 hN hi (.inl hx) rv (fun s3 I5=>assignInOrder_nil (wpAny_pure ?_)) (.inr hx)))
  rw[List.set_comm _ _ (Ne.symm hij)] at I5
  exact ⟨_,H1,I5,q1⟩
end
section
variable {X:Cx} {pos:Pos}
def vK (c:TT)(tb:TS):TS:=fun D σ H=>∃ W:Nat→St→Hp→Prop,(∃ m,W m σ H)∧∀ m σ H,W m σ H→
  c σ H fun b H1=>if b=true then ∃ N:St→Hp→Prop,(∀ σ' H',N σ' H'→∃ m',m' < m∧W m' σ' H')∧tb { D with nx:=N,ct:=N,bk:=D.nx } σ H1 else D.nx σ H1
theorem qX {c:Expr}{body:List Stmt}{tc:TT}{tb:TS}(hp:PassesOwn (model X.prog X.w) X.A X.env X.xe)(hc:PT X c tc)(hb:PSs X body tb):PS X (.While c body [] pos) (vK tc tb):=by
  intro pins s σ H D I h
  obtain ⟨W,⟨m0,w0⟩,turn⟩:=h
  refine wpAny_While (codeAny_whileLoop (fun n s'=>∃ σ' H',Inv X pins σ' H' s'∧W n σ' H') ?_ m0 ⟨σ,H,I,w0⟩)
  rintro n s1 ⟨σ1,H1,I1,w1⟩
  refine wpAny_passesOwn hp (thn (hc pins s1 σ1 H1 _ I1 (turn n σ1 H1 w1)) fun b s2 ⟨H2,I2,q2⟩=>?_)
  cases b with
  | true=>
    obtain ⟨N,hN,q2⟩:=q2
    rw[if_pos rfl]
    refine wpAny_passesOwn hp (thn (hb pins s2 σ1 H2 _ I2 q2) fun f s3 q3=>?_)
    cases f with
    | next=>
      obtain ⟨σ3,H3,I3,n3⟩:=q3
      obtain ⟨m',hm,w3⟩:=hN σ3 H3 n3
      exact ⟨m',hm,σ3,H3,I3,w3⟩
    | cont=>
      obtain ⟨σ3,H3,I3,n3⟩:=q3
      obtain ⟨m',hm,w3⟩:=hN σ3 H3 n3
      exact ⟨m',hm,σ3,H3,I3,w3⟩
    | brk=>exact q3
    | ret v=>exact q3
  | false=>
    rw[if_neg Bool.false_ne_true]
    exact wpAny_execs_nil ⟨σ1,H2,I2,q2⟩
end
structure It where
  go:Nat→Hp→Prop
  yld:Nat→Hp→V→Hp→Prop
  stop:Nat→Hp→Prop
def pC (X:Cx)(pins:List (Addr×Obj))(H:Hp)(b:Addr):Prop:=
  H b=none∧b≠X.env.locals∧b ∉ X.fs∧(b∈X.ex∨X.s₀.heap.objs.size≤b)∧(∀ x c,X.env.cells.lookup x=some c→c≠b)∧∀ p∈X.pn++pins,p.1≠b
theorem Inv.y4 {X:Cx}{pins:List (Addr×Obj)}{σ:St}{H H':Hp}{s:Shared}{b:Addr}(I:Inv X pins σ H s)(hb:s.heap.objs.size≤b)(hn:H' b=none):pC X pins H' b:=by
  refine ⟨hn,Nat.ne_of_gt (Nat.lt_of_lt_of_le I.lt hb),I.yX hb,.inr (Nat.le_trans I.sz hb),fun x c e z=>?_,fun p hp z=>?_⟩
  · obtain ⟨v,q⟩:=I.cell x c e
    exact absurd (Nat.lt_of_lt_of_le q.lt (by rw[z];exact hb)) (Nat.lt_irrefl _)
  · exact absurd (Nat.lt_of_lt_of_le (Heap.lt_size (I.pin p hp).1) (by rw[z];exact hb)) (Nat.lt_irrefl _)
structure Turn (P:Program) (w:World) (K:PySem.W.Frag) (tg:Expr) (J:It) (fp:List Addr) (it:Addr) (tn:Nat→Heap→Prop):Prop where
  mem:it∈fp
  obj:∀ i h,tn i h→∀ b∈fp,∃ o,h.get? b=some o∧∀ v,o.data≠.cell v
  keep:∀ i h h',tn i h→(∀ b∈fp,∀ o,h.get? b=some o→h'.get? b=some o)→tn i h'
  item:∀ (X:Cx),X.prog=P→X.w=w→X.K=K→X.calm=true→∀ (i:Nat) (pins:List (Addr×Obj)) (s:Shared) (σ:St) (H:Hp) (E:Value→Shared→Prop),Inv X pins σ H s→(∀ b∈fp,pC X pins H b)→tn i s.heap→J.go i H→
    wpAny (model P w) X.A (pyNext (.ref it)) (fun r s1=>∃ u,r=some u∧
      wpAny (model P w) X.A (letOwnedTupleGo tg (.ref it) u) (fun _ s2=>∃ x H',Inv X pins σ H' s2∧RelV x u∧J.yld i H x H'∧tn (i+1) s2.heap∧∀ b∈fp,H' b=none) E s1) E s
  done:∀ (X:Cx),X.prog=P→X.w=w→X.K=K→X.calm=true→∀ (i:Nat) (pins:List (Addr×Obj)) (s:Shared) (σ:St) (H:Hp) (E:Value→Shared→Prop),Inv X pins σ H s→(∀ b∈fp,pC X pins H b)→tn i s.heap→J.stop i H→
    wpAny (model P w) X.A (pyNext (.ref it)) (fun r s1=>r=none∧Inv X pins σ H s1) E s
  self:∀ (A:Around) (i:Nat) (s:Shared) (Q:Value→Shared→Prop) (E:Value→Shared→Prop),tn i s.heap→Q (.ref it) s→wpAny (model P w) A (pyIter (.ref it)) Q E s
abbrev TI:=St→Hp→(It→Hp→Prop)→Prop
def PIE (X:Cx)(pins:List (Addr×Obj))(σ:St)(tg:Expr)(R:It→Hp→Prop)(itv:Value)(s2:Shared):Prop:=
  ∃ (it:Addr) (fp:List Addr) (tn:Nat→Heap→Prop) (J:It) (H':Hp),itv=.ref it∧Inv X pins σ H' s2∧Turn X.prog X.w X.K tg J fp it tn∧tn 0 s2.heap∧(∀ b∈fp,pC X pins H' b)∧R J H'
def PI (X:Cx)(tg iter:Expr)(wi:TI):Prop:=
  ∀ (pins:List (Addr×Obj)) (s:Shared) (σ:St) (H:Hp) (R:It→Hp→Prop),Inv X pins σ H s→wi σ H R→
    wpAny (model X.prog X.w) X.A (eval iter X.env) (fun v s1=>wpAny (model X.prog X.w) X.A (pyIter v) (PIE X pins σ tg R) X.xe s1) X.xe s
theorem yO {M:Model}{A:Around}{E:Value→Shared→Prop}{s:Shared}{tg:Expr}{it:Addr}{u:Value}{o:Obj}{n:String}{vs:Array Value}{Q:Unit→Shared→Prop}(ho:s.heap.get? it=some o)(hc:o.cls=.type n)(hd:o.data=.fields vs)
    (hn:["enumerate", "zip", "dict_itemiterator", "dict_reverseitemiterator", "odict_iterator", "itertools.zip_longest", "itertools.pairwise"].contains n=false) (hQ:Q () s):wpAny M A (letOwnedTupleGo tg (.ref it) u) Q E s:=by
  unfold letOwnedTupleGo
  cases tg<;>first
    | exact wpAny_pure hQ
    | (cases u<;>first
        | exact wpAny_pure hQ
        | (refine wpAny_bind (wpAny_load ho ?_)
           rw[hc,hd]
           show wpAny M A (if (["enumerate", "zip", "dict_itemiterator", "dict_reverseitemiterator", "odict_iterator", "itertools.zip_longest", "itertools.pairwise"].contains n&&vs[0]? == some (rawInt _))=true then _ else _) Q E s
           rw[if_neg (by intro h;rw[hn,Bool.false_and] at h;cases h)]
           exact wpAny_pure hQ))
def Itr (lo:Int)(n:Nat):It:=⟨fun i _=>i < n,fun i H x H'=>H'=H∧x=.int (lo+i),fun i _=>n≤i⟩
theorem m7 {P:Program}{w:World}{K:PySem.W.Frag}{tg:Expr}(it:Addr)(lo:Int)(n:Nat):Turn P w K tg (Itr lo n) [it] it (fun i h=>IsRangeIter h it (lo+(i:Nat)*1) ((n:Int) - (i:Nat)) 1) where
  mem:=by simp
  obj:=fun i h st b hb=>by
    have e:b=it:=by simpa using hb
    subst e
    exact ⟨_,st,fun v z=>by
      have z':Data.fields _=Data.cell v:=z
      cases z'⟩
  keep:=fun i h h' st k=>k it (by simp) _ st
  item:=by
    intro X hP hw hK hc i pins s σ H E I hf st hg
    subst hP hw hK
    obtain ⟨f0,f1,f2,f3,f4,f5⟩:=hf it (by simp)
    have W:=Walks.range (prog:=X.prog) (w:=X.w) (I.ok.hd hc) it lo 1 n
    refine W.item i s _ _ hg st fun v h' tk hv st' kk=>?_
    obtain ⟨t,rfl⟩:=hv
    have I1:Inv X pins σ H { s with heap:=h',toks:=tk }:=I.turned (fun b o hb e=>kk b o (by simpa using hb) e) f0 f1 f3 f4 f5
    refine ⟨_,rfl,yO (s:={ s with heap:=h',toks:=tk }) (n := "range_iterator") st' rfl rfl (by decide) ⟨.int (lo+i),H,I1,⟨t,?_⟩,⟨rfl,rfl⟩,st',fun b hb=>(hf b hb).1⟩⟩
    rw[Int.mul_one]
  done:=by
    intro X hP hw hK hc i pins s σ H E I hf st hg
    subst hP hw hK
    obtain ⟨f0,f1,f2,f3,f4,f5⟩:=hf it (by simp)
    exact wpAny_pyNext_range_end (I.ok.hd hc) st (by have:n≤i:=hg;omega) fun h' eb=>⟨rfl,I.turned (t':=s.toks) (fun b o hb e=>eb b o hb e) f0 f1 f3 f4 f5⟩
  self:=fun _ _ _ _ _ st h=>wpAny_pyIter_rangeiter st h
end L2
namespace L2
open PySem PySem.Spec PyProof.Rows
section
variable {X:Cx} {tg:Expr}
theorem qd {pins:List (Addr×Obj)}{σ:St}{H:Hp}{s:Shared}{R:It→Hp→Prop}{E:Value→Shared→Prop}{lo hi:Int}{t u v:Tok}{tk:Nat}(I:Inv X pins σ H s)(h1:-(2 ^ 62)≤lo)(h2:lo < 2 ^ 62)(h3:-(2 ^ 62)≤hi)(h4:hi < 2 ^ 62)
    (q:R (Itr lo (hi - lo).toNat) H):wpAny (model X.prog X.w) X.A (pyIter (.ref s.heap.objs.size)) (PIE X pins σ tg R) E { s with heap:=s.heap.push { cls:=.type "range", data:=.fields #[.int lo t,.int hi u,.int 1 v] },toks:=tk }:=by
  refine wpAny_pyIter_range (IsRange.new ..) (small_one h1 h2 h3 h4) ?_
  have I1:Inv X pins σ H { s with heap:=s.heap.push { cls:=.type "range", data:=.fields #[.int lo t,.int hi u,.int 1 v] },toks:=tk }:=I.kept fun b o e=>Heap.get?_push_of_some _ e
  refine ⟨(s.heap.push { cls:=.type "range", data:=.fields #[.int lo t,.int hi u,.int 1 v] }).objs.size,[(s.heap.push { cls:=.type "range", data:=.fields #[.int lo t,.int hi u,.int 1 v] }).objs.size],_,_,H,rfl,
    I1.kept (t':=tk) fun b o e=>Heap.get?_push_of_some _ e,m7 _ lo (hi - lo).toNat,?_,fun b hb=>?_,q⟩
  · have e1:lo+((0:Nat):Int)*1=lo:=by simp
    have e2:(((hi - lo).toNat:Nat):Int) - ((0:Nat):Int)=Builtin.Range.rangeSize lo hi 1:=by rw[rangeSize_one];split<;>omega
    show IsRangeIter _ _ (lo+((0:Nat):Int)*1) ((((hi - lo).toNat:Nat):Int) - ((0:Nat):Int)) 1
    rw[e1,e2]
    exact Heap.get?_push_size _ rfl
  · have e:b=(s.heap.push { cls:=.type "range", data:=.fields #[.int lo t,.int hi u,.int 1 v] }).objs.size:=by simpa using hb
    subst e
    exact I1.y4 (Nat.le_refl _) (I1.hok.fresh (Nat.le_refl _))
def xW (ta:TA):TI:=fun σ H R=>ta σ H fun vs H1=>∃ j:Int,vs=[.int j]∧-(2 ^ 62)≤j∧j < 2 ^ 62∧R (Itr 0 j.toNat) H1
theorem pR {a:Expr}{ta:TA}{p pos:Pos}(hg:Gl X "range")(hm:X.mg "range" = none)(ha:PA X [a] ta)(hs:starEach [a] X.env=[(false,eval a X.env)]:=by rfl):PI X tg (.Call (.Name "range" p) [a] [] pos) (xW ta):=by
  intro pins s σ H R I h
  refine Call_ (kT I hg hm boot_range (PyProof.Rows.callWith_type1 (thn (ha pos pins s σ H _ I h) fun us s1 ⟨vs,H1,I1,r1,q1⟩=>?_) hs rfl))
  obtain ⟨j,e,q1,q2,q⟩:=q1
  subst e
  cases r1 with
  | cons r rr=>
    cases rr
    obtain ⟨t,rfl⟩:=r
    exact call_range_1 (qd I1 (by omega) (by omega) q1 q2 (by simpa using q))
def zh (wi:TI)(g:TG)(tb:TS):TS:=fun D σ H=>wi σ H fun J H1=>∃ W:Nat→Nat→St→Hp→Prop,(∃ m,W 0 m σ H1)∧∀ i m σ H,W i m σ H→
  (J.stop i H∧D.nx σ H)∨(J.go i H∧∃ N:St→Hp→Prop,(∀ σ' H',N σ' H'→∃ m',m' < m∧W (i+1) m' σ' H')∧∀ x H',J.yld i H x H'→g x σ H' fun σ2 H2=>tb { D with nx:=N,ct:=N,bk:=D.nx } σ2 H2)
def kW (fp:List Addr)(h:Heap):List (Addr×Obj):=fp.filterMap fun b=>(h.get? b).map fun o=>(b,o)
theorem iV {fp:List Addr}{h:Heap}{b:Addr}{o:Obj}(hb:b∈fp)(e:h.get? b=some o):(b,o)∈kW fp h:=List.mem_filterMap.mpr ⟨b,hb,by rw[e];rfl⟩
theorem pM {fp:List Addr}{h:Heap}{p:Addr×Obj}(hp:p∈kW fp h):p.1∈fp∧h.get? p.1=some p.2:=by
  obtain ⟨b,hb,e⟩:=List.mem_filterMap.mp hp
  cases q:h.get? b with
  | none=>rw[q] at e;cases e
  | some o=>
    rw[q] at e
    have e':(b,o)=p:=Option.some.inj e
    subst e'
    exact ⟨hb,q⟩
theorem Inv.pinned {pins:List (Addr×Obj)}{σ:St}{H:Hp}{s:Shared}{fp:List Addr}(I:Inv X pins σ H s)(hf:∀ b∈fp,pC X pins H b)(ho:∀ b∈fp,∃ o,s.heap.get? b=some o∧∀ v,o.data≠.cell v):Inv X (pins++kW fp s.heap) σ H s:=
  I.oN fun p hp=>(List.mem_append.mp hp).elim (fun z=>I.pin p (List.mem_append_right _ z)) fun z=>by
    obtain ⟨hb,e⟩:=pM z
    obtain ⟨f0,f1,f2,_⟩:=hf p.1 hb
    obtain ⟨o,e',d⟩:=ho p.1 hb
    rw[e] at e';cases e'
    exact ⟨e,f0,f1,f2,d⟩
theorem Inv.jx {pins pl:List (Addr×Obj)}{σ:St}{H:Hp}{s:Shared}(I:Inv X (pins++pl) σ H s):Inv X pins σ H s:=I.oN fun p hp=>I.pin p (List.mem_append_right _ (List.mem_append_left _ hp))
theorem wI {iter:Expr}{body:List Stmt}{wi:TI}{g:TG}{tb:TS}{pos:Pos}(hp:PassesOwn (model X.prog X.w) X.A X.env X.xe)(hc:X.calm=true)(hi:PI X tg iter wi)(hg:PG X tg g)(hb:PSs X body tb)
    (hs:∀ x,foldedSetIterable iter X.env x=pure x:=by intro _;rfl):PS X (.For tg iter body [] pos) (zh wi g tb):=by
  intro pins s σ H D I h
  refine wpAny_For (thn (hi pins s σ H _ I h) fun v s1 h1=>thn h1 fun itv s2 h2=>?_) hs
  obtain ⟨it,fp,tn,J,H2,e,I2,T,st2,f2,W,⟨m0,w0⟩,turn⟩:=h2
  subst e
  -- what stays true of the iterator's objects through the loop
  have vr:∀ {H':Hp},(∀ b∈fp,H' b=none)→∀ b∈fp,pC X pins H' b:=fun hn b hb=>⟨hn b hb,(f2 b hb).2⟩
  refine codeAny_forLoop_any (fun n s'=>∃ i σ' H',Inv X pins σ' H' s'∧tn i s'.heap∧(∀ b∈fp,H' b=none)∧W i n σ' H') ?_ m0 ⟨0,σ,H2,I2,st2,fun b hb=>(f2 b hb).1,w0⟩
  rintro n s3 ⟨i,σ3,H3,I3,st3,fr3,w3⟩
  rcases turn i n σ3 H3 w3 with ⟨stop,qn⟩ | ⟨go,N,hN,step⟩
  · refine wpAny_passesOwn hp (thn (T.done X rfl rfl rfl hc i pins s3 σ3 H3 X.xe I3 (vr fr3) st3 stop) fun r s4 ⟨hr,I4⟩=>?_)
    subst hr
    exact wpAny_execs_nil ⟨σ3,H3,I4,qn⟩
  · refine wpAny_passesOwn hp (thn (T.item X rfl rfl rfl hc i pins s3 σ3 H3 X.xe I3 (vr fr3) st3 go) fun r s4 ⟨u,hr,h4⟩=>?_)
    subst hr
    refine wpAny_passesOwn hp (thn h4 fun _ s5 ⟨x,H5,I5,r5,y5,st5,fr5⟩=>?_)
    have I5':=I5.pinned (vr fr5) (T.obj _ _ st5)
    refine wpAny_passesOwn hp (thn (hg _ s5 σ3 H5 x u _ I5' r5 (step x H5 y5)) fun _ s6 ⟨σ6,H6,I6,q6⟩=>?_)
    refine wpAny_passesOwn hp (thn (hb _ s6 σ6 H6 _ I6 q6) fun f s7 q7=>?_)
    have again:∀ {σ7:St} {H7:Hp},Inv X (pins++kW fp s5.heap) σ7 H7 s7→N σ7 H7→∃ m,m < n∧∃ i σ' H',Inv X pins σ' H' s7∧tn i s7.heap∧(∀ b∈fp,H' b=none)∧W i m σ' H':=fun {σ7 H7} I7 n7=>by
      obtain ⟨m',hm,w7⟩:=hN σ7 H7 n7
      refine ⟨m',hm,i+1,σ7,H7,I7.jx,T.keep _ _ _ st5 fun b hb o e=>(I7.pin (b,o) (List.mem_append_right _ (List.mem_append_right _ (iV hb e)))).1,fun b hb=>?_,w7⟩
      obtain ⟨o,e,d⟩:=T.obj _ _ st5 b hb
      exact (I7.pin (b,o) (List.mem_append_right _ (List.mem_append_right _ (iV hb e)))).2.1
    cases f with
    | next=>obtain ⟨σ7,H7,I7,n7⟩:=q7;exact again I7 n7
    | cont=>obtain ⟨σ7,H7,I7,n7⟩:=q7;exact again I7 n7
    | brk=>obtain ⟨σ7,H7,I7,q7⟩:=q7;exact ⟨σ7,H7,I7.jx,q7⟩
    | ret v=>obtain ⟨x7,σ7,H7,I7,r7,q7⟩:=q7;exact ⟨x7,σ7,H7,I7.jx,r7,q7⟩
end
end L2
namespace L2
open PySem PySem.Spec PyProof.Rows
abbrev R2:=V→V→Hp→VK→Prop
def OpR (X:Cx)(f:Value→Value→Sem Value)(r:R2):Prop:=
  ∀ (pins:List (Addr×Obj)) (s:Shared) (σ:St) (H:Hp) (x y:V) (v u:Value) (Q:VK),Inv X pins σ H s→RelV x v→RelV y u→r x y H Q→
    wpAny (model X.prog X.w) X.A (f v u) (EP X pins σ Q) X.xe s
def UnR (X:Cx)(f:Value→Sem Value)(r:V→Hp→VK→Prop):Prop:=
  ∀ (pins:List (Addr×Obj)) (s:Shared) (σ:St) (H:Hp) (x:V) (v:Value) (Q:VK),Inv X pins σ H s→RelV x v→r x H Q→
    wpAny (model X.prog X.w) X.A (f v) (EP X pins σ Q) X.xe s
def bC (X:Cx)(f:Value)(r:List V→Hp→VK→Prop):Prop:=
  ∀ (pins:List (Addr×Obj)) (s:Shared) (σ:St) (H:Hp) (xs:List V) (us:List Value) (Q:VK),Inv X pins σ H s→Vals xs us→r xs H Q→
    wpAny (model X.prog X.w) X.A (call f us) (EP X pins σ Q) X.xe s
def tOp (r:R2)(ta tb:TE):TE:=fun σ H Q=>ta σ H fun x H1=>tb σ H1 fun y H2=>r x y H2 Q
def tUn (r:V→Hp→VK→Prop)(ta:TE):TE:=fun σ H Q=>ta σ H fun x H1=>r x H1 Q
def rI (C:Int→Int→Prop)(g:Int→Int→V):R2:=fun x y H Q=>∃ i j,x=.int i∧y=.int j∧C i j∧Q (g i j) H
def rI0 (g:Int→Int→V):R2:=fun x y H Q=>∃ i j,x=.int i∧y=.int j∧Q (g i j) H
def rU (g:Int→V):V→Hp→VK→Prop:=fun x H Q=>∃ i,x=.int i∧Q (g i) H
section
variable {X:Cx} {a b c:Expr} {ta tb tc:TE} {pos:Pos}
theorem vk (ha:PE X a ta)(hb:PE X b tb){pins:List (Addr×Obj)}{s:Shared}{σ:St}{H:Hp}{R:V→V→Hp→Prop}(I:Inv X pins σ H s)
    (h:ta σ H fun x H1=>tb σ H1 fun y H2=>R x y H2) {Q:Value→Shared→Prop} {f:Value→Value→Sem Value}
    (hf:∀ v u s2 x y H2,Inv X pins σ H2 s2→RelV x v→RelV y u→R x y H2→wpAny (model X.prog X.w) X.A (f v u) Q X.xe s2) :
    wpAny (model X.prog X.w) X.A (eval a X.env) (fun v s₁=>wpAny (model X.prog X.w) X.A (eval b X.env) (fun u s₂=>wpAny (model X.prog X.w) X.A (f v u) Q X.xe s₂) X.xe s₁) X.xe s:=by
  refine thn (ha pins s σ H _ I h) fun v s1 ⟨x,H1,I1,r1,q1⟩=>?_
  refine thn (hb pins s1 σ H1 _ I1 q1) fun u s2 ⟨y,H2,I2,r2,q2⟩=>?_
  exact hf v u s2 x y H2 I2 r1 r2 q2
theorem uV {op:Operator}{r:R2}(ho:OpR X (binaryOp op) r)(ha:PE X a ta)(hb:PE X b tb):PE X (.BinOp a op b pos) (tOp r ta tb):=by
  intro pins s σ H Q I h
  exact wpAny_BinOp (vk ha hb I h fun v u s2 x y H2 I2 rx ry q=>ho pins s2 σ H2 x y v u Q I2 rx ry q)
theorem xO {op:UnaryOp}{r:V→Hp→VK→Prop}(ho:UnR X (unaryOp op) r)(ha:PE X a ta):PE X (.UnaryOp op a pos) (tUn r ta):=by
  intro pins s σ H Q I h
  exact UnaryOp_ (thn (ha pins s σ H _ I h) fun v s1 ⟨x,H1,I1,r1,q1⟩=>ho pins s1 σ H1 x v Q I1 r1 q1)
theorem opI {f:Value→Value→Sem Value}{C:Int→Int→Prop}{g:Int→Int→Int}
    (rule:∀ (i j:Int) (t u:Tok) (s:Shared) (Q:Value→Shared→Prop) (E:Value→Shared→Prop),C i j→Q (.int (g i j) s.toks) { s with toks:=s.toks+1 }→wpAny (model X.prog X.w) X.A (f (.int i t) (.int j u)) Q E s) :
    OpR X f (rI C fun i j=>.int (g i j)):=by
  intro pins s σ H x y v u Q I rx ry h
  obtain ⟨i,j,rfl,rfl,hc,q⟩:=h
  obtain ⟨t,rfl⟩:=rx
  obtain ⟨t',rfl⟩:=ry
  exact rule i j t t' s _ _ hc ⟨.int (g i j),H,I.tok _,⟨_,rfl⟩,q⟩
theorem xA {f:Value→Value→Sem Value}{g:Int→Int→Int}
    (rule:∀ (i j:Int) (t u:Tok) (s:Shared) (Q:Value→Shared→Prop) (E:Value→Shared→Prop),Q (.int (g i j) s.toks) { s with toks:=s.toks+1 }→wpAny (model X.prog X.w) X.A (f (.int i t) (.int j u)) Q E s) :
    OpR X f (rI0 fun i j=>.int (g i j)):=by
  intro pins s σ H x y v u Q I rx ry h
  obtain ⟨i,j,rfl,rfl,q⟩:=h
  obtain ⟨t,rfl⟩:=rx
  obtain ⟨t',rfl⟩:=ry
  exact rule i j t t' s _ _ ⟨.int (g i j),H,I.tok _,⟨_,rfl⟩,q⟩
theorem ud {f:Value→Value→Sem Value}{g:Int→Int→Bool}
    (rule:∀ (i j:Int) (t u:Tok) (s:Shared) (Q:Value→Shared→Prop) (E:Value→Shared→Prop),Q (.bool (g i j)) s→wpAny (model X.prog X.w) X.A (f (.int i t) (.int j u)) Q E s) :
    OpR X f (rI0 fun i j=>.bl (g i j)):=by
  intro pins s σ H x y v u Q I rx ry h
  obtain ⟨i,j,rfl,rfl,q⟩:=h
  obtain ⟨t,rfl⟩:=rx
  obtain ⟨t',rfl⟩:=ry
  exact rule i j t t' s _ _ ⟨.bl (g i j),H,I,rfl,q⟩
def zt (i j:Int):Prop:=0≤j∧j≤1000000∧i.natAbs < 2 ^ 64
def yz (i j:Int):Prop:=(-(2 ^ 64) < i∧i < 2 ^ 64)∨(-(2 ^ 64) < j∧j < 2 ^ 64)
theorem yz.ok {i j:Int}(h:yz i j):IntMulOk i j:=by
  rcases h with ⟨h1,h2⟩ | ⟨h1,h2⟩
  · exact .of_left (intBits_le_64 h1 h2)
  · exact .of_right (intBits_le_64 h1 h2)
theorem wm:OpR X (binaryOp .Add) (rI0 fun i j=>.int (i+j)):=xA fun _ _ _ _ _ _ _ q=>add_int q
theorem vp:OpR X (binaryOp .Sub) (rI0 fun i j=>.int (i - j)):=xA fun _ _ _ _ _ _ _ q=>sub_int q
theorem uo:OpR X (binaryOp .Mod) (rI (fun _ j=>j≠0) fun i j=>.int (i.fmod j)):=opI fun _ _ _ _ _ _ _ hc q=>mod_int' hc q
theorem vI:OpR X (binaryOp .Pow) (rI zt fun i j=>.int (i ^ j.toNat)):=opI fun _ _ _ _ _ _ _ hc q=>pow_int_small hc.1 hc.2.1 hc.2.2 q
theorem unI {f:Value→Sem Value}{g:Int→Int}
    (rule:∀ (i:Int) (t:Tok) (s:Shared) (Q:Value→Shared→Prop) (E:Value→Shared→Prop),Q (.int (g i) s.toks) { s with toks:=s.toks+1 }→wpAny (model X.prog X.w) X.A (f (.int i t)) Q E s) :
    UnR X f (rU fun i=>.int (g i)):=by
  intro pins s σ H x v Q I rx h
  obtain ⟨i,rfl,q⟩:=h
  obtain ⟨t,rfl⟩:=rx
  exact rule i t s _ _ ⟨.int (g i),H,I.tok _,⟨_,rfl⟩,q⟩
theorem vg:UnR X (unaryOp .USub) (rU fun i=>.int (-i)):=unI fun _ _ _ _ _ q=>neg_int q
end
def yi:V→V→Bool
  | .non,.non=>true | .non,.int _=>true | .int _,.non=>true | .non,.bl _=>true | .bl _,.non=>true | .non,.str _=>true | .str _,.non=>true
  | .int _,.int _=>true | .bl _,.bl _=>true | .str _,.str _=>true | .byt _,.byt _=>true
  | .int _,.str _=>true | .str _,.int _=>true | .bl _,.str _=>true | .str _,.bl _=>true
  | _,_=>false
def rEq:R2:=fun x y H Q=>yi x y=true∧Q (.bl (decide (x=y))) H
def rNe:R2:=fun x y H Q=>yi x y=true∧Q (.bl (!decide (x=y))) H
section
variable {X:Cx} {a b c:Expr} {ta tb tc:TE} {pos:Pos}
theorem xj {pins:List (Addr×Obj)}{σ:St}{H:Hp}{s:Shared}{Q:VK}{k k':Bool}(I:Inv X pins σ H s)(q:Q (.bl k) H)(e:k=k'):EP X pins σ Q (.bool k') s:=by
  subst e
  exact ⟨.bl k,H,I,rfl,q⟩
theorem uK:OpR X (compareOp .Lt) (rI0 fun i j=>.bl (decide (i < j))):=ud fun _ _ _ _ _ _ _ q=>lt_int q
theorem jq:OpR X (compareOp .LtE) (rI0 fun i j=>.bl (decide (i≤j))):=ud fun _ _ _ _ _ _ _ q=>le_int q
theorem vb:OpR X (compareOp .Gt) (rI0 fun i j=>.bl (decide (j < i))):=ud fun _ _ _ _ _ _ _ q=>gt_int q
theorem yf:OpR X (compareOp .GtE) (rI0 fun i j=>.bl (decide (j≤i))):=ud fun _ _ _ _ _ _ _ q=>ge_int q
theorem vM:OpR X (compareOp .Is) (fun x y H Q=>y=.non∧Q (.bl (decide (x=.non))) H):=by
  intro pins s σ H x y v u Q I rx ry h
  obtain ⟨rfl,q⟩:=h
  cases ry
  refine is_none_gen (xj I q ?_)
  cases x<;>first
    | (cases rx;rfl)
    | (obtain ⟨t,rfl⟩:=rx;rfl)
theorem OpR.or {f:Value→Value→Sem Value}{r r':R2}(h:OpR X f r)(h':OpR X f r'):OpR X f (fun x y H Q=>r x y H Q∨r' x y H Q):=by
  intro pins s σ H x y v u Q I rx ry q
  rcases q with q | q
  · exact h pins s σ H x y v u Q I rx ry q
  · exact h' pins s σ H x y v u Q I rx ry q
theorem b6 (b:Expr){op:CmpOp}(h:op≠.In:=by decide)(h2:op≠.NotIn:=by decide):behindInMarks op b=false:=by
  have e1:(op == CmpOp.In)=false:=by cases op<;>first | rfl | exact absurd rfl h
  have e2:(op == CmpOp.NotIn)=false:=by cases op<;>first | rfl | exact absurd rfl h2
  cases b<;>simp[behindInMarks,e1,e2]
theorem uH {op:CmpOp}{r:R2}(ho:OpR X (compareOp op) r)(ha:PE X a ta)(hb:PE X b tb)(hm:behindInMarks op b=false):PE X (.Compare a [op] [b] pos) (tOp r ta tb):=by
  intro pins s σ H Q I h
  exact wpAny_Compare1 (vk ha hb I h fun v u s2 x y H2 I2 rx ry q=>ho pins s2 σ H2 x y v u Q I2 rx ry q) hm
def u9 (t:TE):TT:=fun σ H Q=>t σ H fun x H'=>∃ k,x=.bl k∧Q k H'
theorem oH {op:CmpOp}{r:R2}(ho:OpR X (compareOp op) r)(ha:PE X a ta)(hb:PE X b tb)(hm:behindInMarks op b=false):PT X (.Compare a [op] [b] pos) (u9 (tOp r ta tb)):=by
  intro pins s σ H Q I h
  refine wpAny_isTrue_Compare1 (thn (ha pins s σ H _ I h) fun v s1 ⟨x,H1,I1,r1,q1⟩=>thn (hb pins s1 σ H1 _ I1 q1) fun u s2 ⟨y,H2,I2,r2,q2⟩=>
    thn (ho pins s2 σ H2 x y v u _ I2 r1 r2 q2) fun c s3 ⟨z,H3,I3,r3,k,e,q3⟩=>?_) hm
  subst e
  cases r3
  exact wpAny_truthy_bool ⟨H3,I3,q3⟩
def sx (r r':R2)(ta tb tc:TE):TE:=fun σ H Q=>ta σ H fun x H1=>tb σ H1 fun y H2=>r x y H2 fun z H3=>∃ k,z=.bl k∧
  (if k=true then tc σ H3 fun w' H4=>r' y w' H4 Q else Q (.bl false) H3)
theorem sh {op op':CmpOp}{r r':R2}(ho:OpR X (compareOp op) r)(ho':OpR X (compareOp op') r')(ha:PE X a ta)(hb:PE X b tb)(hc:PE X c tc)
    (hm:lastMarks [op,op'] [b,c]=false:=by with_unfolding_all rfl):PE X (.Compare a [op,op'] [b,c] pos) (sx r r' ta tb tc):=by
  intro pins s σ H Q I h
  refine Compare_chain (thn (ha pins s σ H _ I h) fun v s1 ⟨x,H1,I1,r1,q1⟩=>chain_link (thn (hb pins s1 σ H1 _ I1 q1) fun u s2 ⟨y,H2,I2,r2,q2⟩=>
    thn (ho pins s2 σ H2 x y v u _ I2 r1 r2 q2) fun d s3 ⟨z,H3,I3,r3,k,e,q3⟩=>?_)) hm
  subst e
  cases r3
  refine wpAny_truthy_bool ?_
  cases k with
  | false=>exact ite_ff ⟨.bl false,H3,I3,rfl,q3⟩
  | true=>exact ite_tt (chain_last (thn (hc pins s3 σ H3 _ I3 q3) fun w' s4 ⟨z',H4,I4,r4,q4⟩=>ho' pins s4 σ H4 y z' u w' Q I4 r2 r4 q4))
theorem gT:(sizeLine:Nat) < 2 ^ 63:=by rw[sizeLine_eq];decide
theorem n9:OpR X (binaryOp .Add) (fun x y H Q=>∃ i j,x=.str i∧y=.str j∧i.length+j.length≤sizeLine∧Q (.str (i++j)) H):=by
  intro pins s σ H x y v u Q I rx ry h
  obtain ⟨i,j,rfl,rfl,hz,q⟩:=h
  obtain ⟨t,rfl⟩:=rx
  obtain ⟨t',rfl⟩:=ry
  exact add_str (fun t' tk=>⟨.str (i++j),H,I.tok _,⟨_,rfl⟩,q⟩) hz
theorem vals1 {x:V}{us:List Value}(r:Vals [x] us):∃ u,us=[u]∧RelV x u:=by
  cases r with
  | cons r1 r2=>cases r2;exact ⟨_,rfl,r1⟩
theorem vals2 {x y:V}{us:List Value}(r:Vals [x,y] us):∃ u w',us=[u,w']∧RelV x u∧RelV y w':=by
  cases r with
  | cons r1 r2=>
    cases r2 with
    | cons r3 r4=>cases r4;exact ⟨_,_,rfl,r1,r3⟩
theorem eF:bC X (.builtin "abs") (fun xs H Q=>∃ i,xs=[.int i]∧Q (.int (if i < 0 then -i else i)) H):=by
  intro pins s σ H xs us Q I r h
  obtain ⟨i,rfl,q⟩:=h
  obtain ⟨u,rfl,t,rfl⟩:=vals1 r
  exact call_abs_int fun u tk=>⟨.int (if i < 0 then -i else i),H,I.tok _,⟨_,rfl⟩,q⟩
theorem o8 (hc:X.calm=true):bC X (.builtin "max") (fun xs H Q=>∃ i j,xs=[.int i,.int j]∧Q (.int (if j > i then j else i)) H):=by
  intro pins s σ H xs us Q I r h
  obtain ⟨i,j,rfl,q⟩:=h
  obtain ⟨u,w',rfl,⟨t,rfl⟩,⟨t',rfl⟩⟩:=vals2 r
  refine max_two_ints (I.ok.hd hc) fun h' tk k=>⟨_,H,I.kept k,?_,q⟩
  by_cases hj:j > i
  · rw[if_pos hj,if_pos hj];exact ⟨_,rfl⟩
  · rw[if_neg hj,if_neg hj];exact ⟨_,rfl⟩
theorem pI (hc:X.calm=true):bC X (.builtin "min") (fun xs H Q=>∃ i j,xs=[.int i,.int j]∧Q (.int (if j < i then j else i)) H):=by
  intro pins s σ H xs us Q I r h
  obtain ⟨i,j,rfl,q⟩:=h
  obtain ⟨u,w',rfl,⟨t,rfl⟩,⟨t',rfl⟩⟩:=vals2 r
  refine min_two_ints (I.ok.hd hc) fun h' tk k=>⟨_,H,I.kept k,?_,q⟩
  by_cases hj:j < i
  · rw[if_pos hj,if_pos hj];exact ⟨_,rfl⟩
  · rw[if_neg hj,if_neg hj];exact ⟨_,rfl⟩
theorem eZ:bC X (.type "int") (fun xs H Q=>(∃ i,xs=[.int i]∧Q (.int i) H)∨∃ k,xs=[.bl k]∧Q (.int (if k then 1 else 0)) H):=by
  intro pins s σ H xs us Q I r h
  rcases h with ⟨i,rfl,q⟩ | ⟨k,rfl,q⟩
  · obtain ⟨u,rfl,t,rfl⟩:=vals1 r
    exact call_int_int ⟨.int i,H,I,⟨_,rfl⟩,q⟩
  · obtain ⟨u,rfl,r1⟩:=vals1 r
    cases r1
    exact call_int_bool ⟨.int (if k then 1 else 0),H,I.tok _,⟨_,rfl⟩,q⟩
end
end L2
namespace L2
open PySem PySem.Spec PyProof.Rows
section
variable {prog:Program} {w:World} {A:Around} {E:Value→Shared→Prop} {s:Shared} {K:PySem.W.Frag} {x dx C f:Addr} {mA:Str→Option Value} {name:Str} {v:Value}
end
section
variable {P:Program} {w:World} {H H':Hp} {h h':Heap} {a C dx:Addr} {fs fs':List (Str×V)}
end
structure Cls (K:PySem.W.Frag) (C:Addr):Prop where
  pg:PySem.W.plainGet K C Str.empty=true
  hd:PySem.W.hasDictIn K C=true
  po:PySem.W.plainOver K C=true
  sa:PySem.W.findIn K (.ref C) "__setattr__" = some (some (.builtin "object.__setattr__"))
theorem Cls.get {K:PySem.W.Frag}{C:Addr}(c:Cls K C)(f:Str):PySem.W.plainGet K C f=true:=c.pg
section
variable {X:Cx} {pins:List (Addr×Obj)} {σ:St} {H:Hp} {s:Shared} {a C dx:Addr} {fs:List (Str×V)} {f:Str} {v:V} {A:Around} {E:Value→Shared→Prop}
end
section
variable {X:Cx} {o e value:Expr} {f:Str} {pos pos' tpos:Pos} {ta tv:TE}
def fY:V→V→Hp→VK→Prop:=fun x y H Q=>∃ i j,x=.int i∧y=.int j∧Q (.int (i - j)) H
end
section
variable {X:Cx} {pins:List (Addr×Obj)} {σ:St} {H:Hp} {s:Shared} {A:Around} {E:Value→Shared→Prop} {Q:Value→Shared→Prop} {c:Value} {b:Bool}
end
end L2
namespace L2
open PySem PySem.Spec PyProof.Rows
structure cx (k:Nat) (A:Around):Prop where
  hd:A.handled=none
  dp:A.depth+3*k+5 < recursionLimit
  un:A.units+16*k+200 < cLine
theorem cx.mono {j k:Nat}{A:Around}(r:cx k A)(h:j≤k):cx j A:=⟨r.hd,by have:=r.dp;omega,by have:=r.un;omega⟩
theorem cx.deeper {k:Nat}{A:Around}(r:cx (k+1) A)(env:Env):cx k (A.deeper env):=
  ⟨r.hd,by have:=r.dp;show A.depth+1+3*k+5 < _;omega,by have:=r.un;show A.units+3+16*k+200 < _;omega⟩
theorem cx.in1 {k:Nat}{A:Around}(r:cx (k+1) A):cx k A.in1:=
  ⟨r.hd,by have:=r.dp;show A.depth+3*k+5 < _;omega,by have:=r.un;show A.units+1+16*k+200 < _;omega⟩
theorem cx.depth {k:Nat}{A:Around}(r:cx k A):A.depth < recursionLimit:=by have:=r.dp;omega
theorem cx.units {k:Nat}{A:Around}(r:cx k A):A.units+64 < cLine:=by have:=r.un;omega
def y7:TA:=fun _ H Q=>Q [] H
def yS (ta:TE)(tr:TA):TA:=fun σ H Q=>ta σ H fun x H1=>tr σ H1 fun xs H2=>Q (x::xs) H2
section
variable {X:Cx} {e:Expr} {es:List Expr} {te:TE} {t:TA} {pos:Pos}
theorem nT:PA X [] y7:=fun _ _ _ _ H Q I h=>Calls.spliced_nil ⟨[],H,I,.nil,h⟩
theorem ir (ha:PE X e te)(hr:PA X es t)(hs:starEach (e::es) X.env=(false,eval e X.env)::starEach es X.env:=by rfl):PA X (e::es) (yS te t):=by
  intro pos pins s σ H Q I h
  rw[hs]
  show wpAny _ _ (spliced ((false,eval e X.env)::backTo pos (starEach es X.env))) _ _ s
  refine Calls.spliced_cons (thn (ha pins s σ H _ I h) fun u s1 ⟨x,H1,I1,r1,q1⟩=>?_)
  exact thn (hr pos pins s1 σ H1 _ I1 q1) fun us s2 ⟨xs,H2,I2,r2,q2⟩=>⟨x::xs,H2,I2,.cons r1 r2,q2⟩
def zj (t:TA):TE:=fun σ H Q=>t σ H fun xs H1=>xs.length≤sizeLine∧∀ p,H1 p=none→Q (.ref p) (upd H1 p (.tup xs))
def zl (t:TA):TE:=fun σ H Q=>t σ H fun xs H1=>xs.length≤sizeLine∧∀ p,H1 p=none→Q (.ref p) (upd H1 p (.lst xs))
theorem wz {x1}(h:PA X es t):PE X (.Tuple es x1 pos) (zj t):=by
  intro pins s σ H Q I hq
  refine wpAny_Tuple_spliced (thn (h pos pins s σ H _ I hq) fun us s1 ⟨xs,H1,I1,r,z,q⟩=>⟨by rw[← r.length];exact z,?_⟩)
  have hf:H1 s1.heap.objs.size=none:=I1.hok.fresh (Nat.le_refl _)
  refine ⟨.ref s1.heap.objs.size,upd H1 s1.heap.objs.size (.tup xs),I1.laid (t':=s1.toks) (fun b u e=>Heap.get?_push_of_some _ e) (Nat.le_refl _) ?_,rfl,q _ hf⟩
  exact ⟨z,us,r,⟨_,Heap.get?_push_size _ rfl⟩⟩
theorem qE (h:PA X es t):PE X (.List es pos) (zl t):=by
  intro pins s σ H Q I hq
  refine wpAny_List_spliced (thn (h pos pins s σ H _ I hq) fun us s1 ⟨xs,H1,I1,r,z,q⟩=>⟨by rw[← r.length];exact z,?_⟩)
  have hf:H1 s1.heap.objs.size=none:=I1.hok.fresh (Nat.le_refl _)
  refine ⟨.ref s1.heap.objs.size,upd H1 s1.heap.objs.size (.lst xs),I1.laid (t':=s1.toks) (fun b u e=>Heap.get?_push_of_some _ e) (Nat.le_refl _) ?_,rfl,q _ hf⟩
  exact ⟨z,us,0,r,Heap.get?_push_size _ rfl⟩
end
abbrev Sp:=List V→Hp→VK→XK→Prop
abbrev CXT:=List Env→Hp→Shared→XK→Value→Shared→Prop
structure mU (P:Program) (w:World) (K:PySem.W.Frag) (mg:Str→Option Value) (base:Heap) (A:Around) (outer:List Env) (s:Shared) (H:Hp):Prop where
  frames:A.frames=some outer
  mod:Mod K mg base
  bs:∀ b o,base.get? b=some o→s.heap.get? b=some o∧H b=none
  bsz:base.objs.size≤s.heap.objs.size
  h9:s.heap.FunFrames base outer
  frf:∀ b∈frs outer,H b=none
  hok:HOk P w H s.heap
  bare:AllBare s.gens
def CE (outer:List Env)(P:Program)(w:World)(H:Hp)(s:Shared)(Q:VK)(u:Value)(s':Shared):Prop:=
  ∃ v H',s'.os=s.os∧AllBare s'.gens∧Un (frs outer) [] H H' s.heap s'.heap∧HOk P w H' s'.heap∧RelV v u∧Q v H'
def CR (CX:CXT)(outer:List Env)(P:Program)(w:World)(H:Hp)(s:Shared)(Q:VK)(E:XK)(r:Result)(s':Shared):Prop:=
  match r with
  | .ok (.ret u)=>CE outer P w H s Q u s'
  | .ok _=>False
  | .error e=>CX outer H s E e s'
structure fN (P:Program) (w:World) (K:PySem.W.Frag) (mg:Str→Option Value) (base:Heap) (CX:CXT) (k:Nat) (f:Addr) (fd:FuncData) (ps:List Str) (sp:Sp):Prop where
  len:∀ vs H Q E,sp vs H Q E→vs.length=ps.length
  run:∀ (A:Around) (outer:List Env) (s:Shared) (H:Hp) (args:Args) (us:List Value) (vs:List V) (Q:VK) (E:XK),cx k A→mU P w K mg base A outer s H→BindsTo s fd args (ps.zip us)→Vals vs us→sp vs H Q E→
    codeAny (model P w) A (.call (.ref f) args) (CR CX outer P w H s Q E) s
theorem fN.mono {P:Program}{w:World}{K:PySem.W.Frag}{mg:Str→Option Value}{base:Heap}{CX:CXT}{j k:Nat}{f:Addr}{fd:FuncData}{ps:List Str}{sp:Sp}(F:fN P w K mg base CX j f fd ps sp)(h:j≤k) :
    fN P w K mg base CX k f fd ps sp:=⟨F.len,fun A outer s H args us vs Q E hr=>F.run A outer s H args us vs Q E (hr.mono h)⟩
theorem mU.in1 {P:Program}{w:World}{K:PySem.W.Frag}{mg:Str→Option Value}{base:Heap}{A:Around}{outer:List Env}{s:Shared}{H:Hp}(e:mU P w K mg base A outer s H) :
    mU P w K mg base A.in1 outer s H:=⟨e.frames,e.mod,e.bs,e.bsz,e.h9,e.frf,e.hok,e.bare⟩
section
variable {X:Cx} {pins:List (Addr×Obj)} {σ:St} {H:Hp} {s s':Shared}
theorem Inv.zo (I:Inv X pins σ H s):mU X.prog X.w X.K X.mg X.base X.A X.stack s H:=
  ⟨I.ok.frames,I.ok.mod,I.bs,Nat.le_trans I.ok.bsz I.sz,I.stack,I.tM,I.hok,I.bare⟩
theorem Inv.after {Q:VK}{u:Value}(I:Inv X pins σ H s)(h:CE X.stack X.prog X.w H s Q u s'):EP X pins σ Q u s':=by
  obtain ⟨v,H',os,bare,un,hok,r,q⟩:=h
  obtain ⟨hh,g,d,t,os'⟩:=s'
  obtain rfl:os'=s.os:=os
  exact ⟨v,H',I.call (h':=hh) (g':=g) (d':=d) (t':=t) (ch:=[]) un hok bare (fun b z=>absurd z (by simp)),r,q⟩
end
def xZ (sp:Sp)(dvs:List V)(E:XK)(t:TA):TE:=fun σ H Q=>t σ H fun vs H1=>sp (vs++dvs) H1 Q E
def Binds (K:PySem.W.Frag)(fd:FuncData)(ps:List Str)(ds:List Value):Prop:=
  ∀ (s:Shared) (us:List Value),K.In s.heap→(us++ds).length=ps.length→BindsTo s fd ⟨us,[]⟩ (ps.zip (us++ds))
theorem Binds.all {K:PySem.W.Frag}{fd:FuncData}{ps:List Str}(h:∀ us:List Value,us.length=ps.length→bindArgs fd ⟨us,[]⟩=pure (ps.zip us)):Binds K fd ps []:=fun s us _ hl=>by
  rw[List.append_nil] at hl ⊢
  exact .of_eq (h us hl)
def Passes (CX:CXT)(X:Cx)(E:XK):Prop:=∀ (pins:List (Addr×Obj)) (σ:St) (H:Hp) (s:Shared) (e:Value) (s':Shared),Inv X pins σ H s→CX X.stack H s E e s'→X.xe e s'
section
variable {X:Cx} {CX:CXT} {k:Nat} {f C:Addr} {fd:FuncData} {ps:List Str} {sp:Sp} {dvs:List V} {ds:List Value} {E:XK} {x m:Str} {p pos apos:Pos} {e o:Expr} {es:List Expr} {ta:TE} {t:TA}
theorem vW {pins:List (Addr×Obj)}{σ:St}{H:Hp}{s:Shared}{Q:VK}{us:List Value}{vs:List V}(F:fN X.prog X.w X.K X.mg X.base CX k f fd ps sp)(hr:cx k X.A)(hb:Binds X.K fd ps ds)(hd:Vals dvs ds)(hx:Passes CX X E)
    (I:Inv X pins σ H s) (r:Vals vs us) (h:sp (vs++dvs) H Q E):wpAny (model X.prog X.w) X.A (call (.ref f) us) (EP X pins σ Q) X.xe s:=by
  have r2:Vals (vs++dvs) (us++ds):=r.append hd
  have hl:(us++ds).length=ps.length:=by rw[← r2.length];exact F.len _ _ _ _ h
  refine wpAny_call (codeAny_mono (F.run X.A X.stack s H ⟨us,[]⟩ (us++ds) (vs++dvs) Q E hr I.zo (hb s us I.kIn hl) r2 h) fun r s' hq=>?_)
  cases r with
  | error e=>exact hx pins σ H s e s' I hq
  | ok fl=>
    cases fl with
    | ret u=>exact I.after hq
    | next=>exact False.elim hq
    | brk=>exact False.elim hq
    | cont=>exact False.elim hq
theorem s9 (F:fN X.prog X.w X.K X.mg X.base CX k f fd ps sp)(hr:cx k X.A)(hg:Gl X x)(hm:X.mg x=some (.ref f))(hk:PySem.W.keepIn X.K (.ref f)=true)(hb:Binds X.K fd ps ds)(hd:Vals dvs ds)(hx:Passes CX X E)
    (ha:PA X (e::es) t) (hdb:(x == ("__debug__" : Str))=false:=by decide) (he:starEach (e::es) X.env=(false,eval e X.env)::starEach es X.env:=by rfl) (hpl:(backTo pos (starEach es X.env)).any (·.1)=false:=by rfl) :
    PE X (.Call (.Name x p) (e::es) [] pos) (xZ sp dvs E t):=by
  intro pins s σ H Q I h
  refine wpAny_Call_Name_kw (oJ I hg hm ?_ hdb)
  refine PySem.W.callWith_K (h₀:=X.base) I.ok.mod.kin hk (thn (ha pos pins s σ H _ I h) fun us s1 ⟨vs,H1,I1,r,q⟩=>⟨I1.kIn,?_⟩) he hpl
  exact vW F hr hb hd hx I1 r q
end
section
variable {X:Cx} {CX:CXT} {k:Nat} {f C:Addr} {fd:FuncData} {ps ks:List Str} {sp:Sp} {E:XK} {x m:Str} {p pos apos kpos:Pos} {e o:Expr} {es:List Expr} {kws:List Keyword} {te ta:TE} {t tk:TA} {nm:Option Str}
variable {g:List Value→List Value→List Value} {gV:List V→List V→List V}
end
structure aE (N P:List Str) (sc:Scope):Prop where
  kind:sc.kind=.function
  co:sc.isCoroutine=false
  gen:sc.isGenerator=false
  nd:N.Nodup
  pre:N.take P.length=P
  par:∀ x∈P,sc.names.lookup x=some .local∨sc.names.lookup x=some .cell
  vw:∀ y∈sc.names,y.2≠.free
theorem j4 {kindOf:Str→Option NameKind}{x:Str}:∀ {binds:List (Str×Value)} {m:Str→Option Value},(∀ v,(x,v) ∉ binds)→bindL kindOf binds m x=m x
  | [],_,_=>rfl
  | (n,v)::r,m,h=>by
    unfold bindL
    rw[j4 fun w hw=>h w (List.mem_cons_of_mem _ hw)]
    split
    · have:x≠n:=by rintro rfl;exact h v List.mem_cons_self
      simp[this]
    · rfl
theorem kc {kindOf:Str→Option NameKind}{x:Str}:∀ {binds:List (Str×Value)} {m:Str→Option Value},(∀ v,(x,v) ∉ binds)→bindC kindOf binds m x=m x
  | [],_,_=>rfl
  | (n,v)::r,m,h=>by
    unfold bindC
    rw[kc fun w hw=>h w (List.mem_cons_of_mem _ hw)]
    split
    · rfl
    · have:x≠n:=by rintro rfl;exact h v List.mem_cons_self
      simp[this]
theorem km {kindOf:Str→Option NameKind}{x:Str}{v:Value}:∀ {P:List Str} {vs:List Value} {i:Nat} {m:Str→Option Value},P.Nodup→P[i]? = some x→vs[i]? = some v→kindOf x=some .local→
    bindL kindOf (P.zip vs) m x=some v
  | [],_,_,_,_,h,_,_=>by simp at h
  | _::_,[],_,_,_,_,h,_=>by simp at h
  | p::P,w::vs,0,m,nd,h1,h2,hk=>by
    simp at h1 h2;subst h1;subst h2
    show bindL kindOf ((p,w)::P.zip vs) m p=_
    unfold bindL
    rw[j4 fun v hv=>(List.nodup_cons.mp nd).1 (List.of_mem_zip hv).1,if_pos hk]
    simp
  | p::P,w::vs,i+1,m,nd,h1,h2,hk=>by
    show bindL kindOf ((p,w)::P.zip vs) m x=_
    unfold bindL
    exact km (i:=i) (List.nodup_cons.mp nd).2 (by simpa using h1) (by simpa using h2) hk
theorem kj {kindOf:Str→Option NameKind}{x:Str}{v:Value}:∀ {P:List Str} {vs:List Value} {i:Nat} {m:Str→Option Value},P.Nodup→P[i]? = some x→vs[i]? = some v→kindOf x≠some .local→
    bindC kindOf (P.zip vs) m x=some v
  | [],_,_,_,_,h,_,_=>by simp at h
  | _::_,[],_,_,_,_,h,_=>by simp at h
  | p::P,w::vs,0,m,nd,h1,h2,hk=>by
    simp at h1 h2;subst h1;subst h2
    show bindC kindOf ((p,w)::P.zip vs) m p=_
    unfold bindC
    rw[kc fun v hv=>(List.nodup_cons.mp nd).1 (List.of_mem_zip hv).1,if_neg hk]
    simp
  | p::P,w::vs,i+1,m,nd,h1,h2,hk=>by
    show bindC kindOf ((p,w)::P.zip vs) m x=_
    unfold bindC
    exact kj (i:=i) (List.nodup_cons.mp nd).2 (by simpa using h1) (by simpa using h2) hk
def start (N:List Str)(vs:List V):St:=vs.map some++List.replicate (N.length - vs.length) none
def mh (CX:CXT)(P:Program)(w:World)(K:PySem.W.Frag)(mg:Str→Option Value)(base:Heap)(N:List Str)(qual:Str)(scope:Scope)(f:Addr)(cd:Value)(A:Around)(outer:List Env)(s:Shared)(H:Hp)(E:XK):Cx where
  prog:=P
  w:=w
  K:=K
  mg:=mg
  base:=base
  A:=A.deeper (envOfC qual scope s.heap.objs.size f cd)
  N:=N
  s₀:=s
  H₀:=H
  env:=envOfC qual scope s.heap.objs.size f cd
  outer:=outer
  stack:=envOfC qual scope s.heap.objs.size f cd::outer
  ex:=[]
  calm:=true
  fn:=fun _=>true
  pn:=[]
  xe:=fun e s'=>wpAny (model P w) (A.deeper (envOfC qual scope s.heap.objs.size f cd)) (leaving (envOfC qual scope s.heap.objs.size f cd) e) (fun _ s''=>CX outer H s E e s'') (fun e' s''=>CX outer H s E e' s'') s'
theorem l7 {sc:Scope}{n:Nat}{x:Str}(h:sc.names.lookup x=some .cell):∃ c,(cellsFrom n sc.names []).lookup x=some c:=by
  have q:=PySem.W.cellsFrom_some sc.names n [] (.inl h)
  exact Option.isSome_iff_exists.mp q
theorem pE {CX:CXT}{P:Program}{w:World}{K:PySem.W.Frag}{mg:Str→Option Value}{base:Heap}{N ps:List Str}{qual:Str}{scope:Scope}{f:Addr}{cd:Value}{A:Around}{outer:List Env}{s s1:Shared}{H:Hp}{E:XK}{us:List Value}{vs:List V}
    (S:aE N ps scope) (hd:A.handled=none) (e0:mU P w K mg base A outer s H) (hl:vs.length=ps.length) (r:Vals vs us)
    (x:InCallC s s.heap.objs.size (bindL (envOfC qual scope s.heap.objs.size f cd).kindOf (ps.zip us) fun _=>none) (cellsFrom (s.heap.objs.size+1) scope.names []) (bindC (envOfC qual scope s.heap.objs.size f cd).kindOf (ps.zip us) fun _=>none) s1) :
    Inv (mh CX P w K mg base N qual scope f cd A outer s H E) [] (start N vs) H s1:=by
  have hpl:ps.length≤N.length:=by have:=congrArg List.length S.pre;rw[List.length_take] at this;omega
  obtain ⟨h1,tk,rfl,hk⟩:=x.done
  have noA:∀ b:Addr,b ∉ (mh CX P w K mg base N qual scope f cd A outer s H E).ex:=fun b z=>absurd (show b∈([]:List Addr) from z) (by simp)
  refine ⟨⟨e0.mod,S.kind,rfl,rfl,Nat.le_refl _,fun y z c h1 h2=>?_,fun y hy=>?_,fun y c _ h=>?_,fun _=>hd,Around.frames_deeper e0.frames,.inr ⟨rfl,rfl⟩,fun b z=>absurd z (noA b),e0.bs,e0.bsz,fun b _ _=>noA b,fun b z=>absurd z (noA b),e0.h9,e0.frf⟩,
    rfl,e0.bare,Un.kept hk,⟨_,x.toInCall.ns,fun i y v h1 h2 h3=>?_⟩,fun y c h=>⟨_,x.cell y c h⟩,e0.hok.fresh (Nat.le_refl _),fun y c h=>?_,fun p hp=>absurd (show p∈([]:List (Addr×Obj)) from hp) (by simp),e0.hok.kept hk,?_⟩
  · exact name_of_addr x.apart (PySem.mem_of_lookup h1) (PySem.mem_of_lookup h2)
  · have hy:scope.names.lookup y=some .cell∨scope.names.lookup y=some .free:=hy
    rcases hy with hy | hy
    · exact l7 hy
    · exact absurd rfl (S.vw _ (PySem.mem_of_lookup hy))
  · exact Nat.le_of_lt (x.above y c (PySem.mem_of_lookup h))
  · have hi:i < vs.length:=by
      unfold start at h2
      by_cases hi:i < vs.length
      · exact hi
      · rw[List.getElem?_append_right (by simpa using hi)] at h2
        rw[List.getElem?_replicate] at h2
        split at h2<;>cases h2
    have ha:vs[i]? = some v:=by
      unfold start at h2
      rw[List.getElem?_append_left (by simpa using hi),List.getElem?_map] at h2
      cases e:vs[i]? with
      | none=>rw[e] at h2;cases h2
      | some a=>rw[e] at h2;cases h2;rfl
    obtain ⟨u,hu,rv⟩:=r.get ha
    have hp:ps[i]? = some y:=by
      rw[← S.pre,List.getElem?_take_of_lt (by omega)];exact h1
    have ndP:ps.Nodup:=by rw[← S.pre];exact S.nd.sublist (List.take_sublist _ _)
    refine ⟨u,rv,?_⟩
    rcases S.par y (List.mem_of_getElem? hp) with k | k
    · exact .inl ⟨k,km ndP hp hu k⟩
    · obtain ⟨c,e⟩:=l7 (n:=s.heap.objs.size+1) k
      refine .inr ⟨.inl k,c,e,?_⟩
      have q:=x.cell y c e
      rw[kj ndP hp hu (by show scope.names.lookup y≠_;rw[k];decide)] at q
      exact q
  · exact e0.hok.fresh (Nat.le_of_lt (x.above y c (PySem.mem_of_lookup h)))
  · unfold start
    show _=N.length
    rw[List.length_append,List.length_map,List.length_replicate]
    omega
theorem yP {CX:CXT}{P:Program}{w:World}{K:PySem.W.Frag}{mg:Str→Option Value}{base:Heap}{k:Nat}{f:Addr}{name qual:Str}{params:Arguments}{body:List Stmt}{scope:Scope}{dV kV doc pm cdv ct oc:Value}{an od:Option Addr}
    {osl:Array (Option Value)} {N ps:List Str} {sp:Sp} (lk:K.lookup f=some ⟨oc,od,.func (PySem.W.fnOf name qual params body scope dV kV doc pm an cdv ct),osl⟩) (hcd:PySem.W.codeIn K cdv qual=true) (S:aE N ps scope)
    (len:∀ vs H Q E,sp vs H Q E→vs.length=ps.length)
    (hbody:∀ (A:Around) (outer:List Env) (s:Shared) (H:Hp) (vs:List V) (Q:VK) (E:XK),cx k (A.deeper (envOfC qual scope s.heap.objs.size f cdv))→sp vs H Q E→
      ∃ t,PSs (mh CX P w K mg base N qual scope f cdv A outer s H E) body t∧t { nx:=fun _ H'=>Q .non H',rt:=Q } (start N vs) H) :
    fN P w K mg base CX (k+1) f (PySem.W.fnOf name qual params body scope dV kV doc pm an cdv ct) ps sp:=by
  refine ⟨len,fun A outer s H args us vs Q E hr e0 hb r hsp=>?_⟩
  have hl:=len _ _ _ _ hsp
  have KX:K.In s.heap:=e0.mod.kin.keeps fun b o e=>(e0.bs b o e).1
  have lim:s.heap.NoLimit:=e0.mod.nolimit.keeps fun b o e=>(e0.bs b o e).1
  have xD:∀ y∈ps.zip us,scope.names.lookup y.1=some .local∨(scope.names.lookup y.1=some .cell∧((cellsFrom (s.heap.objs.size+1) scope.names []).lookup y.1).isSome=true):=fun ⟨n,v⟩ hy=>by
    rcases S.par n (List.of_mem_zip hy).1 with q | q
    · exact .inl q
    · exact .inr ⟨q,PySem.W.cellsFrom_some _ _ _ (.inl q)⟩
  refine codeAny_call_function hr.depth (KX _ _ lk) rfl S.co S.gen rfl (PySem.W.codeRec_of KX hcd) (hb _ _ _ _ ?_)
  refine wpAny_newFunctionEnv_cells S.kind xD fun env he s1 x=>?_
  subst he
  refine ⟨lim.keeps x.toInCall.keep,codeAny_func ?_⟩
  obtain ⟨t,ht,hq⟩:=hbody A outer s H vs Q E (hr.deeper _) hsp
  have I:Inv (mh CX P w K mg base N qual scope f cdv A outer s H E) [] (start N vs) H s1:=pE S hr.hd e0 hl r x
  refine wpAny_mono (ht [] s1 (start N vs) H _ I hq) (fun fl s' hs=>?_) fun e s' hs=>hs
  have fin:∀ {σ':St} {H':Hp} {v:V} {u:Value},Inv (mh CX P w K mg base N qual scope f cdv A outer s H E) [] σ' H' s'→RelV v u→Q v H'→CE outer P w H s Q u s':=
    fun {σ' H' v u} J rv q=>⟨v,H',J.os,J.bare,J.base,J.hok,rv,q⟩
  cases fl with
  | ret u=>
    obtain ⟨v,σ',H',J,rv,q⟩:=hs
    exact fin J rv q
  | next=>
    obtain ⟨σ',H',J,q⟩:=hs
    exact fin (v:=V.non) (u:=Value.none) J rfl q
  | brk=>
    obtain ⟨_,_,_,q⟩:=hs
    exact False.elim q
  | cont=>
    obtain ⟨_,_,_,q⟩:=hs
    exact False.elim q
end L2
namespace L2
open PySem PySem.Spec PyProof.Rows
section
variable {X:Cx} {x:Str} {p pos:Pos} {e:Expr} {es:List Expr} {t:TA} {id T:String} {r:List V→Hp→VK→Prop}
def tCB (r:List V→Hp→VK→Prop)(t:TA):TE:=fun σ H Q=>t σ H fun vs H1=>r vs H1 Q
theorem mv (hc:bC X (.builtin id) r)(hg:Gl X x)(hm:X.mg x=none)(hv:bootBuiltins x=some (.builtin id))(ha:PA X (e::es) t)(hn:x ≠ "__name__" := by decide)(hdb:(x == ("__debug__" : Str))=false:=by decide)
    (he:starEach (e::es) X.env=(false,eval e X.env)::starEach es X.env:=by rfl) (hpl:(backTo pos (starEach es X.env)).any (·.1)=false:=by rfl):PE X (.Call (.Name x p) (e::es) [] pos) (tCB r t):=by
  intro pins s σ H Q I h
  refine wpAny_Call_Name_kw (kT I hg hm hv ?_ hn hdb)
  exact PyProof.Rows.callWith_builtin1 (thn (ha pos pins s σ H _ I h) fun us s1 ⟨vs,H1,I1,r1,q1⟩=>hc pins s1 σ H1 vs us Q I1 r1 q1) he hpl
theorem pL (hc:bC X (.type T) r)(hg:Gl X x)(hm:X.mg x=none)(hv:bootBuiltins x=some (.type T))(ha:PA X (e::es) t)(hn:x ≠ "__name__" := by decide)(hdb:(x == ("__debug__" : Str))=false:=by decide)
    (he:starEach (e::es) X.env=(false,eval e X.env)::starEach es X.env:=by rfl) (hpl:(backTo pos (starEach es X.env)).any (·.1)=false:=by rfl):PE X (.Call (.Name x p) (e::es) [] pos) (tCB r t):=by
  intro pins s σ H Q I h
  refine wpAny_Call_Name_kw (kT I hg hm hv ?_ hn hdb)
  exact PyProof.Rows.callWith_type1 (thn (ha pos pins s σ H _ I h) fun us s1 ⟨vs,H1,I1,r1,q1⟩=>hc pins s1 σ H1 vs us Q I1 r1 q1) he hpl
end
end L2
namespace HT
open PySem PyProof.Rows
section
open PySem.SeqAt
open PySem.AutoSeq1 (wpAny_loadPart')
open PySem.MeetsSeq PySem.MeetsSeq2 PySem.MeetsSeq3
end
section
variable {prog:Program} {w:World} {A:Around} {E:Value→Shared→Prop} {s:Shared}
theorem uh {t b:Addr}{vs ws:List Value}{Q:Value→Shared→Prop}(ht:IsTup s.heap t vs.toArray)(hb:IsTup s.heap b ws.toArray)(hv:vs≠[])
    (h1:ws=[]→Q (.ref t) s) (h2:ws≠[]→Q (.ref s.heap.objs.size) { s with heap:=s.heap.push { cls:=.type "tuple", data:=.seq (vs++ws).toArray } })
    (hsz:vs.length+ws.length≤sizeLine):wpAny (model prog w) A (binaryOp .Add (.ref t) (.ref b)) Q E s:=by
  obtain ⟨⟨cls,dd,data,sl⟩,ho,hc,n,hd⟩:=id ht
  obtain ⟨⟨cls2,dd2,data2,sl2⟩,ho2,hc2,n2,hd2⟩:=id hb
  simp only at hc hd hc2 hd2
  subst hc hd hc2 hd2
  have e:vs.toArray++ws.toArray=(vs++ws).toArray:=by simp
  by_cases hw:ws=[]
  · exact concat_meets ⟨_,ho,rfl⟩ ⟨_,ho2,rfl⟩ noFill_tuple_add seq_tuple_add PySem.F.slot_tuple_add PySem.F.entry_tuple_add (PySem.F.args_tuple_add_2 _ _)
      (tuple_addW1 t b vs.toArray ws.toArray n n2 dd dd2 sl sl2 (by simpa using hv) (by simp[hw])) ⟨ho,ho2,h1 hw⟩
  · refine concat_meets ⟨_,ho,rfl⟩ ⟨_,ho2,rfl⟩ noFill_tuple_add seq_tuple_add PySem.F.slot_tuple_add PySem.F.entry_tuple_add (PySem.F.args_tuple_add_2 _ _)
      (tuple_addW2 t b vs.toArray ws.toArray n n2 dd dd2 sl sl2 (by simpa using hv) (by simpa using hw) (by rw[List.size_toArray,List.size_toArray];exact hsz)) ⟨ho,ho2,?_⟩
    rw[e]
    exact h2 hw
def sIx (n d:Nat):Option Int→Nat
  | none=>d
  | some v=>if v < 0 then (v+(n:Int)).toNat else min v.toNat n
end
end HT
namespace L2
open PySem PySem.Spec PyProof.Rows
abbrev TO:=St→Hp→(Option Int→Hp→Prop)→Prop
section
variable {X:Cx} {e:Expr} {te:TE} {lo hi:Option Expr} {tl th:TO} {pos p2:Pos}
def SlR (X:Cx)(r:V→Option Int→Option Int→Hp→VK→Prop):Prop:=
  ∀ (pins:List (Addr×Obj)) (s:Shared) (σ:St) (H:Hp) (x:V) (v vl vu:Value) (lo hi:Option Int) (sl:Addr) (Q:VK),Inv X pins σ H s→RelV x v→s.heap.IsSliceOf sl vl vu .none→IsPart vl lo→IsPart vu hi→r x lo hi H Q→
    ∃ T id,typeLookup (.type T) "__getitem__" = pure (some (.builtin id))∧s.TypeIs v T∧wpAny (model X.prog X.w) X.A (getItem v (.ref sl)) (EP X pins σ Q) X.xe s
theorem SlR.or {r r':V→Option Int→Option Int→Hp→VK→Prop}(h:SlR X r)(h':SlR X r'):SlR X (fun x lo hi H Q=>r x lo hi H Q∨r' x lo hi H Q):=by
  intro pins s σ H x v vl vu lo hi sl Q I rx hs pl pu q
  rcases q with q | q
  · exact h pins s σ H x v vl vu lo hi sl Q I rx hs pl pu q
  · exact h' pins s σ H x v vl vu lo hi sl Q I rx hs pl pu q
def va (K:PySem.W.Frag):R2:=fun x y H Q=>∃ a b xs ys,x=.ref a∧y=.ref b∧SqT K H a xs∧SqT K H b ys∧xs≠[]∧xs.length+ys.length≤sizeLine∧
  (ys=[]→Q (.ref a) H)∧(ys≠[]→∀ p,H p=none→Q (.ref p) (upd H p (.tup (xs++ys))))
theorem Vals.k8 {xs:List V}{us:List Value}(r:Vals xs us):us=[]↔xs=[]:=by
  cases r with
  | nil=>simp
  | cons _ _=>simp
theorem tJ:OpR X (binaryOp .Add) (va X.K):=by
  intro pins s σ H x y v u Q I rx ry h
  obtain ⟨a,b,xs,ys,rfl,rfl,ha,hb,hx,hz,q1,q2⟩:=h
  cases rx
  cases ry
  obtain ⟨its,r1,p1,_⟩:=I.tuple ha
  obtain ⟨its2,r2,p2,_⟩:=I.tuple hb
  refine HT.uh p1 p2 (fun z=>hx (r1.k8.mp z)) (fun z=>⟨.ref a,H,I,rfl,q1 (r2.k8.mp z)⟩) (fun z=>?_) (by rw[← r1.length,← r2.length];exact hz)
  refine ⟨.ref s.heap.objs.size,_,I.laid (t':=s.toks) (o:=.tup (xs++ys)) (fun b ob q=>Heap.get?_push_of_some _ q) (Nat.le_refl _) ?_,rfl,q2 (fun w=>z (r2.k8.mpr w)) _ (I.hok.fresh (Nat.le_refl _))⟩
  exact ⟨by rw[List.length_append];exact hz,_,r1.append r2,nH.new _ _⟩
end
end L2
namespace L2
open PySem PySem.Spec PyProof.Rows
def ixN (n:Nat)(i:Int):Option Nat:=if 0≤i then (if i < n then some i.toNat else none) else if -(n:Int)≤i then some (i+n).toNat else none
def atI {α:Type}(xs:List α)(i:Int):Option α:=(ixN xs.length i).bind fun j=>xs[j]?
theorem oB {n:Nat}{i:Int}{j:Nat}(h:ixN n i=some j):seqIndex? i n=some j∧j < n∧-(n:Int)≤i∧i < n:=by
  unfold ixN at h
  by_cases h0:0≤i
  · rw[if_pos h0] at h
    by_cases h1:i < n
    · rw[if_pos h1] at h
      have e:i.toNat=j:=Option.some.inj h
      exact ⟨by rw[seqIndex_of h0 h1,e],by omega,by omega,h1⟩
    · rw[if_neg h1] at h;cases h
  · rw[if_neg h0] at h
    by_cases h1:-(n:Int)≤i
    · rw[if_pos h1] at h
      have e:(i+n).toNat=j:=Option.some.inj h
      exact ⟨by rw[seqIndex_neg (by omega) h1,e],by omega,h1,by omega⟩
    · rw[if_neg h1] at h;cases h
theorem lj {α:Type}{xs:List α}{i:Int}{v:α}(h:atI xs i=some v):∃ j,seqIndex? i xs.length=some j∧xs[j]? = some v∧j < xs.length∧-(xs.length:Int)≤i∧i < xs.length:=by
  unfold atI at h
  cases e:ixN xs.length i with
  | none=>rw[e] at h;cases h
  | some j=>
    rw[e] at h
    obtain ⟨h1,h2,h3,h4⟩:=oB e
    exact ⟨j,h1,h,h2,h3,h4⟩
def lu (b:Expr):Prop:=∀ o i,subscripted b false o i=operate [o,i] (getItem o i)
def IxR (X:Cx)(r:R2):Prop:=
  ∀ (value slice:Expr) (pins:List (Addr×Obj)) (s:Shared) (σ:St) (H:Hp) (x y:V) (v u:Value) (Q:VK),Inv X pins σ H s→RelV x v→RelV y u→r x y H Q→
    subscripted slice false v u=operate [v,u] (getItem v u)→wpAny (model X.prog X.w) X.A (subscriptTail value slice v u) (EP X pins σ Q) X.xe s
def MtR (X:Cx)(id:String)(r:V→List V→Hp→VK→Prop):Prop:=
  ∀ (pins:List (Addr×Obj)) (s:Shared) (σ:St) (H:Hp) (x:V) (xs:List V) (v:Value) (us:List Value) (Q:VK),Inv X pins σ H s→RelV x v→Vals xs us→r x xs H Q→
    wpAny (model X.prog X.w) X.A (call (.builtin id) (v::us)) (EP X pins σ Q) X.xe s
section
variable {X:Cx} {a b:Expr} {ta tb:TE} {pos:Pos}
theorem IxR.or {r r':R2}(h:IxR X r)(h':IxR X r'):IxR X (fun x y H Q=>r x y H Q∨r' x y H Q):=by
  intro value slice pins s σ H x y v u Q I rx ry q hs
  rcases q with q | q
  · exact h value slice pins s σ H x y v u Q I rx ry q hs
  · exact h' value slice pins s σ H x y v u Q I rx ry q hs
theorem MtR.or {id:String}{r r':V→List V→Hp→VK→Prop}(h:MtR X id r)(h':MtR X id r'):MtR X id (fun x xs H Q=>r x xs H Q∨r' x xs H Q):=by
  intro pins s σ H x xs v us Q I rx rs q
  rcases q with q | q
  · exact h pins s σ H x xs v us Q I rx rs q
  · exact h' pins s σ H x xs v us Q I rx rs q
theorem uI {r:R2}(hr:IxR X r)(ha:PE X a ta)(hb:PE X b tb)(hs:lu b):PE X (.Subscript a b pos) (tOp r ta tb):=by
  intro pins s σ H Q I h
  exact Subscript_ (vk ha hb I h fun v u s2 x y H2 I2 rx ry q=>hr a b pins s2 σ H2 x y v u Q I2 rx ry q (hs _ _))
def xJ (K:PySem.W.Frag):R2:=fun x y H Q=>∃ p xs i v,x=.ref p∧y=.int i∧SqL K H p xs∧atI xs i=some v∧Q v H
def yB (K:PySem.W.Frag):R2:=fun x y H Q=>∃ p xs i v,x=.ref p∧y=.int i∧SqT K H p xs∧atI xs i=some v∧Q v H
def xG:R2:=fun x y H Q=>∃ z i c,x=.str z∧y=.int i∧z.length≤sizeLine∧atI z.cps.toList i=some c∧Q (.str ⟨#[c]⟩) H
theorem uv:IxR X (xJ X.K):=by
  intro value slice pins s σ H x y v u Q I rx ry h hs
  obtain ⟨p,xs,i,z,rfl,rfl,hq,he,q⟩:=h
  cases rx
  obtain ⟨t,rfl⟩:=ry
  obtain ⟨its,r,pl,hz⟩:=I.list hq
  obtain ⟨j,h1,h2,h3,h4,h5⟩:=lj he
  obtain ⟨w,ew,rw'⟩:=r.get h2
  have hl:=r.length
  have hn:=gT
  have fin:EP X pins σ Q w s:=⟨z,H,I,rw',q⟩
  by_cases h0:0≤i
  · have hj:i.toNat=j:=by
      rw[seqIndex_of h0 h5] at h1
      exact Option.some.inj h1
    exact item_listR pl.isList h0 (by omega) (by rw[hj];simpa using ew) fin hs
  · have hj:(i+(its.toArray.size:Int)).toNat=j:=by
      rw[seqIndex_neg (by omega) h4] at h1
      rw[List.size_toArray,← hl]
      exact Option.some.inj h1
    exact subscriptTail_builtinR (x:=w) pl.isList.typeIs slot_list_getitem.lookup
      (wpAny_getItem_list_neg (Q:=fun r s'=>r=w∧EP X pins σ Q r s') pl.isList (by omega) (by rw[List.size_toArray]<;>omega) (by omega) (by rw[hj];simpa using ew) ⟨rfl,fin⟩) hs
theorem wx:IxR X (yB X.K):=by
  intro value slice pins s σ H x y v u Q I rx ry h hs
  obtain ⟨p,xs,i,z,rfl,rfl,hq,he,q⟩:=h
  cases rx
  obtain ⟨t,rfl⟩:=ry
  obtain ⟨its,r,pl,hz⟩:=I.tuple hq
  obtain ⟨j,h1,h2,h3,h4,h5⟩:=lj he
  obtain ⟨w,ew,rw'⟩:=r.get h2
  have hl:=r.length
  have hn:=gT
  have fin:EP X pins σ Q w s:=⟨z,H,I,rw',q⟩
  exact subscriptTail_builtinR (x:=w) pl.typeIs slot_tuple_getitem.lookup
    (getItem_tuple (j:=j) (Q:=fun r s'=>r=w∧EP X pins σ Q r s') pl (by omega) (by omega) (by rw[List.size_toArray,← hl];exact h1) (by simpa using ew) ⟨rfl,fin⟩) hs
theorem wV:IxR X xG:=by
  intro value slice pins s σ H x y v u Q I rx ry h hs
  obtain ⟨z,i,c,rfl,rfl,hz,he,q⟩:=h
  obtain ⟨t,rfl⟩:=rx
  obtain ⟨t',rfl⟩:=ry
  obtain ⟨j,h1,h2,h3,h4,h5⟩:=lj he
  have hl:z.cps.toList.length=z.length:=by simp[Str.length]
  rw[hl] at h1 h4 h5
  have hn:=gT
  exact tail_any (typeIs_str s z t) slot_str_getitem.lookup (getItem_str (c:=c) (by
    have e1:decide (i < -(2 ^ 63:Int))=false:=decide_eq_false (by omega)
    have e2:decide (i ≥ 2 ^ 63)=false:=decide_eq_false (by omega)
    rw[e1,e2,Bool.or_false]) (by rw[h1];simpa using h2) ⟨.str ⟨#[c]⟩,H,I.tok _,⟨_,rfl⟩,q⟩) hs
def rIx (K:PySem.W.Frag):R2:=fun x y H Q=>xJ K x y H Q∨yB K x y H Q∨xG x y H Q
theorem wK:IxR X (rIx X.K):=uv.or (wx.or wV)
theorem m9 (its:List Value)(n j:Nat)(u:Value):Obj.mapSeq (·.setIfInBounds j u) { cls:=.type "list", data:=.seq its.toArray n }={ cls:=.type "list", data:=.seq (its.set j u).toArray n }:=by
  simp[Obj.mapSeq]
theorem Inv.lst {pins:List (Addr×Obj)}{σ:St}{H:Hp}{s:Shared}{p:Addr}{xs:List V}(I:Inv X pins σ H s)(h:H p=some (.lst xs)) :
    ∃ (its:List Value) (n:Nat),Vals xs its∧s.heap.get? p=some { cls:=.type "list", data:=.seq its.toArray n }∧xs.length≤sizeLine:=by
  obtain ⟨z,its,n,r,e⟩:=I.hok p _ h
  exact ⟨its,n,r,e,z⟩
theorem Inv.we {pins:List (Addr×Obj)}{σ:St}{H:Hp}{s:Shared}{p:Addr}{xs ys:List V}{its its':List Value}{n n':Nat}{f:Obj→Obj}(I:Inv X pins σ H s)(h:H p=some (.lst xs))
    (ho:s.heap.get? p=some { cls:=.type "list", data:=.seq its.toArray n }) (hf:f { cls:=.type "list", data:=.seq its.toArray n }={ cls:=.type "list", data:=.seq its'.toArray n' }) (r:Vals ys its') (hz:ys.length≤sizeLine) (t:Nat) :
    Inv X pins σ (upd H p (.lst ys)) { s with heap:=s.heap.update p f,toks:=t }:=by
  have e:(s.heap.update p f).get? p=some { cls:=.type "list", data:=.seq its'.toArray n' }:=by
    rw[Heap.get?_update_self f ho (by rw[hf]<;>rfl),hf]
  refine I.write (x:=p) (e:=p) (by rw[h];trivial) (.inl rfl) (fun b u hb q=>(Heap.get?_update_other _ _ (Ne.symm hb)).trans q) ⟨_,e⟩ ?_
  exact ⟨hz,its',n',r,e⟩
def yC:V→V→V→Hp→(Hp→Prop)→Prop:=fun o i v H Q=>∃ p xs k j,o=.ref p∧i=.int k∧H p=some (.lst xs)∧ixN xs.length k=some j∧Q (upd H p (.lst (xs.set j v)))
theorem set_list:yL X yC:=by
  intro pins s σ H o i v ov iv u Q I ro ri rv h
  obtain ⟨p,xs,k,j,rfl,rfl,hp,hj,q⟩:=h
  cases ro
  obtain ⟨t,rfl⟩:=ri
  obtain ⟨its,n,r,ho,hz⟩:=I.lst hp
  obtain ⟨h1,h2,h3,h4⟩:=oB hj
  have hl:=r.length
  have hn:=gT
  have I':Inv X pins σ (upd H p (.lst (xs.set j v))) { s with heap:=s.heap.update p (Obj.mapSeq (·.setIfInBounds j u)) }:=
    I.we hp ho (m9 its n j u) (r.set rv j) (by rw[List.length_set];exact hz) s.toks
  by_cases h0:0≤k
  · have hk:k.toNat=j:=by
      rw[seqIndex_of h0 h4] at h1
      exact Option.some.inj h1
    exact PySem.W.ki_setAt ho h0 (by omega) (by rw[List.size_toArray,← hl];exact h4) (by rw[hk];exact ⟨_,I',q⟩)
  · have hk:(k+(its.toArray.size:Int)).toNat=j:=by
      rw[seqIndex_neg (by omega) h3] at h1
      rw[List.size_toArray,← hl]
      exact Option.some.inj h1
    exact PySem.W.ki_setBack ho (by omega) (by rw[List.size_toArray,← hl];exact h3) (by omega) (by rw[hk];exact ⟨_,I',q⟩)
def u5:V→Bool
  | .non=>true
  | .bl _=>true
  | .int _=>true
  | .str _=>true
  | _=>false
def eqV:V→V→Bool
  | .non,.non=>true
  | .bl a,.bl b=>a == b
  | .bl a,.int b=>(if a then 1 else 0) == b
  | .int a,.bl b=>a == (if b then 1 else 0)
  | .int a,.int b=>a == b
  | .str a,.str b=>a == b
  | _,_=>false
def inV (x:V)(xs:List V):Bool:=xs.any fun y=>eqV y x
def rIn (K:PySem.W.Frag)(neg:Bool):R2:=fun x y H Q=>∃ p xs,y=.ref p∧(SqL K H p xs∨SqT K H p xs)∧u5 x=true∧xs.all u5=true∧Q (.bl (if neg then !inV x xs else inV x xs)) H
theorem kA:bC X (.builtin "len") (fun xs H Q=>∃ p ys,xs=[.ref p]∧(SqL X.K H p ys∨SqT X.K H p ys)∧Q (.int ys.length) H):=by
  intro pins s σ H xs us Q I r h
  obtain ⟨p,ys,rfl,hq,q⟩:=h
  obtain ⟨u,rfl,rx⟩:=vals1 r
  cases rx
  have hn:=gT
  rcases hq with hq | hq
  · obtain ⟨its,r',pl,hz⟩:=I.list hq
    have hlen:=r'.length
    exact Calls.call_len_list pl.isList (by simp only[List.size_toArray]<;>omega) ⟨.int ys.length,H,I.tok _,⟨s.toks+1,by rw[List.size_toArray,hlen]⟩,q⟩
  · obtain ⟨its,r',pl,hz⟩:=I.tuple hq
    have hlen:=r'.length
    exact len_tuple pl (by simp only[List.size_toArray]<;>omega) ⟨.int ys.length,H,I.tok _,⟨s.toks+1,by rw[List.size_toArray,hlen]⟩,q⟩
theorem kE:bC X (.builtin "len") (fun xs H Q=>∃ z,xs=[.str z]∧z.length≤sizeLine∧Q (.int z.length) H):=by
  intro pins s σ H xs us Q I r h
  obtain ⟨z,rfl,hz,q⟩:=h
  obtain ⟨u,rfl,t,rfl⟩:=vals1 r
  have hn:=gT
  exact len_str (by omega) ⟨.int z.length,H,I.tok _,⟨_,rfl⟩,q⟩
theorem bC.or {f:Value}{r r':List V→Hp→VK→Prop}(h:bC X f r)(h':bC X f r'):bC X f (fun xs H Q=>r xs H Q∨r' xs H Q):=by
  intro pins s σ H xs us Q I rs q
  rcases q with q | q
  · exact h pins s σ H xs us Q I rs q
  · exact h' pins s σ H xs us Q I rs q
theorem kU:bC X (.type "list") (fun xs H Q=>∃ p ys,xs=[.ref p]∧(SqL X.K H p ys∨SqT X.K H p ys)∧∀ l,H l=none→Q (.ref l) (upd H l (.lst ys))):=by
  intro pins s σ H xs us Q I r h
  obtain ⟨p,ys,rfl,hq,q⟩:=h
  obtain ⟨u,rfl,rx⟩:=vals1 r
  cases rx
  have fin:∀ (its:List Value),Vals ys its→ys.length≤sizeLine→∀ (h':Heap) (c':Nat),(∀ b o',s.heap.get? b=some o'→h'.get? b=some o')→
      h'.get? s.heap.objs.size=some { cls:=.type "list", dict:=none,data:=.seq its.toArray c',slots:=#[] }→EP X pins σ Q (.ref s.heap.objs.size) { s with heap:=h' }:=fun its r' hz h' c' kp e=>
    ⟨.ref s.heap.objs.size,_,I.laid (t':=s.toks) kp (Nat.le_refl _) (show cS X.prog X.w _ h' _ (.lst ys) from ⟨hz,its,c',r',e⟩),rfl,q _ (I.hok.fresh (Nat.le_refl _))⟩
  rcases hq with hq | hq
  · obtain ⟨its,r',pl,hz⟩:=I.list hq
    have hlen:=r'.length
    obtain ⟨o,ho,hc,n,hd⟩:=pl.isList
    exact call_list_seq p (.inl rfl) ho hc hd (fun h' c' kp e=>fin its r' hz h' c' kp e) (by simp only[List.size_toArray]<;>omega)
  · obtain ⟨its,r',pl,hz⟩:=I.tuple hq
    have hlen:=r'.length
    obtain ⟨o,ho,hc,n,hd⟩:=pl
    exact call_list_seq p (.inr rfl) ho hc hd (fun h' c' kp e=>fin its r' hz h' c' kp e) (by simp only[List.size_toArray]<;>omega)
theorem jE:bC X (.type "tuple") (fun xs H Q=>∃ p ys,xs=[.ref p]∧((SqL X.K H p ys∧∀ l,H l=none→Q (.ref l) (upd H l (.tup ys)))∨(SqT X.K H p ys∧Q (.ref p) H))):=by
  intro pins s σ H xs us Q I r h
  obtain ⟨p,ys,rfl,h⟩:=h
  obtain ⟨u,rfl,rx⟩:=vals1 r
  cases rx
  rcases h with ⟨hq,q⟩ | ⟨hq,q⟩
  · obtain ⟨its,r',pl,hz⟩:=I.list hq
    have hlen:=r'.length
    refine call_tuple_list pl.isList (fun h' kp=>?_) (by simp only[List.size_toArray]<;>omega)
    have I1:Inv X pins σ H { s with heap:=h' }:=I.kept (t':=s.toks) kp
    have I2:Inv X pins σ (upd H h'.objs.size (.tup ys)) { s with heap:=h'.push { cls:=.type "tuple", data:=.seq its.toArray } }:=
      I1.laid (t':=s.toks) (fun b o e=>Heap.get?_push_of_some _ e) (Nat.le_refl _) (show cS X.prog X.w _ _ _ (.tup ys) from ⟨hz,its,r',nH.new _ _⟩)
    exact ⟨.ref h'.objs.size,_,I2,rfl,q _ (I1.hok.fresh (Nat.le_refl _))⟩
  · obtain ⟨its,r',pl,hz⟩:=I.tuple hq
    exact call_tuple_same pl ⟨.ref p,H,I,rfl,q⟩
variable {o e:Expr} {es:List Expr} {to:TE} {t:TA} {name:Str} {apos cpos:Pos} {T id:String} {r:V→List V→Hp→VK→Prop}
end
end L2
namespace L2
open PySem PySem.Spec PyProof.Rows
theorem Vals.one:∀ {x:V} {us:List Value},Vals [x] us→∃ u,us=[u]∧RelV x u
  | _,_,.cons r .nil=>⟨_,rfl,r⟩
theorem Vals.zero:∀ {us:List Value},Vals [] us→us=[]
  | _,.nil=>rfl
theorem Vals.reverse {xs:List V}{us:List Value}(h:Vals xs us):Vals xs.reverse us.reverse:=by
  induction h with
  | nil=>exact .nil
  | cons r t ih=>rw[List.reverse_cons,List.reverse_cons];exact Vals.append ih (.cons r .nil)
theorem Vals.rep {xs:List V}{us:List Value}(h:Vals xs us):∀ k:Nat,Vals (List.replicate k xs).flatten (List.replicate k us).flatten
  | 0=>.nil
  | k+1=>by
    rw[List.replicate_succ,List.replicate_succ,List.flatten_cons,List.flatten_cons]
    exact Vals.append h (Vals.rep h k)
section
variable {X:Cx} {pins:List (Addr×Obj)} {σ:St} {H:Hp} {s:Shared} {l b:Addr} {xs ys zs:List V}
theorem Inv.yY {its:List Value}{t':Nat}(I:Inv X pins σ H s)(hv:Vals ys its)(hz:ys.length≤sizeLine) :
    Inv X pins σ (upd H s.heap.objs.size (.lst ys)) { s with heap:=s.heap.push { cls:=.type "list", data:=.seq its.toArray },toks:=t' }:=
  I.laid (fun _ _ q=>Heap.get?_push_of_some _ q) (Nat.le_refl _) ⟨hz,its,0,hv,Heap.get?_push_size _ rfl⟩
theorem Inv.fresh (I:Inv X pins σ H s):H s.heap.objs.size=none:=I.hok.fresh (Nat.le_refl _)
end
section
variable {X:Cx}
end
section
variable {prog:Program} {w:World} {A:Around} {E:Value→Shared→Prop} {s:Shared}
end
section
variable {X:Cx}
end
end L2
namespace Att
open PySem PySem.W PySem.Calls PyProof.Rows
theorem il {P:Params}{h:Heap}:∀ (ns:List Int) (vs:List Value),WellAll P h vs (ns.map WData.int)→IntsAre vs ns:=by
  intro ns
  induction ns with
  | nil=>
    intro vs w
    rw[List.map_nil] at w
    cases w
    exact .nil
  | cons n ns ih=>
    intro vs w
    rw[List.map_cons] at w
    cases w with
    | cons a b=>
      cases a
      exact .cons _ _ (ih _ b)
theorem o4 {l:OpenLaw}{n:Nat}(hn:l.most=some n){P:Params}{h:Heap}{args:List WData}{vals:List Value}
    (hpre:l.row.toRowW.claim.pre args=true) (hwl:WellAll P h vals args) :
    ∃ a vs ns,vals=[Value.ref a]∧args=[WData.list (ns.map WData.int)]∧h.get? a=some { cls:=.type "list", data:=.seq vs.toArray }∧IntsAre vs ns∧ns.length≤n:=by
  have hsh:WShape.hasAll [] args [.list .int]=true:=(pre_splitW hpre).1
  have hc:l.pre.holds [] { args:=args }=true:=(pre_splitW hpre).2
  obtain ⟨d,r,rfl,h1,h2⟩:=hasAllW_cons hsh
  obtain rfl:=hasAllW_nil h2
  obtain ⟨xs,rfl,h3⟩:=hasW_list h1
  obtain ⟨ns,rfl⟩:=items_int h3
  have hlen:ns.length≤n:=by
    unfold OpenLaw.pre at hc
    have h4:(WTm.not (.lt (.lit (.int (n:Int))) (.len (.arg 0)))).holds [] { args:=[.list (ns.map .int)] }=true:=by
      have h4:=(holds_andW hc).1
      rw[hn] at h4
      exact h4
    have h5:=condW_of h4 (w_not (w_lt w_lit (w_len_list (w_arg rfl))))
    rw[List.length_map] at h5
    refine Nat.le_of_not_lt fun q=>?_
    have q':(n:Int) < ((ns.length:Nat):Int):=by omega
    first
      | (rw[decide_eq_true q'] at h5;exact absurd h5 (by decide))
      | (simp at h5;omega)
  cases hwl with
  | cons w1 w2=>
    cases w2
    cases w1 with
    | list ho hall=>exact ⟨_,_,ns,rfl,rfl,ho,il ns _ hall,hlen⟩
theorem pw (l:OpenLaw)(args:List WData):l.row.toRowW.claim.post args (.bool true) args=true:=
  postW_of (r:=l.row.toRowW) (X:=(true == true))
    (show WShape.has [] (.bool true) .bool=true by first | rfl | decide | simp[WShape.has,WShape.arms,WShape.armsAll])
    (show (WTm.eq .res (.lit (.bool true))).value [] { args:=args,res:=some (.bool true),after:=args }=some (.bool (true == true)) from w_eq_bool (w_res rfl) w_lit) rfl
theorem lM {l:OpenLaw}{n:Nat}{q:Program}{loose:List Str}{XP:(Str→Option Value)→Heap→Prop}{YP:World→Heap→Prop}{d:DefRec}
    (hn:l.most=some n) (hdf:d.params.defaults=[])
    (call:∀ (w:World) (s₀ s₁:Shared) (mg mb:Str→Option Value) (fa:Addr) (o:Obj) (pm cd doc:Value) (a:Addr) (vs:List Value) (ns:List Int),
      Ground q loose [] XP w s₀ mg mb s₁.heap→YP w s₁.heap→
      s₁.heap.get? fa=some o→o.data=.func (docDef d.name d.params d.body d.scope pm cd doc)→s₁.heap.CodeRec cd d.name→mg d.name=some (.ref fa)→
      s₁.heap.get? a=some { cls:=.type "list", data:=.seq vs.toArray }→IntsAre vs ns→ns.length≤n→s₁.gens = #[]→
      codeAny (model l.prog w) callerA (.call (.ref fa) ⟨[.ref a],[]⟩) (fun r s'=>r=.ok (.ret (.bool true))∧OldK s₁.heap s'.heap∧s'.os=s₁.os∧AllBare s'.gens) s₁) :
    WalkO q loose XP YP l.row.toRowW d [] (fun f vs=>PySem.call f vs):=by
  intro w s₀ s₁ mg mb G Y fa o pm cd doc dV kV ho hd hcd hD hmg hg args vals as hpre hlay hrd hwl hlo
  obtain rfl:dV=.none:=Dflts.none hD hdf
  obtain rfl:kV=.none:=Dflts.noKw hD
  obtain ⟨a,vs,ns,rfl,rfl,hobj,hints,hlen⟩:=o4 hn hpre hwl
  refine enter_call (codeAny_mono (call w s₀ s₁ mg mb fa o pm cd doc a vs ns G Y ho (fd_plain hd) hcd hmg hobj hints hlen hg) fun r s' hq=>?_)
  obtain ⟨rfl,h2,h3,h4⟩:=hq
  exact ⟨.inl ⟨.bool true,.bool true,[],rfl,fun _=>rfl,.bool true,pw l _,fun _=>⟨List.Pairwise.nil,fun _ hm=>(nomatch hm)⟩⟩,h2,h3,h4⟩
section
variable {prog:Program} {w:World} {A:Around} {E:Value→Shared→Prop} {s:Shared} {K:Frag}
end
end Att
namespace L2
open PySem PySem.Spec PyProof.Rows
theorem kf:∀ {vs:List Value} {ns:List Int},IntsAre vs ns→Vals (ns.map V.int) vs
  | _,_,.nil=>.nil
  | _,_,.cons n t h=>.cons ⟨t,rfl⟩ (kf h)
def uc (H:Hp):Prop:=∀ b,H b=none∨∃ o xs,H b=some (.frz o (.lst xs))
theorem rW {P:Program}{w:World}{K:PySem.W.Frag}{mg mb:Str→Option Value}{CX:CXT}{k:Nat}{fa a:Addr}{fd:FuncData}{x:Str}{sp:Sp}{s₁:Shared}{vs:List Value}{ns:List Int}
    (KX:K.In s₁.heap) (hns:s₁.heap.Ns mainGlobals mg) (hb:s₁.heap.Ns builtinsNs mb) (hbb:∀ x:Str,x ≠ "__name__" → mb x=bootBuiltins x) (hlim:s₁.heap.NoLimit) (hg:s₁.gens = #[])
    (ha:s₁.heap.get? a=some { cls:=.type "list", data:=.seq vs.toArray }) (hi:IntsAre vs ns) (hl:ns.length≤sizeLine) (hr:cx k callerA)
    (F:∀ base:Heap,K.In base→base.Ns mainGlobals mg→fN P w K mg base CX k fa fd [x] sp) (hbind:∀ (s:Shared) (u:Value),BindsTo s fd ⟨[u],[]⟩ [(x,u)])
    (hsp:∀ H:Hp,uc H→SqL K H a (ns.map V.int)→sp [.ref a] H (fun v _=>v=.bl true) fun _ _ _=>False)
    (hCX:∀ H e s',CX [] H s₁ (fun _ _ _=>False) e s'→False) :
    codeAny (model P w) callerA (.call (.ref fa) ⟨[.ref a],[]⟩) (fun r s'=>r=.ok (.ret (.bool true))∧OldK s₁.heap s'.heap∧s'.os=s₁.os∧AllBare s'.gens) s₁:=by
  have rv:=kf hi
  have zk:=hi.length
  -- from an abstract heap in which nothing but the script may be tracked
  have core:∀ H:Hp,uc H→SqL K H a (ns.map V.int)→HOk P w H s₁.heap→(∀ b,H b≠none→b=a)→(H a≠none→K.lookup a=none)→
      codeAny (model P w) callerA (.call (.ref fa) ⟨[.ref a],[]⟩) (fun r s'=>r=.ok (.ret (.bool true))∧OldK s₁.heap s'.heap∧s'.os=s₁.os∧AllBare s'.gens) s₁:=by
    intro H hO hS hok hA hK
    have base_of:∀ {b:Addr} {o:Obj},s₁.heap.get? b=some o→H b=none→(kG s₁.heap H).get? b=some o:=fun e n=>qy e n
    have noA:∀ {b:Addr} {o:Obj} {es:Array DictEntry} {ep:Nat},s₁.heap.get? b=some o→o.data=.dict es ep→H b=none:=fun {b o es ep} e d=>by
      cases q:H b with
      | none=>rfl
      | some u=>
        have e':b=a:=hA b (by rw[q];simp)
        subst e'
        rw[ha] at e;cases e
        have d':Data.seq vs.toArray _=Data.dict es ep:=d
        cases d'
    have nsK:∀ {b:Addr} {m:Str→Option Value},s₁.heap.Ns b m→(kG s₁.heap H).Ns b m:=fun {b m} ⟨o,es,ep,e,d,r⟩=>⟨o,es,ep,base_of e (noA e d),d,r⟩
    have hKb:K.In (kG s₁.heap H):=fun b o e=>base_of (KX b o e) (by
      cases q:H b with
      | none=>rfl
      | some u=>
        have e':b=a:=hA b (by rw[q];simp)
        subst e'
        rw[hK (by rw[q];simp)] at e;cases e)
    have hM:Mod K mg (kG s₁.heap H):=⟨hKb,nsK hns,⟨mb,nsK hb,hbb⟩,let ⟨mc,h1,h2⟩:=hlim;⟨mc,nsK h1,h2⟩⟩
    have e0:mU P w K mg (kG s₁.heap H) callerA [] s₁ H:=⟨rfl,hM,fun b o e=>tf e,Nat.le_of_eq (pK _ _),trivial,fun b hb=>absurd (show b∈([]:List Addr) from hb) (by simp),hok,.of_eq hg⟩
    refine codeAny_mono ((F _ hKb (nsK hns)).run callerA [] s₁ H ⟨[.ref a],[]⟩ [.ref a] [.ref a] _ _ hr e0 (hbind s₁ (.ref a)) (.cons rfl .nil) (hsp H hO hS)) fun r s' h=>?_
    cases r with
    | error e=>exact (hCX H e s' h).elim
    | ok fl=>
      cases fl with
      | next=>exact False.elim h
      | brk=>exact False.elim h
      | cont=>exact False.elim h
      | ret u=>
        obtain ⟨v,H',os,bare,un,hok',r',q⟩:=h
        have q':v=.bl true:=q
        subst q'
        obtain rfl:u=Value.bool true:=r'
        refine ⟨rfl,OldK.of_keep fun b o e=>?_,os,bare⟩
        cases q:H b with
        | none=>exact un.keep b o e q (by intro z;exact absurd (show b∈([]:List Addr) from z) (by simp)) (by simp)
        | some u=>
          rcases hO b with z | ⟨ob,xs,z⟩
          · rw[q] at z;cases z
          · have z2:=un.gX b ob _ z
            obtain ⟨e1,_⟩:=hok b _ z
            obtain ⟨e2,_⟩:=hok' b _ z2
            rw[e] at e1;cases e1
            exact e2
  cases hk:K.lookup a with
  | some o=>
    -- the script is one of the module's own objects
    have e:=KX a o hk
    rw[ha] at e
    cases e
    refine core (fun _=>none) (fun _=>.inl rfl) (.inr ⟨_,vs.toArray,_,hk,rfl,rfl,rfl,by rw[List.size_toArray,zk];exact hl,by simpa using rv⟩) (fun b u z=>by have z':(none:Option HO)=some u:=z;cases z') (fun b z=>absurd rfl z) fun z=>absurd rfl z
  | none=>
    refine core (fun b=>if b=a then some (.frz { cls:=.type "list", data:=.seq vs.toArray } (.lst (ns.map V.int))) else none) (fun b=>?_) (.inl (.inr ⟨{ cls:=.type "list", data:=.seq vs.toArray },if_pos rfl⟩)) (fun b u z=>?_) (fun b z=>?_) fun _=>hk
    · by_cases hb:b=a
      · exact .inr ⟨_,_,if_pos hb⟩
      · exact .inl (if_neg hb)
    · by_cases hb:b=a
      · have z':=(if_pos hb).symm.trans z
        cases z'
        subst hb
        exact ⟨ha,by rw[List.length_map];exact hl,vs,_,rv,ha⟩
      · have z':=(if_neg hb).symm.trans z
        cases z'
    · by_cases hb:b=a
      · exact hb
      · exact absurd (if_neg hb) z
end L2
namespace L2
open PySem PySem.Spec PyProof.Rows
theorem sW {l:PySem.W.OpenLaw}{n k:Nat}{q:Program}{loose:List Str}{XP:(Str→Option Value)→Heap→Prop}{YP:World→Heap→Prop}{d:DefRec}{K:Params→PySem.W.Frag}{CX:World→CXT}{sp:World→Sp}{x:Str}
    (hn:l.most=some n) (hn2:n≤sizeLine) (hdf:d.params.defaults=[]) (hr:cx k callerA)
    (hY:∀ (w:World) (h:Heap),YP w h→(K w.params).In h)
    (F:∀ (w:World) (mg:Str→Option Value) (fa:Addr) (h:Heap),(K w.params).In h→h.Ns mainGlobals mg→mg d.name=some (.ref fa)→
      ∃ fd:FuncData,(∀ (s:Shared) (u:Value),BindsTo s fd ⟨[u],[]⟩ [(x,u)])∧
        ∀ base:Heap,(K w.params).In base→base.Ns mainGlobals mg→fN l.prog w (K w.params) mg base (CX w) k fa fd [x] (sp w))
    (hsp:∀ (w:World) (H:Hp) (a:Addr) (ns:List Int),ns.length≤n→uc H→SqL (K w.params) H a (ns.map V.int)→sp w [.ref a] H (fun v _=>v=.bl true) fun _ _ _=>False)
    (hCX:∀ (w:World) (H:Hp) (s:Shared) (e:Value) (s':Shared),CX w [] H s (fun _ _ _=>False) e s'→False) :
    PySem.W.WalkO q loose XP YP l.row.toRowW d [] (fun f vs=>PySem.call f vs):=by
  refine Att.lM hn hdf fun w s₀ s₁ mg mb fa o pm cd doc a vs ns G Y ho hd hcd hmg hobj hints hlen hg=>?_
  have KX:=hY w _ Y
  obtain ⟨fd,hb,hF⟩:=F w mg fa _ KX G.T.g hmg
  exact rW KX G.T.g G.T.b G.T.builtins G.T.nolimit hg hobj hints (Nat.le_trans hlen hn2) hr hF hb (fun H hO hS=>hsp w H a ns hlen hO hS) fun H e s'=>hCX w H s₁ e s'
end L2
namespace L2
open PySem PySem.Spec PyProof.Rows
def gB (s:Stmt):Arguments:=match s with
  | .FunctionDef _ a _ _ _ _ _ _ _ _=>a
  | _=>{ posonlyargs:=[],args:=[],vararg:=none,kwonlyargs:=[],kw_defaults:=[],kwarg:=none,defaults:=[] }
def c6 (s:Stmt):List Stmt:=match s with
  | .FunctionDef _ _ b _ _ _ _ _ _ _=>b
  | _=>[]
def au (s:Stmt):Scope:=match s with
  | .FunctionDef _ _ _ _ _ _ sc _ _ _=>sc
  | _=>{ kind:=.function,names:=[],isGenerator:=false,isCoroutine:=false }
abbrev CX0:CXT:=fun _ _ _ _ _ _=>False
abbrev E0:XK:=fun _ _ _=>False
theorem xB {X:Cx}:Passes CX0 X E0:=fun _ _ _ _ _ _ _ h=>h.elim
structure Fun (K:PySem.W.Frag) (x qual:Str) (st:Stmt) (f:Addr) (fd:FuncData):Prop where
  ex:∃ (oc:Value) (od:Option Addr) (kV doc pm:Value) (an:Option Addr) (cdv ct:Value) (osl:Array (Option Value)),
    fd=PySem.W.fnOf x qual (gB st) (c6 st) (au st) .none kV doc pm an cdv ct∧K.lookup f=some ⟨oc,od,.func fd,osl⟩∧PySem.W.codeIn K cdv qual=true
  kp:PySem.W.keepIn K (.ref f)=true
section
variable {P:Program} {w:World} {K:PySem.W.Frag} {mg:Str→Option Value} {base:Heap}
theorem Fun.ok {x qual:Str}{st:Stmt}{f:Addr}{fd:FuncData}{N ps:List Str}{k:Nat}{sp:Sp}(F:Fun K x qual st f fd)(S:aE N ps (au st))(len:∀ vs H Q E,sp vs H Q E→vs.length=ps.length)
    (hbody:∀ (cdv:Value) (A:Around) (outer:List Env) (s:Shared) (H:Hp) (vs:List V) (Q:VK) (E:XK),cx k (A.deeper (envOfC qual (au st) s.heap.objs.size f cdv))→sp vs H Q E→
      ∃ t,PSs (mh CX0 P w K mg base N qual (au st) f cdv A outer s H E).nox (c6 st) t∧t { nx:=fun _ H'=>Q .non H',rt:=Q } (start N vs) H):fN P w K mg base CX0 (k+1) f fd ps sp:=by
  obtain ⟨oc,od,kV,doc,pm,an,cdv,ct,osl,rfl,lk,hcd⟩:=F.ex
  refine yP lk hcd S len fun A outer s H vs Q E hr hsp=>?_
  obtain ⟨t,h,q⟩:=hbody cdv A outer s H vs Q E hr hsp
  exact ⟨t,h.nox,q⟩
theorem Fun.binds {x qual:Str}{st:Stmt}{f:Addr}{fd:FuncData}{ps:List Str}(F:Fun K x qual st f fd)
    (h:∀ (kV doc pm:Value) (an:Option Addr) (cdv ct:Value) (us:List Value),us.length=ps.length→bindArgs (PySem.W.fnOf x qual (gB st) (c6 st) (au st) .none kV doc pm an cdv ct) ⟨us,[]⟩=pure (ps.zip us)):Binds K fd ps []:=by
  obtain ⟨oc,od,kV,doc,pm,an,cdv,ct,osl,rfl,lk,hcd⟩:=F.ex
  exact .all (h kV doc pm an cdv ct)
theorem aQ {x qual:Str}{st:Stmt}{f:Addr}{oc:Value}{od an:Option Addr}{osl:Array (Option Value)}{kV doc pm cdv ct:Value}(l:K.lookup f=some ⟨oc,od,.func (PySem.W.fnOf x qual (gB st) (c6 st) (au st) .none kV doc pm an cdv ct),osl⟩)
    (c:PySem.W.codeIn K cdv qual=true) (k:PySem.W.keepIn K (.ref f)=true):Fun K x qual st f (PySem.W.fnOf x qual (gB st) (c6 st) (au st) .none kV doc pm an cdv ct):=⟨⟨oc,od,kV,doc,pm,an,cdv,ct,osl,rfl,l,c⟩,k⟩
end
section
variable {X:Cx}
theorem pv (i:Nat){x:Str}{pos:Pos}(hN:X.N[i]? = some x:=by rfl)(hv:Vis X.env.scope x:=by first | exact Or.inl rfl | exact Or.inr (Or.inl rfl) | exact Or.inr (Or.inr rfl))(hd:(x == ("__debug__" : Str))=false:=by decide)
    (hcd:(x == ("__classdict__" : Str))=false:=by decide):PE X (.Name x pos) (xK i):=qm hN hv hd hcd
end
theorem jY {A B:Prop}(h:B):if false=true then A else B:=by
  rw[if_neg Bool.false_ne_true]
  exact h
theorem j3 {A B:Prop}(h:A):if true=true then A else B:=by
  rw[if_pos rfl]
  exact h
def jS (H H':Hp):Prop:=∀ b o,H b=some o→H' b=some o
theorem jS.refl (H:Hp):jS H H:=fun _ _ h=>h
theorem jS.trans {H H1 H2:Hp}(a:jS H H1)(b:jS H1 H2):jS H H2:=fun c o h=>b c o (a c o h)
theorem jS.free {H H':Hp}(e:jS H H'){l:Addr}(h:H' l=Option.none):H l=Option.none:=by
  cases q:H l with
  | none=>rfl
  | some o=>
    rw[e l o q] at h
    cases h
theorem jS.seq {K:PySem.W.Frag}{H H':Hp}{a:Addr}{xs:List V}(e:jS H H')(h:SqL K H a xs):SqL K H' a xs:=by
  rcases h with (h | ⟨o,h⟩) | h
  · exact .inl (.inl (e _ _ h))
  · exact .inl (.inr ⟨o,e _ _ h⟩)
  · exact .inr h
end L2
namespace L2
open PySem PySem.Spec PyProof.Rows
section
variable {κ:Type} [DecidableEq κ]
def jf (kvs:List (κ×V))(k:κ):Option V:=(kvs.find? fun kv=>decide (kv.1=k)).map (·.2)
def putK (kvs:List (κ×V))(k:κ)(v:V):List (κ×V):=
  if (kvs.any fun kv=>decide (kv.1=k))=true then kvs.map (fun kv=>if kv.1=k then (kv.1,v) else kv) else kvs++[(k,v)]
def u7 (kvs:List (κ×V))(k:κ):List (κ×V):=kvs.filter fun kv=>decide (kv.1≠k)
theorem mP {p:κ×V}{r:List (κ×V)}{k:κ}(e:p.1=k):jf (p::r) k=some p.2:=by simp[jf,List.find?_cons,e]
theorem my {p:κ×V}{r:List (κ×V)}{k:κ}(e:¬ p.1=k):jf (p::r) k=jf r k:=by simp[jf,List.find?_cons,e]
theorem pS.getD {o:Option V}{u:Option Value}{d:V}{d':Value}(r:pS o u)(rd:RelV d d'):RelV (o.getD d) (u.getD d'):=by
  cases o with
  | none=>cases u with
    | none=>exact rd
    | some _=>exact (show False from r).elim
  | some _=>cases u with
    | none=>exact (show False from r).elim
    | some _=>exact r
theorem KV.val {kvs:List (κ×V)}{vs:List (κ×Value)}(r:KV kvs vs)(k:κ):pS (jf kvs k) (valueAt vs k):=by
  unfold KV at r
  induction r with
  | nil=>exact True.intro
  | @cons p q ps qs h t ih=>
    obtain ⟨h1,h2⟩:=h
    by_cases e:p.1=k
    · have e':q.1=k:=h1.symm.trans e
      have b:valueAt (q::qs) k=some q.2:=by simp[valueAt,List.find?_cons,e']
      rw[mP e,b];exact h2
    · have e':¬ q.1=k:=fun z=>e (h1.trans z)
      have b:valueAt (q::qs) k=valueAt qs k:=by simp[valueAt,List.find?_cons,e']
      rw[my e,b];exact ih
theorem KV.any {kvs:List (κ×V)}{vs:List (κ×Value)}(r:KV kvs vs)(k:κ):(kvs.any fun kv=>decide (kv.1=k))=vs.any fun kv=>decide (kv.1=k):=by
  unfold KV at r
  induction r with
  | nil=>rfl
  | cons h t ih=>rw[List.any_cons,List.any_cons,ih,h.1]
theorem KV.drop {kvs:List (κ×V)}{vs:List (κ×Value)}(r:KV kvs vs)(k:κ):KV (u7 kvs k) (without vs k):=by
  unfold KV at r ⊢
  unfold u7 without
  induction r with
  | nil=>exact .nil
  | @cons p q ps qs h t ih=>
    obtain ⟨h1,h2⟩:=h
    rw[List.filter_cons,List.filter_cons]
    by_cases e:p.1=k
    · have a:¬ decide (p.1≠k)=true:=by simp[e]
      have b:¬ decide (q.1≠k)=true:=by simp[h1.symm.trans e]
      rw[if_neg a,if_neg b];exact ih
    · have e':¬ q.1=k:=fun z=>e (h1.trans z)
      have a:decide (p.1≠k)=true:=by simp[e]
      have b:decide (q.1≠k)=true:=by simp[e']
      rw[if_pos a,if_pos b];exact .cons ⟨h1,h2⟩ ih
theorem KV.length {kvs:List (κ×V)}{vs:List (κ×Value)}(r:KV kvs vs):kvs.length=vs.length:=Paired.length r
end
theorem xw {P:Program}{w:World}{k:Key}{u:Value}(r:RelV (kV k) u):(fc P w).is k u=true:=by
  cases k with
  | inl i=>obtain ⟨t,e⟩:=(show ∃ t,u=Value.int i t from r);subst e;exact lZ P w i t
  | inr x=>obtain ⟨t,e⟩:=(show ∃ t,u=Value.str x t from r);subst e;exact lX P w x t
abbrev KT (H:Hp):List (List Key×V)→List (List Key×Addr×Value)→Prop:=Paired fun p q=>p.1=q.1∧H q.2.1=some (.tup (p.1.map kV))∧RelV p.2 q.2.2
theorem KT.val {H:Hp}{kvs:List (List Key×V)}{xs:List (List Key×Addr×Value)}(r:KT H kvs xs)(k:List Key):pS (jf kvs k) ((atKey xs k).map (·.2)):=by
  induction r with
  | nil=>exact True.intro
  | @cons p q ps qs h t ih=>
    obtain ⟨h1,_,h2⟩:=h
    by_cases e:p.1=k
    · have e':q.1=k:=h1.symm.trans e
      have b:atKey (q::qs) k=some q.2:=by simp[atKey,List.find?_cons,e']
      rw[mP e,b];exact h2
    · have e':¬ q.1=k:=fun z=>e (h1.trans z)
      have b:atKey (q::qs) k=atKey qs k:=by simp[atKey,List.find?_cons,e']
      rw[my e,b];exact ih
theorem KT.keeps {H H':Hp}{kvs:List (List Key×V)}{xs:List (List Key×Addr×Value)}(r:KT H kvs xs)(ht:∀ b ys,H b=some (.tup ys)→H' b=some (.tup ys)):KT H' kvs xs:=
  Paired.wD r fun _ _ z=>⟨z.1,ht _ _ z.2.1,z.2.2⟩
section
variable {P:Program} {w:World} {H:Hp} {h:Heap} {a:Addr}
end
def uq (H:Hp)(a:Addr)(y:V)(r:Option V):Prop:=
  (∃ kvs k,Rd H a (.dK kvs)∧y=kV k∧r=jf kvs k)∨∃ kvs k b,Rd H a (.dT kvs)∧y=.ref b∧H b=some (.tup (k.map kV))∧r=jf kvs k
def uB (H:Hp)(a:Addr)(y v:V)(H':Hp):Prop:=
  (∃ kvs k,H a=some (.dK kvs)∧y=kV k∧kvs.length < sizeLine∧H'=upd H a (.dK (putK kvs k v)))∨
  ∃ kvs k b,H a=some (.dT kvs)∧y=.ref b∧H b=some (.tup (k.map kV))∧kvs.length < sizeLine∧H'=upd H a (.dT (putK kvs k v))
theorem uq.k {H:Hp}{a:Addr}{kvs:List (Key×V)}{k:Key}(e:H a=some (.dK kvs)):uq H a (kV k) (jf kvs k):=.inl ⟨kvs,k,.inl e,rfl,rfl⟩
theorem uq.t {H:Hp}{a b:Addr}{kvs:List (List Key×V)}{k:List Key}(e:H a=some (.dT kvs))(eb:H b=some (.tup (k.map kV))):uq H a (.ref b) (jf kvs k):=.inr ⟨kvs,k,b,.inl e,rfl,eb,rfl⟩
theorem uB.k {H:Hp}{a:Addr}{kvs:List (Key×V)}{k:Key}{v:V}(e:H a=some (.dK kvs))(hl:kvs.length < sizeLine):uB H a (kV k) v (upd H a (.dK (putK kvs k v))):=.inl ⟨kvs,k,e,rfl,hl,rfl⟩
theorem uB.t {H:Hp}{a b:Addr}{kvs:List (List Key×V)}{k:List Key}{v:V}(e:H a=some (.dT kvs))(eb:H b=some (.tup (k.map kV)))(hl:kvs.length < sizeLine) :
    uB H a (.ref b) v (upd H a (.dT (putK kvs k v))):=.inr ⟨kvs,k,b,e,rfl,eb,hl,rfl⟩
section
variable {X:Cx} {pins:List (Addr×Obj)} {σ:St} {H:Hp} {s:Shared} {a:Addr} {y v:V} {u r:Value} {o:Option V} {A:Around} {E:Value→Shared→Prop}
theorem Inv.big (I:Inv X pins σ H s):sysModules < s.heap.objs.size:=by
  have h:mainGlobals < s.heap.objs.size:=(I.mod.glob.keeps I.bk).lt
  exact Nat.lt_trans (by decide) h
end
section
variable {X:Cx} {pins:List (Addr×Obj)} {σ:St} {H:Hp} {s:Shared} {a:Addr} {kvs:List (Key×V)} {k:Key} {u:Value} {A:Around} {E:Value→Shared→Prop}
end
section
variable {X:Cx} {o i e value:Expr} {pos pos' tpos:Pos} {td ty tv:TE}
end
section
variable {X:Cx} {pos:Pos}
end
section
variable {X:Cx} {pins:List (Addr×Obj)} {σ:St} {H:Hp} {s:Shared} {a:Addr} {y d:V} {u r:Value} {o:Option V} {A:Around} {E:Value→Shared→Prop}
end
section
variable {X:Cx} {o e f:Expr} {apos cpos:Pos} {td ty tx:TE}
end
section
variable {X:Cx} {pins:List (Addr×Obj)} {σ:St} {H:Hp} {s:Shared} {a:Addr} {kvs:List (Key×V)} {A:Around} {E:Value→Shared→Prop}
end
section
variable {X:Cx} {pins:List (Addr×Obj)} {σ:St} {H:Hp} {s:Shared} {a:Addr} {y:V} {u:Value} {A:Around} {E:Value→Shared→Prop}
end
end L2
namespace L3
open PySem
local macro_rules | `(tactic| walk_at "ln")=>`(tactic| (intro ds μ Q h;split at h;rfl;exact h.elim))
theorem Jn {p q:Prop}(a:p)(b:q):p∧q:=⟨a,b⟩
inductive D where
  | non | bl (b:Bool) | int (i:Int) | str (x:Str) | ty (n:String) | tup (ds:List D) | ls (ds:List D) | obj (a:Addr)
inductive MO where
  | lst (ds:List D)
  | dct (kvs:List (L2.Key×D))
abbrev Mu:=Addr→Option MO
def up (μ:Mu)(a:Addr)(o:MO):Mu:=fun b=>if b=a then some o else μ b
theorem bS {μ:Mu}{a:Addr}{o:MO}:up μ a o a=some o:=by unfold up;rw[if_pos rfl]
theorem dZ {μ:Mu}{a b:Addr}{o:MO}(h:b≠a):up μ a o b=μ b:=by unfold up;rw[if_neg h]
theorem oP {μ:Mu}{a:Addr}{o u:MO}:up (up μ a o) a u=up μ a u:=by
  funext b;unfold up;split<;>rfl
abbrev ST:=List (Option D)
abbrev DK:=D→Mu→Prop
abbrev ETr:=ST→Mu→DK→Prop
abbrev TTr:=ST→Mu→(Bool→Mu→Prop)→Prop
abbrev ATr:=ST→Mu→(List D→Mu→Prop)→Prop
abbrev DR:=D→Mu→DK→Prop
abbrev DR2:=D→D→Mu→DK→Prop
abbrev FSp:=List D→Mu→DK→Prop
structure En where
  nx:ST→Mu→Prop
  rt:DK
  bk:ST→Mu→Prop:=fun _ _=>False
  ct:ST→Mu→Prop:=fun _ _=>False
abbrev STr:=En→ST→Mu→Prop
abbrev GTr:=D→ST→Mu→(ST→Mu→Prop)→Prop
def kIf (c:Bool)(A B:Prop):Prop:=match c with
  | true=>A
  | false=>B
def kB (x:D)(f:Bool→Prop):Prop:=match x with
  | .bl c=>f c
  | _=>False
def kI (x:D)(f:Int→Prop):Prop:=match x with
  | .int c=>f c
  | _=>False
def kO (x:Option D)(f:D→Prop):Prop:=match x with
  | some d=>f d
  | none=>False
def kS (x:D)(f:List D→Prop):Prop:=match x with
  | .tup ds=>f ds
  | .ls ds=>f ds
  | _=>False
def k2 (ds:List D)(f:D→D→Prop):Prop:=match ds with
  | [v,w]=>f v w
  | _=>False
def kL (μ:Mu)(a:Addr)(f:List D→Prop):Prop:=match μ a with
  | some (.lst ds)=>f ds
  | _=>False
def kN (x:Option Nat)(f:Nat→Prop):Prop:=match x with
  | some d=>f d
  | none=>False
def lk:ST→Nat→Option D
  | [],_=>none
  | o::_,0=>o
  | _::r,n+1=>lk r n
def ah (i:Nat):ETr:=fun ρ μ Q=>kO (lk ρ i) fun d=>Q d μ
def TC (d:D):ETr:=fun _ μ Q=>Q d μ
def aj (r:DR2)(a b:ETr):ETr:=fun ρ μ Q=>a ρ μ fun x μ1=>b ρ μ1 fun y μ2=>r x y μ2 Q
def TUn (r:DR)(a:ETr):ETr:=fun ρ μ Q=>a ρ μ fun x μ1=>r x μ1 Q
def S64 (i:Int):Prop:=-18446744073709551616 < i∧i < 18446744073709551616
def ic (i:Int):Prop:=-115792089237316195423570985008687907853269984665640564039457584007913129639936 < i∧i < 115792089237316195423570985008687907853269984665640564039457584007913129639936
def MulOk (i j:Int):Prop:=(S64 i∨S64 j)∨(ic i∧ic j)
def fx (j:Int):Prop:=j≠0∧ic j
def ki (i j:Int):Prop:=0≤j∧j≤1000000∧i.natAbs < 18446744073709551616
def fY:DR2:=fun x y μ Q=>match x,y with
  | .int i,.int j=>Q (.int (i - j)) μ
  | _,_=>False
def cm:DR2:=fun x y μ Q=>match x,y with
  | .int i,.int j=>MulOk i j∧Q (.int (i*j)) μ
  | _,_=>False
def lQ:DR2:=fun x y μ Q=>match x,y with
  | .int i,.int j=>fx j∧Q (.int (i.fdiv j)) μ
  | _,_=>False
def gq:DR2:=fun x y μ Q=>match x,y with
  | .int i,.int j=>j≠0∧Q (.int (i.fmod j)) μ
  | _,_=>False
def pQ:DR2:=fun x y μ Q=>match x,y with
  | .int i,.int j=>ki i j∧Q (.int (i ^ j.toNat)) μ
  | _,_=>False
def g7:DR:=fun x μ Q=>match x with
  | .int i=>Q (.int (-i)) μ
  | _=>False
def qt (p:Int→Int→Bool):DR2:=fun x y μ Q=>match x,y with
  | .int i,.int j=>Q (.bl (p i j)) μ
  | _,_=>False
def rLt:DR2:=qt fun i j=>decide (i < j)
def rLe:DR2:=qt fun i j=>decide (i≤j)
def rGt:DR2:=qt fun i j=>decide (j < i)
def rGe:DR2:=qt fun i j=>decide (j≤i)
mutual
def eqD:D→D→Bool
  | .non,.non=>true
  | .bl a,.bl b=>a == b
  | .int a,.int b=>decide (a=b)
  | .bl a,.int b=>decide ((if a then 1 else 0:Int)=b)
  | .int a,.bl b=>decide (a=(if b then 1 else 0:Int))
  | .str a,.str b=>decide (a=b)
  | .tup a,.tup b=>fg a b
  | .ls a,.ls b=>fg a b
  | _,_=>false
def fg:List D→List D→Bool
  | [],[]=>true
  | a::r,b::s=>eqD a b&&fg r s
  | _,_=>false
end
mutual
def okD:Nat→D→Bool
  | _,.non=>true
  | _,.bl _=>true
  | _,.int _=>true
  | _,.str x=>PyData.strOk x
  | n+1,.tup ds=>bM n ds
  | n+1,.ls ds=>bM n ds
  | _,_=>false
def bM:Nat→List D→Bool
  | _,[]=>true
  | n,d::ds=>okD n d&&bM n ds
end
def rEq:DR2:=fun x y μ Q=>(okD 40 x=true∧okD 40 y=true)∧Q (.bl (eqD x y)) μ
def rNe:DR2:=fun x y μ Q=>(okD 40 x=true∧okD 40 y=true)∧Q (.bl (!eqD x y)) μ
def rIs:DR2:=fun x y μ Q=>match y with
  | .non=>(match x with
    | .non=>Q (.bl true) μ
    | _=>Q (.bl false) μ)
  | _=>False
def nK:DR2:=fun x y μ Q=>match y with
  | .non=>(match x with
    | .non=>Q (.bl false) μ
    | _=>Q (.bl true) μ)
  | _=>False
def bV (a b:ETr):ETr:=fun ρ μ Q=>a ρ μ fun x μ1=>kB x fun c=>kIf c (b ρ μ1 Q) (Q (.bl false) μ1)
def pT (a b:ETr):ETr:=fun ρ μ Q=>a ρ μ fun x μ1=>kB x fun c=>kIf c (Q (.bl true) μ1) (b ρ μ1 Q)
def gn (a:ETr):ETr:=fun ρ μ Q=>a ρ μ fun x μ1=>kB x fun c=>Q (.bl (!c)) μ1
def TB (t:ETr):TTr:=fun ρ μ Q=>t ρ μ fun x μ1=>kB x fun c=>Q c μ1
def mf (t u:TTr):TTr:=fun ρ μ Q=>t ρ μ fun c μ1=>kIf c (u ρ μ1 Q) (Q false μ1)
def TOr (t u:TTr):TTr:=fun ρ μ Q=>t ρ μ fun c μ1=>kIf c (Q true μ1) (u ρ μ1 Q)
def cH (t:TTr):TTr:=fun ρ μ Q=>t ρ μ fun c μ1=>Q (!c) μ1
def pq (c:TTr)(a b:ETr):ETr:=fun ρ μ Q=>c ρ μ fun k μ1=>kIf k (a ρ μ1 Q) (b ρ μ1 Q)
def fJ (r r':DR2)(a b c:ETr):ETr:=fun ρ μ Q=>a ρ μ fun x μ1=>b ρ μ1 fun y μ2=>r x y μ2 fun z μ3=>kB z fun k=>kIf k (c ρ μ3 fun y' μ4=>r' y y' μ4 Q) (Q (.bl false) μ3)
def aq:ATr:=fun _ μ Q=>Q [] μ
def af (a:ETr)(r:ATr):ATr:=fun ρ μ Q=>a ρ μ fun x μ1=>r ρ μ1 fun xs μ2=>Q (x::xs) μ2
def bb (t:ATr):ETr:=fun ρ μ Q=>t ρ μ fun ds μ1=>ds.length≤1000000∧Q (.tup ds) μ1
def gW (t:ATr):ETr:=fun ρ μ Q=>t ρ μ fun ds μ1=>ds.length≤1000000∧Q (.ls ds) μ1
def qM (t:ATr):ETr:=fun ρ μ Q=>t ρ μ fun ds μ1=>ds.length≤1000000∧∀ p,μ1 p=none→Q (.obj p) (up μ1 p (.lst ds))
def ao (sp:FSp)(t:ATr):ETr:=fun ρ μ Q=>t ρ μ fun ds μ1=>sp ds μ1 Q
def atD (ds:List D)(i:Int):Option D:=L2.atI ds i
def rIx:DR2:=fun x y μ Q=>match x,y with
  | .tup ds,.int i=>kO (atD ds i) fun d=>Q d μ
  | .ls ds,.int i=>kO (atD ds i) fun d=>Q d μ
  | .obj a,.int i=>kL μ a fun ds=>kO (atD ds i) fun d=>Q d μ
  | _,_=>False
def kC:FSp:=fun ds μ Q=>match ds with
  | [.int i]=>Q (.int (if i < 0 then -i else i)) μ
  | _=>False
def mI:FSp:=fun ds μ Q=>match ds with
  | [.int i,.int j]=>Q (.int (if j > i then j else i)) μ
  | _=>False
def mO:FSp:=fun ds μ Q=>match ds with
  | [.int i,.int j]=>Q (.int (if j < i then j else i)) μ
  | _=>False
def lz:FSp:=fun ds μ Q=>match ds with
  | [.int i]=>Q (.int i) μ
  | [.bl k]=>Q (.int (if k then 1 else 0)) μ
  | _=>False
def cE:FSp:=fun ds μ Q=>match ds with
  | [.tup xs]=>Q (.int xs.length) μ
  | [.ls xs]=>Q (.int xs.length) μ
  | [.str x]=>x.length≤1000000∧Q (.int x.length) μ
  | [.obj a]=>kL μ a fun xs=>Q (.int xs.length) μ
  | _=>False
def tyD:D→Option String
  | .non=>some "NoneType"
  | .bl _=>some "bool"
  | .int _=>some "int"
  | .str _=>some "str"
  | .tup _=>some "tuple"
  | .ls _=>some "list"
  | _=>none
def cw (t c:String):Bool:=t == c || (t == "bool" && c == "int")
def cT (c:String):DR:=fun x μ Q=>match tyD x with
  | some t=>Q (.bl (cw t c)) μ
  | none=>False
def aT:STr:=fun E ρ μ=>E.nx ρ μ
def aC (t u:STr):STr:=fun E ρ μ=>t { E with nx:=u E } ρ μ
def mY:STr:=fun E ρ μ=>E.bk ρ μ
def sC:STr:=fun E ρ μ=>E.ct ρ μ
def sE (e:ETr):STr:=fun E ρ μ=>e ρ μ fun _ μ1=>E.nx ρ μ1
def aL (e:ETr):STr:=fun E ρ μ=>e ρ μ E.rt
def ql:STr:=fun E _ μ=>E.rt .non μ
def bF (c:TTr)(t u:STr):STr:=fun E ρ μ=>c ρ μ fun b μ1=>kIf b (t E ρ μ1) (u E ρ μ1)
def az (i:Nat):GTr:=fun d ρ μ k=>k (ρ.set i (some d)) μ
def aY (e:ETr)(g:GTr):STr:=fun E ρ μ=>e ρ μ fun d μ1=>g d ρ μ1 E.nx
def lB (i j:Nat)(a:ATr):STr:=fun E ρ μ=>a ρ μ fun ds μ1=>k2 ds fun v w=>E.nx ((ρ.set i (some v)).set j (some w)) μ1
def ub (x z y:D)(μ:Mu)(f:Mu→Prop):Prop:=match x,z with
  | .obj a,.int n=>kL μ a fun ds=>kN (L2.ixN ds.length n) fun j=>f (up μ a (.lst (ds.set j y)))
  | _,_=>False
def dO (o k e:ETr):STr:=fun E ρ μ=>e ρ μ fun y μ1=>o ρ μ1 fun x μ2=>k ρ μ2 fun z μ3=>ub x z y μ3 fun μ4=>E.nx ρ μ4
def lr (c:TTr)(b:STr):STr:=fun E ρ μ=>∃ (P:ST→Mu→Prop) (m:ST→Mu→Nat),P ρ μ∧∀ ρ μ,P ρ μ→
  c ρ μ fun k μ1=>kIf k (b { E with nx:=fun ρ' μ'=>P ρ' μ'∧m ρ' μ' < m ρ μ,ct:=fun ρ' μ'=>P ρ' μ'∧m ρ' μ' < m ρ μ,bk:=E.nx } ρ μ1) (E.nx ρ μ1)
def forR (g:GTr)(b:STr)(E:En):List D→ST→Mu→Prop
  | [],ρ,μ=>E.nx ρ μ
  | d::r,ρ,μ=>g d ρ μ fun ρ1 μ1=>b { E with nx:=forR g b E r,ct:=forR g b E r,bk:=E.nx } ρ1 μ1
def lS (it:ATr)(g:GTr)(b:STr):STr:=fun E ρ μ=>it ρ μ fun ds μ1=>forR g b E ds ρ μ1
def ei (lo:Int)(n:Nat):List D:=(List.range n).map fun i=>.int (lo+(i:Nat))
def c8 (a:ETr):ATr:=fun ρ μ Q=>a ρ μ fun x μ1=>kI x fun j=>(-4611686018427387904≤j∧j < 4611686018427387904)∧Q (ei 0 j.toNat) μ1
def wG (a:ETr):ATr:=fun ρ μ Q=>a ρ μ fun x μ1=>kS x fun ds=>Q ds μ1
def dn (μ:Mu)(a:Addr):Mu:=fun b=>if b=a then none else μ b
def tO (ρ:ST)(n:Nat)(caps:List Nat):ST:=List.replicate n none++caps.map (lk ρ)
def l9 (p:Addr)(G:GTr)(tt:TTr)(te:ETr)(ρc:ST)(K:Mu→Prop):List D→Mu→Prop
  | [],μ=>K μ
  | d::r,μ=>G d ρc μ fun ρ1 μ1=>tt ρ1 μ1 fun b μ2=>kIf b (te ρ1 μ2 fun y μ3=>kL μ3 p fun zs=>zs.length < 1000000∧l9 p G tt te ρc K r (up μ3 p (.lst (zs++[y])))) (l9 p G tt te ρc K r μ2)
def u4 (it:ATr)(G:GTr)(tt:TTr)(te:ETr)(n:Nat)(caps:List Nat):ETr:=fun ρ μ Q=>it ρ μ fun ds μ1=>∀ p,μ1 p=none→
  l9 p G tt te (tO ρ n caps) (fun μ'=>kL μ' p fun zs=>Q (.ls zs) (dn μ' p)) ds (up μ1 p (.lst []))
def xu:TTr:=fun _ μ Q=>Q true μ
theorem fT {g:GTr}{b:STr}{E:En}(P:List D→ST→Mu→Prop)(hnil:∀ ρ μ,P [] ρ μ→E.nx ρ μ)
    (hcons:∀ d r ρ μ (N:ST→Mu→Prop),P (d::r) ρ μ→(∀ ρ' μ',P r ρ' μ'→N ρ' μ')→g d ρ μ fun ρ1 μ1=>b { E with nx:=N,ct:=N,bk:=E.nx } ρ1 μ1) :
    ∀ (ds:List D) (ρ:ST) (μ:Mu),P ds ρ μ→forR g b E ds ρ μ
  | [],ρ,μ,h=>hnil ρ μ h
  | d::r,ρ,μ,h=>hcons d r ρ μ _ h fun ρ' μ' q=>fT P hnil hcons r ρ' μ' q
section
open PySem PySem.Spec PyProof.Rows L2
def SqF (K:PySem.W.Frag)(H:Hp)(a:Addr)(xs:List V):Prop:=
  (∃ o,H a=some (.frz o (.lst xs)))∨
    ∃ (o:Obj) (its:Array Value) (n:Nat),K.lookup a=some o∧o.cls=.type "list" ∧ o.dict=none∧o.data=.seq its n∧its.size≤sizeLine∧Vals xs its.toList
theorem SqF.sq {K:PySem.W.Frag}{H:Hp}{a:Addr}{xs:List V}(h:SqF K H a xs):SqL K H a xs:=by
  rcases h with h | h
  · exact .inl (.inr h)
  · exact .inr h
mutual
inductive Dp (K:PySem.W.Frag) (H:Hp):V→D→Prop
  | non:Dp K H .non .non
  | bl (b:Bool):Dp K H (.bl b) (.bl b)
  | int (n:Int):Dp K H (.int n) (.int n)
  | str (z:Str):Dp K H (.str z) (.str z)
  | ty (n:String):Dp K H (.ty n) (.ty n)
  | tup {a:Addr} {xs:List V} {ds:List D}:SqT K H a xs→DpL K H xs ds→Dp K H (.ref a) (.tup ds)
  | ls {a:Addr} {xs:List V} {ds:List D}:SqF K H a xs→DpL K H xs ds→Dp K H (.ref a) (.ls ds)
  | obj (a:Addr):Dp K H (.ref a) (.obj a)
inductive DpL (K:PySem.W.Frag) (H:Hp):List V→List D→Prop
  | nil:DpL K H [] []
  | cons {v:V} {d:D} {vs:List V} {ds:List D}:Dp K H v d→DpL K H vs ds→DpL K H (v::vs) (d::ds)
end
structure Tk (H H':Hp):Prop where
  tup:∀ a xs,H a=some (.tup xs)→H' a=some (.tup xs)
  frz:∀ a o u,H a=some (.frz o u)→H' a=some (.frz o u)
theorem Tk.refl (H:Hp):Tk H H:=⟨fun _ _ h=>h,fun _ _ _ h=>h⟩
theorem Tk.trans {H H1 H2:Hp}(a:Tk H H1)(b:Tk H1 H2):Tk H H2:=⟨fun c xs h=>b.tup c xs (a.tup c xs h),fun c o u h=>b.frz c o u (a.frz c o u h)⟩
theorem Tk.upd {H:Hp}{a:Addr}{o:HO}(h1:∀ xs,H a≠some (.tup xs))(h2:∀ o u,H a≠some (.frz o u)):Tk H (L2.upd H a o):=
  ⟨fun b xs h=>by rw[aF (fun z=>by subst z;exact h1 _ h)];exact h,fun b o u h=>by rw[aF (fun z=>by subst z;exact h2 _ _ h)];exact h⟩
theorem Tk.new {H:Hp}{a:Addr}{o:HO}(h:H a=none):Tk H (L2.upd H a o):=.upd (fun _ e=>by rw[h] at e;cases e) fun _ _ e=>by rw[h] at e;cases e
theorem Tk.sqT {K:PySem.W.Frag}{H H':Hp}{a:Addr}{xs:List V}(t:Tk H H')(h:SqT K H a xs):SqT K H' a xs:=by
  rcases h with (h | ⟨o,h⟩) | h
  · exact .inl (.inl (t.tup _ _ h))
  · exact .inl (.inr ⟨o,t.frz _ _ _ h⟩)
  · exact .inr h
theorem Tk.sqF {K:PySem.W.Frag}{H H':Hp}{a:Addr}{xs:List V}(t:Tk H H')(h:SqF K H a xs):SqF K H' a xs:=by
  rcases h with ⟨o,h⟩ | h
  · exact .inl ⟨o,t.frz _ _ _ h⟩
  · exact .inr h
mutual
theorem Dp.mono {K:PySem.W.Frag}{H H':Hp}(t:Tk H H'):∀ {v:V} {d:D},Dp K H v d→Dp K H' v d
  | _,_,.non=>.non
  | _,_,.bl b=>.bl b
  | _,_,.int i=>.int i
  | _,_,.str x=>.str x
  | _,_,.ty n=>.ty n
  | _,_,.tup h l=>.tup (t.sqT h) (DpL.mono t l)
  | _,_,.ls h l=>.ls (t.sqF h) (DpL.mono t l)
  | _,_,.obj a=>.obj a
theorem DpL.mono {K:PySem.W.Frag}{H H':Hp}(t:Tk H H'):∀ {vs:List V} {ds:List D},DpL K H vs ds→DpL K H' vs ds
  | _,_,.nil=>.nil
  | _,_,.cons h l=>.cons (Dp.mono t h) (DpL.mono t l)
end
theorem DpL.length {K:PySem.W.Frag}{H:Hp}:∀ {vs:List V} {ds:List D},DpL K H vs ds→vs.length=ds.length
  | _,_,.nil=>rfl
  | _,_,.cons _ l=>by rw[List.length_cons,List.length_cons,DpL.length l]
theorem DpL.get {K:PySem.W.Frag}{H:Hp}:∀ {vs:List V} {ds:List D} {i:Nat} {d:D},DpL K H vs ds→ds[i]? = some d→∃ v,vs[i]? = some v∧Dp K H v d
  | _,_,_,_,.nil,e=>by simp at e
  | _,_,0,_,.cons h _,e=>by simp at e;subst e;exact ⟨_,rfl,h⟩
  | _,_,i+1,d,.cons _ l,e=>by
    obtain ⟨v,e1,h⟩:=DpL.get (i:=i) (d:=d) l (by simpa using e)
    exact ⟨v,by simpa using e1,h⟩
theorem DpL.get' {K:PySem.W.Frag}{H:Hp}:∀ {vs:List V} {ds:List D} {i:Nat} {v:V},DpL K H vs ds→vs[i]? = some v→∃ d,ds[i]? = some d∧Dp K H v d
  | _,_,_,_,.nil,e=>by simp at e
  | _,_,0,_,.cons h _,e=>by simp at e;subst e;exact ⟨_,rfl,h⟩
  | _,_,i+1,d,.cons _ l,e=>by
    obtain ⟨v,e1,h⟩:=DpL.get' (i:=i) (v:=d) l (by simpa using e)
    exact ⟨v,by simpa using e1,h⟩
theorem DpL.set {K:PySem.W.Frag}{H:Hp}{v:V}{d:D}(h:Dp K H v d):∀ {vs:List V} {ds:List D} (i:Nat),DpL K H vs ds→DpL K H (vs.set i v) (ds.set i d)
  | _,_,_,.nil=>.nil
  | _,_,0,.cons _ l=>.cons h l
  | _,_,i+1,.cons q l=>.cons q (DpL.set h i l)
theorem DpL.append {K:PySem.W.Frag}{H:Hp}:∀ {vs ws:List V} {ds es:List D},DpL K H vs ds→DpL K H ws es→DpL K H (vs++ws) (ds++es)
  | _,_,_,_,.nil,s=>s
  | _,_,_,_,.cons h l,s=>.cons h (DpL.append l s)
theorem DpL.at {K:PySem.W.Frag}{H:Hp}{vs:List V}{ds:List D}{i:Int}{d:D}(l:DpL K H vs ds)(e:atD ds i=some d):∃ v,atI vs i=some v∧Dp K H v d:=by
  unfold atD atI at e
  unfold atI
  rw[l.length]
  cases q:ixN ds.length i with
  | none=>rw[q] at e;cases e
  | some j=>
    rw[q] at e
    exact l.get e
def DpK (K:PySem.W.Frag)(H:Hp)(xs:List (Key×V))(kvs:List (Key×D)):Prop:=xs.map (·.1)=kvs.map (·.1)∧DpL K H (xs.map (·.2)) (kvs.map (·.2))
theorem DpK.mono {K:PySem.W.Frag}{H H':Hp}(t:Tk H H'){xs:List (Key×V)}{kvs:List (Key×D)}(h:DpK K H xs kvs):DpK K H' xs kvs:=⟨h.1,h.2.mono t⟩
def nD (K:PySem.W.Frag)(H:Hp)(a:Addr):MO→Prop
  | .lst ds=>∃ xs,H a=some (.lst xs)∧DpL K H xs ds
  | .dct kvs=>∃ xs,H a=some (.dK xs)∧DpK K H xs kvs
theorem nD.go {K:PySem.W.Frag}{H H':Hp}{a:Addr}{o:MO}(h:nD K H a o)(t:Tk H H')(k:∀ u,H a=some u→H' a=some u):nD K H' a o:=by
  cases o with
  | lst ds=>obtain ⟨xs,z,l⟩:=h;exact ⟨xs,k _ z,l.mono t⟩
  | dct kvs=>obtain ⟨xs,z,l⟩:=h;exact ⟨xs,k _ z,l.mono t⟩
theorem nD.ne {K:PySem.W.Frag}{H:Hp}{a q:Addr}{o:MO}{u:HO}(h:nD K H a o)(t:Tk H (L2.upd H q u))(k:a≠q):nD K (L2.upd H q u) a o:=h.go t fun _ e=>by rw[aF k];exact e
def cy (K:PySem.W.Frag)(H:Hp)(μ:Mu):Prop:=∀ a o,μ a=some o→nD K H a o
theorem cy.free {K:PySem.W.Frag}{H:Hp}{μ:Mu}(h:cy K H μ){a:Addr}(e:H a=none):μ a=none:=by
  cases q:μ a with
  | none=>rfl
  | some o=>
    cases o with
    | lst ds=>obtain ⟨xs,z,_⟩:=h a _ q;rw[e] at z;cases z
    | dct ds=>obtain ⟨xs,z,_⟩:=h a _ q;rw[e] at z;cases z
theorem cy.keep {K:PySem.W.Frag}{H H':Hp}{μ:Mu}(h:cy K H μ)(t:Tk H H')(k:∀ a u,μ a≠none→H a=some u→H' a=some u):cy K H' μ:=fun a o e=>by
  exact (h a _ e).go t fun u z=>k a u (by rw[e];simp) z
def Sub (μ μ':Mu):Prop:=∀ a o,μ a=some o→μ' a=some o
theorem Sub.refl (μ:Mu):Sub μ μ:=fun _ _ h=>h
theorem Sub.new {μ:Mu}{p:Addr}{o:MO}(h:μ p=none):Sub μ (up μ p o):=fun a u e=>by
  rw[dZ (fun z=>by subst z;rw[h] at e;cases e)];exact e
theorem Sub.trans {μ μ1 μ2:Mu}(a:Sub μ μ1)(b:Sub μ1 μ2):Sub μ μ2:=fun c o h=>b c o (a c o h)
theorem cy.sub {K:PySem.W.Frag}{H:Hp}{μ μ':Mu}(h:cy K H μ')(s:Sub μ μ'):cy K H μ:=fun a o e=>h a o (s a o e)
structure Rl (K:PySem.W.Frag) (σ:L2.St) (H:Hp) (ρ:ST) (μ:Mu):Prop where
  len:ρ.length=σ.length
  loc:∀ i d,lk ρ i=some d→∃ v,σ[i]? = some (some v)∧Dp K H v d
  mu:cy K H μ
theorem Rl.go {K:PySem.W.Frag}{σ:L2.St}{H H':Hp}{ρ:ST}{μ μ':Mu}(r:Rl K σ H ρ μ)(t:Tk H H')(m:cy K H' μ'):Rl K σ H' ρ μ':=
  ⟨r.len,fun i d e=>let ⟨v,h1,h2⟩:=r.loc i d e;⟨v,h1,h2.mono t⟩,m⟩
theorem qg:∀ (ρ:ST) (i j:Nat) (d:D),lk (ρ.set i (some d)) j=if i=j∧i < ρ.length then some d else lk ρ j
  | [],i,j,d=>by simp[lk]
  | o::r,0,0,d=>by simp[lk]
  | o::r,0,j+1,d=>by simp[lk]
  | o::r,i+1,0,d=>by simp[lk]
  | o::r,i+1,j+1,d=>by
    show lk (r.set i (some d)) j=_
    rw[qg r i j d]
    simp[lk]
theorem Rl.set {K:PySem.W.Frag}{σ:L2.St}{H:Hp}{ρ:ST}{μ:Mu}(r:Rl K σ H ρ μ){v:V}{d:D}(h:Dp K H v d)(i:Nat):Rl K (σ.set i (some v)) H (ρ.set i (some d)) μ:=by
  refine ⟨by simp[r.len],fun j e q=>?_,r.mu⟩
  rw[qg] at q
  split at q
  · rename_i hc
    obtain ⟨rfl,hlt⟩:=hc
    cases q
    exact ⟨v,by rw[List.getElem?_set_self (by rw[← r.len];exact hlt)],h⟩
  · rename_i hc
    obtain ⟨u,h1,h2⟩:=r.loc j e q
    by_cases hij:i=j
    · subst hij
      have:¬ i < ρ.length:=fun z=>hc ⟨rfl,z⟩
      have hn:σ[i]? = none:=List.getElem?_eq_none_iff.mpr (by rw[← r.len];omega)
      rw[hn] at h1;cases h1
    · exact ⟨u,by rw[List.getElem?_set_ne hij];exact h1,h2⟩
abbrev eI (K:PySem.W.Frag)(H:Hp)(Q:DK)(Q':VK):Prop:=∀ v H' d μ',Tk H H'→cy K H' μ'→Dp K H' v d→Q d μ'→Q' v H'
def Sim (K:PySem.W.Frag)(t:TE)(T:ETr):Prop:=∀ σ H ρ μ (Q:DK) (Q':VK),Rl K σ H ρ μ→T ρ μ Q→eI K H Q Q'→t σ H Q'
def ue (K:PySem.W.Frag)(t:TT)(T:TTr):Prop:=∀ σ H ρ μ (Q:Bool→Mu→Prop) (Q':Bool→Hp→Prop),Rl K σ H ρ μ→T ρ μ Q→(∀ b H' μ',Tk H H'→cy K H' μ'→Q b μ'→Q' b H')→t σ H Q'
def yJ (K:PySem.W.Frag)(t:TA)(T:ATr):Prop:=∀ σ H ρ μ (Q:List D→Mu→Prop) (Q':List V→Hp→Prop),Rl K σ H ρ μ→T ρ μ Q→(∀ vs H' ds μ',Tk H H'→cy K H' μ'→DpL K H' vs ds→Q ds μ'→Q' vs H')→t σ H Q'
abbrev oG (K:PySem.W.Frag)(H:Hp)(N:ST→Mu→Prop)(N':L2.St→Hp→Prop):Prop:=∀ σ' H' ρ' μ',Tk H H'→Rl K σ' H' ρ' μ'→N ρ' μ'→N' σ' H'
structure rJ (K:PySem.W.Frag) (H:Hp) (E:En) (E':Ends):Prop where
  nx:oG K H E.nx E'.nx
  rt:eI K H E.rt E'.rt
  bk:oG K H E.bk E'.bk
  ct:oG K H E.ct E'.ct
theorem rJ.go {K:PySem.W.Frag}{H H1:Hp}{E:En}{E':Ends}(e:rJ K H E E')(t:Tk H H1):rJ K H1 E E':=
  ⟨fun _ _ _ _ t'=>e.nx _ _ _ _ (t.trans t'),fun _ _ _ _ t'=>e.rt _ _ _ _ (t.trans t'),fun _ _ _ _ t'=>e.bk _ _ _ _ (t.trans t'),fun _ _ _ _ t'=>e.ct _ _ _ _ (t.trans t')⟩
def xf (K:PySem.W.Frag)(t:TS)(T:STr):Prop:=∀ σ H ρ μ (E:En) (E':Ends),Rl K σ H ρ μ→T E ρ μ→rJ K H E E'→t E' σ H
def vQ (K:PySem.W.Frag)(g:TG)(G:GTr):Prop:=∀ σ H ρ μ v d (k:ST→Mu→Prop) (k':L2.St→Hp→Prop),Rl K σ H ρ μ→Dp K H v d→G d ρ μ k→oG K H k k'→g v σ H k'
structure LE (X:Cx) (e:Expr) (T:ETr):Prop where
  ex:∃ t,PE X e t∧Sim X.K t T
structure LT (X:Cx) (e:Expr) (T:TTr):Prop where
  ex:∃ t,PT X e t∧ue X.K t T
structure LW (X:Cx) (e:Expr) (T:TTr):Prop where
  ex:∃ t,PW X e t∧ue X.K t T
structure LA (X:Cx) (es:List Expr) (T:ATr):Prop where
  ex:∃ t,PA X es t∧yJ X.K t T
structure LS (X:Cx) (st:Stmt) (T:STr):Prop where
  ex:∃ t,PS X st t∧xf X.K t T
structure LSs (X:Cx) (sts:List Stmt) (T:STr):Prop where
  ex:∃ t,PSs X sts t∧xf X.K t T
structure LG (X:Cx) (tg:Expr) (G:GTr):Prop where
  ex:∃ g,PG X tg g∧vQ X.K g G
section
variable {X:Cx} {a b c e:Expr} {Ta Tb Tc:ETr} {pos:Pos}
theorem ae (i:Nat){x:Str}(hN:X.N[i]? = some x:=by rfl)(hv:Vis X.env.scope x:=by first | exact Or.inl rfl | exact Or.inr (Or.inl rfl) | exact Or.inr (Or.inr rfl))(hd:(x == ("__debug__" : Str))=false:=by decide)
    (hcd:(x == ("__classdict__" : Str))=false:=by decide):LE X (.Name x pos) (ah i):=
  ⟨_,qm hN hv hd hcd,fun σ H ρ μ Q Q' r h k=>by
    have h:kO (lk ρ i) fun d=>Q d μ:=h
    cases q:lk ρ i with
    | none=>rw[q] at h;exact False.elim h
    | some d=>
      rw[q] at h
      have h:Q d μ:=h
      obtain ⟨v,e1,p⟩:=r.loc i d q
      exact ⟨v,e1,k v H d μ (.refl H) r.mu p h⟩⟩
theorem le_int {i:Int}{j}:LE X (.Constant (.int i) j pos) (TC (.int i)):=⟨_,vy,fun σ H ρ μ Q Q' r h k=>k _ H _ μ (.refl H) r.mu (.int i) h⟩
theorem bU {b:Bool}{j}:LE X (.Constant (.bool b) j pos) (TC (.bl b)):=⟨_,yd,fun σ H ρ μ Q Q' r h k=>k _ H _ μ (.refl H) r.mu (.bl b) h⟩
theorem le_str {x:Str}{j}:LE X (.Constant (.str x) j pos) (TC (.str x)):=⟨_,wM,fun σ H ρ μ Q Q' r h k=>k _ H _ μ (.refl H) r.mu (.str x) h⟩
def bD (K:PySem.W.Frag)(r:R2)(R:DR2):Prop:=∀ H μ x y dx dy (Q:DK) (Q':VK),cy K H μ→Dp K H x dx→Dp K H y dy→R dx dy μ Q→eI K H Q Q'→r x y H Q'
def yF (K:PySem.W.Frag)(r:V→Hp→VK→Prop)(R:DR):Prop:=∀ H μ x dx (Q:DK) (Q':VK),cy K H μ→Dp K H x dx→R dx μ Q→eI K H Q Q'→r x H Q'
theorem eI.go {K:PySem.W.Frag}{H H1:Hp}{Q:DK}{Q':VK}(k:eI K H Q Q')(t:Tk H H1):eI K H1 Q Q':=fun v H' d μ' t'=>k v H' d μ' (t.trans t')
theorem iw {K:PySem.W.Frag}{r:R2}{R:DR2}{ta tb:TE}(hr:bD K r R)(ha:Sim K ta Ta)(hb:Sim K tb Tb):Sim K (tOp r ta tb) (aj R Ta Tb):=fun σ H ρ μ Q Q' rl h k=>
  ha σ H ρ μ _ _ rl h fun x H1 dx μ1 t1 m1 p1 h1=>hb σ H1 ρ μ1 _ _ (rl.go t1 m1) h1 fun y H2 dy μ2 t2 m2 p2 h2=>hr H2 μ2 x y dx dy Q Q' m2 (p1.mono t2) p2 h2 (k.go (t1.trans t2))
theorem jt {op:Operator}{r:R2}{R:DR2}(ho:OpR X (binaryOp op) r)(hr:bD X.K r R)(ha:LE X a Ta)(hb:LE X b Tb):LE X (.BinOp a op b pos) (aj R Ta Tb):=by
  obtain ⟨ta,pa,sa⟩:=ha.ex
  obtain ⟨tb,pb,sb⟩:=hb.ex
  exact ⟨_,uV ho pa pb,iw hr sa sb⟩
theorem fb {op:CmpOp}{r:R2}{R:DR2}(ho:OpR X (compareOp op) r)(hr:bD X.K r R)(ha:LE X a Ta)(hb:LE X b Tb)(hm:behindInMarks op b=false):LE X (.Compare a [op] [b] pos) (aj R Ta Tb):=by
  obtain ⟨ta,pa,sa⟩:=ha.ex
  obtain ⟨tb,pb,sb⟩:=hb.ex
  exact ⟨_,uH ho pa pb hm,iw hr sa sb⟩
theorem rh {K:PySem.W.Frag}{t:TE}{T:ETr}(h:Sim K t T):ue K (u9 t) (TB T):=fun σ H ρ μ Q Q' rl hh k=>
  h σ H ρ μ _ _ rl hh fun v H' d μ' t' m' p' h'=>by
    cases p' with
    | bl c=>exact ⟨c,rfl,k c H' μ' t' m' h'⟩
    | _=>exact False.elim h'
theorem w6 {K:PySem.W.Frag}{t:TE}{T:ETr}(h:Sim K t T):ue K (tB t) (TB T):=fun σ H ρ μ Q Q' rl hh k=>
  h σ H ρ μ _ _ rl hh fun v H' d μ' t' m' p' h'=>by
    cases p' with
    | bl c=>exact ⟨c,rfl,k c H' μ' t' m' h'⟩
    | _=>exact False.elim h'
theorem cU {op:CmpOp}{r:R2}{R:DR2}(ho:OpR X (compareOp op) r)(hr:bD X.K r R)(ha:LE X a Ta)(hb:LE X b Tb)(hm:behindInMarks op b=false):LT X (.Compare a [op] [b] pos) (TB (aj R Ta Tb)):=by
  obtain ⟨ta,pa,sa⟩:=ha.ex
  obtain ⟨tb,pb,sb⟩:=hb.ex
  exact ⟨_,oH ho pa pb hm,rh (iw hr sa sb)⟩
theorem OpR.or {f:Value→Value→Sem Value}{r r':R2}(h:OpR X f r)(h':OpR X f r'):OpR X f (fun x y H Q=>r x y H Q∨r' x y H Q):=fun pins s σ H x y v u Q I rx ry q=>by
  rcases q with q | q
  · exact h pins s σ H x y v u Q I rx ry q
  · exact h' pins s σ H x y v u Q I rx ry q
theorem k7 {K:PySem.W.Frag}{C:Int→Int→Prop}{g:Int→Int→V}{R:DR2}(f:Int→Int→D)(hg:∀ H i j,Dp K H (g i j) (f i j))(hR:∀ i j μ Q,R (.int i) (.int j) μ Q→C i j∧Q (f i j) μ)
    (hn:∀ dx dy μ Q,R dx dy μ Q→(∃ i,dx=.int i)∧∃ j,dy=.int j):bD K (rI C g) R:=fun H μ x y dx dy Q Q' m px py h k=>by
  obtain ⟨⟨i,rfl⟩,j,rfl⟩:=hn _ _ _ _ h
  cases px;cases py
  obtain ⟨h1,h2⟩:=hR _ _ _ _ h
  exact ⟨i,j,rfl,rfl,h1,k _ H _ μ (.refl H) m (hg H i j) h2⟩
theorem oC {K:PySem.W.Frag}{g:Int→Int→V}{R:DR2}(f:Int→Int→D)(hg:∀ H i j,Dp K H (g i j) (f i j))(hR:∀ i j μ Q,R (.int i) (.int j) μ Q→Q (f i j) μ)
    (hn:∀ dx dy μ Q,R dx dy μ Q→(∃ i,dx=.int i)∧∃ j,dy=.int j):bD K (rI0 g) R:=fun H μ x y dx dy Q Q' m px py h k=>by
  obtain ⟨⟨i,rfl⟩,j,rfl⟩:=hn _ _ _ _ h
  cases px;cases py
  exact ⟨i,j,rfl,rfl,k _ H _ μ (.refl H) m (hg H i j) (hR _ _ _ _ h)⟩
theorem dI (ha:LE X a Ta)(hb:LE X b Tb):LE X (.BinOp a .Sub b pos) (aj fY Ta Tb):=jt vp (oC (fun i j=>.int (i - j)) (fun _ _ _=>.int _) (fun _ _ _ _ h=>h) (fun dx dy μ Q h=>by cases dx<;>cases dy<;>first | exact ⟨⟨_,rfl⟩,_,rfl⟩ | exact False.elim h)) ha hb
theorem ic.abs {j:Int}(h:ic j):j.natAbs < 2 ^ 256:=by
  have e:(2:Nat) ^ 256=115792089237316195423570985008687907853269984665640564039457584007913129639936:=by decide +kernel
  rw[e]
  obtain ⟨h1,h2⟩:=h
  omega
theorem MulOk.ok {i j:Int}(h:MulOk i j):IntMulOk i j:=by
  rcases h with (⟨h1,h2⟩ | ⟨h1,h2⟩) | ⟨h1,h2⟩
  · exact .of_left (intBits_le_64 h1 h2)
  · exact .of_right (intBits_le_64 h1 h2)
  · exact .of_le (PyProof.Rows.intBits_le h1.abs) (PyProof.Rows.intBits_le h2.abs) (by decide)
theorem tF:OpR X (binaryOp .Mult) (rI MulOk fun i j=>.int (i*j)):=opI fun _ _ _ _ _ _ _ hc q=>mul_int q hc.ok
theorem fx.np {i j:Int}(h:fx j):Builtin.divisionGoesByPylong i j=false:=by
  refine PyProof.noPylong_of_log2 ?_
  have h0:j.natAbs≠0:=by have:=h.1;omega
  have:=(Nat.log2_lt h0).mpr h.2.abs
  omega
theorem t9:OpR X (binaryOp .FloorDiv) (rI (fun _ j=>fx j) fun i j=>.int (i.fdiv j)):=opI fun _ _ _ _ _ _ _ hc q=>floordiv_int hc.1 q (.inl hc.np)
theorem kZ (ha:LE X a Ta)(hb:LE X b Tb):LE X (.BinOp a .FloorDiv b pos) (aj lQ Ta Tb):=jt t9 (k7 (fun i j=>.int (i.fdiv j)) (fun _ _ _=>.int _) (fun _ _ _ _ h=>⟨h.1,h.2⟩) (fun dx dy μ Q h=>by cases dx<;>cases dy<;>first | exact ⟨⟨_,rfl⟩,_,rfl⟩ | exact False.elim h)) ha hb
theorem le_mul (ha:LE X a Ta)(hb:LE X b Tb):LE X (.BinOp a .Mult b pos) (aj cm Ta Tb):=jt tF (k7 (fun i j=>.int (i*j)) (fun _ _ _=>.int _) (fun _ _ _ _ h=>⟨h.1,h.2⟩) (fun dx dy μ Q h=>by cases dx<;>cases dy<;>first | exact ⟨⟨_,rfl⟩,_,rfl⟩ | exact False.elim h)) ha hb
theorem cK (ha:LE X a Ta)(hb:LE X b Tb):LE X (.BinOp a .Mod b pos) (aj gq Ta Tb):=jt uo (k7 (fun i j=>.int (i.fmod j)) (fun _ _ _=>.int _) (fun _ _ _ _ h=>⟨h.1,h.2⟩) (fun dx dy μ Q h=>by cases dx<;>cases dy<;>first | exact ⟨⟨_,rfl⟩,_,rfl⟩ | exact False.elim h)) ha hb
theorem le_pow (ha:LE X a Ta)(hb:LE X b Tb):LE X (.BinOp a .Pow b pos) (aj pQ Ta Tb):=jt vI (k7 (fun i j=>.int (i ^ j.toNat)) (fun _ _ _=>.int _) (fun _ _ _ _ h=>⟨h.1,h.2⟩) (fun dx dy μ Q h=>by cases dx<;>cases dy<;>first | exact ⟨⟨_,rfl⟩,_,rfl⟩ | exact False.elim h)) ha hb
theorem bQ {K:PySem.W.Frag}(p:Int→Int→Bool):bD K (rI0 fun i j=>.bl (p i j)) (qt p):=oC (fun i j=>.bl (p i j)) (fun _ _ _=>.bl _) (fun _ _ _ _ h=>h) (fun dx dy μ Q h=>by cases dx<;>cases dy<;>first | exact ⟨⟨_,rfl⟩,_,rfl⟩ | exact False.elim h)
theorem xX (ha:LE X a Ta)(hb:LE X b Tb):LE X (.Compare a [.Lt] [b] pos) (aj rLt Ta Tb):=fb uK (bQ _) ha hb (b6 _)
theorem xQ (ha:LE X a Ta)(hb:LE X b Tb):LE X (.Compare a [.LtE] [b] pos) (aj rLe Ta Tb):=fb jq (bQ _) ha hb (b6 _)
theorem uU (ha:LE X a Ta)(hb:LE X b Tb):LE X (.Compare a [.Gt] [b] pos) (aj rGt Ta Tb):=fb vb (bQ _) ha hb (b6 _)
theorem xy (ha:LE X a Ta)(hb:LE X b Tb):LE X (.Compare a [.GtE] [b] pos) (aj rGe Ta Tb):=fb yf (bQ _) ha hb (b6 _)
theorem oY (ha:LE X a Ta)(hb:LE X b Tb):LT X (.Compare a [.Lt] [b] pos) (TB (aj rLt Ta Tb)):=cU uK (bQ _) ha hb (b6 _)
theorem yg (ha:LE X a Ta)(hb:LE X b Tb):LT X (.Compare a [.LtE] [b] pos) (TB (aj rLe Ta Tb)):=cU jq (bQ _) ha hb (b6 _)
theorem lR (ha:LE X a Ta)(hb:LE X b Tb):LT X (.Compare a [.Gt] [b] pos) (TB (aj rGt Ta Tb)):=cU vb (bQ _) ha hb (b6 _)
theorem xP {op:UnaryOp}{r:V→Hp→VK→Prop}{R:DR}(ho:UnR X (unaryOp op) r)(hr:yF X.K r R)(ha:LE X a Ta):LE X (.UnaryOp op a pos) (TUn R Ta):=by
  obtain ⟨ta,pa,sa⟩:=ha.ex
  exact ⟨_,xO ho pa,fun σ H ρ μ Q Q' rl h k=>sa σ H ρ μ _ _ rl h fun x H1 dx μ1 t1 m1 p1 h1=>hr H1 μ1 x dx Q Q' m1 p1 h1 (k.go t1)⟩
theorem bf (ha:LE X a Ta)(he:∀ whole,isTrue a X.env whole=(do let v ← whole;standAt a.pos;holding [v] (truthy v)):=by intro _;rfl):LT X a (TB Ta):=by
  obtain ⟨ta,pa,sa⟩:=ha.ex
  exact ⟨_,wk pa he,w6 sa⟩
variable {tA tB' tC':TTr} {rest:List Expr}
theorem bt (ha:LT X a tA):LT X (.UnaryOp .Not a pos) (cH tA):=by
  obtain ⟨ta,pa,sa⟩:=ha.ex
  exact ⟨_,vO pa,fun σ H ρ μ Q Q' rl h k=>sa σ H ρ μ _ _ rl h fun c H1 μ1 t1 m1 h1=>k (!c) H1 μ1 t1 m1 h1⟩
theorem LW.lt (h:LW X a tA):LT X a tA:=by
  obtain ⟨ta,pa,sa⟩:=h.ex
  exact ⟨_,pa.pt,sa⟩
theorem oM (ha:LT X a tA):LW X (.BoolOp .And [a] pos) tA:=by
  obtain ⟨ta,pa,sa⟩:=ha.ex
  exact ⟨_,pw_and1 pa,sa⟩
theorem cz (ha:LT X a tA):LW X (.BoolOp .Or [a] pos) tA:=by
  obtain ⟨ta,pa,sa⟩:=ha.ex
  exact ⟨_,pw_or1 pa,sa⟩
theorem nM (ha:LT X a tA)(hb:LW X (.BoolOp .And (b::rest) pos) tB'):LW X (.BoolOp .And (a::b::rest) pos) (mf tA tB'):=by
  obtain ⟨ta,pa,sa⟩:=ha.ex
  obtain ⟨tb,pb,sb⟩:=hb.ex
  refine ⟨_,pw_and pa pb,fun σ H ρ μ Q Q' rl h k=>sa σ H ρ μ _ _ rl h fun c H1 μ1 t1 m1 h1=>?_⟩
  cases c with
  | true=>exact j3 (sb σ H1 ρ μ1 Q Q' (rl.go t1 m1) h1 fun b H2 μ2 t2=>k b H2 μ2 (t1.trans t2))
  | false=>exact jY (k false H1 μ1 t1 m1 h1)
theorem cQ (ha:LT X a tA)(hb:LW X (.BoolOp .Or (b::rest) pos) tB'):LW X (.BoolOp .Or (a::b::rest) pos) (TOr tA tB'):=by
  obtain ⟨ta,pa,sa⟩:=ha.ex
  obtain ⟨tb,pb,sb⟩:=hb.ex
  refine ⟨_,pw_or pa pb,fun σ H ρ μ Q Q' rl h k=>sa σ H ρ μ _ _ rl h fun c H1 μ1 t1 m1 h1=>?_⟩
  cases c with
  | true=>exact j3 (k true H1 μ1 t1 m1 h1)
  | false=>exact jY (sb σ H1 ρ μ1 Q Q' (rl.go t1 m1) h1 fun b H2 μ2 t2=>k b H2 μ2 (t1.trans t2))
theorem b9 {op}(h:LE X a Ta):LE X (.BoolOp op [a] pos) Ta:=by
  obtain ⟨ta,pa,sa⟩:=h.ex
  exact ⟨_,v9 pa,sa⟩
theorem b5 (ha:LE X a Ta)(hb:LE X (.BoolOp .And (b::rest) pos) Tb):LE X (.BoolOp .And (a::b::rest) pos) (bV Ta Tb):=by
  obtain ⟨ta,pa,sa⟩:=ha.ex
  obtain ⟨tb,pb,sb⟩:=hb.ex
  refine ⟨_,xi pa pb,fun σ H ρ μ Q Q' rl h k=>sa σ H ρ μ _ _ rl h fun x H1 dx μ1 t1 m1 p1 h1=>?_⟩
  cases p1 with
  | bl c=>
    refine ⟨c,rfl,?_⟩
    cases c with
    | true=>exact j3 (sb σ H1 ρ μ1 Q Q' (rl.go t1 m1) h1 (k.go t1))
    | false=>exact jY (k _ H1 _ μ1 t1 m1 (.bl _) h1)
  | _=>exact False.elim h1
theorem yK (ha:LE X a Ta)(hb:LE X (.BoolOp .Or (b::rest) pos) Tb):LE X (.BoolOp .Or (a::b::rest) pos) (pT Ta Tb):=by
  obtain ⟨ta,pa,sa⟩:=ha.ex
  obtain ⟨tb,pb,sb⟩:=hb.ex
  refine ⟨_,yn pa pb,fun σ H ρ μ Q Q' rl h k=>sa σ H ρ μ _ _ rl h fun x H1 dx μ1 t1 m1 p1 h1=>?_⟩
  cases p1 with
  | bl c=>
    refine ⟨c,rfl,?_⟩
    cases c with
    | true=>exact j3 (k _ H1 _ μ1 t1 m1 (.bl _) h1)
    | false=>exact jY (sb σ H1 ρ μ1 Q Q' (rl.go t1 m1) h1 (k.go t1))
  | _=>exact False.elim h1
theorem kM (ha:LE X a Ta):LE X (.UnaryOp .Not a pos) (gn Ta):=by
  obtain ⟨ta,pa,sa⟩:=ha.ex
  refine ⟨_,vG pa,fun σ H ρ μ Q Q' rl h k=>sa σ H ρ μ _ _ rl h fun x H1 dx μ1 t1 m1 p1 h1=>?_⟩
  cases p1 with
  | bl c=>exact ⟨c,rfl,k _ H1 _ μ1 t1 m1 (.bl _) h1⟩
  | _=>exact False.elim h1
theorem vC (hc:LT X c tC')(ha:LE X a Ta)(hb:LE X b Tb):LE X (.IfExp c a b pos) (pq tC' Ta Tb):=by
  obtain ⟨tc,pc,sc⟩:=hc.ex
  obtain ⟨ta,pa,sa⟩:=ha.ex
  obtain ⟨tb,pb,sb⟩:=hb.ex
  refine ⟨_,sG pc pa pb,fun σ H ρ μ Q Q' rl h k=>sc σ H ρ μ _ _ rl h fun q H1 μ1 t1 m1 h1=>?_⟩
  cases q with
  | true=>exact j3 (sa σ H1 ρ μ1 Q Q' (rl.go t1 m1) h1 (k.go t1))
  | false=>exact jY (sb σ H1 ρ μ1 Q Q' (rl.go t1 m1) h1 (k.go t1))
variable {es:List Expr} {At:ATr}
theorem ag:LA X [] aq:=⟨_,nT,fun σ H ρ μ Q Q' rl h k=>k [] H [] μ (.refl H) rl.mu .nil h⟩
theorem aa (ha:LE X e Ta)(hr:LA X es At)(hs:starEach (e::es) X.env=(false,eval e X.env)::starEach es X.env:=by rfl):LA X (e::es) (af Ta At):=by
  obtain ⟨ta,pa,sa⟩:=ha.ex
  obtain ⟨tr,pr,sr⟩:=hr.ex
  exact ⟨_,ir pa pr hs,fun σ H ρ μ Q Q' rl h k=>sa σ H ρ μ _ _ rl h fun x H1 dx μ1 t1 m1 p1 h1=>sr σ H1 ρ μ1 _ _ (rl.go t1 m1) h1 fun xs H2 ds μ2 t2 m2 p2 h2=>k _ H2 _ μ2 (t1.trans t2) m2 (.cons (p1.mono t2) p2) h2⟩
theorem eU {K:PySem.W.Frag}{H:Hp}{μ:Mu}{p:Addr}{o:HO}(m:cy K H μ)(hp:H p=none):cy K (L2.upd H p o) μ:=m.keep (.new hp) fun a' xs' _ e=>by rw[aF (b8 e hp)];exact e
theorem big {n:Nat}(h:n≤1000000):n≤sizeLine:=Nat.le_trans h (by decide)
theorem aH {x1}(h:LA X es At):LE X (.Tuple es x1 pos) (bb At):=by
  obtain ⟨ta,pa,sa⟩:=h.ex
  refine ⟨_,wz pa,fun σ H ρ μ Q Q' rl h k=>sa σ H ρ μ _ _ rl h fun xs H1 ds μ1 t1 m1 p1 h1=>⟨by rw[p1.length];exact big h1.1,fun p hp=>?_⟩⟩
  exact k _ _ _ μ1 (t1.trans (.new hp)) (eU m1 hp) (.tup (SqT.of aV) (p1.mono (.new hp))) h1.2
theorem vU (h:LA X es At):LE X (.List es pos) (qM At):=by
  obtain ⟨ta,pa,sa⟩:=h.ex
  refine ⟨_,qE pa,fun σ H ρ μ Q Q' rl h k=>sa σ H ρ μ _ _ rl h fun xs H1 ds μ1 t1 m1 p1 h1=>⟨by rw[p1.length];exact big h1.1,fun p hp=>?_⟩⟩
  refine k _ _ _ (up μ1 p (.lst ds)) (t1.trans (.new hp)) (fun a o e=>?_) (.obj p) (h1.2 p (m1.free hp))
  by_cases ha:a=p
  · subst ha
    rw[bS] at e;cases e
    exact ⟨xs,aV,p1.mono (.new hp)⟩
  · rw[dZ ha] at e
    exact eU m1 hp a o e
def xx (t:TE):TE:=fun σ H Q=>t σ H fun v H1=>∃ a xs,v=.ref a∧H1 a=some (.lst xs)∧∀ o,Q v (L2.upd H1 a (.frz o (.lst xs)))
theorem qk {t:TE}(h:PE X e t):PE X e (xx t):=by
  intro pins s σ H Q I hh
  refine thn (h pins s σ H _ I hh) fun u s1 ⟨v,H1,I1,r,a,xs,ev,ea,q⟩=>?_
  obtain ⟨z,its,n,rv,hg⟩:=(show cS X.prog X.w H1 s1.heap a (.lst xs) from I1.hok a _ ea)
  have nl:∀ b o,H1 b=some o→(∀ ys,o≠.lst ys)→b≠a:=fun b o e1 e2 z=>by subst z;rw[ea] at e1;cases e1;exact e2 _ rfl
  refine ⟨v,_,I1.un (h':=s1.heap) (t':=s1.toks) (H':=L2.upd H1 a (.frz { cls:=.type "list", data:=.seq its.toArray n } (.lst xs))) ⟨fun b o e _ _ _=>e,fun b o e _ _ _=>⟨o.slots,e⟩,fun b o e n _=>?_,fun b o e _=>⟨o,e⟩,fun b ys e=>?_,fun b o u e=>?_,fun b ps e=>⟨#[],?_⟩⟩ (fun b u e=>?_),r,q _⟩
  · rw[aF (fun z=>by subst z;rw[ea] at n;cases n)];exact n
  · rw[aF (nl b _ e (fun _=>nofun))];exact e
  · rw[aF (nl b _ e (fun _=>nofun))];exact e
  · rw[aF (nl b _ e (fun _=>nofun)),e];simp
  · by_cases hb:b=a
    · subst hb
      rw[aV] at e;cases e
      exact ⟨hg,z,its,n,rv,hg⟩
    · rw[aF hb] at e
      refine (I1.hok b u e).mB (fun c w _ q=>q) (fun c q=>?_) fun c ys q=>?_
      · rw[aF (nl c _ q (fun _=>nofun))];exact q
      · rw[aF (nl c _ q (fun _=>nofun))];exact q
theorem eO (h:LA X es At):LE X (.List es pos) (gW At):=by
  obtain ⟨ta,pa,sa⟩:=h.ex
  refine ⟨_,qk (qE pa),fun σ H ρ μ Q Q' rl h k=>sa σ H ρ μ _ _ rl h fun xs H1 ds μ1 t1 m1 p1 h1=>⟨by rw[p1.length];exact big h1.1,fun p hp=>⟨p,xs,rfl,aV,fun o=>?_⟩⟩⟩
  have e:L2.upd (L2.upd H1 p (.lst xs)) p (.frz o (.lst xs))=L2.upd H1 p (.frz o (.lst xs)):=ot
  rw[e]
  exact k _ _ _ μ1 (t1.trans (.new hp)) (eU m1 hp) (.ls (.inl ⟨o,aV⟩) (p1.mono (.new hp))) h1.2
end
end
section
open PySem PySem.Spec PyProof.Rows L2
mutual
def toP:D→PyData
  | .non=>.none
  | .bl b=>.bool b
  | .int i=>.int i
  | .str x=>.str x
  | .tup ds=>.tuple (fS ds)
  | .ls ds=>.list (fS ds)
  | .ty _=>.none
  | .obj _=>.none
def fS:List D→List PyData
  | []=>[]
  | d::r=>toP d::fS r
end
mutual
theorem dU:∀ (n:Nat) (d:D),okD n d=true→(toP d).canLay0=true∧(toP d).depth≤n
  | n,.non,_=>⟨rfl,Nat.zero_le _⟩
  | n,.bl b,_=>⟨rfl,Nat.zero_le _⟩
  | n,.int i,_=>⟨rfl,Nat.zero_le _⟩
  | n,.str x,h=>⟨by cases n<;>exact h,Nat.zero_le _⟩
  | n+1,.tup ds,h=>by
    obtain ⟨h1,h2⟩:=i7 n ds h
    exact ⟨h1,Nat.succ_le_succ h2⟩
  | n+1,.ls ds,h=>by
    obtain ⟨h1,h2⟩:=i7 n ds h
    exact ⟨h1,Nat.succ_le_succ h2⟩
  | 0,.tup ds,h=>by cases h
  | 0,.ls ds,h=>by cases h
  | n,.ty _,h=>by cases n<;>cases h
  | n,.obj _,h=>by cases n<;>cases h
theorem i7:∀ (n:Nat) (ds:List D),bM n ds=true→PyData.canLayAll0 (fS ds)=true∧PyData.depthAll (fS ds)≤n
  | n,[],_=>⟨rfl,Nat.zero_le _⟩
  | n,d::r,h=>by
    have h':okD n d=true∧bM n r=true:=by simpa[bM] using h
    obtain ⟨a1,a2⟩:=dU n d h'.1
    obtain ⟨b1,b2⟩:=i7 n r h'.2
    refine ⟨?_,?_⟩
    · show (PyData.canLay0 (toP d)&&PyData.canLayAll0 (fS r))=true
      rw[a1,b1];rfl
    · show max (PyData.depth (toP d)) (PyData.depthAll (fS r))≤n
      exact Nat.max_le.mpr ⟨a2,b2⟩
end
theorem str_beq (a b:Str):(a == b)=decide (a=b):=by
  by_cases h:a=b
  · subst h;simp
  · rw[decide_eq_false h];exact beq_eq_false_iff_ne.mpr h
mutual
theorem ix:∀ (n m:Nat) (a b:D),okD n a=true→okD m b=true→PyData.eqv (toP a) (toP b)=eqD a b
  | n,m,.non,b,_,hb=>by cases b<;>first | rfl | (cases m<;>cases hb)
  | n,m,.bl x,b,_,hb=>by
    cases b with
    | int y=>simp only[toP,PyData.eqv,eqD];rw[Bool.beq_eq_decide_eq]
    | ty _=>cases m<;>cases hb
    | obj _=>cases m<;>cases hb
    | _=>rfl
  | n,m,.int x,b,_,hb=>by
    cases b with
    | int y=>simp only[toP,PyData.eqv,eqD];rw[Bool.beq_eq_decide_eq]
    | bl y=>simp only[toP,PyData.eqv,eqD];rw[Bool.beq_eq_decide_eq]
    | ty _=>cases m<;>cases hb
    | obj _=>cases m<;>cases hb
    | _=>rfl
  | n,m,.str x,b,_,hb=>by
    cases b with
    | str y=>simp only[toP,PyData.eqv,eqD];exact str_beq x y
    | ty _=>cases m<;>cases hb
    | obj _=>cases m<;>cases hb
    | _=>rfl
  | n+1,m,.tup xs,b,ha,hb=>by
    cases b with
    | tup ys=>
      cases m with
      | zero=>cases hb
      | succ m=>simp only[toP,PyData.eqv,eqD];exact i6 n m xs ys ha hb
    | ty _=>cases m<;>cases hb
    | obj _=>cases m<;>cases hb
    | _=>rfl
  | n+1,m,.ls xs,b,ha,hb=>by
    cases b with
    | ls ys=>
      cases m with
      | zero=>cases hb
      | succ m=>simp only[toP,PyData.eqv,eqD];exact i6 n m xs ys ha hb
    | ty _=>cases m<;>cases hb
    | obj _=>cases m<;>cases hb
    | _=>rfl
  | 0,_,.tup ds,_,h,_=>by cases h
  | 0,_,.ls ds,_,h,_=>by cases h
  | n,_,.ty _,_,h,_=>by cases n<;>cases h
  | n,_,.obj _,_,h,_=>by cases n<;>cases h
theorem i6:∀ (n m:Nat) (a b:List D),bM n a=true→bM m b=true→PyData.eqvAll (fS a) (fS b)=fg a b
  | _,_,[],[],_,_=>rfl
  | _,_,[],_::_,_,_=>by simp[fS,PyData.eqvAll,fg]
  | _,_,_::_,[],_,_=>by simp[fS,PyData.eqvAll,fg]
  | n,m,a::r,b::s,ha,hb=>by
    have ha':okD n a=true∧bM n r=true:=by simpa[bM] using ha
    have hb':okD m b=true∧bM m s=true:=by simpa[bM] using hb
    show (PyData.eqv (toP a) (toP b)&&PyData.eqvAll (fS r) (fS s))=(eqD a b&&fg r s)
    rw[ix n m a b ha'.1 hb'.1,i6 n m r s ha'.2 hb'.2]
end
section
variable {X:Cx} {pins:List (Addr×Obj)} {σ:L2.St} {H:Hp} {s:Shared}
mutual
theorem cR (I:Inv X pins σ H s):∀ {n:Nat} {v:V} {d:D} {u:Value},Dp X.K H v d→okD n d=true→RelV v u→∃ as,Reads s.heap u (toP d) as
  | n,_,_,u,.non,_,r=>by cases (show u=Value.none from r);exact ⟨_,.none⟩
  | n,_,_,u,.bl b,_,r=>by cases (show u=Value.bool b from r);exact ⟨_,.bool b⟩
  | n,_,_,u,.int i,_,r=>by obtain ⟨t,e⟩:=(show ∃ t,u=Value.int i t from r);subst e;exact ⟨_,.int i t⟩
  | n,_,_,u,.str x,_,r=>by obtain ⟨t,e⟩:=(show ∃ t,u=Value.str x t from r);subst e;exact ⟨_,.str x t⟩
  | n,_,_,u,.ty _,h,_=>by cases n<;>cases h
  | n+1,_,_,u,@Dp.tup _ _ a xs ds q l,h,r=>by
    cases (show u=Value.ref a from r)
    obtain ⟨its,rv,⟨o,e1,e2,k,e3⟩,_⟩:=I.tuple q
    obtain ⟨as,ra⟩:=eD I (n:=n) l h rv
    exact ⟨_,.tuple e1 e2 e3 (by simpa using ra)⟩
  | n+1,_,_,u,@Dp.ls _ _ a xs ds q l,h,r=>by
    cases (show u=Value.ref a from r)
    obtain ⟨its,rv,⟨o,k,e1,e2,_,e3⟩,_⟩:=I.list q.sq
    obtain ⟨as,ra⟩:=eD I (n:=n) l h rv
    exact ⟨_,.list e1 e2 e3 (by simpa using ra)⟩
  | 0,_,_,u,@Dp.tup _ _ a xs ds q l,h,r=>by cases h
  | 0,_,_,u,@Dp.ls _ _ a xs ds q l,h,r=>by cases h
  | n,_,_,u,.obj _,h,_=>by cases n<;>cases h
theorem eD (I:Inv X pins σ H s):∀ {n:Nat} {vs:List V} {ds:List D} {us:List Value},DpL X.K H vs ds→bM n ds=true→Vals vs us→∃ as,ReadsAll s.heap us (fS ds) as
  | n,_,_,_,.nil,_,.nil=>⟨_,.nil⟩
  | n,_,_,_,@DpL.cons _ _ v d vs ds h l,ho,.cons r rs=>by
    have ho':okD n d=true∧bM n ds=true:=by simpa[bM] using ho
    obtain ⟨as,ra⟩:=cR I h ho'.1 r
    obtain ⟨bs,rb⟩:=eD I l ho'.2 rs
    exact ⟨_,.cons ra rb⟩
end
end
def tq (K:PySem.W.Frag)(f:Bool→Bool):R2:=fun x y H Q=>∃ dx dy,Dp K H x dx∧Dp K H y dy∧okD 40 dx=true∧okD 40 dy=true∧Q (.bl (f (eqD dx dy))) H
section
variable {X:Cx} {a b c e:Expr} {Ta Tb Tc:ETr} {pos:Pos}
theorem sJ (hu:X.A.units+64 < cLine):OpR X (compareOp .Eq) (tq X.K id):=fun pins s σ H x y v u Q I rx ry ⟨dx,dy,px,py,ox,oy,q⟩=>by
  obtain ⟨as,ra⟩:=cR I px ox rx
  obtain ⟨bs,rb⟩:=cR I py oy ry
  obtain ⟨l1,d1⟩:=dU 40 dx ox
  obtain ⟨l2,d2⟩:=dU 40 dy oy
  exact SeqAt.compareEq_reads ra rb l1 l2 (by have:=Nat.min_le_left (toP dx).depth (toP dy).depth;omega) ⟨.bl _,H,I,rfl,by rw[ix 40 40 dx dy ox oy];exact q⟩
theorem qT (hu:X.A.units+64 < cLine):OpR X (compareOp .NotEq) (tq X.K not):=fun pins s σ H x y v u Q I rx ry ⟨dx,dy,px,py,ox,oy,q⟩=>by
  obtain ⟨as,ra⟩:=cR I px ox rx
  obtain ⟨bs,rb⟩:=cR I py oy ry
  obtain ⟨l1,d1⟩:=dU 40 dx ox
  obtain ⟨l2,d2⟩:=dU 40 dy oy
  exact SeqAt.compareNe_reads ra rb l1 l2 (by have:=Nat.min_le_left (toP dx).depth (toP dy).depth;omega) ⟨.bl _,H,I,rfl,by rw[ix 40 40 dx dy ox oy];exact q⟩
theorem qw {K:PySem.W.Frag}:bD K (tq K id) rEq:=fun H μ x y dx dy Q Q' m px py h k=>⟨dx,dy,px,py,h.1.1,h.1.2,k _ H _ μ (.refl H) m (.bl _) h.2⟩
theorem rX {K:PySem.W.Frag}:bD K (tq K not) rNe:=fun H μ x y dx dy Q Q' m px py h k=>⟨dx,dy,px,py,h.1.1,h.1.2,k _ H _ μ (.refl H) m (.bl _) h.2⟩
theorem le_eq (hu:X.A.units+64 < cLine)(ha:LE X a Ta)(hb:LE X b Tb):LE X (.Compare a [.Eq] [b] pos) (aj rEq Ta Tb):=fb (sJ hu) qw ha hb (b6 _)
theorem yG (hu:X.A.units+64 < cLine)(ha:LE X a Ta)(hb:LE X b Tb):LE X (.Compare a [.NotEq] [b] pos) (aj rNe Ta Tb):=fb (qT hu) rX ha hb (b6 _)
theorem lt_eq (hu:X.A.units+64 < cLine)(ha:LE X a Ta)(hb:LE X b Tb):LT X (.Compare a [.Eq] [b] pos) (TB (aj rEq Ta Tb)):=cU (sJ hu) qw ha hb (b6 _)
theorem oV (hu:X.A.units+64 < cLine)(ha:LE X a Ta)(hb:LE X b Tb):LT X (.Compare a [.NotEq] [b] pos) (TB (aj rNe Ta Tb)):=cU (qT hu) rX ha hb (b6 _)
theorem wB {K:PySem.W.Frag}:bD K (fun x y H Q=>y=.non∧Q (.bl (decide (x=.non))) H) rIs:=fun H μ x y dx dy Q Q' m px py h k=>by
  cases py with
  | non=>
    refine ⟨rfl,?_⟩
    cases px with
    | non=>exact k _ H _ μ (.refl H) m (.bl _) h
    | _=>exact k _ H _ μ (.refl H) m (.bl _) h
  | _=>exact False.elim h
theorem uN (ha:LE X a Ta)(hb:LE X b Tb):LT X (.Compare a [.Is] [b] pos) (TB (aj rIs Ta Tb)):=cU vM wB ha hb (b6 _)
theorem pW {K:PySem.W.Frag}{r r':R2}{R R':DR2}{ta tb tc:TE}(hr:bD K r R)(hr':bD K r' R')(ha:Sim K ta Ta)(hb:Sim K tb Tb)(hc:Sim K tc Tc):Sim K (sx r r' ta tb tc) (fJ R R' Ta Tb Tc):=fun σ H ρ μ Q Q' rl h k=>
  ha σ H ρ μ _ _ rl h fun x H1 dx μ1 t1 m1 p1 h1=>hb σ H1 ρ μ1 _ _ (rl.go t1 m1) h1 fun y H2 dy μ2 t2 m2 p2 h2=>hr H2 μ2 x y dx dy _ _ m2 (p1.mono t2) p2 h2 fun z H3 dz μ3 t3 m3 p3 h3=>by
    cases p3 with
    | bl q=>
      refine ⟨q,rfl,?_⟩
      have t13:=t1.trans (t2.trans t3)
      cases q with
      | true=>exact j3 (hc σ H3 ρ μ3 _ _ (rl.go t13 m3) h3 fun w H4 dw μ4 t4 m4 p4 h4=>hr' H4 μ4 y w dy dw Q Q' m4 (p2.mono (t3.trans t4)) p4 h4 (k.go (t13.trans t4)))
      | false=>exact jY (k _ H3 _ μ3 t13 m3 (.bl _) h3)
    | _=>exact False.elim h3
theorem r9 {op op':CmpOp}{r r':R2}{R R':DR2}(ho:OpR X (compareOp op) r)(ho':OpR X (compareOp op') r')(hr:bD X.K r R)(hr':bD X.K r' R')(ha:LE X a Ta)(hb:LE X b Tb)(hc:LE X c Tc)
    (hm:lastMarks [op,op'] [b,c]=false:=by with_unfolding_all rfl):LE X (.Compare a [op,op'] [b,c] pos) (fJ R R' Ta Tb Tc):=by
  obtain ⟨ta,pa,sa⟩:=ha.ex
  obtain ⟨tb,pb,sb⟩:=hb.ex
  obtain ⟨tc,pc,sc⟩:=hc.ex
  exact ⟨_,sh ho ho' pa pb pc hm,pW hr hr' sa sb sc⟩
theorem ua {K:PySem.W.Frag}:yF K (rU fun i=>.int (-i)) g7:=fun H μ x dx Q Q' m px h k=>by
  cases px with
  | int i=>exact ⟨i,rfl,k _ H _ μ (.refl H) m (.int _) h⟩
  | _=>exact False.elim h
theorem le_neg (ha:LE X a Ta):LE X (.UnaryOp .USub a pos) (TUn g7 Ta):=xP vg ua ha
theorem lE {o:Option D}{f:D→Prop}(h:kO o f):∃ d,o=some d∧f d:=by
  cases o with
  | none=>exact False.elim h
  | some d=>exact ⟨d,rfl,h⟩
theorem gP {μ:Mu}{a:Addr}{f:List D→Prop}(h:kL μ a f):∃ ds,μ a=some (.lst ds)∧f ds:=by
  unfold kL at h
  cases e:μ a with
  | none=>rw[e] at h;exact False.elim h
  | some o=>cases o with
    | lst ds=>rw[e] at h;exact ⟨ds,rfl,h⟩
    | dct ds=>rw[e] at h;exact False.elim h
theorem v8 {o:Option Nat}{f:Nat→Prop}(h:kN o f):∃ d,o=some d∧f d:=by
  cases o with
  | none=>exact False.elim h
  | some d=>exact ⟨d,rfl,h⟩
theorem vN {K:PySem.W.Frag}:bD K (L2.rIx K) L3.rIx:=fun H μ x y dx dy Q Q' m px py h k=>by
  cases px with
  | @tup a xs ds q l=>
    cases py with
    | int i=>
      obtain ⟨d,e,h'⟩:=lE h
      obtain ⟨v,e1,p⟩:=l.at e
      exact .inr (.inl ⟨a,xs,i,v,rfl,rfl,q,e1,k _ H _ μ (.refl H) m p h'⟩)
    | _=>exact False.elim h
  | @ls a xs ds q l=>
    cases py with
    | int i=>
      obtain ⟨d,e,h'⟩:=lE h
      obtain ⟨v,e1,p⟩:=l.at e
      exact .inl ⟨a,xs,i,v,rfl,rfl,q.sq,e1,k _ H _ μ (.refl H) m p h'⟩
    | _=>exact False.elim h
  | obj a=>
    cases py with
    | int i=>
      obtain ⟨ds,e0,h1⟩:=gP h
      obtain ⟨d,e,h'⟩:=lE h1
      obtain ⟨xs,ex,l⟩:=m a _ e0
      obtain ⟨v,e1,p⟩:=l.at e
      exact .inl ⟨a,xs,i,v,rfl,rfl,SqL.of ex,e1,k _ H _ μ (.refl H) m p h'⟩
    | _=>exact False.elim h
  | _=>cases py<;>exact False.elim h
theorem av (ha:LE X a Ta)(hb:LE X b Tb)(hs:lu b:=by intro _ _;rfl):LE X (.Subscript a b pos) (aj L3.rIx Ta Tb):=by
  obtain ⟨ta,pa,sa⟩:=ha.ex
  obtain ⟨tb,pb,sb⟩:=hb.ex
  exact ⟨_,uI wK pa pb hs,iw vN sa sb⟩
variable {es:List Expr} {At:ATr} {x:Str} {p:Pos} {id T:String}
def jC (K:PySem.W.Frag)(r:List V→Hp→VK→Prop)(R:FSp):Prop:=∀ H μ xs ds (Q:DK) (Q':VK),cy K H μ→DpL K H xs ds→R ds μ Q→eI K H Q Q'→r xs H Q'
theorem kl {K:PySem.W.Frag}{r:List V→Hp→VK→Prop}{R:FSp}{ta:TA}(hr:jC K r R)(ha:yJ K ta At):Sim K (tCB r ta) (ao R At):=fun σ H ρ μ Q Q' rl h k=>
  ha σ H ρ μ _ _ rl h fun xs H1 ds μ1 t1 m1 p1 h1=>hr H1 μ1 xs ds Q Q' m1 p1 h1 (k.go t1)
theorem aN {r:List V→Hp→VK→Prop}{R:FSp}(hc:bC X (.builtin id) r)(hr:jC X.K r R)(hg:Gl X x)(hm:X.mg x=none)(hv:bootBuiltins x=some (.builtin id))(ha:LA X (e::es) At)(hn:x ≠ "__name__" := by decide)(hdb:(x == ("__debug__" : Str))=false:=by decide)
    (h1:starEach (e::es) X.env=(false,eval e X.env)::starEach es X.env:=by rfl) (h2:(backTo pos (starEach es X.env)).any (·.1)=false:=by rfl):LE X (.Call (.Name x p) (e::es) [] pos) (ao R At):=by
  obtain ⟨ta,pa,sa⟩:=ha.ex
  exact ⟨_,mv hc hg hm hv pa hn hdb h1 h2,kl hr sa⟩
theorem cJ {r:List V→Hp→VK→Prop}{R:FSp}(hc:bC X (.type T) r)(hr:jC X.K r R)(hg:Gl X x)(hm:X.mg x=none)(hv:bootBuiltins x=some (.type T))(ha:LA X (e::es) At)(hn:x ≠ "__name__" := by decide)(hdb:(x == ("__debug__" : Str))=false:=by decide)
    (h1:starEach (e::es) X.env=(false,eval e X.env)::starEach es X.env:=by rfl) (h2:(backTo pos (starEach es X.env)).any (·.1)=false:=by rfl):LE X (.Call (.Name x p) (e::es) [] pos) (ao R At):=by
  obtain ⟨ta,pa,sa⟩:=ha.ex
  exact ⟨_,pL hc hg hm hv pa hn hdb h1 h2,kl hr sa⟩
theorem gF {K:PySem.W.Frag}:jC K (fun xs H Q=>∃ i,xs=[.int i]∧Q (.int (if i < 0 then -i else i)) H) kC:=fun H μ xs ds Q Q' m p h k=>by
  unfold kC at h
  split at h
  · cases p with | cons p1 p2=>cases p2;cases p1;exact ⟨_,rfl,k _ H _ μ (.refl H) m (.int _) h⟩
  · exact False.elim h
theorem qO {K:PySem.W.Frag}:jC K (fun xs H Q=>∃ i j,xs=[.int i,.int j]∧Q (.int (if j > i then j else i)) H) mI:=fun H μ xs ds Q Q' m p h k=>by
  unfold mI at h
  split at h
  · cases p with | cons p1 p2=>cases p2 with | cons p2 p3=>cases p3;cases p1;cases p2;exact ⟨_,_,rfl,k _ H _ μ (.refl H) m (.int _) h⟩
  · exact False.elim h
theorem qA {K:PySem.W.Frag}:jC K (fun xs H Q=>∃ i j,xs=[.int i,.int j]∧Q (.int (if j < i then j else i)) H) mO:=fun H μ xs ds Q Q' m p h k=>by
  unfold mO at h
  split at h
  · cases p with | cons p1 p2=>cases p2 with | cons p2 p3=>cases p3;cases p1;cases p2;exact ⟨_,_,rfl,k _ H _ μ (.refl H) m (.int _) h⟩
  · exact False.elim h
theorem iy {K:PySem.W.Frag}:jC K (fun xs H Q=>(∃ i,xs=[.int i]∧Q (.int i) H)∨∃ k,xs=[.bl k]∧Q (.int (if k then 1 else 0)) H) lz:=fun H μ xs ds Q Q' m p h k=>by
  unfold lz at h
  split at h
  · cases p with | cons p1 p2=>cases p2;cases p1;exact .inl ⟨_,rfl,k _ H _ μ (.refl H) m (.int _) h⟩
  · cases p with | cons p1 p2=>cases p2;cases p1;exact .inr ⟨_,rfl,k _ H _ μ (.refl H) m (.int _) h⟩
  · exact False.elim h
theorem bC.or {f:Value}{r r':List V→Hp→VK→Prop}(h:bC X f r)(h':bC X f r'):bC X f (fun xs H Q=>r xs H Q∨r' xs H Q):=fun pins s σ H xs us Q I rx q=>by
  rcases q with q | q
  · exact h pins s σ H xs us Q I rx q
  · exact h' pins s σ H xs us Q I rx q
theorem bJ {K:PySem.W.Frag}:jC K (fun xs H Q=>(∃ p ys,xs=[.ref p]∧(SqL K H p ys∨SqT K H p ys)∧Q (.int ys.length) H)∨∃ z,xs=[.str z]∧z.length≤sizeLine∧Q (.int z.length) H) cE:=fun H μ xs ds Q Q' m p h k=>by
  unfold cE at h
  split at h
  · cases p with | cons p1 p2=>cases p2;cases p1 with | tup q l=>exact .inl ⟨_,_,rfl,.inr q,k _ H _ μ (.refl H) m (by rw[l.length];exact .int _) h⟩
  · cases p with | cons p1 p2=>cases p2;cases p1 with | ls q l=>exact .inl ⟨_,_,rfl,.inl q.sq,k _ H _ μ (.refl H) m (by rw[l.length];exact .int _) h⟩
  · cases p with | cons p1 p2=>cases p2;cases p1;exact .inr ⟨_,rfl,big h.1,k _ H _ μ (.refl H) m (.int _) h.2⟩
  · rename_i a
    cases p with | cons p1 p2=>
    cases p2;cases p1
    obtain ⟨ys,e0,h⟩:=gP h
    obtain ⟨xs,ex,l⟩:=m a _ e0
    exact .inl ⟨_,_,rfl,.inl (SqL.of ex),k _ H _ μ (.refl H) m (by rw[l.length];exact .int _) h⟩
  · exact False.elim h
theorem aW:bC X (.builtin "len") (fun xs H Q=>(∃ p ys,xs=[.ref p]∧(SqL X.K H p ys∨SqT X.K H p ys)∧Q (.int ys.length) H)∨∃ z,xs=[.str z]∧z.length≤sizeLine∧Q (.int z.length) H):=bC.or kA kE
end
end
section
open PySem PySem.Spec PyProof.Rows L2
def tys:List String:=["NoneType", "bool", "int", "str", "tuple", "list"]
def s8:List String:=["bool", "int", "str", "tuple", "list", "dict"]
theorem t8 (K:PySem.W.Frag):∀ t∈tys,∀ c∈s8,PySem.W.kitOne K (.type t) (.type c)=some (cw t c):=by
  intro t ht c hc
  simp only[tys,List.mem_cons,List.not_mem_nil,or_false] at ht
  simp only[s8,List.mem_cons,List.not_mem_nil,or_false] at hc
  rcases ht with rfl | rfl | rfl | rfl | rfl | rfl<;>rcases hc with rfl | rfl | rfl | rfl | rfl | rfl<;>with_unfolding_all rfl
theorem vV {d:D}{t:String}(h:tyD d=some t):t∈tys:=by
  cases d<;>simp[tyD] at h<;>subst h<;>decide
def yv (K:PySem.W.Frag):List V→Hp→VK→Prop:=fun xs H Q=>∃ x d t c,xs=[x,.ty c]∧Dp K H x d∧tyD d=some t∧c∈s8∧Q (.bl (cw t c)) H
theorem p8 {X:Cx}:bC X (.builtin "isinstance") (yv X.K):=fun pins s σ H xs us Q I rx ⟨x,d,t,c,ex,px,et,hc,q⟩=>by
  subst ex
  cases rx with | @cons _ u _ _ r1 r2=>cases r2 with | cons r2 r3=>
  cases r3
  cases (show _=Value.type c from r2)
  have e:=t8 X.K t (vV et) c hc
  have fin:∀ tk,EP X pins σ Q (.bool (cw t c)) { s with toks:=tk }:=fun tk=>⟨.bl _,H,I.tok tk,rfl,q⟩
  cases px with
  | non=>cases et;cases (show u=Value.none from r1);exact PySem.W.kia_one PySem.W.kitx_none I.kIn True.intro e (fun z=>nomatch z) fin
  | bl y=>cases et;cases (show u=Value.bool y from r1);exact PySem.W.kia_one PySem.W.kitx_bool I.kIn True.intro e (fun z=>nomatch z) fin
  | int i=>cases et;obtain ⟨t,z⟩:=(show ∃ t,u=Value.int i t from r1);cases z;exact PySem.W.kia_one PySem.W.kitx_int I.kIn True.intro e (fun z=>nomatch z) fin
  | str y=>cases et;obtain ⟨t,z⟩:=(show ∃ t,u=Value.str y t from r1);cases z;exact PySem.W.kia_one PySem.W.kitx_str I.kIn True.intro e (fun z=>nomatch z) fin
  | ty _=>cases et
  | obj _=>cases et
  | @tup a xs ds sq l=>
    cases et
    cases (show u=Value.ref a from r1)
    obtain ⟨its,_,⟨o,h1,h2,_⟩,_⟩:=I.tuple sq
    exact PySem.W.kia_one PySem.W.kitx_tuple I.kIn ⟨o,h1,h2⟩ e (fun z=>nomatch z) fin
  | @ls a xs ds sq l=>
    cases et
    cases (show u=Value.ref a from r1)
    obtain ⟨its,_,⟨o,n,h1,h2,_⟩,_⟩:=I.list sq.sq
    exact PySem.W.kia_one PySem.W.kitx_list I.kIn ⟨o,h1,h2⟩ e (fun z=>nomatch z) fin
theorem cN {X:Cx}{x y:Str}{p p2 pos:Pos}{c:String}{e:Expr}{Ta:ETr}(hg:Gl X x)(hm:X.mg x=none)(hv:bootBuiltins x=some (.builtin "isinstance"))(ha:LE X e Ta)(hg2:Gl X y)(hm2:X.mg y=none)(hv2:bootBuiltins y=some (.type c))(hc:c∈s8:=by decide)
    (hn:x ≠ "__name__" := by decide) (hdb:(x == ("__debug__" : Str))=false:=by decide) (hn2:y ≠ "__name__" := by decide) (hdb2:(y == ("__debug__" : Str))=false:=by decide)
    (h0:starEach [.Name y p2] X.env=[(false,eval (.Name y p2) X.env)]:=by rfl) (h1:starEach (e::[.Name y p2]) X.env=(false,eval e X.env)::starEach [.Name y p2] X.env:=by rfl) (h2:(backTo pos (starEach [.Name y p2] X.env)).any (·.1)=false:=by rfl) :
    LE X (.Call (.Name x p) [e,.Name y p2] [] pos) (TUn (cT c) Ta):=by
  obtain ⟨ta,pa,sa⟩:=ha.ex
  refine ⟨_,mv p8 hg hm hv (ir pa (ir (sU hg2 hm2 hv2 (v:=.ty c) rfl hn2 hdb2) nT h0) h1) hn hdb h1 h2,fun σ H ρ μ Q Q' rl h k=>sa σ H ρ μ _ _ rl h fun v H1 d μ1 t1 m1 p1 h1=>?_⟩
  have h1':(match tyD d with | some t=>Q (.bl (cw t c)) μ1 | none=>False):=h1
  cases et:tyD d with
  | none=>rw[et] at h1';exact False.elim h1'
  | some t=>rw[et] at h1';exact ⟨v,d,t,c,rfl,p1,et,hc,k _ H1 _ μ1 t1 m1 (.bl _) h1'⟩
section
variable {X:Cx} {a b c e tg o:Expr} {Ta Tb Tc:ETr} {pos:Pos} {es:List Expr} {At:ATr} {x:Str} {p:Pos} {id T:String} {st:Stmt} {rest:List Stmt} {T1 T2:STr} {tA:TTr}
theorem aG:LSs X [] aT:=⟨_,tR,fun σ H ρ μ E E' rl h k=>k.nx _ _ _ _ (.refl H) rl h⟩
theorem ai (h1:LS X st T1)(h2:LSs X rest T2):LSs X (st::rest) (aC T1 T2):=by
  obtain ⟨t1,p1,s1⟩:=h1.ex
  obtain ⟨t2,p2,s2⟩:=h2.ex
  exact ⟨_,sm p1 p2,fun σ H ρ μ E E' rl h k=>s1 σ H ρ μ _ _ rl h ⟨fun σ' H' ρ' μ' t' r' q=>s2 σ' H' ρ' μ' E E' r' q (k.go t'),k.rt,k.bk,k.ct⟩⟩
theorem ar (h1:LS X st T1):LSs X [st] T1:=by
  obtain ⟨t1,p1,s1⟩:=h1.ex
  exact ⟨_,tV p1,s1⟩
theorem aw (he:LE X e Ta):LS X (.Return (some e) pos) (aL Ta):=by
  obtain ⟨ta,pa,sa⟩:=he.ex
  exact ⟨_,wN pa,fun σ H ρ μ E E' rl h k=>sa σ H ρ μ _ _ rl h k.rt⟩
theorem aZ {sa sb:List Stmt}(hc:LT X c tA)(ha:LSs X sa T1)(hb:LSs X sb T2):LS X (.If c sa sb pos) (bF tA T1 T2):=by
  obtain ⟨tc,pc,sc⟩:=hc.ex
  obtain ⟨t1,p1,s1⟩:=ha.ex
  obtain ⟨t2,p2,s2⟩:=hb.ex
  refine ⟨_,xV pc p1 p2,fun σ H ρ μ E E' rl h k=>sc σ H ρ μ _ _ rl h fun q H1 μ1 t1' m1 h1=>?_⟩
  cases q with
  | true=>exact j3 (s1 σ H1 ρ μ1 E E' (rl.go t1' m1) h1 (k.go t1'))
  | false=>exact jY (s2 σ H1 ρ μ1 E E' (rl.go t1' m1) h1 (k.go t1'))
theorem j8 {K:PySem.W.Frag}(i:Nat):vQ K (qu i) (az i):=fun σ H ρ μ v d k k' rl p h q=>q _ _ _ _ (.refl H) (rl.set p i) h
theorem k5 (i:Nat)(hN:X.N.Nodup)(hi:X.N[i]? = some x:=by rfl)(hx:Loc X.env.scope x:=by first | exact Or.inl rfl | exact Or.inr rfl)(hf:X.fn x=true∨X.env.scope.names.lookup x=some .local:=by first | exact .inl rfl | exact .inr rfl | assumption):LG X (.Name x pos) (az i):=
  ⟨_,sS hN hi hx hf,j8 i⟩
theorem aA (i:Nat){pos':Pos}(hN:X.N.Nodup)(he:LE X e Ta)(hi:X.N[i]? = some x:=by rfl)(hx:Loc X.env.scope x:=by first | exact Or.inl rfl | exact Or.inr rfl)(hs:swapsWith e (some (.Name x pos')) pos.line X.env=pure false:=by rfl)
    (hf:X.fn x=true∨X.env.scope.names.lookup x=some .local:=by first | exact .inl rfl | exact .inr rfl | assumption):LS X (.Assign [.Name x pos'] e pos) (aY Ta (az i)):=by
  obtain ⟨ta,pa,sa⟩:=he.ex
  exact ⟨_,vh hN hi hx pa hs hf,fun σ H ρ μ E E' rl h k=>sa σ H ρ μ _ _ rl h fun v H' d μ' t' m' p' h'=>j8 i σ H' ρ μ' v d _ _ (rl.go t' m') p' h' (k.go t').nx⟩
theorem rk (i j:Nat){y:Str}{px py pt:Pos}{kt k2 pt2}(hc:X.calm=true)(hN:X.N.Nodup)(ha:LA X [a,b] At)(hi:X.N[i]? = some x:=by rfl)(hj:X.N[j]? = some y:=by rfl)(hij:i≠j:=by decide)
    (hx:X.env.scope.names.lookup x=some .local:=by rfl) (hy:X.env.scope.names.lookup y=some .local:=by rfl)
    (hw:swappedStores [.Tuple [.Name x px,.Name y py] kt pt] (.Tuple [a,b] k2 pt2) X.env=pure (some [x,y]):=by rfl)
    (hs:swapsWithSole [.Tuple [.Name x px,.Name y py] kt pt] (.Tuple [a,b] k2 pt2) pos.line X.env=pure false:=by rfl) :
    LS X (.Assign [.Tuple [.Name x px,.Name y py] kt pt] (.Tuple [a,b] k2 pt2) pos) (lB i j At):=by
  obtain ⟨ta,pa,sa⟩:=ha.ex
  refine ⟨_,vz hc hN hi hj hij hx hy pa hw hs,fun σ H ρ μ E E' rl h k=>sa σ H ρ μ _ _ rl h fun vs H' ds μ' t' m' p' h'=>?_⟩
  unfold L3.k2 at h'
  split at h'
  · rename_i dv dw
    cases p' with | cons p1 p2=>cases p2 with | cons p2 p3=>
    cases p3
    exact ⟨_,_,rfl,k.nx _ _ _ _ t' (((rl.go t' m').set p1 i).set p2 j) h'⟩
  · exact False.elim h'
theorem gE {Tk':ETr}{tpos:Pos}(ho:LE X o Ta)(hi:LE X b Tk')(he:LE X e Tb)
    (ha:∀ v,assign (.Subscript o b tpos) X.env v=(do
      let ov ← holding [v] (eval o X.env)
      let iv ← holding [v,ov] (eval b X.env)
      standAt tpos
      holding [v,ov,iv] (setItem ov iv v)
      release [v,ov,iv] []):=by intro _;rfl)
    (hs:swapsWithSole [.Subscript o b tpos] e pos.line X.env=pure false:=by rfl) (hw:swappedStores [.Subscript o b tpos] e X.env=pure none:=by rfl)
    (h1:(assignEach [.Subscript o b tpos] X.env).map (·.2)=[assign (.Subscript o b tpos) X.env]:=by rfl):LS X (.Assign [.Subscript o b tpos] e pos) (dO Ta Tk' Tb):=by
  obtain ⟨to,po,so⟩:=ho.ex
  obtain ⟨ti,pi,si⟩:=hi.ex
  obtain ⟨te,pe,se⟩:=he.ex
  refine ⟨_,vX pe (w8 po pi set_list ha) hs hw h1,fun σ H ρ μ E E' rl h k=>se σ H ρ μ _ _ rl h fun y H1 dy μ1 t1 m1 p1 h1=>so σ H1 ρ μ1 _ _ (rl.go t1 m1) h1 fun ov H2 dov μ2 t2 m2 p2 h2=>
    si σ H2 ρ μ2 _ _ (rl.go (t1.trans t2) m2) h2 fun iv H3 div μ3 t3 m3 p3 h3=>?_⟩
  cases p2 with
  | obj q=>
    cases p3 with
    | int n=>
      obtain ⟨ds,e0,h3'⟩:=gP h3
      obtain ⟨j,e1,h4⟩:=v8 h3'
      obtain ⟨xs,ex,l⟩:=m3 q _ e0
      refine ⟨q,xs,n,j,rfl,rfl,ex,by rw[l.length];exact e1,?_⟩
      have t4:Tk H3 (L2.upd H3 q (.lst (xs.set j y))):=.upd (fun ys z=>by rw[ex] at z;cases z) fun o' u z=>by rw[ex] at z;cases z
      have t14:=t1.trans (t2.trans (t3.trans t4))
      refine k.nx _ _ ρ _ t14 (rl.go t14 (fun a' o' e'=>?_)) h4
      by_cases haq:a'=q
      · subst haq
        rw[bS] at e';cases e'
        exact ⟨_,aV,(l.set (p1.mono (t2.trans t3)) j).mono t4⟩
      · rw[dZ haq] at e'
        exact (m3 a' _ e').ne t4 haq
    | _=>exact False.elim h3
  | _=>cases p3<;>exact False.elim h3
theorem lI {body:List Stmt}(hp:PassesOwn (model X.prog X.w) X.A X.env X.xe)(hc:LT X c tA)(hb:LSs X body T1):LS X (.While c body [] pos) (lr tA T1):=by
  obtain ⟨tc,pc,sc⟩:=hc.ex
  obtain ⟨t1,p1,s1⟩:=hb.ex
  refine ⟨_,qX hp pc p1,fun σ H ρ μ E E' rl h k=>?_⟩
  obtain ⟨P,m,h0,hs⟩:=h
  refine ⟨fun n σ' H'=>∃ ρ' μ',Tk H H'∧Rl X.K σ' H' ρ' μ'∧P ρ' μ'∧n=m ρ' μ',⟨_,ρ,μ,.refl H,rl,h0,rfl⟩,?_⟩
  rintro n σ1 H1 ⟨ρ1,μ1,t1',rl1,hP,rfl⟩
  refine sc σ1 H1 ρ1 μ1 _ _ rl1 (hs ρ1 μ1 hP) fun q H2 μ2 t2 m2 h2=>?_
  have t12:=t1'.trans t2
  cases q with
  | true=>
    refine j3 ⟨fun σ' H'=>∃ ρ' μ',Tk H H'∧Rl X.K σ' H' ρ' μ'∧P ρ' μ'∧m ρ' μ' < m ρ1 μ1,fun σ' H' ⟨ρ',μ',a1,a2,a3,a4⟩=>⟨_,a4,ρ',μ',a1,a2,a3,rfl⟩,?_⟩
    have h2':=h2
    refine s1 σ1 H2 ρ1 μ2 _ _ (rl1.go t2 m2) h2' ⟨fun σ' H' ρ' μ' t' r' q=>⟨ρ',μ',t12.trans t',r',q.1,q.2⟩,(k.go t12).rt,(k.go t12).nx,fun σ' H' ρ' μ' t' r' q=>⟨ρ',μ',t12.trans t',r',q.1,q.2⟩⟩
  | false=>exact jY (k.nx _ _ _ _ t12 (rl1.go t2 m2) h2)
end
def lift (K:PySem.W.Frag)(sp:FSp):Sp:=fun vs H Q _=>∃ ds μ QQ,DpL K H vs ds∧cy K H μ∧sp ds μ QQ∧eI K H QQ Q
def RT (Q:DK):DK:=fun d μ'=>∃ μ,Sub μ μ'∧Q d μ
def ini (n:Nat)(ds:List D):ST:=ds.map some++List.replicate (n - ds.length) none
theorem vF:∀ (ds:List D) (n i:Nat) (d:D),lk (ini n ds) i=some d→ds[i]? = some d:=by
  intro ds
  have rep:∀ m i (d:D),lk (List.replicate m none) i=some d→False:=by
    intro m
    induction m with
    | zero=>intro i d h;cases i<;>cases h
    | succ m ih=>intro i d h;cases i with
      | zero=>cases h
      | succ i=>exact ih i d h
  have gen:∀ (ds:List D) m i d,lk (ds.map some++List.replicate m none) i=some d→ds[i]? = some d:=by
    intro ds
    induction ds with
    | nil=>intro m i d h;exact (rep m i d h).elim
    | cons x r ih=>intro m i d h;cases i with
      | zero=>simpa[lk] using h
      | succ i=>simpa using ih m i d h
  exact fun n i d h=>gen ds _ i d h
section
variable {P:Program} {w:World} {K:PySem.W.Frag} {mg:Str→Option Value} {base:Heap}
theorem uR {x qual:Str}{st:Stmt}{f:Addr}{fd:FuncData}{N ps:List Str}{k:Nat}{sp:FSp}{T:STr}(F:Fun K x qual st f fd)(S:aE N ps (au st))(len:∀ ds μ Q,sp ds μ Q→ds.length=ps.length)
    (hb:∀ (cdv:Value) (A:Around) (outer:List Env) (s:Shared) (H:Hp) (E:XK),cx k (A.deeper (envOfC qual (au st) s.heap.objs.size f cdv))→
      LSs (mh CX0 P w K mg base N qual (au st) f cdv A outer s H E).nox (c6 st) T)
    (hr:∀ ds μ Q,sp ds μ Q→T { nx:=fun _ μ'=>RT Q .non μ',rt:=RT Q } (ini N.length ds) μ):fN P w K mg base CX0 (k+1) f fd ps (lift K sp):=by
  refine F.ok S (fun vs H Q E h=>?_) (fun cdv A outer s H vs Q E hroom h=>?_)
  · obtain ⟨ds,μ,QQ,l,m,h1,k⟩:=h
    rw[l.length];exact len ds μ QQ h1
  · obtain ⟨ds,μ,QQ,l,m,h1,k⟩:=h
    obtain ⟨t,pt,stt⟩:=(hb cdv A outer s H E hroom).ex
    have hl:vs.length=ds.length:=l.length
    refine ⟨t,pt,stt (L2.start N vs) H (ini N.length ds) μ _ _ ⟨?_,fun i d e=>?_,m⟩ (hr ds μ QQ h1) ⟨fun σ' H' ρ' μ' t' r' q=>?_,fun v H' d μ' t' m' p' q=>?_,fun _ _ _ _ _ _ q=>q,fun _ _ _ _ _ _ q=>q⟩⟩
    · unfold ini L2.start;simp[hl]
    · have e':=vF ds _ i d e
      obtain ⟨v,e1,p⟩:=l.get e'
      refine ⟨v,?_,p⟩
      unfold L2.start
      have hi:i < vs.length:=(List.getElem?_eq_some_iff.mp e1).1
      rw[List.getElem?_append_left (by simpa using hi),List.getElem?_map,e1]
      rfl
    · obtain ⟨μ2,s2,q2⟩:=q
      exact k _ _ _ μ2 t' (r'.mu.sub s2) .non q2
    · obtain ⟨μ2,s2,q2⟩:=q
      exact k _ _ _ μ2 t' (m'.sub s2) p' q2
end
section
variable {X:Cx} {k:Nat} {f:Addr} {fd:FuncData} {ps:List Str} {sp:FSp} {x:Str} {p pos:Pos} {e:Expr} {es:List Expr} {At:ATr}
theorem uz (F:fN X.prog X.w X.K X.mg X.base CX0 k f fd ps (lift X.K sp))(hr:cx k X.A)(hg:Gl X x)(hm:X.mg x=some (.ref f))(hk:PySem.W.keepIn X.K (.ref f)=true)(hb:Binds X.K fd ps [])
    (ha:LA X (e::es) At) (hdb:(x == ("__debug__" : Str))=false:=by decide) (he:starEach (e::es) X.env=(false,eval e X.env)::starEach es X.env:=by rfl) (hpl:(backTo pos (starEach es X.env)).any (·.1)=false:=by rfl) :
    LE X (.Call (.Name x p) (e::es) [] pos) (ao sp At):=by
  obtain ⟨ta,pa,sa⟩:=ha.ex
  refine ⟨_,s9 F hr hg hm hk hb .nil xB pa hdb he hpl,fun σ H ρ μ Q Q' rl h k=>sa σ H ρ μ _ _ rl h fun xs H1 ds μ1 t1 m1 p1 h1=>?_⟩
  rw[List.append_nil]
  exact ⟨ds,μ1,Q,p1,m1,h1,k.go t1⟩
end
end
section
open PySem PySem.Spec PyProof.Rows L2
theorem DpL.ints {K:PySem.W.Frag}{H:Hp}:∀ ns:List Int,DpL K H (ns.map V.int) (ns.map D.int)
  | []=>.nil
  | n::r=>.cons (.int n) (DpL.ints r)
theorem SqF.only {K:PySem.W.Frag}{H:Hp}{a:Addr}{xs:List V}(hO:uc H)(h:SqL K H a xs):SqF K H a xs:=by
  rcases h with (h | h) | h
  · rcases hO a with z | ⟨o,ys,z⟩
    · rw[h] at z;cases z
    · rw[h] at z;cases z
  · exact .inl h
  · exact .inr h
theorem yq {l:PySem.W.OpenLaw}{k:Nat}{q:Program}{loose:List Str}{XP:(Str→Option Value)→Heap→Prop}{YP:World→Heap→Prop}{d:DefRec}{K:Params→PySem.W.Frag}{sp:FSp}{x:Str}
    (hn:l.most=some 63) (hdf:d.params.defaults=[]) (hr:cx k callerA) (hY:∀ (w:World) (h:Heap),YP w h→(K w.params).In h)
    (hl:∀ ns:List Int,ns.length≤63→∀ μ,sp [.ls (ns.map .int)] μ (fun d _=>d=.bl true))
    (F:∀ (w:World) (mg:Str→Option Value) (fa:Addr) (h:Heap),(K w.params).In h→h.Ns mainGlobals mg→mg d.name=some (.ref fa)→
      ∃ fd:FuncData,(∀ (s:Shared) (u:Value),BindsTo s fd ⟨[u],[]⟩ [(x,u)])∧∀ base:Heap,(K w.params).In base→base.Ns mainGlobals mg→fN l.prog w (K w.params) mg base CX0 k fa fd [x] (lift (K w.params) sp)) :
    PySem.W.WalkO q loose XP YP l.row.toRowW d [] (fun f vs=>PySem.call f vs):=
  L2.sW (n:=63) (k:=k) (x:=x) (CX:=fun _=>CX0) (sp:=fun w=>lift (K w.params) sp) hn (by decide) hdf hr hY F
    (fun w H a ns hl' hO hS=>⟨[.ls (ns.map .int)],fun _=>none,_,.cons (.ls (.only hO hS) (.ints ns)) .nil,(fun a o e=>by cases e),hl ns hl' _,fun v H' d μ' _ _ p e=>by
      have e':d=.bl true:=e
      subst e'
      cases p;rfl⟩) fun _ _ _ _ _ z=>z
end
section
open PySem PySem.Spec PyProof.Rows L2
structure aP (P:Program) (w:World) (K:PySem.W.Frag) (mg:Str→Option Value) (base:Heap) (k:Nat) (x:Str) (ps:List Str) (sp:FSp):Prop where
  ex:∃ f fd,fN P w K mg base CX0 k f fd ps (lift K sp)∧mg x=some (.ref f)∧PySem.W.keepIn K (.ref f)=true∧Binds K fd ps []
section
variable {P:Program} {w:World} {K:PySem.W.Frag} {mg:Str→Option Value} {base:Heap}
theorem aJ {x qual:Str}{st:Stmt}{f:Addr}{fd:FuncData}{N ps:List Str}{k:Nat}{sp:FSp}{T:STr}(m:mg x=some (.ref f))(F:Fun K x qual st f fd)(S:aE N ps (au st))(len:∀ ds μ Q,sp ds μ Q→ds.length=ps.length)
    (hr:∀ ds μ Q,sp ds μ Q→T { nx:=fun _ μ'=>RT Q .non μ',rt:=RT Q } (ini N.length ds) μ)
    (b:∀ (kV doc pm:Value) (an:Option Addr) (cdv ct:Value) (us:List Value),us.length=ps.length→bindArgs (PySem.W.fnOf x qual (gB st) (c6 st) (au st) .none kV doc pm an cdv ct) ⟨us,[]⟩=pure (ps.zip us))
    (hb:∀ (cdv:Value) (A:Around) (outer:List Env) (s:Shared) (H:Hp) (E:XK),cx k (A.deeper (envOfC qual (au st) s.heap.objs.size f cdv))→(A.deeper (envOfC qual (au st) s.heap.objs.size f cdv)).units+64 < cLine→
      LSs (mh CX0 P w K mg base N qual (au st) f cdv A outer s H E).nox (c6 st) T):aP P w K mg base (k+1) x ps sp:=
  ⟨f,fd,uR F S len (fun cdv A outer s H E h=>hb cdv A outer s H E h h.units) hr,m,F.kp,F.binds b⟩
end
theorem ak {X:Cx}{k n:Nat}{x:Str}{ps:List Str}{sp:FSp}{e:Expr}{es:List Expr}{At:ATr}{p pos:Pos}(C:aP X.prog X.w X.K X.mg X.base k x ps sp)(hr:cx n X.A)(hg:Gl X x)
    (ha:LA X (e::es) At) (hle:k≤n:=by decide) (hdb:(x == ("__debug__" : Str))=false:=by decide) (he:starEach (e::es) X.env=(false,eval e X.env)::starEach es X.env:=by rfl) (hpl:(backTo pos (starEach es X.env)).any (·.1)=false:=by rfl) :
    LE X (.Call (.Name x p) (e::es) [] pos) (ao sp At):=by
  obtain ⟨f,fd,F,m,kp,b⟩:=C.ex
  exact uz F (hr.mono hle) hg m kp b ha hdb he hpl
end
section
open PySem PySem.Spec PyProof.Rows L2
end
section
open PySem PySem.Spec PyProof.Rows L2
structure xk (K:PySem.W.Frag) (J:It) (H1:Hp) (ds:List D):Prop where
  go:∀ i H',Tk H1 H'→i < ds.length→J.go i H'
  yld:∀ i H' x H'',Tk H1 H'→i < ds.length→J.yld i H' x H''→Tk H' H''∧(∃ d,ds[i]? = some d∧Dp K H'' x d)∧∀ μ,cy K H' μ→cy K H'' μ
  stop:∀ i H',Tk H1 H'→ds.length≤i→J.stop i H'
def zc (K:PySem.W.Frag)(wi:TI)(It':ATr):Prop:=∀ σ H ρ μ (Q:List D→Mu→Prop) (R:It→Hp→Prop),Rl K σ H ρ μ→It' ρ μ Q→(∀ J H1 ds μ1,Tk H H1→cy K H1 μ1→xk K J H1 ds→Q ds μ1→R J H1)→wi σ H R
structure LI (X:Cx) (tg iter:Expr) (It':ATr):Prop where
  ex:∃ wi,PI X tg iter wi∧zc X.K wi It'
section
variable {X:Cx} {tg a b c e elt iter:Expr} {Ta Tb Te:ETr} {Tt:TTr} {pos:Pos} {It':ATr} {G:GTr}
theorem fP (lo:Int)(n:Nat):(ei lo n).length=n:=by unfold ei;simp
theorem rm {K:PySem.W.Frag}{H:Hp}(lo:Int)(n:Nat):xk K (Itr lo n) H (ei lo n) where
  go:=fun i H' t hi=>by rw[fP] at hi;exact hi
  yld:=fun i H' x H'' t hi ⟨e,y⟩=>by
    rw[fP] at hi
    subst e y
    exact ⟨.refl _,⟨.int (lo+i),by unfold ei;simp[hi],.int _⟩,fun _ m=>m⟩
  stop:=fun i H' t hi=>by rw[fP] at hi;exact hi
def ya (a:ETr):ATr:=fun ρ μ Q=>a ρ μ fun x μ1=>match x with
  | .tup ds=>Q ds μ1
  | _=>False
def ILs (a:ETr):ATr:=fun ρ μ Q=>a ρ μ fun x μ1=>match x with
  | .ls ds=>Q ds μ1
  | _=>False
theorem gQ {rp rpos:Pos}(hg:Gl X "range")(hm:X.mg "range" = none)(ha:LE X a Ta)(hs:starEach [a] X.env=[(false,eval a X.env)]:=by rfl):LI X tg (.Call (.Name "range" rp) [a] [] rpos) (c8 Ta):=by
  obtain ⟨ta,pa,sa⟩:=ha.ex
  refine ⟨_,pR hg hm (ir pa nT hs) hs,fun σ H ρ μ Q R rl h k=>sa σ H ρ μ _ _ rl h fun x H1 d μ1 t1 m1 p1 h1=>?_⟩
  cases p1 with
  | int j=>
    obtain ⟨⟨h2,h3⟩,h4⟩:=h1
    exact ⟨j,rfl,by simpa using h2,by simpa using h3,k _ H1 _ μ1 t1 m1 (rm 0 _) h4⟩
  | _=>exact False.elim h1
theorem xq {t1:TS}{T1:STr}{g:TG}{E:En}{E':Ends}{K:PySem.W.Frag}{H0 H1:Hp}{J:It}{ds:List D}(sg:vQ K g G)(s1:xf K t1 T1)(k:rJ K H0 E E')(Y:xk K J H1 ds){σ:L2.St}{ρ:ST}{μ:Mu}(t0:Tk H0 H1)(rl:Rl K σ H1 ρ μ)(h:forR G T1 E ds ρ μ) :
    ∃ W:Nat→Nat→L2.St→Hp→Prop,(∃ m,W 0 m σ H1)∧∀ i m σ H,W i m σ H→
      (J.stop i H∧E'.nx σ H)∨(J.go i H∧∃ N:L2.St→Hp→Prop,(∀ σ' H',N σ' H'→∃ m',m' < m∧W (i+1) m' σ' H')∧∀ x H',J.yld i H x H'→g x σ H' fun σ2 H2=>t1 { E' with nx:=N,ct:=N,bk:=E'.nx } σ2 H2):=by
  refine ⟨fun i m σ' H'=>m=ds.length - i∧i≤ds.length∧Tk H1 H'∧∃ ρ' μ',Rl K σ' H' ρ' μ'∧forR G T1 E (ds.drop i) ρ' μ',⟨ds.length,by simp,Nat.zero_le _,.refl _,ρ,μ,rl,by simpa using h⟩,?_⟩
  rintro i m σ1 H2 ⟨rfl,hi,t12,ρ1,μ1,r1,h1⟩
  by_cases hlt:i < ds.length
  · refine .inr ⟨Y.go i H2 t12 hlt,fun σ' H'=>Tk H1 H'∧∃ ρ' μ',Rl K σ' H' ρ' μ'∧forR G T1 E (ds.drop (i+1)) ρ' μ',fun σ' H' ⟨t',ρ',μ',r',h'⟩=>⟨ds.length - (i+1),by omega,rfl,hlt,t',ρ',μ',r',h'⟩,fun x H3 y=>?_⟩
    obtain ⟨t23,⟨d,ed,pd⟩,mk⟩:=Y.yld i H2 x H3 t12 hlt y
    have e:ds.drop i=d::ds.drop (i+1):=by
      refine (List.drop_eq_getElem_cons hlt).trans ?_
      congr 1
      rw[List.getElem?_eq_getElem hlt] at ed
      exact Option.some.inj ed
    rw[e] at h1
    have t13:=t12.trans t23
    refine sg σ1 H3 ρ1 μ1 _ _ _ _ (r1.go t23 (mk _ r1.mu)) pd h1 fun σ4 H4 ρ4 μ4 t4 r4 h4=>?_
    have t14:=t13.trans t4
    have t04:=t0.trans t14
    exact s1 σ4 H4 ρ4 μ4 _ _ r4 h4 ⟨fun σ' H' ρ' μ' t' r' q=>⟨t14.trans t',ρ',μ',r',q⟩,(k.go t04).rt,(k.go t04).nx,fun σ' H' ρ' μ' t' r' q=>⟨t14.trans t',ρ',μ',r',q⟩⟩
  · have e:i=ds.length:=by omega
    subst e
    rw[List.drop_length] at h1
    exact .inl ⟨Y.stop _ H2 t12 (Nat.le_refl _),k.nx _ _ _ _ (t0.trans t12) r1 h1⟩
theorem mR {body:List Stmt}{T1:STr}(hp:PassesOwn (model X.prog X.w) X.A X.env X.xe)(hc:X.calm=true)(hi:LI X tg iter It')(hG:LG X tg G)(hb:LSs X body T1)(hf:∀ x,foldedSetIterable iter X.env x=pure x:=by intro _;rfl) :
    LS X (.For tg iter body [] pos) (lS It' G T1):=by
  obtain ⟨wi,pi,si⟩:=hi.ex
  obtain ⟨g,pg,sg⟩:=hG.ex
  obtain ⟨t1,p1,s1⟩:=hb.ex
  exact ⟨_,wI hp hc pi pg p1 hf,fun σ H ρ μ E E' rl h k=>si σ H ρ μ _ _ rl h fun J H1 ds μ1 t1' m1 Y h1=>xq sg s1 k Y t1' (rl.go t1' m1) h1⟩
def xv (K:PySem.W.Frag)(T:ETr):TE:=fun σ H Q'=>∃ ρ μ Q,Rl K σ H ρ μ∧T ρ μ Q∧eI K H Q Q'
theorem LE.pe (h:LE X e Te):PE X e (xv X.K Te):=by
  obtain ⟨t,p,s⟩:=h.ex
  exact fun pins st σ H Q I ⟨ρ,μ,Q0,rl,hT,k⟩=>p pins st σ H Q I (s σ H ρ μ Q0 Q rl hT k)
end
end
section
open PySem PySem.Spec PyProof.Rows L2
section
variable {X:Cx} {tg a b c e elt iter:Expr} {Ta Tb Te:ETr} {Tt:TTr} {pos:Pos} {It':ATr} {G:GTr}
end
end
section
open PySem PySem.Spec PyProof.Rows L2
def GV (K:PySem.W.Frag)(mg:Str→Option Value)(x:Str)(d:D):Prop:=∃ u v,mg x=some u∧RelV v u∧∀ H,Dp K H v d
theorem dF {X:Cx}{x:Str}{pos:Pos}{d:D}(hg:Gl X x)(h:GV X.K X.mg x d)(hd:(x == ("__debug__" : Str))=false:=by decide):LE X (.Name x pos) (TC d):=by
  obtain ⟨u,v,hm,r,p⟩:=h
  exact ⟨_,ko hg hm r hd,fun σ H ρ μ Q Q' rl h k=>k v H d μ (.refl H) rl.mu (p H) h⟩
section
variable {K:PySem.W.Frag} {h:Heap} {mg:Str→Option Value} {x:Str}
theorem xl {i:Int}{t:Tok}(X:K.In h)(G:h.Ns mainGlobals mg)(a:PySem.W.nsIn K mainGlobals x=some (some (.int i t))):GV K mg x (.int i):=⟨_,.int i,PySem.W.mg_of X G a,⟨t,rfl⟩,fun _=>.int i⟩
theorem qI {p:Addr}{o:Obj}{its:Array Value}{n:Nat}{xs:List V}{ds:List D}(X:K.In h)(G:h.Ns mainGlobals mg)(a:PySem.W.nsIn K mainGlobals x=some (some (.ref p)))(l:K.lookup p=some o)(c:o.cls=.type "tuple")(dn:o.dict=none)(d:o.data=.seq its n)
    (z:its.size≤sizeLine) (r:Vals xs its.toList) (q:∀ H,DpL K H xs ds):GV K mg x (.tup ds):=⟨_,.ref p,PySem.W.mg_of X G a,rfl,fun H=>.tup (.inr ⟨o,its,n,l,c,dn,d,z,r⟩) (q H)⟩
end
def nB:ST→List Nat→List D→ST
  | ρ,i::is,d::ds=>nB (ρ.set i (some d)) is ds
  | ρ,_,_=>ρ
def za (is:List Nat):GTr:=fun d ρ μ k=>match d with
  | .tup ds=>ds.length=is.length∧k (nB ρ is ds) μ
  | _=>False
section
variable {X:Cx} {e tg:Expr} {es:List Expr} {is:List Nat} {pos:Pos} {x:Str} {Ta:ETr} {G:GTr}
end
end
section
open PySem PySem.Spec PyProof.Rows L2
def q9 (tp:Bool)(h:Heap)(it a:Addr)(i:Nat):Prop:=match tp with
  | true=>h.IsTupleIter it a i
  | false=>h.IsListIter it a i
def ui (tp:Bool)(h:Heap)(a:Addr)(xs:Array Value):Prop:=match tp with
  | true=>h.IsTuple a xs
  | false=>h.IsList a xs
theorem q9.at {tp:Bool}{h g:Heap}{it a:Addr}{i:Nat}(x:q9 tp h it a i)(k:∀ o,h.get? it=some o→g.get? it=some o):q9 tp g it a i:=by
  cases tp with
  | true=>obtain ⟨o,e,r⟩:=x;exact ⟨o,k o e,r⟩
  | false=>obtain ⟨o,e,r⟩:=x;exact ⟨o,k o e,r⟩
theorem ui.at {tp:Bool}{h g:Heap}{a:Addr}{xs:Array Value}(x:ui tp h a xs)(k:∀ o,h.get? a=some o→g.get? a=some o):ui tp g a xs:=by
  cases tp with
  | true=>obtain ⟨o,e,r⟩:=x;exact ⟨o,k o e,r⟩
  | false=>obtain ⟨o,e,r⟩:=x;exact ⟨o,k o e,r⟩
theorem q9.ex {tp:Bool}{h:Heap}{it a:Addr}{i:Nat}(x:q9 tp h it a i):∃ o,h.get? it=some o∧∃ vs,o.data=.fields vs:=by
  cases tp with
  | true=>obtain ⟨o,e,_,d⟩:=x;exact ⟨o,e,_,d⟩
  | false=>obtain ⟨o,e,_,d⟩:=x;exact ⟨o,e,_,d⟩
section
variable {prog:Program} {w:World} {A:Around} {E:Value→Shared→Prop} {s:Shared}
end
def Sq (tp:Bool)(K:PySem.W.Frag)(H:Hp)(a:Addr)(xs:List V):Prop:=match tp with
  | true=>SqT K H a xs
  | false=>SqF K H a xs
theorem Inv.sq {X:Cx}{pins:List (Addr×Obj)}{σ:L2.St}{H:Hp}{s:Shared}{tp:Bool}{a:Addr}{xs:List V}(I:Inv X pins σ H s)(h:Sq tp X.K H a xs):∃ its:List Value,Vals xs its∧ui tp s.heap a its.toArray:=by
  cases tp with
  | true=>obtain ⟨its,r,p,_⟩:=I.tuple h;exact ⟨its,r,p⟩
  | false=>
    obtain ⟨its,r,⟨o,n,e1,e2,_,e3⟩,_⟩:=I.list (SqF.sq h)
    exact ⟨its,r,o,e1,e2,n,e3⟩
section
variable {X:Cx} {ea eb:Expr} {es:List Expr} {ek:Nat} {ep p pos:Pos}
theorem Tk.sq {K:PySem.W.Frag}{H H':Hp}{tp:Bool}{a:Addr}{xs:List V}(t:Tk H H')(h:Sq tp K H a xs):Sq tp K H' a xs:=by
  cases tp with
  | true=>exact t.sqT h
  | false=>exact t.sqF h
end
end
section
open PySem PySem.Spec PyProof.Rows L2
def kObj (x:D)(f:Addr→Prop):Prop:=match x with
  | .obj a=>f a
  | _=>False
theorem i2 (a:Addr)(f):kObj (.obj a) f=f a:=rfl
section
variable {X:Cx} {o a b c e:Expr} {To Ta Tb Tc Te T T':ETr} {pos:Pos}
theorem nr {K:PySem.W.Frag}{H:Hp}{μ:Mu}{q:Addr}{ys:List V}{ds:List D}(m:cy K H μ)(hq:H q=none)(l:DpL K H ys ds):cy K (L2.upd H q (.lst ys)) (up μ q (.lst ds)):=fun z y ez=>by
  by_cases zq:z=q
  · subst zq
    rw[bS] at ez;cases ez
    exact ⟨ys,aV,l.mono (.new hq)⟩
  · rw[dZ zq] at ez
    exact eU m hq z y ez
def vq (T:ETr):ETr:=fun ρ μ Q=>T ρ μ fun x μ1=>kObj x fun a=>kL μ1 a fun ds=>Q (.ls ds) (dn μ1 a)
def vm (To Te:ETr):ETr:=fun ρ μ Q=>To ρ μ fun x μ1=>kObj x fun a=>kL μ1 a fun _=>Te ρ μ1 fun y μ2=>kL μ2 a fun ds=>ds.length < 1000000∧Q .non (up μ2 a (.lst (ds++[y])))
def fM:FSp:=fun ds μ Q=>match ds with
  | [.tup xs]=>Q (.tup xs) μ
  | [.ls xs]=>Q (.tup xs) μ
  | [.obj a]=>kL μ a fun xs=>Q (.tup xs) μ
  | _=>False
theorem pB {K:PySem.W.Frag}:jC K (fun xs H Q=>∃ p ys,xs=[.ref p]∧((SqL K H p ys∧∀ l,H l=none→Q (.ref l) (L2.upd H l (.tup ys)))∨(SqT K H p ys∧Q (.ref p) H))) fM:=fun H μ xs ds Q Q' m p h k=>by
  unfold fM at h
  split at h
  · cases p with | cons p1 p2=>cases p2;cases p1 with | tup q l=>exact ⟨_,_,rfl,.inr ⟨q,k _ H _ μ (.refl H) m (.tup q l) h⟩⟩
  · cases p with | cons p1 p2=>cases p2;cases p1 with | ls q l=>exact ⟨_,_,rfl,.inl ⟨q.sq,fun z hz=>k _ _ _ μ (.new hz) (eU m hz) (.tup (SqT.of aV) (l.mono (.new hz))) h⟩⟩
  · rename_i q
    cases p with | cons p1 p2=>
    cases p2;cases p1
    obtain ⟨ys,e0,h⟩:=gP h
    obtain ⟨xs,ex,l⟩:=m q _ e0
    exact ⟨_,_,rfl,.inl ⟨SqL.of ex,fun z hz=>k _ _ _ μ (.new hz) (eU m hz) (.tup (SqT.of aV) (l.mono (.new hz))) h⟩⟩
  · exact False.elim h
def fK:FSp:=fun ds μ Q=>match ds with
  | [.tup xs]=>∀ p,μ p=none→Q (.obj p) (up μ p (.lst xs))
  | [.ls xs]=>∀ p,μ p=none→Q (.obj p) (up μ p (.lst xs))
  | [.obj a]=>kL μ a fun xs=>∀ p,μ p=none→Q (.obj p) (up μ p (.lst xs))
  | _=>False
theorem pk {K:PySem.W.Frag}:jC K (fun xs H Q=>∃ p ys,xs=[.ref p]∧(SqL K H p ys∨SqT K H p ys)∧∀ l,H l=none→Q (.ref l) (L2.upd H l (.lst ys))) fK:=fun H μ xs ds Q Q' m p h k=>by
  unfold fK at h
  split at h
  · cases p with | cons p1 p2=>cases p2;cases p1 with | tup q l=>exact ⟨_,_,rfl,.inr q,fun z hz=>k _ _ _ _ (.new hz) (nr m hz l) (.obj _) (h z (m.free hz))⟩
  · cases p with | cons p1 p2=>cases p2;cases p1 with | ls q l=>exact ⟨_,_,rfl,.inl q.sq,fun z hz=>k _ _ _ _ (.new hz) (nr m hz l) (.obj _) (h z (m.free hz))⟩
  · rename_i q
    cases p with | cons p1 p2=>
    cases p2;cases p1
    obtain ⟨ys,e0,h⟩:=gP h
    obtain ⟨xs,ex,l⟩:=m q _ e0
    exact ⟨_,_,rfl,.inl (SqL.of ex),fun z hz=>k _ _ _ _ (.new hz) (nr m hz l) (.obj _) (h z (m.free hz))⟩
  · exact False.elim h
def oe:FSp:=fun ds μ Q=>match ds with
  | [.tup xs]=>Q (.ls xs) μ
  | [.ls xs]=>Q (.ls xs) μ
  | [.obj a]=>kL μ a fun xs=>Q (.ls xs) μ
  | _=>False
def xM (Q:VK):VK:=fun v H1=>∃ a xs,v=.ref a∧H1 a=some (.lst xs)∧∀ o,Q v (L2.upd H1 a (.frz o (.lst xs)))
theorem tU {K:PySem.W.Frag}{H:Hp}{μ:Mu}{ys:List V}{ds:List D}{Q:DK}{Q':VK}{z:Addr}(m:cy K H μ)(l:DpL K H ys ds)(h:Q (.ls ds) μ)(k:eI K H Q Q')(hz:H z=none):xM Q' (.ref z) (L2.upd H z (.lst ys)):=
  ⟨z,ys,rfl,aV,fun o=>by
    have e:L2.upd (L2.upd H z (.lst ys)) z (.frz o (.lst ys))=L2.upd H z (.frz o (.lst ys)):=ot
    rw[e]
    exact k _ _ _ μ (.new hz) (eU m hz) (.ls (.inl ⟨o,aV⟩) (l.mono (.new hz))) h⟩
def d6:D→Bool
  | .non=>true
  | .bl _=>true
  | .int _=>true
  | .str _=>true
  | _=>false
def inD (x:D)(xs:List D):Bool:=xs.any fun y=>eqD y x
def rIn (neg:Bool):DR2:=fun x y μ Q=>match y with
  | .tup xs=>(d6 x=true∧xs.all d6=true)∧Q (.bl (if neg then !inD x xs else inD x xs)) μ
  | .ls xs=>(d6 x=true∧xs.all d6=true)∧Q (.bl (if neg then !inD x xs else inD x xs)) μ
  | .obj a=>kL μ a fun xs=>(d6 x=true∧xs.all d6=true)∧Q (.bl (if neg then !inD x xs else inD x xs)) μ
  | _=>False
end
end
section
open PySem PySem.Spec PyProof.Rows L2
section
variable {X:Cx} {a b e:Expr} {Ta Tb T:ETr} {pos:Pos}
def yk (t:TE):TE:=fun σ H Q=>t σ H fun v H1=>Q v H1∨xM Q v H1
theorem uu {t:TE}(h:PE X e t):PE X e (yk t):=by
  have g:PE X e (fun σ H Q=>∃ P:VK,xx t σ H P∧∀ v H',P v H'→Q v H'):=fun pins s σ H Q I ⟨P,hP,k⟩=>
    thn (qk h pins s σ H P I hP) fun u s1 ⟨v,H1,I1,r,q⟩=>⟨v,H1,I1,r,k _ _ q⟩
  intro pins s σ H Q I hh
  refine thn (h pins s σ H _ I hh) fun u s1 ⟨v,H1,I1,r,q⟩=>?_
  rcases q with q | ⟨c,xs,rfl,ec,q⟩
  · exact ⟨v,H1,I1,r,q⟩
  · have hz:=I1.hok c _ ec
    obtain ⟨z,its,n,rv,hg⟩:=hz
    have nl:∀ d o,H1 d=some o→(∀ ys,o≠.lst ys)→d≠c:=fun d o e1 e2 w=>by subst w;rw[ec] at e1;cases e1;exact e2 _ rfl
    refine ⟨.ref c,_,I1.un (h':=s1.heap) (t':=s1.toks) (H':=L2.upd H1 c (.frz { cls:=.type "list", data:=.seq its.toArray n } (.lst xs))) ⟨fun d o e _ _ _=>e,fun d o e _ _ _=>⟨o.slots,e⟩,fun d o e w _=>?_,fun d o e _=>⟨o,e⟩,fun d ys e=>?_,fun d o u e=>?_,fun d ps e=>⟨#[],?_⟩⟩ (fun d u e=>?_),r,q _⟩
    · rw[aF (fun z=>by subst z;rw[ec] at w;cases w)];exact w
    · rw[aF (nl d _ e (fun _=>nofun))];exact e
    · rw[aF (nl d _ e (fun _=>nofun))];exact e
    · rw[aF (nl d _ e (fun _=>nofun)),e];simp
    · by_cases hd:d=c
      · subst hd
        rw[aV] at e;cases e
        exact ⟨hg,z,its,n,rv,hg⟩
      · rw[aF hd] at e
        refine (I1.hok d u e).mB (fun k w _ q=>q) (fun k q=>?_) fun k ys q=>?_
        · rw[aF (nl k _ q (fun _=>nofun))];exact q
        · rw[aF (nl k _ q (fun _=>nofun))];exact q
def uS (K:PySem.W.Frag):R2:=fun x y H Q=>∃ p q ys,x=.ref p∧y=.ref q∧SqT K H p []∧SqT K H q ys∧Q (.ref q) H
theorem sP:OpR X (binaryOp .Add) (uS X.K):=fun pins s σ H x y v u Q I rx ry ⟨p,q,ys,e1,e2,hp,hq,h⟩=>by
  subst e1 e2
  cases rx
  cases ry
  obtain ⟨its,r1,p1,_⟩:=I.tuple hp
  obtain ⟨its2,r2,p2,_⟩:=I.tuple hq
  cases r1
  obtain ⟨⟨c1,d1,t1,l1⟩,ho,hc,n,hd⟩:=id p1
  obtain ⟨⟨c2,d2,t2,l2⟩,ho2,hc2,n2,hd2⟩:=id p2
  simp only at hc hd hc2 hd2
  subst hc hd hc2 hd2
  exact concat_meets ⟨_,ho,rfl⟩ ⟨_,ho2,rfl⟩ noFill_tuple_add seq_tuple_add PySem.F.slot_tuple_add PySem.F.entry_tuple_add (PySem.F.args_tuple_add_2 _ _)
    (tuple_addW0 p q #[] its2.toArray n n2 d1 d2 l1 l2 rfl) ⟨ho,ho2,⟨.ref q,H,I,rfl,h⟩⟩
def uL (K:PySem.W.Frag):R2:=fun x y H Q=>∃ p q xs ys,x=.ref p∧y=.ref q∧SqL K H p xs∧SqL K H q ys∧xs.length+ys.length≤sizeLine∧∀ z,H z=none→Q (.ref z) (L2.upd H z (.lst (xs++ys)))
theorem tN:OpR X (binaryOp .Add) (uL X.K):=fun pins s σ H x y v u Q I rx ry ⟨p,q,xs,ys,e1,e2,hp,hq,hz,h⟩=>by
  subst e1 e2
  cases rx
  cases ry
  obtain ⟨its,r1,p1,_⟩:=I.list hp
  obtain ⟨its2,r2,p2,_⟩:=I.list hq
  obtain ⟨⟨c1,d1,t1,l1⟩,n,ho,hc,hx,hd⟩:=id p1
  obtain ⟨⟨c2,d2,t2,l2⟩,n2,ho2,hc2,hx2,hd2⟩:=id p2
  simp only at hc hd hc2 hd2
  subst hc hd hc2 hd2
  have z1:=r1.length
  have z2:=r2.length
  refine concat_meets ⟨_,ho,rfl⟩ ⟨_,ho2,rfl⟩ PySem.noFill_list_add PySem.seq_list_add PySem.F.slot_list_add PySem.F.entry_list_add (PySem.F.args_list_add_2 _ _)
    (list_addW p q its.toArray its2.toArray n n2 d1 d2 l1 l2 (by rw[List.size_toArray,List.size_toArray];omega)) ⟨ho,ho2,?_⟩
  have ea:its.toArray++its2.toArray=(its++its2).toArray:=by simp
  rw[ea]
  exact ⟨.ref _,_,I.yY (t':=s.toks) (r1.append r2) (by rw[List.length_append];omega),rfl,h _ I.fresh⟩
def ba:DR2:=fun x y μ Q=>match x,y with
  | .int i,.int j=>Q (.int (i+j)) μ
  | .str i,.str j=>i.length+j.length≤1000000∧Q (.str (i++j)) μ
  | .tup a,.tup b=>a.length+b.length≤1000000∧Q (.tup (a++b)) μ
  | .ls a,.ls b=>a.length+b.length≤1000000∧Q (.ls (a++b)) μ
  | _,_=>False
def rPl (K:PySem.W.Frag):R2:=fun x y H Q=>(rI0 fun i j=>.int (i+j)) x y H Q∨(∃ i j,x=.str i∧y=.str j∧i.length+j.length≤sizeLine∧Q (.str (i++j)) H)∨va K x y H Q∨uS K x y H Q∨uL K x y H Q
theorem tW:OpR X (binaryOp .Add) (rPl X.K):=fun pins s σ H x y v u Q I rx ry h=>by
  rcases h with h | h | h | h | h
  · exact wm pins s σ H x y v u Q I rx ry h
  · exact n9 pins s σ H x y v u Q I rx ry h
  · exact tJ pins s σ H x y v u Q I rx ry h
  · exact sP pins s σ H x y v u Q I rx ry h
  · exact tN pins s σ H x y v u Q I rx ry h
theorem aS (ha:LE X a Ta)(hb:LE X b Tb):LE X (.BinOp a .Add b pos) (aj ba Ta Tb):=by
  obtain ⟨ta,pa,sa⟩:=ha.ex
  obtain ⟨tb,pb,sb⟩:=hb.ex
  refine ⟨_,uu (uV tW pa pb),fun σ H ρ μ Q Q' rl h k=>sa σ H ρ μ _ _ rl h fun x H1 dx μ1 t1 m1 p1 h1=>sb σ H1 ρ μ1 _ _ (rl.go t1 m1) h1 fun y H2 dy μ2 t2 m2 p2 h2=>?_⟩
  have p1:=p1.mono t2
  have k:=k.go (t1.trans t2)
  cases p1 with
  | int i=>
    cases p2 with
    | int j=>exact .inl ⟨i,j,rfl,rfl,.inl (k _ H2 _ μ2 (.refl H2) m2 (.int _) h2)⟩
    | _=>exact False.elim h2
  | str i=>
    cases p2 with
    | str j=>exact .inr (.inl ⟨i,j,rfl,rfl,big h2.1,.inl (k _ H2 _ μ2 (.refl H2) m2 (.str _) h2.2)⟩)
    | _=>exact False.elim h2
  | @tup q xs ds sq l=>
    cases p2 with
    | @tup q' ys es sq' l'=>
      obtain ⟨hz,h3⟩:=h2
      by_cases hx:xs=[]
      · subst hx
        cases l
        exact .inr (.inr (.inr (.inl ⟨q,q',ys,rfl,rfl,sq,sq',.inl (k _ H2 _ μ2 (.refl H2) m2 (.tup sq' l') h3)⟩)))
      · refine .inr (.inr (.inl ⟨q,q',xs,ys,rfl,rfl,sq,sq',hx,by rw[l.length,l'.length];exact big hz,fun hy=>?_,fun _ z hzn=>.inl ?_⟩))
        · subst hy
          cases l'
          rw[List.append_nil] at h3
          exact .inl (k _ H2 _ μ2 (.refl H2) m2 (.tup sq l) h3)
        · exact k _ _ _ μ2 (.new hzn) (eU m2 hzn) (.tup (SqT.of aV) ((l.append l').mono (.new hzn))) h3
    | _=>exact False.elim h2
  | @ls q xs ds sq l=>
    cases p2 with
    | @ls q' ys es sq' l'=>exact .inr (.inr (.inr (.inr ⟨q,q',xs,ys,rfl,rfl,sq.sq,sq'.sq,by rw[l.length,l'.length];exact big h2.1,fun z hz=>.inr (tU m2 (l.append l') h2.2 k hz)⟩)))
    | _=>exact False.elim h2
  | _=>cases p2<;>exact False.elim h2
abbrev OTr:=ST→Mu→(Option Int→Mu→Prop)→Prop
def ONo:OTr:=fun _ μ Q=>Q none μ
def w4 (T:ETr):OTr:=fun ρ μ Q=>T ρ μ fun x μ1=>kI x fun i=>Q (some i) μ1
def cutD {α:Type}(xs:List α)(lo hi:Option Int):List α:=(xs.drop (HT.sIx xs.length 0 lo)).take (HT.sIx xs.length xs.length hi - HT.sIx xs.length 0 lo)
theorem DpL.take {K:PySem.W.Frag}{H:Hp}:∀ {vs:List V} {ds:List D} (n:Nat),DpL K H vs ds→DpL K H (vs.take n) (ds.take n)
  | _,_,0,_=>.nil
  | _,_,_+1,.nil=>.nil
  | _,_,n+1,.cons h l=>.cons h (DpL.take n l)
theorem DpL.drop {K:PySem.W.Frag}{H:Hp}:∀ {vs:List V} {ds:List D} (n:Nat),DpL K H vs ds→DpL K H (vs.drop n) (ds.drop n)
  | _,_,0,l=>l
  | _,_,_+1,.nil=>.nil
  | _,_,n+1,.cons _ l=>DpL.drop n l
def rSl:D→Option Int→Option Int→Mu→DK→Prop:=fun x lo hi μ Q=>match x with
  | .tup xs=>Q (.tup (cutD xs lo hi)) μ
  | .ls xs=>Q (.ls (cutD xs lo hi)) μ
  | .obj a=>kL μ a fun xs=>Q (.ls (cutD xs lo hi)) μ
  | _=>False
def TSl (a:ETr)(lo hi:OTr):ETr:=fun ρ μ Q=>a ρ μ fun x μ1=>lo ρ μ1 fun l μ2=>hi ρ μ2 fun h μ3=>rSl x l h μ3 Q
end
end
section
open PySem PySem.Spec PyProof.Rows L2
end
section
open PySem PySem.Spec PyProof.Rows L2
theorem _root_.L2.Inv.frz {X:Cx}{pins:List (Addr×Obj)}{σ:L2.St}{H:Hp}{s:Shared}{c:Addr}{xs:List V}(I1:Inv X pins σ H s)(ec:H c=some (.lst xs)):∃ o,Inv X pins σ (L2.upd H c (.frz o (.lst xs))) s:=by
  obtain ⟨z,its,n,rv,hg⟩:=I1.hok c _ ec
  have nl:∀ d o,H d=some o→(∀ ys,o≠.lst ys)→d≠c:=fun d o e1 e2 w=>by subst w;rw[ec] at e1;cases e1;exact e2 _ rfl
  refine ⟨_,I1.un (h':=s.heap) (t':=s.toks) (H':=L2.upd H c (.frz { cls:=.type "list", data:=.seq its.toArray n } (.lst xs))) ⟨fun d o e _ _ _=>e,fun d o e _ _ _=>⟨o.slots,e⟩,fun d o e w _=>?_,fun d o e _=>⟨o,e⟩,fun d ys e=>?_,fun d o u e=>?_,fun d ps e=>⟨#[],?_⟩⟩ (fun d u e=>?_)⟩
  · rw[aF (fun z=>by subst z;rw[ec] at w;cases w)];exact w
  · rw[aF (nl d _ e (fun _=>nofun))];exact e
  · rw[aF (nl d _ e (fun _=>nofun))];exact e
  · rw[aF (nl d _ e (fun _=>nofun)),e];simp
  · by_cases hd:d=c
    · subst hd
      rw[aV] at e;cases e
      exact ⟨hg,z,its,n,rv,hg⟩
    · rw[aF hd] at e
      refine (I1.hok d u e).mB (fun k w _ q=>q) (fun k q=>?_) fun k ys q=>?_
      · rw[aF (nl k _ q (fun _=>nofun))];exact q
      · rw[aF (nl k _ q (fun _=>nofun))];exact q
end
section
open PySem PySem.Spec PyProof.Rows L2
section
variable {X:Cx} {ea:Expr} {es:List Expr} {ek:Nat} {ep p pos:Pos}
def uJ (ds:List D):List D:=(List.range ds.length).zipWith (fun i d=>.tup [.int (i:Nat),d]) ds
def yp (t:ATr):ATr:=fun ρ μ Q=>t ρ μ fun vs μ1=>match vs with
  | [.ls ds]=>Q (uJ ds) μ1
  | _=>False
variable {eb:Expr} {tg:Expr} {Ta Tb:ETr}
end
end
section
open PySem PySem.Spec PyProof PyProof.Rows L2
section
variable {X:Cx} {a b:Expr} {Ta Tb:ETr} {pos:Pos}
end
end
theorem la (i j:Int)(μ Q):ba (.int i) (.int j) μ Q=Q (.int (i+j)) μ:=rfl
theorem lq (i j:Str)(μ Q):ba (.str i) (.str j) μ Q=(i.length+j.length≤1000000∧Q (.str (i++j)) μ):=rfl
theorem lG (a b:List D)(μ Q):ba (.tup a) (.tup b) μ Q=(a.length+b.length≤1000000∧Q (.tup (a++b)) μ):=rfl
theorem kx (a b:List D)(μ Q):ba (.ls a) (.ls b) μ Q=(a.length+b.length≤1000000∧Q (.ls (a++b)) μ):=rfl
theorem iX (a:List D)(μ Q):fM [.tup a] μ Q=Q (.tup a) μ:=rfl
theorem iQ (a:List D)(μ Q):fM [.ls a] μ Q=Q (.tup a) μ:=rfl
theorem iB (a:Addr)(μ Q):fM [.obj a] μ Q=kL μ a fun xs=>Q (.tup xs) μ:=rfl
theorem iP (a:List D)(μ Q):oe [.tup a] μ Q=Q (.ls a) μ:=rfl
theorem iH (a:List D)(μ Q):oe [.ls a] μ Q=Q (.ls a) μ:=rfl
theorem jz (a:Addr)(μ Q):oe [.obj a] μ Q=kL μ a fun xs=>Q (.ls xs) μ:=rfl
theorem jn (a:List D)(μ Q):fK [.tup a] μ Q = ∀ p,μ p=none→Q (.obj p) (up μ p (.lst a)):=rfl
theorem iW (a:List D)(μ Q):fK [.ls a] μ Q = ∀ p,μ p=none→Q (.obj p) (up μ p (.lst a)):=rfl
theorem js (a:Addr)(μ Q):fK [.obj a] μ Q=kL μ a fun xs=>∀ p,μ p=none→Q (.obj p) (up μ p (.lst xs)):=rfl
theorem rN (a:List D)(lo hi)(μ Q):rSl (.tup a) lo hi μ Q=Q (.tup (cutD a lo hi)) μ:=rfl
theorem sL (a:List D)(lo hi)(μ Q):rSl (.ls a) lo hi μ Q=Q (.ls (cutD a lo hi)) μ:=rfl
theorem rq (a:Addr)(lo hi)(μ Q):rSl (.obj a) lo hi μ Q=kL μ a fun xs=>Q (.ls (cutD xs lo hi)) μ:=rfl
theorem sD (n:Bool)(x:D)(a:List D)(μ Q):L3.rIn n x (.tup a) μ Q=((d6 x=true∧a.all d6=true)∧Q (.bl (if n then !inD x a else inD x a)) μ):=rfl
theorem rS (n:Bool)(x:D)(a:List D)(μ Q):L3.rIn n x (.ls a) μ Q=((d6 x=true∧a.all d6=true)∧Q (.bl (if n then !inD x a else inD x a)) μ):=rfl
theorem qG (n:Bool)(x:D)(a:Addr)(μ Q):L3.rIn n x (.obj a) μ Q=kL μ a fun xs=>(d6 x=true∧xs.all d6=true)∧Q (.bl (if n then !inD x xs else inD x xs)) μ:=rfl
theorem nE (a:Addr)(μ Q):cE [.obj a] μ Q=kL μ a fun xs=>Q (.int xs.length) μ:=rfl
theorem mT (x:Str)(μ Q):cE [.str x] μ Q=(x.length≤1000000∧Q (.int x.length) μ):=rfl
theorem qH (μ Q):rIs .non .non μ Q=Q (.bl true) μ:=rfl
theorem qr (i:Int)(μ Q):rIs (.int i) .non μ Q=Q (.bl false) μ:=rfl
theorem pZ (i:List D)(μ Q):rIs (.tup i) .non μ Q=Q (.bl false) μ:=rfl
theorem jc (μ Q):nK .non .non μ Q=Q (.bl false) μ:=rfl
theorem i4 (i:Int)(μ Q):nK (.int i) .non μ Q=Q (.bl true) μ:=rfl
theorem i5 (i:List D)(μ Q):nK (.tup i) .non μ Q=Q (.bl true) μ:=rfl
theorem nG (c:String)(i:List D)(μ Q):cT c (.ls i) μ Q=Q (.bl (cw "list" c)) μ:=rfl
theorem n5 (c:String)(i:Str)(μ Q):cT c (.str i) μ Q=Q (.bl (cw "str" c)) μ:=rfl
theorem nz (c:String)(μ Q):cT c .non μ Q=Q (.bl (cw "NoneType" c)) μ:=rfl
theorem br (k:Nat)(ds:List D):atD ds (k:Int)=ds[k]?:=by
  unfold atD L2.atI L2.ixN
  rw[if_pos (Int.natCast_nonneg k)]
  by_cases h:k < ds.length
  · rw[if_pos (by omega)];simp
  · rw[if_neg (by omega)];simp;omega
theorem mD (ds:List D):atD ds 0=ds[0]?:=br 0 ds
theorem mx (ds:List D):atD ds 1=ds[1]?:=br 1 ds
theorem me (ds:List D):atD ds 2=ds[2]?:=br 2 ds
theorem l6 (ds:List D):atD ds 3=ds[3]?:=br 3 ds
theorem oX (ds:List D):atD ds 4=ds[4]?:=br 4 ds
theorem oR (ds:List D):atD ds 5=ds[5]?:=br 5 ds
theorem iu (n k:Nat):L2.ixN n (k:Int)=if k < n then some k else none:=by
  unfold L2.ixN
  rw[if_pos (Int.natCast_nonneg k)]
  by_cases h:k < n
  · rw[if_pos (by omega),if_pos h];simp
  · rw[if_neg (by omega),if_neg h]
theorem rg (n:Nat):L2.ixN n 0=if 0 < n then some 0 else none:=iu n 0
theorem qU (n:Nat):L2.ixN n 1=if 1 < n then some 1 else none:=iu n 1
theorem sI (n:Nat):L2.ixN n 2=if 2 < n then some 2 else none:=iu n 2
theorem fQ:cw "int" "int" = true:=by decide
theorem gw:cw "int" "bool" = false:=by decide
theorem gI:cw "bool" "bool" = true:=by decide
theorem gk:cw "bool" "int" = true:=by decide
theorem fW:cw "tuple" "tuple" = true:=by decide
theorem gC:cw "int" "tuple" = false:=by decide
theorem f7:cw "bool" "tuple" = false:=by decide
theorem fm0 {a n:Int}(h:0 < n):0≤a.fmod n:=Int.fmod_nonneg_of_pos a h
theorem fm1 {a n:Int}(h:0 < n):a.fmod n < n:=Int.fmod_lt_of_pos a h
theorem sH (A B:Prop):kIf true A B=A:=rfl
theorem rR (A B:Prop):kIf false A B=B:=rfl
theorem rP (p:Prop) [Decidable p] (A B:Prop):kIf (decide p) A B=if p then A else B:=by by_cases h:p<;>simp[h,kIf]
theorem rQ (c:Bool)(A B:Prop):kIf (!c) A B=kIf c B A:=by cases c<;>rfl
theorem rF (c:Bool)(f):kB (.bl c) f=f c:=rfl
theorem nJ (c:Int)(f):kI (.int c) f=f c:=rfl
theorem iA (c:D)(f):kO (some c) f=f c:=rfl
theorem nU (c:List D)(f):kS (.tup c) f=f c:=rfl
theorem qW (c:List D)(f):kS (.ls c) f=f c:=rfl
theorem kR (a b:D)(f):k2 [a,b] f=f a b:=rfl
theorem k4 (c:Nat)(f):kN (some c) f=f c:=rfl
theorem oS (μ:Mu)(a:Addr)(ds:List D)(f):kL (up μ a (.lst ds)) a f=f ds:=by unfold kL;rw[bS]
theorem u0 {μ:Mu}{a:Addr}{ds:List D}(h:μ a=some (.lst ds))(f):kL μ a f=f ds:=by unfold kL;rw[h]
theorem iI (a:Addr)(n:Int)(y:D)(μ:Mu)(f):ub (.obj a) (.int n) y μ f=kL μ a fun ds=>kN (L2.ixN ds.length n) fun j=>f (up μ a (.lst (ds.set j y))):=rfl
theorem nO (i j:Int)(μ Q):fY (.int i) (.int j) μ Q=Q (.int (i - j)) μ:=rfl
theorem nL (i j:Int)(μ Q):cm (.int i) (.int j) μ Q=(MulOk i j∧Q (.int (i*j)) μ):=rfl
theorem nh (i j:Int)(μ Q):lQ (.int i) (.int j) μ Q=(fx j∧Q (.int (i.fdiv j)) μ):=rfl
theorem ni (i j:Int)(μ Q):gq (.int i) (.int j) μ Q=(j≠0∧Q (.int (i.fmod j)) μ):=rfl
theorem n4 (i j:Int)(μ Q):pQ (.int i) (.int j) μ Q=(ki i j∧Q (.int (i ^ j.toNat)) μ):=rfl
theorem oh (i:Int)(μ Q):g7 (.int i) μ Q=Q (.int (-i)) μ:=rfl
theorem qx (i j:Int)(μ Q):rLt (.int i) (.int j) μ Q=Q (.bl (decide (i < j))) μ:=rfl
theorem sA (i j:Int)(μ Q):rLe (.int i) (.int j) μ Q=Q (.bl (decide (i≤j))) μ:=rfl
theorem rD (i j:Int)(μ Q):rGt (.int i) (.int j) μ Q=Q (.bl (decide (j < i))) μ:=rfl
theorem p7 (i j:Int)(μ Q):rGe (.int i) (.int j) μ Q=Q (.bl (decide (j≤i))) μ:=rfl
theorem rB (x y:D)(μ Q):L3.rEq x y μ Q=((okD 40 x=true∧okD 40 y=true)∧Q (.bl (eqD x y)) μ):=rfl
theorem qh (x y:D)(μ Q):L3.rNe x y μ Q=((okD 40 x=true∧okD 40 y=true)∧Q (.bl (!eqD x y)) μ):=rfl
theorem j6 (ds:List D)(i:Int)(μ Q):L3.rIx (.tup ds) (.int i) μ Q=kO (atD ds i) fun d=>Q d μ:=rfl
theorem qp (ds:List D)(i:Int)(μ Q):L3.rIx (.ls ds) (.int i) μ Q=kO (atD ds i) fun d=>Q d μ:=rfl
theorem rH (a:Addr)(i:Int)(μ Q):L3.rIx (.obj a) (.int i) μ Q=kL μ a fun ds=>kO (atD ds i) fun d=>Q d μ:=rfl
theorem nk (c:String)(i:Int)(μ Q):cT c (.int i) μ Q=Q (.bl (cw "int" c)) μ:=rfl
theorem nX (c:String)(i:Bool)(μ Q):cT c (.bl i) μ Q=Q (.bl (cw "bool" c)) μ:=rfl
theorem nY (c:String)(i:List D)(μ Q):cT c (.tup i) μ Q=Q (.bl (cw "tuple" c)) μ:=rfl
theorem lb (i:Int)(μ Q):kC [.int i] μ Q=Q (.int (if i < 0 then -i else i)) μ:=rfl
theorem nQ (i j:Int)(μ Q):mI [.int i,.int j] μ Q=Q (.int (if j > i then j else i)) μ:=rfl
theorem ng (i j:Int)(μ Q):mO [.int i,.int j] μ Q=Q (.int (if j < i then j else i)) μ:=rfl
theorem nv (i:Int)(μ Q):lz [.int i] μ Q=Q (.int i) μ:=rfl
theorem nC (i:Bool)(μ Q):lz [.bl i] μ Q=Q (.int (if i then 1 else 0)) μ:=rfl
theorem mW (i:List D)(μ Q):cE [.tup i] μ Q=Q (.int i.length) μ:=rfl
theorem nV (i:List D)(μ Q):cE [.ls i] μ Q=Q (.int i.length) μ:=rfl
local macro_rules | `(tactic| walk_at "rd")=>`(tactic| try simp only[ah,TC,aj,TUn,bV,pT,gn,TB,mf,TOr,cH,pq,fJ,aq,af,bb,gW,qM,ao,aT,aC,mY,sC,sE,aL,ql,bF,az,aY,lB,dO,lS,c8,wG, 
  sH,rR,rP,rQ,rF,nJ,iA,nU,qW,kR,k4,oS,iI,la,lq,lG,kx,vm,i2,vq,iX,iQ,iB,iP,iH,jz,jn,iW,js,TSl,ONo,w4,rN,sL,rq,sD,rS,qG,nE,mT,qH,qr,pZ,jc,i4,i5,nG,n5,nz,nO,nL,nh,ni,n4,oh,qx,sA,rD,p7,rB,qh,j6,qp,rH,nk,nX,nY,lb,nQ,ng,nv,nC,mW,nV,
  lk,ini,List.map,List.length,List.replicate,List.append,List.set,List.cons_append,List.nil_append,Nat.sub_self,Nat.reduceSub,Nat.reduceAdd,
  mD,mx,me,l6,oX,oR,rg,qU,sI,List.getElem?_cons_zero,List.getElem?_cons_succ,bS,Nat.reduceLT,Nat.reduceLeDiff,if_true,if_false,true_and,and_true,Bool.not_true,Bool.not_false,Nat.lt_add_one,Nat.zero_lt_succ,Nat.succ_lt_succ_iff,Nat.zero_lt_one,
  decide_eq_true_eq,Bool.false_eq_true,ite_false,ite_true,ne_eq,not_false_eq_true,Int.reduceToNat,Int.reducePow,Int.reduceNeg,Int.reduceSub,Int.reduceAdd,Int.reduceMul,Int.reduceEq,okD,bM,eqD,fg,Bool.and_self,Bool.and_true,Bool.true_and,fQ,gw,gI,gk,fW,gC,f7])
local macro_rules | `(tactic| walk_at "ok")=>`(tactic| (simp only[L3.fx,L3.MulOk,L3.S64,L3.ic,L3.ki] at *;omega))
def Box (μ:Mu)(b:Addr):Prop:=∃ g s c:Int,μ b=some (.lst [.int g,.int s,.int c])∧0≤s∧s < 2147483647
structure cn (b:Addr) (μ μ':Mu):Prop where
  box:Box μ' b
  oth:∀ a,a≠b→μ' a=μ a
theorem cn.trans {b:Addr}{μ μ1 μ2:Mu}(x:cn b μ μ1)(y:cn b μ1 μ2):cn b μ μ2:=⟨y.box,fun a h=>(y.oth a h).trans (x.oth a h)⟩
def gU:FSp:=fun ds μ Q=>match ds with
  | [.int a,.int b]=>(0 < b∧ic b)∧Q (.tup [.int (a.fdiv (Int.gcd a b)),.int (b.fdiv (Int.gcd a b))]) μ
  | _=>False
theorem uj:∀ ds μ Q,gU ds μ Q→ds.length=2:=by
  unfold gU
  walk_at "ln"
def qP:STr:=aC (lB 2 3 (af (ao kC (af (ah 0) (aq))) (af (ah 1) (aq)))) (aC (lr (TB (aj rGt (ah 3) (TC (.int 0)))) (lB 2 3 (af (ah 3) (af (aj gq (ah 2) (ah 3)) (aq))))) (aL (bb (af (aj lQ (ah 0) (ah 2)) (af (aj lQ (ah 1) (ah 2)) (aq))))))
theorem lU (x y:Int):Int.gcd y (x.fmod y)=Int.gcd x y:=by
  rw[Int.fmod_def,Int.gcd_sub_mul_left_right,Int.gcd_comm]
theorem mX (a:Int):(if a < 0 then -a else a)=(a.natAbs:Int):=by
  split<;>omega
def mz (i:Nat):ST→Mu→Nat:=fun ρ _=>match lk ρ i with
  | some (.int z)=>z.toNat
  | _=>0
theorem wa:∀ ds μ Q,gU ds μ Q→qP { nx:=fun _ μ'=>RT Q .non μ',rt:=RT Q } (ini 4 ds) μ:=by
  intro ds μ Q h
  unfold gU at h
  split at h
  case h_2=>exact h.elim
  rename_i a b
  obtain ⟨⟨b0,b1⟩,k⟩:=h
  unfold qP
  walk_at "rd"
  refine ⟨fun ρ μ'=>μ'=μ∧∃ x y:Int,ρ=[some (.int a),some (.int b),some (.int x),some (.int y)]∧0≤x∧0≤y∧Int.gcd x y=Int.gcd a b,mz 3,⟨rfl,_,b,rfl,?_,by omega,?_⟩,?_⟩
  · split<;>omega
  · rw[mX];unfold Int.gcd;rw[Int.natAbs_natCast]
  · rintro ρ _ ⟨rfl,x,y,rfl,x0,y0,e⟩
    walk_at "rd"
    split
    · rename_i hy
      refine ⟨by omega,⟨_,_,rfl,y0,fm0 hy,?_⟩,?_⟩
      · rw[lU];exact e
      · have:=fm1 (a:=x) hy
        have:=fm0 (a:=x) hy
        simp only[mz,lk]
        omega
    · rename_i hy
      have hy0:y=0:=by omega
      subst hy0
      rw[Int.gcd_zero_right] at e
      have hx:x=(Int.gcd a b:Int):=by omega
      subst hx
      have gp:0 < Int.gcd a b:=Int.gcd_pos_of_ne_zero_right a (by omega)
      have gl:(Int.gcd a b:Int)≤b:=Int.gcd_le_right a b0
      have dv:fx (Int.gcd a b:Int):=by walk_at "ok"
      exact ⟨dv,dv,_,.refl _,k⟩
structure Fr (p q:Int):Prop where
  q0:0 < q
  q1:q < 100000000000
  p0:-100000000000 < p
  p1:p < 100000000000
  g:Int.gcd p q=1
theorem mJ {a b:Int}(h:0 < b):a.fdiv b=a / b:=Int.fdiv_eq_ediv_of_nonneg a (Int.le_of_lt h)
theorem at4 {a b c d:D}{k:Int}(h0:0≤k)(h1:k < 4):atD [a,b,c,d] k=some a∨atD [a,b,c,d] k=some b∨atD [a,b,c,d] k=some c∨atD [a,b,c,d] k=some d:=by
  have:k=0∨k=1∨k=2∨k=3:=by omega
  rcases this with rfl | rfl | rfl | rfl
  · exact .inl (by rw[mD];rfl)
  · exact .inr (.inl (by rw[mx];rfl))
  · exact .inr (.inr (.inl (by rw[me];rfl)))
  · exact .inr (.inr (.inr (by rw[l6];rfl)))
theorem ze {a b c d k M:Int}(h0:0≤k)(h1:k < 4)(ha:0 < a∧a≤M)(hb:0 < b∧b≤M)(hc:0 < c∧c≤M)(hd:0 < d∧d≤M):∃ n:Int,atD [.int a,.int b,.int c,.int d] k=some (.int n)∧0 < n∧n≤M:=by
  rcases at4 (a:=.int a) (b:=.int b) (c:=.int c) (d:=.int d) h0 h1 with e | e | e | e
  · exact ⟨a,e,ha⟩
  · exact ⟨b,e,hb⟩
  · exact ⟨c,e,hc⟩
  · exact ⟨d,e,hd⟩
theorem rY {ns:List Int}{k:Int}(h0:0≤k)(h1:k < (ns.length:Int)):∃ z,atD (ns.map D.int) k=some (.int z):=by
  rcases Int.eq_ofNat_of_zero_le h0 with ⟨j,rfl⟩
  rw[br]
  have hj:j < ns.length:=by omega
  exact ⟨ns[j],by simp[hj]⟩
theorem n8 {lo:Int}{n:Nat}{d:D}(h:d∈ei lo n):∃ k:Int,d=.int k∧lo≤k∧k < lo+n:=by
  unfold ei at h
  rcases List.mem_map.mp h with ⟨i,hi,rfl⟩
  have:=List.mem_range.mp hi
  exact ⟨_,rfl,by omega,by omega⟩
def b7:FSp:=fun ds μ Q=>match ds with
  | [.ls xs]=>(∃ ns:List Int,xs=ns.map .int∧ns.length≤63)∧∀ μ',Q (.bl true) μ'
  | _=>False
theorem ly:∀ ds μ Q,b7 ds μ Q→ds.length=1:=by
  unfold b7
  walk_at "ln"
theorem gY (ns:List Int)(h:ns.length≤63)(μ:Mu):b7 [.ls (ns.map .int)] μ (fun d _=>d=.bl true):=⟨⟨ns,rfl,h⟩,fun _=>rfl⟩
local macro_rules | `(tactic| walk_at "rd")=>`(tactic| try simp only[ah,TC,aj,TUn,bV,pT,gn,TB,mf,TOr,cH,pq,fJ,aq,af,bb,gW,qM,ao,aT,aC,mY,sC,sE,aL,ql,bF,az,aY,lB,dO,lS,c8,wG,u4,l9,tO,xu,ya,ILs,
  sH,rR,rP,rQ,rF,nJ,iA,nU,qW,kR,k4,oS,iI,la,lq,lG,kx,vm,i2,vq,iX,iQ,iB,iP,iH,jz,jn,iW,js,TSl,ONo,w4,rN,sL,rq,sD,rS,qG,nE,mT,qH,qr,pZ,jc,i4,i5,nG,n5,nz,nO,nL,nh,ni,n4,oh,qx,sA,rD,p7,rB,qh,j6,qp,rH,nk,nX,nY,lb,nQ,ng,nv,nC,mW,nV,
  lk,ini,List.map,List.length,List.replicate,List.append,List.set,List.cons_append,List.nil_append,Nat.sub_self,Nat.reduceSub,Nat.reduceAdd,
  mD,mx,me,l6,oX,oR,rg,qU,sI,List.getElem?_cons_zero,List.getElem?_cons_succ,bS,oP,Nat.reduceLT,Nat.reduceLeDiff,if_true,if_false,true_and,and_true,Bool.not_true,Bool.not_false,Nat.lt_add_one,Nat.zero_lt_succ,Nat.succ_lt_succ_iff,Nat.zero_lt_one,
  decide_eq_true_eq,Bool.false_eq_true,ite_false,ite_true,ne_eq,not_false_eq_true,Int.reduceToNat,Int.reducePow,Int.reduceNeg,Int.reduceSub,Int.reduceAdd,Int.reduceMul,Int.reduceEq,okD,bM,eqD,fg,Bool.and_self,Bool.and_true,Bool.true_and,fQ,gw,gI,gk,fW,gC,f7])
structure IsPart (a b p q:Int):Prop where
  q0:0 < q
  g:Int.gcd p q=1
  e:p*b=a*q
  pa:p.natAbs≤a.natAbs
  qb:q.natAbs≤b.natAbs
theorem oW {p q p' q':Int}(q0:0 < q)(q0':0 < q')(g:Int.gcd p q=1)(g':Int.gcd p' q'=1)(e:p*q'=p'*q):p=p'∧q=q':=by
  have h1:q ∣ q':=by
    have:q ∣ p*q':=⟨p',by rw[e,Int.mul_comm]⟩
    have h:=Int.dvd_gcd_mul_iff_dvd_mul.mpr this
    rw[Int.gcd_comm,g] at h
    simpa using h
  have h2:q' ∣ q:=by
    have:q' ∣ p'*q:=⟨p,by rw[← e,Int.mul_comm]⟩
    have h:=Int.dvd_gcd_mul_iff_dvd_mul.mpr this
    rw[Int.gcd_comm,g'] at h
    simpa using h
  have e3:q=q':=Int.dvd_antisymm (by omega) (by omega) h1 h2
  subst e3
  exact ⟨Int.eq_of_mul_eq_mul_right (by omega) e,rfl⟩
def bK:FSp:=fun ds μ Q=>match ds with
  | [.int a,.int b]=>Q (.int (Int.gcd a b)) μ
  | _=>False
theorem j2:∀ ds μ Q,bK ds μ Q→ds.length=2:=by
  unfold bK
  walk_at "ln"
def hU:STr:=aC (aY (ao kC (af (ah 0) (aq))) (az 2)) (aC (aY (ao kC (af (ah 1) (aq))) (az 3)) (aC (lr (TB (aj rGt (ah 3) (TC (.int 0)))) (aC (aY (aj gq (ah 2) (ah 3)) (az 4)) (aC (aY (ah 3) (az 2)) (aY (ah 4) (az 3))))) (aL (ah 2))))
theorem kz:∀ ds μ Q,bK ds μ Q→hU { nx:=fun _ μ'=>RT Q .non μ',rt:=RT Q } (ini 5 ds) μ:=by
  intro ds μ Q k
  unfold bK at k
  split at k
  case h_2=>exact k.elim
  rename_i a b
  unfold hU
  walk_at "rd"
  refine ⟨fun ρ μ'=>μ'=μ∧∃ (x y:Int) (z:Option D),ρ=[some (.int a),some (.int b),some (.int x),some (.int y),z]∧0≤x∧0≤y∧Int.gcd x y=Int.gcd a b,mz 3,⟨rfl,_,_,_,rfl,?_,?_,?_⟩,?_⟩
  · split<;>omega
  · split<;>omega
  · rw[mX,mX];unfold Int.gcd;rw[Int.natAbs_natCast,Int.natAbs_natCast]
  · rintro ρ _ ⟨rfl,x,y,z,rfl,x0,y0,e⟩
    walk_at "rd"
    split
    · rename_i hy
      refine ⟨by omega,⟨_,_,_,rfl,y0,fm0 hy,?_⟩,?_⟩
      · rw[lU];exact e
      · have:=fm1 (a:=x) hy
        have:=fm0 (a:=x) hy
        simp only[mz,lk]
        omega
    · rename_i hy
      have hy0:y=0:=by omega
      subst hy0
      rw[Int.gcd_zero_right] at e
      have hx:x=(Int.gcd a b:Int):=by omega
      subst hx
      exact ⟨_,.refl _,k⟩
def gR:FSp:=fun ds μ Q=>match ds with
  | [.ls xs,.int k]=>(∃ ns:List Int,xs=ns.map .int∧0≤k∧k≤1000)∧∀ p μ',μ p=none→Box μ' p→(∀ a,a≠p→μ' a=μ a)→Q (.obj p) μ'
  | _=>False
theorem ts:∀ ds μ Q,gR ds μ Q→ds.length=2:=by
  unfold gR
  walk_at "ln"
def uY:STr:=aC (aY (TC (.int 0)) (az 2)) (aC (bF (TB (aj rLt (ah 1) (ao cE (af (ah 0) (aq))))) (aY (aj L3.rIx (ah 0) (ah 1)) (az 2)) (aT)) (aC (aY (aj cm (ao kC (af (ah 2) (aq))) (ao lz (af (aj rGe (ao kC (af (ah 2) (aq))) (aj pQ (TC (.int 10)) (TC (.int 18)))) (aq)))) (az 3)) (aL (qM (af (ah 3) (af (aj gq (aj cm (aj ba (aj ba (aj gq (ah 2) (TC (.int 2147483647))) (aj cm (TC (.int 7919)) (ah 1))) (TC (.int 11))) (TC (.int 48271))) (TC (.int 2147483629))) (af (TC (.int 60)) (aq))))))))
theorem vT:∀ ds μ Q,gR ds μ Q→uY { nx:=fun _ μ'=>RT Q .non μ',rt:=RT Q } (ini 4 ds) μ:=by
  intro ds μ Q h
  unfold gR at h
  split at h
  case h_2=>exact h.elim
  rename_i xs k
  unfold uY
  walk_at "rd"
  obtain ⟨⟨ns,rfl,k0,k1⟩,hk⟩:=h
  have fin:∀ c:Int,ki 10 18∧MulOk (if c < 0 then -c else c) (if 1000000000000000000≤(if c < 0 then -c else c) then 1 else 0)∧MulOk 7919 k∧MulOk (c.fmod 2147483647+7919*k+11) 48271:=fun c=>
    ⟨by walk_at "ok", by split<;>walk_at "ok", by walk_at "ok", .inl (.inr (by unfold S64;omega))⟩
  have go:∀ g s:Int,0≤s→s < 2147483629→∀ p,μ p=none→RT Q (.obj p) (up μ p (.lst [.int g,.int s,.int 60])):=fun g s s0 s1 p hp=>
    ⟨_,.refl _,hk p _ hp ⟨g,s,60,bS,s0,by omega⟩ fun a ha=>dZ ha⟩
  split
  · rename_i hlt
    rw[List.length_map] at hlt
    obtain ⟨z,ez⟩:=rY k0 hlt
    rw[ez]
    walk_at "rd"
    obtain ⟨f1,f2,f3,f5⟩:=fin z
    exact ⟨f1,f2,f3,f5,fun p hp=>go _ _ (fm0 (by decide)) (fm1 (by decide)) p hp⟩
  · obtain ⟨f1,f2,f3,f5⟩:=fin 0
    exact ⟨f1,f2,f3,f5,fun p hp=>go _ _ (fm0 (by decide)) (fm1 (by decide)) p hp⟩
def aK:FSp:=fun ds μ Q=>match ds with
  | [.obj b,.int n]=>(Box μ b∧0 < n∧n < 18446744073709551616)∧∀ k μ',0≤k→k < n→cn b μ μ'→Q (.int k) μ'
  | _=>False
theorem aD {μ:Mu}{b:Addr}{n:Int}{Q:DK}(hB:Box μ b)(h0:0 < n)(h1:n < 18446744073709551616)(h:∀ k μ',0≤k→k < n→cn b μ μ'→Q (.int k) μ'):aK [.obj b,.int n] μ Q:=⟨⟨hB,h0,h1⟩,h⟩
theorem rO:∀ ds μ Q,aK ds μ Q→ds.length=2:=by
  unfold aK
  walk_at "ln"
def rj:STr:=aC (bF (mf (TB (aj rGt (aj L3.rIx (ah 0) (TC (.int 0))) (TC (.int 0)))) (TB (aj rGt (aj L3.rIx (ah 0) (TC (.int 2))) (TC (.int 0))))) (aC (aY (aj gq (aj L3.rIx (ah 0) (TC (.int 0))) (ah 1)) (az 2)) (aC (dO (ah 0) (TC (.int 0)) (aj lQ (aj L3.rIx (ah 0) (TC (.int 0))) (ah 1))) (aC (dO (ah 0) (TC (.int 2)) (aj fY (aj L3.rIx (ah 0) (TC (.int 2))) (TC (.int 1)))) (aL (ah 2))))) (aT)) (aC (dO (ah 0) (TC (.int 1)) (aj gq (aj cm (aj ba (aj L3.rIx (ah 0) (TC (.int 1))) (TC (.int 39373))) (TC (.int 48271))) (TC (.int 2147483647)))) (aC (aY (aj gq (aj cm (aj L3.rIx (ah 0) (TC (.int 1))) (aj ba (aj gq (aj L3.rIx (ah 0) (TC (.int 1))) (TC (.int 40009))) (TC (.int 7)))) (TC (.int 2147483629))) (az 3)) (aL (aj gq (aj lQ (aj gq (aj cm (ah 3) (aj ba (aj gq (ah 3) (TC (.int 1009))) (TC (.int 3)))) (TC (.int 998244353))) (TC (.int 7))) (ah 1)))))
theorem ug:∀ ds μ Q,aK ds μ Q→rj { nx:=fun _ μ'=>RT Q .non μ',rt:=RT Q } (ini 4 ds) μ:=by
  intro ds μ Q h
  unfold aK at h
  split at h
  case h_2=>exact h.elim
  rename_i b n
  unfold rj
  walk_at "rd"
  obtain ⟨⟨⟨g,s,c,hb,s0,s1⟩,n0,n1⟩,k⟩:=h
  repeat (simp only[u0 hb];walk_at "rd")
  have dv:fx n:=by walk_at "ok"
  have n2:n≠0:=by omega
  have fin:∀ g' s' c':Int,∀ d:Int,0≤s'→s' < 2147483647→0≤d→d < n→RT Q (.int d) (up μ b (.lst [.int g',.int s',.int c'])):=fun g' s' c' d h1 h2 h3 h4=>
    ⟨_,.refl _,k d _ h3 h4 ⟨⟨g',s',c',bS,h1,h2⟩,fun a ha=>dZ ha⟩⟩
  have z0:=fm0 (a:=(s+39373)*48271) (n:=2147483647) (by decide)
  have z1:=fm1 (a:=(s+39373)*48271) (n:=2147483647) (by decide)
  have m1:MulOk (s+39373) 48271:=by walk_at "ok"
  generalize ((s+39373)*48271).fmod 2147483647=z at *
  have m2:MulOk z (z.fmod 40009+7):=by walk_at "ok"
  have y0:=fm0 (a:=z*(z.fmod 40009+7)) (n:=2147483629) (by decide)
  have y1:=fm1 (a:=z*(z.fmod 40009+7)) (n:=2147483629) (by decide)
  generalize (z*(z.fmod 40009+7)).fmod 2147483629=y at *
  have m3:MulOk y (y.fmod 1009+3):=by walk_at "ok"
  have els:=fun g' c'=>And.intro m1 (And.intro m2 (And.intro m3 (And.intro (show fx 7 by walk_at "ok") (And.intro n2 (fin g' z c' (((y*(y.fmod 1009+3)).fmod 998244353).fdiv 7 |>.fmod n) z0 z1 (fm0 n0) (fm1 n0))))))
  split
  · split
    · exact ⟨n2,dv,fin _ _ _ _ s0 s1 (fm0 n0) (fm1 n0)⟩
    · exact els g c
  · exact els g c
abbrev cZ:FSp:=gU
theorem qK:∀ ds μ Q,cZ ds μ Q→ds.length=2:=uj
def sk:STr:=aC (aY (ao kC (af (ah 0) (aq))) (az 2)) (aC (aY (ah 1) (az 3)) (aC (lr (TB (aj rGt (ah 3) (TC (.int 0)))) (lB 2 3 (af (ah 3) (af (aj gq (ah 2) (ah 3)) (aq))))) (aL (bb (af (aj lQ (ah 0) (ah 2)) (af (aj lQ (ah 1) (ah 2)) (aq)))))))
theorem tZ:∀ ds μ Q,cZ ds μ Q→sk { nx:=fun _ μ'=>RT Q .non μ',rt:=RT Q } (ini 4 ds) μ:=by
  intro ds μ Q h
  have h0:=wa ds μ Q h
  unfold cZ gU at h
  split at h
  case h_2=>exact h.elim
  unfold qP at h0
  unfold sk
  simp only[ah,TC,af,aq,ao,lb,aC,lB,aY,az,ini,lk,List.map,List.length,Nat.reduceSub,Nat.reduceAdd,List.replicate,List.cons_append,List.nil_append,iA,kR,List.set] at h0 ⊢
  exact h0
structure FrB (lo hi p q:Int):Prop where
  q0:0 < q
  q1:q≤10000002
  g:Int.gcd p q=1
  ge:lo*q≤p
  le:p≤hi*q
structure FrA (lo hi p q:Int):Prop extends FrB lo hi p q where
  ab:lo*q < p
structure FrL (hi p q:Int):Prop extends FrB 0 hi p q where
  ab:0 < p
  be:p < hi*q
theorem fe {a b:Int}(b0:0 < b):∃ g p q:Int,0 < g∧a=g*p∧b=g*q∧a.fdiv (Int.gcd a b)=p∧b.fdiv (Int.gcd a b)=q∧0 < q∧q≤b∧Int.gcd p q=1:=by
  have gp:0 < Int.gcd a b:=Int.gcd_pos_of_ne_zero_right a (by omega)
  have gz:0 < (Int.gcd a b:Int):=by omega
  obtain ⟨c,hc⟩:=Int.gcd_dvd_left a b
  obtain ⟨d,hd⟩:=Int.gcd_dvd_right a b
  have g1:=Int.gcd_ediv_gcd_ediv_gcd gp
  have e1:a / (Int.gcd a b:Int)=c:=Int.ediv_eq_of_eq_mul_right (by omega) hc
  have e2:b / (Int.gcd a b:Int)=d:=Int.ediv_eq_of_eq_mul_right (by omega) hd
  rw[e1,e2] at g1
  refine ⟨_,c,d,gz,hc,hd,by rw[mJ gz];exact e1,by rw[mJ gz];exact e2,?_,?_,g1⟩
  all_goals generalize (Int.gcd a b:Int)=g at *
  · rcases Int.lt_trichotomy d 0 with h | h | h
    · have:=Int.mul_neg_of_pos_of_neg gz h;omega
    · subst h;omega
    · exact h
  · have d0:0 < d:=by
      rcases Int.lt_trichotomy d 0 with h | h | h
      · have:=Int.mul_neg_of_pos_of_neg gz h;omega
      · subst h;omega
      · exact h
    have h:=Int.mul_le_mul_of_nonneg_right (show (1:Int)≤g by omega) (show (0:Int)≤d by omega)
    omega
theorem qf {lo hi a b:Int}(b0:0 < b)(b1:b≤10000002)(h1:lo*b≤a)(h2:a≤hi*b):FrB lo hi (a.fdiv (Int.gcd a b)) (b.fdiv (Int.gcd a b)):=by
  obtain ⟨g,p,q,g0,ea,eb,ep,eq,q0,qb,gg⟩:=fe (a:=a) b0
  rw[ep,eq]
  subst ea
  have e1:lo*b=g*(lo*q):=by rw[eb];ac_rfl
  have e2:hi*b=g*(hi*q):=by rw[eb];ac_rfl
  exact ⟨q0,by omega,gg,Int.le_of_mul_le_mul_left (by rw[← e1];exact h1) g0,Int.le_of_mul_le_mul_left (by rw[← e2];exact h2) g0⟩
theorem xY {lo hi a b:Int}(b0:0 < b)(b1:b≤10000002)(h1:lo*b < a)(h2:a≤hi*b):FrA lo hi (a.fdiv (Int.gcd a b)) (b.fdiv (Int.gcd a b)):=by
  refine ⟨qf b0 b1 (by omega) h2,?_⟩
  obtain ⟨g,p,q,g0,ea,eb,ep,eq,q0,qb,gg⟩:=fe (a:=a) b0
  rw[ep,eq]
  have e1:lo*b=g*(lo*q):=by rw[eb];ac_rfl
  exact Int.lt_of_mul_lt_mul_left (by rw[← e1,← ea];exact h1) (by omega)
theorem yo {hi a b:Int}(b0:0 < b)(b1:b≤10000002)(h1:0 < a)(h2:a < hi*b):FrL hi (a.fdiv (Int.gcd a b)) (b.fdiv (Int.gcd a b)):=by
  refine ⟨qf b0 b1 (by omega) (by omega),?_,?_⟩
  all_goals
    obtain ⟨g,p,q,g0,ea,eb,ep,eq,q0,qb,gg⟩:=fe (a:=a) b0
  · rw[ep]
    exact Int.lt_of_mul_lt_mul_left (a:=g) (by rw[← ea];simpa using h1) (by omega)
  · rw[ep,eq]
    have e1:hi*b=g*(hi*q):=by rw[eb];ac_rfl
    exact Int.lt_of_mul_lt_mul_left (by rw[← e1,← ea];exact h2) (by omega)
def eK:FSp:=fun ds μ Q=>match ds with
  | [.obj b]=>Box μ b∧∀ z μ',0 < z→z≤10000001→cn b μ μ'→Q (.int z) μ'
  | _=>False
theorem sY:∀ ds μ Q,eK ds μ Q→ds.length=1:=by
  unfold eK
  walk_at "ln"
def uZ:STr:=aL (aj L3.rIx (gW (af (TC (.int 1)) (af (TC (.int 2)) (af (aj ba (TC (.int 1)) (ao aK (af (ah 0) (af (TC (.int 12)) (aq))))) (af (aj ba (TC (.int 1)) (ao aK (af (ah 0) (af (aj pQ (TC (.int 10)) (TC (.int 7))) (aq))))) (aq)))))) (ao aK (af (ah 0) (af (TC (.int 4)) (aq)))))
theorem vd:∀ ds μ Q,eK ds μ Q→uZ { nx:=fun _ μ'=>RT Q .non μ',rt:=RT Q } (ini 1 ds) μ:=by
  intro ds μ Q h
  unfold eK at h
  split at h
  case h_2=>exact h.elim
  rename_i b
  unfold uZ
  walk_at "rd"
  obtain ⟨hB,k⟩:=h
  refine aD hB (by decide) (by decide) fun k1 μ1 k10 k11 B1=>?_
  walk_at "rd"
  refine ⟨⟨by decide,by decide,by decide⟩,aD B1.box (by decide) (by decide) fun k2 μ2 k20 k21 B2=>?_⟩
  walk_at "rd"
  refine aD B2.box (by decide) (by decide) fun k3 μ3 k30 k31 B3=>?_
  walk_at "rd"
  obtain ⟨n,en,n0,n1⟩:=ze (M:=10000001) k30 k31 (a:=1) (b:=2) (c:=1+k1) (d:=1+k2) (by decide) (by decide) (by omega) (by omega)
  rw[en]
  walk_at "rd"
  exact ⟨_,.refl _,k _ _ n0 n1 (B1.trans (B2.trans B3))⟩
def bT:FSp:=fun ds μ Q=>match ds with
  | [.obj b,.int lo,.int hi]=>(Box μ b∧0≤lo∧lo≤hi∧hi≤100)∧∀ p q μ',FrB lo hi p q→cn b μ μ'→Q (.tup [.int p,.int q]) μ'
  | _=>False
theorem mq:∀ ds μ Q,bT ds μ Q→ds.length=3:=by
  unfold bT
  walk_at "ln"
def ka:STr:=aC (aY (ao eK (af (ah 0) (aq))) (az 3)) (aC (aY (aj cm (ah 3) (aj fY (ah 2) (ah 1))) (az 4)) (aC (aY (ao aK (af (ah 0) (af (aj ba (ah 4) (TC (.int 1))) (aq)))) (az 5)) (aL (ao cZ (af (aj ba (aj cm (ah 3) (ah 1)) (aj L3.rIx (gW (af (TC (.int 0)) (af (ah 4) (af (ah 5) (af (ah 5) (aq)))))) (ao aK (af (ah 0) (af (TC (.int 4)) (aq)))))) (af (ah 3) (aq)))))))
theorem m8:∀ ds μ Q,bT ds μ Q→ka { nx:=fun _ μ'=>RT Q .non μ',rt:=RT Q } (ini 6 ds) μ:=by
  intro ds μ Q h
  unfold bT at h
  split at h
  case h_2=>exact h.elim
  rename_i b lo hi
  unfold ka
  walk_at "rd"
  obtain ⟨⟨hB,l0,lh,h1⟩,k⟩:=h
  refine ⟨hB,fun z μ1 z0 z1 B1=>?_⟩
  have f0:0≤z*(hi - lo):=Int.mul_nonneg (by omega) (by omega)
  have f1:z*(hi - lo)≤10000001*100:=Int.mul_le_mul z1 (by omega) (by omega) (by decide)
  have f2:z*(hi - lo)=hi*z - lo*z:=by rw[Int.mul_sub,Int.mul_comm z hi,Int.mul_comm z lo]
  walk_at "rd"
  refine ⟨by walk_at "ok", aD B1.box (by omega) (by omega) fun k2 μ2 k20 k21 B2=>?_⟩
  walk_at "rd"
  refine ⟨by walk_at "ok", aD B2.box (by decide) (by decide) fun k3 μ3 k30 k31 B3=>?_⟩
  obtain ⟨n,en,n0,n1⟩:∃ n:Int,atD [.int 0,.int (z*(hi - lo)),.int k2,.int k2] k3=some (.int n)∧0≤n∧n≤z*(hi - lo):=by
    rcases at4 (a:=.int 0) (b:=.int (z*(hi - lo))) (c:=.int k2) (d:=.int k2) k30 k31 with e | e | e | e
    · exact ⟨_,e,by omega,by omega⟩
    · exact ⟨_,e,by omega,by omega⟩
    · exact ⟨_,e,by omega,by omega⟩
    · exact ⟨_,e,by omega,by omega⟩
  walk_at "rd"
  rw[en]
  walk_at "rd"
  have c1:lo*z≤z*lo+n:=by rw[Int.mul_comm z lo];omega
  have c2:z*lo+n≤hi*z:=by rw[Int.mul_comm z lo];omega
  exact ⟨⟨z0,by walk_at "ok"⟩,_,.refl _,k _ _ _ (qf z0 (by omega) c1 c2) (B1.trans (B2.trans B3))⟩
def bY:FSp:=fun ds μ Q=>match ds with
  | [.obj b,.int lo,.int hi]=>(Box μ b∧0≤lo∧lo < hi∧hi≤100)∧∀ p q μ',FrA lo hi p q→cn b μ μ'→Q (.tup [.int p,.int q]) μ'
  | _=>False
theorem pJ:∀ ds μ Q,bY ds μ Q→ds.length=3:=by
  unfold bY
  walk_at "ln"
def oF:STr:=aC (aY (ao eK (af (ah 0) (aq))) (az 3)) (aC (aY (aj cm (ah 3) (aj fY (ah 2) (ah 1))) (az 4)) (aC (aY (aj ba (TC (.int 1)) (ao aK (af (ah 0) (af (ah 4) (aq))))) (az 5)) (aL (ao cZ (af (aj ba (aj cm (ah 3) (ah 1)) (aj L3.rIx (gW (af (TC (.int 1)) (af (ah 4) (af (ah 5) (af (ah 5) (aq)))))) (ao aK (af (ah 0) (af (TC (.int 4)) (aq)))))) (af (ah 3) (aq)))))))
theorem qe:∀ ds μ Q,bY ds μ Q→oF { nx:=fun _ μ'=>RT Q .non μ',rt:=RT Q } (ini 6 ds) μ:=by
  intro ds μ Q h
  unfold bY at h
  split at h
  case h_2=>exact h.elim
  rename_i b lo hi
  unfold oF
  walk_at "rd"
  obtain ⟨⟨hB,l0,lh,h1⟩,k⟩:=h
  refine ⟨hB,fun z μ1 z0 z1 B1=>?_⟩
  have f0:0 < z*(hi - lo):=Int.mul_pos (by omega) (by omega)
  have f1:z*(hi - lo)≤10000001*100:=Int.mul_le_mul z1 (by omega) (by omega) (by decide)
  have f2:z*(hi - lo)=hi*z - lo*z:=by rw[Int.mul_sub,Int.mul_comm z hi,Int.mul_comm z lo]
  walk_at "rd"
  refine ⟨by walk_at "ok", aD B1.box f0 (by omega) fun k2 μ2 k20 k21 B2=>?_⟩
  walk_at "rd"
  refine ⟨by walk_at "ok", aD B2.box (by decide) (by decide) fun k3 μ3 k30 k31 B3=>?_⟩
  obtain ⟨n,en,n0,n1⟩:∃ n:Int,atD [.int 1,.int (z*(hi - lo)),.int (1+k2),.int (1+k2)] k3=some (.int n)∧0 < n∧n≤z*(hi - lo):=by
    rcases at4 (a:=.int 1) (b:=.int (z*(hi - lo))) (c:=.int (1+k2)) (d:=.int (1+k2)) k30 k31 with e | e | e | e
    · exact ⟨_,e,by omega,by omega⟩
    · exact ⟨_,e,by omega,by omega⟩
    · exact ⟨_,e,by omega,by omega⟩
    · exact ⟨_,e,by omega,by omega⟩
  walk_at "rd"
  rw[en]
  walk_at "rd"
  have c1:lo*z < z*lo+n:=by rw[Int.mul_comm z lo];omega
  have c2:z*lo+n≤hi*z:=by rw[Int.mul_comm z lo];omega
  exact ⟨⟨z0,by walk_at "ok"⟩,_,.refl _,k _ _ _ (xY z0 (by omega) c1 c2) (B1.trans (B2.trans B3))⟩
def gZ:FSp:=fun ds μ Q=>match ds with
  | [.obj b]=>Box μ b∧∀ p q μ',FrL 1 p q→cn b μ μ'→Q (.tup [.int p,.int q]) μ'
  | _=>False
theorem tY:∀ ds μ Q,gZ ds μ Q→ds.length=1:=by
  unfold gZ
  walk_at "ln"
def uM:STr:=aC (aY (aj ba (TC (.int 1)) (ao eK (af (ah 0) (aq)))) (az 1)) (aC (aY (aj ba (TC (.int 1)) (ao aK (af (ah 0) (af (aj fY (ah 1) (TC (.int 1))) (aq))))) (az 2)) (aL (ao cZ (af (aj L3.rIx (gW (af (TC (.int 1)) (af (aj fY (ah 1) (TC (.int 1))) (af (ah 2) (af (ah 2) (aq)))))) (ao aK (af (ah 0) (af (TC (.int 4)) (aq))))) (af (ah 1) (aq))))))
theorem vH:∀ ds μ Q,gZ ds μ Q→uM { nx:=fun _ μ'=>RT Q .non μ',rt:=RT Q } (ini 3 ds) μ:=by
  intro ds μ Q h
  unfold gZ at h
  split at h
  case h_2=>exact h.elim
  rename_i b
  unfold uM
  walk_at "rd"
  obtain ⟨hB,k⟩:=h
  refine ⟨hB,fun z μ1 z0 z1 B1=>?_⟩
  walk_at "rd"
  refine aD B1.box (by omega) (by omega) fun k2 μ2 k20 k21 B2=>?_
  walk_at "rd"
  refine aD B2.box (by decide) (by decide) fun k3 μ3 k30 k31 B3=>?_
  obtain ⟨n,en,n0,n1⟩:∃ n:Int,atD [.int 1,.int (1+z - 1),.int (1+k2),.int (1+k2)] k3=some (.int n)∧0 < n∧n≤z:=by
    rcases at4 (a:=.int 1) (b:=.int (1+z - 1)) (c:=.int (1+k2)) (d:=.int (1+k2)) k30 k31 with e | e | e | e
    · exact ⟨_,e,by omega,by omega⟩
    · exact ⟨_,e,by omega,by omega⟩
    · exact ⟨_,e,by omega,by omega⟩
    · exact ⟨_,e,by omega,by omega⟩
  walk_at "rd"
  rw[en]
  walk_at "rd"
  exact ⟨⟨by omega,by walk_at "ok"⟩,_,.refl _,k _ _ _ (yo (by omega) (by omega) n0 (by omega)) (B1.trans (B2.trans B3))⟩
theorem dj:(Str.ofString "still" = Str.ofString "step")=False:=eq_false (by decide +kernel)
theorem cL:(Str.ofString "still" = Str.ofString "swell")=False:=eq_false (by decide +kernel)
theorem dD:(Str.ofString "still" = Str.ofString "heed")=False:=eq_false (by decide +kernel)
theorem dB:(Str.ofString "still" = Str.ofString "calm")=False:=eq_false (by decide +kernel)
theorem fw:(Str.ofString "step" = Str.ofString "still")=False:=eq_false (by decide +kernel)
theorem bx:(Str.ofString "step" = Str.ofString "swell")=False:=eq_false (by decide +kernel)
theorem bI:(Str.ofString "step" = Str.ofString "heed")=False:=eq_false (by decide +kernel)
theorem cD:(Str.ofString "step" = Str.ofString "calm")=False:=eq_false (by decide +kernel)
theorem eL:(Str.ofString "swell" = Str.ofString "still")=False:=eq_false (by decide +kernel)
theorem fH:(Str.ofString "swell" = Str.ofString "step")=False:=eq_false (by decide +kernel)
theorem bu:(Str.ofString "swell" = Str.ofString "heed")=False:=eq_false (by decide +kernel)
theorem cc:(Str.ofString "swell" = Str.ofString "calm")=False:=eq_false (by decide +kernel)
theorem fF:(Str.ofString "heed" = Str.ofString "still")=False:=eq_false (by decide +kernel)
theorem f6:(Str.ofString "heed" = Str.ofString "step")=False:=eq_false (by decide +kernel)
theorem bP:(Str.ofString "heed" = Str.ofString "swell")=False:=eq_false (by decide +kernel)
theorem cF:(Str.ofString "heed" = Str.ofString "calm")=False:=eq_false (by decide +kernel)
theorem fm:(Str.ofString "calm" = Str.ofString "still")=False:=eq_false (by decide +kernel)
theorem fV:(Str.ofString "calm" = Str.ofString "step")=False:=eq_false (by decide +kernel)
theorem bO:(Str.ofString "calm" = Str.ofString "swell")=False:=eq_false (by decide +kernel)
theorem gK:(Str.ofString "calm" = Str.ofString "heed")=False:=eq_false (by decide +kernel)
theorem e9:PyData.strOk (Str.ofString "still")=true:=by decide +kernel
theorem gJ:PyData.strOk (Str.ofString "step")=true:=by decide +kernel
theorem e8:PyData.strOk (Str.ofString "swell")=true:=by decide +kernel
theorem gD:PyData.strOk (Str.ofString "heed")=true:=by decide +kernel
theorem gM:PyData.strOk (Str.ofString "calm")=true:=by decide +kernel
abbrev fr (p q:Int):D:=.tup [.int p,.int q]
inductive lK:Str→D→Prop
  | ck {p q:Int} (w:FrB 1 60 p q):lK (Str.ofString "still") (.tup [.str "still", fr p q])
  | calm {p q r s x y l h:Int} (w:FrB 1 60 p q) (t:FrB 1 60 r s) (wt:p*s≤r*q) (u:FrA 0 60 x y) (l0:0≤l) (lh:l≤h) (h1:h≤60):lK (Str.ofString "calm") (.tup [.str "calm", fr p q,fr x y,.int l,.int h,fr r s])
  | nR {p q r s x y a b:Int} (w:FrB 1 60 p q) (t:FrB 1 60 r s) (wt:p*s≤r*q) (u:FrA 0 60 x y) (g:FrA 0 1 a b):lK (Str.ofString "heed") (.tup [.str "heed", fr p q,fr x y,fr a b,fr r s])
  | step {p q r s x y a b:Int} (w:FrB 1 60 p q) (t:FrB 1 60 r s) (wt:p*s≤r*q) (u:FrA 0 60 x y) (g:FrL 1 a b):lK (Str.ofString "step") (.tup [.str "step", fr p q,fr x y,fr a b,fr r s])
  | eW {p q r s x y a b:Int} (w:FrB 1 60 p q) (t:FrB 1 60 r s) (wt:p*s≤r*q) (u:FrA 1 60 x y) (g:FrL 1 a b):lK (Str.ofString "swell") (.tup [.str "swell", fr p q,fr x y,fr a b,fr r s])
def bZ:List Str:=[Str.ofString "still", Str.ofString "step", Str.ofString "swell", Str.ofString "heed", Str.ofString "calm"]
theorem uQ {lo hi p q:Int}(h:FrB lo hi p q)(h0:0≤lo)(h1:hi≤100):S64 p∧S64 q:=by
  have:=h.q0;have:=h.q1
  have e1:=h.ge;have e2:=h.le
  have a1:0≤lo*q:=Int.mul_nonneg h0 (by omega)
  have a2:hi*q≤100*q:=Int.mul_le_mul_of_nonneg_right h1 (by omega)
  unfold S64;omega
def e7:FSp:=fun ds μ Q=>match ds with
  | [.obj b,.str w]=>(Box μ b∧w∈bZ)∧∀ d μ',lK w d→cn b μ μ'→Q d μ'
  | _=>False
theorem qq:∀ ds μ Q,e7 ds μ Q→ds.length=2:=by
  unfold e7
  walk_at "ln"
def qR:STr:=aC (aY (ao bT (af (ah 0) (af (TC (.int 1)) (af (TC (.int 60)) (aq))))) (az 2)) (aC (aY (ao bT (af (ah 0) (af (TC (.int 1)) (af (TC (.int 60)) (aq))))) (az 3)) (aC (bF (TB (aj rGt (aj cm (aj L3.rIx (ah 2) (TC (.int 0))) (aj L3.rIx (ah 3) (TC (.int 1)))) (aj cm (aj L3.rIx (ah 3) (TC (.int 0))) (aj L3.rIx (ah 2) (TC (.int 1)))))) (lB 2 3 (af (ah 3) (af (ah 2) (aq)))) (aT)) (aC (bF (TB (aj rEq (ah 1) (TC (.str "still")))) (aL (bb (af (ah 1) (af (ah 2) (aq))))) (aT)) (aC (bF (TB (aj rEq (ah 1) (TC (.str "calm")))) (aC (aY (ao aK (af (ah 0) (af (TC (.int 61)) (aq)))) (az 4)) (aC (aY (aj ba (ah 4) (ao aK (af (ah 0) (af (aj fY (TC (.int 61)) (ah 4)) (aq))))) (az 5)) (aL (bb (af (ah 1) (af (ah 2) (af (ao bY (af (ah 0) (af (TC (.int 0)) (af (TC (.int 60)) (aq))))) (af (ah 4) (af (ah 5) (af (ah 3) (aq))))))))))) (aT)) (aC (bF (TB (aj rEq (ah 1) (TC (.str "heed")))) (aL (bb (af (ah 1) (af (ah 2) (af (ao bY (af (ah 0) (af (TC (.int 0)) (af (TC (.int 60)) (aq))))) (af (ao bY (af (ah 0) (af (TC (.int 0)) (af (TC (.int 1)) (aq))))) (af (ah 3) (aq)))))))) (aT)) (aC (aY (ao bY (af (ah 0) (af (ao lz (af (aj rEq (ah 1) (TC (.str "swell"))) (aq))) (af (TC (.int 60)) (aq))))) (az 6)) (aL (bb (af (ah 1) (af (ah 2) (af (ah 6) (af (ao gZ (af (ah 0) (aq))) (af (ah 3) (aq))))))))))))))
theorem tX:∀ ds μ Q,e7 ds μ Q→qR { nx:=fun _ μ'=>RT Q .non μ',rt:=RT Q } (ini 7 ds) μ:=by
  intro ds μ Q h
  unfold e7 at h
  split at h
  case h_2=>exact h.elim
  rename_i b w
  unfold qR
  walk_at "rd"
  obtain ⟨⟨hB,hw⟩,k⟩:=h
  refine ⟨⟨hB,by decide,by decide,by decide⟩,fun p0 q0 μ1 F0 B1=>?_⟩
  refine ⟨⟨B1.box,by decide,by decide,by decide⟩,fun r0 s0 μ2 G0 B2=>?_⟩
  have B12:=B1.trans B2
  walk_at "rd"
  obtain ⟨P1,P2⟩:=uQ F0 (by decide) (by decide)
  obtain ⟨R1,R2⟩:=uQ G0 (by decide) (by decide)
  refine ⟨.inl (.inl P1),.inl (.inl R1),?_⟩
  simp only[bZ,List.mem_cons,List.not_mem_nil,or_false] at hw
  split
  all_goals
    rename_i hc
    have wt1:=Int.le_of_lt (show (0:Int) < 1 by decide)
    rcases hw with rfl | rfl | rfl | rfl | rfl
    all_goals simp only[dj,cL,dD,dB,fw,bx,bI,cD,eL,fH,bu,cc,fF,f6,bP,cF,fm,fV,bO,gK,e9,gJ,e8,gD,gM,eq_self,if_true,if_false,and_self,true_and,and_true]
  · exact ⟨_,.refl _,k _ _ (.ck G0) B12⟩
  · refine ⟨⟨B2.box,by decide,by decide,by decide⟩,fun x y μ3 U B3=>⟨B3.box,fun a c μ4 L B4=>⟨_,.refl _,k _ _ (.step G0 F0 (by omega) U L) (B12.trans (B3.trans B4))⟩⟩⟩
  · refine ⟨⟨B2.box,by decide,by decide,by decide⟩,fun x y μ3 U B3=>⟨B3.box,fun a c μ4 L B4=>⟨_,.refl _,k _ _ (.eW G0 F0 (by omega) U L) (B12.trans (B3.trans B4))⟩⟩⟩
  · refine ⟨⟨B2.box,by decide,by decide,by decide⟩,fun x y μ3 U B3=>⟨⟨B3.box,by decide,by decide,by decide⟩,fun a c μ4 L B4=>⟨_,.refl _,k _ _ (.nR G0 F0 (by omega) U L) (B12.trans (B3.trans B4))⟩⟩⟩
  · refine aD B2.box (by decide) (by decide) fun l μ3 l0 l1 B3=>?_
    walk_at "rd"
    refine aD B3.box (by omega) (by omega) fun e μ4 e0 e1 B4=>?_
    walk_at "rd"
    refine ⟨⟨B4.box,by decide,by decide,by decide⟩,fun x y μ5 U B5=>⟨_,.refl _,k _ _ (.calm G0 F0 (by omega) U l0 (by omega) (by omega)) (B12.trans (B3.trans (B4.trans B5)))⟩⟩
  · exact ⟨_,.refl _,k _ _ (.ck F0) B12⟩
  · refine ⟨⟨B2.box,by decide,by decide,by decide⟩,fun x y μ3 U B3=>⟨B3.box,fun a c μ4 L B4=>⟨_,.refl _,k _ _ (.step F0 G0 (by omega) U L) (B12.trans (B3.trans B4))⟩⟩⟩
  · refine ⟨⟨B2.box,by decide,by decide,by decide⟩,fun x y μ3 U B3=>⟨B3.box,fun a c μ4 L B4=>⟨_,.refl _,k _ _ (.eW F0 G0 (by omega) U L) (B12.trans (B3.trans B4))⟩⟩⟩
  · refine ⟨⟨B2.box,by decide,by decide,by decide⟩,fun x y μ3 U B3=>⟨⟨B3.box,by decide,by decide,by decide⟩,fun a c μ4 L B4=>⟨_,.refl _,k _ _ (.nR F0 G0 (by omega) U L) (B12.trans (B3.trans B4))⟩⟩⟩
  · refine aD B2.box (by decide) (by decide) fun l μ3 l0 l1 B3=>?_
    walk_at "rd"
    refine aD B3.box (by omega) (by omega) fun e μ4 e0 e1 B4=>?_
    walk_at "rd"
    refine ⟨⟨B4.box,by decide,by decide,by decide⟩,fun x y μ5 U B5=>⟨_,.refl _,k _ _ (.calm F0 G0 (by omega) U l0 (by omega) (by omega)) (B12.trans (B3.trans (B4.trans B5)))⟩⟩
theorem df (i:Decidable (Str.ofString "still" = Str.ofString "step")):@decide (Str.ofString "still" = Str.ofString "step") i=false:=by cases i with | isTrue h=>exact absurd h (by rw[dj];exact not_false) | isFalse _=>rfl
theorem cO (i:Decidable (Str.ofString "still" = Str.ofString "swell")):@decide (Str.ofString "still" = Str.ofString "swell") i=false:=by cases i with | isTrue h=>exact absurd h (by rw[cL];exact not_false) | isFalse _=>rfl
theorem de (i:Decidable (Str.ofString "still" = Str.ofString "heed")):@decide (Str.ofString "still" = Str.ofString "heed") i=false:=by cases i with | isTrue h=>exact absurd h (by rw[dD];exact not_false) | isFalse _=>rfl
theorem dC (i:Decidable (Str.ofString "still" = Str.ofString "calm")):@decide (Str.ofString "still" = Str.ofString "calm") i=false:=by cases i with | isTrue h=>exact absurd h (by rw[dB];exact not_false) | isFalse _=>rfl
theorem dk (i:Decidable (Str.ofString "step" = Str.ofString "still")):@decide (Str.ofString "step" = Str.ofString "still") i=false:=by cases i with | isTrue h=>exact absurd h (by rw[fw];exact not_false) | isFalse _=>rfl
theorem dA (i:Decidable (Str.ofString "step" = Str.ofString "swell")):@decide (Str.ofString "step" = Str.ofString "swell") i=false:=by cases i with | isTrue h=>exact absurd h (by rw[bx];exact not_false) | isFalse _=>rfl
theorem dQ (i:Decidable (Str.ofString "step" = Str.ofString "heed")):@decide (Str.ofString "step" = Str.ofString "heed") i=false:=by cases i with | isTrue h=>exact absurd h (by rw[bI];exact not_false) | isFalse _=>rfl
theorem dJ (i:Decidable (Str.ofString "step" = Str.ofString "calm")):@decide (Str.ofString "step" = Str.ofString "calm") i=false:=by cases i with | isTrue h=>exact absurd h (by rw[cD];exact not_false) | isFalse _=>rfl
theorem cP (i:Decidable (Str.ofString "swell" = Str.ofString "still")):@decide (Str.ofString "swell" = Str.ofString "still") i=false:=by cases i with | isTrue h=>exact absurd h (by rw[eL];exact not_false) | isFalse _=>rfl
theorem dg (i:Decidable (Str.ofString "swell" = Str.ofString "step")):@decide (Str.ofString "swell" = Str.ofString "step") i=false:=by cases i with | isTrue h=>exact absurd h (by rw[fH];exact not_false) | isFalse _=>rfl
theorem da (i:Decidable (Str.ofString "swell" = Str.ofString "heed")):@decide (Str.ofString "swell" = Str.ofString "heed") i=false:=by cases i with | isTrue h=>exact absurd h (by rw[bu];exact not_false) | isFalse _=>rfl
theorem du (i:Decidable (Str.ofString "swell" = Str.ofString "calm")):@decide (Str.ofString "swell" = Str.ofString "calm") i=false:=by cases i with | isTrue h=>exact absurd h (by rw[cc];exact not_false) | isFalse _=>rfl
theorem dm (i:Decidable (Str.ofString "heed" = Str.ofString "still")):@decide (Str.ofString "heed" = Str.ofString "still") i=false:=by cases i with | isTrue h=>exact absurd h (by rw[fF];exact not_false) | isFalse _=>rfl
theorem dY (i:Decidable (Str.ofString "heed" = Str.ofString "step")):@decide (Str.ofString "heed" = Str.ofString "step") i=false:=by cases i with | isTrue h=>exact absurd h (by rw[f6];exact not_false) | isFalse _=>rfl
theorem dh (i:Decidable (Str.ofString "heed" = Str.ofString "swell")):@decide (Str.ofString "heed" = Str.ofString "swell") i=false:=by cases i with | isTrue h=>exact absurd h (by rw[bP];exact not_false) | isFalse _=>rfl
theorem dM (i:Decidable (Str.ofString "heed" = Str.ofString "calm")):@decide (Str.ofString "heed" = Str.ofString "calm") i=false:=by cases i with | isTrue h=>exact absurd h (by rw[cF];exact not_false) | isFalse _=>rfl
theorem dE (i:Decidable (Str.ofString "calm" = Str.ofString "still")):@decide (Str.ofString "calm" = Str.ofString "still") i=false:=by cases i with | isTrue h=>exact absurd h (by rw[fm];exact not_false) | isFalse _=>rfl
theorem dR (i:Decidable (Str.ofString "calm" = Str.ofString "step")):@decide (Str.ofString "calm" = Str.ofString "step") i=false:=by cases i with | isTrue h=>exact absurd h (by rw[fV];exact not_false) | isFalse _=>rfl
theorem dt (i:Decidable (Str.ofString "calm" = Str.ofString "swell")):@decide (Str.ofString "calm" = Str.ofString "swell") i=false:=by cases i with | isTrue h=>exact absurd h (by rw[bO];exact not_false) | isFalse _=>rfl
theorem dX (i:Decidable (Str.ofString "calm" = Str.ofString "heed")):@decide (Str.ofString "calm" = Str.ofString "heed") i=false:=by cases i with | isTrue h=>exact absurd h (by rw[gK];exact not_false) | isFalse _=>rfl
theorem lx (a:Str)(i:Decidable (a=a)):@decide (a=a) i=true:=by cases i with | isTrue _=>rfl | isFalse h=>exact absurd rfl h
theorem IsPart.of_eq {a b c d x y:Int}(h:IsPart a b x y)(hb:0 < b)(hd:0 < d)(e:a*d=c*b):IsPart c d x y:=by
  have xd:x*d=c*y:=by
    refine Int.eq_of_mul_eq_mul_right (a:=b) (by omega) ?_
    calc x*d*b=(x*b)*d:=by ac_rfl
      _=(a*y)*d:=by rw[h.e]
      _=(a*d)*y:=by ac_rfl
      _=(c*b)*y:=by rw[e]
      _=c*y*b:=by ac_rfl
  have y0:=h.q0
  have dx:x ∣ c:=by
    have:x ∣ y*c:=⟨d,by rw[Int.mul_comm y c];exact xd.symm⟩
    have h':=Int.dvd_gcd_mul_iff_dvd_mul.mpr this
    rw[h.g] at h'
    simpa using h'
  have dy:y ∣ d:=by
    have:y ∣ x*d:=⟨c,by rw[xd,Int.mul_comm]⟩
    have h':=Int.dvd_gcd_mul_iff_dvd_mul.mpr this
    rw[Int.gcd_comm,h.g] at h'
    simpa using h'
  refine ⟨h.q0,h.g,xd,?_,Nat.le_of_dvd (by omega) (Int.natAbs_dvd_natAbs.mpr dy)⟩
  by_cases hc:c=0
  · subst hc
    have:x=0:=by
      rcases Int.mul_eq_zero.mp (show x*d=0 by rw[xd,Int.zero_mul]) with z | z
      · exact z
      · omega
    rw[this];exact Nat.le_refl _
  · exact Nat.le_of_dvd (by omega) (Int.natAbs_dvd_natAbs.mpr dx)
structure Vl (d:D) (a b:Int):Prop where
  ex:∃ p q,d=fr p q∧IsPart a b p q
  b0:0 < b
theorem Vl.of_eq {d:D}{a b a' b':Int}(h:Vl d a b)(hb:0 < b')(e:a*b'=a'*b):Vl d a' b':=by
  obtain ⟨⟨p,q,rfl,P⟩,b0⟩:=h
  exact ⟨⟨p,q,rfl,P.of_eq b0 hb e⟩,hb⟩
theorem yH {p q r s a b c e:Int}(q0:0 < q)(s0:0 < s)(b0:0 < b)(e0:0 < e)(h1:p*b=a*q)(h2:r*e=c*s):(p*s < r*q)↔(a*e < c*b):=by
  have k1:(p*s)*(b*e)=(a*e)*(q*s):=by
    calc (p*s)*(b*e)=(p*b)*(s*e):=by ac_rfl
      _=(a*q)*(s*e):=by rw[h1]
      _=(a*e)*(q*s):=by ac_rfl
  have k2:(r*q)*(b*e)=(c*b)*(q*s):=by
    calc (r*q)*(b*e)=(r*e)*(q*b):=by ac_rfl
      _=(c*s)*(q*b):=by rw[h2]
      _=(c*b)*(q*s):=by ac_rfl
  have be:0 < b*e:=Int.mul_pos b0 e0
  have qs:0 < q*s:=Int.mul_pos q0 s0
  constructor
  · intro h
    have:=Int.mul_lt_mul_of_pos_right h be
    rw[k1,k2] at this
    exact Int.lt_of_mul_lt_mul_right this (Int.le_of_lt qs)
  · intro h
    have:=Int.mul_lt_mul_of_pos_right h qs
    rw[← k1,← k2] at this
    exact Int.lt_of_mul_lt_mul_right this (Int.le_of_lt be)
def Le (a A:Int):Prop:=-A≤a∧a≤A
theorem Le.mono {a A B:Int}(h:Le a A)(hb:A≤B):Le a B:=⟨by have:=h.1;omega,by have:=h.2;omega⟩
theorem Le.of {a A:Int}(h0:0≤a)(h1:a≤A):Le a A:=⟨by omega,h1⟩
theorem Le.sub {a b A B:Int}(h:Le a A)(k:Le b B):Le (a - b) (A+B):=⟨by have:=h.1;have:=k.2;omega,by have:=h.2;have:=k.1;omega⟩
theorem Le.neg {a A:Int}(h:Le a A):Le (-a) A:=⟨by have:=h.2;omega,by have:=h.1;omega⟩
theorem Le.abs {a A:Int}(h:Le a A):(a.natAbs:Int)≤A:=by have:=h.1;have:=h.2;omega
theorem Le.qj {a A:Int}(h:(a.natAbs:Int)≤A):Le a A:=⟨by omega,by omega⟩
theorem Le.mul {a b A B:Int}(h:Le a A)(k:Le b B):Le (a*b) (A*B):=by
  refine .qj ?_
  rw[Int.natAbs_mul,Int.natCast_mul]
  have a0:(0:Int)≤(a.natAbs:Int):=Int.natCast_nonneg _
  have b0:(0:Int)≤(b.natAbs:Int):=Int.natCast_nonneg _
  exact Int.mul_le_mul h.abs k.abs b0 (Int.le_trans a0 h.abs)
abbrev Bd (a:Int):Prop:=Le a 1000000000000000000000000000000
theorem Bd.m {a:Int}(h:Bd a):ic a:=by have:=h.1;have:=h.2;unfold ic;omega
theorem Bd.mul {a b:Int}(h:Bd a)(k:Bd b):MulOk a b:=.inr ⟨h.m,k.m⟩
theorem IsPart.bp {a b x y:Int}(h:IsPart a b x y)(ha:Bd a):Bd x:=.qj (by have:=h.pa;have:=ha.abs;omega)
theorem IsPart.bq {a b x y:Int}(h:IsPart a b x y)(hb:Bd b):Bd y:=.qj (by have:=h.qb;have:=hb.abs;omega)
inductive Wd | ck | step | eW | nR | calm
  deriving DecidableEq
structure RN where
  wd:Wd
  p:Int
  q:Int
  x:Int
  y:Int
  a:Int
  b:Int
  l:Int
  h:Int
  r:Int
  s:Int
def Wd.str:Wd→Str
  | .ck=>Str.ofString "still"
  | .step=>Str.ofString "step"
  | .eW=>Str.ofString "swell"
  | .nR=>Str.ofString "heed"
  | .calm=>Str.ofString "calm"
def RN.toD (R:RN):D:=match R.wd with
  | .ck=>.tup [.str "still", fr R.p R.q]
  | .step=>.tup [.str "step", fr R.p R.q,fr R.x R.y,fr R.a R.b,fr R.r R.s]
  | .eW=>.tup [.str "swell", fr R.p R.q,fr R.x R.y,fr R.a R.b,fr R.r R.s]
  | .nR=>.tup [.str "heed", fr R.p R.q,fr R.x R.y,fr R.a R.b,fr R.r R.s]
  | .calm=>.tup [.str "calm", fr R.p R.q,fr R.x R.y,.int R.l,.int R.h,fr R.r R.s]
structure RN.Ok (R:RN):Prop where
  w:FrB 1 60 R.p R.q
  t:FrB 1 60 R.r R.s
  wt:R.p*R.s≤R.r*R.q
  u:FrA 0 60 R.x R.y
  u1:R.wd=.eW→R.y < R.x
  g:FrA 0 1 R.a R.b
  d1:R.wd=.step∨R.wd=.eW→R.a < R.b
  l0:0≤R.l
  lh:R.l≤R.h
  h1:R.h≤60
  st:R.wd=.ck→R.r=R.p∧R.s=R.q
theorem vR {lo hi:Int}(h0:lo < 1)(h1:1≤hi):FrA lo hi 1 1:=⟨⟨by decide,by decide,by decide,by omega,by omega⟩,by omega⟩
theorem vc {p q:Int}(h:FrL 1 p q):FrA 0 1 p q:=⟨h.toFrB,by have:=h.ab;omega⟩
theorem lK.rn {w:Str}{d:D}(h:lK w d):∃ R:RN,R.Ok∧d=R.toD∧R.wd.str=w:=by
  cases h with
  | @ck p q w=>exact ⟨⟨.ck,p,q,1,1,1,1,0,0,p,q⟩,⟨w,w,Int.le_refl _,vR (by decide) (by decide),nofun,vR (by decide) (by decide),(fun z=>by rcases z with z | z<;>cases z),Int.le_refl 0,Int.le_refl 0,(show (0:Int)≤60 by decide),fun _=>⟨rfl,rfl⟩⟩,rfl,rfl⟩
  | @calm p q r s x y l h w t wt u l0 lh h1=>exact ⟨⟨.calm,p,q,x,y,1,1,l,h,r,s⟩,⟨w,t,wt,u,nofun,vR (by decide) (by decide),(fun z=>by rcases z with z | z<;>cases z),l0,lh,h1,nofun⟩,rfl,rfl⟩
  | @nR p q r s x y a b w t wt u g=>exact ⟨⟨.nR,p,q,x,y,a,b,0,0,r,s⟩,⟨w,t,wt,u,nofun,g,(fun z=>by rcases z with z | z<;>cases z),Int.le_refl 0,Int.le_refl 0,(show (0:Int)≤60 by decide),nofun⟩,rfl,rfl⟩
  | @step p q r s x y a b w t wt u g=>
    have d1:a < b:=by have:=g.be;omega
    exact ⟨⟨.step,p,q,x,y,a,b,0,0,r,s⟩,⟨w,t,wt,u,nofun,vc g,fun _=>d1,Int.le_refl 0,Int.le_refl 0,(show (0:Int)≤60 by decide),nofun⟩,rfl,rfl⟩
  | @eW p q r s x y a b w t wt u g=>
    have d1:a < b:=by have:=g.be;omega
    have y0:=u.q0
    have u2:=u.ab
    have u3:FrA 0 60 x y:=⟨⟨u.q0,u.q1,u.g,by omega,u.le⟩,by omega⟩
    exact ⟨⟨.eW,p,q,x,y,a,b,0,0,r,s⟩,⟨w,t,wt,u3,fun _=>(by omega:y < x),vc g,fun _=>d1,Int.le_refl 0,Int.le_refl 0,(show (0:Int)≤60 by decide),nofun⟩,rfl,rfl⟩
structure Hd where
  good:Int
  mark:Int
  qz:Int
  wt:Int
structure Hd.Ok (h:Hd):Prop where
  g0:0≤h.good
  g1:h.good≤1000000
  m0:0≤h.mark
  m1:h.mark≤1000000
  l0:0≤h.qz
  l1:h.qz≤1000000
  w0:0≤h.wt
def Hd.toD (h:Hd):D:=.tup [.int h.good,.int h.mark,.int h.qz,.int h.wt]
def Hd.bad (h:Hd):Int:=h.mark+h.qz
def Hd.many (h:Hd):Int:=h.good+h.bad
def RN.idle (R:RN)(h:Hd):Prop:=R.wd=.ck∨h.good+h.mark+h.qz=0
instance (R:RN) (h:Hd):Decidable (R.idle h):=by unfold RN.idle;infer_instance
theorem Le.div {a b A:Int}(h:Le a A)(hb:0 < b)(hA:0≤A):Le (a / b) A:=by
  constructor
  · rw[Int.le_ediv_iff_mul_le hb]
    have:=h.1
    have:A*1≤A*b:=Int.mul_le_mul_of_nonneg_left (by omega) hA
    rw[Int.neg_mul];omega
  · refine Int.ediv_le_of_le_mul hb ?_
    have:=h.2
    have:A*1≤A*b:=Int.mul_le_mul_of_nonneg_left (by omega) hA
    omega
local macro_rules | `(tactic| walk_at "rd")=>`(tactic| try simp only[ah,TC,aj,TUn,bV,pT,gn,TB,mf,TOr,cH,pq,fJ,aq,af,bb,gW,qM,ao,aT,aC,mY,sC,sE,aL,ql,bF,az,aY,lB,dO,lS,c8,wG,u4,l9,tO,xu,ya,ILs,
  sH,rR,rP,rQ,rF,nJ,iA,nU,qW,kR,k4,oS,iI,la,lq,lG,kx,vm,i2,vq,iX,iQ,iB,iP,iH,jz,jn,iW,js,TSl,ONo,w4,rN,sL,rq,sD,rS,qG,nE,mT,qH,qr,pZ,jc,i4,i5,nG,n5,nz,nO,nL,nh,ni,n4,oh,qx,sA,rD,p7,rB,qh,j6,qp,rH,nk,nX,nY,lb,nQ,ng,nv,nC,mW,nV,
  lk,ini,List.map,List.length,List.replicate,List.append,List.set,List.cons_append,List.nil_append,Nat.sub_self,Nat.reduceSub,Nat.reduceAdd,
  mD,mx,me,l6,oX,oR,rg,qU,sI,List.getElem?_cons_zero,List.getElem?_cons_succ,bS,oP,Nat.reduceLT,Nat.reduceLeDiff,if_true,if_false,true_and,and_true,Bool.not_true,Bool.not_false,Nat.lt_add_one,Nat.zero_lt_succ,Nat.succ_lt_succ_iff,Nat.zero_lt_one,
  decide_eq_true_eq,Bool.false_eq_true,ite_false,ite_true,ne_eq,not_false_eq_true,Int.reduceToNat,Int.reducePow,Int.reduceNeg,Int.reduceSub,Int.reduceAdd,Int.reduceMul,Int.reduceEq,okD,bM,eqD,fg,Bool.and_self,Bool.and_true,Bool.true_and,za,nB,decide_true,decide_false,Bool.or_true,Bool.or_false,Bool.true_or,Bool.false_or,Bool.and_false,Bool.false_and,and_self,df,cO,de,dC,dk,dA,dQ,dJ,cP,dg,da,du,dm,dY,dh,dM,dE,dR,dt,dX,lx,e9,gJ,e8,gD,gM,fQ,gw,gI,gk,fW,gC,f7])
def bB:FSp:=fun ds μ Q=>match ds with
  | [d1,d2]=>∃ a b c e,((Vl d1 a b∧Vl d2 c e)∧Bd a∧Bd b∧Bd c∧Bd e)∧Q (.bl (decide (a*e < c*b))) μ
  | _=>False
theorem mH:∀ ds μ Q,bB ds μ Q→ds.length=2:=by
  unfold bB
  walk_at "ln"
def jm:STr:=aL (aj rLt (aj cm (aj L3.rIx (ah 0) (TC (.int 0))) (aj L3.rIx (ah 1) (TC (.int 1)))) (aj cm (aj L3.rIx (ah 1) (TC (.int 0))) (aj L3.rIx (ah 0) (TC (.int 1)))))
theorem oZ:∀ ds μ Q,bB ds μ Q→jm { nx:=fun _ μ'=>RT Q .non μ',rt:=RT Q } (ini 2 ds) μ:=by
  intro ds μ Q h
  unfold bB at h
  split at h
  case h_2=>exact h.elim
  rename_i d1 d2
  unfold jm
  walk_at "rd"
  obtain ⟨a,b,c,e,⟨⟨V1,V2⟩,Ba,Bb,Bc,Be⟩,k⟩:=h
  obtain ⟨⟨p,q,rfl,P⟩,b0⟩:=V1
  obtain ⟨⟨r,s,rfl,S⟩,e0⟩:=V2
  walk_at "rd"
  refine ⟨(P.bp Ba).mul (S.bq Be),(S.bp Bc).mul (P.bq Bb),_,.refl _,?_⟩
  rw[show decide (p*s < r*q)=decide (a*e < c*b) from decide_eq_decide.mpr (yH P.q0 S.q0 b0 e0 P.e S.e)]
  exact k
theorem qZ {xs:List D}{d:D}(h:xs[xs.length - 1]? = some d)(h0:xs≠[]):atD xs ((xs.length:Int) - 1)=some d:=by
  have:0 < xs.length:=List.length_pos_iff.mpr h0
  have e:((xs.length:Int) - 1)=((xs.length - 1:Nat):Int):=by omega
  rw[e,br,h]
theorem RN.tup (R:RN)(hst:R.wd=.ck→R.r=R.p∧R.s=R.q):∃ xs,R.toD=.tup xs∧xs[0]? = some (.str R.wd.str)∧xs[1]? = some (fr R.p R.q)∧xs[xs.length - 1]? = some (fr R.r R.s)∧xs≠[]:=by
  obtain ⟨wd,p,q,x,y,a,b,l,h,r,s⟩:=R
  cases wd
  · obtain ⟨e1,e2⟩:=hst rfl
    dsimp only at e1 e2
    subst e1 e2
    exact ⟨_,rfl,rfl,rfl,rfl,nofun⟩
  all_goals exact ⟨_,rfl,rfl,rfl,rfl,nofun⟩
def aX:FSp:=fun ds μ Q=>match ds with
  | [d]=>∃ R:RN,(R.Ok∧d=R.toD)∧Q (fr R.r R.s) μ
  | _=>False
theorem iC:∀ ds μ Q,aX ds μ Q→ds.length=1:=by
  unfold aX
  walk_at "ln"
def eG:STr:=aL (aj L3.rIx (ah 0) (aj fY (ao cE (af (ah 0) (aq))) (TC (.int 1))))
theorem j7:∀ ds μ Q,aX ds μ Q→eG { nx:=fun _ μ'=>RT Q .non μ',rt:=RT Q } (ini 1 ds) μ:=by
  intro ds μ Q h
  unfold aX at h
  split at h
  case h_2=>exact h.elim
  rename_i d
  unfold eG
  walk_at "rd"
  obtain ⟨R,⟨K,rfl⟩,k⟩:=h
  obtain ⟨xs,e,_,_,e3,e4⟩:=R.tup K.st
  rw[e]
  walk_at "rd"
  rw[qZ e3 e4]
  exact ⟨_,.refl _,k⟩
theorem FrB.bd {lo hi p q:Int}(h:FrB lo hi p q)(l0:0≤lo)(h1:hi≤60):Le p 600000120∧Le q 10000002:=by
  have:=h.q0;have:=h.q1
  have e1:=h.ge;have e2:=h.le
  have a1:0≤lo*q:=Int.mul_nonneg l0 (by omega)
  have a2:hi*q≤60*q:=Int.mul_le_mul_of_nonneg_right h1 (by omega)
  exact ⟨.of (by omega) (by omega),.of (by omega) (by omega)⟩
def kLs (x:D)(f:List D→Prop):Prop:=match x with
  | .ls ds=>f ds
  | _=>False
def fj (sp:FSp)(ds:List D)(μ:Mu)(Q:DK):Prop:=sp ds μ Q
def LEN (ds:List D)(P:Prop):Prop:=ds.length≤1000000∧P
theorem wO (d:D)(r:ST)(μ:Mu)(Q:DK):ah 0 (some d::r) μ Q=Q d μ:=propext Iff.rfl
theorem wy (x0:Option D)(d:D)(r:ST)(μ:Mu)(Q:DK):ah 1 (x0::some d::r) μ Q=Q d μ:=propext Iff.rfl
theorem um (x0 x1:Option D)(r:ST)(d:D)(μ:Mu)(k:ST→Mu→Prop):az 1 d (x0::x1::r) μ k=k (x0::some d::r) μ:=propext Iff.rfl
theorem vj (x0 x1:Option D)(d:D)(r:ST)(μ:Mu)(Q:DK):ah 2 (x0::x1::some d::r) μ Q=Q d μ:=propext Iff.rfl
theorem sX (x0 x1 x2:Option D)(r:ST)(d:D)(μ:Mu)(k:ST→Mu→Prop):az 2 d (x0::x1::x2::r) μ k=k (x0::x1::some d::r) μ:=propext Iff.rfl
theorem vv (x0 x1 x2:Option D)(d:D)(r:ST)(μ:Mu)(Q:DK):ah 3 (x0::x1::x2::some d::r) μ Q=Q d μ:=propext Iff.rfl
theorem tI (x0 x1 x2 x3:Option D)(r:ST)(d:D)(μ:Mu)(k:ST→Mu→Prop):az 3 d (x0::x1::x2::x3::r) μ k=k (x0::x1::x2::some d::r) μ:=propext Iff.rfl
theorem wA (x0 x1 x2 x3:Option D)(d:D)(r:ST)(μ:Mu)(Q:DK):ah 4 (x0::x1::x2::x3::some d::r) μ Q=Q d μ:=propext Iff.rfl
theorem tQ (x0 x1 x2 x3 x4:Option D)(r:ST)(d:D)(μ:Mu)(k:ST→Mu→Prop):az 4 d (x0::x1::x2::x3::x4::r) μ k=k (x0::x1::x2::x3::some d::r) μ:=propext Iff.rfl
theorem vB (x0 x1 x2 x3 x4:Option D)(d:D)(r:ST)(μ:Mu)(Q:DK):ah 5 (x0::x1::x2::x3::x4::some d::r) μ Q=Q d μ:=propext Iff.rfl
theorem uD (x0 x1 x2 x3 x4 x5:Option D)(r:ST)(d:D)(μ:Mu)(k:ST→Mu→Prop):az 5 d (x0::x1::x2::x3::x4::x5::r) μ k=k (x0::x1::x2::x3::x4::some d::r) μ:=propext Iff.rfl
theorem vA (x0 x1 x2 x3 x4 x5:Option D)(d:D)(r:ST)(μ:Mu)(Q:DK):ah 6 (x0::x1::x2::x3::x4::x5::some d::r) μ Q=Q d μ:=propext Iff.rfl
theorem uf (x0 x1 x2 x3 x4 x5 x6:Option D)(r:ST)(d:D)(μ:Mu)(k:ST→Mu→Prop):az 6 d (x0::x1::x2::x3::x4::x5::x6::r) μ k=k (x0::x1::x2::x3::x4::x5::some d::r) μ:=propext Iff.rfl
theorem w5 (x0 x1 x2 x3 x4 x5 x6:Option D)(d:D)(r:ST)(μ:Mu)(Q:DK):ah 7 (x0::x1::x2::x3::x4::x5::x6::some d::r) μ Q=Q d μ:=propext Iff.rfl
theorem tL (x0 x1 x2 x3 x4 x5 x6 x7:Option D)(r:ST)(d:D)(μ:Mu)(k:ST→Mu→Prop):az 7 d (x0::x1::x2::x3::x4::x5::x6::x7::r) μ k=k (x0::x1::x2::x3::x4::x5::x6::some d::r) μ:=propext Iff.rfl
theorem zr (d:D)(ρ:ST)(μ:Mu)(Q:DK):TC d ρ μ Q=Q d μ:=propext Iff.rfl
theorem wY (r:DR2)(a b:ETr)(ρ:ST)(μ:Mu)(Q:DK):aj r a b ρ μ Q=a ρ μ fun x μ1=>b ρ μ1 fun y μ2=>r x y μ2 Q:=propext Iff.rfl
theorem xS (r:DR)(a:ETr)(ρ:ST)(μ:Mu)(Q:DK):TUn r a ρ μ Q=a ρ μ fun x μ1=>r x μ1 Q:=propext Iff.rfl
theorem tm (a b:ETr)(ρ:ST)(μ:Mu)(Q:DK):bV a b ρ μ Q=a ρ μ fun x μ1=>kB x fun c=>kIf c (b ρ μ1 Q) (Q (.bl false) μ1):=propext Iff.rfl
theorem xp (a b:ETr)(ρ:ST)(μ:Mu)(Q:DK):pT a b ρ μ Q=a ρ μ fun x μ1=>kB x fun c=>kIf c (Q (.bl true) μ1) (b ρ μ1 Q):=propext Iff.rfl
theorem uk (a:ETr)(ρ:ST)(μ:Mu)(Q:DK):gn a ρ μ Q=a ρ μ fun x μ1=>kB x fun c=>Q (.bl (!c)) μ1:=propext Iff.rfl
theorem zv (t:ETr)(ρ:ST)(μ:Mu)(Q:Bool→Mu→Prop):TB t ρ μ Q=t ρ μ fun x μ1=>kB x fun c=>Q c μ1:=propext Iff.rfl
theorem vi (t u:TTr)(ρ:ST)(μ:Mu)(Q:Bool→Mu→Prop):mf t u ρ μ Q=t ρ μ fun c μ1=>kIf c (u ρ μ1 Q) (Q false μ1):=propext Iff.rfl
theorem yx (t u:TTr)(ρ:ST)(μ:Mu)(Q:Bool→Mu→Prop):TOr t u ρ μ Q=t ρ μ fun c μ1=>kIf c (Q true μ1) (u ρ μ1 Q):=propext Iff.rfl
theorem wL (t:TTr)(ρ:ST)(μ:Mu)(Q:Bool→Mu→Prop):cH t ρ μ Q=t ρ μ fun c μ1=>Q (!c) μ1:=propext Iff.rfl
theorem xm (c:TTr)(a b:ETr)(ρ:ST)(μ:Mu)(Q:DK):pq c a b ρ μ Q=c ρ μ fun k μ1=>kIf k (a ρ μ1 Q) (b ρ μ1 Q):=propext Iff.rfl
theorem qY (r r':DR2)(a b c:ETr)(ρ:ST)(μ:Mu)(Q:DK):fJ r r' a b c ρ μ Q=a ρ μ fun x μ1=>b ρ μ1 fun y μ2=>r x y μ2 fun z μ3=>kB z fun k=>kIf k (c ρ μ3 fun y' μ4=>r' y y' μ4 Q) (Q (.bl false) μ3):=propext Iff.rfl
theorem ve (ρ:ST)(μ:Mu)(Q:List D→Mu→Prop):aq ρ μ Q=Q [] μ:=propext Iff.rfl
theorem tT (a:ETr)(r:ATr)(ρ:ST)(μ:Mu)(Q:List D→Mu→Prop):af a r ρ μ Q=a ρ μ fun x μ1=>r ρ μ1 fun xs μ2=>Q (x::xs) μ2:=propext Iff.rfl
theorem w9 (t:ATr)(ρ:ST)(μ:Mu)(Q:DK):bb t ρ μ Q=t ρ μ fun ds μ1=>LEN ds (Q (.tup ds) μ1):=propext Iff.rfl
theorem wC (t:ATr)(ρ:ST)(μ:Mu)(Q:DK):gW t ρ μ Q=t ρ μ fun ds μ1=>LEN ds (Q (.ls ds) μ1):=propext Iff.rfl
theorem tG (sp:FSp)(t:ATr)(ρ:ST)(μ:Mu)(Q:DK):ao sp t ρ μ Q=t ρ μ fun ds μ1=>fj sp ds μ1 Q:=propext Iff.rfl
theorem sM (nx:ST→Mu→Prop)(rt:DK)(bk ct:ST→Mu→Prop)(ρ:ST)(μ:Mu):aT ⟨nx,rt,bk,ct⟩ ρ μ=nx ρ μ:=propext Iff.rfl
theorem vD (t u:STr)(nx:ST→Mu→Prop)(rt:DK)(bk ct:ST→Mu→Prop)(ρ:ST)(μ:Mu):aC t u ⟨nx,rt,bk,ct⟩ ρ μ=t ⟨u ⟨nx,rt,bk,ct⟩,rt,bk,ct⟩ ρ μ:=propext Iff.rfl
theorem vY (e:ETr)(nx:ST→Mu→Prop)(rt:DK)(bk ct:ST→Mu→Prop)(ρ:ST)(μ:Mu):aL e ⟨nx,rt,bk,ct⟩ ρ μ=e ρ μ rt:=propext Iff.rfl
theorem wZ (c:TTr)(t u:STr)(nx:ST→Mu→Prop)(rt:DK)(bk ct:ST→Mu→Prop)(ρ:ST)(μ:Mu):bF c t u ⟨nx,rt,bk,ct⟩ ρ μ=c ρ μ fun b μ1=>kIf b (t ⟨nx,rt,bk,ct⟩ ρ μ1) (u ⟨nx,rt,bk,ct⟩ ρ μ1):=propext Iff.rfl
theorem wQ (e:ETr)(g:GTr)(nx:ST→Mu→Prop)(rt:DK)(bk ct:ST→Mu→Prop)(ρ:ST)(μ:Mu):aY e g ⟨nx,rt,bk,ct⟩ ρ μ=e ρ μ fun d μ1=>g d ρ μ1 nx:=propext Iff.rfl
theorem rz (o k e:ETr)(nx:ST→Mu→Prop)(rt:DK)(bk ct:ST→Mu→Prop)(ρ:ST)(μ:Mu):dO o k e ⟨nx,rt,bk,ct⟩ ρ μ=e ρ μ fun y μ1=>o ρ μ1 fun x μ2=>k ρ μ2 fun z μ3=>ub x z y μ3 fun μ4=>nx ρ μ4:=propext Iff.rfl
theorem vt (it:ATr)(g:GTr)(b:STr)(nx:ST→Mu→Prop)(rt:DK)(bk ct:ST→Mu→Prop)(ρ:ST)(μ:Mu):lS it g b ⟨nx,rt,bk,ct⟩ ρ μ=it ρ μ fun ds μ1=>forR g b ⟨nx,rt,bk,ct⟩ ds ρ μ1:=propext Iff.rfl
theorem pP (a:ETr)(ρ:ST)(μ:Mu)(Q:List D→Mu→Prop):c8 a ρ μ Q=a ρ μ fun x μ1=>kI x fun j=>(-4611686018427387904≤j∧j < 4611686018427387904)∧Q (ei 0 j.toNat) μ1:=propext Iff.rfl
theorem oD (a:ETr)(ρ:ST)(μ:Mu)(Q:List D→Mu→Prop):yp (af a aq) ρ μ Q=a ρ μ fun x μ1=>kLs x fun ds=>Q (uJ ds) μ1:=propext (Iff.of_eq (congrArg (a ρ μ) (funext fun x=>funext fun μ1=>by cases x<;>rfl)))
theorem yA (x0 x1:D)(P:Prop):LEN [x0,x1] P=P:=by simp[LEN]
theorem uE (x0 x1:D)(μ:Mu)(Q:DK):fj cE [.tup [x0,x1]] μ Q=Q (.int 2) μ:=propext Iff.rfl
theorem xE (x0 x1 x2 x3:D)(P:Prop):LEN [x0,x1,x2,x3] P=P:=by simp[LEN]
theorem ye (x0 x1 x2 x3 x4:D)(P:Prop):LEN [x0,x1,x2,x3,x4] P=P:=by simp[LEN]
theorem xR (x0 x1 x2 x3 x4 x5:D)(P:Prop):LEN [x0,x1,x2,x3,x4,x5] P=P:=by simp[LEN]
theorem yM (x0 x1 x2 x3 x4 x5 x6:D)(P:Prop):LEN [x0,x1,x2,x3,x4,x5,x6] P=P:=by simp[LEN]
theorem vL (x0 x1 x2 x3 x4 x5 x6 x7 x8 x9 x10:D)(P:Prop):LEN [x0,x1,x2,x3,x4,x5,x6,x7,x8,x9,x10] P=P:=by simp[LEN]
theorem wX (x0:D)(r:List D)(μ:Mu)(Q:DK):L3.rIx (.tup (x0::r)) (.int 0) μ Q=Q x0 μ:=by rw[j6];exact congrArg (fun o=>kO o fun d=>Q d μ) (br 0 _)
theorem vx (x0 x1:D)(r:List D)(μ:Mu)(Q:DK):L3.rIx (.tup (x0::x1::r)) (.int 1) μ Q=Q x1 μ:=by rw[j6];exact congrArg (fun o=>kO o fun d=>Q d μ) (br 1 _)
theorem vn (x0 x1 x2:D)(r:List D)(μ:Mu)(Q:DK):L3.rIx (.tup (x0::x1::x2::r)) (.int 2) μ Q=Q x2 μ:=by rw[j6];exact congrArg (fun o=>kO o fun d=>Q d μ) (br 2 _)
theorem wW (i j:Str)(μ:Mu)(Q:DK):L3.rEq (.str i) (.str j) μ Q=((PyData.strOk i=true∧PyData.strOk j=true)∧Q (.bl (decide (i=j))) μ):=by simp[L3.rEq,okD,eqD]
theorem wc (i j:Int)(μ:Mu)(Q:DK):fj mI [.int i,.int j] μ Q=Q (.int (max i j)) μ:=by show Q (.int (if j > i then j else i)) μ=_;congr 2;omega
theorem xb (i j:Int)(μ:Mu)(Q:DK):fj mO [.int i,.int j] μ Q=Q (.int (min i j)) μ:=by show Q (.int (if j < i then j else i)) μ=_;congr 2;omega
theorem wU (i:Bool)(μ:Mu)(Q:DK):fj lz [.bl i] μ Q=Q (.int (if i then 1 else 0)) μ:=propext Iff.rfl
theorem qc (a:Addr)(μ:Mu)(Q:DK):fj fM [.obj a] μ Q=kL μ a fun xs=>Q (.tup xs) μ:=propext Iff.rfl
theorem qF (a:List D)(μ:Mu)(Q:DK):fj fK [.tup a] μ Q = ∀ p,μ p=none→Q (.obj p) (up μ p (.lst a)):=propext Iff.rfl
theorem wR (a:Addr)(μ:Mu)(Q:DK):fj cE [.obj a] μ Q=kL μ a fun xs=>Q (.int xs.length) μ:=propext Iff.rfl
theorem sv (a:List D)(μ:Mu)(Q:DK):fj cE [.tup a] μ Q=Q (.int a.length) μ:=propext Iff.rfl
theorem qa (a:List D)(μ:Mu)(Q:DK):fj cE [.ls a] μ Q=Q (.int a.length) μ:=propext Iff.rfl
theorem ym (n:Nat)(i:Int):okD n (.int i)=true:=by cases n<;>simp[okD]
theorem yR (n:Nat)(i:Bool):okD n (.bl i)=true:=by cases n<;>simp[okD]
theorem xT (n:Nat)(x:Str):okD n (.str x)=PyData.strOk x:=by cases n<;>simp[okD]
theorem yT (n:Nat)(ds:List D):okD (n+1) (.tup ds)=bM n ds:=by simp[okD]
theorem om (n:Nat):bM n []=true:=by simp[bM]
theorem mw (n:Nat)(d:D)(r:List D):bM n (d::r)=(okD n d&&bM n r):=by simp[bM]
theorem gm (i j:Int):eqD (.int i) (.int j)=decide (i=j):=by simp[eqD]
theorem oq (i j:Str):eqD (.str i) (.str j)=decide (i=j):=by simp[eqD]
theorem uT (i j:Bool):eqD (.bl i) (.bl j)=(i == j):=by simp[eqD]
theorem mj (a b:List D):eqD (.tup a) (.tup b)=fg a b:=by simp[eqD]
theorem gc  : fg [] []=true:=by simp[fg]
theorem cf (a b:D)(r s:List D):fg (a::r) (b::s)=(eqD a b&&fg r s):=by simp[fg]
theorem tH (A B:Prop):kIf true A B=A:=propext Iff.rfl
theorem sZ (A B:Prop):kIf false A B=B:=propext Iff.rfl
theorem ur (c:Bool)(f):kB (.bl c) f=f c:=propext Iff.rfl
theorem qo (c:Int)(f):kI (.int c) f=f c:=propext Iff.rfl
theorem pD (c:D)(f):kO (some c) f=f c:=propext Iff.rfl
theorem pO (c:Nat)(f):kN (some c) f=f c:=propext Iff.rfl
theorem nt (a:Addr)(n:Int)(y:D)(μ:Mu)(f):ub (.obj a) (.int n) y μ f=kL μ a fun ds=>kN (L2.ixN ds.length n) fun j=>f (up μ a (.lst (ds.set j y))):=propext Iff.rfl
theorem pG (i j:Int)(μ Q):ba (.int i) (.int j) μ Q=Q (.int (i+j)) μ:=propext Iff.rfl
theorem pA (a b:List D)(μ Q):ba (.ls a) (.ls b) μ Q=(a.length+b.length≤1000000∧Q (.ls (a++b)) μ):=propext Iff.rfl
theorem q8 (i j:Int)(μ Q):fY (.int i) (.int j) μ Q=Q (.int (i - j)) μ:=propext Iff.rfl
theorem pX (i j:Int)(μ Q):cm (.int i) (.int j) μ Q=(MulOk i j∧Q (.int (i*j)) μ):=propext Iff.rfl
theorem qC (i j:Int)(μ Q):pQ (.int i) (.int j) μ Q=(ki i j∧Q (.int (i ^ j.toNat)) μ):=propext Iff.rfl
theorem rE (i:Int)(μ Q):g7 (.int i) μ Q=Q (.int (-i)) μ:=propext Iff.rfl
theorem uF (i j:Int)(μ Q):rLt (.int i) (.int j) μ Q=Q (.bl (decide (i < j))) μ:=propext Iff.rfl
theorem t7 (i j:Int)(μ Q):rLe (.int i) (.int j) μ Q=Q (.bl (decide (i≤j))) μ:=propext Iff.rfl
theorem tP (i j:Int)(μ Q):rGt (.int i) (.int j) μ Q=Q (.bl (decide (j < i))) μ:=propext Iff.rfl
theorem sV (a:Addr)(i:Int)(μ Q):L3.rIx (.obj a) (.int i) μ Q=kL μ a fun ds=>kO (atD ds i) fun d=>Q d μ:=propext Iff.rfl
theorem sf (c:String)(i:Int)(μ Q):cT c (.int i) μ Q=Q (.bl (cw "int" c)) μ:=propext Iff.rfl
theorem rf (c:String)(i:Bool)(μ Q):cT c (.bl i) μ Q=Q (.bl (cw "bool" c)) μ:=propext Iff.rfl
theorem rZ (c:String)(i:List D)(μ Q):cT c (.tup i) μ Q=Q (.bl (cw "tuple" c)) μ:=propext Iff.rfl
theorem rV (c:String)(i:Str)(μ Q):cT c (.str i) μ Q=Q (.bl (cw "str" c)) μ:=propext Iff.rfl
theorem oK (ds:List D)(i:Int)(μ Q):L3.rIx (.tup ds) (.int i) μ Q=kO (atD ds i) fun d=>Q d μ:=propext Iff.rfl
theorem oT (ds:List D)(i:Int)(μ Q):L3.rIx (.ls ds) (.int i) μ Q=kO (atD ds i) fun d=>Q d μ:=propext Iff.rfl
theorem oO (x y:D)(μ Q):L3.rEq x y μ Q=((okD 40 x=true∧okD 40 y=true)∧Q (.bl (eqD x y)) μ):=propext Iff.rfl
theorem oU (x y:D)(μ Q):L3.rNe x y μ Q=((okD 40 x=true∧okD 40 y=true)∧Q (.bl (!eqD x y)) μ):=propext Iff.rfl
theorem kif {p:Prop} [Decidable p] {A B:Prop}(h1:p→A)(h2:¬ p→B):kIf (decide p) A B:=by
  by_cases h:p
  · rw[decide_eq_true h];exact h1 h
  · rw[decide_eq_false h];exact h2 h
theorem g8 {p:Prop} [Decidable p] {A B:Prop}(h:¬ p)(hB:B):kIf (decide p) A B:=by rw[decide_eq_false h];exact hB
theorem cg {c:Bool}{A B:Prop}(h1:c=true→A)(h2:c=false→B):kIf c A B:=by
  cases c
  · exact h2 rfl
  · exact h1 rfl
theorem gH {o:Option D}{d:D}{f:D→Prop}(e:o=some d)(h:f d):kO o f:=by rw[e];exact h
theorem oz {μ:Mu}{a:Addr}{ds:List D}{f:List D→Prop}(e:μ a=some (.lst ds))(h:f ds):kL μ a f:=by rw[u0 e];exact h
def xU:=Jn @wO <| Jn @wy <| Jn @um <| Jn @vj <| Jn @sX <| Jn @vv <| Jn @tI <| Jn @wA <| Jn @tQ <| Jn @vB <| Jn @uD <| Jn @vA <| Jn @uf <| Jn @w5 <| Jn @tL <| Jn @zr <| Jn @wY <| Jn @xS <| Jn @tm <| Jn @xp <| Jn @uk <| Jn @zv <| Jn @vi <| Jn @yx <| Jn @wL <| Jn @xm <| Jn @qY <| Jn @ve <| Jn @tT <| Jn @w9 <| Jn @wC <| Jn @tG <| Jn @sM <| Jn @vD <| Jn @vY <| Jn @wZ <| Jn @wQ <| Jn @rz <| Jn @vt <| Jn @pP <| Jn @yA <| Jn @uE <| Jn @xE <| Jn @ye <| Jn @xR <| Jn @yM <| Jn @vL <| Jn @wX <| Jn @vx <| Jn @vn <| Jn @tH <| Jn @sZ <| Jn @ur <| Jn @qo <| Jn @pD <| Jn @pO <| Jn @oS <| Jn @nt <| Jn @pG <| Jn @pA <| Jn @q8 <| Jn @pX <| Jn @qC <| Jn @rE <| Jn @uF <| Jn @t7 <| Jn @tP <| Jn @sV <| Jn @sf <| Jn @rf <| Jn @rZ <| Jn @rV <| Jn @wW <| Jn @wc <| Jn @xb <| Jn @wU <| Jn @qc <| Jn @qF <| @wR
def xF:=Jn @e9 <| Jn @gJ <| Jn @e8 <| Jn @gD <| @gM
local macro_rules | `(tactic| walk_at "go")=>`(tactic| try simp only[↓xU,xF,↓oD,↓i2,df,cO,de,dC,dk,dA,dQ,dJ,cP,dg,da,du,dm,dY,dh,dM,dE,dR,dt,dX,lx,ym,yR,xT,yT,om,mw,gm,oq,uT,mj,gc,cf,sv,qa,oK,oT,oO,oU,true_and,and_true,and_self,Bool.not_true,Bool.not_false,decide_true,decide_false,Bool.or_true,Bool.or_false,Bool.true_or,Bool.false_or,Bool.and_false,Bool.false_and,Bool.and_true,Bool.true_and,Int.reduceToNat,Int.reducePow,Int.reduceNeg,Int.reduceSub,Int.reduceAdd,Int.reduceMul,Int.reduceEq,Int.reduceLT,Int.reduceLE,Int.reduceBEq,oP,fQ,gw,gI,gk,fW,gC,f7,if_true,if_false,Bool.false_eq_true,reduceCtorEq,decide_eq_true_eq])
local macro_rules | `(tactic| walk_at "ini")=>`(tactic| simp only[ini,List.map,List.length,List.replicate,Nat.reduceSub,Nat.reduceAdd,Nat.sub_self,List.cons_append,List.nil_append,List.append_nil])
theorem qJ {xs:List D}{P:D→Prop}(h:∀ d∈xs,P d){k:Int}(k0:0≤k)(k1:k < xs.length):∃ d,atD xs k=some d∧P d:=by
  obtain ⟨j,rfl⟩:=Int.eq_ofNat_of_zero_le k0
  rw[br]
  have hj:j < xs.length:=by omega
  exact ⟨xs[j],by simp[hj],h _ (List.getElem_mem hj)⟩
def IsL (hi:Int)(d:D):Prop:=∃ p q,d=fr p q∧FrL hi p q
theorem gO {P:D→Prop}:∀ d∈([]:List D),P d:=fun _ h=>nomatch h
theorem a8 {P:D→Prop}{a:D}{xs:List D}(h:P a)(k:∀ d∈xs,P d):∀ d∈a::xs,P d:=fun d hd=>by
  rcases List.mem_cons.mp hd with e | e
  · rw[e];exact h
  · exact k d e
local macro_rules | `(tactic| walk_at "all")=>`(tactic| repeat' (first | exact gO | refine a8 ?_ ?_))
structure jV (b p:Addr) (xs:List D) (μ μ':Mu):Prop where
  box:Box μ' b
  ne:p≠b
  new:μ p=none
  at':μ' p=some (.lst xs)
  oth:∀ a,a≠b→a≠p→μ' a=μ a
theorem jV.go {b p:Addr}{xs:List D}{μ μ1 μ2:Mu}(h:jV b p xs μ μ1)(B:cn b μ1 μ2):jV b p xs μ μ2:=
  ⟨B.box,h.ne,h.new,by rw[B.oth p h.ne];exact h.at',fun a h1 h2=>by rw[B.oth a h1];exact h.oth a h1 h2⟩
theorem jV.set {b p:Addr}{xs ys:List D}{μ μ1:Mu}(h:jV b p xs μ μ1):jV b p ys μ (up μ1 p (.lst ys)):=by
  obtain ⟨g,s,c,e,hh⟩:=h.box
  exact ⟨⟨g,s,c,by rw[dZ h.ne.symm];exact e,hh⟩,h.ne,h.new,bS,fun a h1 h2=>by rw[dZ h2];exact h.oth a h1 h2⟩
theorem xn (μ:Mu)(p:Addr):Sub (dn μ p) μ:=fun a o e=>by
  unfold dn at e
  split at e
  · cases e
  · exact e
theorem jV.fin {b p:Addr}{xs:List D}{μ μ1:Mu}(h:jV b p xs μ μ1):cn b μ (dn μ1 p):=by
  obtain ⟨g,s,c,e,hh⟩:=h.box
  refine ⟨⟨g,s,c,?_,hh⟩,fun a ha=>?_⟩
  · unfold dn;rw[if_neg h.ne.symm];exact e
  · unfold dn
    split
    · rename_i z;subst z;exact h.new.symm
    · rename_i z;exact h.oth a ha z
theorem jV.rt {b p:Addr}{xs:List D}{μ μ1:Mu}{Q:DK}{d:D}(h:jV b p xs μ μ1)(k:∀ μ',cn b μ μ'→Q d μ'):RT Q d μ1:=⟨_,xn μ1 p,k _ h.fin⟩
section
open PySem PySem.Spec PyProof.Rows L2
def qL (x:D)(f:Str→Prop):Prop:=match x with
  | .str s=>f s
  | _=>False
def bL (kvs:List (Str×D))(s:Str):Option D:=(kvs.find? fun kv=>decide (kv.1=s)).map (·.2)
def gh (K:PySem.W.Frag):List DictEntry→List (Str×D)→Prop
  | [],[]=>True
  | e::es,(x,d)::r=>(∃ t,e.key=.str x t)∧(∃ v,RelV v e.val∧∀ H,Dp K H v d)∧gh K es r
  | _,_=>False
theorem ml (s x:Str)(t:Tok):Value.isStrOf s (.str x t)=decide (x=s):=by
  by_cases h:x=s
  · subst h;simp[Value.isStrOf]
  · rw[decide_eq_false h];simp[Value.isStrOf];first | exact h | exact fun z=>h z.symm
theorem gh.find {K:PySem.W.Frag}(s:Str):∀ {es:List DictEntry} {kvs:List (Str×D)},gh K es kvs→
    match bL kvs s with
    | none=>(es.find? fun e=>Value.isStrOf s e.key)=none
    | some d=>∃ e v,(es.find? fun e=>Value.isStrOf s e.key)=some e∧RelV v e.val∧∀ H,Dp K H v d
  | [],[],_=>rfl
  | e::es,(x,d)::r,h=>by
    obtain ⟨⟨t,ht⟩,⟨v,rv,pv⟩,hr⟩:=h
    have ih:=gh.find s hr
    unfold bL at ih ⊢
    rw[List.find?_cons,List.find?_cons,ht,ml]
    by_cases hx:x=s
    · simp only[decide_eq_true hx,Option.map_some]
      exact ⟨e,v,rfl,rv,pv⟩
    · simp only[decide_eq_false hx]
      exact ih
  | [],_::_,h=>False.elim h
  | _::_,[],h=>False.elim h
structure GT (P:Params) (K:PySem.W.Frag) (mg:Str→Option Value) (x:Str) (kvs:List (Str×D)):Prop where
  ex:∃ (a:Addr) (es:Array DictEntry) (n:Nat),mg x=some (.ref a)∧K.lookup a=some ⟨.type "dict", none,.dict es n,#[]⟩∧PySem.W.KeysLit P es.toList∧(a == sysModules)=false∧gh K es.toList kvs
section
variable {X:Cx} {a b c e:Expr} {Ta Tb Te:ETr} {pos gpos:Pos} {x:Str} {kvs:List (Str×D)}
theorem qB {K:PySem.W.Frag}{es:Array DictEntry}{s:Str}(h:gh K es.toList kvs):match bL kvs s with
    | none=>findBy Value.isStrOf es s=none
    | some d=>∃ u v,findBy Value.isStrOf es s=some u∧RelV v u∧∀ H,Dp K H v d:=by
  have q:=h.find s
  have e:findBy Value.isStrOf es s=(es.toList.find? fun e=>Value.isStrOf s e.key).map (·.val):=by
    unfold findBy;rw[← Array.find?_toList]
  rw[e]
  split at q
  · rw[q];rfl
  · rename_i d hn
    obtain ⟨e,v,h1,h2,h3⟩:=q
    exact ⟨_,v,by rw[h1];rfl,h2,h3⟩
def wH (p:Addr)(es:Array DictEntry):L2.R2:=fun x y H Q=>∃ s u v,x=.ref p∧y=.str s∧findBy Value.isStrOf es s=some u∧RelV v u∧Q v H
theorem vZ {p:Addr}{es:Array DictEntry}{n:Nat}(hl:X.K.lookup p=some ⟨.type "dict", none,.dict es n,#[]⟩)(hk:PySem.W.KeysLit X.w.params es.toList):IxR X (wH p es):=by
  intro value slice pins s σ H x y v u Q I rx ry h hs
  obtain ⟨z,u',v',rfl,rfl,hf,rv,q⟩:=h
  cases (show v=Value.ref p from rx)
  obtain ⟨t,rfl⟩:=(show ∃ t,u=Value.str z t from ry)
  have hm:=PySem.W.mapOf_K (prog:=X.prog) I.kIn hl hk
  exact tail_any hm.typeIs slot_dict_getitem.lookup (wpAny_getItem_of (strKind_is X.prog X.w z t) hm hf ⟨v',H,I.tok _,rv,q⟩) hs
def nP (kvs:List (Str×D))(Te:ETr):ETr:=fun ρ μ Q=>Te ρ μ fun x μ1=>qL x fun s=>kO (bL kvs s) fun d=>Q d μ1
theorem qV (hg:Gl X x)(h:GT X.w.params X.K X.mg x kvs)(hb:LE X b Tb)(hs:lu b:=by intro _ _;rfl)(hd:(x == ("__debug__" : Str))=false:=by decide):LE X (.Subscript (.Name x gpos) b pos) (nP kvs Tb):=by
  obtain ⟨p,es,n,hm,hl,hk,hn,hr⟩:=h.ex
  obtain ⟨tb,pb,sb⟩:=hb.ex
  refine ⟨_,uI (vZ hl hk) (ko hg hm (v:=.ref p) rfl hd) pb hs,fun σ H ρ μ Q Q' rl hh k=>sb σ H ρ μ _ _ rl hh fun y H2 dy μ2 t2 m2 p2 h2=>?_⟩
  cases p2 with
  | str s=>
    have q:=qB (s:=s) hr
    obtain ⟨d,ed,h3⟩:=lE (show kO (bL kvs s) fun d=>Q d μ2 from h2)
    rw[ed] at q
    obtain ⟨u,v,h4,h5,h6⟩:=q
    exact ⟨s,u,v,rfl,rfl,h4,h5,k v H2 d μ2 t2 m2 (h6 H2) h3⟩
  | _=>exact False.elim h2
def rC (neg:Bool)(p:Addr)(es:Array DictEntry):L2.R2:=fun x y H Q=>∃ s,y=.ref p∧x=.str s∧Q (.bl (if neg then !(findBy Value.isStrOf es s).isSome else (findBy Value.isStrOf es s).isSome)) H
theorem lY {p:Addr}{es:Array DictEntry}{n:Nat}(hl:X.K.lookup p=some ⟨.type "dict", none,.dict es n,#[]⟩)(hk:PySem.W.KeysLit X.w.params es.toList)(hn:(p == sysModules)=false):OpR X (compareOp .NotIn) (rC true p es):=by
  intro pins s σ H x y v u Q I rx ry h
  obtain ⟨z,rfl,rfl,q⟩:=h
  cases (show u=Value.ref p from ry)
  obtain ⟨t,rfl⟩:=(show ∃ t,v=Value.str z t from rx)
  exact wpAny_notIn_of (strKind_is X.prog X.w z t) hn (PySem.W.mapOf_K (prog:=X.prog) I.kIn hl hk) ⟨.bl _,H,I.tok _,rfl,q⟩
def kQ (neg:Bool)(kvs:List (Str×D))(Te:ETr):ETr:=fun ρ μ Q=>Te ρ μ fun x μ1=>qL x fun s=>Q (.bl (if neg then !(bL kvs s).isSome else (bL kvs s).isSome)) μ1
theorem su {K:PySem.W.Frag}{es:Array DictEntry}{s:Str}(h:gh K es.toList kvs):(findBy Value.isStrOf es s).isSome=(bL kvs s).isSome:=by
  have q:=qB (s:=s) h
  cases e:bL kvs s with
  | none=>rw[e] at q;simp only at q;rw[q];rfl
  | some d=>rw[e] at q;obtain ⟨u,v,h1,_⟩:=q;rw[h1];rfl
theorem o5 {K:PySem.W.Frag}{p:Addr}{es:Array DictEntry}{ta:TE}{neg:Bool}(h:gh K es.toList kvs)(sa:Sim K ta Ta):Sim K (tOp (rC neg p es) ta (tC (.ref p))) (kQ neg kvs Ta):=fun σ H ρ μ Q Q' rl hh k=>
  sa σ H ρ μ _ _ rl hh fun y H2 dy μ2 t2 m2 p2 h2=>by
    cases p2 with
    | str s=>exact ⟨s,rfl,rfl,k _ H2 _ μ2 t2 m2 (.bl _) (by rw[su h];exact h2)⟩
    | _=>exact False.elim h2
theorem ma (hg:Gl X x)(h:GT X.w.params X.K X.mg x kvs)(ha:LE X a Ta)(hm':behindInMarks .NotIn (.Name x gpos)=false:=by rfl)(hd:(x == ("__debug__" : Str))=false:=by decide):LT X (.Compare a [.NotIn] [.Name x gpos] pos) (TB (kQ true kvs Ta)):=by
  obtain ⟨p,es,n,hm,hl,hk,hn,hr⟩:=h.ex
  obtain ⟨ta,pa,sa⟩:=ha.ex
  exact ⟨_,oH (lY hl hk hn) pa (ko hg hm (v:=.ref p) rfl hd) hm',rh (o5 hr sa)⟩
end
mutual
def oI (K:PySem.W.Frag):Nat→Value→D→Bool
  | _,.none,.non=>true
  | _,.bool b,.bl c=>b == c
  | _,.int i _,.int j=>decide (i=j)
  | _,.str x _,.str y=>decide (x=y)
  | n+1,.ref a,.tup ds=>match K.lookup a with
    | some ⟨.type "tuple", none,.seq its _,_⟩=>decide (its.size≤sizeLine)&&kJ K n its.toList ds
    | _=>false
  | _,_,_=>false
def kJ (K:PySem.W.Frag):Nat→List Value→List D→Bool
  | _,[],[]=>true
  | n,u::us,d::ds=>oI K n u d&&kJ K n us ds
  | _,_,_=>false
end
mutual
theorem md {K:PySem.W.Frag}:∀ {n:Nat} {u:Value} {d:D},oI K n u d=true→∃ v,RelV v u∧∀ H,Dp K H v d:=by
  intro n u d h
  unfold oI at h
  split at h
  · exact ⟨.non,rfl,fun _=>.non⟩
  · obtain rfl:=beq_iff_eq.mp h;exact ⟨.bl _,rfl,fun _=>.bl _⟩
  · obtain rfl:=of_decide_eq_true h;exact ⟨.int _,⟨_,rfl⟩,fun _=>.int _⟩
  · obtain rfl:=of_decide_eq_true h;exact ⟨.str _,⟨_,rfl⟩,fun _=>.str _⟩
  · split at h
    · rename_i hl
      simp only[Bool.and_eq_true,decide_eq_true_eq] at h
      obtain ⟨vs,r,p⟩:=kh h.2
      exact ⟨.ref _,rfl,fun H=>.tup (.inr ⟨_,_,_,hl,rfl,rfl,rfl,h.1,r⟩) (p H)⟩
    · cases h
  · cases h
theorem kh {K:PySem.W.Frag}:∀ {n:Nat} {us:List Value} {ds:List D},kJ K n us ds=true→∃ vs,Vals vs us∧∀ H,DpL K H vs ds:=by
  intro n us ds h
  unfold kJ at h
  split at h
  · exact ⟨[],.nil,fun _=>.nil⟩
  · simp only[Bool.and_eq_true] at h
    obtain ⟨v,r,p⟩:=md h.1
    obtain ⟨vs,rs,ps⟩:=kh h.2
    exact ⟨v::vs,.cons r rs,fun H=>.cons (p H) (ps H)⟩
  · cases h
end
def j5 (K:PySem.W.Frag):List DictEntry→List (Str×D)→Bool
  | [],[]=>true
  | e::es,(x,d)::r=>(match e.key with
    | .str y _=>decide (y=x)
    | _=>false)&&oI K 9 e.val d&&j5 K es r
  | _,_=>false
theorem lW {K:PySem.W.Frag}:∀ {es:List DictEntry} {kvs:List (Str×D)},j5 K es kvs=true→gh K es kvs
  | [],[],_=>True.intro
  | e::es,(x,d)::r,h=>by
    unfold j5 at h
    simp only[Bool.and_eq_true] at h
    obtain ⟨⟨h1,h2⟩,h3⟩:=h
    refine ⟨?_,md h2,lW h3⟩
    split at h1
    · rename_i y t hk
      obtain rfl:=of_decide_eq_true h1
      exact ⟨t,hk⟩
    · cases h1
  | [],_::_,h=>by simp[j5] at h
  | _::_,[],h=>by simp[j5] at h
theorem yN {K:PySem.W.Frag}{w:World}{h:Heap}{mg:Str→Option Value}{x:Str}{p:Addr}{es:Array DictEntry}{n:Nat}{kvs:List (Str×D)}(X:K.In h)(G:h.Ns mainGlobals mg)(a:PySem.W.nsIn K mainGlobals x=some (some (.ref p)))
    (l:K.lookup p=some ⟨.type "dict", none,.dict es n,#[]⟩) (hk:PySem.W.KeysLit w.params es.toList) (hn:(p == sysModules)=false) (r:j5 K es.toList kvs=true):GT w.params K mg x kvs:=⟨p,es,n,PySem.W.mg_of X G a,l,hk,hn,lW r⟩
def wj (b:Bool):D→Bool
  | .bl c=>c == b
  | _=>false
def qQ (neg:Bool):DR2:=fun x y μ Q=>match y with
  | .bl b=>Q (.bl (if neg then !wj b x else wj b x)) μ
  | _=>False
def gb (b:Bool):V→Bool
  | .bl c=>c == b
  | _=>false
theorem p9 {K:PySem.W.Frag}{H:Hp}{v:V}{d:D}(b:Bool)(h:Dp K H v d):gb b v=wj b d:=by cases h<;>rfl
theorem rK {v:V}{u:Value}(b:Bool)(r:RelV v u):plainIs u (.bool b)=true∧(u == .bool b)=gb b v:=by
  cases v with
  | bl c=>cases r;exact ⟨rfl,by cases b<;>cases c<;>decide⟩
  | int i=>obtain ⟨t,rfl⟩:=r;exact ⟨rfl,by simp[gb,beq_eq_false_iff_ne]⟩
  | str i=>obtain ⟨t,rfl⟩:=r;exact ⟨rfl,by simp[gb,beq_eq_false_iff_ne]⟩
  | flt i=>obtain ⟨t,rfl⟩:=r;exact ⟨rfl,by simp[gb,beq_eq_false_iff_ne]⟩
  | byt i=>obtain ⟨t,rfl⟩:=r;exact ⟨rfl,by simp[gb,beq_eq_false_iff_ne]⟩
  | _=>cases r;exact ⟨rfl,by simp[gb,beq_eq_false_iff_ne]⟩
theorem tD {X:Cx}:OpR X (compareOp .IsNot) (fun x y H Q=>∃ b,y=.bl b∧Q (.bl (!gb b x)) H):=by
  intro pins s σ H x y v u Q I rx ry h
  obtain ⟨b,rfl,q⟩:=h
  cases (show u=Value.bool b from ry)
  obtain ⟨h1,h2⟩:=rK b rx
  exact wpAny_isNot_plain h1 (by rw[h2];exact ⟨.bl _,H,I,rfl,q⟩)
theorem qN {K:PySem.W.Frag}:bD K (fun x y H Q=>∃ b,y=.bl b∧Q (.bl (!gb b x)) H) (qQ true):=fun H μ x y dx dy Q Q' m px py h k=>by
  cases py with
  | bl b=>exact ⟨b,rfl,k _ H _ μ (.refl H) m (by rw[p9 b px];exact .bl _) h⟩
  | _=>exact False.elim h
section
variable {X:Cx} {a b:Expr} {Ta Tb:ETr} {pos:Pos}
theorem oQ (ha:LE X a Ta)(hb:LE X b Tb):LT X (.Compare a [.IsNot] [b] pos) (TB (aj (qQ true) Ta Tb)):=cU tD qN ha hb (b6 _)
end
end
section
open PySem PySem.Spec PyProof.Rows L2
theorem DpK.nil {K:PySem.W.Frag}{H:Hp}:DpK K H [] []:=⟨rfl,.nil⟩
theorem DpK.cons {K:PySem.W.Frag}{H:Hp}{k:Key}{v:V}{d:D}{xs:List (Key×V)}{kvs:List (Key×D)}(h:Dp K H v d)(r:DpK K H xs kvs):DpK K H ((k,v)::xs) ((k,d)::kvs):=
  ⟨by simp[r.1],.cons h r.2⟩
theorem DpK.ind {K:PySem.W.Frag}{H:Hp}{P:List (Key×V)→List (Key×D)→Prop}(h0:P [] [])(h1:∀ k v d xs kvs,Dp K H v d→DpK K H xs kvs→P xs kvs→P ((k,v)::xs) ((k,d)::kvs)) :
    ∀ {xs:List (Key×V)} {kvs:List (Key×D)},DpK K H xs kvs→P xs kvs
  | [],[],_=>h0
  | [],_::_,h=>by cases h.1
  | _::_,[],h=>by cases h.1
  | (k,v)::xs,(k',d)::kvs,h=>by
    obtain ⟨h2,h3⟩:=h
    simp only[List.map_cons,List.cons.injEq] at h2
    obtain ⟨rfl,h2⟩:=h2
    cases h3 with
    | cons p l=>exact h1 k v d xs kvs p ⟨h2,l⟩ (DpK.ind h0 h1 ⟨h2,l⟩)
theorem DpK.any {K:PySem.W.Frag}{H:Hp}{xs:List (Key×V)}{kvs:List (Key×D)}(h:DpK K H xs kvs)(k:Key):(xs.any fun kv=>decide (kv.1=k))=kvs.any fun kv=>decide (kv.1=k):=by
  refine DpK.ind (P:=fun xs kvs=>(xs.any fun kv=>decide (kv.1=k))=kvs.any fun kv=>decide (kv.1=k)) rfl (fun j v d xs kvs p _ ih=>?_) h
  rw[List.any_cons,List.any_cons,ih]
theorem DpK.length {K:PySem.W.Frag}{H:Hp}{xs:List (Key×V)}{kvs:List (Key×D)}(h:DpK K H xs kvs):xs.length=kvs.length:=by
  have:=h.2.length
  simpa using this
section
variable {X:Cx} {o i a b c e value:Expr} {To Ti Ta Tb Te:ETr} {pos tpos:Pos}
theorem DpK.zip {K:PySem.W.Frag}{H:Hp}:∀ {ks:List Key} {vs:List V} {ds:List D},DpL K H vs ds→DpK K H (ks.zip vs) (ks.zip ds)
  | [],_,_,_=>by simp;exact .nil
  | _::_,_,_,.nil=>by simp;exact .nil
  | k::ks,_,_,.cons p l=>.cons p (DpK.zip l)
end
end
section
open PySem PySem.Spec PyProof.Rows L2
inductive dS {prog:Program} {w:World} {κ:Type} [DecidableEq κ] (knd:KeyKind prog w κ) (h:Heap):List Value→List (κ×Value)→Prop
  | nil:dS knd h [] []
  | cons {a:Addr} {u v:Value} {k:κ} {us:List Value} {r:List (κ×Value)}:IsTup h a #[u,v]→knd.is k u=true→dS knd h us r→dS knd h (.ref a::us) ((k,v)::r)
section
variable {prog:Program} {w:World} {κ:Type} [DecidableEq κ] {knd:KeyKind prog w κ}
theorem dS.keeps {h h':Heap}(kp:∀ b o,h.get? b=some o→o.cls=.type "tuple" → h'.get? b=some o):∀ {us:List Value} {r:List (κ×Value)},dS knd h us r→dS knd h' us r
  | _,_,.nil=>.nil
  | _,_,.cons t k r=>.cons (by obtain ⟨o,e,c,n,d⟩:=t;exact ⟨o,kp _ o e c,c,n,d⟩) k (r.keeps kp)
end
end
section
open PySem PySem.Spec PyProof.Rows L2
section
variable {prog:Program} {w:World} {κ:Type} [DecidableEq κ] {knd:KeyKind prog w κ}
end
def dK:Key→D
  | .inl i=>.int i
  | .inr s=>.str s
def wF (kv:Key×D):D:=.tup [dK kv.1,kv.2]
inductive dN (K:PySem.W.Frag) (H:Hp):List V→List (Key×V)→Prop
  | nil:dN K H [] []
  | cons {a:Addr} {k:Key} {v:V} {ys:List V} {r:List (Key×V)}:SqT K H a [kV k,v]→dN K H ys r→dN K H (.ref a::ys) ((k,v)::r)
theorem dN.at {X:Cx}{pins:List (Addr×Obj)}{σ:L2.St}{H:Hp}{s:Shared}(I:Inv X pins σ H s):∀ {ys:List V} {kvs:List (Key×V)} {us:List Value},dN X.K H ys kvs→Vals ys us→∃ r,dS (fc X.prog X.w) s.heap us r∧KV kvs r
  | _,_,_,.nil,.nil=>⟨[],.nil,.nil⟩
  | _,_,_,@dN.cons _ _ a k v ys r sq h,.cons ru rs=>by
    cases (show _=Value.ref a from ru)
    obtain ⟨r,p,q⟩:=h.at I rs
    obtain ⟨its,vs,it,_⟩:=I.tuple sq
    cases vs with | @cons _ u1 _ _ r1 vs=>cases vs with | @cons _ u2 _ _ r2 vs=>
    cases vs
    exact ⟨(k,u2)::r,.cons it (xw r1) p,.cons ⟨rfl,r2⟩ q⟩
theorem wJ {K:PySem.W.Frag}{H:Hp}{v:V}{k:Key}(h:Dp K H v (dK k)):v=kV k:=by
  cases k with
  | inl i=>cases h;rfl
  | inr s=>cases h;rfl
theorem dN.of {K:PySem.W.Frag}{H:Hp}:∀ {kvs:List (Key×D)} {xs:List V},DpL K H xs (kvs.map wF)→∃ r,dN K H xs r∧DpK K H r kvs
  | [],_,h=>by cases h;exact ⟨[],.nil,.nil⟩
  | kv::kvs,_,h=>by
    obtain ⟨k,d⟩:=kv
    cases h with
    | cons p l=>
      obtain ⟨r,h1,h2⟩:=dN.of l
      cases p with
      | tup sq lp=>
        cases lp with | cons p1 lp=>cases lp with | cons p2 lp=>
        cases lp
        cases wJ p1
        exact ⟨(k,_)::r,.cons sq h1,.cons p2 h2⟩
end
section
open PySem PySem.Spec PyProof.Rows L2
section
variable {X:Cx} {o i a b c e value:Expr} {To Ti Ta Tb Te:ETr} {pos tpos apos cpos:Pos}
end
noncomputable def mN (h:Heap) (dx:PyData) (y:Value):Bool:=@decide (∃ d as,Reads h y d as∧PyData.canLay0 d=true∧PyData.eqv d dx=true) (Classical.propDecidable _)
theorem tj {h:Heap}{dx d:PyData}{y:Value}{as:List Addr}(r:Reads h y d as)(hd:d.canLay0=true):mN h dx y=PyData.eqv d dx:=by
  unfold mN
  cases e:PyData.eqv d dx with
  | true=>exact @decide_eq_true _ (Classical.propDecidable _) ⟨d,as,r,hd,e⟩
  | false=>
    refine @decide_eq_false _ (Classical.propDecidable _) ?_
    rintro ⟨d',as',r',hd',e'⟩
    cases SeqAt.Reads.unique _ _ _ _ _ hd r r'
    rw[e] at e';cases e'
theorem ow {n:Nat}:∀ {ds:List D} {d:D},bM n ds=true→d∈ds→okD n d=true
  | x::r,d,h,hm=>by
    have h':okD n x=true∧bM n r=true:=by simpa[bM] using h
    rcases List.mem_cons.mp hm with rfl | hm
    · exact h'.1
    · exact ow h'.2 hm
section
variable {X:Cx} {pins:List (Addr×Obj)} {σ:L2.St} {H:Hp} {s:Shared}
theorem item_at (I:Inv X pins σ H s){vs:List V}{ds:List D}{us:List Value}(l:DpL X.K H vs ds)(r:Vals vs us)(ok:bM 38 ds=true){dy:D}{y:Value}{bs:List Addr}(oy:okD 38 dy=true)(ry:Reads s.heap y (toP dy) bs)(hu:X.A.units+64 < cLine)
    {m:Nat} {u:Value} (hm:us[m]? = some u):∃ d,ds[m]? = some d∧mN s.heap (toP dy) u=eqD d dy∧SeqAt.EqAt X.A.in1 s u y (mN s.heap (toP dy) u):=by
  have hlt:m < vs.length:=by rw[r.length];exact (List.getElem?_eq_some_iff.mp hm).1
  obtain ⟨u',e1,rv⟩:=r.get (List.getElem?_eq_getElem hlt)
  rw[hm] at e1;cases e1
  obtain ⟨d,ed,pd⟩:=l.get' (List.getElem?_eq_getElem hlt)
  have od:=ow ok (List.mem_of_getElem? ed)
  obtain ⟨as,ra⟩:=cR I pd od rv
  obtain ⟨l1,d1⟩:=dU 38 d od
  obtain ⟨l2,d2⟩:=dU 38 dy oy
  have e:=tj (dx:=toP dy) ra l1
  refine ⟨d,ed,by rw[e,ix 38 38 d dy od oy],?_⟩
  rw[e]
  exact SeqAt.eqAt_reads _ _ _ s _ _ _ _ ra ry l1 l2 (by have:=Nat.min_le_left (toP d).depth (toP dy).depth;rw[Around.in1_units];omega)
end
section
variable {X:Cx} {o i a b c e value:Expr} {To Ti Ta Tb Te:ETr} {pos tpos apos cpos:Pos}
def inG (x:D)(ds:List D):Bool:=ds.any fun y=>eqD y x
def u6 (K:PySem.W.Frag)(neg:Bool):L2.R2:=fun x y H Q=>∃ p xs ds dx,y=.ref p∧(SqL K H p xs∨SqT K H p xs)∧DpL K H xs ds∧Dp K H x dx∧bM 38 ds=true∧okD 38 dx=true∧Q (.bl (if neg then !inG dx ds else inG dx ds)) H
theorem sj {pins:List (Addr×Obj)}{σ:L2.St}{H:Hp}{s:Shared}(I:Inv X pins σ H s)(hu:X.A.units+64 < cLine){vs:List V}{ds:List D}{us:List Value}(l:DpL X.K H vs ds)(r:Vals vs us)(ok:bM 38 ds=true){dy:D}{y:Value}{bs:List Addr}(oy:okD 38 dy=true)(ry:Reads s.heap y (toP dy) bs) :
    (∀ w,w∈us.toArray→SeqAt.EqAt X.A.in1 s w y (mN s.heap (toP dy) w))∧us.toArray.any (mN s.heap (toP dy))=inG dy ds:=by
  have hl:ds.length=us.length:=by rw[← l.length,r.length]
  constructor
  · intro w hw
    obtain ⟨m,hm,rfl⟩:=Array.mem_iff_getElem.mp hw
    obtain ⟨d,_,_,e3⟩:=item_at I l r ok oy ry hu (m:=m) (u:=us.toArray[m]) (by simp at hm ⊢)
    exact e3
  · unfold inG
    rw[show us.toArray.any (mN s.heap (toP dy))=us.any (mN s.heap (toP dy)) by simp]
    rw[Bool.eq_iff_iff,List.any_eq_true,List.any_eq_true]
    constructor
    · rintro ⟨w,hw,e⟩
      obtain ⟨m,hm,rfl⟩:=List.mem_iff_getElem.mp hw
      obtain ⟨d,e1,e2,_⟩:=item_at I l r ok oy ry hu (m:=m) (u:=us[m]) (by simp)
      exact ⟨d,List.mem_of_getElem? e1,by rw[← e2];exact e⟩
    · rintro ⟨d,hd,e⟩
      obtain ⟨m,hm,rfl⟩:=List.mem_iff_getElem.mp hd
      obtain ⟨d',e1,e2,_⟩:=item_at I l r ok oy ry hu (m:=m) (u:=us[m]'(by omega)) (by simp)
      rw[List.getElem?_eq_getElem hm] at e1;cases e1
      exact ⟨us[m]'(by omega),List.getElem_mem _,by rw[e2];exact e⟩
theorem o9 (hu:X.A.units+64 < cLine):OpR X (compareOp .NotIn) (u6 X.K true):=by
  intro pins s σ H x y v u Q I rx ry h
  obtain ⟨p,xs,ds,dx,rfl,hq,l,px,o1,o2,q⟩:=h
  cases (show u=Value.ref p from ry)
  obtain ⟨bs,rb⟩:=cR I px o2 rx
  rcases hq with hq | hq
  · obtain ⟨its,r,pl,hz⟩:=I.list hq
    obtain ⟨h1,h2⟩:=sj I hu l r o1 o2 rb
    exact SeqAt.notIn_listAt _ pl.isList h1 ⟨.bl _,H,I,rfl,by rw[h2];exact q⟩
  · obtain ⟨its,r,pl,hz⟩:=I.tuple hq
    obtain ⟨h1,h2⟩:=sj I hu l r o1 o2 rb
    exact SeqAt.notIn_tupleAt _ pl h1 ⟨.bl _,H,I,rfl,by rw[h2];exact q⟩
def y3 (μ:Mu)(x:D)(f:List D→Prop):Prop:=match x with
  | .tup ds=>f ds
  | .ls ds=>f ds
  | .obj a=>kL μ a f
  | _=>False
def sQ (neg:Bool):DR2:=fun x y μ Q=>y3 μ y fun ds=>(bM 38 ds=true∧okD 38 x=true)∧Q (.bl (if neg then !inG x ds else inG x ds)) μ
theorem tK {K:PySem.W.Frag}(neg:Bool):bD K (u6 K neg) (sQ neg):=fun H μ x y dx dy Q Q' m px py h k=>by
  cases py with
  | tup sq l=>exact ⟨_,_,_,dx,rfl,.inr sq,l,px,h.1.1,h.1.2,k _ H _ μ (.refl H) m (.bl _) h.2⟩
  | ls sq l=>exact ⟨_,_,_,dx,rfl,.inl sq.sq,l,px,h.1.1,h.1.2,k _ H _ μ (.refl H) m (.bl _) h.2⟩
  | obj q=>
    obtain ⟨ds,e0,h⟩:=gP (show kL μ q _ from h)
    obtain ⟨xs,ex,l⟩:=m q _ e0
    exact ⟨_,_,_,dx,rfl,.inl (SqL.of ex),l,px,h.1.1,h.1.2,k _ H _ μ (.refl H) m (.bl _) h.2⟩
  | _=>exact False.elim h
theorem pj (hu:X.A.units+64 < cLine)(ha:LE X a Ta)(hb:LE X b Tb)(hm:behindInMarks .NotIn b=false:=by rfl):LT X (.Compare a [.NotIn] [b] pos) (TB (aj (sQ true) Ta Tb)):=cU (o9 hu) (tK true) ha hb hm
end
end
section
open PySem PySem.Spec PyProof.Rows L2
section
variable {X:Cx} {e tg:Expr} {es:List Expr} {is:List Nat} {pos:Pos} {x:Str} {n:Nat}
end
section
variable {X:Cx} {o i a b c e value:Expr} {To Ti Ta Tb Te:ETr} {pos tpos apos cpos:Pos}
end
section
variable {P:Program} {w:World} {K:PySem.W.Frag} {mg:Str→Option Value} {base:Heap}
end
end
section
open PySem PySem.Spec PyProof.Rows L2
section
variable {X:Cx} {tg a ea eb:Expr} {Ta:ETr} {es:List Expr} {ek:Nat} {ep p pos:Pos}
variable {i o:Expr} {Ti To:ETr}
end
end
section
open PySem PySem.Spec PyProof.Rows L2
section
variable {X:Cx} {e a b:Expr} {x:Str} {p pos:Pos} {At:ATr} {Ta Tb:ETr}
end
end
section
open PySem PySem.Spec PyProof.Rows L2
end
theorem sy (kvs:List (Str×D))(e:ETr)(ρ:ST)(μ:Mu)(Q:DK):nP kvs e ρ μ Q=e ρ μ fun x μ1=>qL x fun s=>kO (bL kvs s) fun d=>Q d μ1:=propext Iff.rfl
theorem r6 (n:Bool)(kvs:List (Str×D))(e:ETr)(ρ:ST)(μ:Mu)(Q:DK):kQ n kvs e ρ μ Q=e ρ μ fun x μ1=>qL x fun s=>Q (.bl (if n then !(bL kvs s).isSome else (bL kvs s).isSome)) μ1:=propext Iff.rfl
theorem rM (s:Str)(f:Str→Prop):qL (.str s) f=f s:=propext Iff.rfl
theorem vS (c b:Bool)(μ:Mu)(Q:DK):qQ true (.bl c) (.bl b) μ Q=Q (.bl (!(c == b))) μ:=propext Iff.rfl
theorem vo (n:Bool)(x:D)(ds:List D)(μ:Mu)(Q:DK):sQ n x (.tup ds) μ Q=((bM 38 ds=true∧okD 38 x=true)∧Q (.bl (if n then !inG x ds else inG x ds)) μ):=propext Iff.rfl
theorem yw (d0:D)(r:List D)(f:D→Prop):kO (atD (d0::r) 0) f=f d0:=by rw[mD];rfl
theorem yy (d0 d1:D)(r:List D)(f:D→Prop):kO (atD (d0::d1::r) 1) f=f d1:=by rw[mx];rfl
theorem xt (d0 d1 d2:D)(r:List D)(f:D→Prop):kO (atD (d0::d1::d2::r) 2) f=f d2:=by rw[me];rfl
theorem yj (d0 d1 d2 d3:D)(r:List D)(f:D→Prop):kO (atD (d0::d1::d2::d3::r) 3) f=f d3:=by rw[l6];rfl
theorem xN (d0 d1 d2 d3 d4:D)(r:List D)(f:D→Prop):kO (atD (d0::d1::d2::d3::d4::r) 4) f=f d4:=by rw[oX];rfl
theorem xI (d0 d1 d2 d3 d4 d5:D)(r:List D)(f:D→Prop):kO (atD (d0::d1::d2::d3::d4::d5::r) 5) f=f d5:=by rw[oR];rfl
section
variable {G:GTr} {tt:TTr} {te:ETr} {ρc:ST} {ds:List D} {μ:Mu} {Q:DK}
end
section
open PySem PySem.Spec PyProof.Rows L2
section
variable {prog:Program} {w:World} {A:Around} {E:Value→Shared→Prop} {s:Shared}
end
section
variable {X:Cx} {ea eb:Expr} {Ta Tb:ETr} {p p2 pos rpos:Pos}
end
end
section
open PySem PySem.Spec PyProof.Rows L2
section
variable {prog:Program} {w:World} {A:Around} {E:Value→Shared→Prop} {s:Shared}
end
end
section
open PySem PySem.Spec PyProof.Rows L2
section
variable {prog:Program} {w:World} {A:Around} {E:Value→Shared→Prop} {s:Shared}
end
section
variable {X:Cx} {ea:Expr} {es:List Expr} {ek:Nat} {ep p pos:Pos}
end
end
section
open PySem PySem.Spec PyProof PyProof.Rows L2
section
variable {w:World} {prog:Program} {A:Around} {E:Value→Shared→Prop}
section
variable {R:Result→Shared→Prop} {I:Addr} {fp wr:List Addr} {n:Nat} {P:Nat→Value→Prop} {St:Nat→Heap→Prop}
end
variable {s:Shared}
end
section
variable {X:Cx} {e d:Expr} {p pos kp:Pos} {Te Td:ETr}
end
end
section
open PySem PySem.Spec PyProof.Rows L2
section
variable {X:Cx} {o i:Expr} {To Ti:ETr} {apos cpos:Pos}
end
end
section
open PySem PySem.Spec PyProof.Rows L2
section
variable {X:Cx} {o i:Expr} {To Ti:ETr} {apos cpos:Pos}
end
end
section
open PySem PySem.Spec PyProof.Rows L2
end
section
open PySem PySem.Spec PyProof.Rows L2
def oA (r1 r2 r3:L2.R2)(ta tb tc td:TE):TE:=fun σ H Q=>ta σ H fun x H1=>tb σ H1 fun y H2=>r1 x y H2 fun z H3=>∃ k,z=.bl k∧if k=true then tc σ H3 fun y' H4=>r2 y y' H4 fun z' H5=>∃ k',z'=.bl k'∧(if k'=true then td σ H5 fun w H6=>r3 y' w H6 Q else Q (.bl false) H5) else Q (.bl false) H3
section
variable {X:Cx} {a b c d:Expr} {ta tb tc td:TE} {Ta Tb Tc Td:ETr} {pos:Pos} {o1 o2 o3:CmpOp} {r1 r2 r3:L2.R2} {R1 R2 R3:DR2}
theorem pH (h1:OpR X (compareOp o1) r1)(h2:OpR X (compareOp o2) r2)(h3:OpR X (compareOp o3) r3)(ha:PE X a ta)(hb:PE X b tb)(hc:PE X c tc)(hd:PE X d td)
    (hm:lastMarks [o1,o2,o3] [b,c,d]=false:=by with_unfolding_all rfl):PE X (.Compare a [o1,o2,o3] [b,c,d] pos) (oA r1 r2 r3 ta tb tc td):=by
  intro pins s σ H Q I h
  refine Compare_chain (thn (ha pins s σ H _ I h) fun v s1 ⟨x,H1,I1,e1,q1⟩=>?_) hm
  refine chain_link (thn (hb pins s1 σ H1 _ I1 q1) fun u s2 ⟨y,H2,I2,e2,q2⟩=>thn (h1 pins s2 σ H2 x y v u _ I2 e1 e2 q2) fun g s3 ⟨z,H3,I3,e3,k,ek,q3⟩=>?_)
  subst ek;cases e3
  refine wpAny_truthy_bool ?_
  cases k with
  | false=>exact ite_ff ⟨.bl false,H3,I3,rfl,q3⟩
  | true=>
    refine ite_tt (chain_link (thn (hc pins s3 σ H3 _ I3 q3) fun u' s4 ⟨y',H4,I4,e4,q4⟩=>thn (h2 pins s4 σ H4 y y' u u' _ I4 e2 e4 q4) fun g' s5 ⟨z',H5,I5,e5,k',ek',q5⟩=>?_))
    subst ek';cases e5
    refine wpAny_truthy_bool ?_
    cases k' with
    | false=>exact ite_ff ⟨.bl false,H5,I5,rfl,q5⟩
    | true=>exact ite_tt (chain_last (thn (hd pins s5 σ H5 _ I5 q5) fun w' s6 ⟨z6,H6,I6,e6,q6⟩=>h3 pins s6 σ H6 y' z6 u' w' Q I6 e4 e6 q6))
def iz (r1 r2 r3:DR2)(a b c d:ETr):ETr:=fun ρ μ Q=>a ρ μ fun x μ1=>b ρ μ1 fun y μ2=>r1 x y μ2 fun z μ3=>kB z fun k=>kIf k (c ρ μ3 fun y' μ4=>r2 y y' μ4 fun z' μ5=>kB z' fun k'=>kIf k' (d ρ μ5 fun w μ6=>r3 y' w μ6 Q) (Q (.bl false) μ5)) (Q (.bl false) μ3)
theorem nN {K:PySem.W.Frag}(h1:bD K r1 R1)(h2:bD K r2 R2)(h3:bD K r3 R3)(ha:Sim K ta Ta)(hb:Sim K tb Tb)(hc:Sim K tc Tc)(hd:Sim K td Td):Sim K (oA r1 r2 r3 ta tb tc td) (iz R1 R2 R3 Ta Tb Tc Td):=by
  intro σ H ρ μ Q Q' rl h k
  refine ha σ H ρ μ _ _ rl h fun x H1 dx μ1 t1 m1 p1 q1=>hb σ H1 ρ μ1 _ _ (rl.go t1 m1) q1 fun y H2 dy μ2 t2 m2 p2 q2=>h1 H2 μ2 x y dx dy _ _ m2 (p1.mono t2) p2 q2 fun z H3 dz μ3 t3 m3 p3 q3=>?_
  have t13:=t1.trans (t2.trans t3)
  cases p3 with
  | bl u=>
    refine ⟨u,rfl,?_⟩
    cases u with
    | false=>exact jY (k _ H3 _ μ3 t13 m3 (.bl _) q3)
    | true=>
      refine j3 (hc σ H3 ρ μ3 _ _ (rl.go t13 m3) q3 fun y' H4 dy' μ4 t4 m4 p4 q4=>h2 H4 μ4 y y' dy dy' _ _ m4 (p2.mono (t3.trans t4)) p4 q4 fun z' H5 dz' μ5 t5 m5 p5 q5=>?_)
      have t15:=t13.trans (t4.trans t5)
      cases p5 with
      | bl u'=>
        refine ⟨u',rfl,?_⟩
        cases u' with
        | false=>exact jY (k _ H5 _ μ5 t15 m5 (.bl _) q5)
        | true=>exact j3 (hd σ H5 ρ μ5 _ _ (rl.go t15 m5) q5 fun w H6 dw μ6 t6 m6 p6 q6=>h3 H6 μ6 y' w dy' dw Q Q' m6 (p4.mono (t5.trans t6)) p6 q6 (k.go (t15.trans t6)))
      | _=>exact False.elim q5
  | _=>exact False.elim q3
theorem pN (h1:OpR X (compareOp o1) r1)(h2:OpR X (compareOp o2) r2)(h3:OpR X (compareOp o3) r3)(k1:bD X.K r1 R1)(k2:bD X.K r2 R2)(k3:bD X.K r3 R3)(ha:LE X a Ta)(hb:LE X b Tb)(hc:LE X c Tc)(hd:LE X d Td)
    (hm:lastMarks [o1,o2,o3] [b,c,d]=false:=by with_unfolding_all rfl):LE X (.Compare a [o1,o2,o3] [b,c,d] pos) (iz R1 R2 R3 Ta Tb Tc Td):=by
  obtain ⟨ta,pa,sa⟩:=ha.ex
  obtain ⟨tb,pb,sb⟩:=hb.ex
  obtain ⟨tc,pc,sc⟩:=hc.ex
  obtain ⟨td,pd,sd⟩:=hd.ex
  exact ⟨_,pH h1 h2 h3 pa pb pc pd hm,nN k1 k2 k3 sa sb sc sd⟩
theorem pU (r1 r2 r3:DR2)(a b c d:ETr)(ρ:ST)(μ:Mu)(Q:DK):iz r1 r2 r3 a b c d ρ μ Q=a ρ μ fun x μ1=>b ρ μ1 fun y μ2=>r1 x y μ2 fun z μ3=>kB z fun k=>kIf k (c ρ μ3 fun y' μ4=>r2 y y' μ4 fun z' μ5=>kB z' fun k'=>kIf k' (d ρ μ5 fun w μ6=>r3 y' w μ6 Q) (Q (.bl false) μ5)) (Q (.bl false) μ3):=propext Iff.rfl
end
end
end L3
namespace Kk
local macro_rules | `(tactic| walk_at "ln")=>`(tactic| (intro ds μ Q h;split at h;rfl;exact h.elim))
open PySem L3
theorem uw:cw "str" "str" = true:=by decide +kernel
theorem sR:cw "tuple" "str" = false:=by decide +kernel
theorem sT:cw "int" "str" = false:=by decide +kernel
def zd:=Jn @pU <| Jn @sy <| Jn @r6 <| Jn @rM <| Jn @vS <| Jn @vo <| @xU
local macro_rules | `(tactic| walk_at "go")=>`(tactic| try simp only[↓zd,xF,↓yw,↓yy,↓xt,↓yj,↓xN,↓xI,↓oD,↓i2,df,cO,de,dC,dk,dA,dQ,dJ,cP,dg,da,du,dm,dY,dh,dM,dE,dR,dt,dX,lx,uw,sR,sT,tO,List.map_cons,List.map_nil,List.replicate,List.cons_append,List.nil_append,lk,ym,yR,xT,yT,om,mw,gm,oq,uT,mj,gc,cf,sv,qa,oK,oT,oO,oU,true_and,and_true,and_self,Bool.not_true,Bool.not_false,decide_true,decide_false,Bool.or_true,Bool.or_false,Bool.true_or,Bool.false_or,Bool.and_false,Bool.false_and,Bool.and_true,Bool.true_and,Int.reduceToNat,Int.reducePow,Int.reduceNeg,Int.reduceSub,Int.reduceAdd,Int.reduceMul,Int.reduceEq,Int.reduceLT,Int.reduceLE,Int.reduceBEq,oP,fQ,gw,gI,gk,fW,gC,f7,if_true,if_false,Bool.false_eq_true,reduceCtorEq,decide_eq_true_eq])
local macro_rules | `(tactic| walk_at "ok")=>`(tactic| (simp only[L3.fx,L3.MulOk,L3.S64,L3.ic,L3.ki] at *;omega))
local macro_rules | `(tactic| walk_at "ini")=>`(tactic| simp only[ini,List.map,List.length,List.replicate,Nat.reduceSub,Nat.reduceAdd,Nat.sub_self,List.cons_append,List.nil_append,List.append_nil])
def Nb (p:Int):Prop:=-20000000000≤p∧p≤20000000000
theorem Nb.mul {p q:Int}(h:Nb p)(h':Nb q):MulOk p q:=by
  unfold Nb at h h'
  refine .inr ⟨?_,?_⟩ <;> (unfold ic;omega)
inductive Th:D→Prop
  | int {i:Int} (h:Nb i):Th (.int i)
  | pr {p q:Int} (h:Nb p) (h':Nb q) (hs:Int.gcd p q=1→(-1000000000≤p∧p≤1000000000)∧-1000000000≤q∧q≤1000000000):Th (.tup [.int p,.int q])
def isI:D→Bool
  | .int _=>true
  | _=>false
def bj:FSp:=fun ds μ Q=>match ds with
  | [d]=>Th d∧Q (.bl (isI d)) μ
  | _=>False
theorem kH:∀ ds μ Q,bj ds μ Q→ds.length=1:=by
  unfold bj
  walk_at "ln"
def ji:STr:=aL (bV (TUn (cT "int") (ah 0)) (gn (TUn (cT "bool") (ah 0))))
theorem mE:∀ ds μ Q,bj ds μ Q→ji { nx:=fun _ μ'=>RT Q .non μ',rt:=RT Q } (ini 1 ds) μ:=by
  intro ds μ Q h
  unfold bj at h
  split at h
  case h_2=>exact h.elim
  rename_i d
  walk_at "ini"
  unfold ji
  walk_at "go"
  obtain ⟨t,k⟩:=h
  cases t
  all_goals
    walk_at "go"
    exact ⟨_,.refl _,k⟩
def wiI (lo hi:Int):D→Bool
  | .int i=>decide (lo≤i)&&decide (i≤hi)
  | _=>false
def aM:FSp:=fun ds μ Q=>match ds with
  | [d,.int lo,.int hi]=>Th d∧Q (.bl (wiI lo hi d)) μ
  | _=>False
theorem fk:∀ ds μ Q,aM ds μ Q→ds.length=3:=by
  unfold aM
  walk_at "ln"
def c9:STr:=aL (bV (ao bj (af (ah 0) (aq))) (fJ rLe rLe (ah 1) (ah 0) (ah 2)))
theorem fO:∀ ds μ Q,aM ds μ Q→c9 { nx:=fun _ μ'=>RT Q .non μ',rt:=RT Q } (ini 3 ds) μ:=by
  intro ds μ Q h
  unfold aM at h
  split at h
  case h_2=>exact h.elim
  rename_i d lo hi
  walk_at "ini"
  unfold c9
  walk_at "go"
  obtain ⟨t,k⟩:=h
  refine ⟨t,?_⟩
  cases t with
  | int hi'=>
    walk_at "go"
    simp only[isI]
    walk_at "go"
    simp only[wiI] at k
    refine kif (fun h=>?_) fun h=>?_
    · rw[decide_eq_true h,Bool.true_and] at k;exact ⟨_,.refl _,k⟩
    · rw[decide_eq_false h,Bool.false_and] at k;exact ⟨_,.refl _,k⟩
  | pr _ _=>
    walk_at "go"
    simp only[isI]
    walk_at "go"
    exact ⟨_,.refl _,k⟩
def isP:D→Bool
  | .tup _=>true
  | _=>false
def bc:FSp:=fun ds μ Q=>match ds with
  | [d,.int m]=>(Th d∧m=2)∧Q (.bl (isP d)) μ
  | _=>False
theorem ij:∀ ds μ Q,bc ds μ Q→ds.length=2:=by
  unfold bc
  walk_at "ln"
def fA:STr:=aL (bV (TUn (cT "tuple") (ah 0)) (aj rEq (ao cE (af (ah 0) (aq))) (ah 1)))
theorem iL:∀ ds μ Q,bc ds μ Q→fA { nx:=fun _ μ'=>RT Q .non μ',rt:=RT Q } (ini 2 ds) μ:=by
  intro ds μ Q h
  unfold bc at h
  split at h
  case h_2=>exact h.elim
  rename_i d m
  walk_at "ini"
  unfold fA
  walk_at "go"
  obtain ⟨⟨t,rfl⟩,k⟩:=h
  cases t
  all_goals
    walk_at "go"
    exact ⟨_,.refl _,k⟩
def isF:D→Bool
  | .tup [.int p,.int q]=>decide (0 < q)&&decide (Int.gcd p q=1)
  | _=>false
def bh:FSp:=fun ds μ Q=>match ds with
  | [d]=>Th d∧Q (.bl (isF d)) μ
  | _=>False
theorem hV:∀ ds μ Q,bh ds μ Q→ds.length=1:=by
  unfold bh
  walk_at "ln"
def fE:STr:=aC (bF (TOr (cH (TB (ao bc (af (ah 0) (af (TC (.int 2)) (aq)))))) (TOr (cH (TB (ao bj (af (aj L3.rIx (ah 0) (TC (.int 0))) (aq))))) (cH (TB (ao bj (af (aj L3.rIx (ah 0) (TC (.int 1))) (aq))))))) (aL (TC (.bl false))) (aT)) (aL (bV (aj rGt (aj L3.rIx (ah 0) (TC (.int 1))) (TC (.int 0))) (aj rEq (ao L3.bK (af (aj L3.rIx (ah 0) (TC (.int 0))) (af (aj L3.rIx (ah 0) (TC (.int 1))) (aq)))) (TC (.int 1)))))
theorem iZ:∀ ds μ Q,bh ds μ Q→fE { nx:=fun _ μ'=>RT Q .non μ',rt:=RT Q } (ini 1 ds) μ:=by
  intro ds μ Q h
  unfold bh at h
  split at h
  case h_2=>exact h.elim
  rename_i d
  walk_at "ini"
  unfold fE
  walk_at "go"
  obtain ⟨t,k⟩:=h
  refine ⟨⟨t,rfl⟩,?_⟩
  cases t with
  | int hi'=>
    simp only[isP]
    walk_at "go"
    exact ⟨_,.refl _,k⟩
  | @pr p q h1 h2 hs=>
    simp only[isP]
    walk_at "go"
    refine ⟨.int h1,?_⟩
    simp only[isI]
    walk_at "go"
    refine ⟨.int h2,?_⟩
    simp only[isI]
    walk_at "go"
    simp only[isF] at k
    refine kif (fun h=>?_) fun h=>?_
    · rw[decide_eq_true h,Bool.true_and] at k
      have e:eqD (.int (Int.gcd p q:Nat)) (.int 1)=decide (Int.gcd p q=1):=by
        rw[gm];exact decide_eq_decide.mpr (by omega)
      rw[← e] at k
      exact ⟨rfl,_,.refl _,k⟩
    · rw[decide_eq_false h,Bool.false_and] at k;exact ⟨_,.refl _,k⟩
def bB:FSp:=fun ds μ Q=>match ds with
  | [.tup [.int p,.int q],.tup [.int r,.int s]]=>((Nb p∧Nb q)∧Nb r∧Nb s)∧Q (.bl (decide (p*s < r*q))) μ
  | _=>False
theorem mH:∀ ds μ Q,bB ds μ Q→ds.length=2:=by
  unfold bB
  walk_at "ln"
def jm:STr:=aL (aj rLt (aj cm (aj L3.rIx (ah 0) (TC (.int 0))) (aj L3.rIx (ah 1) (TC (.int 1)))) (aj cm (aj L3.rIx (ah 1) (TC (.int 0))) (aj L3.rIx (ah 0) (TC (.int 1)))))
theorem oZ:∀ ds μ Q,bB ds μ Q→jm { nx:=fun _ μ'=>RT Q .non μ',rt:=RT Q } (ini 2 ds) μ:=by
  intro ds μ Q h
  unfold bB at h
  split at h
  case h_2=>exact h.elim
  rename_i p q r s
  walk_at "ini"
  unfold jm
  walk_at "go"
  obtain ⟨⟨⟨h1,h2⟩,h3,h4⟩,k⟩:=h
  exact ⟨h1.mul h4,h3.mul h2,_,.refl _,k⟩
theorem pY {xs:List D}{c:Int}(c0:0≤c):atD xs c=xs[c.toNat]?:=by
  have:=br c.toNat xs
  rwa [Int.toNat_of_nonneg c0] at this
def aX:FSp:=fun ds μ Q=>match ds with
  | [.tup xs]=>∃ d,(xs[xs.length - 1]? = some d∧xs≠[]∧xs.length≤100)∧Q d μ
  | _=>False
theorem iC:∀ ds μ Q,aX ds μ Q→ds.length=1:=by
  unfold aX
  walk_at "ln"
def eG:STr:=aL (aj L3.rIx (ah 0) (aj fY (ao cE (af (ah 0) (aq))) (TC (.int 1))))
theorem j7:∀ ds μ Q,aX ds μ Q→eG { nx:=fun _ μ'=>RT Q .non μ',rt:=RT Q } (ini 1 ds) μ:=by
  intro ds μ Q h
  unfold aX at h
  split at h
  case h_2=>exact h.elim
  rename_i xs
  walk_at "ini"
  unfold eG
  walk_at "go"
  obtain ⟨d,⟨h1,h2,h3⟩,k⟩:=h
  have l0:0 < xs.length:=List.length_pos_iff.mpr h2
  rw[pY (by omega),show ((xs.length:Int) - 1).toNat=xs.length - 1 by omega,h1]
  exact ⟨_,.refl _,k⟩
def geF (a b:Int):D→Bool
  | .tup [.int p,.int q]=>decide (a*q≤p*b)
  | _=>false
def leF (c e:Int):D→Bool
  | .tup [.int p,.int q]=>decide (p*e≤c*q)
  | _=>false
def gtF (a b:Int):D→Bool
  | .tup [.int p,.int q]=>decide (a*q < p*b)
  | _=>false
def wiF (a b c e:Int)(d:D):Bool:=isF d&&(geF a b d&&leF c e d)
def ax:FSp:=fun ds μ Q=>match ds with
  | [d,.tup [.int a,.int b],.tup [.int c,.int e]]=>(Th d∧(Nb a∧Nb b)∧Nb c∧Nb e)∧Q (.bl (wiF a b c e d)) μ
  | _=>False
theorem i9 (x y:Int):(!decide (x < y))=decide (y≤x):=by
  rw[← decide_not];exact decide_eq_decide.mpr (by omega)
theorem dW:∀ ds μ Q,ax ds μ Q→ds.length=3:=by
  unfold ax
  walk_at "ln"
def cv:STr:=aL (bV (ao bh (af (ah 0) (aq))) (bV (gn (ao bB (af (ah 0) (af (ah 1) (aq))))) (gn (ao bB (af (ah 2) (af (ah 0) (aq)))))))
theorem d9:∀ ds μ Q,ax ds μ Q→cv { nx:=fun _ μ'=>RT Q .non μ',rt:=RT Q } (ini 3 ds) μ:=by
  intro ds μ Q h
  unfold ax at h
  split at h
  case h_2=>exact h.elim
  rename_i d a b c e
  walk_at "ini"
  unfold cv
  walk_at "go"
  obtain ⟨⟨t,⟨ha,hb⟩,hc,he⟩,k⟩:=h
  refine ⟨t,?_⟩
  walk_at "go"
  cases t with
  | int hi'=>exact ⟨_,.refl _,k⟩
  | @pr p q h1 h2 hs=>
    unfold wiF at k
    refine cg (fun h=>?_) fun h=>?_
    · rw[h,Bool.true_and] at k
      refine ⟨⟨⟨h1,h2⟩,ha,hb⟩,?_⟩
      walk_at "go"
      rw[i9]
      refine kif (fun h'=>?_) fun h'=>?_
      · simp only[geF,decide_eq_true h',Bool.true_and,leF] at k
        refine ⟨⟨⟨hc,he⟩,h1,h2⟩,?_⟩
        walk_at "go"
        rw[i9]
        exact ⟨_,.refl _,k⟩
      · simp only[geF,decide_eq_false h',Bool.false_and] at k
        exact ⟨_,.refl _,k⟩
    · rw[h,Bool.false_and] at k;exact ⟨_,.refl _,k⟩
def ay:FSp:=fun ds μ Q=>match ds with
  | [d,.tup [.int a,.int b],.tup [.int c,.int e]]=>(Th d∧(Nb a∧Nb b)∧Nb c∧Nb e)∧Q (.bl (wiF a b c e d&&gtF a b d)) μ
  | _=>False
theorem cM {a b c e:Int}{d:D}(h:wiF a b c e d=true):∃ p q,d=.tup [.int p,.int q]:=by
  unfold wiF isF at h
  split at h
  · exact ⟨_,_,rfl⟩
  · cases h
theorem d8:∀ ds μ Q,ay ds μ Q→ds.length=3:=by
  unfold ay
  walk_at "ln"
def cB:STr:=aL (bV (ao ax (af (ah 0) (af (ah 1) (af (ah 2) (aq))))) (ao bB (af (ah 1) (af (ah 0) (aq)))))
theorem eY:∀ ds μ Q,ay ds μ Q→cB { nx:=fun _ μ'=>RT Q .non μ',rt:=RT Q } (ini 3 ds) μ:=by
  intro ds μ Q h
  unfold ay at h
  split at h
  case h_2=>exact h.elim
  rename_i d a b c e
  walk_at "ini"
  unfold cB
  walk_at "go"
  obtain ⟨⟨t,⟨ha,hb⟩,hc,he⟩,k⟩:=h
  refine ⟨⟨t,⟨ha,hb⟩,hc,he⟩,?_⟩
  walk_at "go"
  refine cg (fun h=>?_) fun h=>?_
  · rw[h,Bool.true_and] at k
    obtain ⟨p,q,rfl⟩:=cM h
    cases t with
    | pr h1 h2 hs=>
    refine ⟨⟨⟨ha,hb⟩,h1,h2⟩,?_⟩
    exact ⟨_,.refl _,k⟩
  · rw[h,Bool.false_and] at k;exact ⟨_,.refl _,k⟩
theorem lJ {c:Bool}{A B:Prop}(h1:c=true→B)(h2:c=false→A):kIf (!c) A B:=by
  cases c with
  | true=>exact h1 rfl
  | false=>exact h2 rfl
theorem yt {w:Str}(h:w∈bZ):PyData.strOk w=true:=by
  simp only[bZ,List.mem_cons,List.not_mem_nil,or_false] at h
  rcases h with rfl | rfl | rfl | rfl | rfl
  · exact e9
  · exact gJ
  · exact e8
  · exact gD
  · exact gM
def lo2 (w:Str):Int:=if w=Str.ofString "swell" then 1 else 0
def grw (w:Str)(a u t:D):Bool:=wiF 1 1 60 1 t&&((match t with
  | .tup [.int r,.int s]=>wiF 1 1 r s a
  | _=>false)&&(wiF (lo2 w) 1 60 1 u&&gtF (lo2 w) 1 u))
def a9:FSp:=fun ds μ Q=>match ds with
  | [.tup (.str w::a::u::xs)]=>∃ t,(w∈bZ∧xs[xs.length - 1]? = some t∧(xs≠[]∧xs.length≤50)∧Th a∧Th u∧Th t)∧Q (.bl (grw w a u t)) μ
  | _=>False
theorem jh:∀ ds μ Q,a9 ds μ Q→ds.length=1:=by
  unfold a9
  walk_at "ln"
def fZ:STr:=aC (aY (bb (af (TC (.int 60)) (af (TC (.int 1)) (aq)))) (az 1)) (aC (bF (cH (TB (ao ax (af (ao aX (af (ah 0) (aq))) (af (TC (.tup [.int 1,.int 1])) (af (ah 1) (aq))))))) (aL (TC (.bl false))) (aT)) (aC (aY (pq (TB (aj rEq (aj L3.rIx (ah 0) (TC (.int 0))) (TC (.str "swell")))) (TC (.tup [.int 1,.int 1])) (TC (.tup [.int 0,.int 1]))) (az 2)) (aL (bV (ao ax (af (aj L3.rIx (ah 0) (TC (.int 1))) (af (TC (.tup [.int 1,.int 1])) (af (ao aX (af (ah 0) (aq))) (aq))))) (ao ay (af (aj L3.rIx (ah 0) (TC (.int 2))) (af (ah 2) (af (ah 1) (aq)))))))))
theorem jH:∀ ds μ Q,a9 ds μ Q→fZ { nx:=fun _ μ'=>RT Q .non μ',rt:=RT Q } (ini 3 ds) μ:=by
  intro ds μ Q h
  unfold a9 at h
  split at h
  case h_2=>exact h.elim
  rename_i w a u xs
  walk_at "ini"
  unfold fZ
  walk_at "go"
  obtain ⟨t,⟨hw,hx,⟨hx0,hx1⟩,ta,tu,tt⟩,k⟩:=h
  have hl:((.str w:D)::a::u::xs)[((.str w:D)::a::u::xs).length - 1]? = some t:=by
    have:xs.length≠0:=fun z=>hx0 (List.length_eq_zero_iff.mp z)
    rw[show ((.str w:D)::a::u::xs).length - 1=(xs.length - 1)+3 by simp;omega]
    simpa using hx
  have n1:Nb 1:=by unfold Nb;omega
  have n0:Nb 0:=by unfold Nb;omega
  have n60:Nb 60:=by unfold Nb;omega
  refine ⟨t,⟨hl,by simp,by simp;omega⟩,?_⟩
  refine ⟨⟨tt,⟨n1,n1⟩,n60,n1⟩,?_⟩
  walk_at "go"
  unfold grw at k
  refine lJ (fun h=>?_) fun h=>?_
  rotate_left
  · rw[h,Bool.false_and] at k;exact ⟨_,.refl _,k⟩
  rw[h,Bool.true_and] at k
  obtain ⟨r,s,rfl⟩:=cM h
  cases tt with
  | pr h1 h2 hs=>
  refine ⟨yt hw,?_⟩
  have key:∀ lw,lo2 w=lw→Nb lw→fj aX [.tup (.str w::a::u::xs)] μ fun x μ1=>fj ax [a,.tup [.int 1,.int 1],x] μ1 fun x μ1=>kB x fun c=>kIf c (fj ay [u,.tup [.int lw,.int 1],.tup [.int 60,.int 1]] μ1 (RT Q)) (RT Q (.bl false) μ1):=fun lw el nl=>by
    rw[el] at k
    refine ⟨_,⟨hl,by simp,by simp;omega⟩,⟨ta,⟨n1,n1⟩,h1,h2⟩,?_⟩
    walk_at "go"
    refine cg (fun h'=>?_) fun h'=>?_
    · simp only[h',Bool.true_and] at k
      exact ⟨⟨tu,⟨nl,n1⟩,n60,n1⟩,_,.refl _,k⟩
    · simp only[h',Bool.false_and] at k
      exact ⟨_,.refl _,k⟩
  exact kif (fun c=>key 1 (by unfold lo2;rw[if_pos c]) n1) fun c=>key 0 (by unfold lo2;rw[if_neg c]) n0
def fv (l h:D):Bool:=wiI 0 60 h&&(match h with
  | .int i=>wiI 0 i l
  | _=>false)
def a5:FSp:=fun ds μ Q=>match ds with
  | [l,h]=>(Th l∧Th h)∧Q (.bl (fv l h)) μ
  | _=>False
theorem gN:∀ ds μ Q,a5 ds μ Q→ds.length=2:=by
  unfold a5
  walk_at "ln"
def eT:STr:=aL (bV (ao aM (af (ah 1) (af (TC (.int 0)) (af (TC (.int 60)) (aq))))) (ao aM (af (ah 0) (af (TC (.int 0)) (af (ah 1) (aq))))))
theorem ie:∀ ds μ Q,a5 ds μ Q→eT { nx:=fun _ μ'=>RT Q .non μ',rt:=RT Q } (ini 2 ds) μ:=by
  intro ds μ Q h
  unfold a5 at h
  split at h
  case h_2=>exact h.elim
  rename_i l hx
  walk_at "ini"
  unfold eT
  walk_at "go"
  obtain ⟨⟨tl,th⟩,k⟩:=h
  unfold fv at k
  refine ⟨th,?_⟩
  walk_at "go"
  cases th with
  | int hi=>
    refine cg (fun h'=>?_) fun h'=>?_
    · simp only[h',Bool.true_and] at k
      exact ⟨tl,_,.refl _,k⟩
    · simp only[h',Bool.false_and] at k
      exact ⟨_,.refl _,k⟩
  | pr _ _ _=>exact ⟨_,.refl _,k⟩
def four (w:Str):Prop:=w=Str.ofString "step" ∨ w=Str.ofString "swell" ∨ w=Str.ofString "heed"
inductive Sp6:Str→List D→Prop
  | ck {a:D} (ta:Th a):Sp6 (Str.ofString "still") [a]
  | four {w:Str} {a u g t:D} (hw:four w) (ta:Th a) (tu:Th u) (tg:Th g) (tt:Th t):Sp6 w [a,u,g,t]
  | calm {a u l h t:D} (ta:Th a) (tu:Th u) (tl:Th l) (th:Th h) (tt:Th t):Sp6 (Str.ofString "calm") [a,u,l,h,t]
def abF (d:D):Bool:=wiF 0 1 1 1 d&&gtF 0 1 d
def mn:D→Bool
  | .tup [.int p,.int q]=>decide (p*1 < 1*q)
  | _=>false
def okR (w:Str):List D→Bool
  | [a]=>wiF 1 1 60 1 a
  | [a,u,g,t]=>grw w a u t&&(if w=Str.ofString "heed" then abF g else abF g&&mn g)
  | [a,u,l,h,t]=>grw w a u t&&fv l h
  | _=>false
abbrev jM:List (Str×D):=[((Str.ofString "still"),(.int 2:D)),((Str.ofString "step"),(.int 5:D)),((Str.ofString "swell"),(.int 5:D)),((Str.ofString "heed"),(.int 5:D)),((Str.ofString "calm"),(.int 6:D))]
theorem r8:bL jM (Str.ofString "still")=some (.int 2):=by simp[bL,jM]
theorem ux:bL jM (Str.ofString "step")=some (.int 5):=by simp[bL,jM,List.find?_cons,dj]
theorem qS:bL jM (Str.ofString "swell")=some (.int 5):=by simp[bL,jM,List.find?_cons,cL,bx]
theorem tE:bL jM (Str.ofString "heed")=some (.int 5):=by simp[bL,jM,List.find?_cons,dD,bI,bu]
theorem sN:bL jM (Str.ofString "calm")=some (.int 6):=by simp[bL,jM,List.find?_cons,dB,cD,cc,cF]
def bG:FSp:=fun ds μ Q=>match ds with
  | [.tup (.str w::xs)]=>Sp6 w xs∧Q (.bl (okR w xs)) μ
  | _=>False
theorem tS {w:Str}(h:four w):w∈bZ:=by rcases h with rfl | rfl | rfl<;>simp[bZ]
theorem mG:∀ ds μ Q,bG ds μ Q→ds.length=1:=by
  unfold bG
  walk_at "ln"
def j9:STr:=aC (bF (TOr (cH (TB (TUn (cT "tuple") (ah 0)))) (TOr (TB (aj rEq (ao cE (af (ah 0) (aq))) (TC (.int 0)))) (cH (TB (TUn (cT "str") (aj L3.rIx (ah 0) (TC (.int 0)))))))) (aL (TC (.bl false))) (aT)) (aC (aY (aj L3.rIx (ah 0) (TC (.int 0))) (az 1)) (aC (bF (TOr (TB (kQ true [((Str.ofString "still"),(.int 2:D)),((Str.ofString "step"),(.int 5:D)),((Str.ofString "swell"),(.int 5:D)),((Str.ofString "heed"),(.int 5:D)),((Str.ofString "calm"),(.int 6:D))] (ah 1))) (TB (aj rNe (ao cE (af (ah 0) (aq))) (nP [((Str.ofString "still"),(.int 2:D)),((Str.ofString "step"),(.int 5:D)),((Str.ofString "swell"),(.int 5:D)),((Str.ofString "heed"),(.int 5:D)),((Str.ofString "calm"),(.int 6:D))] (ah 1))))) (aL (TC (.bl false))) (aT)) (aC (bF (TB (aj rEq (ah 1) (TC (.str "still")))) (aL (ao ax (af (aj L3.rIx (ah 0) (TC (.int 1))) (af (TC (.tup [.int 1,.int 1])) (af (bb (af (TC (.int 60)) (af (TC (.int 1)) (aq)))) (aq)))))) (aT)) (aC (bF (cH (TB (ao a9 (af (ah 0) (aq))))) (aL (TC (.bl false))) (aT)) (aC (bF (TB (aj rEq (ah 1) (TC (.str "calm")))) (aL (ao a5 (af (aj L3.rIx (ah 0) (TC (.int 3))) (af (aj L3.rIx (ah 0) (TC (.int 4))) (aq))))) (aT)) (aC (bF (TB (aj rEq (ah 1) (TC (.str "heed")))) (aL (ao ay (af (aj L3.rIx (ah 0) (TC (.int 3))) (af (TC (.tup [.int 0,.int 1])) (af (TC (.tup [.int 1,.int 1])) (aq)))))) (aT)) (aL (bV (ao ay (af (aj L3.rIx (ah 0) (TC (.int 3))) (af (TC (.tup [.int 0,.int 1])) (af (TC (.tup [.int 1,.int 1])) (aq))))) (ao bB (af (aj L3.rIx (ah 0) (TC (.int 3))) (af (TC (.tup [.int 1,.int 1])) (aq))))))))))))
theorem n6:∀ ds μ Q,bG ds μ Q→j9 { nx:=fun _ μ'=>RT Q .non μ',rt:=RT Q } (ini 2 ds) μ:=by
  intro ds μ Q h
  unfold bG at h
  split at h
  case h_2=>exact h.elim
  rename_i w xs
  walk_at "ini"
  unfold j9
  walk_at "go"
  obtain ⟨S,k⟩:=h
  have n1:Nb 1:=by unfold Nb;omega
  have n0:Nb 0:=by unfold Nb;omega
  have n60:Nb 60:=by unfold Nb;omega
  cases S with
  | ck ta=>
    · walk_at "go"
      refine g8 (by simp) ?_
      simp only[r8,Option.isSome_some,List.length_cons,List.length_nil]
      walk_at "go"
      refine cg (fun z=>?_) fun _=>?_
      · simp at z
      exact ⟨⟨ta,⟨n1,n1⟩,n60,n1⟩,_,.refl _,k⟩
  | @four w a u g t hw ta tu tg tt=>
    have h5:=tS hw
    unfold okR at k
    have grow:∀ A B:Mu→Prop,(grw w a u t=true→B μ)→(grw w a u t=false→A μ)→fj a9 [.tup [.str w,a,u,g,t]] μ fun x μ1=>kB x fun c=>kIf (!c) (A μ1) (B μ1):=fun A B h1 h2=>by
      refine ⟨t,⟨h5,rfl,⟨by simp,by simp⟩,ta,tu,tt⟩,?_⟩
      show kIf _ _ _
      exact lJ h1 h2
    rcases hw with rfl | rfl | rfl
    · walk_at "go"
      refine g8 (by simp) ?_
      simp only[ux,Option.isSome_some,List.length_cons,List.length_nil]
      walk_at "go"
      refine cg (fun z=>?_) fun _=>?_
      · simp at z
      refine grow _ _ (fun h=>?_) fun h=>?_
      rotate_left
      · simp only[h,Bool.false_and] at k;exact ⟨_,.refl _,k⟩
      simp only[h,Bool.true_and,bI,if_false] at k
      refine ⟨⟨tg,⟨n0,n1⟩,n1,n1⟩,?_⟩
      show kIf (abF g) _ _
      refine cg (fun h2=>?_) fun h2=>?_
      · obtain ⟨p,q,rfl⟩:=cM (Bool.and_eq_true_iff.mp h2).1
        simp only[h2,Bool.true_and] at k
        cases tg with
        | pr h3 h4 _=>exact ⟨⟨⟨h3,h4⟩,n1,n1⟩,_,.refl _,k⟩
      · simp only[h2,Bool.false_and] at k;exact ⟨_,.refl _,k⟩
    · walk_at "go"
      refine g8 (by simp) ?_
      simp only[qS,Option.isSome_some,List.length_cons,List.length_nil]
      walk_at "go"
      refine cg (fun z=>?_) fun _=>?_
      · simp at z
      refine grow _ _ (fun h=>?_) fun h=>?_
      rotate_left
      · simp only[h,Bool.false_and] at k;exact ⟨_,.refl _,k⟩
      simp only[h,Bool.true_and,bu,if_false] at k
      refine ⟨⟨tg,⟨n0,n1⟩,n1,n1⟩,?_⟩
      show kIf (abF g) _ _
      refine cg (fun h2=>?_) fun h2=>?_
      · obtain ⟨p,q,rfl⟩:=cM (Bool.and_eq_true_iff.mp h2).1
        simp only[h2,Bool.true_and] at k
        cases tg with
        | pr h3 h4 _=>exact ⟨⟨⟨h3,h4⟩,n1,n1⟩,_,.refl _,k⟩
      · simp only[h2,Bool.false_and] at k;exact ⟨_,.refl _,k⟩
    · walk_at "go"
      refine g8 (by simp) ?_
      simp only[tE,Option.isSome_some,List.length_cons,List.length_nil]
      walk_at "go"
      refine cg (fun z=>?_) fun _=>?_
      · simp at z
      refine grow _ _ (fun h=>?_) fun h=>?_
      rotate_left
      · simp only[h,Bool.false_and] at k;exact ⟨_,.refl _,k⟩
      simp only[h,Bool.true_and,if_true] at k
      exact ⟨⟨tg,⟨n0,n1⟩,n1,n1⟩,_,.refl _,k⟩
  | @calm a u l h t ta tu tl th tt=>
    · walk_at "go"
      refine g8 (by simp) ?_
      simp only[sN,Option.isSome_some,List.length_cons,List.length_nil]
      walk_at "go"
      refine cg (fun z=>?_) fun _=>?_
      · simp at z
      unfold okR at k
      refine ⟨t,⟨by simp[bZ],rfl,⟨by simp,by simp⟩,ta,tu,tt⟩,?_⟩
      show kIf _ _ _
      refine lJ (fun h=>?_) fun h=>?_
      · simp only[h,Bool.true_and] at k
        exact ⟨⟨tl,th⟩,_,.refl _,k⟩
      · simp only[h,Bool.false_and] at k;exact ⟨_,.refl _,k⟩
def aR:FSp:=fun ds μ Q=>match ds with
  | [d]=>Th d∧Q (.bl (isI d)) μ
  | _=>False
theorem iU:∀ ds μ Q,aR ds μ Q→ds.length=1:=by
  unfold aR
  walk_at "ln"
def gd:STr:=aL (bV (TUn (cT "int") (ah 0)) (gn (TUn (cT "bool") (ah 0))))
theorem jZ:∀ ds μ Q,aR ds μ Q→gd { nx:=fun _ μ'=>RT Q .non μ',rt:=RT Q } (ini 1 ds) μ:=by
  intro ds μ Q h
  unfold aR at h
  split at h
  case h_2=>exact h.elim
  rename_i d
  walk_at "ini"
  unfold gd
  walk_at "go"
  obtain ⟨t,k⟩:=h
  cases t
  all_goals
    walk_at "go"
    exact ⟨_,.refl _,k⟩
theorem oW {p q:Int}(q0:0 < q):(eqD (.tup [.int (p.fdiv (Int.gcd p q)),.int (q.fdiv (Int.gcd p q))]) (.tup [.int p,.int q]))=decide (Int.gcd p q=1):=by
  rw[mj,cf,cf,gc,gm,gm,Bool.and_true,← Bool.decide_and]
  refine decide_eq_decide.mpr ⟨fun h=>?_,fun h=>?_⟩
  · obtain ⟨g,x,y,g0,ea,eb,ep,eq,y0,yb,gg⟩:=fe (a:=p) q0
    have e1:y=q:=eq.symm.trans h.2
    have:g=1:=by
      rw[e1] at eb
      have:=Int.eq_of_mul_eq_mul_right (a:=q) (b:=1) (c:=g) (by omega) (by rw[Int.one_mul];exact eb)
      exact this.symm
    have e2:x=p:=ep.symm.trans h.1
    rw[e1,e2] at gg
    exact gg
  · rw[h];exact ⟨Int.fdiv_one _,Int.fdiv_one _⟩
def aU:FSp:=fun ds μ Q=>match ds with
  | [d]=>Th d∧Q (.bl (isF d)) μ
  | _=>False
theorem g4:∀ ds μ Q,aU ds μ Q→ds.length=1:=by
  unfold aU
  walk_at "ln"
def er:STr:=aC (bF (TOr (cH (TB (TUn (cT "tuple") (ah 0)))) (TB (aj rNe (ao cE (af (ah 0) (aq))) (TC (.int 2))))) (aL (TC (.bl false))) (aT)) (aC (bF (TOr (cH (TB (ao aR (af (aj L3.rIx (ah 0) (TC (.int 0))) (aq))))) (cH (TB (ao aR (af (aj L3.rIx (ah 0) (TC (.int 1))) (aq)))))) (aL (TC (.bl false))) (aT)) (aL (bV (aj rGt (aj L3.rIx (ah 0) (TC (.int 1))) (TC (.int 0))) (aj rEq (ao L3.cZ (af (aj L3.rIx (ah 0) (TC (.int 0))) (af (aj L3.rIx (ah 0) (TC (.int 1))) (aq)))) (ah 0)))))
theorem iq:∀ ds μ Q,aU ds μ Q→er { nx:=fun _ μ'=>RT Q .non μ',rt:=RT Q } (ini 1 ds) μ:=by
  intro ds μ Q h
  unfold aU at h
  split at h
  case h_2=>exact h.elim
  rename_i d
  walk_at "ini"
  unfold er
  walk_at "go"
  obtain ⟨t,k⟩:=h
  cases t with
  | int hi'=>
    walk_at "go"
    exact ⟨_,.refl _,k⟩
  | @pr p q h1 h2 hs=>
    walk_at "go"
    refine ⟨.int h1,?_⟩
    simp only[isI]
    walk_at "go"
    refine ⟨.int h2,?_⟩
    simp only[isI]
    walk_at "go"
    simp only[isF] at k
    refine kif (fun h=>?_) fun h=>?_
    · rw[decide_eq_true h,Bool.true_and,← oW h] at k
      refine ⟨⟨h,by unfold Nb at h2;unfold ic;omega⟩,?_⟩
      exact ⟨by simp[okD,bM],_,.refl _,k⟩
    · rw[decide_eq_false h,Bool.false_and] at k;exact ⟨_,.refl _,k⟩
def aI:FSp:=fun ds μ Q=>match ds with
  | [d,.tup [.int a,.int b],.tup [.int c,.int e]]=>(Th d∧(Nb a∧Nb b)∧Nb c∧Nb e)∧Q (.bl (wiF a b c e d)) μ
  | _=>False
theorem gS:∀ ds μ Q,aI ds μ Q→ds.length=3:=by
  unfold aI
  walk_at "ln"
def eg:STr:=aC (bF (cH (TB (ao aU (af (ah 0) (aq))))) (aL (TC (.bl false))) (aT)) (aC (bF (TB (aj rLt (aj cm (aj L3.rIx (ah 0) (TC (.int 0))) (aj L3.rIx (ah 1) (TC (.int 1)))) (aj cm (aj L3.rIx (ah 1) (TC (.int 0))) (aj L3.rIx (ah 0) (TC (.int 1)))))) (aL (TC (.bl false))) (aT)) (aL (aj rLe (aj cm (aj L3.rIx (ah 0) (TC (.int 0))) (aj L3.rIx (ah 2) (TC (.int 1)))) (aj cm (aj L3.rIx (ah 2) (TC (.int 0))) (aj L3.rIx (ah 0) (TC (.int 1)))))))
theorem ip:∀ ds μ Q,aI ds μ Q→eg { nx:=fun _ μ'=>RT Q .non μ',rt:=RT Q } (ini 3 ds) μ:=by
  intro ds μ Q h
  unfold aI at h
  split at h
  case h_2=>exact h.elim
  rename_i d a b c e
  walk_at "ini"
  unfold eg
  walk_at "go"
  obtain ⟨⟨t,⟨ha,hb⟩,hc,he⟩,k⟩:=h
  refine ⟨t,?_⟩
  walk_at "go"
  unfold wiF at k
  refine lJ (fun h=>?_) fun h=>?_
  · rw[h,Bool.true_and] at k
    cases t with
    | int hi'=>cases h
    | @pr p q h1 h2 hs=>
    walk_at "go"
    refine ⟨h1.mul hb,ha.mul h2,?_⟩
    refine kif (fun h'=>?_) fun h'=>?_
    · simp only[geF,decide_eq_false (show ¬ a*q≤p*b by omega),Bool.false_and] at k
      exact ⟨_,.refl _,k⟩
    · simp only[geF,decide_eq_true (show a*q≤p*b by omega),Bool.true_and,leF] at k
      exact ⟨h1.mul he,hc.mul h2,_,.refl _,k⟩
  · rw[h,Bool.false_and] at k;exact ⟨_,.refl _,k⟩
theorem oo:lo2 (Str.ofString "step")=0:=by simp[lo2,bx]
theorem iD:lo2 (Str.ofString "swell")=1:=by simp[lo2]
theorem oj:lo2 (Str.ofString "heed")=0:=by simp[lo2,bP]
theorem lF:lo2 (Str.ofString "calm")=0:=by simp[lo2,bO]
theorem g5 (w:Str):lo2 w=0∨lo2 w=1:=by unfold lo2;split<;>simp
theorem cV {a b c e p q:Int}:wiF a b c e (.tup [.int p,.int q])=true↔(0 < q∧Int.gcd p q=1)∧a*q≤p*b∧p*e≤c*q:=by
  simp[wiF,isF,geF,leF,and_assoc]
theorem uX {lo:Int}{u:D}(hl:lo=0∨lo=1)(h:wiF 0 1 60 1 u=false):(wiF lo 1 60 1 u&&gtF lo 1 u)=false:=by
  cases hw:wiF lo 1 60 1 u with
  | false=>rfl
  | true=>
    exfalso
    obtain ⟨p,q,rfl⟩:=cM hw
    obtain ⟨⟨h1,h2⟩,h3,h4⟩:=cV.mp hw
    have:wiF 0 1 60 1 (.tup [.int p,.int q])=true:=cV.mpr ⟨⟨h1,h2⟩,by rcases hl with rfl | rfl<;>omega,h4⟩
    rw[this] at h;cases h
theorem ll {lo p q:Int}(hl:lo=0∨lo=1)(h:wiF 0 1 60 1 (.tup [.int p,.int q])=true):(wiF lo 1 60 1 (.tup [.int p,.int q])&&gtF lo 1 (.tup [.int p,.int q]))=decide (¬ p≤q*lo):=by
  obtain ⟨⟨h1,h2⟩,h3,h4⟩:=cV.mp h
  rw[Bool.eq_iff_iff,Bool.and_eq_true,cV,decide_eq_true_iff]
  simp only[gtF,decide_eq_true_eq]
  rcases hl with rfl | rfl
  · exact ⟨fun z=>by have:=z.2;omega,fun z=>⟨⟨⟨h1,h2⟩,h3,h4⟩,by omega⟩⟩
  · exact ⟨fun z=>by have:=z.2;omega,fun z=>⟨⟨⟨h1,h2⟩,by omega,h4⟩,by omega⟩⟩
theorem mr {p q:Int}(h:wiF 0 1 1 1 (.tup [.int p,.int q])=true):abF (.tup [.int p,.int q])=decide (¬ p=0):=by
  obtain ⟨⟨h1,h2⟩,h3,h4⟩:=cV.mp h
  unfold abF
  rw[h,Bool.true_and]
  simp only[gtF]
  exact decide_eq_decide.mpr (by omega)
theorem uN {p q:Int}(h:wiF 0 1 1 1 (.tup [.int p,.int q])=true):mn (.tup [.int p,.int q]) = !eqD (.tup [.int p,.int q]) (.tup [.int 1,.int 1]):=by
  obtain ⟨⟨h1,h2⟩,h3,h4⟩:=cV.mp h
  rw[mj,cf,cf,gc,gm,gm,Bool.and_true,← Bool.decide_and,← decide_not]
  simp only[mn]
  refine decide_eq_decide.mpr ⟨fun z w=>by omega,fun z=>?_⟩
  by_cases e:p=q
  · subst e
    rw[Int.gcd_self] at h2
    exact absurd ⟨by omega,by omega⟩ z
  · omega
def bE:FSp:=fun ds μ Q=>match ds with
  | [.tup (.str w::xs)]=>Sp6 w xs∧Q (.bl (okR w xs)) μ
  | _=>False
theorem lH:∀ ds μ Q,bE ds μ Q→ds.length=1:=by
  unfold bE
  walk_at "ln"
def jl:STr:=aC (bF (TOr (cH (TB (TUn (cT "tuple") (ah 0)))) (TOr (TB (aj rLt (ao cE (af (ah 0) (aq))) (TC (.int 2)))) (cH (TB (TUn (cT "str") (aj L3.rIx (ah 0) (TC (.int 0)))))))) (aL (TC (.bl false))) (aT)) (aC (aY (aj L3.rIx (ah 0) (TC (.int 0))) (az 1)) (aC (bF (TOr (cH (TB (ao aI (af (aj L3.rIx (ah 0) (TUn g7 (TC (.int 1)))) (af (bb (af (TC (.int 1)) (af (TC (.int 1)) (aq)))) (af (bb (af (TC (.int 60)) (af (TC (.int 1)) (aq)))) (aq))))))) (cH (TB (ao aI (af (aj L3.rIx (ah 0) (TC (.int 1))) (af (bb (af (TC (.int 1)) (af (TC (.int 1)) (aq)))) (af (aj L3.rIx (ah 0) (TUn g7 (TC (.int 1)))) (aq)))))))) (aL (TC (.bl false))) (aT)) (aC (bF (TB (aj rEq (ah 1) (TC (.str "still")))) (aL (aj rEq (ao cE (af (ah 0) (aq))) (TC (.int 2)))) (aT)) (aC (bF (TOr (TB (aj rNe (ao cE (af (ah 0) (aq))) (aj ba (TC (.int 5)) (ao lz (af (aj rEq (ah 1) (TC (.str "calm"))) (aq)))))) (TB (aj (sQ true) (ah 1) (bb (af (TC (.str "step")) (af (TC (.str "swell")) (af (TC (.str "heed")) (af (TC (.str "calm")) (aq))))))))) (aL (TC (.bl false))) (aT)) (aC (aY (aj L3.rIx (ah 0) (TC (.int 2))) (az 2)) (aC (bF (TOr (cH (TB (ao aI (af (ah 2) (af (bb (af (TC (.int 0)) (af (TC (.int 1)) (aq)))) (af (bb (af (TC (.int 60)) (af (TC (.int 1)) (aq)))) (aq))))))) (TB (aj rLe (aj L3.rIx (ah 2) (TC (.int 0))) (aj cm (aj L3.rIx (ah 2) (TC (.int 1))) (ao lz (af (aj rEq (ah 1) (TC (.str "swell"))) (aq))))))) (aL (TC (.bl false))) (aT)) (aC (bF (TB (aj rEq (ah 1) (TC (.str "calm")))) (aL (bV (ao aR (af (aj L3.rIx (ah 0) (TC (.int 3))) (aq))) (bV (ao aR (af (aj L3.rIx (ah 0) (TC (.int 4))) (aq))) (iz rLe rLe rLe (TC (.int 0)) (aj L3.rIx (ah 0) (TC (.int 3))) (aj L3.rIx (ah 0) (TC (.int 4))) (TC (.int 60)))))) (aT)) (aC (bF (TOr (cH (TB (ao aI (af (aj L3.rIx (ah 0) (TC (.int 3))) (af (bb (af (TC (.int 0)) (af (TC (.int 1)) (aq)))) (af (bb (af (TC (.int 1)) (af (TC (.int 1)) (aq)))) (aq))))))) (TB (aj rEq (aj L3.rIx (aj L3.rIx (ah 0) (TC (.int 3))) (TC (.int 0))) (TC (.int 0))))) (aL (TC (.bl false))) (aT)) (aL (pT (aj rEq (ah 1) (TC (.str "heed"))) (aj rNe (aj L3.rIx (ah 0) (TC (.int 3))) (bb (af (TC (.int 1)) (af (TC (.int 1)) (aq)))))))))))))))
theorem mF:∀ ds μ Q,bE ds μ Q→jl { nx:=fun _ μ'=>RT Q .non μ',rt:=RT Q } (ini 3 ds) μ:=by
  intro ds μ Q h
  unfold bE at h
  split at h
  case h_2=>exact h.elim
  rename_i w xs
  walk_at "ini"
  unfold jl
  walk_at "go"
  obtain ⟨S,k⟩:=h
  have n1:Nb 1:=by unfold Nb;omega
  have n0:Nb 0:=by unfold Nb;omega
  have n60:Nb 60:=by unfold Nb;omega
  have ft:∀ {d:D} {a b c e:Int} {A B:Mu→Prop},Th d→Nb a→Nb b→Nb c→Nb e→(wiF a b c e d=true→B μ)→(wiF a b c e d=false→A μ)→fj aI [d,.tup [.int a,.int b],.tup [.int c,.int e]] μ fun x μ1=>kB x fun c=>kIf (!c) (A μ1) (B μ1):=fun td ha hb hc he h1 h2=>by
    refine ⟨⟨td,⟨ha,hb⟩,hc,he⟩,?_⟩
    show kIf _ _ _
    exact lJ h1 h2
  have fin:∀ {b},okR w xs=b→RT Q (.bl b) μ:=fun {b} e=>by rw[e] at k;exact ⟨_,.refl _,k⟩
  cases S with
  | @ck a ta=>
    walk_at "go"
    refine g8 (by simp) (gH rfl ?_)
    refine ft ta n1 n1 n60 n1 (fun h=>?_) fun h=>fin (by simp[okR,h])
    refine gH rfl ?_
    obtain ⟨p,q,rfl⟩:=cM h
    cases ta with
    | pr h1 h2 hs=>
    refine ft (.pr h1 h2 hs) n1 n1 h1 h2 (fun h'=>?_) fun h'=>?_
    · refine fin ?_
      simp[okR,h]
    · exfalso
      simp only[wiF,Bool.and_eq_true] at h h'
      simp[h.1,h.2.1,leF] at h'
  | @four w a u g t hw ta tu tg tt=>
    have st:four w:=hw
    rcases hw with rfl | rfl | rfl
    all_goals
      walk_at "go"
      refine g8 (by simp) (gH rfl ?_)
      refine ft tt n1 n1 n60 n1 (fun h=>?_) fun h=>fin (by simp[okR,grw,h])
      refine gH rfl ?_
      obtain ⟨r,s,rfl⟩:=cM h
      cases tt with
      | pr h1 h2 hs=>
      refine ft ta n1 n1 h1 h2 (fun h'=>?_) fun h'=>fin (by simp[okR,grw,h,h'])
      simp only[List.length_cons,List.length_nil,cD,cc,cF,bx,bP,if_false]
      refine cg (fun z=>?_) fun _=>?_
      · simp at z
      refine cg (fun z=>?_) fun _=>?_
      · simp[inG,oq] at z
      refine ft tu n0 n1 n60 n1 (fun h3=>?_) fun h3=>fin (by simp[okR,grw,uX (g5 _) h3])
      obtain ⟨p,q,rfl⟩:=cM h3
      cases tu with
      | pr h4 h5 hs2=>
      walk_at "go"
      refine ⟨h5.mul (by first | exact n0 | exact n1),?_⟩
      refine kif (fun c=>fin ?_) fun c=>?_
      · simp only[okR,grw,h,h',Bool.true_and]
        rw[ll (g5 _) h3]
        first
          | rw[oo,decide_eq_false (fun z=>z c),Bool.false_and]
          | rw[iD,decide_eq_false (fun z=>z c),Bool.false_and]
          | rw[oj,decide_eq_false (fun z=>z c),Bool.false_and]
      have gr:∀ {w':Str},(¬ p≤q*lo2 w')→grw w' a (.tup [.int p,.int q]) (.tup [.int r,.int s])=true:=fun {w'} c'=>by
        have uy:=ll (g5 w') h3
        simp only[grw,h,h',Bool.true_and]
        rw[uy,decide_eq_true c']
      refine ft tg n0 n1 n1 n1 (fun h6=>?_) fun h6=>fin (by simp[okR,abF,h6])
      obtain ⟨x,y,rfl⟩:=cM h6
      cases tg with
      | pr h7 h8 hs3=>
      walk_at "go"
      have c':=c
      refine kif (fun c2=>fin ?_) fun c2=>?_
      · simp only[okR,mr h6,decide_eq_false (fun z:¬ x=0=>z c2),Bool.false_and,ite_self,Bool.and_false]
      first
        | (refine fin ?_
           simp only[okR,gr (w':=Str.ofString "heed") (by rw[oj];exact c),mr h6,decide_eq_true c2,if_true,Bool.true_and]
           done)
        | (have e2:=uN h6
           rw[mj,cf,cf,gc,gm,gm,Bool.and_true] at e2
           rw[← e2]
           refine fin ?_
           first
             | (simp only[okR,gr (w':=Str.ofString "step") (by rw[oo];exact c),mr h6,decide_eq_true c2,bI,if_false,Bool.true_and];done)
             | (simp only[okR,gr (w':=Str.ofString "swell") (by rw[iD];exact c),mr h6,decide_eq_true c2,bu,if_false,Bool.true_and];done))
  | @calm a u l hh t ta tu tl th tt=>
    walk_at "go"
    refine g8 (by simp) (gH rfl ?_)
    refine ft tt n1 n1 n60 n1 (fun h=>?_) fun h=>fin (by simp[okR,grw,h])
    refine gH rfl ?_
    obtain ⟨r,s,rfl⟩:=cM h
    cases tt with
    | pr h1 h2 hs=>
    refine ft ta n1 n1 h1 h2 (fun h'=>?_) fun h'=>fin (by simp[okR,grw,h,h'])
    simp only[List.length_cons,List.length_nil,if_true,bO,if_false]
    refine cg (fun z=>?_) fun _=>?_
    · simp at z
    refine cg (fun z=>?_) fun _=>?_
    · simp[inG,oq] at z
    refine ft tu n0 n1 n60 n1 (fun h3=>?_) fun h3=>fin (by simp[okR,grw,uX (g5 _) h3])
    obtain ⟨p,q,rfl⟩:=cM h3
    cases tu with
    | pr h4 h5 hs2=>
    walk_at "go"
    refine ⟨h5.mul n0,?_⟩
    have uy:=ll (g5 (Str.ofString "calm")) h3
    rw[lF] at uy
    refine kif (fun c=>fin ?_) fun c=>?_
    · simp only[okR,grw,h,h',Bool.true_and,lF]
      rw[uy,decide_eq_false (fun z=>z c),Bool.false_and]
    rw[decide_eq_true c] at uy
    have gr:grw (Str.ofString "calm") a (.tup [.int p,.int q]) (.tup [.int r,.int s])=true:=by
      simp only[grw,h,h',Bool.true_and,lF]
      exact uy
    have fin2:∀ {b},fv l hh=b→RT Q (.bl b) μ:=fun {b} e=>fin (by simp only[okR,gr,Bool.true_and];exact e)
    refine ⟨tl,?_⟩
    cases tl with
    | pr _ _ _=>
      simp only[isI]
      walk_at "go"
      refine fin2 ?_
      unfold fv
      cases th with
      | int _=>simp[wiI]
      | pr _ _ _=>simp[wiI]
    | @int i hi=>
    simp only[isI]
    walk_at "go"
    refine ⟨th,?_⟩
    cases th with
    | pr _ _ _=>
      simp only[isI]
      walk_at "go"
      exact fin2 (by simp[fv,wiI])
    | @int j hj=>
    simp only[isI]
    walk_at "go"
    refine kif (fun z1=>kif (fun z2=>fin2 ?_) fun z2=>fin2 ?_) fun z1=>fin2 ?_
    · simp only[fv,wiI]
      rw[decide_eq_true (show (0:Int)≤j by omega),decide_eq_true z1,decide_eq_true z2,Bool.and_true,Bool.true_and,Bool.and_true]
    · simp only[fv,wiI]
      rw[decide_eq_false z2,Bool.and_false,Bool.and_false]
    · simp only[fv,wiI]
      rw[decide_eq_false z1,Bool.false_and,Bool.and_false]
theorem thb {lo hi p q:Int}(h:FrB lo hi p q)(h0:0≤lo)(h1:hi≤60):Th (.tup [.int p,.int q]):=by
  have b:=h.bd h0 h1
  have b1:=b.1.1;have b2:=b.1.2;have b3:=b.2.1;have b4:=b.2.2
  exact .pr (by unfold Nb;omega) (by unfold Nb;omega) fun _=>⟨⟨by omega,by omega⟩,by omega,by omega⟩
def thL:List D:=[.tup [.int 0,.int 1],.tup [.int 1,.int 1],.tup [.int 60,.int 1],.tup [.int 61,.int 1],.tup [.int 1,.int 2],.tup [.int 600000001,.int 10000000],.tup [.int 100000001,.int 100000000],
  .tup [.int 99999999,.int 100000000],.tup [.int (-1),.int 2],.tup [.int 1,.int 100000000],.tup [.int 2,.int 2],.tup [.int 4,.int 2],.tup [.int 3,.int 0],
  .tup [.int (-3),.int (-2)],.tup [.int 0,.int 5],.tup [.int 2,.int (-1)],.int (-1),.int 0,.int 60,.int 61,.int 7,.tup [.int 0,.int (-1)],.tup [.int (-1),.int 1],.tup [.int 59,.int 1]]
def bw:FSp:=fun ds μ Q=>match ds with
  | [.obj b,.tup (.str w::xs),d]=>(Box μ b∧(0 < xs.length∧xs.length≤10)∧(∀ x∈xs,Th x)∧Th d)∧∀ d' μ',Th d'→cn b μ μ'→Q d' μ'
  | _=>False
theorem iS:∀ ds μ Q,bw ds μ Q→ds.length=3:=by
  unfold bw
  walk_at "ln"
def gA:STr:=aC (aY (gW (af (bb (af (TC (.int 0)) (af (TC (.int 1)) (aq)))) (af (bb (af (TC (.int 1)) (af (TC (.int 1)) (aq)))) (af (bb (af (TC (.int 60)) (af (TC (.int 1)) (aq)))) (af (bb (af (TC (.int 61)) (af (TC (.int 1)) (aq)))) (af (bb (af (TC (.int 1)) (af (TC (.int 2)) (aq)))) (af (bb (af (TC (.int 600000001)) (af (TC (.int 10000000)) (aq)))) (af (bb (af (TC (.int 100000001)) (af (TC (.int 100000000)) (aq)))) (aq))))))))) (az 3)) (aC (aY (aj ba (ah 3) (gW (af (bb (af (TC (.int 99999999)) (af (TC (.int 100000000)) (aq)))) (af (bb (af (TUn g7 (TC (.int 1))) (af (TC (.int 2)) (aq)))) (af (bb (af (TC (.int 1)) (af (TC (.int 100000000)) (aq)))) (af (bb (af (TC (.int 2)) (af (TC (.int 2)) (aq)))) (af (bb (af (TC (.int 4)) (af (TC (.int 2)) (aq)))) (af (bb (af (TC (.int 3)) (af (TC (.int 0)) (aq)))) (aq))))))))) (az 3)) (aC (aY (aj ba (ah 3) (gW (af (bb (af (TUn g7 (TC (.int 3))) (af (TUn g7 (TC (.int 2))) (aq)))) (af (bb (af (TC (.int 0)) (af (TC (.int 5)) (aq)))) (af (bb (af (TC (.int 2)) (af (TUn g7 (TC (.int 1))) (aq)))) (af (TUn g7 (TC (.int 1))) (af (TC (.int 0)) (af (TC (.int 60)) (af (TC (.int 61)) (af (TC (.int 7)) (af (bb (af (TC (.int 0)) (af (TUn g7 (TC (.int 1))) (aq)))) (af (bb (af (TUn g7 (TC (.int 1))) (af (TC (.int 1)) (aq)))) (af (bb (af (TC (.int 59)) (af (TC (.int 1)) (aq)))) (aq)))))))))))))) (az 3)) (aC (aY (ao L3.aK (af (ah 0) (af (TC (.int 4)) (aq)))) (az 4)) (aC (bF (TB (aj rEq (ah 4) (TC (.int 0)))) (aL (aj L3.rIx (ah 1) (aj ba (TC (.int 1)) (ao L3.aK (af (ah 0) (af (aj fY (ao cE (af (ah 1) (aq))) (TC (.int 1))) (aq))))))) (aT)) (aC (bF (mf (TB (aj rEq (ah 4) (TC (.int 1)))) (mf (TB (ao aU (af (ah 2) (aq)))) (TB (aj rLt (aj L3.rIx (ah 2) (TC (.int 0))) (aj pQ (TC (.int 10)) (TC (.int 8))))))) (aC (aY (aj ba (TC (.int 2)) (ao L3.aK (af (ah 0) (af (TC (.int 3)) (aq))))) (az 5)) (aL (bb (af (aj cm (aj L3.rIx (ah 2) (TC (.int 0))) (ah 5)) (af (aj cm (aj L3.rIx (ah 2) (TC (.int 1))) (ah 5)) (aq)))))) (aT)) (aL (aj L3.rIx (ah 3) (ao L3.aK (af (ah 0) (af (ao cE (af (ah 3) (aq))) (aq)))))))))))
theorem jB:∀ ds μ Q,bw ds μ Q→gA { nx:=fun _ μ'=>RT Q .non μ',rt:=RT Q } (ini 6 ds) μ:=by
  intro ds μ Q h
  unfold bw at h
  split at h
  case h_2=>exact h.elim
  rename_i b w xs d
  walk_at "ini"
  unfold gA
  walk_at "go"
  obtain ⟨⟨hB,⟨x0,x1⟩,hx,td⟩,k⟩:=h
  refine ⟨by decide,by decide,?_⟩
  refine aD hB (by decide) (by decide) fun k1 μ1 k10 k11 B1=>?_
  walk_at "go"
  refine kif (fun _=>?_) fun _=>?_
  · simp only[List.length_cons]
    refine aD B1.box (by omega) (by omega) fun k2 μ2 k20 k21 B2=>?_
    walk_at "go"
    obtain ⟨j,rfl⟩:=Int.eq_ofNat_of_zero_le k20
    have hj:j < xs.length:=by omega
    rw[show (1+(j:Int))=((j+1:Nat):Int) by omega]
    refine gH (by rw[br,List.getElem?_cons_succ,List.getElem?_eq_getElem hj]) ?_
    exact ⟨_,.refl _,k _ _ (hx _ (List.getElem_mem hj)) (B1.trans B2)⟩
  · have al:∀ x∈thL,Th x:=by
      unfold thL
      repeat' (first | exact gO | refine a8 ?_ ?_)
      all_goals first
        | exact .int (by unfold Nb;omega)
        | exact .pr (by unfold Nb;omega) (by unfold Nb;omega) fun _=>⟨⟨by omega,by omega⟩,by omega,by omega⟩
    have rest:∀ μ2,cn b μ μ2→fj aK [.obj b,.int (thL.length:Nat)] μ2 fun y μ2=>L3.rIx (.ls thL) y μ2 (RT Q):=fun μ2 B2=>by
      refine aD B2.box (by decide) (by decide) fun k3 μ3 k30 k31 B3=>?_
      obtain ⟨y,ey,ty⟩:=qJ al k30 k31
      exact gH ey ⟨_,.refl _,k _ _ ty (B2.trans B3)⟩
    refine kif (fun _=>?_) fun _=>rest μ1 B1
    refine ⟨td,?_⟩
    show kIf _ _ _
    refine cg (fun hf=>?_) fun _=>rest μ1 B1
    cases td with
    | int _=>cases hf
    | @pr p q h1 h2 hs=>
    obtain ⟨q0,g1⟩:0 < q∧Int.gcd p q=1:=by simpa[isF] using hf
    obtain ⟨⟨b1,b2⟩,b3,b4⟩:=hs g1
    walk_at "go"
    refine ⟨by walk_at "ok", ?_⟩
    refine kif (fun _=>?_) fun _=>rest μ1 B1
    refine aD B1.box (by decide) (by decide) fun k2 μ2 k20 k21 B2=>?_
    walk_at "go"
    have m1:MulOk p (2+k2):=.inl (.inr (by unfold S64;omega))
    have m2:MulOk q (2+k2):=.inl (.inr (by unfold S64;omega))
    refine ⟨m1,m2,_,.refl _,k _ _ ?_ (B1.trans B2)⟩
    have c1:=Int.mul_le_mul_of_nonneg_right b2 (show 0≤2+k2 by omega)
    have c2:=Int.mul_le_mul_of_nonneg_right b1 (show 0≤2+k2 by omega)
    have c3:=Int.mul_le_mul_of_nonneg_right b4 (show 0≤2+k2 by omega)
    have c4:=Int.mul_le_mul_of_nonneg_right b3 (show 0≤2+k2 by omega)
    refine .pr (by unfold Nb;omega) (by unfold Nb;omega) fun z=>?_
    rw[Int.gcd_mul_right,g1] at z
    omega
theorem wb {lo hi p q:Int}(h:FrB lo hi p q):wiF lo 1 hi 1 (.tup [.int p,.int q])=true:=cV.mpr ⟨⟨h.q0,h.g⟩,by have:=h.ge;omega,by have:=h.le;omega⟩
theorem yE {R:RN}(K:R.Ok):∃ xs,R.toD=.tup (.str R.wd.str::xs)∧Sp6 R.wd.str xs∧okR R.wd.str xs=true:=by
  have tw:=thb K.w (by decide) (by decide)
  have tt:=thb K.t (by decide) (by decide)
  have tu:=thb K.u.toFrB (by decide) (by decide)
  have tg:=thb K.g.toFrB (by decide) (by decide)
  have l0:=K.l0;have lh:=K.lh;have h1:=K.h1
  have wt:wiF 1 1 R.r R.s (.tup [.int R.p,.int R.q])=true:=cV.mpr ⟨⟨K.w.q0,K.w.g⟩,by have:=K.w.ge;omega,K.wt⟩
  have ww:=wb K.w
  have wtt:=wb K.t
  have wu:=wb K.u.toFrB
  have wg:=wb K.g.toFrB
  have x0:=K.u.ab
  have a0:=K.g.ab
  have gr:∀ {w},(R.wd=.eW→w=Str.ofString "swell")→(w=Str.ofString "swell" → R.wd=.eW)→grw w (fr R.p R.q) (fr R.x R.y) (fr R.r R.s)=true:=fun {w} h h'=>by
    unfold grw
    simp only[fr]
    rw[wtt,wt,Bool.true_and,Bool.true_and,ll (g5 w) wu]
    refine decide_eq_true ?_
    by_cases e:w=Str.ofString "swell"
    · have:=K.u1 (h' e)
      rw[e,iD];omega
    · rw[show lo2 w=0 by unfold lo2;rw[if_neg e]];omega
  have ab:abF (fr R.a R.b)=true:=by
    have:=mr wg
    simp only[fr]
    rw[this];exact decide_eq_true (by omega)
  have lt:R.a < R.b→mn (fr R.a R.b)=true:=fun h=>by
    simp only[fr,mn];exact decide_eq_true (by omega)
  cases hw:R.wd
  · exact ⟨_,by unfold RN.toD;rw[hw];rfl,.ck tw,ww⟩
  · refine ⟨_,by unfold RN.toD;rw[hw];rfl,.four (.inl rfl) tw tu tg tt,?_⟩
    simp only[okR,Wd.str,gr (w:=Str.ofString "step") (fun z=>by rw[hw] at z;cases z) (fun z=>by simp[bx] at z),ab,lt (K.d1 (.inl hw)),bI,if_false,Bool.true_and]
  · refine ⟨_,by unfold RN.toD;rw[hw];rfl,.four (.inr (.inl rfl)) tw tu tg tt,?_⟩
    simp only[okR,Wd.str,gr (w:=Str.ofString "swell") (fun z=>rfl) (fun z=>hw),ab,lt (K.d1 (.inr hw)),bu,if_false,Bool.true_and]
  · refine ⟨_,by unfold RN.toD;rw[hw];rfl,.four (.inr (.inr rfl)) tw tu tg tt,?_⟩
    simp only[okR,Wd.str,gr (w:=Str.ofString "heed") (fun z=>by rw[hw] at z;cases z) (fun z=>by simp[bP] at z),ab,if_true,Bool.true_and]
  · refine ⟨_,by unfold RN.toD;rw[hw];rfl,.calm tw tu (.int (by unfold Nb;omega)) (.int (by unfold Nb;omega)) tt,?_⟩
    simp only[okR,Wd.str,gr (w:=Str.ofString "calm") (fun z=>by rw[hw] at z;cases z) (fun z=>by simp[bO] at z),fv,wiI,Bool.true_and]
    rw[decide_eq_true (show (0:Int)≤R.h by omega),decide_eq_true h1,decide_eq_true l0,decide_eq_true lh];rfl
theorem Box.nu {μ:Mu}{b q:Addr}{o:MO}(h:Box μ b)(hq:μ q=none):Box (up μ q o) b∧b≠q:=by
  obtain ⟨g,s,c,e,r⟩:=h
  have ne:b≠q:=fun z=>by rw[z,hq] at e;cases e
  exact ⟨⟨g,s,c,by rw[dZ ne];exact e,r⟩,ne⟩
theorem Box.ou {μ:Mu}{b q:Addr}{o:MO}(h:Box μ b)(ne:b≠q):Box (up μ q o) b:=by
  obtain ⟨g,s,c,e,r⟩:=h
  exact ⟨g,s,c,by rw[dZ ne];exact e,r⟩
theorem y2 {x:D}{xs:List D}{j:Nat}{d:D}(h:xs[j]? = some d):atD (x::xs) (1+(j:Int))=some d:=by
  rw[show (1+(j:Int))=((j+1:Nat):Int) by omega,br];simpa using h
theorem zg {x:D}{xs:List D}{j:Nat}(h:j < xs.length):L2.ixN (x::xs).length (1+(j:Int))=some (j+1):=by
  rw[show (1+(j:Int))=((j+1:Nat):Int) by omega,iu,if_pos (by simpa using h)]
theorem Sp6.all {w:Str}{xs:List D}(h:Sp6 w xs):(∀ x∈xs,Th x)∧0 < xs.length∧xs.length≤5:=by
  cases h with
  | ck a=>exact ⟨a8 a gO,by simp,by simp⟩
  | four _ a u g t=>exact ⟨a8 a (a8 u (a8 g (a8 t gO))),by simp,by simp⟩
  | calm a u l h t=>exact ⟨a8 a (a8 u (a8 l (a8 h (a8 t gO)))),by simp,by simp⟩
theorem Sp6.set {w:Str}{xs:List D}(h:Sp6 w xs){j:Nat}{d:D}(hd:Th d)(hj:j < xs.length):Sp6 w (xs.set j d):=by
  cases h with
  | ck a=>
    match j,hj with
    | 0,_=>exact .ck hd
  | four hw a u g t=>
    match j,hj with
    | 0,_=>exact .four hw hd u g t
    | 1,_=>exact .four hw a hd g t
    | 2,_=>exact .four hw a u hd t
    | 3,_=>exact .four hw a u g hd
  | calm a u l h t=>
    match j,hj with
    | 0,_=>exact .calm hd u l h t
    | 1,_=>exact .calm a hd l h t
    | 2,_=>exact .calm a u hd h t
    | 3,_=>exact .calm a u l hd t
    | 4,_=>exact .calm a u l h hd
def bg:FSp:=fun ds μ Q=>match ds with
  | [.obj b,.tup (.str w::xs)]=>(Box μ b∧Sp6 w xs)∧∀ ys μ',Sp6 w ys→cn b μ μ'→Q (.tup (.str w::ys)) μ'
  | _=>False
theorem ib:∀ ds μ Q,bg ds μ Q→ds.length=2:=by
  unfold bg
  walk_at "ln"
def fB:STr:=aC (aY (ao fK (af (ah 1) (aq))) (az 2)) (aC (lS (c8 (aj ba (TC (.int 1)) (ao L3.aK (af (ah 0) (af (TC (.int 3)) (aq)))))) (az 3) (aC (aY (aj ba (TC (.int 1)) (ao L3.aK (af (ah 0) (af (aj fY (ao cE (af (ah 2) (aq))) (TC (.int 1))) (aq))))) (az 4)) (dO (ah 2) (ah 4) (ao bw (af (ah 0) (af (ah 1) (af (aj L3.rIx (ah 2) (ah 4)) (aq)))))))) (aL (ao fM (af (ah 2) (aq)))))
theorem iN:∀ ds μ Q,bg ds μ Q→fB { nx:=fun _ μ'=>RT Q .non μ',rt:=RT Q } (ini 5 ds) μ:=by
  intro ds μ Q h
  unfold bg at h
  split at h
  case h_2=>exact h.elim
  rename_i b w xs
  walk_at "ini"
  unfold fB
  walk_at "go"
  obtain ⟨⟨hB,X⟩,k⟩:=h
  intro q hq
  obtain ⟨B2,nq⟩:=Box.nu (o:=.lst (.str w::xs)) hB hq
  walk_at "go"
  refine aD B2 (by decide) (by decide) fun n μ2 n0 n1 B3=>?_
  walk_at "go"
  refine ⟨⟨by omega,by omega⟩,?_⟩
  have oth:∀ c,c≠b→c≠q→μ2 c=μ c:=fun c h1 h2=>by rw[B3.oth c h1,dZ h2]
  refine fT (fun r ρ μ'=>∃ (zs:List D) (v3 v4:Option D),ρ=[some (.obj b),some (.tup (.str w::xs)),some (.obj q),v3,v4]∧μ' q=some (.lst (.str w::zs))∧Sp6 w zs∧Box μ' b∧∀ c,c≠b→c≠q→μ' c=μ c) ?_ ?_ _ _ _ ⟨xs,_,_,rfl,by rw[B3.oth q (Ne.symm nq),bS],X,B3.box,oth⟩
  · rintro ρ μ' ⟨zs,v3,v4,rfl,e,Z,B,oth⟩
    walk_at "go"
    refine oz e ?_
    refine ⟨dn μ' q,fun a o h=>?_,k zs _ Z ⟨?_,fun c hc=>?_⟩⟩
    · unfold dn at h;split at h
      · cases h
      · exact h
    · obtain ⟨g,s,c,e,r⟩:=B
      exact ⟨g,s,c,by unfold dn;rw[if_neg nq];exact e,r⟩
    · unfold dn;split
      · rename_i z;subst z;exact hq.symm
      · rename_i z;exact oth c hc z
  · rintro d r ρ μ' N ⟨zs,v3,v4,rfl,e,Z,B,oth⟩ hN
    obtain ⟨_,z0,z5⟩:=Z.all
    obtain ⟨xa,x0,x5⟩:=X.all
    walk_at "go"
    refine oz e ?_
    walk_at "go"
    refine aD B (by simp;omega) (by simp;omega) fun k1 μ3 k10 k11 B3=>?_
    obtain ⟨j,rfl⟩:=Int.eq_ofNat_of_zero_le k10
    have hj:j < zs.length:=by simp at k11;omega
    have e3:μ3 q=some (.lst (.str w::zs)):=by rw[B3.oth q (Ne.symm nq)];exact e
    walk_at "go"
    refine oz e3 (gH (y2 (List.getElem?_eq_getElem hj)) ?_)
    refine ⟨⟨B3.box,⟨x0,by omega⟩,xa,Z.all.1 _ (List.getElem_mem hj)⟩,fun d3 μ4 K3 B4=>?_⟩
    have e4:μ4 q=some (.lst (.str w::zs)):=by rw[B4.oth q (Ne.symm nq)];exact e3
    walk_at "go"
    refine oz e4 ?_
    rw[zg hj]
    walk_at "go"
    refine hN _ _ ⟨zs.set j d3,_,_,rfl,by rw[bS];rfl,Z.set K3 hj,Box.ou B4.box nq,fun c h1 h2=>?_⟩
    rw[dZ h2,B4.oth c h1,B3.oth c h1,oth c h1 h2]
abbrev b7:FSp:=L3.b7
theorem ly:∀ ds μ Q,b7 ds μ Q→ds.length=1:=L3.ly
def qi:STr:=aC (lS (c8 (ao mI (af (TC (.int 1)) (af (ao mO (af (TC (.int 63)) (af (ao cE (af (ah 0) (aq))) (aq)))) (aq))))) (az 1) (aC (aY (ao L3.gR (af (ah 0) (af (ah 1) (aq)))) (az 2)) (aC (aY (aj L3.rIx (gW (af (TC (.str "still")) (af (TC (.str "step")) (af (TC (.str "swell")) (af (TC (.str "heed")) (af (TC (.str "calm")) (aq))))))) (ao L3.aK (af (ah 2) (af (TC (.int 5)) (aq))))) (az 3)) (aC (aY (ao L3.e7 (af (ah 2) (af (ah 3) (aq)))) (az 4)) (aC (bF (TOr (TB (aj (qQ true) (ao bG (af (ah 4) (aq))) (TC (.bl true)))) (cH (TB (ao bE (af (ah 4) (aq)))))) (aL (TC (.bl false))) (aT)) (aC (lS (c8 (TC (.int 3))) (az 5) (aC (aY (ao bg (af (ah 2) (af (ah 4) (aq)))) (az 6)) (aC (aY (ao bG (af (ah 6) (aq))) (az 7)) (bF (TOr (cH (TB (TUn (cT "bool") (ah 7)))) (TB (aj rNe (ah 7) (ao bE (af (ah 6) (aq)))))) (aL (TC (.bl false))) (aT))))) (bF (TB (aj (qQ true) (ao bG (af (ah 4) (aq))) (TC (.bl true)))) (aL (TC (.bl false))) (aT)))))))) (aL (TC (.bl true)))
theorem wq:∀ ds μ Q,b7 ds μ Q→qi { nx:=fun _ μ'=>RT Q .non μ',rt:=RT Q } (ini 8 ds) μ:=by
  intro ds μ Q h
  unfold b7 L3.b7 at h
  split at h
  case h_2=>exact h.elim
  obtain ⟨⟨ns,rfl,hn⟩,k⟩:=h
  walk_at "ini"
  unfold qi
  walk_at "go"
  rw[List.length_map]
  refine ⟨⟨by omega,by omega⟩,?_⟩
  refine fT (fun r ρ μ=>(∀ d∈r,∃ j:Int,d=.int j∧0≤j∧j≤1000)∧∃ v0 v1 v2 v3 v4 v5 v6,ρ=[some (.ls (ns.map .int)),v0,v1,v2,v3,v4,v5,v6]) ?_ ?_ _ _ _ ⟨fun d hd=>?_,_,_,_,_,_,_,_,rfl⟩
  · exact fun ρ μ _=>⟨μ,.refl _,k μ⟩
  · rintro d r ρ μ N ⟨hd,v0,v1,v2,v3,v4,v5,v6,rfl⟩ hN
    obtain ⟨j,rfl,j0,j1⟩:=hd d List.mem_cons_self
    have hr:∀ d∈r,∃ j:Int,d=.int j∧0≤j∧j≤1000:=fun d h=>hd d (List.mem_cons_of_mem _ h)
    walk_at "go"
    refine ⟨⟨ns,rfl,j0,j1⟩,fun b μ1 hp hB ho=>?_⟩
    walk_at "go"
    refine aD hB (by decide) (by decide) fun k1 μ2 k10 k11 B2=>?_
    have al:∀ d∈([.str "still", .str "step", .str "swell", .str "heed", .str "calm"]:List D),∃ w:Str,d=.str w∧w∈bZ:=a8 ⟨_,rfl,by simp[bZ]⟩ (a8 ⟨_,rfl,by simp[bZ]⟩ (a8 ⟨_,rfl,by simp[bZ]⟩ (a8 ⟨_,rfl,by simp[bZ]⟩ (a8 ⟨_,rfl,by simp[bZ]⟩ (gO)))))
    obtain ⟨_,ew,w,rfl,hw⟩:=qJ al k10 k11
    walk_at "go"
    rw[ew]
    walk_at "go"
    refine ⟨⟨B2.box,hw⟩,fun d μ3 hr3 B3=>?_⟩
    obtain ⟨R,K,rfl,ewd⟩:=hr3.rn
    obtain ⟨xs,ex,X,okx⟩:=yE K
    rw[ex]
    walk_at "go"
    refine ⟨X,?_⟩
    rw[okx]
    walk_at "go"
    refine ⟨X,?_⟩
    rw[okx]
    walk_at "go"
    refine fT (fun r ρ μ'=>Box μ' b∧∃ v5 v6 v7:Option D,ρ=[some (.ls (ns.map .int)),some (.int j),some (.obj b),some (.str w),some (.tup (.str R.wd.str::xs)),v5,v6,v7]) ?_ ?_ _ _ _ ⟨B3.box,_,_,_,rfl⟩
    · rintro ρ μ' ⟨_,v5,v6,v7,rfl⟩
      walk_at "go"
      refine ⟨X,?_⟩
      rw[okx]
      walk_at "go"
      exact hN _ _ ⟨hr,_,_,_,_,_,_,_,rfl⟩
    · rintro d r' ρ μ' N2 ⟨B4,v5,v6,v7,rfl⟩ hN2
      walk_at "go"
      refine ⟨⟨B4,X⟩,fun ys μ5 Y B5=>?_⟩
      walk_at "go"
      refine ⟨Y,?_⟩
      walk_at "go"
      refine ⟨Y,?_⟩
      walk_at "go"
      refine cg (fun z=>?_) fun _=>hN2 _ _ ⟨B5.box,_,_,_,rfl⟩
      simp at z
  · obtain ⟨j,rfl,j0,j1⟩:=n8 hd
    refine ⟨j,rfl,j0,?_⟩
    omega
theorem gY (ns:List Int)(h:ns.length≤63)(μ:Mu):b7 [.ls (ns.map .int)] μ (fun d _=>d=.bl true):=L3.gY ns h μ
end Kk
namespace Kk
open PySem L2 L3
theorem yc {α:Type}{us:List α}(h:us.length=1):∃ x0,us=[x0]:=match us,h with | [x0],_=>⟨x0,rfl⟩
theorem xr {α:Type}{us:List α}(h:us.length=2):∃ x0 x1,us=[x0,x1]:=match us,h with | [x0,x1],_=>⟨x0,x1,rfl⟩
theorem yQ {α:Type}{us:List α}(h:us.length=3):∃ x0 x1 x2,us=[x0,x1,x2]:=match us,h with | [x0,x1,x2],_=>⟨x0,x1,x2,rfl⟩
def top (i:Nat):Stmt:=PySem.Challenge.pw_swellways_k06_what_rules_are.main.body.getD i (.Pass ⟨0,0,0,0⟩)
abbrev jr:Stmt:=top 1
abbrev c5:Stmt:=top 2
abbrev fu:Stmt:=top 3
abbrev hH:Stmt:=top 4
abbrev fD:Stmt:=top 5
abbrev rA:Stmt:=top 6
abbrev mK:Stmt:=top 12
abbrev cp:Stmt:=top 13
abbrev cA:Stmt:=top 14
abbrev gL:Stmt:=top 15
abbrev eB:Stmt:=top 16
abbrev kn:Stmt:=top 17
abbrev jv:Stmt:=top 19
abbrev g9:Stmt:=top 20
abbrev jw:Stmt:=top 21
abbrev fo:Stmt:=top 22
abbrev ef:Stmt:=top 23
abbrev gy:Stmt:=top 24
abbrev cq:Stmt:=top 25
abbrev hE:Stmt:=top 26
abbrev gi:Stmt:=top 27
abbrev eA:Stmt:=top 28
abbrev eS:Stmt:=top 29
abbrev jg:Stmt:=top 30
abbrev gj:Stmt:=top 31
abbrev fq:Stmt:=top 32
abbrev uW:Stmt:=top 33
set_option genInjectivity false in
set_option genSizeOfSpec false in
structure Adr where
  iR:Addr
  nW:FuncData
  cY:Addr
  gu:FuncData
  fC:Addr
  jR:FuncData
  hI:Addr
  mi:FuncData
  fy:Addr
  jK:FuncData
  rT:Addr
  wo:FuncData
  mM:Addr
  rG:FuncData
  cj:Addr
  eu:FuncData
  cC:Addr
  fh:FuncData
  gs:Addr
  lg:FuncData
  eX:Addr
  jj:FuncData
  kb:Addr
  o6:FuncData
  iY:Addr
  mS:FuncData
  hC:Addr
  l3:FuncData
  iM:Addr
  mZ:FuncData
  fz:Addr
  jL:FuncData
  eE:Addr
  jk:FuncData
  gv:Addr
  kF:FuncData
  cu:Addr
  eR:FuncData
  hJ:Addr
  lP:FuncData
  f9:Addr
  lD:FuncData
  eV:Addr
  jo:FuncData
  ej:Addr
  i0:FuncData
  ju:Addr
  nc:FuncData
  gG:Addr
  kq:FuncData
  fG:Addr
  jG:FuncData
  rL:Addr
  uO:FuncData
structure Txt (Pm:Params) (K:PySem.W.Frag) (mg:Str→Option Value) (t:Adr):Prop where
  nS:mg "is_whole" = some (.ref t.iR)
  nj:Fun K "is_whole" "is_whole" jr t.iR t.nW
  gf:mg "is_whole_within" = some (.ref t.cY)
  gx:Fun K "is_whole_within" "is_whole_within" c5 t.cY t.gu
  jP:mg "is_tuple_of" = some (.ref t.fC)
  jU:Fun K "is_tuple_of" "is_tuple_of" fu t.fC t.jR
  mL:mg "common_of" = some (.ref t.hI)
  l4:Fun K "common_of" "common_of" hH t.hI t.mi
  jD:mg "is_fraction" = some (.ref t.fy)
  jI:Fun K "is_fraction" "is_fraction" fD t.fy t.jK
  xo:mg "less" = some (.ref t.rT)
  vf:Fun K "less" "less" rA t.rT t.wo
  qv:mg "top_of" = some (.ref t.mM)
  qD:Fun K "top_of" "top_of" mK t.mM t.rG
  eP:mg "is_fraction_within" = some (.ref t.cj)
  eh:Fun K "is_fraction_within" "is_fraction_within" cp t.cj t.eu
  ff:mg "is_fraction_above" = some (.ref t.cC)
  fi:Fun K "is_fraction_above" "is_fraction_above" cA t.cC t.fh
  kD:mg "is_growing" = some (.ref t.gs)
  kr:Fun K "is_growing" "is_growing" gL t.gs t.lg
  ja:mg "is_calm_span" = some (.ref t.eX)
  iG:Fun K "is_calm_span" "is_calm_span" eB t.eX t.jj
  pf:mg "is_rule" = some (.ref t.kb)
  ph:Fun K "is_rule" "is_rule" kn t.kb t.o6
  nI:mg "_law_pot" = some (.ref t.iY)
  mV:Fun K "_law_pot" "_law_pot" jv t.iY t.mS
  lO:mg "_law_take" = some (.ref t.hC)
  mm:Fun K "_law_take" "_law_take" g9 t.hC t.l3
  oi:mg "_law_low" = some (.ref t.iM)
  nF:Fun K "_law_low" "_law_low" jw t.iM t.mZ
  jW:mg "_law_bottom" = some (.ref t.fz)
  jN:Fun K "_law_bottom" "_law_bottom" fo t.fz t.jL
  je:mg "_law_between" = some (.ref t.eE)
  jb:Fun K "_law_between" "_law_between" ef t.eE t.jk
  kP:mg "_law_above" = some (.ref t.gv)
  kK:Fun K "_law_above" "_law_above" gy t.gv t.kF
  eC:mg "_law_less_than_one" = some (.ref t.cu)
  eo:Fun K "_law_less_than_one" "_law_less_than_one" cq t.cu t.eR
  mC:mg "_law_rule" = some (.ref t.hJ)
  lN:Fun K "_law_rule" "_law_rule" hE t.hJ t.lP
  k6:mg "_law_whole" = some (.ref t.f9)
  ky:Fun K "_law_whole" "_law_whole" gi t.f9 t.lD
  iO:mg "_law_is_part" = some (.ref t.eV)
  i1:Fun K "_law_is_part" "_law_is_part" eA t.eV t.jo
  jy:mg "_law_from_to" = some (.ref t.ej)
  jd:Fun K "_law_from_to" "_law_from_to" eS t.ej t.i0
  oa:mg "_law_due" = some (.ref t.ju)
  nZ:Fun K "_law_due" "_law_due" jg t.ju t.nc
  kX:mg "_law_thing" = some (.ref t.gG)
  ku:Fun K "_law_thing" "_law_thing" gj t.gG t.kq
  jT:mg "_law_spoilt" = some (.ref t.fG)
  jO:Fun K "_law_spoilt" "_law_spoilt" fq t.fG t.jG
  yl:mg "law" = some (.ref t.rL)
  oE:Fun K "law" "law" uW t.rL t.uO
  lT:mg "abs" = none
  nA:mg "bool" = none
  ke:mg "int" = none
  aO:mg "isinstance" = none
  dG:mg "len" = none
  vJ:mg "list" = none
  yD:mg "max" = none
  yu:mg "min" = none
  kY:mg "range" = none
  uP:mg "str" = none
  fX:mg "tuple" = none
  og:GV K mg "MOST" (.int 60)
  iJ:GV K mg "NOUGHT" (.tup [.int 0,.int 1])
  i3:GV K mg "ONE" (.tup [.int 1,.int 1])
  kd:GT Pm K mg "LENGTHS" [((Str.ofString "still"),(.int 2:D)),((Str.ofString "step"),(.int 5:D)),((Str.ofString "swell"),(.int 5:D)),((Str.ofString "heed"),(.int 5:D)),((Str.ofString "calm"),(.int 6:D))]
local macro_rules | `(tactic| walk_at "sc")=>`(tactic| exact ⟨rfl,rfl,rfl,by decide +kernel,rfl,by decide +kernel,by decide +kernel⟩)
local macro_rules | `(tactic| walk_at "b1")=>`(tactic| (rename_i hl;obtain ⟨x0,e⟩:=yc hl;subst e;rfl))
local macro_rules | `(tactic| walk_at "b2")=>`(tactic| (rename_i hl;obtain ⟨x0,x1,e⟩:=xr hl;subst e;rfl))
local macro_rules | `(tactic| walk_at "b3")=>`(tactic| (rename_i hl;obtain ⟨x0,x1,x2,e⟩:=yQ hl;subst e;rfl))
section
variable {P:Program} {w:World} {K:PySem.W.Frag} {mg:Str→Option Value} {base:Heap} {t:Adr}
theorem mQ:aE ["thing"] ["thing"] (au jr):=by walk_at "sc"
theorem fI (T:Txt w.params K mg t):aP P w K mg base 1 "is_whole" ["thing"] bj:=aJ T.nS T.nj mQ kH mE (fun _ _ _ _ _ _ _ _=>by walk_at "b1") fun _ _ _ _ _ _ hr hu=>
  ar (aw (b5 (cN rfl T.aO rfl (ae 0) rfl T.ke rfl) (b9 (kM (cN rfl T.aO rfl (ae 0) rfl T.nA rfl)))))
theorem fL:aE ["thing", "least", "most"] ["thing", "least", "most"] (au c5):=by walk_at "sc"
theorem cW (T:Txt w.params K mg t):aP P w K mg base 2 "is_whole_within" ["thing", "least", "most"] aM:=aJ T.gf T.gx fL fk fO (fun _ _ _ _ _ _ _ _=>by walk_at "b3") fun _ _ _ _ _ _ hr hu=>
  ar (aw (b5 (ak (fI T) hr rfl (aa (ae 0) (ag))) (b9 (r9 jq jq (bQ _) (bQ _) (ae 1) (ae 0) (ae 2)))))
theorem jA:aE ["thing", "many"] ["thing", "many"] (au fu):=by walk_at "sc"
theorem jJ (T:Txt w.params K mg t):aP P w K mg base 1 "is_tuple_of" ["thing", "many"] bc:=aJ T.jP T.jU jA ij iL (fun _ _ _ _ _ _ _ _=>by walk_at "b2") fun _ _ _ _ _ _ hr hu=>
  ar (aw (b5 (cN rfl T.aO rfl (ae 0) rfl T.fX rfl) (b9 (le_eq hu (aN aW bJ rfl T.dG rfl (aa (ae 0) (ag))) (ae 1)))))
theorem bH:aE ["one", "other", "divisor", "rest", "behind"] ["one", "other"] (au hH):=by walk_at "sc"
theorem l8 (T:Txt w.params K mg t):aP P w K mg base 1 "common_of" ["one", "other"] L3.bK:=aJ T.mL T.l4 bH L3.j2 L3.kz (fun _ _ _ _ _ _ _ _=>by walk_at "b2") fun _ _ _ _ _ _ hr hu=>
  ai (aA 2 bH.nd (aN eF gF rfl T.lT rfl (aa (ae 0) (ag)))) (ai (aA 3 bH.nd (aN eF gF rfl T.lT rfl (aa (ae 1) (ag)))) (ai (lI PassesOwn.never (lR (ae 3) (le_int)) (ai (aA 4 bH.nd (cK (ae 2) (ae 3))) (ai (aA 2 bH.nd (ae 3)) (ar (aA 3 bH.nd (ae 4)))))) (ar (aw (ae 2)))))
theorem iE:aE ["thing"] ["thing"] (au fD):=by walk_at "sc"
theorem jQ (T:Txt w.params K mg t):aP P w K mg base 2 "is_fraction" ["thing"] bh:=aJ T.jD T.jI iE hV iZ (fun _ _ _ _ _ _ _ _=>by walk_at "b1") fun _ _ _ _ _ _ hr hu=>
  ai (aZ (LW.lt (cQ (bt (bf (ak (jJ T) hr rfl (aa (ae 0) (aa (le_int) (ag)))))) (cQ (bt (bf (ak (fI T) hr rfl (aa (av (ae 0) (le_int)) (ag))))) (cz (bt (bf (ak (fI T) hr rfl (aa (av (ae 0) (le_int)) (ag))))))))) (ar (aw (bU))) (aG)) (ar (aw (b5 (uU (av (ae 0) (le_int)) (le_int)) (b9 (le_eq hu (ak (l8 T) hr rfl (aa (av (ae 0) (le_int)) (aa (av (ae 0) (le_int)) (ag)))) (le_int))))))
theorem uA:aE ["one", "other"] ["one", "other"] (au rA):=by walk_at "sc"
theorem k9 (T:Txt w.params K mg t):aP P w K mg base 1 "less" ["one", "other"] bB:=aJ T.xo T.vf uA mH oZ (fun _ _ _ _ _ _ _ _=>by walk_at "b2") fun _ _ _ _ _ _ hr hu=>
  ar (aw (xX (le_mul (av (ae 0) (le_int)) (av (ae 1) (le_int))) (le_mul (av (ae 1) (le_int)) (av (ae 0) (le_int)))))
theorem pz:aE ["rule"] ["rule"] (au mK):=by walk_at "sc"
theorem lL (T:Txt w.params K mg t):aP P w K mg base 1 "top_of" ["rule"] aX:=aJ T.qv T.qD pz iC j7 (fun _ _ _ _ _ _ _ _=>by walk_at "b1") fun _ _ _ _ _ _ hr hu=>
  ar (aw (av (ae 0) (dI (aN aW bJ rfl T.dG rfl (aa (ae 0) (ag))) (le_int))))
theorem d7:aE ["thing", "least", "most"] ["thing", "least", "most"] (au cp):=by walk_at "sc"
theorem a6 (T:Txt w.params K mg t):aP P w K mg base 3 "is_fraction_within" ["thing", "least", "most"] ax:=aJ T.eP T.eh d7 dW d9 (fun _ _ _ _ _ _ _ _=>by walk_at "b3") fun _ _ _ _ _ _ hr hu=>
  ar (aw (b5 (ak (jQ T) hr rfl (aa (ae 0) (ag))) (b5 (kM (ak (k9 T) hr rfl (aa (ae 0) (aa (ae 1) (ag))))) (b9 (kM (ak (k9 T) hr rfl (aa (ae 2) (aa (ae 0) (ag)))))))))
theorem eQ:aE ["thing", "bound", "most"] ["thing", "bound", "most"] (au cA):=by walk_at "sc"
theorem bN (T:Txt w.params K mg t):aP P w K mg base 4 "is_fraction_above" ["thing", "bound", "most"] ay:=aJ T.ff T.fi eQ d8 eY (fun _ _ _ _ _ _ _ _=>by walk_at "b3") fun _ _ _ _ _ _ hr hu=>
  ar (aw (b5 (ak (a6 T) hr rfl (aa (ae 0) (aa (ae 1) (aa (ae 2) (ag))))) (b9 (ak (k9 T) hr rfl (aa (ae 1) (aa (ae 0) (ag)))))))
theorem di:aE ["thing", "most", "least"] ["thing"] (au gL):=by walk_at "sc"
theorem lA (T:Txt w.params K mg t):aP P w K mg base 5 "is_growing" ["thing"] a9:=aJ T.kD T.kr di jh jH (fun _ _ _ _ _ _ _ _=>by walk_at "b1") fun _ _ _ _ _ _ hr hu=>
  ai (aA 1 di.nd (aH (aa (dF rfl T.og) (aa (le_int) (ag))))) (ai (aZ (bt (bf (ak (a6 T) hr rfl (aa (ak (lL T) hr rfl (aa (ae 0) (ag))) (aa (dF rfl T.i3) (aa (ae 1) (ag))))))) (ar (aw (bU))) (aG)) (ai (aA 2 di.nd (vC (lt_eq hu (av (ae 0) (le_int)) (le_str)) (dF rfl T.i3) (dF rfl T.iJ))) (ar (aw (b5 (ak (a6 T) hr rfl (aa (av (ae 0) (le_int)) (aa (dF rfl T.i3) (aa (ak (lL T) hr rfl (aa (ae 0) (ag))) (ag))))) (b9 (ak (bN T) hr rfl (aa (av (ae 0) (le_int)) (aa (ae 2) (aa (ae 1) (ag)))))))))))
theorem hX:aE ["low", "high"] ["low", "high"] (au eB):=by walk_at "sc"
theorem iK (T:Txt w.params K mg t):aP P w K mg base 3 "is_calm_span" ["low", "high"] a5:=aJ T.ja T.iG hX gN ie (fun _ _ _ _ _ _ _ _=>by walk_at "b2") fun _ _ _ _ _ _ hr hu=>
  ar (aw (b5 (ak (cW T) hr rfl (aa (ae 1) (aa (le_int) (aa (dF rfl T.og) (ag))))) (b9 (ak (cW T) hr rfl (aa (ae 0) (aa (le_int) (aa (ae 1) (ag))))))))
theorem iF:aE ["thing", "word"] ["thing"] (au kn):=by walk_at "sc"
theorem g6 (T:Txt w.params K mg t):aP P w K mg base 6 "is_rule" ["thing"] bG:=aJ T.pf T.ph iF mG n6 (fun _ _ _ _ _ _ _ _=>by walk_at "b1") fun _ _ _ _ _ _ hr hu=>
  ai (aZ (LW.lt (cQ (bt (bf (cN rfl T.aO rfl (ae 0) rfl T.fX rfl))) (cQ (lt_eq hu (aN aW bJ rfl T.dG rfl (aa (ae 0) (ag))) (le_int)) (cz (bt (bf (cN rfl T.aO rfl (av (ae 0) (le_int)) rfl T.uP rfl))))))) (ar (aw (bU))) (aG)) (ai (aA 1 iF.nd (av (ae 0) (le_int))) (ai (aZ (LW.lt (cQ (ma rfl T.kd (ae 1)) (cz (oV hu (aN aW bJ rfl T.dG rfl (aa (ae 0) (ag))) (qV rfl T.kd (ae 1)))))) (ar (aw (bU))) (aG)) (ai (aZ (lt_eq hu (ae 1) (le_str)) (ar (aw (ak (a6 T) hr rfl (aa (av (ae 0) (le_int)) (aa (dF rfl T.i3) (aa (aH (aa (dF rfl T.og) (aa (le_int) (ag)))) (ag))))))) (aG)) (ai (aZ (bt (bf (ak (lA T) hr rfl (aa (ae 0) (ag))))) (ar (aw (bU))) (aG)) (ai (aZ (lt_eq hu (ae 1) (le_str)) (ar (aw (ak (iK T) hr rfl (aa (av (ae 0) (le_int)) (aa (av (ae 0) (le_int)) (ag)))))) (aG)) (ai (aZ (lt_eq hu (ae 1) (le_str)) (ar (aw (ak (bN T) hr rfl (aa (av (ae 0) (le_int)) (aa (dF rfl T.iJ) (aa (dF rfl T.i3) (ag))))))) (aG)) (ar (aw (b5 (ak (bN T) hr rfl (aa (av (ae 0) (le_int)) (aa (dF rfl T.iJ) (aa (dF rfl T.i3) (ag))))) (b9 (ak (k9 T) hr rfl (aa (av (ae 0) (le_int)) (aa (dF rfl T.i3) (ag))))))))))))))
theorem cX:aE ["_law_script", "_law_k", "_law_cell", "_law_digits"] ["_law_script", "_law_k"] (au jv):=by walk_at "sc"
theorem ny (T:Txt w.params K mg t):aP P w K mg base 1 "_law_pot" ["_law_script", "_law_k"] L3.gR:=aJ T.nI T.mV cX L3.ts L3.vT (fun _ _ _ _ _ _ _ _=>by walk_at "b2") fun _ _ _ _ _ _ hr hu=>
  ai (aA 2 cX.nd (le_int)) (ai (aZ (oY (ae 1) (aN aW bJ rfl T.dG rfl (aa (ae 0) (ag)))) (ar (aA 2 cX.nd (av (ae 0) (ae 1)))) (aG)) (ai (aA 3 cX.nd (le_mul (aN eF gF rfl T.lT rfl (aa (ae 2) (ag))) (cJ eZ iy rfl T.ke rfl (aa (xy (aN eF gF rfl T.lT rfl (aa (ae 2) (ag))) (le_pow (le_int) (le_int))) (ag))))) (ar (aw (vU (aa (ae 3) (aa (cK (le_mul (aS (aS (cK (ae 2) (le_int)) (le_mul (le_int) (ae 1))) (le_int)) (le_int)) (le_int)) (aa (le_int) (ag)))))))))
theorem dH:aE ["_law_pot_here", "_law_many", "_law_found", "_law_once"] ["_law_pot_here", "_law_many"] (au g9):=by walk_at "sc"
theorem aB (T:Txt w.params K mg t):aP P w K mg base 1 "_law_take" ["_law_pot_here", "_law_many"] L3.aK:=aJ T.lO T.mm dH L3.rO L3.ug (fun _ _ _ _ _ _ _ _=>by walk_at "b2") fun _ _ _ _ _ _ hr hu=>
  ai (aZ (LW.lt (nM (lR (av (ae 0) (le_int)) (le_int)) (oM (lR (av (ae 0) (le_int)) (le_int))))) (ai (aA 2 dH.nd (cK (av (ae 0) (le_int)) (ae 1))) (ai (gE (ae 0) (le_int) (kZ (av (ae 0) (le_int)) (ae 1))) (ai (gE (ae 0) (le_int) (dI (av (ae 0) (le_int)) (le_int))) (ar (aw (ae 2)))))) (aG)) (ai (gE (ae 0) (le_int) (cK (le_mul (aS (av (ae 0) (le_int)) (le_int)) (le_int)) (le_int))) (ai (aA 3 dH.nd (cK (le_mul (av (ae 0) (le_int)) (aS (cK (av (ae 0) (le_int)) (le_int)) (le_int))) (le_int))) (ar (aw (cK (kZ (cK (le_mul (ae 3) (aS (cK (ae 3) (le_int)) (le_int))) (le_int)) (le_int)) (ae 1))))))
theorem c7:aE ["_law_top", "_law_bottom_here", "_law_one", "_law_other"] ["_law_top", "_law_bottom_here"] (au jw):=by walk_at "sc"
theorem dP (T:Txt w.params K mg t):aP P w K mg base 1 "_law_low" ["_law_top", "_law_bottom_here"] L3.cZ:=aJ T.oi T.nF c7 L3.qK L3.tZ (fun _ _ _ _ _ _ _ _=>by walk_at "b2") fun _ _ _ _ _ _ hr hu=>
  ai (aA 2 c7.nd (aN eF gF rfl T.lT rfl (aa (ae 0) (ag)))) (ai (aA 3 c7.nd (ae 1)) (ai (lI PassesOwn.never (lR (ae 3) (le_int)) (ar (rk 2 3 rfl c7.nd (aa (ae 3) (aa (cK (ae 2) (ae 3)) (ag)))))) (ar (aw (aH (aa (kZ (ae 0) (ae 2)) (aa (kZ (ae 1) (ae 2)) (ag))))))))
theorem i8:aE ["_law_pot_here"] ["_law_pot_here"] (au fo):=by walk_at "sc"
theorem dq (T:Txt w.params K mg t):aP P w K mg base 2 "_law_bottom" ["_law_pot_here"] L3.eK:=aJ T.jW T.jN i8 L3.sY L3.vd (fun _ _ _ _ _ _ _ _=>by walk_at "b1") fun _ _ _ _ _ _ hr hu=>
  ar (aw (av (eO (aa (le_int) (aa (le_int) (aa (aS (le_int) (ak (aB T) hr rfl (aa (ae 0) (aa (le_int) (ag))))) (aa (aS (le_int) (ak (aB T) hr rfl (aa (ae 0) (aa (le_pow (le_int) (le_int)) (ag))))) (ag)))))) (ak (aB T) hr rfl (aa (ae 0) (aa (le_int) (ag))))))
theorem bR:aE ["_law_pot_here", "_law_least", "_law_most", "_law_bottom_here", "_law_far", "_law_some"] ["_law_pot_here", "_law_least", "_law_most"] (au ef):=by walk_at "sc"
theorem eM (T:Txt w.params K mg t):aP P w K mg base 3 "_law_between" ["_law_pot_here", "_law_least", "_law_most"] L3.bT:=aJ T.je T.jb bR L3.mq L3.m8 (fun _ _ _ _ _ _ _ _=>by walk_at "b3") fun _ _ _ _ _ _ hr hu=>
  ai (aA 3 bR.nd (ak (dq T) hr rfl (aa (ae 0) (ag)))) (ai (aA 4 bR.nd (le_mul (ae 3) (dI (ae 2) (ae 1)))) (ai (aA 5 bR.nd (ak (aB T) hr rfl (aa (ae 0) (aa (aS (ae 4) (le_int)) (ag))))) (ar (aw (ak (dP T) hr rfl (aa (aS (le_mul (ae 3) (ae 1)) (av (eO (aa (le_int) (aa (ae 4) (aa (ae 5) (aa (ae 5) (ag)))))) (ak (aB T) hr rfl (aa (ae 0) (aa (le_int) (ag)))))) (aa (ae 3) (ag))))))))
theorem cb:aE ["_law_pot_here", "_law_least", "_law_most", "_law_bottom_here", "_law_far", "_law_some"] ["_law_pot_here", "_law_least", "_law_most"] (au gy):=by walk_at "sc"
theorem cI (T:Txt w.params K mg t):aP P w K mg base 3 "_law_above" ["_law_pot_here", "_law_least", "_law_most"] L3.bY:=aJ T.kP T.kK cb L3.pJ L3.qe (fun _ _ _ _ _ _ _ _=>by walk_at "b3") fun _ _ _ _ _ _ hr hu=>
  ai (aA 3 cb.nd (ak (dq T) hr rfl (aa (ae 0) (ag)))) (ai (aA 4 cb.nd (le_mul (ae 3) (dI (ae 2) (ae 1)))) (ai (aA 5 cb.nd (aS (le_int) (ak (aB T) hr rfl (aa (ae 0) (aa (ae 4) (ag)))))) (ar (aw (ak (dP T) hr rfl (aa (aS (le_mul (ae 3) (ae 1)) (av (eO (aa (le_int) (aa (ae 4) (aa (ae 5) (aa (ae 5) (ag)))))) (ak (aB T) hr rfl (aa (ae 0) (aa (le_int) (ag)))))) (aa (ae 3) (ag))))))))
theorem bA:aE ["_law_pot_here", "_law_bottom_here", "_law_some"] ["_law_pot_here"] (au cq):=by walk_at "sc"
theorem eN (T:Txt w.params K mg t):aP P w K mg base 3 "_law_less_than_one" ["_law_pot_here"] L3.gZ:=aJ T.eC T.eo bA L3.tY L3.vH (fun _ _ _ _ _ _ _ _=>by walk_at "b1") fun _ _ _ _ _ _ hr hu=>
  ai (aA 1 bA.nd (aS (le_int) (ak (dq T) hr rfl (aa (ae 0) (ag))))) (ai (aA 2 bA.nd (aS (le_int) (ak (aB T) hr rfl (aa (ae 0) (aa (dI (ae 1) (le_int)) (ag)))))) (ar (aw (ak (dP T) hr rfl (aa (av (eO (aa (le_int) (aa (dI (ae 1) (le_int)) (aa (ae 2) (aa (ae 2) (ag)))))) (ak (aB T) hr rfl (aa (ae 0) (aa (le_int) (ag))))) (aa (ae 1) (ag)))))))
theorem bo:aE ["_law_pot_here", "_law_word", "_law_one", "_law_other", "_law_low_here", "_law_high", "_law_up"] ["_law_pot_here", "_law_word"] (au hE):=by walk_at "sc"
theorem lV (T:Txt w.params K mg t):aP P w K mg base 4 "_law_rule" ["_law_pot_here", "_law_word"] L3.e7:=aJ T.mC T.lN bo L3.qq L3.tX (fun _ _ _ _ _ _ _ _=>by walk_at "b2") fun _ _ _ _ _ _ hr hu=>
  ai (aA 2 bo.nd (ak (eM T) hr rfl (aa (ae 0) (aa (le_int) (aa (le_int) (ag)))))) (ai (aA 3 bo.nd (ak (eM T) hr rfl (aa (ae 0) (aa (le_int) (aa (le_int) (ag)))))) (ai (aZ (lR (le_mul (av (ae 2) (le_int)) (av (ae 3) (le_int))) (le_mul (av (ae 3) (le_int)) (av (ae 2) (le_int)))) (ar (rk 2 3 rfl bo.nd (aa (ae 3) (aa (ae 2) (ag))))) (aG)) (ai (aZ (lt_eq hu (ae 1) (le_str)) (ar (aw (aH (aa (ae 1) (aa (ae 2) (ag)))))) (aG)) (ai (aZ (lt_eq hu (ae 1) (le_str)) (ai (aA 4 bo.nd (ak (aB T) hr rfl (aa (ae 0) (aa (le_int) (ag))))) (ai (aA 5 bo.nd (aS (ae 4) (ak (aB T) hr rfl (aa (ae 0) (aa (dI (le_int) (ae 4)) (ag)))))) (ar (aw (aH (aa (ae 1) (aa (ae 2) (aa (ak (cI T) hr rfl (aa (ae 0) (aa (le_int) (aa (le_int) (ag))))) (aa (ae 4) (aa (ae 5) (aa (ae 3) (ag)))))))))))) (aG)) (ai (aZ (lt_eq hu (ae 1) (le_str)) (ar (aw (aH (aa (ae 1) (aa (ae 2) (aa (ak (cI T) hr rfl (aa (ae 0) (aa (le_int) (aa (le_int) (ag))))) (aa (ak (cI T) hr rfl (aa (ae 0) (aa (le_int) (aa (le_int) (ag))))) (aa (ae 3) (ag))))))))) (aG)) (ai (aA 6 bo.nd (ak (cI T) hr rfl (aa (ae 0) (aa (cJ eZ iy rfl T.ke rfl (aa (le_eq hu (ae 1) (le_str)) (ag))) (aa (le_int) (ag)))))) (ar (aw (aH (aa (ae 1) (aa (ae 2) (aa (ae 6) (aa (ak (eN T) hr rfl (aa (ae 0) (ag))) (aa (ae 3) (ag)))))))))))))))
theorem jF:aE ["_law_thing_here"] ["_law_thing_here"] (au gi):=by walk_at "sc"
theorem cG (T:Txt w.params K mg t):aP P w K mg base 1 "_law_whole" ["_law_thing_here"] aR:=aJ T.k6 T.ky jF iU jZ (fun _ _ _ _ _ _ _ _=>by walk_at "b1") fun _ _ _ _ _ _ hr hu=>
  ar (aw (b5 (cN rfl T.aO rfl (ae 0) rfl T.ke rfl) (b9 (kM (cN rfl T.aO rfl (ae 0) rfl T.nA rfl)))))
theorem ik:aE ["_law_thing_here"] ["_law_thing_here"] (au eA):=by walk_at "sc"
theorem ee (T:Txt w.params K mg t):aP P w K mg base 2 "_law_is_part" ["_law_thing_here"] aU:=aJ T.iO T.i1 ik g4 iq (fun _ _ _ _ _ _ _ _=>by walk_at "b1") fun _ _ _ _ _ _ hr hu=>
  ai (aZ (LW.lt (cQ (bt (bf (cN rfl T.aO rfl (ae 0) rfl T.fX rfl))) (cz (oV hu (aN aW bJ rfl T.dG rfl (aa (ae 0) (ag))) (le_int))))) (ar (aw (bU))) (aG)) (ai (aZ (LW.lt (cQ (bt (bf (ak (cG T) hr rfl (aa (av (ae 0) (le_int)) (ag))))) (cz (bt (bf (ak (cG T) hr rfl (aa (av (ae 0) (le_int)) (ag)))))))) (ar (aw (bU))) (aG)) (ar (aw (b5 (uU (av (ae 0) (le_int)) (le_int)) (b9 (le_eq hu (ak (dP T) hr rfl (aa (av (ae 0) (le_int)) (aa (av (ae 0) (le_int)) (ag)))) (ae 0)))))))
theorem ia:aE ["_law_thing_here", "_law_least", "_law_most"] ["_law_thing_here", "_law_least", "_law_most"] (au eS):=by walk_at "sc"
theorem bX (T:Txt w.params K mg t):aP P w K mg base 3 "_law_from_to" ["_law_thing_here", "_law_least", "_law_most"] aI:=aJ T.jy T.jd ia gS ip (fun _ _ _ _ _ _ _ _=>by walk_at "b3") fun _ _ _ _ _ _ hr hu=>
  ai (aZ (bt (bf (ak (ee T) hr rfl (aa (ae 0) (ag))))) (ar (aw (bU))) (aG)) (ai (aZ (oY (le_mul (av (ae 0) (le_int)) (av (ae 1) (le_int))) (le_mul (av (ae 1) (le_int)) (av (ae 0) (le_int)))) (ar (aw (bU))) (aG)) (ar (aw (xQ (le_mul (av (ae 0) (le_int)) (av (ae 2) (le_int))) (le_mul (av (ae 2) (le_int)) (av (ae 0) (le_int)))))))
theorem eH:aE ["_law_thing_here", "_law_word", "_law_up"] ["_law_thing_here"] (au jg):=by walk_at "sc"
theorem iT (T:Txt w.params K mg t):aP P w K mg base 4 "_law_due" ["_law_thing_here"] bE:=aJ T.oa T.nZ eH lH mF (fun _ _ _ _ _ _ _ _=>by walk_at "b1") fun _ _ _ _ _ _ hr hu=>
  ai (aZ (LW.lt (cQ (bt (bf (cN rfl T.aO rfl (ae 0) rfl T.fX rfl))) (cQ (oY (aN aW bJ rfl T.dG rfl (aa (ae 0) (ag))) (le_int)) (cz (bt (bf (cN rfl T.aO rfl (av (ae 0) (le_int)) rfl T.uP rfl))))))) (ar (aw (bU))) (aG)) (ai (aA 1 eH.nd (av (ae 0) (le_int))) (ai (aZ (LW.lt (cQ (bt (bf (ak (bX T) hr rfl (aa (av (ae 0) (le_neg (le_int))) (aa (aH (aa (le_int) (aa (le_int) (ag)))) (aa (aH (aa (le_int) (aa (le_int) (ag)))) (ag))))))) (cz (bt (bf (ak (bX T) hr rfl (aa (av (ae 0) (le_int)) (aa (aH (aa (le_int) (aa (le_int) (ag)))) (aa (av (ae 0) (le_neg (le_int))) (ag)))))))))) (ar (aw (bU))) (aG)) (ai (aZ (lt_eq hu (ae 1) (le_str)) (ar (aw (le_eq hu (aN aW bJ rfl T.dG rfl (aa (ae 0) (ag))) (le_int)))) (aG)) (ai (aZ (LW.lt (cQ (oV hu (aN aW bJ rfl T.dG rfl (aa (ae 0) (ag))) (aS (le_int) (cJ eZ iy rfl T.ke rfl (aa (le_eq hu (ae 1) (le_str)) (ag))))) (cz (pj hu (ae 1) (aH (aa (le_str) (aa (le_str) (aa (le_str) (aa (le_str) (ag)))))))))) (ar (aw (bU))) (aG)) (ai (aA 2 eH.nd (av (ae 0) (le_int))) (ai (aZ (LW.lt (cQ (bt (bf (ak (bX T) hr rfl (aa (ae 2) (aa (aH (aa (le_int) (aa (le_int) (ag)))) (aa (aH (aa (le_int) (aa (le_int) (ag)))) (ag))))))) (cz (yg (av (ae 2) (le_int)) (le_mul (av (ae 2) (le_int)) (cJ eZ iy rfl T.ke rfl (aa (le_eq hu (ae 1) (le_str)) (ag)))))))) (ar (aw (bU))) (aG)) (ai (aZ (lt_eq hu (ae 1) (le_str)) (ar (aw (b5 (ak (cG T) hr rfl (aa (av (ae 0) (le_int)) (ag))) (b5 (ak (cG T) hr rfl (aa (av (ae 0) (le_int)) (ag))) (b9 (pN jq jq jq (bQ _) (bQ _) (bQ _) (le_int) (av (ae 0) (le_int)) (av (ae 0) (le_int)) (le_int))))))) (aG)) (ai (aZ (LW.lt (cQ (bt (bf (ak (bX T) hr rfl (aa (av (ae 0) (le_int)) (aa (aH (aa (le_int) (aa (le_int) (ag)))) (aa (aH (aa (le_int) (aa (le_int) (ag)))) (ag))))))) (cz (lt_eq hu (av (av (ae 0) (le_int)) (le_int)) (le_int))))) (ar (aw (bU))) (aG)) (ar (aw (yK (le_eq hu (ae 1) (le_str)) (b9 (yG hu (av (ae 0) (le_int)) (aH (aa (le_int) (aa (le_int) (ag)))))))))))))))))
theorem bz:aE ["_law_pot_here", "_law_rule_here", "_law_thing_here", "_law_some", "_law_way", "_law_fold"] ["_law_pot_here", "_law_rule_here", "_law_thing_here"] (au gj):=by walk_at "sc"
theorem lC (T:Txt w.params K mg t):aP P w K mg base 3 "_law_thing" ["_law_pot_here", "_law_rule_here", "_law_thing_here"] bw:=aJ T.kX T.ku bz iS jB (fun _ _ _ _ _ _ _ _=>by walk_at "b3") fun _ _ _ _ _ _ hr hu=>
  ai (aA 3 bz.nd (eO (aa (aH (aa (le_int) (aa (le_int) (ag)))) (aa (aH (aa (le_int) (aa (le_int) (ag)))) (aa (aH (aa (le_int) (aa (le_int) (ag)))) (aa (aH (aa (le_int) (aa (le_int) (ag)))) (aa (aH (aa (le_int) (aa (le_int) (ag)))) (aa (aH (aa (le_int) (aa (le_int) (ag)))) (aa (aH (aa (le_int) (aa (le_int) (ag)))) (ag)))))))))) (ai (aA 3 bz.nd (aS (ae 3) (eO (aa (aH (aa (le_int) (aa (le_int) (ag)))) (aa (aH (aa (le_neg (le_int)) (aa (le_int) (ag)))) (aa (aH (aa (le_int) (aa (le_int) (ag)))) (aa (aH (aa (le_int) (aa (le_int) (ag)))) (aa (aH (aa (le_int) (aa (le_int) (ag)))) (aa (aH (aa (le_int) (aa (le_int) (ag)))) (ag)))))))))) (ai (aA 3 bz.nd (aS (ae 3) (eO (aa (aH (aa (le_neg (le_int)) (aa (le_neg (le_int)) (ag)))) (aa (aH (aa (le_int) (aa (le_int) (ag)))) (aa (aH (aa (le_int) (aa (le_neg (le_int)) (ag)))) (aa (le_neg (le_int)) (aa (le_int) (aa (le_int) (aa (le_int) (aa (le_int) (aa (aH (aa (le_int) (aa (le_neg (le_int)) (ag)))) (aa (aH (aa (le_neg (le_int)) (aa (le_int) (ag)))) (aa (aH (aa (le_int) (aa (le_int) (ag)))) (ag))))))))))))))) (ai (aA 4 bz.nd (ak (aB T) hr rfl (aa (ae 0) (aa (le_int) (ag))))) (ai (aZ (lt_eq hu (ae 4) (le_int)) (ar (aw (av (ae 1) (aS (le_int) (ak (aB T) hr rfl (aa (ae 0) (aa (dI (aN aW bJ rfl T.dG rfl (aa (ae 1) (ag))) (le_int)) (ag)))))))) (aG)) (ai (aZ (LW.lt (nM (lt_eq hu (ae 4) (le_int)) (nM (bf (ak (ee T) hr rfl (aa (ae 2) (ag)))) (oM (oY (av (ae 2) (le_int)) (le_pow (le_int) (le_int))))))) (ai (aA 5 bz.nd (aS (le_int) (ak (aB T) hr rfl (aa (ae 0) (aa (le_int) (ag)))))) (ar (aw (aH (aa (le_mul (av (ae 2) (le_int)) (ae 5)) (aa (le_mul (av (ae 2) (le_int)) (ae 5)) (ag))))))) (aG)) (ar (aw (av (ae 3) (ak (aB T) hr rfl (aa (ae 0) (aa (aN aW bJ rfl T.dG rfl (aa (ae 3) (ag))) (ag))))))))))))
theorem bW:aE ["_law_pot_here", "_law_rule_here", "_law_things", "_law_turn", "_law_at"] ["_law_pot_here", "_law_rule_here"] (au fq):=by walk_at "sc"
theorem jX (T:Txt w.params K mg t):aP P w K mg base 4 "_law_spoilt" ["_law_pot_here", "_law_rule_here"] bg:=aJ T.jT T.jO bW ib iN (fun _ _ _ _ _ _ _ _=>by walk_at "b2") fun _ _ _ _ _ _ hr hu=>
  ai (aA 2 bW.nd (cJ kU pk rfl T.vJ rfl (aa (ae 1) (ag)))) (ai (mR PassesOwn.never rfl (gQ rfl T.kY (aS (le_int) (ak (aB T) hr rfl (aa (ae 0) (aa (le_int) (ag)))))) (k5 3 bW.nd) (ai (aA 4 bW.nd (aS (le_int) (ak (aB T) hr rfl (aa (ae 0) (aa (dI (aN aW bJ rfl T.dG rfl (aa (ae 2) (ag))) (le_int)) (ag)))))) (ar (gE (ae 2) (ae 4) (ak (lC T) hr rfl (aa (ae 0) (aa (ae 1) (aa (av (ae 2) (ae 4)) (ag))))))))) (ar (aw (cJ jE pB rfl T.fX rfl (aa (ae 2) (ag))))))
theorem eJ:aE ["_law_script", "_law_k", "_law_pot_here", "_law_word", "_law_rule_here", "_law_turn", "_law_spoilt_here", "_law_found"] ["_law_script"] (au uW):=by walk_at "sc"
theorem oE (T:Txt w.params K mg t):fN P w K mg base CX0 7 t.rL t.uO ["_law_script"] (lift K b7):=by
  refine uR (T:=qi) T.oE eJ ly (fun cdv A outer s H E hr=>?_) wq
  have hu:=hr.units
  exact ai (mR PassesOwn.never rfl (gQ rfl T.kY (aN (o8 rfl) qO rfl T.yD rfl (aa (le_int) (aa (aN (pI rfl) qA rfl T.yu rfl (aa (le_int) (aa (aN aW bJ rfl T.dG rfl (aa (ae 0) (ag))) (ag)))) (ag))))) (k5 1 eJ.nd) (ai (aA 2 eJ.nd (ak (ny T) hr rfl (aa (ae 0) (aa (ae 1) (ag))))) (ai (aA 3 eJ.nd (av (eO (aa (le_str) (aa (le_str) (aa (le_str) (aa (le_str) (aa (le_str) (ag))))))) (ak (aB T) hr rfl (aa (ae 2) (aa (le_int) (ag)))))) (ai (aA 4 eJ.nd (ak (lV T) hr rfl (aa (ae 2) (aa (ae 3) (ag))))) (ai (aZ (LW.lt (cQ (oQ (ak (g6 T) hr rfl (aa (ae 4) (ag))) (bU)) (cz (bt (bf (ak (iT T) hr rfl (aa (ae 4) (ag)))))))) (ar (aw (bU))) (aG)) (ai (mR PassesOwn.never rfl (gQ rfl T.kY (le_int)) (k5 5 eJ.nd) (ai (aA 6 eJ.nd (ak (jX T) hr rfl (aa (ae 2) (aa (ae 4) (ag))))) (ai (aA 7 eJ.nd (ak (g6 T) hr rfl (aa (ae 6) (ag)))) (ar (aZ (LW.lt (cQ (bt (bf (cN rfl T.aO rfl (ae 7) rfl T.nA rfl))) (cz (oV hu (ae 7) (ak (iT T) hr rfl (aa (ae 6) (ag))))))) (ar (aw (bU))) (aG)))))) (ar (aZ (oQ (ak (g6 T) hr rfl (aa (ae 4) (ag))) (bU)) (ar (aw (bU))) (aG))))))))) (ar (aw (bU)))
end
theorem all_mk {l:PySem.W.OpenLaw}{w:World}{K:PySem.W.Frag}{mg:Str→Option Value}{fa:Addr}{t:Adr}(hfa:mg "law" = some (.ref fa))(T:Txt w.params K mg t):∃ fd:FuncData,(∀ (s:Shared) (v:Value),BindsTo s fd ⟨[v],[]⟩ [("_law_script", v)])∧∀ base:Heap,K.In base→base.Ns mainGlobals mg→fN l.prog w K mg base CX0 7 fa fd ["_law_script"] (lift K b7):=by
  have e:=hfa.symm.trans T.yl
  injection e with e
  injection e with e
  subst e
  obtain ⟨oc,od,kV,dc,pm,an,cd,ct,sl,ed,_,_⟩:=T.oE.ex
  exact ⟨_,fun s v=>.of_eq (by rw[ed];rfl),fun base _ _=>oE T⟩
end Kk
namespace PySem.W.Fast
def tw3306468663122333:=0
def tw8218642247481720000:=0
def tw2405800200276943521:=0
def tw52805348292394945:=0
def tw17461782050219925890:=0
def tw11774409492301137410:=0
def tw17592743214056881730:=0
def tw10360112839145505924:=0
def tw3124319963605948868:=0
def tw9477721882255996836:=0
def tw9620780028062454181:=0
def tw16160488600049215941:=0
def tw4555732369993023397:=0
def tw9622761967138642694:=0
def tw12291702903264349671:=0
def tw901353468798243783:=0
def tw11301300713925447816:=0
def tw7693242131073134056:=0
def tw12456157694613384329:=0
def tw9582834342996596265:=0
def tw1704540816570497673:=0
def tw15339849623656805033:=0
def tw18468005614250186:=0
def tw5278135595105415754:=0
def tw8539376442117963211:=0
def tw17365220038020281323:=0
def tw12287857314486574668:=0
def tw3117901028483224268:=0
def tw13022103341533731724:=0
def tw4910236386143190924:=0
def tw7499909455716476397:=0
def tw14184700868850209773:=0
def tw8343423874397739054:=0
def tw5016065693096622254:=0
def tw8728903574606580078:=0
def tw6707298810752866766:=0
def tw12776542928343716686:=0
def tw498360164617673903:=0
def tw2211046543225911665:=0
def tw12097357094461939185:=0
def tw14651679186288773841:=0
def tw15813697553794678898:=0
def tw6820433971877635538:=0
def tw13821463318856080146:=0
def tw7677150529417816083:=0
def tw9239743723947223059:=0
def tw7719585054835501236:=0
def tw1253215353980343540:=0
def tw11759417582652533108:=0
def tw1493558551141339157:=0
def tw12324362415912982997:=0
def tw4331472010328858197:=0
def tw8745925114256727989:=0
def tw17366460399021050006:=0
def tw10380207767030060374:=0
def tw5126323809242377878:=0
def tw6842539864123891510:=0
def tw13994003784997035799:=0
def tw12552439563437602615:=0
def tw17787397157649191128:=0
def tw14556923528125884632:=0
def tw8217947950941032824:=0
def tw6639632363062597176:=0
def tw15767524833704409752:=0
def tw3627514817086913496:=0
def tw8918385103982741753:=0
def tw11096977873168582361:=0
def tw15161852521841068953:=0
def tw12307127774892856666:=0
def tw12235659253475336315:=0
def tw8655273876676017371:=0
def tw8401871192092877627:=0
def tw16365123520040376283:=0
def tw4081151248848750300:=0
def tw8837539047765774044:=0
def tw6397199385216905212:=0
def tw10749793588828644765:=0
def tw12559654250378425085:=0
def tw16217280685356721342:=0
def tw15102506304959188574:=0
def tw14747976164156072095:=0
def tw16273550546958322367:=0
def tw6819158782671042399:=0
def tw9702020001501382623:=0
end PySem.W.Fast
open PySem PySem.W PyProof.Rows L2 L3
set_option maxRecDepth 100000 in
set_option maxHeartbeats 0 in
theorem PySem.Challenge.cw_swellways_k06_what_rules_are_holds : PySem.Challenge.rw_swellways_k06_what_rules_are.Holds := by
  w_on;o_law;k_head;(case hw=>w_witness2)
  k_fill
  refine L3.yq (l:=PySem.Challenge.rw_swellways_k06_what_rules_are) (k:=7) (sp:=Kk.b7) (x := "_law_script") rfl rfl ⟨rfl,by decide,by decide⟩ (fun w h Y=>PySem.W.kIn_of Y) Kk.gY ?F
  case F=>
    intro w mg fa h KX G hmg
    refine' Kk.all_mk (t:=⟨_,_,_,_,_,_,_,_,_,_,_,_,_,_,_,_,_,_,_,_,_,_,_,_,_,_,_,_,_,_,_,_,_,_,_,_,_,_,_,_,_,_,_,_,_,_,_,_,_,_,_,_,_,_⟩) hmg ⟨mg_of KX G ?_,aQ ?_ ?_ ?_,mg_of KX G ?_,aQ ?_ ?_ ?_,mg_of KX G ?_,aQ ?_ ?_ ?_,mg_of KX G ?_,aQ ?_ ?_ ?_,mg_of KX G ?_,aQ ?_ ?_ ?_,mg_of KX G ?_,aQ ?_ ?_ ?_,mg_of KX G ?_,aQ ?_ ?_ ?_,mg_of KX G ?_,aQ ?_ ?_ ?_,mg_of KX G ?_,aQ ?_ ?_ ?_,mg_of KX G ?_,aQ ?_ ?_ ?_,mg_of KX G ?_,aQ ?_ ?_ ?_,mg_of KX G ?_,aQ ?_ ?_ ?_,mg_of KX G ?_,aQ ?_ ?_ ?_,mg_of KX G ?_,aQ ?_ ?_ ?_,mg_of KX G ?_,aQ ?_ ?_ ?_,mg_of KX G ?_,aQ ?_ ?_ ?_,mg_of KX G ?_,aQ ?_ ?_ ?_,mg_of KX G ?_,aQ ?_ ?_ ?_,mg_of KX G ?_,aQ ?_ ?_ ?_,mg_of KX G ?_,aQ ?_ ?_ ?_,mg_of KX G ?_,aQ ?_ ?_ ?_,mg_of KX G ?_,aQ ?_ ?_ ?_,mg_of KX G ?_,aQ ?_ ?_ ?_,mg_of KX G ?_,aQ ?_ ?_ ?_,mg_of KX G ?_,aQ ?_ ?_ ?_,mg_of KX G ?_,aQ ?_ ?_ ?_,mg_of KX G ?_,aQ ?_ ?_ ?_,mg_none_of KX G ?_,mg_none_of KX G ?_,mg_none_of KX G ?_,mg_none_of KX G ?_,mg_none_of KX G ?_,mg_none_of KX G ?_,mg_none_of KX G ?_,mg_none_of KX G ?_,mg_none_of KX G ?_,mg_none_of KX G ?_,mg_none_of KX G ?_,xl KX G ?_,qI (its:=#[.int 0 _,.int 1 _]) (xs:=[V.int 0,V.int 1]) KX G ?_ ?_ ?_ ?_ ?_ (show 2≤sizeLine by decide) (.cons ⟨_,rfl⟩ (.cons ⟨_,rfl⟩ (.nil))) (fun _=>.cons (.int _) (.cons (.int _) (.nil))),qI (its:=#[.int 1 _,.int 1 _]) (xs:=[V.int 1,V.int 1]) KX G ?_ ?_ ?_ ?_ ?_ (show 2≤sizeLine by decide) (.cons ⟨_,rfl⟩ (.cons ⟨_,rfl⟩ (.nil))) (fun _=>.cons (.int _) (.cons (.int _) (.nil))),yN KX G ?_ ?_ ?_ ?_ ?_⟩
    all_goals try first | k_is | rfl | exact ⟨⟨_,_,rfl,rfl⟩,⟨_,_,rfl,rfl⟩,⟨_,_,rfl,rfl⟩,⟨_,_,rfl,rfl⟩,⟨_,_,rfl,rfl⟩,True.intro⟩
