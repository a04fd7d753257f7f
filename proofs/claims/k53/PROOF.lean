import PyProof.Rows.All
import Wide.All
import OpenK.AllK
import Wide.FinOn
import Lean
import PyProof.EqAt
import PyProof.EqKinds
import PyProof.TupleCall
import PyProof.P3Eq
import PyProof.NeKinds
import PyProof.NeData
import PyProof.ZipIter
import PyProof.EnumMake
import PyProof.EnumFor
import OpenK.KTop
import PyProof.IsRules
import PyProof.AttrMissHeap
import PyProof.DictUpdate
import KE.KDictOf
import PyProof.Rows.SortStr
import PyProof.FString5
import PyProof.StrOps
import PyProof.ListRange
import PyProof.TupleOfGen
import PyProof.Rows.SumAny
import PyProof.Rows.CallKwBuiltin
import PyProof.StrLoop
import PyProof.StrWalks
import PyProof.StrOps2
import PyProof.SliceStr2
import PyProof.StrBlockI
import PyProof.StrLaws
import PyProof.StrBlock
import PyProof.StrBlockL
import PyProof.StrCalls2
import KE.KStrOpen
import KE.KDictList
import PyProof.DictValues
import PySem.Challenge.RW_swellways_k53_tables_judged
set_option Elab.async false
set_option linter.all false
set_option maxRecDepth 100000
set_option maxHeartbeats 4000000
namespace L2
open PySem PySem.Spec PyProof.Rows
abbrev Key:=Sum Int Str
def qk:Key→Value→Bool
  | .inl k,v=>Value.isInt k v
  | .inr x,v=>Value.isStrOf x v
def LP (w:World):Key→Int
  | .inl k=>hashInt k
  | .inr x=>hashStr w x
theorem bx:∀ {k:Key} {v:Value},qk k v=true→(∃ i t,k=Sum.inl i∧v=Value.int i t)∨(∃ x t,k=Sum.inr x∧v=Value.str x t)
  | .inl i,v,h=>by
    obtain ⟨t,e⟩:=Value.isInt_shape (k:=i) (v:=v) h
    exact .inl ⟨i,t,rfl,e⟩
  | .inr x,v,h=>by
    obtain ⟨t,e⟩:=Value.isStrOf_shape (x:=x) (v:=v) h
    exact .inr ⟨x,t,rfl,e⟩
theorem yZ (i:Int)(t:Tok):qk (.inl i) (.int i t)=true:=by simp[qk,Value.isInt]
theorem zh (x:Str)(t:Tok):qk (.inr x) (.str x t)=true:=by simp[qk,Value.isStrOf]
theorem Jj (a b:Int):decide ((Sum.inl a:Key)=Sum.inl b)=(a == b):=by
  by_cases e:a=b
  · subst e;simp
  · have h:¬ (Sum.inl a:Key)=Sum.inl b:=fun q=>e (Sum.inl.inj q)
    rw[decide_eq_false h]
    exact (beq_eq_false_iff_ne.mpr e).symm
theorem IB (a b:Str):decide ((Sum.inr a:Key)=Sum.inr b)=decide (a=b):=by
  by_cases e:a=b
  · subst e;simp
  · have h:¬ (Sum.inr a:Key)=Sum.inr b:=fun q=>e (Sum.inr.inj q)
    rw[decide_eq_false h,decide_eq_false e]
theorem HW (a:Int)(b:Str):decide ((Sum.inl a:Key)=Sum.inr b)=false:=decide_eq_false (fun q=>nomatch q)
theorem II (a:Str)(b:Int):decide ((Sum.inr a:Key)=Sum.inl b)=false:=decide_eq_false (fun q=>nomatch q)
def bM (prog:Program)(w:World):PySem.KeyKind prog w Key where
  is:=qk
  hash:=LP w
  inj:=fun v a b ha hb=>by
    rcases bx ha with ⟨i,t,rfl,rfl⟩ | ⟨x,t,rfl,rfl⟩
    · rcases bx hb with ⟨j,u,rfl,e⟩ | ⟨y,u,rfl,e⟩
      · injection e with e1 _;rw[e1]
      · exact nomatch e
    · rcases bx hb with ⟨j,u,rfl,e⟩ | ⟨y,u,rfl,e⟩
      · exact nomatch e
      · injection e with e1 _;rw[e1]
  byValue:=fun k v h=>by
    rcases bx h with ⟨i,t,rfl,rfl⟩ | ⟨x,t,rfl,rfl⟩ <;> rfl
  pyHash:=fun hv h=>by
    rcases bx hv with ⟨i,t,rfl,rfl⟩ | ⟨x,t,rfl,rfl⟩
    · exact wpAny_pyHash_int h
    · exact wpAny_pyHash_str h
  eqBool:=fun hu hv h=>by
    rcases bx hu with ⟨i,t,rfl,rfl⟩ | ⟨x,t,rfl,rfl⟩
    · rcases bx hv with ⟨j,u,rfl,rfl⟩ | ⟨y,u,rfl,rfl⟩
      · rw[Jj] at h;exact wpAny_eqBool_int h
      · rw[HW] at h;exact SeqAt.EqAt.int_str i t y u _ _ _ _ h
    · rcases bx hv with ⟨j,u,rfl,rfl⟩ | ⟨y,u,rfl,rfl⟩
      · rw[II] at h;exact SeqAt.EqAt.str_int x t j u _ _ _ _ h
      · rw[IB] at h;exact wpAny_eqBool_str h
  «strs»:=fun k x t v h=>by
    rcases bx h with ⟨i,u,rfl,e⟩ | ⟨y,u,rfl,e⟩
    · exact nomatch e
    · injection e with e1 _
      subst e1
      cases v<;>rfl
theorem uz (prog:Program)(w:World)(i:Int)(t:Tok):(bM prog w).is (.inl i) (.int i t)=true:=yZ i t
theorem uj (prog:Program)(w:World)(x:Str)(t:Tok):(bM prog w).is (.inr x) (.str x t)=true:=zh x t
end L2
namespace L2
open PySem PySem.Spec PyProof.Rows
inductive V where
  | non | bl (b:Bool) | int (i:Int) | str (x:Str) | byt (b:Array UInt8) | flt (b:UInt64) | ref (a:Addr) | ty (n:String)
  deriving DecidableEq
def RelV:V→Value→Prop
  | .non,u=>u=Value.none
  | .bl b,u=>u=Value.bool b
  | .int i,u=>∃ t,u=Value.int i t
  | .str x,u=>∃ t,u=Value.str x t
  | .byt b,u=>∃ t,u=Value.bytes b t
  | .flt b,u=>∃ t,u=Value.float b t
  | .ref a,u=>u=Value.ref a
  | .ty n,u=>u=Value.type n
abbrev Vals:List V→List Value→Prop:=Paired RelV
theorem Vals.length {xs:List V}{us:List Value}(r:Vals xs us):xs.length=us.length:=Paired.length r
theorem Vals.get:∀ {xs:List V} {us:List Value} {i:Nat} {x:V},Vals xs us→xs[i]? = some x→∃ u,us[i]? = some u∧RelV x u
  | _,_,_,_,.nil,e=>by simp at e
  | _,_,0,_,.cons r _,e=>by simp at e;subst e;exact ⟨_,rfl,r⟩
  | _,_,i+1,x,.cons _ t,e=>by
    obtain ⟨u,h1,h2⟩:=Vals.get (i:=i) (x:=x) t (by simpa using e)
    exact ⟨u,by simpa using h1,h2⟩
theorem Vals.set {x:V}{u:Value}(r:RelV x u):∀ {xs:List V} {us:List Value} (i:Nat),Vals xs us→Vals (xs.set i x) (us.set i u)
  | _,_,_,.nil=>.nil
  | _,_,0,.cons _ t=>.cons r t
  | _,_,i+1,.cons q t=>.cons q (Vals.set r i t)
theorem Vals.append:∀ {xs ys:List V} {us ws:List Value},Vals xs us→Vals ys ws→Vals (xs++ys) (us++ws)
  | _,_,_,_,.nil,s=>s
  | _,_,_,_,.cons r t,s=>.cons r (Vals.append t s)
theorem Vals.take:∀ {xs:List V} {us:List Value} (n:Nat),Vals xs us→Vals (xs.take n) (us.take n)
  | _,_,0,_=>.nil
  | _,_,_+1,.nil=>.nil
  | _,_,n+1,.cons r t=>.cons r (Vals.take n t)
theorem Vals.drop:∀ {xs:List V} {us:List Value} (n:Nat),Vals xs us→Vals (xs.drop n) (us.drop n)
  | _,_,0,r=>r
  | _,_,_+1,.nil=>.nil
  | _,_,n+1,.cons _ t=>Vals.drop n t
def lB:Option V→Option Value→Prop
  | some v,some u=>RelV v u
  | none,none=>True
  | _,_=>False
def KV {κ:Type}:List (κ×V)→List (κ×Value)→Prop:=Paired fun (p:κ×V) (q:κ×Value)=>p.1=q.1∧RelV p.2 q.2
def kV:Key→V
  | .inl i=>.int i
  | .inr x=>.str x
inductive HO where
    | lst (xs:List V)
    | tup (xs:List V)
    | dK (kvs:List (Key×V)) | dT (kvs:List (List Key×V))
    | set (S:Int→Bool) (n:Nat)
    | ins (C dx:Addr) (fs:List (Str×V))
    | own (x:Addr)
    | xd (fs:List (Str×V))
    | met (f x:Addr)
    | rng (lo hi:Int)
    | frz (o:Obj) (u:HO)
    | tbl (ps:Array Value)
    | ext (φ:Heap→Prop)
abbrev Hp:=Addr→Option HO
def upd (H:Hp)(a:Addr)(o:HO):Hp:=fun b=>if b=a then some o else H b
theorem aE {H:Hp}{a:Addr}{o:HO}:upd H a o a=some o:=by unfold upd;rw[if_pos rfl]
theorem aA {H:Hp}{a b:Addr}{o:HO}(h:b≠a):upd H a o b=H b:=by unfold upd;rw[if_neg h]
theorem rW {H:Hp}{a:Addr}{o u:HO}:upd (upd H a o) a u=upd H a u:=by
  funext b;unfold upd;split<;>rfl
theorem JA {H:Hp}{a b:Addr}{o u:HO}(h:H a=some o)(h':H b=some u)(d:o≠u):a≠b:=by
  intro e;subst e;rw[h] at h';exact d (Option.some.inj h')
theorem aQ {H:Hp}{a b:Addr}{o:HO}(h:H a=some o)(h':H b=none):a≠b:=by
  intro e;subst e;rw[h] at h';cases h'
def tO (h:Heap)(a:Addr)(items:Array Value):Prop:=∃ n,h.get? a=some { cls:=.type "tuple", data:=.seq items n }
theorem tO.tup {h:Heap}{a:Addr}{items:Array Value}(p:tO h a items):IsTup h a items:=by obtain ⟨n,e⟩:=p;exact ⟨_,e,rfl,n,rfl⟩
theorem tO.new (h:Heap)(items:Array Value):tO (h.push { cls:=.type "tuple", data:=.seq items }) h.objs.size items:=⟨_,Heap.get?_push_size _ rfl⟩
section
variable (P:Program) (w:World)
def cv (H:Hp)(h:Heap)(a:Addr):HO→Prop
  | .lst xs=>xs.length≤sizeLine∧∃ (its:List Value) (n:Nat),Vals xs its∧h.get? a=some { cls:=.type "list", data:=.seq its.toArray n }
  | .tup xs=>xs.length≤sizeLine∧∃ its:List Value,Vals xs its∧tO h a its.toArray
  | .dK kvs=>kvs.length≤sizeLine∧(a == sysModules)=false∧∃ vs,KV kvs vs∧h.DictOf (bM P w) a vs
  | .dT kvs=>kvs.length≤sizeLine∧(a == sysModules)=false∧∃ xs:List (List Key×Addr×Value),
      Paired (fun (p:List Key×V) (q:List Key×Addr×Value)=>p.1=q.1∧H q.2.1=some (.tup (p.1.map kV))∧RelV p.2 q.2.2) kvs xs∧
      ∃ o es ep,h.get? a=some o∧o.ExactDict∧o.data=.dict es ep∧es.toList=xs.map (entryOfKey (tupleKind (bM P w)))∧(xs.map (·.1)).Nodup
  | .set S n=>h.SetOf (intKind P w) a S n
  | .ins C dx fs=>H dx=some (.own a)∧fs.length≤1000∧dx≠a∧h.get? a=some (PySem.W.instObj C dx)∧
      ∃ mA,h.Ns1 dx mA∧(∀ f,lB (fs.lookup f) (mA f))∧PySem.Within mA (fs.map (·.1))
  | .own _=>∃ o,h.get? a=some o
  | .xd fs=>∃ mA,h.Ns1 a mA∧∀ f,lB (fs.lookup f) (mA f)
  | .rng lo hi=>∃ t u v,h.get? a=some { cls:=.type "range", data:=.fields #[.int lo t,.int hi u,.int 1 v] }
  | .frz o u=>h.get? a=some o∧cv H h a u
  | .tbl ps=>h.get? a=some { cls:=.none,data:=.fields ps }
  | .met f x=>h.get? a=some (PySem.W.methodObj (.ref f) (.ref x))
  | .ext φ=>φ h∧(∃ o,h.get? a=some o)∧∀ h1 h2:Heap,φ h1→(∀ o,h1.get? a=some o→h2.get? a=some o)→φ h2
def HOk (H:Hp)(h:Heap):Prop:=∀ a o,H a=some o→cv P w H h a o
end
section
variable {P:Program} {w:World} {H H':Hp} {h h':Heap} {a:Addr} {o:HO}
theorem cv.lt (x:cv P w H h a o):a < h.objs.size:=by
  cases o with
  | lst xs=>obtain ⟨_,_,_,_,e⟩:=x;exact Heap.lt_size e
  | tup xs=>obtain ⟨_,_,_,p⟩:=x;exact p.tup.lt
  | dK kvs=>obtain ⟨_,_,_,_,o,_,_,e,_⟩:=x;exact Heap.lt_size e
  | dT kvs=>obtain ⟨_,_,_,_,o,_,_,e,_⟩:=x;exact Heap.lt_size e
  | set S n=>obtain ⟨o,_,_,_,e,_⟩:=x;exact Heap.lt_size e
  | ins C dx fs=>obtain ⟨_,_,_,e,_⟩:=x;exact Heap.lt_size e
  | own y=>obtain ⟨_,e⟩:=x;exact Heap.lt_size e
  | xd fs=>obtain ⟨_,⟨_,_,_,e,_⟩,_⟩:=x;exact Heap.lt_size e
  | rng lo hi=>obtain ⟨_,_,_,e⟩:=x;exact Heap.lt_size e
  | frz ob u=>obtain ⟨e,_⟩:=x;exact Heap.lt_size e
  | tbl ps=>exact Heap.lt_size (show h.get? a=some _ from x)
  | met f y=>exact Heap.lt_size (show h.get? a=some _ from x)
  | ext φ=>obtain ⟨_,⟨_,e⟩,_⟩:=x;exact Heap.lt_size e
theorem Paired.IX {α β:Type}{F G:α→β→Prop}:∀ {l₁:List α} {l₂:List β},Paired F l₁ l₂→(∀ a b,F a b→G a b)→Paired G l₁ l₂
  | _,_,.nil,_=>.nil
  | _,_,.cons r t,f=>.cons (f _ _ r) (Paired.IX t f)
theorem cv.jk (x:cv P w H h a o)(k:∀ b u,(b=a∨H b=some (.own a))→h.get? b=some u→h'.get? b=some u)
    (ho:∀ b,H b=some (.own a)→H' b=some (.own a)) (ht:∀ b xs,H b=some (.tup xs)→H' b=some (.tup xs)):cv P w H' h' a o:=by
  induction o with
  | lst xs=>obtain ⟨z,its,n,r,e⟩:=x;exact ⟨z,its,n,r,k _ _ (.inl rfl) e⟩
  | tup xs=>obtain ⟨z,its,r,m,e⟩:=x;exact ⟨z,its,r,m,k _ _ (.inl rfl) e⟩
  | dK kvs=>obtain ⟨z,y,vs,r,ob,es,ep,e,c⟩:=x;exact ⟨z,y,vs,r,ob,es,ep,k _ _ (.inl rfl) e,c⟩
  | dT kvs=>
    obtain ⟨z,y,xs,r,ob,es,ep,e,c⟩:=x
    exact ⟨z,y,xs,Paired.IX r fun p q z=>⟨z.1,ht _ _ z.2.1,z.2.2⟩,ob,es,ep,k _ _ (.inl rfl) e,c⟩
  | set S n=>obtain ⟨ob,es,ep,t,e,c⟩:=x;exact ⟨ob,es,ep,t,k _ _ (.inl rfl) e,c⟩
  | ins C dx fs=>
    obtain ⟨d,z,ne,e,mA,⟨od,es,ep,e2,c⟩,r⟩:=x
    exact ⟨ho _ d,z,ne,k _ _ (.inl rfl) e,mA,⟨od,es,ep,k _ _ (.inr d) e2,c⟩,r⟩
  | own y=>obtain ⟨ob,e⟩:=x;exact ⟨ob,k _ _ (.inl rfl) e⟩
  | xd fs=>obtain ⟨mA,⟨od,es,ep,e,c⟩,r⟩:=x;exact ⟨mA,⟨od,es,ep,k _ _ (.inl rfl) e,c⟩,r⟩
  | rng lo hi=>obtain ⟨t,u,v,e⟩:=x;exact ⟨t,u,v,k _ _ (.inl rfl) e⟩
  | frz ob u ih=>obtain ⟨e,q⟩:=x;exact ⟨k _ _ (.inl rfl) e,ih q⟩
  | tbl ps=>
    have e:h.get? a=some { cls:=.none,data:=.fields ps }:=x
    show h'.get? a=some { cls:=.none,data:=.fields ps }
    exact k a _ (.inl rfl) e
  | met f y=>
    have e:h.get? a=some (PySem.W.methodObj (.ref f) (.ref y)):=x
    show h'.get? a=some (PySem.W.methodObj (.ref f) (.ref y))
    exact k a _ (.inl rfl) e
  | ext φ=>obtain ⟨p,⟨o,e⟩,st⟩:=x;exact ⟨st _ _ p fun o q=>k _ _ (.inl rfl) q,⟨o,k _ _ (.inl rfl) e⟩,st⟩
theorem HOk.lt (x:HOk P w H h)(e:H a=some o):a < h.objs.size:=(x a o e).lt
theorem HOk.fresh (x:HOk P w H h)(e:h.objs.size≤a):H a=none:=by
  cases q:H a with
  | none=>rfl
  | some u=>exact absurd (Nat.lt_of_lt_of_le (x.lt q) e) (Nat.lt_irrefl _)
theorem HOk.kept (x:HOk P w H h)(k:∀ b u,h.get? b=some u→h'.get? b=some u):HOk P w H h':=fun a o e=>
  (x a o e).jk (fun b u _ q=>k b u q) (fun _ q=>q) fun _ _ q=>q
theorem HOk.laid (x:HOk P w H h)(k:∀ b u,h.get? b=some u→h'.get? b=some u)(hp:h.objs.size≤a)(new:cv P w (upd H a o) h' a o):HOk P w (upd H a o) h':=fun b u e=>by
  have hn:=x.fresh hp
  by_cases hb:b=a
  · subst hb;rw[aE] at e;cases e;exact new
  · rw[aA hb] at e
    exact (x b u e).jk (fun c v _ q=>k c v q) (fun c q=>by rw[aA (aQ q hn)];exact q) fun c xs q=>by rw[aA (aQ q hn)];exact q
end
def Rd (H:Hp)(a:Addr)(u:HO):Prop:=H a=some u∨∃ o,H a=some (.frz o u)
theorem Rd.of {H:Hp}{a:Addr}{u:HO}(h:H a=some u):Rd H a u:=.inl h
theorem Rd.ok {P:Program}{w:World}{H:Hp}{h:Heap}{a:Addr}{u:HO}(r:Rd H a u)(x:HOk P w H h):cv P w H h a u:=by
  rcases r with r | ⟨o,r⟩
  · exact x a u r
  · obtain ⟨_,q⟩:=x a _ r
    exact q
def Mut:Option HO→Prop
  | some (.lst _)=>True
  | some (.dK _)=>True
  | some (.dT _)=>True
  | some (.set _ _)=>True
  | some (.ins _ _ _)=>True
  | some (.ext _)=>True
  | _=>False
section
variable {P:Program} {w:World} {H:Hp} {h h':Heap} {x e:Addr} {o':HO}
theorem HOk.write (ok:HOk P w H h)(mu:Mut (H x))(he:e=x∨H e=some (.own x))(k:∀ b u,b≠e→h.get? b=some u→h'.get? b=some u)(heo:∃ u,h'.get? e=some u)
    (new:cv P w (upd H x o') h' x o'):HOk P w (upd H x o') h':=fun b u q=>by
  have KW:∀ c y,H c=some (.own y)→c≠x:=fun c y r z=>by subst z;rw[r] at mu;exact mu
  have L6:∀ c xs,H c=some (.tup xs)→c≠x:=fun c xs r z=>by subst z;rw[r] at mu;exact mu
  by_cases hb:b=x
  · subst hb;rw[aE] at q;cases q;exact new
  · rw[aA hb] at q
    by_cases hbe:b=e
    · have q':H b=some (.own x):=by
        rcases he with z | z
        · exact absurd (hbe.trans z) hb
        · rw[hbe];exact z
      rw[q] at q';cases q'
      obtain ⟨v,hv⟩:=heo
      exact ⟨v,by rw[hbe];exact hv⟩
    · refine (ok b u q).jk (fun c v hc r=>k c v ?_ r) (fun c r=>by rw[aA (KW c b r)];exact r) fun c xs r=>by rw[aA (L6 c xs r)];exact r
      rcases hc with rfl | hc
      · exact hbe
      · rintro rfl
        rcases he with z | z
        · exact KW c b hc z
        · rw[hc] at z;cases z;exact hb rfl
end
structure Un (fs ex:List Addr) (H H':Hp) (h h':Heap):Prop where
  keep:∀ b o,h.get? b=some o→H b=none→b ∉ fs→b ∉ ex→h'.get? b=some o
  slot:∀ b o,h.get? b=some o→H b=none→b∈fs→b ∉ ex→∃ sl,h'.get? b=some { o with slots:=sl }
  free:∀ b o,h.get? b=some o→H b=none→b ∉ ex→H' b=none
  there:∀ b o,h.get? b=some o→b ∉ ex→∃ o',h'.get? b=some o'
  ji:∀ b xs,H b=some (.tup xs)→H' b=some (.tup xs)
  iG:∀ b o u,H b=some (.frz o u)→H' b=some (.frz o u)
  jh:∀ b ps,H b=some (.tbl ps)→∃ more,H' b=some (.tbl (ps++more))
section
variable {fs fs' ex ex':List Addr} {H H1 H2:Hp} {h h1 h2 h':Heap} {a x e:Addr} {o:HO}
theorem Un.any (u:Un fs ex H H1 h h1){b:Addr}{ob:Obj}(q:h.get? b=some ob)(n:H b=none)(hx:b ∉ ex):∃ sl,h1.get? b=some { ob with slots:=sl }:=by
  by_cases hb:b∈fs
  · exact u.slot b ob q n hb hx
  · exact ⟨ob.slots,u.keep b ob q n hb hx⟩
theorem Un.trans (a:Un fs ex H H1 h h1)(b:Un fs ex H1 H2 h1 h2):Un fs ex H H2 h h2 where
  keep:=fun c ob q n hc hx=>b.keep c ob (a.keep c ob q n hc hx) (a.free c ob q n hx) hc hx
  slot:=fun c ob q n hc hx=>by
    obtain ⟨sl,e1⟩:=a.slot c ob q n hc hx
    obtain ⟨sl',e2⟩:=b.slot c _ e1 (a.free c ob q n hx) hc hx
    exact ⟨sl',e2⟩
  free:=fun c ob q n hx=>by
    obtain ⟨o',e1⟩:=a.there c ob q hx
    exact b.free c o' e1 (a.free c ob q n hx) hx
  there:=fun c ob q hx=>by
    obtain ⟨o',e1⟩:=a.there c ob q hx
    exact b.there c o' e1 hx
  ji:=fun c xs q=>b.ji c xs (a.ji c xs q)
  iG:=fun c ob xs q=>b.iG c ob xs (a.iG c ob xs q)
  jh:=fun c ps q=>by
    obtain ⟨m1,e1⟩:=a.jh c ps q
    obtain ⟨m2,e2⟩:=b.jh c _ e1
    exact ⟨m1++m2,by rw[e2,Array.append_assoc]⟩
theorem Un.kept (k:∀ b u,h.get? b=some u→h'.get? b=some u):Un fs ex H H h h':=
  ⟨fun b ob q _ _ _=>k b ob q,fun b ob q _ _ _=>⟨ob.slots,k b ob q⟩,fun _ _ _ n _=>n,fun b ob q _=>⟨ob,k b ob q⟩,fun _ _ q=>q,fun _ _ _ q=>q,fun _ ps q=>⟨#[],by rw[q];simp⟩⟩
theorem Un.refl:Un fs ex H H h h:=Un.kept fun _ _ q=>q
theorem Un.laid (k:∀ b u,h.get? b=some u→h'.get? b=some u)(hp:h.objs.size≤a)(hn:H a=none):Un fs ex H (upd H a o) h h' where
  keep:=fun b u q _ _ _=>k b u q
  slot:=fun b u q _ _ _=>⟨u.slots,k b u q⟩
  free:=fun b u q n _=>by rw[aA (Nat.ne_of_lt (Nat.lt_of_lt_of_le (Heap.lt_size q) hp))];exact n
  there:=fun b u q _=>⟨u,k b u q⟩
  ji:=fun b xs q=>by rw[aA (aQ q hn)];exact q
  iG:=fun b u xs q=>by rw[aA (aQ q hn)];exact q
  jh:=fun b ps q=>⟨#[],by rw[aA (aQ q hn),q];simp⟩
theorem Un.write (mu:Mut (H x))(he:e=x∨H e=some (.own x))(k:∀ b u,b≠e→h.get? b=some u→h'.get? b=some u)(heo:∃ u,h'.get? e=some u):Un fs ex H (upd H x o) h h':=by
  have hx:∀ b,H b=none→b≠x:=fun b n z=>by subst z;rw[n] at mu;exact mu
  have hb:∀ b,H b=none→b≠e:=fun b n z=>by
    subst z
    rcases he with r | r
    · exact hx b n r
    · rw[n] at r;cases r
  have hm:∀ b u,H b=some u→¬ Mut (some u)→b≠x:=fun b u q nm z=>by subst z;rw[q] at mu;exact nm mu
  refine ⟨fun b u q n _ _=>k b u (hb b n) q,fun b u q n _ _=>⟨u.slots,k b u (hb b n) q⟩,fun b u q n _=>by rw[aA (hx b n)];exact n,fun b u q _=>?_,
    fun b xs q=>by rw[aA (hm b _ q fun z=>z)];exact q,fun b u xs q=>by rw[aA (hm b _ q fun z=>z)];exact q,fun b ps q=>⟨#[],by rw[aA (hm b _ q fun z=>z),q];simp⟩⟩
  by_cases hbe:b=e
  · subst hbe;exact heo
  · exact ⟨u,k b u hbe q⟩
theorem Un.mono (u:Un fs ex H H1 h h1)(hs:∀ b∈fs,b∈fs')(hx:∀ b∈ex,b∈ex'):Un fs' ex' H H1 h h1:=
  ⟨fun b ob q n hb he=>u.keep b ob q n (fun z=>hb (hs b z)) fun z=>he (hx b z),fun _ _ q n _ he=>u.any q n fun z=>he (hx _ z),fun b ob q n he=>u.free b ob q n fun z=>he (hx b z),fun b ob q he=>u.there b ob q fun z=>he (hx b z),u.ji,u.iG,u.jh⟩
end
def trk (h:Heap)(H:Hp):List Addr:=(List.range h.objs.size).filter fun a=>(H a).isSome
def rS (h:Heap)(H:Hp):Heap:=PySem.W.hideAll h (trk h H)
theorem yQ (h:Heap)(H:Hp):(rS h H).objs.size=h.objs.size:=PySem.W.hideAll_size _ _
theorem BI {h:Heap}{H:Hp}{b:Addr}{o:Obj}(e:h.get? b=some o)(n:H b=none):(rS h H).get? b=some o:=
  PySem.W.hideAll_get _ e fun hm=>by
    have q:(H b).isSome=true:=(List.mem_filter.mp hm).2
    rw[n] at q;simp at q
theorem Fw {h:Heap}{H:Hp}{b:Addr}{o:Obj}(e:(rS h H).get? b=some o):h.get? b=some o∧H b=none:=by
  have e':h.get? b=some o:=PySem.W.of_hideAll (trk h H) e
  refine ⟨e',?_⟩
  cases q:H b with
  | none=>rfl
  | some x=>
    have hm:b∈trk h H:=List.mem_filter.mpr ⟨List.mem_range.mpr (Heap.lt_size e'),by simp[q]⟩
    have z:(rS h H).get? b=none:=PySem.W.hideAll_none (trk h H) hm
    rw[z] at e;cases e
def D8 (g h:Heap)(L:Addr):List (Addr×Obj):=(List.range h.objs.size).filterMap fun a=>if a=L∨(g.get? a).isSome=true then none else (h.get? a).map fun o=>(a,o)
def rest (g h:Heap)(L d:Addr):List (Addr×Obj):=(D8 g h L).filter fun p=>decide (p.1≠d)
end L2
namespace L2
open PySem PySem.Spec PyProof.Rows
structure Mod (K:PySem.W.Frag) (mg:Str→Option Value) (base:Heap):Prop where
  kin:K.In base
  glob:base.Ns mainGlobals mg
  blt:∃ mb,base.Ns builtinsNs mb∧∀ x:Str,x ≠ "__name__" → mb x=bootBuiltins x
  nolimit:base.NoLimit
structure Cx where
  prog:Program
  w:World
  K:PySem.W.Frag
  mg:Str→Option Value
  base:Heap
  A:Around
  N:List Str
  s₀:Shared
  H₀:Hp
  env:Env
  outer:List Env
  stack:List Env
  ex:List Addr
  fn:Str→Bool
  calm:Bool
  pn:List (Addr×Obj)
  xe:Value→Shared→Prop
def frs (l:List Env):List Addr:=l.filterMap (·.frame)
abbrev Cx.fs (X:Cx):List Addr:=frs X.outer
def Vis (sc:Scope)(x:Str):Prop:=sc.names.lookup x=some .local∨sc.names.lookup x=some .cell∨sc.names.lookup x=some .free
def Loc (sc:Scope)(x:Str):Prop:=sc.names.lookup x=some .local∨sc.names.lookup x=some .cell
def Look (env:Env)(h:Heap)(m:Str→Option Value)(x:Str)(u:Value):Prop:=
  (env.kindOf x=some .local∧m x=some u)∨((env.kindOf x=some .cell∨env.kindOf x=some .free)∧∃ c,env.cells.lookup x=some c∧h.IsCell c (some u))
structure Cx.Ok (X:Cx):Prop where
  mod:Mod X.K X.mg X.base
  kind:X.env.scope.kind=.function
  glob:X.env.globals=mainGlobals
  blt:X.env.builtins=builtinsNs
  above:X.s₀.heap.objs.size≤X.env.locals
  inj:∀ x y c,X.env.cells.lookup x=some c→X.env.cells.lookup y=some c→x=y
  has:∀ x,(X.env.kindOf x=some .cell∨X.env.kindOf x=some .free)→∃ c,X.env.cells.lookup x=some c
  cab:∀ x c,X.fn x=true→X.env.cells.lookup x=some c→X.s₀.heap.objs.size≤c
  hd:X.calm=true→X.A.handled=none
  frames:X.A.frames=some X.stack
  stk:X.stack=X.outer∨(X.stack=X.env::X.outer∧X.env.frame=some X.env.locals)
  exf:∀ b∈X.ex,b≠X.env.locals∧∀ x c,X.env.cells.lookup x=some c→c≠b
  bs:∀ b o,X.base.get? b=some o→X.s₀.heap.get? b=some o∧X.H₀ b=none
  bsz:X.base.objs.size≤X.s₀.heap.objs.size
  vL:∀ b o,X.base.get? b=some o→b ∉ X.ex
  vJ:∀ b∈X.ex,b ∉ X.fs
  kT:X.s₀.heap.FunFrames X.base X.outer
  frf:∀ b∈X.fs,X.H₀ b=none
structure Inv (X:Cx) (pins:List (Addr×Obj)) (σ:List (Option V)) (H:Hp) (s:Shared):Prop where
  ok:X.Ok
  os:s.os=X.s₀.os
  bare:AllBare s.gens
  base:Un X.fs X.ex X.H₀ H X.s₀.heap s.heap
  loc:∃ m,s.heap.Ns X.env.locals m∧∀ (i:Nat) (x:Str) (v:V),X.N[i]? = some x→σ[i]? = some (some v)→Vis X.env.scope x→∃ u,RelV v u∧Look X.env s.heap m x u
  cell:∀ x c,X.env.cells.lookup x=some c→∃ v,s.heap.IsCell c v
  free:H X.env.locals=none
  e6:∀ x c,X.env.cells.lookup x=some c→H c=none
  pin:∀ p∈X.pn++pins,s.heap.get? p.1=some p.2∧H p.1=none∧p.1≠X.env.locals∧p.1 ∉ X.fs∧∀ v,p.2.data≠.cell v
  hok:HOk X.prog X.w H s.heap
  len:σ.length=X.N.length
section
variable {X:Cx} {pins:List (Addr×Obj)} {σ:List (Option V)} {H H':Hp} {s:Shared} {h':Heap}
theorem Cx.Ok.LC (ok:X.Ok){b:Addr}{o:Obj}(e:X.base.get? b=some o):b ∉ X.fs:=fun hb=>by
  have:=(ok.kT.mem hb).1
  rw[e] at this;cases this
theorem Inv.bs (I:Inv X pins σ H s):∀ b o,X.base.get? b=some o→s.heap.get? b=some o∧H b=none:=fun b o e=>
  ⟨I.base.keep b o (I.ok.bs b o e).1 (I.ok.bs b o e).2 (I.ok.LC e) (I.ok.vL b o e),I.base.free b o (I.ok.bs b o e).1 (I.ok.bs b o e).2 (I.ok.vL b o e)⟩
theorem Inv.bk (I:Inv X pins σ H s):∀ b o,X.base.get? b=some o→s.heap.get? b=some o:=fun b o e=>(I.bs b o e).1
theorem Inv.mod (I:Inv X pins σ H s):Mod X.K X.mg X.base:=I.ok.mod
theorem Inv.kIn (I:Inv X pins σ H s):X.K.In s.heap:=I.ok.mod.kin.keeps I.bk
theorem Inv.nolimit (I:Inv X pins σ H s):s.heap.NoLimit:=I.ok.mod.nolimit.keeps I.bk
theorem Inv.fr (I:Inv X pins σ H s):∃ m,Fr X.base X.env.locals s.heap m:=
  let ⟨m,hn,_⟩:=I.loc
  ⟨m,hn,I.bk,Nat.le_trans I.ok.bsz I.ok.above⟩
theorem Inv.lt (I:Inv X pins σ H s):X.env.locals < s.heap.objs.size:=let ⟨_,hn,_⟩:=I.loc;hn.lt
theorem Inv.sz (I:Inv X pins σ H s):X.s₀.heap.objs.size≤s.heap.objs.size:=Nat.le_trans I.ok.above (Nat.le_of_lt I.lt)
theorem Inv.Lz (I:Inv X pins σ H s){a:Addr}(h:s.heap.objs.size≤a):a ∉ X.fs:=fun hb=>by
  obtain ⟨_,o,ho,_⟩:=I.ok.kT.mem hb
  exact absurd (Nat.lt_of_lt_of_le (Heap.lt_size ho) (Nat.le_trans I.sz h)) (Nat.lt_irrefl _)
theorem Inv.cne (I:Inv X pins σ H s):∀ x c,X.env.cells.lookup x=some c→c≠X.env.locals:=fun x c e z=>by
  obtain ⟨v,o,ho,hd⟩:=I.cell x c e
  obtain ⟨m,⟨o',es,ep,ho',hd',_⟩,_⟩:=I.loc
  rw[z,ho'] at ho;cases ho;rw[hd'] at hd;cases hd
theorem Inv.kT (I:Inv X pins σ H s):s.heap.FunFrames X.base X.outer:=by
  have all:∀ (l:List Env),(∀ b∈frs l,b∈X.fs)→X.s₀.heap.FunFrames X.base l→s.heap.FunFrames X.base l:=by
    intro l
    induction l with
    | nil=>intro _ _;trivial
    | cons env r ih=>
      intro hs hl
      obtain ⟨hk,⟨L,o,hf,hn,ho,hd⟩,hr⟩:=hl
      have hL:L∈X.fs:=hs L (by unfold frs;rw[List.filterMap_cons,hf];exact List.mem_cons_self)
      obtain ⟨sl,e⟩:=I.base.slot L o ho (I.ok.frf L hL) hL fun z=>I.ok.vJ L z hL
      exact ⟨hk,⟨L,_,hf,hn,e,hd⟩,ih (fun b hb=>hs b (by unfold frs;rw[List.filterMap_cons,hf];exact List.mem_cons_of_mem _ hb)) hr⟩
  exact all X.outer (fun _ hb=>hb) I.ok.kT
theorem Inv.stack (I:Inv X pins σ H s):s.heap.FunFrames X.base X.stack:=by
  rcases I.ok.stk with e | ⟨e,hf⟩
  · rw[e];exact I.kT
  · rw[e]
    obtain ⟨m,hn,_⟩:=I.loc
    refine .cons (by rw[I.ok.kind];decide) hf hn ?_ I.kT
    exact Heap.get?_none_of_le (Nat.le_trans I.ok.bsz I.ok.above)
theorem Inv.nS (I:Inv X pins σ H s):∀ b∈frs X.stack,b∈X.env.locals::X.fs:=fun b hb=>by
  rcases I.ok.stk with e | ⟨e,hf⟩
  · rw[e] at hb;exact List.mem_cons_of_mem _ hb
  · rw[e] at hb
    unfold frs at hb
    rw[List.filterMap_cons,hf] at hb
    exact hb
theorem Inv.lH (I:Inv X pins σ H s):∀ b∈frs X.stack,H b=none:=fun b hb=>by
  rcases List.mem_cons.mp (I.nS b hb) with e | hb
  · rw[e];exact I.free
  · obtain ⟨_,o,ho,_⟩:=I.ok.kT.mem hb
    exact I.base.free b o ho (I.ok.frf b hb) fun z=>I.ok.vJ b z hb
theorem Inv.step {g':Array GenState}{t':Nat}{d':Drawn}{ch:List Addr}(I:Inv X pins σ H s)
    (hch:∀ b∈ch,(b∈X.ex∨X.s₀.heap.objs.size≤b)∧b≠X.env.locals∧(∀ x c,X.env.cells.lookup x=some c→c≠b)∧∀ p∈X.pn++pins,p.1≠b)
    (keep:∀ b o,b≠X.env.locals→b ∉ X.fs→b ∉ ch→s.heap.get? b=some o→H b=none→h'.get? b=some o)
    (slot:∀ b o,b≠X.env.locals→b∈X.fs→b ∉ ch→s.heap.get? b=some o→H b=none→∃ sl,h'.get? b=some { o with slots:=sl }) (free:∀ b o,b ∉ ch→s.heap.get? b=some o→H b=none→H' b=none)
    (there:∀ b o,b ∉ ch→s.heap.get? b=some o→∃ o',h'.get? b=some o')
    (ji:∀ b xs,H b=some (.tup xs)→H' b=some (.tup xs)) (iG:∀ b o u,H b=some (.frz o u)→H' b=some (.frz o u)) (jh:∀ b ps,H b=some (.tbl ps)→∃ more,H' b=some (.tbl (ps++more)))
    (ns:∀ m,s.heap.Ns X.env.locals m→h'.Ns X.env.locals m) (hok:HOk X.prog X.w H' h') (hg:AllBare g') :
    Inv X pins σ H' { s with heap:=h',gens:=g',drawn:=d',toks:=t' }:=by
  have neL:∀ b o,X.s₀.heap.get? b=some o→b≠X.env.locals:=fun b o e=>Nat.ne_of_lt (Nat.lt_of_lt_of_le (Heap.lt_size e) I.ok.above)
  have neC:∀ b o,X.s₀.heap.get? b=some o→b ∉ X.ex→b ∉ ch:=fun b o e hx hb=>by
    rcases (hch b hb).1 with z | z
    · exact hx z
    · exact absurd (Nat.lt_of_lt_of_le (Heap.lt_size e) z) (Nat.lt_irrefl _)
  have cellK:∀ x c,X.env.cells.lookup x=some c→∀ v,s.heap.IsCell c v→h'.IsCell c v:=fun x c e v ⟨o,ho,hd⟩=>by
    have nch:c ∉ ch:=fun z=>(hch c z).2.2.1 x c e rfl
    by_cases hc:c∈X.fs
    · obtain ⟨sl,q⟩:=slot c o (I.cne x c e) hc nch ho (I.e6 x c e)
      exact ⟨_,q,hd⟩
    · exact ⟨o,keep c o (I.cne x c e) hc nch ho (I.e6 x c e),hd⟩
  refine ⟨I.ok,I.os,hg,⟨fun b o e n hb hx=>?_,fun b o e n hb hx=>?_,fun b o e n hx=>?_,fun b o e hx=>?_,fun b xs e=>ji b xs (I.base.ji b xs e),fun b o xs e=>iG b o xs (I.base.iG b o xs e),fun b ps e=>?_⟩,?_,fun x c e=>?_,?_,fun x c e=>?_,fun p hp=>?_,hok,I.len⟩
  · exact keep b o (neL b o e) hb (neC b o e hx) (I.base.keep b o e n hb hx) (I.base.free b o e n hx)
  · obtain ⟨sl,e1⟩:=I.base.slot b o e n hb hx
    obtain ⟨sl',e2⟩:=slot b _ (neL b o e) hb (neC b o e hx) e1 (I.base.free b o e n hx)
    exact ⟨sl',e2⟩
  · obtain ⟨o',e1⟩:=I.base.there b o e hx
    exact free b o' (neC b o e hx) e1 (I.base.free b o e n hx)
  · obtain ⟨o',e1⟩:=I.base.there b o e hx
    exact there b o' (neC b o e hx) e1
  · obtain ⟨m1,e1⟩:=I.base.jh b ps e
    obtain ⟨m2,e2⟩:=jh b _ e1
    exact ⟨m1++m2,by rw[e2,Array.append_assoc]⟩
  · obtain ⟨m,hn,hl⟩:=I.loc
    refine ⟨m,ns m hn,fun i x v e1 e2 e3=>?_⟩
    obtain ⟨u,r,l⟩:=hl i x v e1 e2 e3
    refine ⟨u,r,?_⟩
    rcases l with l | ⟨k,c,e,z⟩
    · exact .inl l
    · exact .inr ⟨k,c,e,cellK x c e _ z⟩
  · obtain ⟨v,z⟩:=I.cell x c e
    exact ⟨v,cellK x c e v z⟩
  · obtain ⟨m,⟨o,_,_,ho,_⟩,_⟩:=I.loc
    exact free _ o (fun z=>(hch _ z).2.1 rfl) ho I.free
  · obtain ⟨v,o,ho,hd⟩:=I.cell x c e
    exact free c o (fun z=>(hch c z).2.2.1 x c e rfl) ho (I.e6 x c e)
  · obtain ⟨e,n,ne,nf,d⟩:=I.pin p hp
    have nch:p.1 ∉ ch:=fun z=>(hch p.1 z).2.2.2 p hp rfl
    exact ⟨keep p.1 p.2 ne nf nch e n,free p.1 p.2 nch e n,ne,nf,d⟩
theorem Inv.un {t':Nat}(I:Inv X pins σ H s)(u:Un X.fs [] H H' s.heap h')(hok:HOk X.prog X.w H' h'):Inv X pins σ H' { s with heap:=h',toks:=t' }:=by
  obtain ⟨m,⟨o,es,ep,ho,r⟩,_⟩:=id I.loc
  obtain ⟨sl,hL⟩:=u.any ho I.free (by simp)
  exact I.step (g':=s.gens) (d':=s.drawn) (ch:=[]) (fun _ z=>nomatch z) (fun b o _ hb _ e n=>u.keep b o e n hb (by simp)) (fun b o _ hb _ e n=>u.slot b o e n hb (by simp)) (fun b o _ e n=>u.free b o e n (by simp)) (fun b o _ e=>u.there b o e (by simp)) u.ji u.iG u.jh (fun m' hm=>by
    obtain ⟨o',es',ep',ho',r'⟩:=hm
    rw[ho] at ho';cases ho'
    exact ⟨_,es',ep',hL,r'⟩) hok I.bare
theorem Inv.call {g':Array GenState}{t':Nat}{d':Drawn}{ch:List Addr}(I:Inv X pins σ H s)(u:Un (frs X.stack) ch H H' s.heap h')(hok:HOk X.prog X.w H' h')(hg:AllBare g')
    (hch:∀ b∈ch,(b∈X.ex∨X.s₀.heap.objs.size≤b)∧b≠X.env.locals∧(∀ x c,X.env.cells.lookup x=some c→c≠b)∧∀ p∈X.pn++pins,p.1≠b) :
    Inv X pins σ H' { s with heap:=h',gens:=g',drawn:=d',toks:=t' }:=by
  obtain ⟨m,⟨o,es,ep,ho,r⟩,_⟩:=id I.loc
  obtain ⟨sl,hL⟩:=u.any ho I.free fun z=>(hch _ z).2.1 rfl
  exact I.step (ch:=ch) hch (fun b o hL hb hc e n=>u.keep b o e n (fun z=>(List.mem_cons.mp (I.nS b z)).elim hL hb) hc) (fun b o _ _ hc e n=>u.any e n hc) (fun b o hc e n=>u.free b o e n hc) (fun b o hc e=>u.there b o e hc) u.ji u.iG u.jh (fun m' hm=>by
    obtain ⟨o',es',ep',ho',r'⟩:=hm
    rw[ho] at ho';cases ho'
    exact ⟨_,es',ep',hL,r'⟩) hok hg
theorem Inv.turned {t':Nat}{it:Addr}(I:Inv X pins σ H s)(k:∀ b o,b≠it→s.heap.get? b=some o→h'.get? b=some o)(hn:H it=none)(hL:it≠X.env.locals)
    (h1:it∈X.ex∨X.s₀.heap.objs.size≤it) (h2:∀ x c,X.env.cells.lookup x=some c→c≠it) (h3:∀ p∈X.pn++pins,p.1≠it):Inv X pins σ H { s with heap:=h',toks:=t' }:=by
  have nit:∀ b u,H b=some u→b≠it:=fun b u e z=>by rw[z,hn] at e;cases e
  refine I.step (g':=s.gens) (d':=s.drawn) (ch:=[it]) (fun b hb=>?_) (fun b o _ _ hc e _=>k b o (fun z=>hc (by simp[z])) e) (fun b o _ _ hc e _=>⟨o.slots,k b o (fun z=>hc (by simp[z])) e⟩) (fun _ _ _ _ n=>n)
    (fun b o hc e=>⟨o,k b o (fun z=>hc (by simp[z])) e⟩) (fun _ _ e=>e) (fun _ _ _ e=>e) (fun b ps e=>⟨#[],by rw[e];simp⟩) (fun m hm=>?_) (fun b u e=>?_) I.bare
  · have e:b=it:=by simpa using hb
    subst e
    exact ⟨h1,hL,h2,h3⟩
  · obtain ⟨o,es,ep,ho,r⟩:=hm
    exact ⟨o,es,ep,k _ o (Ne.symm hL) ho,r⟩
  · refine (I.hok b u e).jk (fun c v hc q=>k c v ?_ q) (fun _ q=>q) fun _ _ q=>q
    rcases hc with z | z
    · rw[z];exact nit b u e
    · exact nit c _ z
theorem Inv.tok (I:Inv X pins σ H s)(t:Nat):Inv X pins σ H { s with toks:=t }:=I.un (h':=s.heap) (t':=t) Un.refl I.hok
theorem Inv.kept {t':Nat}(I:Inv X pins σ H s)(k:∀ b u,s.heap.get? b=some u→h'.get? b=some u):Inv X pins σ H { s with heap:=h',toks:=t' }:=I.un (Un.kept k) (I.hok.kept k)
theorem Inv.laid {a:Addr}{o:HO}{t':Nat}(I:Inv X pins σ H s)(k:∀ b u,s.heap.get? b=some u→h'.get? b=some u)(hp:s.heap.objs.size≤a)(new:cv X.prog X.w (upd H a o) h' a o) :
    Inv X pins σ (upd H a o) { s with heap:=h',toks:=t' }:=I.un (Un.laid k hp (I.hok.fresh hp)) (I.hok.laid k hp new)
theorem Inv.write {x e:Addr}{o:HO}{t':Nat}(I:Inv X pins σ H s)(mu:Mut (H x))(he:e=x∨H e=some (.own x))(k:∀ b u,b≠e→s.heap.get? b=some u→h'.get? b=some u)(heo:∃ u,h'.get? e=some u)
    (new:cv X.prog X.w (upd H x o) h' x o):Inv X pins σ (upd H x o) { s with heap:=h',toks:=t' }:=I.un (Un.write mu he k heo) (I.hok.write mu he k heo new)
theorem Inv.weak {σ':List (Option V)}(I:Inv X pins σ H s)(hl:σ'.length=σ.length)(w:∀ (i:Nat) v,σ'[i]? = some (some v)→σ[i]? = some (some v)):Inv X pins σ' H s:=
  ⟨I.ok,I.os,I.bare,I.base,let ⟨m,hn,hl'⟩:=I.loc;⟨m,hn,fun i x v e1 e2 e3=>hl' i x v e1 (w i v e2) e3⟩,I.cell,I.free,I.e6,I.pin,I.hok,hl.trans I.len⟩
theorem Inv.xE {pins':List (Addr×Obj)}(I:Inv X pins σ H s)(h:∀ p∈pins',s.heap.get? p.1=some p.2∧H p.1=none∧p.1≠X.env.locals∧p.1 ∉ X.fs∧∀ v,p.2.data≠.cell v):Inv X pins' σ H s:=
  ⟨I.ok,I.os,I.bare,I.base,I.loc,I.cell,I.free,I.e6,fun p hp=>(List.mem_append.mp hp).elim (fun z=>I.pin p (List.mem_append_left _ z)) (h p),I.hok,I.len⟩
theorem tF {N:List Str}(hN:N.Nodup){i j:Nat}{x:Str}(a:N[i]? = some x)(b:N[j]? = some x):i=j:=by
  obtain ⟨h1,e1⟩:=List.getElem?_eq_some_iff.mp a
  obtain ⟨h2,e2⟩:=List.getElem?_eq_some_iff.mp b
  exact (List.getElem_inj hN).mp (e1.trans e2.symm)
theorem yM {M:Model}{A:Around}{E:Value→Shared→Prop}{i:Nat}{x:Str}{v:V}{u:Value}{Q:Unit→Shared→Prop}(I:Inv X pins σ H s)(hN:X.N.Nodup)(hi:X.N[i]? = some x)(hx:Loc X.env.scope x)(r:RelV v u)
    (h:∀ s',Inv X pins (σ.set i (some v)) H s'→(∃ a,Heap.SameBut a s.heap s'.heap∧(a=X.env.locals∨X.env.cells.lookup x=some a))→Q () s') (hf:X.fn x=true∨X.env.scope.names.lookup x=some .local:=by first | exact .inl rfl | exact .inr rfl | assumption):wpAny M A (storeName X.env x u) Q E s:=by
  obtain ⟨m,hn,hl⟩:=id I.loc
  have Me:(X.env.scope.kind == .class || (X.env.scope.kind == .module&&X.env.locals != X.env.globals))=false:=by rw[I.ok.kind];rfl
  have hiσ:i < σ.length:=by rw[I.len];exact (List.getElem?_eq_some_iff.mp hi).1
  have cne:=I.cne
  have tracked:∀ {a:Addr} {h':Heap},(∃ o,s.heap.get? a=some o∧H a=none)→Heap.SameBut a s.heap h'→HOk X.prog X.w H h':=fun {a h'} ha hs b ob e=>by
    obtain ⟨_,_,hfree⟩:=ha
    refine (I.hok b ob e).jk (fun c w' hc q=>(hs.2 c ?_).trans q) (fun _ q=>q) fun _ _ q=>q
    rintro rfl
    rcases hc with rfl | hc
    · rw[hfree] at e;cases e
    · rw[hfree] at hc;cases hc
  rcases hx with hk | hk
  · refine wpAny_storeName_local hk hn (fun h' hn' hs=>?_) Me
    obtain ⟨oL,_,_,hoL,_⟩:=id hn
    refine h _ ⟨I.ok,I.os,I.bare,⟨fun b o e n hb hx=>?_,fun b o e n hb hx=>?_,I.base.free,fun b o e hx=>?_,I.base.ji,I.base.iG,I.base.jh⟩,⟨_,hn',fun j y v' e1 e2 e3=>?_⟩,fun y c e=>?_,I.free,I.e6,fun p hp=>?_,tracked ⟨oL,hoL,I.free⟩ hs,by simpa using I.len⟩ ⟨_,hs,.inl rfl⟩
    · exact (hs.2 b (Nat.ne_of_lt (Nat.lt_of_lt_of_le (Heap.lt_size e) I.ok.above))).trans (I.base.keep b o e n hb hx)
    · obtain ⟨sl,e1⟩:=I.base.slot b o e n hb hx
      exact ⟨sl,(hs.2 b (Nat.ne_of_lt (Nat.lt_of_lt_of_le (Heap.lt_size e) I.ok.above))).trans e1⟩
    · obtain ⟨o',e1⟩:=I.base.there b o e hx
      exact ⟨o',(hs.2 b (Nat.ne_of_lt (Nat.lt_of_lt_of_le (Heap.lt_size e) I.ok.above))).trans e1⟩
    · by_cases hj:j=i
      · subst hj
        rw[hi] at e1;cases e1
        rw[List.getElem?_set_self hiσ] at e2
        cases e2
        exact ⟨u,r,.inl ⟨hk,by simp⟩⟩
      · rw[List.getElem?_set_ne (Ne.symm hj)] at e2
        obtain ⟨u',r',q⟩:=hl j y v' e1 e2 e3
        refine ⟨u',r',?_⟩
        rcases q with ⟨k,e⟩ | ⟨k,c,e,z⟩
        · refine .inl ⟨k,?_⟩
          have:y≠x:=fun e=>hj (tF hN e1 (e ▸ hi))
          simp[this,e]
        · exact .inr ⟨k,c,e,z.sameBut hs (cne y c e)⟩
    · obtain ⟨w',z⟩:=I.cell y c e
      exact ⟨w',z.sameBut hs (cne y c e)⟩
    · obtain ⟨e,n,ne,nf,d⟩:=I.pin p hp
      exact ⟨(hs.2 p.1 ne).trans e,n,ne,nf,d⟩
  · have hfn:X.fn x=true:=by
      rcases hf with z | z
      · exact z
      · rw[z] at hk;cases hk
    obtain ⟨c,hc⟩:=I.ok.has x (.inl hk)
    obtain ⟨w',z⟩:=I.cell x c hc
    refine wpAny_storeName_cell I.ok.kind hk hc z (fun h' hc' hs=>?_)
    obtain ⟨oc,hoc,hocd⟩:=id z
    refine h { s with heap:=h' } ⟨I.ok,I.os,I.bare,⟨fun b o e n hb hx=>?_,fun b o e n hb hx=>?_,I.base.free,fun b o e hx=>?_,I.base.ji,I.base.iG,I.base.jh⟩,⟨m,hn.sameBut hs (Ne.symm (cne x c hc)),fun j y v' e1 e2 e3=>?_⟩,fun y c' e=>?_,I.free,I.e6,fun p hp=>?_,tracked ⟨oc,hoc,I.e6 x c hc⟩ hs,by simpa using I.len⟩ ⟨c,hs,.inr hc⟩
    · exact (hs.2 b (Nat.ne_of_lt (Nat.lt_of_lt_of_le (Heap.lt_size e) (I.ok.cab x c hfn hc)))).trans (I.base.keep b o e n hb hx)
    · obtain ⟨sl,e1⟩:=I.base.slot b o e n hb hx
      exact ⟨sl,(hs.2 b (Nat.ne_of_lt (Nat.lt_of_lt_of_le (Heap.lt_size e) (I.ok.cab x c hfn hc)))).trans e1⟩
    · obtain ⟨o',e1⟩:=I.base.there b o e hx
      exact ⟨o',(hs.2 b (Nat.ne_of_lt (Nat.lt_of_lt_of_le (Heap.lt_size e) (I.ok.cab x c hfn hc)))).trans e1⟩
    · by_cases hj:j=i
      · subst hj
        rw[hi] at e1;cases e1
        rw[List.getElem?_set_self hiσ] at e2
        cases e2
        exact ⟨u,r,.inr ⟨.inl hk,c,hc,hc'⟩⟩
      · rw[List.getElem?_set_ne (Ne.symm hj)] at e2
        obtain ⟨u',r',q⟩:=hl j y v' e1 e2 e3
        refine ⟨u',r',?_⟩
        rcases q with q | ⟨k,c',e,z'⟩
        · exact .inl q
        · refine .inr ⟨k,c',e,z'.sameBut hs ?_⟩
          rintro rfl
          exact hj (tF hN e1 (I.ok.inj _ _ _ e hc ▸ hi))
    · by_cases hcc:c'=c
      · subst hcc;exact ⟨_,hc'⟩
      · obtain ⟨w2,z2⟩:=I.cell y c' e
        exact ⟨w2,z2.sameBut hs hcc⟩
    · obtain ⟨e,n,ne,nf,d⟩:=I.pin p hp
      refine ⟨(hs.2 p.1 ?_).trans e,n,ne,nf,d⟩
      intro q
      rw[q,hoc] at e
      have q':oc=p.2:=Option.some.inj e
      exact d w' (by rw[← q'];exact hocd)
theorem cY {M:Model}{A:Around}{E:Value→Shared→Prop}{i:Nat}{x:Str}{v:V}{u:Value}{Q:Unit→Shared→Prop}(I:Inv X pins σ H s)(hN:X.N.Nodup)(hi:X.N[i]? = some x)(hx:Loc X.env.scope x)(r:RelV v u)
    (h:∀ s',Inv X pins (σ.set i (some v)) H s'→Q () s') (hf:X.fn x=true∨X.env.scope.names.lookup x=some .local:=by first | exact .inl rfl | exact .inr rfl | assumption):wpAny M A (storeName X.env x u) Q E s:=
  yM I hN hi hx r (fun s' I' _=>h s' I') hf
theorem Inv.xZ {s':Shared}{ch:List Addr}(I:Inv X pins σ H s)(ho:s'.os=s.os)(u:Un (frs X.stack) ch H H' s.heap s'.heap)(hok:HOk X.prog X.w H' s'.heap)(hg:AllBare s'.gens)
    (hch:∀ b∈ch,(b∈X.ex∨X.s₀.heap.objs.size≤b)∧b≠X.env.locals∧(∀ x c,X.env.cells.lookup x=some c→c≠b)∧∀ p∈X.pn++pins,p.1≠b):Inv X pins σ H' s':=by
  obtain ⟨h',g',d',t',o'⟩:=s'
  have e:o'=s.os:=ho
  subst e
  exact I.call (g':=g') (t':=t') (d':=d') u hok hg hch
end
abbrev XK:=Value→Option Addr→Hp→Prop
abbrev St:=List (Option V)
abbrev VK:=V→Hp→Prop
abbrev TE:=St→Hp→VK→Prop
abbrev TT:=St→Hp→(Bool→Hp→Prop)→Prop
abbrev TA:=St→Hp→(List V→Hp→Prop)→Prop
structure Ends where
  nx:St→Hp→Prop
  rt:VK
  bk:St→Hp→Prop:=fun _ _=>False
  ct:St→Hp→Prop:=fun _ _=>False
abbrev TS:=Ends→St→Hp→Prop
def EP (X:Cx)(pins:List (Addr×Obj))(σ:St)(Q:VK)(u:Value)(s':Shared):Prop:=∃ v H',Inv X pins σ H' s'∧RelV v u∧Q v H'
def TP (X:Cx)(pins:List (Addr×Obj))(σ:St)(Q:Bool→Hp→Prop)(b:Bool)(s':Shared):Prop:=∃ H',Inv X pins σ H' s'∧Q b H'
def AP (X:Cx)(pins:List (Addr×Obj))(σ:St)(Q:List V→Hp→Prop)(us:List Value)(s':Shared):Prop:=∃ vs H',Inv X pins σ H' s'∧Vals vs us∧Q vs H'
def SP (X:Cx)(pins:List (Addr×Obj))(D:Ends)(f:Flow)(s':Shared):Prop:=
  match f with
  | .next=>∃ σ' H',Inv X pins σ' H' s'∧D.nx σ' H'
  | .brk=>∃ σ' H',Inv X pins σ' H' s'∧D.bk σ' H'
  | .cont=>∃ σ' H',Inv X pins σ' H' s'∧D.ct σ' H'
  | .ret u=>∃ v σ' H',Inv X pins σ' H' s'∧RelV v u∧D.rt v H'
def PE (X:Cx)(e:Expr)(t:TE):Prop:=
  ∀ (pins:List (Addr×Obj)) (s:Shared) (σ:St) (H:Hp) (Q:VK),Inv X pins σ H s→t σ H Q→wpAny (model X.prog X.w) X.A (eval e X.env) (EP X pins σ Q) X.xe s
def PT (X:Cx)(e:Expr)(t:TT):Prop:=
  ∀ (pins:List (Addr×Obj)) (s:Shared) (σ:St) (H:Hp) (Q:Bool→Hp→Prop),Inv X pins σ H s→t σ H Q→wpAny (model X.prog X.w) X.A (isTrue e X.env (eval e X.env)) (TP X pins σ Q) X.xe s
def PW (X:Cx)(e:Expr)(t:TT):Prop:=
  ∀ (whole:Sem Value) (pins:List (Addr×Obj)) (s:Shared) (σ:St) (H:Hp) (Q:Bool→Hp→Prop),Inv X pins σ H s→t σ H Q→wpAny (model X.prog X.w) X.A (isTrue e X.env whole) (TP X pins σ Q) X.xe s
theorem PW.pt {X:Cx}{e:Expr}{t:TT}(h:PW X e t):PT X e t:=h _
def PA (X:Cx)(es:List Expr)(t:TA):Prop:=
  ∀ (pos:Pos) (pins:List (Addr×Obj)) (s:Shared) (σ:St) (H:Hp) (Q:List V→Hp→Prop),Inv X pins σ H s→t σ H Q→wpAny (model X.prog X.w) X.A (spliced (backTo pos (starEach es X.env))) (AP X pins σ Q) X.xe s
def PS (X:Cx)(st:Stmt)(t:TS):Prop:=
  ∀ (pins:List (Addr×Obj)) (s:Shared) (σ:St) (H:Hp) (D:Ends),Inv X pins σ H s→t D σ H→wpAny (model X.prog X.w) X.A (exec st X.env) (SP X pins D) X.xe s
def PSs (X:Cx)(st:List Stmt)(t:TS):Prop:=
  ∀ (pins:List (Addr×Obj)) (s:Shared) (σ:St) (H:Hp) (D:Ends),Inv X pins σ H s→t D σ H→wpAny (model X.prog X.w) X.A (execs st X.env) (SP X pins D) X.xe s
theorem thn {α:Type}{t:Sem α}{Q Q':α→Shared→Prop}{M:Model}{A:Around}{E:Value→Shared→Prop}{s:Shared}(h:wpAny M A t Q E s)(hQ:∀ a s,Q a s→Q' a s):wpAny M A t Q' E s:=wpAny_mono h hQ fun _ _ x=>x
end L2
namespace L2
open PySem PySem.Spec PyProof.Rows
section
variable {X:Cx}
def Lc (i:Nat):TE:=fun σ H Q=>∃ v,σ[i]? = some (some v)∧Q v H
def tC (v:V):TE:=fun _ H Q=>Q v H
theorem Di {i:Nat}{x:Str}{pos:Pos}(hN:X.N[i]? = some x)(hv:Vis X.env.scope x)(hd:(x == ("__debug__" : Str))=false:=by decide)(hcd:(x == ("__classdict__" : Str))=false:=by decide):PE X (.Name x pos) (Lc i):=by
  intro pins s σ H Q I h
  obtain ⟨v,e,h⟩:=h
  obtain ⟨m,hn,hl⟩:=I.loc
  obtain ⟨u,r,l⟩:=hl i x v hN e hv
  have fin:EP X pins σ Q u s:=⟨v,H,I,r,h⟩
  rcases l with ⟨hk,hm⟩ | ⟨hk,c,hc,hcell⟩
  · exact wpAny_Name (wpAny_loadName_local I.ok.kind hk hn hm fin) hd
  · rcases hk with hk | hk
    · exact wpAny_Name (wpAny_loadName_cell I.ok.kind hk hc hcell fin) hd
    · exact wpAny_Name (wpAny_loadName_free I.ok.kind hk hc hcell fin hcd) hd
theorem Hm {i j pos}:PE X (.Constant (.int i) j pos) (tC (.int i)):=fun _ _ _ H _ I h=>wpAny_Constant_int ⟨.int i,H,I.tok _,⟨_,rfl⟩,h⟩
theorem J5 {b j pos}:PE X (.Constant (.bool b) j pos) (tC (.bl b)):=fun _ _ _ H _ I h=>Constant_bool ⟨.bl b,H,I,rfl,h⟩
theorem HV {j pos}:PE X (.Constant .none j pos) (tC .non):=fun _ _ _ H _ I h=>Constant_none ⟨.non,H,I,rfl,h⟩
theorem Ic {x j pos}:PE X (.Constant (.str x) j pos) (tC (.str x)):=fun _ _ _ H _ I h=>Calls.Constant_str ⟨.str x,H,I.tok _,⟨_,rfl⟩,h⟩
def Gl (X:Cx)(x:Str):Prop:=X.env.kindOf x=some .globalImplicit
theorem xM {E:Value→Shared→Prop}{pins:List (Addr×Obj)}{s:Shared}{σ:St}{H:Hp}{x:Str}{u:Value}{pos:Pos}{Q:Value→Shared→Prop}(I:Inv X pins σ H s)(hg:Gl X x)(hm:X.mg x=some u)(h:Q u s)
    (hd:(x == ("__debug__" : Str))=false:=by decide):wpAny (model X.prog X.w) X.A (eval (.Name x pos) X.env) Q E s:=
  Calls.Name_function_global I.ok.kind hg (Calls.loadGlobal_global (by rw[I.ok.glob];exact I.mod.glob.keeps I.bk) hm h) hd
theorem ix {E:Value→Shared→Prop}{pins:List (Addr×Obj)}{s:Shared}{σ:St}{H:Hp}{x:Str}{u:Value}{pos:Pos}{Q:Value→Shared→Prop}(I:Inv X pins σ H s)(hg:Gl X x)(hm:X.mg x=none)(hv:bootBuiltins x=some u)(h:Q u s)
    (hn:x ≠ "__name__" := by decide) (hd:(x == ("__debug__" : Str))=false:=by decide):wpAny (model X.prog X.w) X.A (eval (.Name x pos) X.env) Q E s:=by
  obtain ⟨mb,h1,h2⟩:=I.mod.blt
  exact Calls.Name_function_global I.ok.kind hg (Calls.loadGlobal_builtin (by rw[I.ok.glob];exact I.mod.glob.keeps I.bk) hm (by rw[I.ok.blt];exact h1.keeps I.bk) ((h2 x hn).trans hv) h) hd
theorem FD {x:Str}{v:V}{u:Value}{pos:Pos}(hg:Gl X x)(hm:X.mg x=some u)(r:RelV v u)(hd:(x == ("__debug__" : Str))=false:=by decide):PE X (.Name x pos) (tC v):=
  fun _ _ _ H _ I h=>xM I hg hm ⟨v,H,I,r,h⟩ hd
theorem Ej {x:Str}{v:V}{u:Value}{pos:Pos}(hg:Gl X x)(hm:X.mg x=none)(hv:bootBuiltins x=some u)(r:RelV v u)(hn:x ≠ "__name__" := by decide)(hd:(x == ("__debug__" : Str))=false:=by decide):PE X (.Name x pos) (tC v):=
  fun _ _ _ H _ I h=>ix I hg hm hv ⟨v,H,I,r,h⟩ hn hd
variable {a b:Expr} {ta tb:TE} {pos:Pos}
def tB (t:TE):TT:=fun σ H Q=>t σ H fun x H1=>∃ c,x=.bl c∧Q c H1
theorem Ho {e:Expr}{t:TE}(h:PE X e t)(he:∀ whole,isTrue e X.env whole=(do let v ← whole;standAt e.pos;holding [v] (truthy v)):=by intro _;rfl):PT X e (tB t):=by
  intro pins s σ H Q I hw
  refine isTrue_plain (thn (h pins s σ H _ I hw) fun v s1 ⟨x,H1,I1,r1,q1⟩=>?_) (he _)
  obtain ⟨d,rfl,q⟩:=q1
  cases r1
  exact wpAny_truthy_bool ⟨H1,I1,q⟩
variable {tA tB':TT} {rest:List Expr}
def Ly (t u:TT):TT:=fun σ H Q=>t σ H fun c H1=>if c=true then u σ H1 Q else Q false H1
def tOr (t u:TT):TT:=fun σ H Q=>t σ H fun c H1=>if c=true then Q true H1 else u σ H1 Q
def Lm (t:TT):TT:=fun σ H Q=>t σ H fun c H1=>Q (!c) H1
theorem pw_and1 (ha:PT X a tA):PW X (.BoolOp .And [a] pos) tA:=by
  intro wh pins s σ H Q I h
  refine isTrue_and (thn (ha pins s σ H Q I h) fun c s1 e=>?_)
  cases c with
  | true=>exact isTrue_and_nil e
  | false=>exact e
theorem pw_or1 (ha:PT X a tA):PW X (.BoolOp .Or [a] pos) tA:=by
  intro wh pins s σ H Q I h
  refine isTrue_or (thn (ha pins s σ H Q I h) fun c s1 e=>?_)
  cases c with
  | false=>exact isTrue_or_nil e
  | true=>exact e
theorem pw_and (ha:PT X a tA)(hb:PW X (.BoolOp .And (b::rest) pos) tB'):PW X (.BoolOp .And (a::b::rest) pos) (Ly tA tB'):=by
  intro wh pins s σ H Q I h
  refine isTrue_and (thn (ha pins s σ H _ I h) fun c s1 ⟨H1,I1,q1⟩=>?_)
  cases c with
  | true=>exact hb wh pins s1 σ H1 Q I1 q1
  | false=>exact ⟨H1,I1,q1⟩
theorem pw_or (ha:PT X a tA)(hb:PW X (.BoolOp .Or (b::rest) pos) tB'):PW X (.BoolOp .Or (a::b::rest) pos) (tOr tA tB'):=by
  intro wh pins s σ H Q I h
  refine isTrue_or (thn (ha pins s σ H _ I h) fun c s1 ⟨H1,I1,q1⟩=>?_)
  cases c with
  | true=>exact ⟨H1,I1,q1⟩
  | false=>exact hb wh pins s1 σ H1 Q I1 q1
theorem Hk (ha:PT X a tA):PT X (.UnaryOp .Not a pos) (Lm tA):=by
  intro pins s σ H Q I h
  exact isTrue_not (ha pins s σ H (fun c H1=>Q (!c) H1) I h)
def J6 (ta tb:TE):TE:=fun σ H Q=>ta σ H fun x H1=>∃ c,x=.bl c∧if c=true then tb σ H1 Q else Q (.bl false) H1
def Mk (ta tb:TE):TE:=fun σ H Q=>ta σ H fun x H1=>∃ c,x=.bl c∧if c=true then Q (.bl true) H1 else tb σ H1 Q
def JW (ta:TE):TE:=fun σ H Q=>ta σ H fun x H1=>∃ c,x=.bl c∧Q (.bl (!c)) H1
theorem IF {op}{t:TE}(h:PE X a t):PE X (.BoolOp op [a] pos) t:=fun pins s σ H Q I hw=>BoolOp_one (h pins s σ H Q I hw)
theorem He (ha:PE X a ta)(hb:PE X (.BoolOp .And (b::rest) pos) tb):PE X (.BoolOp .And (a::b::rest) pos) (J6 ta tb):=by
  intro pins s σ H Q I h
  refine BoolOp_and (thn (ha pins s σ H _ I h) fun v s1 ⟨x,H1,I1,r1,q1⟩=>?_)
  obtain ⟨c,rfl,q1⟩:=q1
  cases r1
  refine wpAny_truthy_bool ?_
  cases c with
  | true=>exact hb pins s1 σ H1 Q I1 q1
  | false=>exact ⟨.bl false,H1,I1,rfl,q1⟩
theorem Km (ha:PE X a ta)(hb:PE X (.BoolOp .Or (b::rest) pos) tb):PE X (.BoolOp .Or (a::b::rest) pos) (Mk ta tb):=by
  intro pins s σ H Q I h
  refine BoolOp_or (thn (ha pins s σ H _ I h) fun v s1 ⟨x,H1,I1,r1,q1⟩=>?_)
  obtain ⟨c,rfl,q1⟩:=q1
  cases r1
  refine wpAny_truthy_bool ?_
  cases c with
  | false=>exact hb pins s1 σ H1 Q I1 q1
  | true=>exact ⟨.bl true,H1,I1,rfl,q1⟩
theorem Hg (ha:PE X a ta):PE X (.UnaryOp .Not a pos) (JW ta):=by
  intro pins s σ H Q I h
  refine UnaryOp_ (thn (ha pins s σ H _ I h) fun v s1 ⟨x,H1,I1,r1,q1⟩=>?_)
  obtain ⟨c,rfl,q1⟩:=q1
  cases r1
  exact not_of (wpAny_truthy_bool ⟨.bl (!c),H1,I1,rfl,q1⟩)
end
end L2
namespace L2
open PySem PySem.Spec PyProof.Rows
def SqL (K:PySem.W.Frag)(H:Hp)(a:Addr)(xs:List V):Prop:=
  Rd H a (.lst xs)∨
    ∃ (o:Obj) (its:Array Value) (n:Nat),K.lookup a=some o∧o.cls=.type "list" ∧ o.dict=none∧o.data=.seq its n∧its.size≤sizeLine∧Vals xs its.toList
def SqT (K:PySem.W.Frag)(H:Hp)(a:Addr)(xs:List V):Prop:=
  Rd H a (.tup xs)∨
    ∃ (o:Obj) (its:Array Value) (n:Nat),K.lookup a=some o∧o.cls=.type "tuple" ∧ o.dict=none∧o.data=.seq its n∧its.size≤sizeLine∧Vals xs its.toList
def Ls:Value→Option V
  | .none=>some .non
  | .bool b=>some (.bl b)
  | .int i _=>some (.int i)
  | .str x _=>some (.str x)
  | .bytes b _=>some (.byt b)
  | .float b _=>some (.flt b)
  | .ref a=>some (.ref a)
  | .type n=>some (.ty n)
  | _=>none
theorem RelV.abs {x:V}{u:Value}(r:RelV x u):Ls u=some x:=by
  cases x with
  | non=>cases r;rfl
  | bl _=>cases r;rfl
  | int _=>obtain ⟨t,rfl⟩:=r;rfl
  | str _=>obtain ⟨t,rfl⟩:=r;rfl
  | byt _=>obtain ⟨t,rfl⟩:=r;rfl
  | flt _=>obtain ⟨t,rfl⟩:=r;rfl
  | ref _=>cases r;rfl
  | ty _=>cases r;rfl
theorem RelV.inj {x y:V}{u:Value}(r:RelV x u)(q:RelV y u):x=y:=Option.some.inj (r.abs.symm.trans q.abs)
theorem Vals.inj:∀ {xs ys:List V} {us:List Value},Vals xs us→Vals ys us→xs=ys
  | _,_,_,.nil,.nil=>rfl
  | _,_,_,.cons r t,.cons r' t'=>by rw[r.inj r',Vals.inj t t']
section
variable {X:Cx} {pins:List (Addr×Obj)} {σ:St} {H:Hp} {s:Shared} {a:Addr} {xs ys:List V}
theorem SqL.of {K:PySem.W.Frag}(h:H a=some (.lst xs)):SqL K H a xs:=.inl (.inl h)
theorem SqT.of {K:PySem.W.Frag}(h:H a=some (.tup xs)):SqT K H a xs:=.inl (.inl h)
theorem Inv.list (I:Inv X pins σ H s)(h:SqL X.K H a xs):∃ its:List Value,Vals xs its∧PlainL s.heap a its.toArray∧xs.length≤sizeLine:=by
  rcases h with h | ⟨o,its,n,hk,hc,hd,hs,hz,r⟩
  · obtain ⟨z,its,n,r,e⟩:=h.ok I.hok
    exact ⟨its,r,⟨_,n,e,rfl,rfl,rfl⟩,z⟩
  · refine ⟨its.toList,r,⟨o,n,I.kIn a o hk,hc,hd,by simpa using hs⟩,?_⟩
    have e:=r.length
    simp only[Array.length_toList] at e
    omega
theorem Inv.tuple (I:Inv X pins σ H s)(h:SqT X.K H a xs):∃ its:List Value,Vals xs its∧IsTup s.heap a its.toArray∧xs.length≤sizeLine:=by
  rcases h with h | ⟨o,its,n,hk,hc,hdn,hs,hz,r⟩
  · obtain ⟨z,its,r,p⟩:=h.ok I.hok
    exact ⟨its,r,p.tup,z⟩
  · refine ⟨its.toList,r,⟨o,I.kIn a o hk,hc,n,by simpa using hs⟩,?_⟩
    have e:=r.length
    simp only[Array.length_toList] at e
    omega
theorem Inv.HF (I:Inv X pins σ H s)(h:SqT X.K H a xs):∃ o,s.heap.get? a=some o∧o.cls=.type "tuple" ∧ o.dict=none:=by
  rcases h with h | ⟨o,its,n,hk,hc,hdn,hs,hz,r⟩
  · obtain ⟨z,its,r,n,e⟩:=h.ok I.hok
    exact ⟨_,e,rfl,rfl⟩
  · exact ⟨o,I.kIn a o hk,hc,hdn⟩
theorem Inv.sD (I:Inv X pins σ H s)(h:SqL X.K H a xs)(h':SqL X.K H a ys):xs=ys:=by
  obtain ⟨its,r,⟨o,n,e,_,_,d⟩,_⟩:=I.list h
  obtain ⟨its',r',⟨o',n',e',_,_,d'⟩,_⟩:=I.list h'
  rw[e] at e';cases e'
  rw[d] at d'
  injection d' with d1 _
  have:its=its':=by simpa using congrArg Array.toList d1
  subst this
  exact r.inj r'
theorem Inv.qv (I:Inv X pins σ H s)(h:SqT X.K H a xs)(h':SqT X.K H a ys):xs=ys:=by
  obtain ⟨its,r,⟨o,e,_,n,d⟩,_⟩:=I.tuple h
  obtain ⟨its',r',⟨o',e',_,n',d'⟩,_⟩:=I.tuple h'
  rw[e] at e';cases e'
  rw[d] at d'
  injection d' with d1 _
  have:its=its':=by simpa using congrArg Array.toList d1
  subst this
  exact r.inj r'
end
abbrev Cx.kX (X:Cx)(E:Value→Shared→Prop):Cx:={ X with xe:=E }
abbrev Cx.nox (X:Cx):Cx:=X.kX fun _ _=>False
theorem Cx.Ok.kX {X:Cx}(ok:X.Ok)(E:Value→Shared→Prop):(X.kX E).Ok:=
  ⟨ok.mod,ok.kind,ok.glob,ok.blt,ok.above,ok.inj,ok.has,ok.cab,ok.hd,ok.frames,ok.stk,ok.exf,ok.bs,ok.bsz,ok.vL,ok.vJ,ok.kT,ok.frf⟩
theorem Cx.Ok.eJ {X:Cx}{E:Value→Shared→Prop}(ok:(X.kX E).Ok):X.Ok:=
  ⟨ok.mod,ok.kind,ok.glob,ok.blt,ok.above,ok.inj,ok.has,ok.cab,ok.hd,ok.frames,ok.stk,ok.exf,ok.bs,ok.bsz,ok.vL,ok.vJ,ok.kT,ok.frf⟩
section
variable {X:Cx} {pins:List (Addr×Obj)} {σ:St} {H:Hp} {s:Shared} {E:Value→Shared→Prop}
theorem Inv.kX (I:Inv X pins σ H s)(E:Value→Shared→Prop):Inv (X.kX E) pins σ H s:=⟨I.ok.kX E,I.os,I.bare,I.base,I.loc,I.cell,I.free,I.e6,I.pin,I.hok,I.len⟩
theorem Inv.eJ (I:Inv (X.kX E) pins σ H s):Inv X pins σ H s:=⟨I.ok.eJ,I.os,I.bare,I.base,I.loc,I.cell,I.free,I.e6,I.pin,I.hok,I.len⟩
theorem SP.eJ {D:Ends}{f:Flow}{s':Shared}(h:SP (X.kX E) pins D f s'):SP X pins D f s':=by
  cases f with
  | next=>obtain ⟨σ',H',I,q⟩:=h;exact ⟨σ',H',I.eJ,q⟩
  | brk=>obtain ⟨σ',H',I,q⟩:=h;exact ⟨σ',H',I.eJ,q⟩
  | cont=>obtain ⟨σ',H',I,q⟩:=h;exact ⟨σ',H',I.eJ,q⟩
  | ret u=>obtain ⟨v,σ',H',I,r,q⟩:=h;exact ⟨v,σ',H',I.eJ,r,q⟩
theorem PE.nox {e:Expr}{t:TE}(h:PE X.nox e t):PE X e t:=fun pins s σ H Q I hw=>
  wpAny_mono (h pins s σ H Q (I.kX _) hw) (fun _ _ ⟨v,H',I',r,q⟩=>⟨v,H',I'.eJ,r,q⟩) fun _ _ z=>False.elim z
theorem PT.nox {e:Expr}{t:TT}(h:PT X.nox e t):PT X e t:=fun pins s σ H Q I hw=>
  wpAny_mono (h pins s σ H Q (I.kX _) hw) (fun _ _ ⟨H',I',q⟩=>⟨H',I'.eJ,q⟩) fun _ _ z=>False.elim z
theorem PSs.nox {st:List Stmt}{t:TS}(h:PSs X.nox st t):PSs X st t:=fun pins s σ H D I hw=>
  wpAny_mono (h pins s σ H D (I.kX _) hw) (fun _ _ q=>q.eJ) fun _ _ z=>False.elim z
end
section
variable {X:Cx} {st:Stmt} {rest:List Stmt} {t u:TS} {e:Expr} {te:TE} {pos:Pos}
def JZ:TS:=fun D σ H=>D.nx σ H
def Lx (t u:TS):TS:=fun D σ H=>t { D with nx:=u D } σ H
theorem DO:PSs X [] JZ:=fun _ _ σ H _ I h=>wpAny_execs_nil ⟨σ,H,I,h⟩
theorem Cg (h1:PS X st t)(h2:PSs X rest u):PSs X (st::rest) (Lx t u):=by
  intro pins s σ H D I h
  refine wpAny_execs_cons (thn (h1 pins s σ H { D with nx:=u D } I h) fun f s1 q=>?_)
  cases f with
  | next=>
    obtain ⟨σ',H',I',q⟩:=q
    exact h2 pins s1 σ' H' D I' q
  | ret v=>exact q
  | brk=>exact q
  | cont=>exact q
theorem Fv (h1:PS X st t):PSs X [st] t:=by
  intro pins s σ H D I h
  refine wpAny_execs_cons (thn (h1 pins s σ H D I h) fun f s1 q=>?_)
  cases f with
  | next=>exact wpAny_execs_nil q
  | ret v=>exact q
  | brk=>exact q
  | cont=>exact q
theorem Inv.quiet {pins:List (Addr×Obj)}{σ:St}{H:Hp}{s:Shared}(I:Inv X pins σ H s):interactive X.env=false:=by simp[interactive,I.ok.kind]
def JF (te:TE):TS:=fun D σ H=>te σ H fun _ H1=>D.nx σ H1
theorem DJ (he:PE X e te)(hs:swapsWith e none pos.line X.env=pure false:=by rfl):PS X (.Expr e pos) (JF te):=by
  intro pins s σ H D I h
  exact wpAny_Expr_any (thn (he pins s σ H _ I h) fun v s1 ⟨x,H1,I1,r1,q1⟩=>⟨σ,H1,I1,q1⟩) I.quiet hs
def Lj (te:TE):TS:=fun D σ H=>te σ H D.rt
theorem GC (he:PE X e te):PS X (.Return (some e) pos) (Lj te):=by
  intro pins s σ H D I h
  exact wpAny_Return_some (thn (he pins s σ H _ I h) fun v s1 ⟨x,H1,I1,r1,q1⟩=>⟨x,σ,H1,I1,r1,q1⟩)
def L1 (c:TT)(t u:TS):TS:=fun D σ H=>c σ H fun b H1=>if b=true then t D σ H1 else u D σ H1
theorem Jw {c:Expr}{a b:List Stmt}{tc:TT}(hc:PT X c tc)(ha:PSs X a t)(hb:PSs X b u):PS X (.If c a b pos) (L1 tc t u):=by
  intro pins s σ H D I h
  refine wpAny_If (thn (hc pins s σ H _ I h) fun d s1 ⟨H1,I1,q1⟩=>?_)
  cases d with
  | true=>exact ha pins s1 σ H1 D I1 q1
  | false=>exact hb pins s1 σ H1 D I1 q1
end
abbrev TG:=V→St→Hp→(St→Hp→Prop)→Prop
abbrev TGs:=List V→St→Hp→(St→Hp→Prop)→Prop
def PG (X:Cx)(target:Expr)(t:TG):Prop:=
  ∀ (pins:List (Addr×Obj)) (s:Shared) (σ:St) (H:Hp) (v:V) (u:Value) (Q:St→Hp→Prop),Inv X pins σ H s→RelV v u→t v σ H Q→
    wpAny (model X.prog X.w) X.A (assign target X.env u) (fun _ s'=>∃ σ' H',Inv X pins σ' H' s'∧Q σ' H') X.xe s
def PGs (X:Cx)(ts:List Expr)(t:TGs):Prop:=
  ∀ (pins:List (Addr×Obj)) (s:Shared) (σ:St) (H:Hp) (vs:List V) (us:List Value) (Q:St→Hp→Prop),Inv X pins σ H s→Vals vs us→t vs σ H Q→
    wpAny (model X.prog X.w) X.A (assignInOrder ((assignEach ts X.env).map (·.2)) us) (fun _ s'=>∃ σ' H',Inv X pins σ' H' s'∧Q σ' H') X.xe s
abbrev HG:=V→V→V→Hp→(Hp→Prop)→Prop
def JD (X:Cx)(t:HG):Prop:=
  ∀ (pins:List (Addr×Obj)) (s:Shared) (σ:St) (H:Hp) (o i v:V) (ov iv u:Value) (Q:Hp→Prop),Inv X pins σ H s→RelV o ov→RelV i iv→RelV v u→t o i v H Q→
    wpAny (model X.prog X.w) X.A (setItem ov iv u) (fun _ s'=>∃ H',Inv X pins σ H' s'∧Q H') X.xe s
abbrev TIp:=V→V→Hp→VK→Prop
def PIp (X:Cx)(op:Operator)(t:TIp):Prop:=
  ∀ (pins:List (Addr×Obj)) (s:Shared) (σ:St) (H:Hp) (x y:V) (v u:Value) (Q:VK),Inv X pins σ H s→RelV x v→RelV y u→t x y H Q→
    wpAny (model X.prog X.w) X.A (inplaceOp op v u) (EP X pins σ Q) X.xe s
section
variable {X:Cx} {pos:Pos}
def qo (i:Nat):TG:=fun v σ H Q=>Q (σ.set i (some v)) H
theorem ju {i:Nat}{x:Str}(hN:X.N.Nodup)(hi:X.N[i]? = some x)(hx:Loc X.env.scope x)(hf:X.fn x=true∨X.env.scope.names.lookup x=some .local:=by first | exact .inl rfl | exact .inr rfl | assumption):PG X (.Name x pos) (qo i):=by
  intro pins s σ H v u Q I r h
  exact wpAny_assign_Name (cY I hN hi hx r (fun s' I'=>⟨_,H,I',h⟩) hf)
def LJ:TGs:=fun vs σ H Q=>vs=[]∧Q σ H
def J4 (t:TG)(u:TGs):TGs:=fun vs σ H Q=>∃ v r,vs=v::r∧t v σ H fun σ' H'=>u r σ' H' Q
theorem xI:PGs X [] LJ:=by
  intro pins s σ H vs us Q I r h
  obtain ⟨e,h⟩:=h
  subst e
  cases r
  exact assignInOrder_nil ⟨σ,H,I,h⟩
theorem tU {e:Expr}{es:List Expr}{t:TG}{u:TGs}(h1:PG X e t)(h2:PGs X es u)
    (hs:(assignEach (e::es) X.env).map (·.2)=assign e X.env::(assignEach es X.env).map (·.2):=by rfl):PGs X (e::es) (J4 t u):=by
  intro pins s σ H vs us Q I r h
  obtain ⟨v,vr,e1,h⟩:=h
  subst e1
  cases r with
  | cons r rr=>
    rw[hs]
    refine assignInOrder_cons (thn (h1 pins s σ H _ _ _ I r h) fun _ s1 ⟨σ1,H1,I1,q1⟩=>?_)
    exact h2 pins s1 σ1 H1 _ _ Q I1 rr q1
def LR (K:PySem.W.Frag)(n:Nat)(t:TGs):TG:=fun v σ H Q=>∃ a xs,v=.ref a∧SqT K H a xs∧xs.length=n∧t xs σ H Q
theorem C9 {es:List Expr}{k:Nat}{t:TGs}{n:Nat}(hc:X.calm=true)(h:PGs X es t)
    (hn:(assignEach es X.env).length=n:=by rfl) (hst:(assignEach es X.env).findIdx? (·.1)=none:=by rfl):PG X (.Tuple es k pos) (LR X.K n t):=by
  intro pins s σ H v u Q I r hw
  obtain ⟨a,xs,e1,hq,hl,hw⟩:=hw
  subst e1
  cases r
  obtain ⟨its,rv,ht,hz⟩:=I.tuple hq
  refine assign_Tuple_tuple (I.ok.hd hc) ht (by simp[hn,← hl,rv.length]) hst fun h' hx=>?_
  have I1:Inv X pins σ H { s with heap:=h' }:=I.kept (t':=s.toks) fun b o e=>hx b o (Nat.ne_of_lt (Heap.lt_size e)) e
  exact h pins _ σ H xs _ Q I1 (by simpa using rv) hw
def L7 (to ti:TE)(t:HG):TG:=fun v σ H Q=>to σ H fun o H1=>ti σ H1 fun i H2=>t o i v H2 fun H3=>Q σ H3
theorem IZ {o i:Expr}{to ti:TE}{t:HG}(ho:PE X o to)(hi:PE X i ti)(hs:JD X t)
    (ha:∀ v,assign (.Subscript o i pos) X.env v=(do
      let ov ← holding [v] (eval o X.env)
      let iv ← holding [v,ov] (eval i X.env)
      standAt pos
      holding [v,ov,iv] (setItem ov iv v)
      release [v,ov,iv] []):=by intro _;rfl):PG X (.Subscript o i pos) (L7 to ti t):=by
  intro pins s σ H v u Q I r h
  rw[ha]
  refine wpAny_bind (wpAny_holding (thn (ho pins s σ H _ I h) fun ov s1 ⟨x,H1,I1,r1,q1⟩=>?_))
  refine wpAny_bind (wpAny_holding (thn (hi pins s1 σ H1 _ I1 q1) fun iv s2 ⟨y,H2,I2,r2,q2⟩=>?_))
  refine wpAny_bind (wpAny_standAt (wpAny_bind (wpAny_holding (thn (hs pins s2 σ H2 x y v ov iv u _ I2 r1 r2 r q2) fun _ s3 ⟨H3,I3,q3⟩=>?_))))
  exact wpAny_release ⟨σ,H3,I3,q3⟩
def Hb (te:TE)(g:TG):TS:=fun D σ H=>te σ H fun x H1=>g x σ H1 D.nx
theorem AE {tg e:Expr}{te:TE}{g:TG}(he:PE X e te)(hg:PG X tg g)(hs:swapsWithSole [tg] e pos.line X.env=pure false:=by rfl)(hw:swappedStores [tg] e X.env=pure none:=by rfl)
    (h1:(assignEach [tg] X.env).map (·.2)=[assign tg X.env]:=by rfl):PS X (.Assign [tg] e pos) (Hb te g):=by
  intro pins s σ H D I h
  refine wpAny_Assign_stores (thn (he pins s σ H _ I h) fun v s1 ⟨x,H1,I1,r1,q1⟩=>?_) hs hw
  rw[h1]
  exact thn (hg pins s1 σ H1 x v _ I1 r1 q1) fun _ s2 q=>q
theorem IJ {i:Nat}{x:Str}{e:Expr}{te:TE}{pos':Pos}(hN:X.N.Nodup)(hi:X.N[i]? = some x)(hx:Loc X.env.scope x)(he:PE X e te)(hs:swapsWith e (some (.Name x pos')) pos.line X.env=pure false:=by rfl)(hf:X.fn x=true∨X.env.scope.names.lookup x=some .local:=by first | exact .inl rfl | exact .inr rfl | assumption) :
    PS X (.Assign [.Name x pos'] e pos) (Hb te (qo i)):=by
  intro pins s σ H D I h
  refine wpAny_Assign_Name (thn (he pins s σ H _ I h) fun v s1 ⟨y,H1,I1,r1,q1⟩=>?_) hs
  exact cY I1 hN hi hx r1 (fun s2 I2=>⟨_,H1,I2,q1⟩) hf
def Lw (i j:Nat)(ta:TA):TS:=fun D σ H=>ta σ H fun vs H1=>∃ v w,vs=[v,w]∧D.nx ((σ.set i (some v)).set j (some w)) H1
theorem Im {i j:Nat}{x y:Str}{a b:Expr}{ta:TA}{px py pt:Pos}{kt k2 pt2}(hc:X.calm=true)(hN:X.N.Nodup)(hi:X.N[i]? = some x)(hj:X.N[j]? = some y)(hij:i≠j)
    (hx:X.env.scope.names.lookup x=some .local) (hy:X.env.scope.names.lookup y=some .local) (ha:PA X [a,b] ta)
    (hw:swappedStores [.Tuple [.Name x px,.Name y py] kt pt] (.Tuple [a,b] k2 pt2) X.env=pure (some [x,y]))
    (hs:swapsWithSole [.Tuple [.Name x px,.Name y py] kt pt] (.Tuple [a,b] k2 pt2) pos.line X.env=pure false:=by rfl) :
    PS X (.Assign [.Tuple [.Name x px,.Name y py] kt pt] (.Tuple [a,b] k2 pt2) pos) (Lw i j ta):=by
  intro pins s σ H D I h
  rw[exec_Assign_arm]
  refine wpAny_bind (wpAny_standAt ?_)
  rw[hs]
  refine wpAny_bind (wpAny_pure ?_)
  rw[if_neg (by decide)]
  refine wpAny_bind (Tuple_ (thn (ha _ pins s σ H _ I h) fun us s1 ⟨vs,H1,I1,r1,q1⟩=>?_))
  obtain ⟨v,w,e1,q1⟩:=q1
  subst e1
  obtain ⟨u1,u2,rfl,rv,rw'⟩:∃ u1 u2,us=[u1,u2]∧RelV v u1∧RelV w u2:=by
    cases r1 with
    | cons p q=>
      cases q with
      | cons p' q'=>
        cases q'
        exact ⟨_,_,rfl,p,p'⟩
  refine wpAny_newObj_type ?_ (by show 2≤sizeLine;decide)
  have I2:Inv X pins σ H1 { s1 with heap:=s1.heap.push { cls:=.type "tuple", data:=.seq [u1,u2].toArray } }:=I1.kept (t':=s1.toks) fun b o e=>Heap.get?_push_of_some _ e
  rw[hw]
  refine wpAny_bind (wpAny_pure ?_)
  show wpAny (model X.prog X.w) X.A (do rule "assign.swapped-stores";let items ← unpackItems (.ref s1.heap.objs.size) 2 none;assignInOrder [fun v=>bindName X.env y v,fun v=>bindName X.env x v] items.reverse;pure Flow.next) _ _ _
  refine wpAny_bind (wpAny_rule (wpAny_bind (unpackItems_tuple (items:=#[u1,u2]) (I.ok.hd hc) (IsTup.new s1.heap _) fun h' hx'=>?_)))
  have I3:=I2.kept (h':=h') (t':=s1.toks) fun b o e=>hx' b o (Nat.ne_of_lt (Heap.lt_size e)) e
  show wpAny _ _ (assignInOrder [fun v=>bindName X.env y v,fun v=>bindName X.env x v] [u2,u1] >>= fun _=>pure Flow.next) _ _ _
  refine wpAny_bind (assignInOrder_cons (wpAny_bindName (cY I3 hN hj (.inl hy) rw' (fun s2 I4=>?_) (.inr hy))))
  refine assignInOrder_cons (wpAny_bindName (cY I4 hN hi (.inl hx) rv (fun s3 I5=>assignInOrder_nil (wpAny_pure ?_)) (.inr hx)))
  rw[List.set_comm _ _ (Ne.symm hij)] at I5
  exact ⟨_,H1,I5,q1⟩
def KP (i:Nat)(te:TE)(ti:TIp):TS:=fun D σ H=>∃ x,σ[i]? = some (some x)∧te σ H fun y H1=>ti x y H1 fun z H2=>D.nx (σ.set i (some z)) H2
theorem G7 {i:Nat}{x:Str}{e:Expr}{te:TE}{op:Operator}{ti:TIp}{pos':Pos}(hN:X.N.Nodup)(hi:X.N[i]? = some x)(hx:Loc X.env.scope x)(he:PE X e te)(ho:PIp X op ti)(hf:X.fn x=true∨X.env.scope.names.lookup x=some .local:=by first | exact .inl rfl | exact .inr rfl | assumption) :
    PS X (.AugAssign (.Name x pos') op e pos) (KP i te ti):=by
  intro pins s σ H D I h
  obtain ⟨v,e1,h⟩:=h
  obtain ⟨m,hn,hl⟩:=I.loc
  have vis:Vis X.env.scope x:=by rcases hx with k | k;exact .inl k;exact .inr (.inl k)
  obtain ⟨u,r,l⟩:=hl i x v hi e1 vis
  refine wpAny_AugAssign_Name ?_
  have go:wpAny (model X.prog X.w) X.A (eval e X.env) (fun w s₂=>wpAny (model X.prog X.w) X.A (inplaceOp op u w) (fun r s₃=>wpAny (model X.prog X.w) X.A (storeName X.env x r) (fun _=>SP X pins D .next) X.xe s₃) X.xe s₂) X.xe s:=by
    refine thn (he pins s σ H _ I h) fun w s1 ⟨y,H1,I1,r1,q1⟩=>?_
    refine thn (ho pins s1 σ H1 v y u w _ I1 r r1 q1) fun z s2 ⟨zv,H2,I2,r2,q2⟩=>?_
    exact cY I2 hN hi hx r2 (fun s3 I3=>⟨_,H2,I3,q2⟩) hf
  rcases l with ⟨hk,hm⟩ | ⟨hk,c,hc,hcell⟩
  · exact wpAny_loadName_local I.ok.kind hk hn hm go
  · rcases hk with hk | hk
    · exact wpAny_loadName_cell I.ok.kind hk hc hcell go
    · rcases hx with k | k
      · have:X.env.scope.names.lookup x=some .free:=hk
        rw[k] at this;cases this
      · have:X.env.scope.names.lookup x=some .free:=hk
        rw[k] at this;cases this
def ipI (f:Int→Int→Int):TIp:=fun x y H Q=>∃ i j,x=.int i∧y=.int j∧Q (.int (f i j)) H
theorem Jk:PIp X .Add (ipI fun i j=>i+j):=by
  intro pins s σ H x y v u Q I r1 r2 h
  obtain ⟨i,j,e1,e2,q⟩:=h
  subst e1;subst e2
  obtain ⟨t,rfl⟩:=r1
  obtain ⟨t',rfl⟩:=r2
  exact iadd_int ⟨.int _,H,I.tok _,⟨_,rfl⟩,q⟩
end
section
variable {X:Cx} {pos:Pos}
def IW (c:TT)(tb:TS):TS:=fun D σ H=>∃ W:Nat→St→Hp→Prop,(∃ m,W m σ H)∧∀ m σ H,W m σ H→
  c σ H fun b H1=>if b=true then ∃ N:St→Hp→Prop,(∀ σ' H',N σ' H'→∃ m',m' < m∧W m' σ' H')∧tb { D with nx:=N,ct:=N,bk:=D.nx } σ H1 else D.nx σ H1
theorem AZ {c:Expr}{body:List Stmt}{tc:TT}{tb:TS}(hp:PassesOwn (model X.prog X.w) X.A X.env X.xe)(hc:PT X c tc)(hb:PSs X body tb):PS X (.While c body [] pos) (IW tc tb):=by
  intro pins s σ H D I h
  obtain ⟨W,⟨m0,w0⟩,turn⟩:=h
  refine wpAny_While (codeAny_whileLoop (fun n s'=>∃ σ' H',Inv X pins σ' H' s'∧W n σ' H') ?_ m0 ⟨σ,H,I,w0⟩)
  rintro n s1 ⟨σ1,H1,I1,w1⟩
  refine wpAny_passesOwn hp (thn (hc pins s1 σ1 H1 _ I1 (turn n σ1 H1 w1)) fun b s2 ⟨H2,I2,q2⟩=>?_)
  cases b with
  | true=>
    obtain ⟨N,hN,q2⟩:=q2
    rw[if_pos rfl]
    refine wpAny_passesOwn hp (thn (hb pins s2 σ1 H2 _ I2 q2) fun f s3 q3=>?_)
    cases f with
    | next=>
      obtain ⟨σ3,H3,I3,n3⟩:=q3
      obtain ⟨m',hm,w3⟩:=hN σ3 H3 n3
      exact ⟨m',hm,σ3,H3,I3,w3⟩
    | cont=>
      obtain ⟨σ3,H3,I3,n3⟩:=q3
      obtain ⟨m',hm,w3⟩:=hN σ3 H3 n3
      exact ⟨m',hm,σ3,H3,I3,w3⟩
    | brk=>exact q3
    | ret v=>exact q3
  | false=>
    rw[if_neg Bool.false_ne_true]
    exact wpAny_execs_nil ⟨σ1,H2,I2,q2⟩
end
structure It where
  go:Nat→Hp→Prop
  yld:Nat→Hp→V→Hp→Prop
  stop:Nat→Hp→Prop
def jX (X:Cx)(pins:List (Addr×Obj))(H:Hp)(b:Addr):Prop:=
  H b=none∧b≠X.env.locals∧b ∉ X.fs∧(b∈X.ex∨X.s₀.heap.objs.size≤b)∧(∀ x c,X.env.cells.lookup x=some c→c≠b)∧∀ p∈X.pn++pins,p.1≠b
theorem Inv.Cq {X:Cx}{pins:List (Addr×Obj)}{σ:St}{H H':Hp}{s:Shared}{b:Addr}(I:Inv X pins σ H s)(hb:s.heap.objs.size≤b)(hn:H' b=none):jX X pins H' b:=by
  refine ⟨hn,Nat.ne_of_gt (Nat.lt_of_lt_of_le I.lt hb),I.Lz hb,.inr (Nat.le_trans I.sz hb),fun x c e z=>?_,fun p hp z=>?_⟩
  · obtain ⟨v,q⟩:=I.cell x c e
    exact absurd (Nat.lt_of_lt_of_le q.lt (by rw[z];exact hb)) (Nat.lt_irrefl _)
  · exact absurd (Nat.lt_of_lt_of_le (Heap.lt_size (I.pin p hp).1) (by rw[z];exact hb)) (Nat.lt_irrefl _)
structure Turn (P:Program) (w:World) (K:PySem.W.Frag) (tg:Expr) (J:It) (fp:List Addr) (it:Addr) (tn:Nat→Heap→Prop):Prop where
  mem:it∈fp
  obj:∀ i h,tn i h→∀ b∈fp,∃ o,h.get? b=some o∧∀ v,o.data≠.cell v
  keep:∀ i h h',tn i h→(∀ b∈fp,∀ o,h.get? b=some o→h'.get? b=some o)→tn i h'
  item:∀ (X:Cx),X.prog=P→X.w=w→X.K=K→X.calm=true→∀ (i:Nat) (pins:List (Addr×Obj)) (s:Shared) (σ:St) (H:Hp) (E:Value→Shared→Prop),Inv X pins σ H s→(∀ b∈fp,jX X pins H b)→tn i s.heap→J.go i H→
    wpAny (model P w) X.A (pyNext (.ref it)) (fun r s1=>∃ u,r=some u∧
      wpAny (model P w) X.A (letOwnedTupleGo tg (.ref it) u) (fun _ s2=>∃ x H',Inv X pins σ H' s2∧RelV x u∧J.yld i H x H'∧tn (i+1) s2.heap∧∀ b∈fp,H' b=none) E s1) E s
  done:∀ (X:Cx),X.prog=P→X.w=w→X.K=K→X.calm=true→∀ (i:Nat) (pins:List (Addr×Obj)) (s:Shared) (σ:St) (H:Hp) (E:Value→Shared→Prop),Inv X pins σ H s→(∀ b∈fp,jX X pins H b)→tn i s.heap→J.stop i H→
    wpAny (model P w) X.A (pyNext (.ref it)) (fun r s1=>r=none∧Inv X pins σ H s1) E s
  self:∀ (A:Around) (i:Nat) (s:Shared) (Q:Value→Shared→Prop) (E:Value→Shared→Prop),tn i s.heap→Q (.ref it) s→wpAny (model P w) A (pyIter (.ref it)) Q E s
abbrev TI:=St→Hp→(It→Hp→Prop)→Prop
def PIE (X:Cx)(pins:List (Addr×Obj))(σ:St)(tg:Expr)(R:It→Hp→Prop)(itv:Value)(s2:Shared):Prop:=
  ∃ (it:Addr) (fp:List Addr) (tn:Nat→Heap→Prop) (J:It) (H':Hp),itv=.ref it∧Inv X pins σ H' s2∧Turn X.prog X.w X.K tg J fp it tn∧tn 0 s2.heap∧(∀ b∈fp,jX X pins H' b)∧R J H'
def PI (X:Cx)(tg iter:Expr)(wi:TI):Prop:=
  ∀ (pins:List (Addr×Obj)) (s:Shared) (σ:St) (H:Hp) (R:It→Hp→Prop),Inv X pins σ H s→wi σ H R→
    wpAny (model X.prog X.w) X.A (eval iter X.env) (fun v s1=>wpAny (model X.prog X.w) X.A (pyIter v) (PIE X pins σ tg R) X.xe s1) X.xe s
theorem C1 {M:Model}{A:Around}{E:Value→Shared→Prop}{s:Shared}{tg:Expr}{it:Addr}{u:Value}{o:Obj}{n:String}{vs:Array Value}{Q:Unit→Shared→Prop}(ho:s.heap.get? it=some o)(hc:o.cls=.type n)(hd:o.data=.fields vs)
    (hn:["enumerate", "zip", "dict_itemiterator", "dict_reverseitemiterator", "odict_iterator", "itertools.zip_longest", "itertools.pairwise"].contains n=false) (hQ:Q () s):wpAny M A (letOwnedTupleGo tg (.ref it) u) Q E s:=by
  unfold letOwnedTupleGo
  cases tg<;>first
    | exact wpAny_pure hQ
    | (cases u<;>first
        | exact wpAny_pure hQ
        | (refine wpAny_bind (wpAny_load ho ?_)
           rw[hc,hd]
           show wpAny M A (if (["enumerate", "zip", "dict_itemiterator", "dict_reverseitemiterator", "odict_iterator", "itertools.zip_longest", "itertools.pairwise"].contains n&&vs[0]? == some (rawInt _))=true then _ else _) Q E s
           rw[if_neg (by intro h;rw[hn,Bool.false_and] at h;cases h)]
           exact wpAny_pure hQ))
def Itl (K:PySem.W.Frag)(a:Addr):It:=
  ⟨fun i H=>∃ xs x,SqL K H a xs∧xs[i]? = some x,fun i H x H'=>H'=H∧∀ xs,SqL K H a xs→xs[i]? = some x,fun i H=>∃ xs,SqL K H a xs∧xs.length≤i⟩
def Itt (K:PySem.W.Frag)(a:Addr):It:=
  ⟨fun i H=>∃ xs x,SqT K H a xs∧xs[i]? = some x,fun i H x H'=>H'=H∧∀ xs,SqT K H a xs→xs[i]? = some x,fun i H=>∃ xs,SqT K H a xs∧xs.length≤i⟩
def Itr (lo:Int)(n:Nat):It:=⟨fun i _=>i < n,fun i H x H'=>H'=H∧x=.int (lo+i),fun i _=>n≤i⟩
theorem zB {P:Program}{w:World}{K:PySem.W.Frag}{tg:Expr}(a it:Addr):Turn P w K tg (Itl K a) [it] it (fun i h=>h.IsListIter it a i) where
  mem:=by simp
  obj:=fun i h st b hb=>by
    have e:b=it:=by simpa using hb
    subst e
    obtain ⟨o,e,c,d⟩:=st
    exact ⟨o,e,fun v z=>by rw[d] at z;cases z⟩
  keep:=fun i h h' st k=>st.at fun o e=>k it (by simp) o e
  item:=by
    intro X hP hw hK hc i pins s σ H E I hf st hg
    subst hP hw hK
    obtain ⟨xs,x,hq,hx⟩:=hg
    obtain ⟨its,rv,p,hz⟩:=I.list hq
    obtain ⟨u,hu,ru⟩:=rv.get hx
    obtain ⟨f0,f1,f2,f3,f4,f5⟩:=hf it (by simp)
    refine wpAny_pyNext_list_item st p.isList (x:=u) (by simpa using hu) fun h' st' sb=>?_
    have I1:Inv X pins σ H { s with heap:=h' }:=I.turned (t':=s.toks) (fun b o hb e=>(sb.2 b hb).trans e) f0 f1 f3 f4 f5
    obtain ⟨o,e,c,d⟩:=id st'
    exact ⟨u,rfl,C1 (s:={ s with heap:=h' }) e c d (by decide) ⟨x,H,I1,ru,⟨rfl,fun ys hy=>by rw[I.sD hy hq];exact hx⟩,st',fun b hb=>(hf b hb).1⟩⟩
  done:=by
    intro X hP hw hK hc i pins s σ H E I hf st hg
    subst hP hw hK
    obtain ⟨xs,hq,hx⟩:=hg
    obtain ⟨its,rv,p,hz⟩:=I.list hq
    obtain ⟨f0,f1,f2,f3,f4,f5⟩:=hf it (by simp)
    have hl:=rv.length
    exact wpAny_pyNext_list_end (I.ok.hd hc) st p.isList (by simp;omega) fun h' eb=>⟨rfl,I.turned (t':=s.toks) (fun b o hb e=>eb b o hb e) f0 f1 f3 f4 f5⟩
  self:=fun _ _ _ _ _ st h=>wpAny_pyIter_listiter st h
theorem vy {P:Program}{w:World}{K:PySem.W.Frag}{tg:Expr}(a it:Addr):Turn P w K tg (Itt K a) [it] it (fun i h=>h.IsTupleIter it a i) where
  mem:=by simp
  obj:=fun i h st b hb=>by
    have e:b=it:=by simpa using hb
    subst e
    obtain ⟨o,e,c,d⟩:=st
    exact ⟨o,e,fun v z=>by rw[d] at z;cases z⟩
  keep:=fun i h h' st k=>st.at fun o e=>k it (by simp) o e
  item:=by
    intro X hP hw hK hc i pins s σ H E I hf st hg
    subst hP hw hK
    obtain ⟨xs,x,hq,hx⟩:=hg
    obtain ⟨its,rv,p,hz⟩:=I.tuple hq
    obtain ⟨u,hu,ru⟩:=rv.get hx
    obtain ⟨f0,f1,f2,f3,f4,f5⟩:=hf it (by simp)
    refine wpAny_pyNext_tuple_item st (show s.heap.IsTuple a its.toArray from p) (x:=u) (by simpa using hu) fun h' st' sb=>?_
    have I1:Inv X pins σ H { s with heap:=h' }:=I.turned (t':=s.toks) (fun b o hb e=>(sb.2 b hb).trans e) f0 f1 f3 f4 f5
    obtain ⟨o,e,c,d⟩:=id st'
    exact ⟨u,rfl,C1 (s:={ s with heap:=h' }) e c d (by decide) ⟨x,H,I1,ru,⟨rfl,fun ys hy=>by rw[I.qv hy hq];exact hx⟩,st',fun b hb=>(hf b hb).1⟩⟩
  done:=by
    intro X hP hw hK hc i pins s σ H E I hf st hg
    subst hP hw hK
    obtain ⟨xs,hq,hx⟩:=hg
    obtain ⟨its,rv,p,hz⟩:=I.tuple hq
    obtain ⟨f0,f1,f2,f3,f4,f5⟩:=hf it (by simp)
    have hl:=rv.length
    exact wpAny_pyNext_tuple_end (I.ok.hd hc) st (show s.heap.IsTuple a its.toArray from p) (by simp;omega) fun h' eb=>⟨rfl,I.turned (t':=s.toks) (fun b o hb e=>eb b o hb e) f0 f1 f3 f4 f5⟩
  self:=fun _ _ _ _ _ st h=>wpAny_pyIter_tupleiter st h
theorem uZ {P:Program}{w:World}{K:PySem.W.Frag}{tg:Expr}(it:Addr)(lo:Int)(n:Nat):Turn P w K tg (Itr lo n) [it] it (fun i h=>IsRangeIter h it (lo+(i:Nat)*1) ((n:Int) - (i:Nat)) 1) where
  mem:=by simp
  obj:=fun i h st b hb=>by
    have e:b=it:=by simpa using hb
    subst e
    exact ⟨_,st,fun v z=>by
      have z':Data.fields _=Data.cell v:=z
      cases z'⟩
  keep:=fun i h h' st k=>k it (by simp) _ st
  item:=by
    intro X hP hw hK hc i pins s σ H E I hf st hg
    subst hP hw hK
    obtain ⟨f0,f1,f2,f3,f4,f5⟩:=hf it (by simp)
    have W:=Walks.range (prog:=X.prog) (w:=X.w) (I.ok.hd hc) it lo 1 n
    refine W.item i s _ _ hg st fun v h' tk hv st' kk=>?_
    obtain ⟨t,rfl⟩:=hv
    have I1:Inv X pins σ H { s with heap:=h',toks:=tk }:=I.turned (fun b o hb e=>kk b o (by simpa using hb) e) f0 f1 f3 f4 f5
    refine ⟨_,rfl,C1 (s:={ s with heap:=h',toks:=tk }) (n := "range_iterator") st' rfl rfl (by decide) ⟨.int (lo+i),H,I1,⟨t,?_⟩,⟨rfl,rfl⟩,st',fun b hb=>(hf b hb).1⟩⟩
    rw[Int.mul_one]
  done:=by
    intro X hP hw hK hc i pins s σ H E I hf st hg
    subst hP hw hK
    obtain ⟨f0,f1,f2,f3,f4,f5⟩:=hf it (by simp)
    exact wpAny_pyNext_range_end (I.ok.hd hc) st (by have:n≤i:=hg;omega) fun h' eb=>⟨rfl,I.turned (t':=s.toks) (fun b o hb e=>eb b o hb e) f0 f1 f3 f4 f5⟩
  self:=fun _ _ _ _ _ st h=>wpAny_pyIter_rangeiter st h
end L2
namespace L2
open PySem PySem.Spec PyProof.Rows
section
variable {X:Cx} {tg:Expr}
theorem tw {pins:List (Addr×Obj)}{σ:St}{H:Hp}{s:Shared}{R:It→Hp→Prop}{E:Value→Shared→Prop}{lo hi:Int}{t u v:Tok}{tk:Nat}(I:Inv X pins σ H s)(h1:-(2 ^ 62)≤lo)(h2:lo < 2 ^ 62)(h3:-(2 ^ 62)≤hi)(h4:hi < 2 ^ 62)
    (q:R (Itr lo (hi - lo).toNat) H):wpAny (model X.prog X.w) X.A (pyIter (.ref s.heap.objs.size)) (PIE X pins σ tg R) E { s with heap:=s.heap.push { cls:=.type "range", data:=.fields #[.int lo t,.int hi u,.int 1 v] },toks:=tk }:=by
  refine wpAny_pyIter_range (IsRange.new ..) (small_one h1 h2 h3 h4) ?_
  have I1:Inv X pins σ H { s with heap:=s.heap.push { cls:=.type "range", data:=.fields #[.int lo t,.int hi u,.int 1 v] },toks:=tk }:=I.kept fun b o e=>Heap.get?_push_of_some _ e
  refine ⟨(s.heap.push { cls:=.type "range", data:=.fields #[.int lo t,.int hi u,.int 1 v] }).objs.size,[(s.heap.push { cls:=.type "range", data:=.fields #[.int lo t,.int hi u,.int 1 v] }).objs.size],_,_,H,rfl,
    I1.kept (t':=tk) fun b o e=>Heap.get?_push_of_some _ e,uZ _ lo (hi - lo).toNat,?_,fun b hb=>?_,q⟩
  · have e1:lo+((0:Nat):Int)*1=lo:=by simp
    have e2:(((hi - lo).toNat:Nat):Int) - ((0:Nat):Int)=Builtin.Range.rangeSize lo hi 1:=by rw[rangeSize_one];split<;>omega
    show IsRangeIter _ _ (lo+((0:Nat):Int)*1) ((((hi - lo).toNat:Nat):Int) - ((0:Nat):Int)) 1
    rw[e1,e2]
    exact Heap.get?_push_size _ rfl
  · have e:b=(s.heap.push { cls:=.type "range", data:=.fields #[.int lo t,.int hi u,.int 1 v] }).objs.size:=by simpa using hb
    subst e
    exact I1.Cq (Nat.le_refl _) (I1.hok.fresh (Nat.le_refl _))
def K2 (ta:TA):TI:=fun σ H R=>ta σ H fun vs H1=>∃ j:Int,vs=[.int j]∧-(2 ^ 62)≤j∧j < 2 ^ 62∧R (Itr 0 j.toNat) H1
def Ks (ta:TA):TI:=fun σ H R=>ta σ H fun vs H1=>∃ i j:Int,vs=[.int i,.int j]∧(-(2 ^ 62)≤i∧i < 2 ^ 62∧-(2 ^ 62)≤j∧j < 2 ^ 62)∧R (Itr i (j - i).toNat) H1
theorem yG {a:Expr}{ta:TA}{p pos:Pos}(hg:Gl X "range")(hm:X.mg "range" = none)(ha:PA X [a] ta)(hs:starEach [a] X.env=[(false,eval a X.env)]:=by rfl):PI X tg (.Call (.Name "range" p) [a] [] pos) (K2 ta):=by
  intro pins s σ H R I h
  refine Call_ (ix I hg hm boot_range (PyProof.Rows.callWith_type1 (thn (ha pos pins s σ H _ I h) fun us s1 ⟨vs,H1,I1,r1,q1⟩=>?_) hs rfl))
  obtain ⟨j,e,q1,q2,q⟩:=q1
  subst e
  cases r1 with
  | cons r rr=>
    cases rr
    obtain ⟨t,rfl⟩:=r
    exact call_range_1 (tw I1 (by omega) (by omega) q1 q2 (by simpa using q))
theorem zN {a b:Expr}{ta:TA}{p pos:Pos}(hg:Gl X "range")(hm:X.mg "range" = none)(ha:PA X [a,b] ta)(hs:starEach [a,b] X.env=[(false,eval a X.env),(false,eval b X.env)]:=by rfl)(hs2:starEach [b] X.env=[(false,eval b X.env)]:=by rfl) :
    PI X tg (.Call (.Name "range" p) [a,b] [] pos) (Ks ta):=by
  intro pins s σ H R I h
  refine Call_ (ix I hg hm boot_range (PyProof.Rows.callWith_type1 (thn (ha pos pins s σ H _ I h) fun us s1 ⟨vs,H1,I1,r1,q1⟩=>?_) (by rw[hs,hs2]) (by rw[hs2];rfl)))
  obtain ⟨i,j,e,⟨q1,q2,q3,q4⟩,q⟩:=q1
  subst e
  cases r1 with
  | cons r rr=>
    cases rr with
    | cons r' rr=>
      cases rr
      obtain ⟨t,rfl⟩:=r
      obtain ⟨t',rfl⟩:=r'
      exact call_range_2 (tw I1 q1 q2 q3 q4 q)
def L8 (wi:TI)(g:TG)(tb:TS):TS:=fun D σ H=>wi σ H fun J H1=>∃ W:Nat→Nat→St→Hp→Prop,(∃ m,W 0 m σ H1)∧∀ i m σ H,W i m σ H→
  (J.stop i H∧D.nx σ H)∨(J.go i H∧∃ N:St→Hp→Prop,(∀ σ' H',N σ' H'→∃ m',m' < m∧W (i+1) m' σ' H')∧∀ x H',J.yld i H x H'→g x σ H' fun σ2 H2=>tb { D with nx:=N,ct:=N,bk:=D.nx } σ2 H2)
def iE (fp:List Addr)(h:Heap):List (Addr×Obj):=fp.filterMap fun b=>(h.get? b).map fun o=>(b,o)
theorem bN {fp:List Addr}{h:Heap}{b:Addr}{o:Obj}(hb:b∈fp)(e:h.get? b=some o):(b,o)∈iE fp h:=List.mem_filterMap.mpr ⟨b,hb,by rw[e];rfl⟩
theorem yV {fp:List Addr}{h:Heap}{p:Addr×Obj}(hp:p∈iE fp h):p.1∈fp∧h.get? p.1=some p.2:=by
  obtain ⟨b,hb,e⟩:=List.mem_filterMap.mp hp
  cases q:h.get? b with
  | none=>rw[q] at e;cases e
  | some o=>
    rw[q] at e
    have e':(b,o)=p:=Option.some.inj e
    subst e'
    exact ⟨hb,q⟩
theorem Inv.pinned {pins:List (Addr×Obj)}{σ:St}{H:Hp}{s:Shared}{fp:List Addr}(I:Inv X pins σ H s)(hf:∀ b∈fp,jX X pins H b)(ho:∀ b∈fp,∃ o,s.heap.get? b=some o∧∀ v,o.data≠.cell v):Inv X (pins++iE fp s.heap) σ H s:=
  I.xE fun p hp=>(List.mem_append.mp hp).elim (fun z=>I.pin p (List.mem_append_right _ z)) fun z=>by
    obtain ⟨hb,e⟩:=yV z
    obtain ⟨f0,f1,f2,_⟩:=hf p.1 hb
    obtain ⟨o,e',d⟩:=ho p.1 hb
    rw[e] at e';cases e'
    exact ⟨e,f0,f1,f2,d⟩
theorem Inv.dD {pins pl:List (Addr×Obj)}{σ:St}{H:Hp}{s:Shared}(I:Inv X (pins++pl) σ H s):Inv X pins σ H s:=I.xE fun p hp=>I.pin p (List.mem_append_right _ (List.mem_append_left _ hp))
theorem Iy {iter:Expr}{body:List Stmt}{wi:TI}{g:TG}{tb:TS}{pos:Pos}(hp:PassesOwn (model X.prog X.w) X.A X.env X.xe)(hc:X.calm=true)(hi:PI X tg iter wi)(hg:PG X tg g)(hb:PSs X body tb)
    (hs:∀ x,foldedSetIterable iter X.env x=pure x:=by intro _;rfl):PS X (.For tg iter body [] pos) (L8 wi g tb):=by
  intro pins s σ H D I h
  refine wpAny_For (thn (hi pins s σ H _ I h) fun v s1 h1=>thn h1 fun itv s2 h2=>?_) hs
  obtain ⟨it,fp,tn,J,H2,e,I2,T,st2,f2,W,⟨m0,w0⟩,turn⟩:=h2
  subst e
  -- what stays true of the iterator's objects through the loop
  have iz:∀ {H':Hp},(∀ b∈fp,H' b=none)→∀ b∈fp,jX X pins H' b:=fun hn b hb=>⟨hn b hb,(f2 b hb).2⟩
  refine codeAny_forLoop_any (fun n s'=>∃ i σ' H',Inv X pins σ' H' s'∧tn i s'.heap∧(∀ b∈fp,H' b=none)∧W i n σ' H') ?_ m0 ⟨0,σ,H2,I2,st2,fun b hb=>(f2 b hb).1,w0⟩
  rintro n s3 ⟨i,σ3,H3,I3,st3,fr3,w3⟩
  rcases turn i n σ3 H3 w3 with ⟨stop,qn⟩ | ⟨go,N,hN,step⟩
  · refine wpAny_passesOwn hp (thn (T.done X rfl rfl rfl hc i pins s3 σ3 H3 X.xe I3 (iz fr3) st3 stop) fun r s4 ⟨hr,I4⟩=>?_)
    subst hr
    exact wpAny_execs_nil ⟨σ3,H3,I4,qn⟩
  · refine wpAny_passesOwn hp (thn (T.item X rfl rfl rfl hc i pins s3 σ3 H3 X.xe I3 (iz fr3) st3 go) fun r s4 ⟨u,hr,h4⟩=>?_)
    subst hr
    refine wpAny_passesOwn hp (thn h4 fun _ s5 ⟨x,H5,I5,r5,y5,st5,fr5⟩=>?_)
    have I5':=I5.pinned (iz fr5) (T.obj _ _ st5)
    refine wpAny_passesOwn hp (thn (hg _ s5 σ3 H5 x u _ I5' r5 (step x H5 y5)) fun _ s6 ⟨σ6,H6,I6,q6⟩=>?_)
    refine wpAny_passesOwn hp (thn (hb _ s6 σ6 H6 _ I6 q6) fun f s7 q7=>?_)
    have again:∀ {σ7:St} {H7:Hp},Inv X (pins++iE fp s5.heap) σ7 H7 s7→N σ7 H7→∃ m,m < n∧∃ i σ' H',Inv X pins σ' H' s7∧tn i s7.heap∧(∀ b∈fp,H' b=none)∧W i m σ' H':=fun {σ7 H7} I7 n7=>by
      obtain ⟨m',hm,w7⟩:=hN σ7 H7 n7
      refine ⟨m',hm,i+1,σ7,H7,I7.dD,T.keep _ _ _ st5 fun b hb o e=>(I7.pin (b,o) (List.mem_append_right _ (List.mem_append_right _ (bN hb e)))).1,fun b hb=>?_,w7⟩
      obtain ⟨o,e,d⟩:=T.obj _ _ st5 b hb
      exact (I7.pin (b,o) (List.mem_append_right _ (List.mem_append_right _ (bN hb e)))).2.1
    cases f with
    | next=>obtain ⟨σ7,H7,I7,n7⟩:=q7;exact again I7 n7
    | cont=>obtain ⟨σ7,H7,I7,n7⟩:=q7;exact again I7 n7
    | brk=>obtain ⟨σ7,H7,I7,q7⟩:=q7;exact ⟨σ7,H7,I7.dD,q7⟩
    | ret v=>obtain ⟨x7,σ7,H7,I7,r7,q7⟩:=q7;exact ⟨x7,σ7,H7,I7.dD,r7,q7⟩
end
end L2
namespace L2
open PySem PySem.Spec PyProof.Rows
abbrev R2:=V→V→Hp→VK→Prop
def OpR (X:Cx)(f:Value→Value→Sem Value)(r:R2):Prop:=
  ∀ (pins:List (Addr×Obj)) (s:Shared) (σ:St) (H:Hp) (x y:V) (v u:Value) (Q:VK),Inv X pins σ H s→RelV x v→RelV y u→r x y H Q→
    wpAny (model X.prog X.w) X.A (f v u) (EP X pins σ Q) X.xe s
def UnR (X:Cx)(f:Value→Sem Value)(r:V→Hp→VK→Prop):Prop:=
  ∀ (pins:List (Addr×Obj)) (s:Shared) (σ:St) (H:Hp) (x:V) (v:Value) (Q:VK),Inv X pins σ H s→RelV x v→r x H Q→
    wpAny (model X.prog X.w) X.A (f v) (EP X pins σ Q) X.xe s
def bI (X:Cx)(f:Value)(r:List V→Hp→VK→Prop):Prop:=
  ∀ (pins:List (Addr×Obj)) (s:Shared) (σ:St) (H:Hp) (xs:List V) (us:List Value) (Q:VK),Inv X pins σ H s→Vals xs us→r xs H Q→
    wpAny (model X.prog X.w) X.A (call f us) (EP X pins σ Q) X.xe s
def tOp (r:R2)(ta tb:TE):TE:=fun σ H Q=>ta σ H fun x H1=>tb σ H1 fun y H2=>r x y H2 Q
def tUn (r:V→Hp→VK→Prop)(ta:TE):TE:=fun σ H Q=>ta σ H fun x H1=>r x H1 Q
def rI (C:Int→Int→Prop)(g:Int→Int→V):R2:=fun x y H Q=>∃ i j,x=.int i∧y=.int j∧C i j∧Q (g i j) H
def rI0 (g:Int→Int→V):R2:=fun x y H Q=>∃ i j,x=.int i∧y=.int j∧Q (g i j) H
def rU (g:Int→V):V→Hp→VK→Prop:=fun x H Q=>∃ i,x=.int i∧Q (g i) H
section
variable {X:Cx} {a b c:Expr} {ta tb tc:TE} {pos:Pos}
theorem IM (ha:PE X a ta)(hb:PE X b tb){pins:List (Addr×Obj)}{s:Shared}{σ:St}{H:Hp}{R:V→V→Hp→Prop}(I:Inv X pins σ H s)
    (h:ta σ H fun x H1=>tb σ H1 fun y H2=>R x y H2) {Q:Value→Shared→Prop} {f:Value→Value→Sem Value}
    (hf:∀ v u s2 x y H2,Inv X pins σ H2 s2→RelV x v→RelV y u→R x y H2→wpAny (model X.prog X.w) X.A (f v u) Q X.xe s2) :
    wpAny (model X.prog X.w) X.A (eval a X.env) (fun v s₁=>wpAny (model X.prog X.w) X.A (eval b X.env) (fun u s₂=>wpAny (model X.prog X.w) X.A (f v u) Q X.xe s₂) X.xe s₁) X.xe s:=by
  refine thn (ha pins s σ H _ I h) fun v s1 ⟨x,H1,I1,r1,q1⟩=>?_
  refine thn (hb pins s1 σ H1 _ I1 q1) fun u s2 ⟨y,H2,I2,r2,q2⟩=>?_
  exact hf v u s2 x y H2 I2 r1 r2 q2
theorem FX {op:Operator}{r:R2}(ho:OpR X (binaryOp op) r)(ha:PE X a ta)(hb:PE X b tb):PE X (.BinOp a op b pos) (tOp r ta tb):=by
  intro pins s σ H Q I h
  exact wpAny_BinOp (IM ha hb I h fun v u s2 x y H2 I2 rx ry q=>ho pins s2 σ H2 x y v u Q I2 rx ry q)
theorem J3 {op:UnaryOp}{r:V→Hp→VK→Prop}(ho:UnR X (unaryOp op) r)(ha:PE X a ta):PE X (.UnaryOp op a pos) (tUn r ta):=by
  intro pins s σ H Q I h
  exact UnaryOp_ (thn (ha pins s σ H _ I h) fun v s1 ⟨x,H1,I1,r1,q1⟩=>ho pins s1 σ H1 x v Q I1 r1 q1)
theorem opI {f:Value→Value→Sem Value}{C:Int→Int→Prop}{g:Int→Int→Int}
    (rule:∀ (i j:Int) (t u:Tok) (s:Shared) (Q:Value→Shared→Prop) (E:Value→Shared→Prop),C i j→Q (.int (g i j) s.toks) { s with toks:=s.toks+1 }→wpAny (model X.prog X.w) X.A (f (.int i t) (.int j u)) Q E s) :
    OpR X f (rI C fun i j=>.int (g i j)):=by
  intro pins s σ H x y v u Q I rx ry h
  obtain ⟨i,j,rfl,rfl,hc,q⟩:=h
  obtain ⟨t,rfl⟩:=rx
  obtain ⟨t',rfl⟩:=ry
  exact rule i j t t' s _ _ hc ⟨.int (g i j),H,I.tok _,⟨_,rfl⟩,q⟩
theorem Gr {f:Value→Value→Sem Value}{g:Int→Int→Int}
    (rule:∀ (i j:Int) (t u:Tok) (s:Shared) (Q:Value→Shared→Prop) (E:Value→Shared→Prop),Q (.int (g i j) s.toks) { s with toks:=s.toks+1 }→wpAny (model X.prog X.w) X.A (f (.int i t) (.int j u)) Q E s) :
    OpR X f (rI0 fun i j=>.int (g i j)):=by
  intro pins s σ H x y v u Q I rx ry h
  obtain ⟨i,j,rfl,rfl,q⟩:=h
  obtain ⟨t,rfl⟩:=rx
  obtain ⟨t',rfl⟩:=ry
  exact rule i j t t' s _ _ ⟨.int (g i j),H,I.tok _,⟨_,rfl⟩,q⟩
theorem Dt {f:Value→Value→Sem Value}{g:Int→Int→Bool}
    (rule:∀ (i j:Int) (t u:Tok) (s:Shared) (Q:Value→Shared→Prop) (E:Value→Shared→Prop),Q (.bool (g i j)) s→wpAny (model X.prog X.w) X.A (f (.int i t) (.int j u)) Q E s) :
    OpR X f (rI0 fun i j=>.bl (g i j)):=by
  intro pins s σ H x y v u Q I rx ry h
  obtain ⟨i,j,rfl,rfl,q⟩:=h
  obtain ⟨t,rfl⟩:=rx
  obtain ⟨t',rfl⟩:=ry
  exact rule i j t t' s _ _ ⟨.bl (g i j),H,I,rfl,q⟩
def J1 (i j:Int):Prop:=0≤j∧j≤1000000∧i.natAbs < 2 ^ 64
def JP (i j:Int):Prop:=(-(2 ^ 64) < i∧i < 2 ^ 64)∨(-(2 ^ 64) < j∧j < 2 ^ 64)
theorem JP.ok {i j:Int}(h:JP i j):IntMulOk i j:=by
  rcases h with ⟨h1,h2⟩ | ⟨h1,h2⟩
  · exact .of_left (intBits_le_64 h1 h2)
  · exact .of_right (intBits_le_64 h1 h2)
theorem uY (k:Nat):(0:Int)≤2 ^ k:=by
  rw[two_pow_cast]
  exact Int.natCast_nonneg _
theorem GJ:OpR X (binaryOp .Add) (rI0 fun i j=>.int (i+j)):=Gr fun _ _ _ _ _ _ _ q=>add_int q
theorem HJ:OpR X (binaryOp .Sub) (rI0 fun i j=>.int (i - j)):=Gr fun _ _ _ _ _ _ _ q=>sub_int q
theorem D5:OpR X (binaryOp .Mod) (rI (fun _ j=>j≠0) fun i j=>.int (i.fmod j)):=opI fun _ _ _ _ _ _ _ hc q=>mod_int' hc q
theorem Hv:OpR X (binaryOp .Pow) (rI J1 fun i j=>.int (i ^ j.toNat)):=opI fun _ _ _ _ _ _ _ hc q=>pow_int_small hc.1 hc.2.1 hc.2.2 q
theorem BJ:OpR X (binaryOp .LShift) (rI J1 fun i j=>.int (i*2 ^ j.toNat)):=opI fun _ _ _ _ _ _ _ hc q=>lshift_int_small hc.1 hc.2.1 hc.2.2 q
theorem BX:OpR X (binaryOp .RShift) (rI (fun _ j=>0≤j) fun i j=>.int (i / 2 ^ j.toNat)):=opI fun i j _ _ _ _ _ hc q=>
  rshift_int hc (by rw[Int.fdiv_eq_ediv_of_nonneg i (uY _)];exact q)
theorem unI {f:Value→Sem Value}{g:Int→Int}
    (rule:∀ (i:Int) (t:Tok) (s:Shared) (Q:Value→Shared→Prop) (E:Value→Shared→Prop),Q (.int (g i) s.toks) { s with toks:=s.toks+1 }→wpAny (model X.prog X.w) X.A (f (.int i t)) Q E s) :
    UnR X f (rU fun i=>.int (g i)):=by
  intro pins s σ H x v Q I rx h
  obtain ⟨i,rfl,q⟩:=h
  obtain ⟨t,rfl⟩:=rx
  exact rule i t s _ _ ⟨.int (g i),H,I.tok _,⟨_,rfl⟩,q⟩
theorem HP:UnR X (unaryOp .USub) (rU fun i=>.int (-i)):=unI fun _ _ _ _ _ q=>neg_int q
end
def K3:V→V→Bool
  | .non,.non=>true | .non,.int _=>true | .int _,.non=>true | .non,.bl _=>true | .bl _,.non=>true | .non,.str _=>true | .str _,.non=>true
  | .int _,.int _=>true | .bl _,.bl _=>true | .str _,.str _=>true | .byt _,.byt _=>true
  | .int _,.str _=>true | .str _,.int _=>true | .bl _,.str _=>true | .str _,.bl _=>true
  | _,_=>false
def rEq:R2:=fun x y H Q=>K3 x y=true∧Q (.bl (decide (x=y))) H
def rNe:R2:=fun x y H Q=>K3 x y=true∧Q (.bl (!decide (x=y))) H
section
variable {X:Cx} {a b c:Expr} {ta tb tc:TE} {pos:Pos}
theorem BQ {pins:List (Addr×Obj)}{σ:St}{H:Hp}{s:Shared}{Q:VK}{k k':Bool}(I:Inv X pins σ H s)(q:Q (.bl k) H)(e:k=k'):EP X pins σ Q (.bool k') s:=by
  subst e
  exact ⟨.bl k,H,I,rfl,q⟩
theorem F8:OpR X (compareOp .Lt) (rI0 fun i j=>.bl (decide (i < j))):=Dt fun _ _ _ _ _ _ _ q=>lt_int q
theorem FV:OpR X (compareOp .LtE) (rI0 fun i j=>.bl (decide (i≤j))):=Dt fun _ _ _ _ _ _ _ q=>le_int q
theorem Kv:OpR X (compareOp .Gt) (rI0 fun i j=>.bl (decide (j < i))):=Dt fun _ _ _ _ _ _ _ q=>gt_int q
theorem FP:OpR X (compareOp .GtE) (rI0 fun i j=>.bl (decide (j≤i))):=Dt fun _ _ _ _ _ _ _ q=>ge_int q
theorem IC:OpR X (compareOp .Is) (fun x y H Q=>y=.non∧Q (.bl (decide (x=.non))) H):=by
  intro pins s σ H x y v u Q I rx ry h
  obtain ⟨rfl,q⟩:=h
  cases ry
  refine is_none_gen (BQ I q ?_)
  cases x<;>first
    | (cases rx;rfl)
    | (obtain ⟨t,rfl⟩:=rx;rfl)
theorem xt:OpR X (compareOp .IsNot) (fun x y H Q=>y=.non∧Q (.bl (!decide (x=.non))) H):=by
  intro pins s σ H x y v u Q I rx ry h
  obtain ⟨rfl,q⟩:=h
  cases ry
  refine isnot_none_gen (BQ I q ?_)
  cases x<;>first
    | (cases rx;rfl)
    | (obtain ⟨t,rfl⟩:=rx;rfl)
theorem OpR.or {f:Value→Value→Sem Value}{r r':R2}(h:OpR X f r)(h':OpR X f r'):OpR X f (fun x y H Q=>r x y H Q∨r' x y H Q):=by
  intro pins s σ H x y v u Q I rx ry q
  rcases q with q | q
  · exact h pins s σ H x y v u Q I rx ry q
  · exact h' pins s σ H x y v u Q I rx ry q
theorem cL (b:Expr){op:CmpOp}(h:op≠.In:=by decide)(h2:op≠.NotIn:=by decide):behindInMarks op b=false:=by
  have e1:(op == CmpOp.In)=false:=by cases op<;>first | rfl | exact absurd rfl h
  have e2:(op == CmpOp.NotIn)=false:=by cases op<;>first | rfl | exact absurd rfl h2
  cases b<;>simp[behindInMarks,e1,e2]
theorem EG {op:CmpOp}{r:R2}(ho:OpR X (compareOp op) r)(ha:PE X a ta)(hb:PE X b tb)(hm:behindInMarks op b=false):PE X (.Compare a [op] [b] pos) (tOp r ta tb):=by
  intro pins s σ H Q I h
  exact wpAny_Compare1 (IM ha hb I h fun v u s2 x y H2 I2 rx ry q=>ho pins s2 σ H2 x y v u Q I2 rx ry q) hm
def FK (t:TE):TT:=fun σ H Q=>t σ H fun x H'=>∃ k,x=.bl k∧Q k H'
theorem Ef {op:CmpOp}{r:R2}(ho:OpR X (compareOp op) r)(ha:PE X a ta)(hb:PE X b tb)(hm:behindInMarks op b=false):PT X (.Compare a [op] [b] pos) (FK (tOp r ta tb)):=by
  intro pins s σ H Q I h
  refine wpAny_isTrue_Compare1 (thn (ha pins s σ H _ I h) fun v s1 ⟨x,H1,I1,r1,q1⟩=>thn (hb pins s1 σ H1 _ I1 q1) fun u s2 ⟨y,H2,I2,r2,q2⟩=>
    thn (ho pins s2 σ H2 x y v u _ I2 r1 r2 q2) fun c s3 ⟨z,H3,I3,r3,k,e,q3⟩=>?_) hm
  subst e
  cases r3
  exact wpAny_truthy_bool ⟨H3,I3,q3⟩
theorem jI:(sizeLine:Nat) < 2 ^ 63:=by rw[sizeLine_eq];decide
theorem vG:OpR X (binaryOp .Add) (fun x y H Q=>∃ i j,x=.str i∧y=.str j∧i.length+j.length≤sizeLine∧Q (.str (i++j)) H):=by
  intro pins s σ H x y v u Q I rx ry h
  obtain ⟨i,j,rfl,rfl,hz,q⟩:=h
  obtain ⟨t,rfl⟩:=rx
  obtain ⟨t',rfl⟩:=ry
  exact add_str (fun t' tk=>⟨.str (i++j),H,I.tok _,⟨_,rfl⟩,q⟩) hz
theorem vals1 {x:V}{us:List Value}(r:Vals [x] us):∃ u,us=[u]∧RelV x u:=by
  cases r with
  | cons r1 r2=>cases r2;exact ⟨_,rfl,r1⟩
theorem vals2 {x y:V}{us:List Value}(r:Vals [x,y] us):∃ u w',us=[u,w']∧RelV x u∧RelV y w':=by
  cases r with
  | cons r1 r2=>
    cases r2 with
    | cons r3 r4=>cases r4;exact ⟨_,_,rfl,r1,r3⟩
theorem iS:bI X (.builtin "abs") (fun xs H Q=>∃ i,xs=[.int i]∧Q (.int (if i < 0 then -i else i)) H):=by
  intro pins s σ H xs us Q I r h
  obtain ⟨i,rfl,q⟩:=h
  obtain ⟨u,rfl,t,rfl⟩:=vals1 r
  exact call_abs_int fun u tk=>⟨.int (if i < 0 then -i else i),H,I.tok _,⟨_,rfl⟩,q⟩
theorem jT (hc:X.calm=true):bI X (.builtin "max") (fun xs H Q=>∃ i j,xs=[.int i,.int j]∧Q (.int (if j > i then j else i)) H):=by
  intro pins s σ H xs us Q I r h
  obtain ⟨i,j,rfl,q⟩:=h
  obtain ⟨u,w',rfl,⟨t,rfl⟩,⟨t',rfl⟩⟩:=vals2 r
  refine max_two_ints (I.ok.hd hc) fun h' tk k=>⟨_,H,I.kept k,?_,q⟩
  by_cases hj:j > i
  · rw[if_pos hj,if_pos hj];exact ⟨_,rfl⟩
  · rw[if_neg hj,if_neg hj];exact ⟨_,rfl⟩
theorem gF (hc:X.calm=true):bI X (.builtin "min") (fun xs H Q=>∃ i j,xs=[.int i,.int j]∧Q (.int (if j < i then j else i)) H):=by
  intro pins s σ H xs us Q I r h
  obtain ⟨i,j,rfl,q⟩:=h
  obtain ⟨u,w',rfl,⟨t,rfl⟩,⟨t',rfl⟩⟩:=vals2 r
  refine min_two_ints (I.ok.hd hc) fun h' tk k=>⟨_,H,I.kept k,?_,q⟩
  by_cases hj:j < i
  · rw[if_pos hj,if_pos hj];exact ⟨_,rfl⟩
  · rw[if_neg hj,if_neg hj];exact ⟨_,rfl⟩
end
end L2
namespace L2
open PySem PySem.Spec PyProof.Rows
structure KU (h:Heap) (x dx C:Addr) (mA:Str→Option Value):Prop where
  obj:h.get? x=some (PySem.W.instObj C dx)
  ns:h.Ns1 dx mA
  ne:dx≠x
theorem zG {h:Heap}{dx:Addr}{mA:Str→Option Value}(n:h.Ns1 dx mA):∃ od,h.get? dx=some od∧∀ name,PySem.W.lookIn name od=some (mA name):=by
  obtain ⟨o,es,ep,ho,hd,hk,_,hm⟩:=n
  refine ⟨o,ho,fun name=>?_⟩
  have e:=hm name
  unfold nsFind findBy at e
  rw[← Array.find?_toList] at e
  unfold PySem.W.lookIn
  rw[hd]
  dsimp only
  split
  · rename_i y q
    rw[q] at e
    exact congrArg some e
  · rename_i q
    rw[q] at e
    have a:es.toList.any (·.refKey)=false:=by
      rw[List.any_eq_false]
      intro y hy
      obtain ⟨z,t,hkey⟩:=hk y (Array.mem_toList_iff.mp hy)
      simp[DictEntry.refKey,hkey]
    have a':¬ es.toList.any (·.refKey)=true:=by rw[a];exact Bool.false_ne_true
    rw[if_neg a']
    exact congrArg some e
theorem KU.look {h:Heap}{x dx C:Addr}{mA:Str→Option Value}(I:KU h x dx C mA):∃ od,PySem.W.InstAt h x (PySem.W.instObj C dx) C (some od)∧∀ name,PySem.W.lookIn name od=some (mA name):=
  let ⟨od,ho,hl⟩:=zG I.ns
  ⟨od,⟨I.obj,rfl,rfl,ho⟩,hl⟩
section
variable {prog:Program} {w:World} {A:Around} {E:Value→Shared→Prop} {s:Shared} {K:PySem.W.Frag} {x dx C f:Addr} {mA:Str→Option Value} {name:Str} {v:Value}
end
theorem lB.some_of {v:V}{o:Option Value}(r:lB (some v) o):∃ u,o=some u∧RelV v u:=by
  cases o with
  | none=>exact (show False from r).elim
  | some u=>exact ⟨u,rfl,r⟩
section
variable {P:Program} {w:World} {H H':Hp} {h h':Heap} {a C dx:Addr} {fs fs':List (Str×V)}
end
structure Cls (K:PySem.W.Frag) (C:Addr):Prop where
  pg:PySem.W.plainGet K C Str.empty=true
  hd:PySem.W.hasDictIn K C=true
  po:PySem.W.plainOver K C=true
  sa:PySem.W.findIn K (.ref C) "__setattr__" = some (some (.builtin "object.__setattr__"))
theorem Cls.get {K:PySem.W.Frag}{C:Addr}(c:Cls K C)(f:Str):PySem.W.plainGet K C f=true:=c.pg
section
variable {X:Cx} {pins:List (Addr×Obj)} {σ:St} {H:Hp} {s:Shared} {a C dx:Addr} {fs:List (Str×V)} {f:Str} {v:V} {A:Around} {E:Value→Shared→Prop}
end
section
variable {X:Cx} {o e value:Expr} {f:Str} {pos pos' tpos:Pos} {ta tv:TE}
def eK:V→V→Hp→VK→Prop:=fun x y H Q=>∃ i j,x=.int i∧y=.int j∧Q (.int (i - j)) H
end
section
variable {X:Cx} {pins:List (Addr×Obj)} {σ:St} {H:Hp} {s:Shared} {A:Around} {E:Value→Shared→Prop} {Q:Value→Shared→Prop} {c:Value} {b:Bool}
end
end L2
namespace L2
open PySem PySem.Spec PyProof.Rows
structure c6 (k:Nat) (A:Around):Prop where
  hd:A.handled=none
  dp:A.depth+3*k+5 < recursionLimit
  un:A.units+16*k+200 < cLine
theorem c6.mono {j k:Nat}{A:Around}(r:c6 k A)(h:j≤k):c6 j A:=⟨r.hd,by have:=r.dp;omega,by have:=r.un;omega⟩
theorem c6.deeper {k:Nat}{A:Around}(r:c6 (k+1) A)(env:Env):c6 k (A.deeper env):=
  ⟨r.hd,by have:=r.dp;show A.depth+1+3*k+5 < _;omega,by have:=r.un;show A.units+3+16*k+200 < _;omega⟩
theorem c6.in1 {k:Nat}{A:Around}(r:c6 (k+1) A):c6 k A.in1:=
  ⟨r.hd,by have:=r.dp;show A.depth+3*k+5 < _;omega,by have:=r.un;show A.units+1+16*k+200 < _;omega⟩
theorem c6.depth {k:Nat}{A:Around}(r:c6 k A):A.depth < recursionLimit:=by have:=r.dp;omega
theorem c6.units {k:Nat}{A:Around}(r:c6 k A):A.units+64 < cLine:=by have:=r.un;omega
def Mh:TA:=fun _ H Q=>Q [] H
def JO (ta:TE)(tr:TA):TA:=fun σ H Q=>ta σ H fun x H1=>tr σ H1 fun xs H2=>Q (x::xs) H2
section
variable {X:Cx} {e:Expr} {es:List Expr} {te:TE} {t:TA} {pos:Pos}
theorem gq:PA X [] Mh:=fun _ _ _ _ H Q I h=>Calls.spliced_nil ⟨[],H,I,.nil,h⟩
theorem cS (ha:PE X e te)(hr:PA X es t)(hs:starEach (e::es) X.env=(false,eval e X.env)::starEach es X.env:=by rfl):PA X (e::es) (JO te t):=by
  intro pos pins s σ H Q I h
  rw[hs]
  show wpAny _ _ (spliced ((false,eval e X.env)::backTo pos (starEach es X.env))) _ _ s
  refine Calls.spliced_cons (thn (ha pins s σ H _ I h) fun u s1 ⟨x,H1,I1,r1,q1⟩=>?_)
  exact thn (hr pos pins s1 σ H1 _ I1 q1) fun us s2 ⟨xs,H2,I2,r2,q2⟩=>⟨x::xs,H2,I2,.cons r1 r2,q2⟩
def Lk (t:TA):TE:=fun σ H Q=>t σ H fun xs H1=>xs.length≤sizeLine∧∀ p,H1 p=none→Q (.ref p) (upd H1 p (.tup xs))
def LU (t:TA):TE:=fun σ H Q=>t σ H fun xs H1=>xs.length≤sizeLine∧∀ p,H1 p=none→Q (.ref p) (upd H1 p (.lst xs))
theorem Hy {x1}(h:PA X es t):PE X (.Tuple es x1 pos) (Lk t):=by
  intro pins s σ H Q I hq
  refine wpAny_Tuple_spliced (thn (h pos pins s σ H _ I hq) fun us s1 ⟨xs,H1,I1,r,z,q⟩=>⟨by rw[← r.length];exact z,?_⟩)
  have hf:H1 s1.heap.objs.size=none:=I1.hok.fresh (Nat.le_refl _)
  refine ⟨.ref s1.heap.objs.size,upd H1 s1.heap.objs.size (.tup xs),I1.laid (t':=s1.toks) (fun b u e=>Heap.get?_push_of_some _ e) (Nat.le_refl _) ?_,rfl,q _ hf⟩
  exact ⟨z,us,r,⟨_,Heap.get?_push_size _ rfl⟩⟩
theorem Cj (h:PA X es t):PE X (.List es pos) (LU t):=by
  intro pins s σ H Q I hq
  refine wpAny_List_spliced (thn (h pos pins s σ H _ I hq) fun us s1 ⟨xs,H1,I1,r,z,q⟩=>⟨by rw[← r.length];exact z,?_⟩)
  have hf:H1 s1.heap.objs.size=none:=I1.hok.fresh (Nat.le_refl _)
  refine ⟨.ref s1.heap.objs.size,upd H1 s1.heap.objs.size (.lst xs),I1.laid (t':=s1.toks) (fun b u e=>Heap.get?_push_of_some _ e) (Nat.le_refl _) ?_,rfl,q _ hf⟩
  exact ⟨z,us,0,r,Heap.get?_push_size _ rfl⟩
end
abbrev Sp:=List V→Hp→VK→XK→Prop
abbrev CXT:=List Env→Hp→Shared→XK→Value→Shared→Prop
structure vd (P:Program) (w:World) (K:PySem.W.Frag) (mg:Str→Option Value) (base:Heap) (A:Around) (outer:List Env) (s:Shared) (H:Hp):Prop where
  frames:A.frames=some outer
  mod:Mod K mg base
  bs:∀ b o,base.get? b=some o→s.heap.get? b=some o∧H b=none
  bsz:base.objs.size≤s.heap.objs.size
  kT:s.heap.FunFrames base outer
  frf:∀ b∈frs outer,H b=none
  hok:HOk P w H s.heap
  bare:AllBare s.gens
def CE (outer:List Env)(P:Program)(w:World)(H:Hp)(s:Shared)(Q:VK)(u:Value)(s':Shared):Prop:=
  ∃ v H',s'.os=s.os∧AllBare s'.gens∧Un (frs outer) [] H H' s.heap s'.heap∧HOk P w H' s'.heap∧RelV v u∧Q v H'
def CR (CX:CXT)(outer:List Env)(P:Program)(w:World)(H:Hp)(s:Shared)(Q:VK)(E:XK)(r:Result)(s':Shared):Prop:=
  match r with
  | .ok (.ret u)=>CE outer P w H s Q u s'
  | .ok _=>False
  | .error e=>CX outer H s E e s'
structure fM (P:Program) (w:World) (K:PySem.W.Frag) (mg:Str→Option Value) (base:Heap) (CX:CXT) (k:Nat) (f:Addr) (fd:FuncData) (ps:List Str) (sp:Sp):Prop where
  len:∀ vs H Q E,sp vs H Q E→vs.length=ps.length
  run:∀ (A:Around) (outer:List Env) (s:Shared) (H:Hp) (args:Args) (us:List Value) (vs:List V) (Q:VK) (E:XK),c6 k A→vd P w K mg base A outer s H→BindsTo s fd args (ps.zip us)→Vals vs us→sp vs H Q E→
    codeAny (model P w) A (.call (.ref f) args) (CR CX outer P w H s Q E) s
theorem fM.mono {P:Program}{w:World}{K:PySem.W.Frag}{mg:Str→Option Value}{base:Heap}{CX:CXT}{j k:Nat}{f:Addr}{fd:FuncData}{ps:List Str}{sp:Sp}(F:fM P w K mg base CX j f fd ps sp)(h:j≤k) :
    fM P w K mg base CX k f fd ps sp:=⟨F.len,fun A outer s H args us vs Q E hr=>F.run A outer s H args us vs Q E (hr.mono h)⟩
theorem fM.imp {P:Program}{w:World}{K:PySem.W.Frag}{mg:Str→Option Value}{base:Heap}{CX:CXT}{k:Nat}{f:Addr}{fd:FuncData}{ps:List Str}{sp sp':Sp}(F:fM P w K mg base CX k f fd ps sp)
    (h:∀ vs H Q E,sp' vs H Q E→sp vs H Q E):fM P w K mg base CX k f fd ps sp':=
  ⟨fun vs H Q E q=>F.len vs H Q E (h _ _ _ _ q),fun A outer s H args us vs Q E hr he hb hv hs=>F.run A outer s H args us vs Q E hr he hb hv (h _ _ _ _ hs)⟩
theorem vd.in1 {P:Program}{w:World}{K:PySem.W.Frag}{mg:Str→Option Value}{base:Heap}{A:Around}{outer:List Env}{s:Shared}{H:Hp}(e:vd P w K mg base A outer s H) :
    vd P w K mg base A.in1 outer s H:=⟨e.frames,e.mod,e.bs,e.bsz,e.kT,e.frf,e.hok,e.bare⟩
section
variable {X:Cx} {pins:List (Addr×Obj)} {σ:St} {H:Hp} {s s':Shared}
theorem Inv.LX (I:Inv X pins σ H s):vd X.prog X.w X.K X.mg X.base X.A X.stack s H:=
  ⟨I.ok.frames,I.ok.mod,I.bs,Nat.le_trans I.ok.bsz I.sz,I.stack,I.lH,I.hok,I.bare⟩
theorem Inv.after {Q:VK}{u:Value}(I:Inv X pins σ H s)(h:CE X.stack X.prog X.w H s Q u s'):EP X pins σ Q u s':=by
  obtain ⟨v,H',os,bare,un,hok,r,q⟩:=h
  obtain ⟨hh,g,d,t,os'⟩:=s'
  obtain rfl:os'=s.os:=os
  exact ⟨v,H',I.call (h':=hh) (g':=g) (d':=d) (t':=t) (ch:=[]) un hok bare (fun b z=>absurd z (by simp)),r,q⟩
end
def JC (sp:Sp)(dvs:List V)(E:XK)(t:TA):TE:=fun σ H Q=>t σ H fun vs H1=>sp (vs++dvs) H1 Q E
def Binds (K:PySem.W.Frag)(fd:FuncData)(ps:List Str)(ds:List Value):Prop:=
  ∀ (s:Shared) (us:List Value),K.In s.heap→(us++ds).length=ps.length→BindsTo s fd ⟨us,[]⟩ (ps.zip (us++ds))
theorem Binds.all {K:PySem.W.Frag}{fd:FuncData}{ps:List Str}(h:∀ us:List Value,us.length=ps.length→bindArgs fd ⟨us,[]⟩=pure (ps.zip us)):Binds K fd ps []:=fun s us _ hl=>by
  rw[List.append_nil] at hl ⊢
  exact .of_eq (h us hl)
def Passes (CX:CXT)(X:Cx)(E:XK):Prop:=∀ (pins:List (Addr×Obj)) (σ:St) (H:Hp) (s:Shared) (e:Value) (s':Shared),Inv X pins σ H s→CX X.stack H s E e s'→X.xe e s'
section
variable {X:Cx} {CX:CXT} {k:Nat} {f C:Addr} {fd:FuncData} {ps:List Str} {sp:Sp} {dvs:List V} {ds:List Value} {E:XK} {x m:Str} {p pos apos:Pos} {e o:Expr} {es:List Expr} {ta:TE} {t:TA}
theorem Jc {pins:List (Addr×Obj)}{σ:St}{H:Hp}{s:Shared}{Q:VK}{us:List Value}{vs:List V}(F:fM X.prog X.w X.K X.mg X.base CX k f fd ps sp)(hr:c6 k X.A)(hb:Binds X.K fd ps ds)(hd:Vals dvs ds)(hx:Passes CX X E)
    (I:Inv X pins σ H s) (r:Vals vs us) (h:sp (vs++dvs) H Q E):wpAny (model X.prog X.w) X.A (call (.ref f) us) (EP X pins σ Q) X.xe s:=by
  have r2:Vals (vs++dvs) (us++ds):=r.append hd
  have hl:(us++ds).length=ps.length:=by rw[← r2.length];exact F.len _ _ _ _ h
  refine wpAny_call (codeAny_mono (F.run X.A X.stack s H ⟨us,[]⟩ (us++ds) (vs++dvs) Q E hr I.LX (hb s us I.kIn hl) r2 h) fun r s' hq=>?_)
  cases r with
  | error e=>exact hx pins σ H s e s' I hq
  | ok fl=>
    cases fl with
    | ret u=>exact I.after hq
    | next=>exact False.elim hq
    | brk=>exact False.elim hq
    | cont=>exact False.elim hq
theorem Eh (F:fM X.prog X.w X.K X.mg X.base CX k f fd ps sp)(hr:c6 k X.A)(hg:Gl X x)(hm:X.mg x=some (.ref f))(hk:PySem.W.keepIn X.K (.ref f)=true)(hb:Binds X.K fd ps ds)(hd:Vals dvs ds)(hx:Passes CX X E)
    (ha:PA X (e::es) t) (hdb:(x == ("__debug__" : Str))=false:=by decide) (he:starEach (e::es) X.env=(false,eval e X.env)::starEach es X.env:=by rfl) (hpl:(backTo pos (starEach es X.env)).any (·.1)=false:=by rfl) :
    PE X (.Call (.Name x p) (e::es) [] pos) (JC sp dvs E t):=by
  intro pins s σ H Q I h
  refine wpAny_Call_Name_kw (xM I hg hm ?_ hdb)
  refine PySem.W.callWith_K (h₀:=X.base) I.ok.mod.kin hk (thn (ha pos pins s σ H _ I h) fun us s1 ⟨vs,H1,I1,r,q⟩=>⟨I1.kIn,?_⟩) he hpl
  exact Jc F hr hb hd hx I1 r q
end
section
variable {X:Cx} {CX:CXT} {k:Nat} {f C:Addr} {fd:FuncData} {ps ks:List Str} {sp:Sp} {E:XK} {x m:Str} {p pos apos kpos:Pos} {e o:Expr} {es:List Expr} {kws:List Keyword} {te ta:TE} {t tk:TA} {nm:Option Str}
variable {g:List Value→List Value→List Value} {gV:List V→List V→List V}
end
structure aC (N P:List Str) (sc:Scope):Prop where
  kind:sc.kind=.function
  co:sc.isCoroutine=false
  gen:sc.isGenerator=false
  nd:N.Nodup
  pre:N.take P.length=P
  par:∀ x∈P,sc.names.lookup x=some .local∨sc.names.lookup x=some .cell
  HR:∀ y∈sc.names,y.2≠.free
theorem pX {kindOf:Str→Option NameKind}{x:Str}:∀ {binds:List (Str×Value)} {m:Str→Option Value},(∀ v,(x,v) ∉ binds)→bindL kindOf binds m x=m x
  | [],_,_=>rfl
  | (n,v)::r,m,h=>by
    unfold bindL
    rw[pX fun w hw=>h w (List.mem_cons_of_mem _ hw)]
    split
    · have:x≠n:=by rintro rfl;exact h v List.mem_cons_self
      simp[this]
    · rfl
theorem pY {kindOf:Str→Option NameKind}{x:Str}:∀ {binds:List (Str×Value)} {m:Str→Option Value},(∀ v,(x,v) ∉ binds)→bindC kindOf binds m x=m x
  | [],_,_=>rfl
  | (n,v)::r,m,h=>by
    unfold bindC
    rw[pY fun w hw=>h w (List.mem_cons_of_mem _ hw)]
    split
    · rfl
    · have:x≠n:=by rintro rfl;exact h v List.mem_cons_self
      simp[this]
theorem pK {kindOf:Str→Option NameKind}{x:Str}{v:Value}:∀ {P:List Str} {vs:List Value} {i:Nat} {m:Str→Option Value},P.Nodup→P[i]? = some x→vs[i]? = some v→kindOf x=some .local→
    bindL kindOf (P.zip vs) m x=some v
  | [],_,_,_,_,h,_,_=>by simp at h
  | _::_,[],_,_,_,_,h,_=>by simp at h
  | p::P,w::vs,0,m,nd,h1,h2,hk=>by
    simp at h1 h2;subst h1;subst h2
    show bindL kindOf ((p,w)::P.zip vs) m p=_
    unfold bindL
    rw[pX fun v hv=>(List.nodup_cons.mp nd).1 (List.of_mem_zip hv).1,if_pos hk]
    simp
  | p::P,w::vs,i+1,m,nd,h1,h2,hk=>by
    show bindL kindOf ((p,w)::P.zip vs) m x=_
    unfold bindL
    exact pK (i:=i) (List.nodup_cons.mp nd).2 (by simpa using h1) (by simpa using h2) hk
theorem qw {kindOf:Str→Option NameKind}{x:Str}{v:Value}:∀ {P:List Str} {vs:List Value} {i:Nat} {m:Str→Option Value},P.Nodup→P[i]? = some x→vs[i]? = some v→kindOf x≠some .local→
    bindC kindOf (P.zip vs) m x=some v
  | [],_,_,_,_,h,_,_=>by simp at h
  | _::_,[],_,_,_,_,h,_=>by simp at h
  | p::P,w::vs,0,m,nd,h1,h2,hk=>by
    simp at h1 h2;subst h1;subst h2
    show bindC kindOf ((p,w)::P.zip vs) m p=_
    unfold bindC
    rw[pY fun v hv=>(List.nodup_cons.mp nd).1 (List.of_mem_zip hv).1,if_neg hk]
    simp
  | p::P,w::vs,i+1,m,nd,h1,h2,hk=>by
    show bindC kindOf ((p,w)::P.zip vs) m x=_
    unfold bindC
    exact qw (i:=i) (List.nodup_cons.mp nd).2 (by simpa using h1) (by simpa using h2) hk
def start (N:List Str)(vs:List V):St:=vs.map some++List.replicate (N.length - vs.length) none
def tW (CX:CXT)(P:Program)(w:World)(K:PySem.W.Frag)(mg:Str→Option Value)(base:Heap)(N:List Str)(qual:Str)(scope:Scope)(f:Addr)(cd:Value)(A:Around)(outer:List Env)(s:Shared)(H:Hp)(E:XK):Cx where
  prog:=P
  w:=w
  K:=K
  mg:=mg
  base:=base
  A:=A.deeper (envOfC qual scope s.heap.objs.size f cd)
  N:=N
  s₀:=s
  H₀:=H
  env:=envOfC qual scope s.heap.objs.size f cd
  outer:=outer
  stack:=envOfC qual scope s.heap.objs.size f cd::outer
  ex:=[]
  calm:=true
  fn:=fun _=>true
  pn:=[]
  xe:=fun e s'=>wpAny (model P w) (A.deeper (envOfC qual scope s.heap.objs.size f cd)) (leaving (envOfC qual scope s.heap.objs.size f cd) e) (fun _ s''=>CX outer H s E e s'') (fun e' s''=>CX outer H s E e' s'') s'
theorem sO {sc:Scope}{n:Nat}{x:Str}(h:sc.names.lookup x=some .cell):∃ c,(cellsFrom n sc.names []).lookup x=some c:=by
  have q:=PySem.W.cellsFrom_some sc.names n [] (.inl h)
  exact Option.isSome_iff_exists.mp q
theorem zL {CX:CXT}{P:Program}{w:World}{K:PySem.W.Frag}{mg:Str→Option Value}{base:Heap}{N ps:List Str}{qual:Str}{scope:Scope}{f:Addr}{cd:Value}{A:Around}{outer:List Env}{s s1:Shared}{H:Hp}{E:XK}{us:List Value}{vs:List V}
    (S:aC N ps scope) (hd:A.handled=none) (e0:vd P w K mg base A outer s H) (hl:vs.length=ps.length) (r:Vals vs us)
    (x:InCallC s s.heap.objs.size (bindL (envOfC qual scope s.heap.objs.size f cd).kindOf (ps.zip us) fun _=>none) (cellsFrom (s.heap.objs.size+1) scope.names []) (bindC (envOfC qual scope s.heap.objs.size f cd).kindOf (ps.zip us) fun _=>none) s1) :
    Inv (tW CX P w K mg base N qual scope f cd A outer s H E) [] (start N vs) H s1:=by
  have hpl:ps.length≤N.length:=by have:=congrArg List.length S.pre;rw[List.length_take] at this;omega
  obtain ⟨h1,tk,rfl,hk⟩:=x.done
  have noA:∀ b:Addr,b ∉ (tW CX P w K mg base N qual scope f cd A outer s H E).ex:=fun b z=>absurd (show b∈([]:List Addr) from z) (by simp)
  refine ⟨⟨e0.mod,S.kind,rfl,rfl,Nat.le_refl _,fun y z c h1 h2=>?_,fun y hy=>?_,fun y c _ h=>?_,fun _=>hd,Around.frames_deeper e0.frames,.inr ⟨rfl,rfl⟩,fun b z=>absurd z (noA b),e0.bs,e0.bsz,fun b _ _=>noA b,fun b z=>absurd z (noA b),e0.kT,e0.frf⟩,
    rfl,e0.bare,Un.kept hk,⟨_,x.toInCall.ns,fun i y v h1 h2 h3=>?_⟩,fun y c h=>⟨_,x.cell y c h⟩,e0.hok.fresh (Nat.le_refl _),fun y c h=>?_,fun p hp=>absurd (show p∈([]:List (Addr×Obj)) from hp) (by simp),e0.hok.kept hk,?_⟩
  · exact name_of_addr x.apart (PySem.mem_of_lookup h1) (PySem.mem_of_lookup h2)
  · have hy:scope.names.lookup y=some .cell∨scope.names.lookup y=some .free:=hy
    rcases hy with hy | hy
    · exact sO hy
    · exact absurd rfl (S.HR _ (PySem.mem_of_lookup hy))
  · exact Nat.le_of_lt (x.above y c (PySem.mem_of_lookup h))
  · have hi:i < vs.length:=by
      unfold start at h2
      by_cases hi:i < vs.length
      · exact hi
      · rw[List.getElem?_append_right (by simpa using hi)] at h2
        rw[List.getElem?_replicate] at h2
        split at h2<;>cases h2
    have ha:vs[i]? = some v:=by
      unfold start at h2
      rw[List.getElem?_append_left (by simpa using hi),List.getElem?_map] at h2
      cases e:vs[i]? with
      | none=>rw[e] at h2;cases h2
      | some a=>rw[e] at h2;cases h2;rfl
    obtain ⟨u,hu,rv⟩:=r.get ha
    have hp:ps[i]? = some y:=by
      rw[← S.pre,List.getElem?_take_of_lt (by omega)];exact h1
    have ndP:ps.Nodup:=by rw[← S.pre];exact S.nd.sublist (List.take_sublist _ _)
    refine ⟨u,rv,?_⟩
    rcases S.par y (List.mem_of_getElem? hp) with k | k
    · exact .inl ⟨k,pK ndP hp hu k⟩
    · obtain ⟨c,e⟩:=sO (n:=s.heap.objs.size+1) k
      refine .inr ⟨.inl k,c,e,?_⟩
      have q:=x.cell y c e
      rw[qw ndP hp hu (by show scope.names.lookup y≠_;rw[k];decide)] at q
      exact q
  · exact e0.hok.fresh (Nat.le_of_lt (x.above y c (PySem.mem_of_lookup h)))
  · unfold start
    show _=N.length
    rw[List.length_append,List.length_map,List.length_replicate]
    omega
theorem KJ {CX:CXT}{P:Program}{w:World}{K:PySem.W.Frag}{mg:Str→Option Value}{base:Heap}{k:Nat}{f:Addr}{name qual:Str}{params:Arguments}{body:List Stmt}{scope:Scope}{dV kV doc pm cdv ct oc:Value}{an od:Option Addr}
    {osl:Array (Option Value)} {N ps:List Str} {sp:Sp} (lk:K.lookup f=some ⟨oc,od,.func (PySem.W.fnOf name qual params body scope dV kV doc pm an cdv ct),osl⟩) (hcd:PySem.W.codeIn K cdv qual=true) (S:aC N ps scope)
    (len:∀ vs H Q E,sp vs H Q E→vs.length=ps.length)
    (hbody:∀ (A:Around) (outer:List Env) (s:Shared) (H:Hp) (vs:List V) (Q:VK) (E:XK),c6 k (A.deeper (envOfC qual scope s.heap.objs.size f cdv))→sp vs H Q E→
      ∃ t,PSs (tW CX P w K mg base N qual scope f cdv A outer s H E) body t∧t { nx:=fun _ H'=>Q .non H',rt:=Q } (start N vs) H) :
    fM P w K mg base CX (k+1) f (PySem.W.fnOf name qual params body scope dV kV doc pm an cdv ct) ps sp:=by
  refine ⟨len,fun A outer s H args us vs Q E hr e0 hb r hsp=>?_⟩
  have hl:=len _ _ _ _ hsp
  have KX:K.In s.heap:=e0.mod.kin.keeps fun b o e=>(e0.bs b o e).1
  have lim:s.heap.NoLimit:=e0.mod.nolimit.keeps fun b o e=>(e0.bs b o e).1
  have dO:∀ y∈ps.zip us,scope.names.lookup y.1=some .local∨(scope.names.lookup y.1=some .cell∧((cellsFrom (s.heap.objs.size+1) scope.names []).lookup y.1).isSome=true):=fun ⟨n,v⟩ hy=>by
    rcases S.par n (List.of_mem_zip hy).1 with q | q
    · exact .inl q
    · exact .inr ⟨q,PySem.W.cellsFrom_some _ _ _ (.inl q)⟩
  refine codeAny_call_function hr.depth (KX _ _ lk) rfl S.co S.gen rfl (PySem.W.codeRec_of KX hcd) (hb _ _ _ _ ?_)
  refine wpAny_newFunctionEnv_cells S.kind dO fun env he s1 x=>?_
  subst he
  refine ⟨lim.keeps x.toInCall.keep,codeAny_func ?_⟩
  obtain ⟨t,ht,hq⟩:=hbody A outer s H vs Q E (hr.deeper _) hsp
  have I:Inv (tW CX P w K mg base N qual scope f cdv A outer s H E) [] (start N vs) H s1:=zL S hr.hd e0 hl r x
  refine wpAny_mono (ht [] s1 (start N vs) H _ I hq) (fun fl s' hs=>?_) fun e s' hs=>hs
  have fin:∀ {σ':St} {H':Hp} {v:V} {u:Value},Inv (tW CX P w K mg base N qual scope f cdv A outer s H E) [] σ' H' s'→RelV v u→Q v H'→CE outer P w H s Q u s':=
    fun {σ' H' v u} J rv q=>⟨v,H',J.os,J.bare,J.base,J.hok,rv,q⟩
  cases fl with
  | ret u=>
    obtain ⟨v,σ',H',J,rv,q⟩:=hs
    exact fin J rv q
  | next=>
    obtain ⟨σ',H',J,q⟩:=hs
    exact fin (v:=V.non) (u:=Value.none) J rfl q
  | brk=>
    obtain ⟨_,_,_,q⟩:=hs
    exact False.elim q
  | cont=>
    obtain ⟨_,_,_,q⟩:=hs
    exact False.elim q
end L2
namespace L2
open PySem PySem.Spec PyProof.Rows
section
variable {X:Cx} {x:Str} {p pos:Pos} {e:Expr} {es:List Expr} {t:TA} {id T:String} {r:List V→Hp→VK→Prop}
def tCB (r:List V→Hp→VK→Prop)(t:TA):TE:=fun σ H Q=>t σ H fun vs H1=>r vs H1 Q
theorem mN (hc:bI X (.builtin id) r)(hg:Gl X x)(hm:X.mg x=none)(hv:bootBuiltins x=some (.builtin id))(ha:PA X (e::es) t)(hn:x ≠ "__name__" := by decide)(hdb:(x == ("__debug__" : Str))=false:=by decide)
    (he:starEach (e::es) X.env=(false,eval e X.env)::starEach es X.env:=by rfl) (hpl:(backTo pos (starEach es X.env)).any (·.1)=false:=by rfl):PE X (.Call (.Name x p) (e::es) [] pos) (tCB r t):=by
  intro pins s σ H Q I h
  refine wpAny_Call_Name_kw (ix I hg hm hv ?_ hn hdb)
  exact PyProof.Rows.callWith_builtin1 (thn (ha pos pins s σ H _ I h) fun us s1 ⟨vs,H1,I1,r1,q1⟩=>hc pins s1 σ H1 vs us Q I1 r1 q1) he hpl
theorem yF (hc:bI X (.type T) r)(hg:Gl X x)(hm:X.mg x=none)(hv:bootBuiltins x=some (.type T))(ha:PA X (e::es) t)(hn:x ≠ "__name__" := by decide)(hdb:(x == ("__debug__" : Str))=false:=by decide)
    (he:starEach (e::es) X.env=(false,eval e X.env)::starEach es X.env:=by rfl) (hpl:(backTo pos (starEach es X.env)).any (·.1)=false:=by rfl):PE X (.Call (.Name x p) (e::es) [] pos) (tCB r t):=by
  intro pins s σ H Q I h
  refine wpAny_Call_Name_kw (ix I hg hm hv ?_ hn hdb)
  exact PyProof.Rows.callWith_type1 (thn (ha pos pins s σ H _ I h) fun us s1 ⟨vs,H1,I1,r1,q1⟩=>hc pins s1 σ H1 vs us Q I1 r1 q1) he hpl
end
end L2
namespace HT
open PySem PyProof.Rows
section
open PySem.SeqAt
open PySem.AutoSeq1 (wpAny_loadPart')
open PySem.MeetsSeq PySem.MeetsSeq2 PySem.MeetsSeq3
end
section
variable {prog:Program} {w:World} {A:Around} {E:Value→Shared→Prop} {s:Shared}
theorem DS {t b:Addr}{vs ws:List Value}{Q:Value→Shared→Prop}(ht:IsTup s.heap t vs.toArray)(hb:IsTup s.heap b ws.toArray)(hv:vs≠[])
    (h1:ws=[]→Q (.ref t) s) (h2:ws≠[]→Q (.ref s.heap.objs.size) { s with heap:=s.heap.push { cls:=.type "tuple", data:=.seq (vs++ws).toArray } })
    (hsz:vs.length+ws.length≤sizeLine):wpAny (model prog w) A (binaryOp .Add (.ref t) (.ref b)) Q E s:=by
  obtain ⟨⟨cls,dd,data,sl⟩,ho,hc,n,hd⟩:=id ht
  obtain ⟨⟨cls2,dd2,data2,sl2⟩,ho2,hc2,n2,hd2⟩:=id hb
  simp only at hc hd hc2 hd2
  subst hc hd hc2 hd2
  have e:vs.toArray++ws.toArray=(vs++ws).toArray:=by simp
  by_cases hw:ws=[]
  · exact concat_meets ⟨_,ho,rfl⟩ ⟨_,ho2,rfl⟩ noFill_tuple_add seq_tuple_add PySem.F.slot_tuple_add PySem.F.entry_tuple_add (PySem.F.args_tuple_add_2 _ _)
      (tuple_addW1 t b vs.toArray ws.toArray n n2 dd dd2 sl sl2 (by simpa using hv) (by simp[hw])) ⟨ho,ho2,h1 hw⟩
  · refine concat_meets ⟨_,ho,rfl⟩ ⟨_,ho2,rfl⟩ noFill_tuple_add seq_tuple_add PySem.F.slot_tuple_add PySem.F.entry_tuple_add (PySem.F.args_tuple_add_2 _ _)
      (tuple_addW2 t b vs.toArray ws.toArray n n2 dd dd2 sl sl2 (by simpa using hv) (by simpa using hw) (by rw[List.size_toArray,List.size_toArray];exact hsz)) ⟨ho,ho2,?_⟩
    rw[e]
    exact h2 hw
def sIx (n d:Nat):Option Int→Nat
  | none=>d
  | some v=>if v < 0 then (v+(n:Int)).toNat else min v.toNat n
theorem A5 (n d:Nat):sIx n d none=d:=rfl
theorem EB (n d k:Nat):sIx n d (some (k:Int))=min k n:=by
  show (if (k:Int) < 0 then ((k:Int)+(n:Int)).toNat else min (k:Int).toNat n)=min k n
  rw[if_neg (by omega),Int.toNat_natCast]
theorem Gw (n d:Nat)(hd:d≤n)(o:Option Int):sIx n d o≤n:=by
  cases o with
  | none=>exact hd
  | some v=>
    show (if v < 0 then (v+(n:Int)).toNat else min v.toNat n)≤n
    by_cases hv:v < 0
    · rw[if_pos hv];omega
    · rw[if_neg hv];exact Nat.min_le_right _ _
theorem xy (v:Int)(n d:Nat):(if v < 0 then max (v+(n:Int)) 0 else min v (n:Int))=((sIx n d (some v):Nat):Int):=by
  show (if v < 0 then max (v+(n:Int)) 0 else min v (n:Int))=(((if v < 0 then (v+(n:Int)).toNat else min v.toNat n):Nat):Int)
  by_cases hv:v < 0
  · simp only[if_pos hv];omega
  · simp only[if_neg hv];omega
theorem vq (lo hi:Option Int)(n:Nat):Builtin.Slice.sliceAdjust lo hi 1 (n:Int)=(((sIx n 0 lo:Nat):Int),((sIx n n hi:Nat):Int)):=by
  have h1:¬ ((1:Int) < 0):=by omega
  unfold Builtin.Slice.sliceAdjust
  simp only[h1,if_false]
  refine Prod.ext ?_ ?_
  · cases lo with
    | none=>rfl
    | some v=>exact xy v n 0
  · cases hi with
    | none=>rfl
    | some v=>exact xy v n n
theorem wM (i j:Nat):Builtin.Slice.slicePlaces (i:Int) (j:Int) 1=j - i:=by
  unfold Builtin.Slice.slicePlaces
  have h1:(1:Int) > 0:=by omega
  simp only[h1,if_true,Int.ediv_one]
  split<;>omega
theorem lO {v:Value}{o:Option Int}{Q:Option Int→Shared→Prop}(p:IsPart v o)(h:Q o s):wpAny (model prog w) A (Builtin.Slice.slicePartIndex v) Q E s:=by
  cases p with
  | none=>exact slicePart_none h
  | int i t=>exact slicePart_int h
theorem e5 {sl:Addr}{vl vu:Value}{lo hi:Option Int}{n:Nat}{Q:Int×Int×Nat→Shared→Prop}(hs:s.heap.IsSliceOf sl vl vu .none)(pl:IsPart vl lo)(pu:IsPart vu hi)
    (h:Q (((sIx n 0 lo:Nat):Int),1,sIx n n hi - sIx n 0 lo) s):wpAny (model prog w) A (Builtin.Slice.sliceApplied (.ref sl) (pure (n:Int))) Q E s:=by
  obtain ⟨os,hos,hcs,hds⟩:=id hs
  unfold Builtin.Slice.sliceApplied Builtin.Slice.sliceFields
  refine wpAny_bind (wpAny_bind (wpAny_field hos hds (x:=vl) rfl (wpAny_bind (wpAny_field hos hds (x:=vu) rfl (wpAny_bind (wpAny_field hos hds (x:=.none) rfl (wpAny_pure ?_)))))))
  refine wpAny_bind (slicePart_none ?_)
  show wpAny _ _ (if ((1:Int) == 0)=true then _ else _) _ _ s
  rw[if_neg (by decide)]
  refine wpAny_bind (lO pl (wpAny_bind (lO pu (wpAny_bind (wpAny_pure ?_)))))
  show wpAny _ _ (match Builtin.Slice.sliceAdjust lo hi 1 (n:Int) with | (lo,hi)=>pure (lo,(1:Int),Builtin.Slice.slicePlaces lo hi 1)) _ _ s
  rw[vq lo hi n]
  show wpAny _ _ (pure (((sIx n 0 lo:Nat):Int),(1:Int),Builtin.Slice.slicePlaces ((sIx n 0 lo:Nat):Int) ((sIx n n hi:Nat):Int) 1)) _ _ s
  rw[wM]
  exact wpAny_pure h
theorem AQ (xs:Array Value)(i k:Nat):((List.range k).filterMap fun (m:Nat)=>xs[((i:Int)+(m:Int)*1).toNat]?).toArray=((xs.toList.drop i).take k).toArray:=by
  have e:(fun (m:Nat)=>xs[((i:Int)+(m:Int)*1).toNat]?)=fun m=>xs[i+m]?:=by
    funext m
    have:((i:Int)+(m:Int)*1).toNat=i+m:=by omega
    rw[this]
  rw[e]
  have:=pick_run xs i k
  rw[List.filterMap_map] at this
  have e2:((fun x=>xs[x]?) ∘ fun x=>i+x)=fun m=>xs[i+m]?:=rfl
  rw[e2] at this
  rw[this]
theorem iY {t sl:Addr}{items:Array Value}{vl vu:Value}{lo hi:Option Int}{Q:Value→Shared→Prop}(ht:IsTup s.heap t items)(hs:s.heap.IsSliceOf sl vl vu .none)(pl:IsPart vl lo)(pu:IsPart vu hi)
    (hw:¬ (sIx items.size 0 lo=0∧sIx items.size items.size hi=items.size))
    (h:Q (.ref s.heap.objs.size) { s with heap:=s.heap.push { cls:=.type "tuple", data:=.seq ((items.toList.drop (sIx items.size 0 lo)).take (sIx items.size items.size hi - sIx items.size 0 lo)).toArray } })
    (hsz:items.size≤sizeLine):wpAny (model prog w) A (getItem (.ref t) (.ref sl)) Q E s:=by
  have xA:sizeOk (.seq ((items.toList.drop (sIx items.size 0 lo)).take (sIx items.size items.size hi - sIx items.size 0 lo)).toArray):=by
    show ((items.toList.drop (sIx items.size 0 lo)).take (sIx items.size items.size hi - sIx items.size 0 lo)).toArray.size≤sizeLine
    rw[List.size_toArray,List.length_take,List.length_drop,Array.length_toList]
    omega
  have hj:sIx items.size items.size hi≤items.size:=Gw _ _ (Nat.le_refl _) hi
  obtain ⟨os,hos,hcs,hds⟩:=id hs
  have hTs:s.TypeIs (.ref sl) "slice" := ⟨os,hos,hcs⟩
  unfold getItem
  try with_reducible refine wpAny_holding ?_
  first | refine wpAny_bind (wpAny_pure ?_) | skip
  refine wpAny_bind (wpAny_sequenceKey ht.typeIs (by decide) ?_)
  refine wpAny_bind (wpAny_callSpecial?_slot (name:=Str.ofString "__getitem__") ht.typeIs PyProof.Rows.slot_tuple_getitem
    (wpAny_call_entry PyProof.Rows.slot_tuple_getitem ht.typeIs entry_tuple_getitem ?_ (args_tuple_getitem _ _)))
  show wpAny _ _ (Builtin.Tuple.tupleItemsOf (.ref t) >>= _) _ _ s
  refine wpAny_bind (tupleItemsOf_ ht ?_)
  refine wpAny_bind (wpAny_typeOf hTs ?_)
  rw[if_pos (by decide)]
  refine wpAny_bind (e5 hs pl pu ?_)
  have hno:¬ ((((sIx items.size 0 lo:Nat):Int) == 0&&(1:Int) == 1&&(sIx items.size items.size hi - sIx items.size 0 lo) == items.size)=true):=by
    intro q
    rw[Bool.and_eq_true,Bool.and_eq_true] at q
    have q1:((sIx items.size 0 lo:Nat):Int)=0:=eq_of_beq q.1.1
    have q2:sIx items.size items.size hi - sIx items.size 0 lo=items.size:=eq_of_beq q.2
    exact hw ⟨by omega,by omega⟩
  show wpAny _ _ (if (((sIx items.size 0 lo:Nat):Int) == 0&&(1:Int) == 1&&(sIx items.size items.size hi - sIx items.size 0 lo) == items.size)=true then _ else _) _ _ s
  rw[if_neg hno,AQ]
  first
    | exact wpAny_bind (m:=Builtin.Tuple.tupleExact _) (wpAny_newObj_type (wpAny_pure ⟨_,rfl,wpAny_pure h⟩) xA)
    | exact wpAny_bind (m:=Builtin.Tuple.tupleExact _) (wpAny_newObj_type (wpAny_bind (wpAny_pure (wpAny_pure ⟨_,rfl,wpAny_pure h⟩))) xA)
    | exact wpAny_bind (wpAny_bind (m:=Builtin.Tuple.tupleExact _) (wpAny_newObj_type (wpAny_pure (wpAny_pure ⟨_,rfl,wpAny_pure h⟩)) xA))
    | exact wpAny_bind (wpAny_bind (m:=Builtin.Tuple.tupleExact _) (wpAny_newObj_type (wpAny_pure ⟨_,rfl,wpAny_pure h⟩) xA))
end
end HT
namespace L2
open PySem PySem.Spec PyProof.Rows
abbrev TO:=St→Hp→(Option Int→Hp→Prop)→Prop
def PO (X:Cx)(e:Option Expr)(t:TO):Prop:=
  ∀ (pins:List (Addr×Obj)) (s:Shared) (σ:St) (H:Hp) (Q:Option Int→Hp→Prop),Inv X pins σ H s→t σ H Q→
    wpAny (model X.prog X.w) X.A (evalPart e X.env) (fun u s'=>∃ o H',Inv X pins σ H' s'∧IsPart u o∧Q o H') X.xe s
def Dz:TO:=fun _ H Q=>Q none H
def Lg (t:TE):TO:=fun σ H Q=>t σ H fun x H1=>∃ i,x=.int i∧Q (some i) H1
theorem intsAre_of {ns:List Int}:∀ {us:List Value},Vals (ns.map V.int) us→IntsAre us ns:=by
  induction ns with
  | nil=>intro us r;rw[List.map_nil] at r;cases r;exact .nil
  | cons n ns ih=>
    intro us r
    rw[List.map_cons] at r
    cases r with
    | cons r1 r2=>
      obtain ⟨t,e⟩:=r1
      subst e
      exact .cons n t (ih r2)
section
variable {X:Cx} {e:Expr} {te:TE} {lo hi:Option Expr} {tl th:TO} {pos p2:Pos}
theorem Es:PO X none Dz:=by
  intro pins s σ H Q I h
  rw[evalPart_none]
  exact wpAny_pure ⟨none,H,I,.none,h⟩
theorem DL (h:PE X e te):PO X (some e) (Lg te):=by
  intro pins s σ H Q I hw
  rw[evalPart_some]
  refine thn (h pins s σ H _ I hw) fun u s1 ⟨x,H1,I1,r1,q1⟩=>?_
  obtain ⟨i,rfl,q⟩:=q1
  obtain ⟨t,rfl⟩:=r1
  exact ⟨some i,H1,I1,.int i t,q⟩
def SlR (X:Cx)(r:V→Option Int→Option Int→Hp→VK→Prop):Prop:=
  ∀ (pins:List (Addr×Obj)) (s:Shared) (σ:St) (H:Hp) (x:V) (v vl vu:Value) (lo hi:Option Int) (sl:Addr) (Q:VK),Inv X pins σ H s→RelV x v→s.heap.IsSliceOf sl vl vu .none→IsPart vl lo→IsPart vu hi→r x lo hi H Q→
    ∃ T id,typeLookup (.type T) "__getitem__" = pure (some (.builtin id))∧s.TypeIs v T∧wpAny (model X.prog X.w) X.A (getItem v (.ref sl)) (EP X pins σ Q) X.xe s
theorem SlR.or {r r':V→Option Int→Option Int→Hp→VK→Prop}(h:SlR X r)(h':SlR X r'):SlR X (fun x lo hi H Q=>r x lo hi H Q∨r' x lo hi H Q):=by
  intro pins s σ H x v vl vu lo hi sl Q I rx hs pl pu q
  rcases q with q | q
  · exact h pins s σ H x v vl vu lo hi sl Q I rx hs pl pu q
  · exact h' pins s σ H x v vl vu lo hi sl Q I rx hs pl pu q
def tSl (r:V→Option Int→Option Int→Hp→VK→Prop)(te:TE)(tl th:TO):TE:=fun σ H Q=>te σ H fun x H1=>tl σ H1 fun l H2=>th σ H2 fun u H3=>r x l u H3 Q
theorem ub {r:V→Option Int→Option Int→Hp→VK→Prop}(hr:SlR X r)(he:PE X e te)(hl:PO X lo tl)(hu:PO X hi th):PE X (.Subscript e (.Slice lo hi none p2) pos) (tSl r te tl th):=by
  intro pins s σ H Q I h
  refine Subscript_ (thn (he pins s σ H _ I h) fun v s1 ⟨x,H1,I1,r1,q1⟩=>?_)
  refine wpAny_Slice (thn (hl pins s1 σ H1 _ I1 q1) fun vl s2 ⟨l,H2,I2,pl,q2⟩=>thn (hu pins s2 σ H2 _ I2 q2) fun vu s3 ⟨u,H3,I3,pu,q3⟩=>?_)
  rw[evalPart_none]
  refine wpAny_pure ?_
  have I4:Inv X pins σ H3 { s3 with heap:=s3.heap.push { cls:=.type "slice", data:=.fields #[vl,vu,.none] } }:=I3.kept (t':=s3.toks) fun b ob q=>Heap.get?_push_of_some _ q
  obtain ⟨T,id,hT,ht,hg⟩:=hr pins { s3 with heap:=s3.heap.push { cls:=.type "slice", data:=.fields #[vl,vu,.none] } } σ H3 x v vl vu l u s3.heap.objs.size Q I4 r1 (Heap.IsSliceOf.new ..) pl pu q3
  show wpAny (model X.prog X.w) X.A (subscriptTail e (.Slice lo hi none p2) v (.ref s3.heap.objs.size)) (EP X pins σ Q) X.xe { s3 with heap:=s3.heap.push { cls:=.type "slice", data:=.fields #[vl,vu,.none] } }
  exact tail_any (ops:=[.ref s3.heap.objs.size,v]) ht hT hg (by with_unfolding_all rfl)
def uK (xs:List V)(lo hi:Option Int):List V:=(xs.drop (HT.sIx xs.length 0 lo)).take (HT.sIx xs.length xs.length hi - HT.sIx xs.length 0 lo)
theorem kn (xs:List V)(lo hi:Option Int):(uK xs lo hi).length≤xs.length:=by
  unfold uK
  rw[List.length_take,List.length_drop]
  omega
def Lq (K:PySem.W.Frag):V→Option Int→Option Int→Hp→VK→Prop:=fun x lo hi H Q=>∃ a xs,x=.ref a∧SqT K H a xs∧
  ¬ (HT.sIx xs.length 0 lo=0∧HT.sIx xs.length xs.length hi=xs.length)∧∀ p,H p=none→Q (.ref p) (upd H p (.tup (uK xs lo hi)))
theorem IL:SlR X (Lq X.K):=by
  intro pins s σ H x v vl vu lo hi sl Q I rx hs pl pu h
  obtain ⟨a,xs,rfl,hx,hw,q⟩:=h
  cases rx
  obtain ⟨its,r,ht,hz⟩:=I.tuple hx
  have hlen:its.toArray.size=xs.length:=by rw[List.size_toArray];exact r.length.symm
  refine ⟨"tuple", _,PyProof.Rows.slot_tuple_getitem.lookup,ht.typeIs,?_⟩
  refine HT.iY ht hs pl pu (by rw[hlen];exact hw) ?_ (by rw[hlen];exact hz)
  rw[hlen]
  refine ⟨.ref s.heap.objs.size,_,I.laid (t':=s.toks) (o:=.tup (uK xs lo hi)) (fun b ob q=>Heap.get?_push_of_some _ q) (Nat.le_refl _) ?_,rfl,q _ (I.hok.fresh (Nat.le_refl _))⟩
  exact ⟨Nat.le_trans (kn xs lo hi) hz,_,(r.drop (HT.sIx xs.length 0 lo)).take (HT.sIx xs.length xs.length hi - HT.sIx xs.length 0 lo),tO.new _ _⟩
def Ga (K:PySem.W.Frag):R2:=fun x y H Q=>∃ a b xs ys,x=.ref a∧y=.ref b∧SqT K H a xs∧SqT K H b ys∧xs≠[]∧xs.length+ys.length≤sizeLine∧
  (ys=[]→Q (.ref a) H)∧(ys≠[]→∀ p,H p=none→Q (.ref p) (upd H p (.tup (xs++ys))))
theorem Vals.rF {xs:List V}{us:List Value}(r:Vals xs us):us=[]↔xs=[]:=by
  cases r with
  | nil=>simp
  | cons _ _=>simp
theorem Fy:OpR X (binaryOp .Add) (Ga X.K):=by
  intro pins s σ H x y v u Q I rx ry h
  obtain ⟨a,b,xs,ys,rfl,rfl,ha,hb,hx,hz,q1,q2⟩:=h
  cases rx
  cases ry
  obtain ⟨its,r1,p1,_⟩:=I.tuple ha
  obtain ⟨its2,r2,p2,_⟩:=I.tuple hb
  refine HT.DS p1 p2 (fun z=>hx (r1.rF.mp z)) (fun z=>⟨.ref a,H,I,rfl,q1 (r2.rF.mp z)⟩) (fun z=>?_) (by rw[← r1.length,← r2.length];exact hz)
  refine ⟨.ref s.heap.objs.size,_,I.laid (t':=s.toks) (o:=.tup (xs++ys)) (fun b ob q=>Heap.get?_push_of_some _ q) (Nat.le_refl _) ?_,rfl,q2 (fun w=>z (r2.rF.mpr w)) _ (I.hok.fresh (Nat.le_refl _))⟩
  exact ⟨by rw[List.length_append];exact hz,_,r1.append r2,tO.new _ _⟩
end
end L2
namespace L2
open PySem PySem.Spec PyProof.Rows
def ixN (n:Nat)(i:Int):Option Nat:=if 0≤i then (if i < n then some i.toNat else none) else if -(n:Int)≤i then some (i+n).toNat else none
def atI {α:Type}(xs:List α)(i:Int):Option α:=(ixN xs.length i).bind fun j=>xs[j]?
theorem yy {n:Nat}{i:Int}{j:Nat}(h:ixN n i=some j):seqIndex? i n=some j∧j < n∧-(n:Int)≤i∧i < n:=by
  unfold ixN at h
  by_cases h0:0≤i
  · rw[if_pos h0] at h
    by_cases h1:i < n
    · rw[if_pos h1] at h
      have e:i.toNat=j:=Option.some.inj h
      exact ⟨by rw[seqIndex_of h0 h1,e],by omega,by omega,h1⟩
    · rw[if_neg h1] at h;cases h
  · rw[if_neg h0] at h
    by_cases h1:-(n:Int)≤i
    · rw[if_pos h1] at h
      have e:(i+n).toNat=j:=Option.some.inj h
      exact ⟨by rw[seqIndex_neg (by omega) h1,e],by omega,h1,by omega⟩
    · rw[if_neg h1] at h;cases h
theorem qL {α:Type}{xs:List α}{i:Int}{v:α}(h:atI xs i=some v):∃ j,seqIndex? i xs.length=some j∧xs[j]? = some v∧j < xs.length∧-(xs.length:Int)≤i∧i < xs.length:=by
  unfold atI at h
  cases e:ixN xs.length i with
  | none=>rw[e] at h;cases h
  | some j=>
    rw[e] at h
    obtain ⟨h1,h2,h3,h4⟩:=yy e
    exact ⟨j,h1,h,h2,h3,h4⟩
def lI (b:Expr):Prop:=∀ o i,subscripted b false o i=operate [o,i] (getItem o i)
def IxR (X:Cx)(r:R2):Prop:=
  ∀ (value slice:Expr) (pins:List (Addr×Obj)) (s:Shared) (σ:St) (H:Hp) (x y:V) (v u:Value) (Q:VK),Inv X pins σ H s→RelV x v→RelV y u→r x y H Q→
    subscripted slice false v u=operate [v,u] (getItem v u)→wpAny (model X.prog X.w) X.A (subscriptTail value slice v u) (EP X pins σ Q) X.xe s
def MtR (X:Cx)(id:String)(r:V→List V→Hp→VK→Prop):Prop:=
  ∀ (pins:List (Addr×Obj)) (s:Shared) (σ:St) (H:Hp) (x:V) (xs:List V) (v:Value) (us:List Value) (Q:VK),Inv X pins σ H s→RelV x v→Vals xs us→r x xs H Q→
    wpAny (model X.prog X.w) X.A (call (.builtin id) (v::us)) (EP X pins σ Q) X.xe s
section
variable {X:Cx} {a b:Expr} {ta tb:TE} {pos:Pos}
theorem IxR.or {r r':R2}(h:IxR X r)(h':IxR X r'):IxR X (fun x y H Q=>r x y H Q∨r' x y H Q):=by
  intro value slice pins s σ H x y v u Q I rx ry q hs
  rcases q with q | q
  · exact h value slice pins s σ H x y v u Q I rx ry q hs
  · exact h' value slice pins s σ H x y v u Q I rx ry q hs
theorem MtR.or {id:String}{r r':V→List V→Hp→VK→Prop}(h:MtR X id r)(h':MtR X id r'):MtR X id (fun x xs H Q=>r x xs H Q∨r' x xs H Q):=by
  intro pins s σ H x xs v us Q I rx rs q
  rcases q with q | q
  · exact h pins s σ H x xs v us Q I rx rs q
  · exact h' pins s σ H x xs v us Q I rx rs q
theorem Ad {r:R2}(hr:IxR X r)(ha:PE X a ta)(hb:PE X b tb)(hs:lI b):PE X (.Subscript a b pos) (tOp r ta tb):=by
  intro pins s σ H Q I h
  exact Subscript_ (IM ha hb I h fun v u s2 x y H2 I2 rx ry q=>hr a b pins s2 σ H2 x y v u Q I2 rx ry q (hs _ _))
def K1 (K:PySem.W.Frag):R2:=fun x y H Q=>∃ p xs i v,x=.ref p∧y=.int i∧SqL K H p xs∧atI xs i=some v∧Q v H
def JB (K:PySem.W.Frag):R2:=fun x y H Q=>∃ p xs i v,x=.ref p∧y=.int i∧SqT K H p xs∧atI xs i=some v∧Q v H
def HS:R2:=fun x y H Q=>∃ z i c,x=.str z∧y=.int i∧z.length≤sizeLine∧atI z.cps.toList i=some c∧Q (.str ⟨#[c]⟩) H
theorem DQ:IxR X (K1 X.K):=by
  intro value slice pins s σ H x y v u Q I rx ry h hs
  obtain ⟨p,xs,i,z,rfl,rfl,hq,he,q⟩:=h
  cases rx
  obtain ⟨t,rfl⟩:=ry
  obtain ⟨its,r,pl,hz⟩:=I.list hq
  obtain ⟨j,h1,h2,h3,h4,h5⟩:=qL he
  obtain ⟨w,ew,rw'⟩:=r.get h2
  have hl:=r.length
  have hn:=jI
  have fin:EP X pins σ Q w s:=⟨z,H,I,rw',q⟩
  by_cases h0:0≤i
  · have hj:i.toNat=j:=by
      rw[seqIndex_of h0 h5] at h1
      exact Option.some.inj h1
    exact item_listR pl.isList h0 (by omega) (by rw[hj];simpa using ew) fin hs
  · have hj:(i+(its.toArray.size:Int)).toNat=j:=by
      rw[seqIndex_neg (by omega) h4] at h1
      rw[List.size_toArray,← hl]
      exact Option.some.inj h1
    exact subscriptTail_builtinR (x:=w) pl.isList.typeIs slot_list_getitem.lookup
      (wpAny_getItem_list_neg (Q:=fun r s'=>r=w∧EP X pins σ Q r s') pl.isList (by omega) (by rw[List.size_toArray]<;>omega) (by omega) (by rw[hj];simpa using ew) ⟨rfl,fin⟩) hs
theorem Ip:IxR X (JB X.K):=by
  intro value slice pins s σ H x y v u Q I rx ry h hs
  obtain ⟨p,xs,i,z,rfl,rfl,hq,he,q⟩:=h
  cases rx
  obtain ⟨t,rfl⟩:=ry
  obtain ⟨its,r,pl,hz⟩:=I.tuple hq
  obtain ⟨j,h1,h2,h3,h4,h5⟩:=qL he
  obtain ⟨w,ew,rw'⟩:=r.get h2
  have hl:=r.length
  have hn:=jI
  have fin:EP X pins σ Q w s:=⟨z,H,I,rw',q⟩
  exact subscriptTail_builtinR (x:=w) pl.typeIs slot_tuple_getitem.lookup
    (getItem_tuple (j:=j) (Q:=fun r s'=>r=w∧EP X pins σ Q r s') pl (by omega) (by omega) (by rw[List.size_toArray,← hl];exact h1) (by simpa using ew) ⟨rfl,fin⟩) hs
theorem BM:IxR X HS:=by
  intro value slice pins s σ H x y v u Q I rx ry h hs
  obtain ⟨z,i,c,rfl,rfl,hz,he,q⟩:=h
  obtain ⟨t,rfl⟩:=rx
  obtain ⟨t',rfl⟩:=ry
  obtain ⟨j,h1,h2,h3,h4,h5⟩:=qL he
  have hl:z.cps.toList.length=z.length:=by simp[Str.length]
  rw[hl] at h1 h4 h5
  have hn:=jI
  exact tail_any (typeIs_str s z t) slot_str_getitem.lookup (getItem_str (c:=c) (by
    have e1:decide (i < -(2 ^ 63:Int))=false:=decide_eq_false (by omega)
    have e2:decide (i ≥ 2 ^ 63)=false:=decide_eq_false (by omega)
    rw[e1,e2,Bool.or_false]) (by rw[h1];simpa using h2) ⟨.str ⟨#[c]⟩,H,I.tok _,⟨_,rfl⟩,q⟩) hs
def rIx (K:PySem.W.Frag):R2:=fun x y H Q=>K1 K x y H Q∨JB K x y H Q∨HS x y H Q
theorem A4:IxR X (rIx X.K):=DQ.or (Ip.or BM)
theorem wH (its:List Value)(n j:Nat)(u:Value):Obj.mapSeq (·.setIfInBounds j u) { cls:=.type "list", data:=.seq its.toArray n }={ cls:=.type "list", data:=.seq (its.set j u).toArray n }:=by
  simp[Obj.mapSeq]
theorem Inv.lst {pins:List (Addr×Obj)}{σ:St}{H:Hp}{s:Shared}{p:Addr}{xs:List V}(I:Inv X pins σ H s)(h:H p=some (.lst xs)) :
    ∃ (its:List Value) (n:Nat),Vals xs its∧s.heap.get? p=some { cls:=.type "list", data:=.seq its.toArray n }∧xs.length≤sizeLine:=by
  obtain ⟨z,its,n,r,e⟩:=I.hok p _ h
  exact ⟨its,n,r,e,z⟩
theorem Inv.Ii {pins:List (Addr×Obj)}{σ:St}{H:Hp}{s:Shared}{p:Addr}{xs ys:List V}{its its':List Value}{n n':Nat}{f:Obj→Obj}(I:Inv X pins σ H s)(h:H p=some (.lst xs))
    (ho:s.heap.get? p=some { cls:=.type "list", data:=.seq its.toArray n }) (hf:f { cls:=.type "list", data:=.seq its.toArray n }={ cls:=.type "list", data:=.seq its'.toArray n' }) (r:Vals ys its') (hz:ys.length≤sizeLine) (t:Nat) :
    Inv X pins σ (upd H p (.lst ys)) { s with heap:=s.heap.update p f,toks:=t }:=by
  have e:(s.heap.update p f).get? p=some { cls:=.type "list", data:=.seq its'.toArray n' }:=by
    rw[Heap.get?_update_self f ho (by rw[hf]<;>rfl),hf]
  refine I.write (x:=p) (e:=p) (by rw[h];trivial) (.inl rfl) (fun b u hb q=>(Heap.get?_update_other _ _ (Ne.symm hb)).trans q) ⟨_,e⟩ ?_
  exact ⟨hz,its',n',r,e⟩
def K8:V→V→V→Hp→(Hp→Prop)→Prop:=fun o i v H Q=>∃ p xs k j,o=.ref p∧i=.int k∧H p=some (.lst xs)∧ixN xs.length k=some j∧Q (upd H p (.lst (xs.set j v)))
theorem set_list:JD X K8:=by
  intro pins s σ H o i v ov iv u Q I ro ri rv h
  obtain ⟨p,xs,k,j,rfl,rfl,hp,hj,q⟩:=h
  cases ro
  obtain ⟨t,rfl⟩:=ri
  obtain ⟨its,n,r,ho,hz⟩:=I.lst hp
  obtain ⟨h1,h2,h3,h4⟩:=yy hj
  have hl:=r.length
  have hn:=jI
  have I':Inv X pins σ (upd H p (.lst (xs.set j v))) { s with heap:=s.heap.update p (Obj.mapSeq (·.setIfInBounds j u)) }:=
    I.Ii hp ho (wH its n j u) (r.set rv j) (by rw[List.length_set];exact hz) s.toks
  by_cases h0:0≤k
  · have hk:k.toNat=j:=by
      rw[seqIndex_of h0 h4] at h1
      exact Option.some.inj h1
    exact PySem.W.ki_setAt ho h0 (by omega) (by rw[List.size_toArray,← hl];exact h4) (by rw[hk];exact ⟨_,I',q⟩)
  · have hk:(k+(its.toArray.size:Int)).toNat=j:=by
      rw[seqIndex_neg (by omega) h3] at h1
      rw[List.size_toArray,← hl]
      exact Option.some.inj h1
    exact PySem.W.ki_setBack ho (by omega) (by rw[List.size_toArray,← hl];exact h3) (by omega) (by rw[hk];exact ⟨_,I',q⟩)
theorem rB (lo hi:Option Int)(n:Nat):(sliceBounds lo hi none n).1=((HT.sIx n 0 lo:Nat):Int)∧(sliceBounds lo hi none n).2.1=((HT.sIx n n hi:Nat):Int)∧(sliceBounds lo hi none n).2.2=1:=by
  refine ⟨?_,?_,rfl⟩
  · cases lo with
    | none=>simp[sliceBounds,HT.sIx]
    | some i=>
      simp only[sliceBounds,HT.sIx,Option.getD_none,show (1:Int) > 0 by decide,if_true]
      by_cases h:i < 0
      · simp only[h,if_true]<;>omega
      · simp only[h,if_false]<;>omega
  · cases hi with
    | none=>simp[sliceBounds,HT.sIx]
    | some i=>
      simp only[sliceBounds,HT.sIx,Option.getD_none,show (1:Int) > 0 by decide,if_true]
      by_cases h:i < 0
      · simp only[h,if_true]<;>omega
      · simp only[h,if_false]<;>omega
theorem oY (its:List Value)(lo hi:Option Int):slicePick its.toArray lo hi none=((its.drop (HT.sIx its.length 0 lo)).take (HT.sIx its.length its.length hi - HT.sIx its.length 0 lo)).toArray:=by
  obtain ⟨h1,h2,h3⟩:=rB lo hi its.toArray.size
  unfold slicePick
  rw[h1,h2,h3]
  simp only[sliceRange_one,pick_run,List.size_toArray]<;>rfl
def LD (K:PySem.W.Frag):V→Option Int→Option Int→Hp→VK→Prop:=fun x lo hi H Q=>∃ a xs,x=.ref a∧SqL K H a xs∧∀ p,H p=none→Q (.ref p) (upd H p (.lst (uK xs lo hi)))
theorem E2:SlR X (LD X.K):=by
  intro pins s σ H x v vl vu lo hi sl Q I rx hs pl pu h
  obtain ⟨a,xs,rfl,hx,q⟩:=h
  cases rx
  obtain ⟨its,r,ht,hz⟩:=I.list hx
  have hlen:=r.length
  refine ⟨"list", _,slot_list_getitem.lookup,ht.isList.typeIs,?_⟩
  refine wpAny_getItem_list_slice ht.isList hs pl pu .none (by simp) ?_ (by rw[List.size_toArray]<;>omega)
  rw[oY,← hlen]
  refine ⟨.ref s.heap.objs.size,_,I.laid (t':=s.toks) (o:=.lst (uK xs lo hi)) (fun b ob q=>Heap.get?_push_of_some _ q) (Nat.le_refl _) ?_,rfl,q _ (I.hok.fresh (Nat.le_refl _))⟩
  exact ⟨Nat.le_trans (kn xs lo hi) hz,_,0,(r.drop (HT.sIx xs.length 0 lo)).take (HT.sIx xs.length xs.length hi - HT.sIx xs.length 0 lo),Heap.get?_push_size _ rfl⟩
def FN:V→Bool
  | .non=>true
  | .bl _=>true
  | .int _=>true
  | .str _=>true
  | _=>false
def eqV:V→V→Bool
  | .non,.non=>true
  | .bl a,.bl b=>a == b
  | .bl a,.int b=>(if a then 1 else 0) == b
  | .int a,.bl b=>a == (if b then 1 else 0)
  | .int a,.int b=>a == b
  | .str a,.str b=>a == b
  | _,_=>false
def inV (x:V)(xs:List V):Bool:=xs.any fun y=>eqV y x
def rIn (K:PySem.W.Frag)(neg:Bool):R2:=fun x y H Q=>∃ p xs,y=.ref p∧(SqL K H p xs∨SqT K H p xs)∧FN x=true∧xs.all FN=true∧Q (.bl (if neg then !inV x xs else inV x xs)) H
theorem qW:bI X (.builtin "len") (fun xs H Q=>∃ p ys,xs=[.ref p]∧(SqL X.K H p ys∨SqT X.K H p ys)∧Q (.int ys.length) H):=by
  intro pins s σ H xs us Q I r h
  obtain ⟨p,ys,rfl,hq,q⟩:=h
  obtain ⟨u,rfl,rx⟩:=vals1 r
  cases rx
  have hn:=jI
  rcases hq with hq | hq
  · obtain ⟨its,r',pl,hz⟩:=I.list hq
    have hlen:=r'.length
    exact Calls.call_len_list pl.isList (by simp only[List.size_toArray]<;>omega) ⟨.int ys.length,H,I.tok _,⟨s.toks+1,by rw[List.size_toArray,hlen]⟩,q⟩
  · obtain ⟨its,r',pl,hz⟩:=I.tuple hq
    have hlen:=r'.length
    exact len_tuple pl (by simp only[List.size_toArray]<;>omega) ⟨.int ys.length,H,I.tok _,⟨s.toks+1,by rw[List.size_toArray,hlen]⟩,q⟩
theorem qQ:bI X (.builtin "len") (fun xs H Q=>∃ z,xs=[.str z]∧z.length≤sizeLine∧Q (.int z.length) H):=by
  intro pins s σ H xs us Q I r h
  obtain ⟨z,rfl,hz,q⟩:=h
  obtain ⟨u,rfl,t,rfl⟩:=vals1 r
  have hn:=jI
  exact len_str (by omega) ⟨.int z.length,H,I.tok _,⟨_,rfl⟩,q⟩
theorem bI.or {f:Value}{r r':List V→Hp→VK→Prop}(h:bI X f r)(h':bI X f r'):bI X f (fun xs H Q=>r xs H Q∨r' xs H Q):=by
  intro pins s σ H xs us Q I rs q
  rcases q with q | q
  · exact h pins s σ H xs us Q I rs q
  · exact h' pins s σ H xs us Q I rs q
theorem cR:bI X (.type "tuple") (fun xs H Q=>∃ p ys,xs=[.ref p]∧((SqL X.K H p ys∧∀ l,H l=none→Q (.ref l) (upd H l (.tup ys)))∨(SqT X.K H p ys∧Q (.ref p) H))):=by
  intro pins s σ H xs us Q I r h
  obtain ⟨p,ys,rfl,h⟩:=h
  obtain ⟨u,rfl,rx⟩:=vals1 r
  cases rx
  rcases h with ⟨hq,q⟩ | ⟨hq,q⟩
  · obtain ⟨its,r',pl,hz⟩:=I.list hq
    have hlen:=r'.length
    refine call_tuple_list pl.isList (fun h' kp=>?_) (by simp only[List.size_toArray]<;>omega)
    have I1:Inv X pins σ H { s with heap:=h' }:=I.kept (t':=s.toks) kp
    have I2:Inv X pins σ (upd H h'.objs.size (.tup ys)) { s with heap:=h'.push { cls:=.type "tuple", data:=.seq its.toArray } }:=
      I1.laid (t':=s.toks) (fun b o e=>Heap.get?_push_of_some _ e) (Nat.le_refl _) (show cv X.prog X.w _ _ _ (.tup ys) from ⟨hz,its,r',tO.new _ _⟩)
    exact ⟨.ref h'.objs.size,_,I2,rfl,q _ (I1.hok.fresh (Nat.le_refl _))⟩
  · obtain ⟨its,r',pl,hz⟩:=I.tuple hq
    exact call_tuple_same pl ⟨.ref p,H,I,rfl,q⟩
def tyV (K:PySem.W.Frag)(T:String)(x:V)(H:Hp):Prop:=match x with
  | .str _=>T = "str"
  | .int _=>T = "int"
  | .ref p=>(T = "list" ∧ ∃ xs,SqL K H p xs)∨(T = "tuple" ∧ ∃ o,K.lookup p=some o∧o.cls=.type "tuple" ∧ o.dict=none)∨
      (T = "dict" ∧ ((∃ kvs,H p=some (.dK kvs))∨∃ kvs,H p=some (.dT kvs)))∨(T = "set" ∧ ∃ S n,H p=some (.set S n))
  | _=>False
theorem Jb {pins:List (Addr×Obj)}{σ:St}{H:Hp}{s:Shared}{T:String}{x:V}{v:Value}(I:Inv X pins σ H s)(r:RelV x v)(ty:tyV X.K T x H) :
    s.TypeIs v T∧∀ a,v=.ref a→∃ ob,s.heap.get? a=some ob∧ob.dict=none:=by
  cases x with
  | str z=>
    obtain ⟨t,rfl⟩:=r
    cases (show T = "str" from ty)
    exact ⟨typeIs_str s z t,fun _ e=>nomatch e⟩
  | int i=>
    obtain ⟨t,rfl⟩:=r
    cases (show T = "int" from ty)
    exact ⟨typeIs_int s i t,fun _ e=>nomatch e⟩
  | ref p=>
    cases r
    rcases ty with ⟨rfl,xs,hq⟩ | ⟨rfl,o,hk,hc,hd⟩ | ⟨rfl,hk⟩ | ⟨rfl,S,n,hk⟩
    · obtain ⟨its,_,pl,_⟩:=I.list hq
      refine ⟨pl.isList.typeIs,fun a e=>?_⟩
      cases e
      obtain ⟨o,n,e,c,hd,_⟩:=pl
      exact ⟨o,e,hd⟩
    · refine ⟨⟨o,I.kIn p o hk,hc⟩,fun a e=>?_⟩
      cases e
      exact ⟨o,I.kIn _ o hk,hd⟩
    · have z:∃ o,s.heap.get? p=some o∧o.ExactDict:=by
        rcases hk with ⟨kvs,hk⟩ | ⟨kvs,hk⟩
        · obtain ⟨_,_,_,_,o,_,_,e,ex,_⟩:=I.hok p _ hk
          exact ⟨o,e,ex⟩
        · obtain ⟨_,_,_,_,o,_,_,e,ex,_⟩:=I.hok p _ hk
          exact ⟨o,e,ex⟩
      obtain ⟨o,e,ex⟩:=z
      refine ⟨⟨o,e,ex.1⟩,fun a e2=>?_⟩
      cases e2
      exact ⟨o,e,ex.2.1⟩
    · obtain ⟨o,_,_,_,e,ex,_⟩:=I.hok p _ hk
      refine ⟨⟨o,e,ex.1⟩,fun a e2=>?_⟩
      cases e2
      exact ⟨o,e,ex.2.1⟩
  | _=>exact False.elim ty
def tBM (K:PySem.W.Frag)(T:String)(r:V→List V→Hp→VK→Prop)(to:TE)(t:TA):TE:=fun σ H Q=>to σ H fun x H1=>tyV K T x H1∧t σ H1 fun xs H2=>r x xs H2 Q
variable {o e:Expr} {es:List Expr} {to:TE} {t:TA} {name:Str} {apos cpos:Pos} {T id:String} {r:V→List V→Hp→VK→Prop}
theorem FF (pa:PlainAttrs T)(slot:Slot T name id)(hty:typeOf (.builtin id)=pure (.type "method_descriptor"))(hm:MtR X id r)(ho:PE X o to)(ha:PA X (e::es) t)
    (hbase:attributeBase o name X.env (eval o X.env)=eval o X.env:=by rfl)
    (hfew:((backTo cpos (starEach (e::es) X.env)).all (fun x=>!x.1)&&(backToKw cpos (keywordEach [] X.env)).all (fun x=>x.1.isSome)
      && decide ((e::es).length+([]:List Keyword).length+(if ([]:List Keyword).isEmpty then 0 else 1) < 30))=true:=by rfl)
    (hline:(apos.endLine == cpos.line)=true:=by rfl) (hs:starEach (e::es) X.env=(false,eval e X.env)::starEach es X.env:=by rfl) (hplain:(backTo cpos (starEach es X.env)).any (·.1)=false:=by rfl) :
    PE X (.Call (.Attribute o name apos) (e::es) [] cpos) (tBM X.K T r to t):=by
  intro pins s σ H Q I h
  refine wpAny_Call_method_late hbase hfew hline rfl (thn (ho pins s σ H _ I h) fun v s1 ⟨x,H1,I1,r1,ty,q1⟩=>?_)
  obtain ⟨h1,h2⟩:=Jb I1 r1 ty
  refine ⟨T,id,pa,slot,hty,h1,h2,?_⟩
  have hA:=ha cpos pins s1 σ H1 _ I1 q1
  rw[hs] at hA ⊢
  refine Calls.callWith_builtin (by show (false || (backTo cpos (starEach es X.env)).any (·.1))=false;rw[hplain]<;>rfl) (Calls.evalArgs_plain ?_)
  exact thn hA fun us s2 ⟨vs,H2,I2,r2,q2⟩=>hm pins s2 σ H2 x vs v us Q I2 r1 r2 q2
end
end L2
namespace L2
open PySem PySem.Spec PyProof.Rows
def MtM (X:Cx)(id:String)(r:V→List V→Hp→VK→Prop):Prop:=
  ∀ (pins:List (Addr×Obj)) (s:Shared) (σ:St) (H:Hp) (x:V) (xs:List V) (v:Value) (us:List Value) (Q:VK),Inv X pins σ H s→RelV x v→Vals xs us→r x xs H Q→
    wpAny (model X.prog X.w) X.A (call (.builtin id) (v::us)) (EP X pins σ Q) X.xe s
theorem Vals.one:∀ {x:V} {us:List Value},Vals [x] us→∃ u,us=[u]∧RelV x u
  | _,_,.cons r .nil=>⟨_,rfl,r⟩
theorem Vals.zero:∀ {us:List Value},Vals [] us→us=[]
  | _,.nil=>rfl
theorem Vals.eraseIdx:∀ {xs:List V} {us:List Value} (i:Nat),Vals xs us→Vals (xs.eraseIdx i) (us.eraseIdx i)
  | _,_,_,.nil=>.nil
  | _,_,0,.cons _ t=>t
  | _,_,i+1,.cons r t=>.cons r (Vals.eraseIdx i t)
theorem Vals.reverse {xs:List V}{us:List Value}(h:Vals xs us):Vals xs.reverse us.reverse:=by
  induction h with
  | nil=>exact .nil
  | cons r t ih=>rw[List.reverse_cons,List.reverse_cons];exact Vals.append ih (.cons r .nil)
theorem Vals.rep {xs:List V}{us:List Value}(h:Vals xs us):∀ k:Nat,Vals (List.replicate k xs).flatten (List.replicate k us).flatten
  | 0=>.nil
  | k+1=>by
    rw[List.replicate_succ,List.replicate_succ,List.flatten_cons,List.flatten_cons]
    exact Vals.append h (Vals.rep h k)
theorem qc {α:Type}:∀ (l:List α) (i:Nat),(l.eraseIdx i).length≤l.length
  | [],_=>Nat.le_refl _
  | _::_,0=>Nat.le_succ _
  | _::r,i+1=>Nat.succ_le_succ (qc r i)
section
variable {X:Cx} {pins:List (Addr×Obj)} {σ:St} {H:Hp} {s:Shared} {l b:Addr} {xs ys zs:List V}
theorem Inv.Ko {its its':List Value}{n:Nat}{f:Array Value→Array Value}{t':Nat}(I:Inv X pins σ H s)(hH:H l=some (.lst xs))
    (e:s.heap.get? l=some { cls:=.type "list", data:=.seq its.toArray n }) (hf:f its.toArray=its'.toArray) (hv:Vals ys its') (hz:ys.length≤sizeLine) :
    Inv X pins σ (upd H l (.lst ys)) { s with heap:=s.heap.update l (Obj.mapSeq f),toks:=t' }:=by
  have q:=PySem.IsL.update e f
  rw[hf] at q
  refine I.write (x:=l) (e:=l) (by rw[hH];exact trivial) (.inl rfl) (fun b' u hb hu=>(Heap.get?_update_other s.heap (Obj.mapSeq f) (Ne.symm hb)).trans hu) ⟨_,q⟩ ?_
  exact ⟨hz,its',_,hv,q⟩
theorem Inv.Lo {its:List Value}{t':Nat}(I:Inv X pins σ H s)(hv:Vals ys its)(hz:ys.length≤sizeLine) :
    Inv X pins σ (upd H s.heap.objs.size (.lst ys)) { s with heap:=s.heap.push { cls:=.type "list", data:=.seq its.toArray },toks:=t' }:=
  I.laid (fun _ _ q=>Heap.get?_push_of_some _ q) (Nat.le_refl _) ⟨hz,its,0,hv,Heap.get?_push_size _ rfl⟩
theorem Inv.fresh (I:Inv X pins σ H s):H s.heap.objs.size=none:=I.hok.fresh (Nat.le_refl _)
theorem Inv.JM (I:Inv X pins σ H s)(hH:H l=some (.lst xs)):xs.length≤sizeLine∧∃ (its:List Value) (n:Nat),Vals xs its∧xs.length=its.length∧s.heap.get? l=some { cls:=.type "list", data:=.seq its.toArray n }:=by
  obtain ⟨z,its,n,r,e⟩:=I.hok l _ hH
  exact ⟨z,its,n,r,r.length,e⟩
end
section
variable {X:Cx}
def Et:V→List V→Hp→VK→Prop:=fun x vs H Q=>∃ l xs y,x=.ref l∧vs=[y]∧H l=some (.lst xs)∧xs.length < sizeLine∧Q .non (upd H l (.lst (xs++[y])))
theorem gH:MtM X "list.append" Et:=by
  intro pins s σ H x vs v us Q I rx rv h
  obtain ⟨l,xs,y,rfl,rfl,hH,hz,q⟩:=h
  cases rx
  obtain ⟨u,rfl,ru⟩:=rv.one
  obtain ⟨z,its,n,r,hl,e⟩:=I.JM hH
  refine call_meets F.slot_list_append ⟨_,e,rfl⟩ F.entry_list_append (F.args_list_append_2 _ _) (PySem.list_append l its.toArray n u (by rw[List.size_toArray];omega)) ⟨e,?_⟩
  refine ⟨.non,_,I.Ko (its':=its++[u]) hH e (by simp) (r.append (.cons ru .nil)) ?_,rfl,q⟩
  rw[List.length_append,List.length_singleton]
  omega
def Hw:V→List V→Hp→VK→Prop:=fun x vs H Q=>∃ l xs i k y,x=.ref l∧vs=[.int i]∧H l=some (.lst xs)∧-(2 ^ 63)≤i∧i < 2 ^ 63∧seqIndex? i xs.length=some k∧xs[k]? = some y∧Q y (upd H l (.lst (xs.eraseIdx k)))
theorem AL:MtM X "list.pop" Hw:=by
  intro pins s σ H x vs v us Q I rx rv h
  obtain ⟨l,xs,i,k,y,rfl,rfl,hH,h1,h2,hk,hy,q⟩:=h
  cases rx
  obtain ⟨u,rfl,ru⟩:=rv.one
  obtain ⟨t,rfl⟩:=ru
  obtain ⟨z,its,n,r,hl,e⟩:=I.JM hH
  obtain ⟨w,hw,rw'⟩:=r.get hy
  refine call_meets F.slot_list_pop ⟨_,e,rfl⟩ F.entry_list_pop (F.args_list_pop_2 _ _)
    (MeetsSeq.list_pop_at l its.toArray n i t k w (fitsIndex_both h1 h2) (by rw[List.size_toArray,← hl];exact hk) (by rw[← Array.getElem?_toList];exact hw) (by rw[List.size_toArray];omega)) ⟨e,?_⟩
  refine ⟨y,_,I.Ko (its':=its.eraseIdx k) hH e ?_ (r.eraseIdx k) ?_,rw',q⟩
  · show its.toArray.eraseIdxIfInBounds k=(its.eraseIdx k).toArray
    rw[List.eraseIdxIfInBounds_toArray]
  · have:=qc xs k
    omega
end
section
variable {prog:Program} {w:World} {A:Around} {E:Value→Shared→Prop} {s:Shared}
end
section
variable {X:Cx}
end
end L2
namespace Att
open PySem PySem.W PySem.Calls PyProof.Rows
theorem lF {P:Params}{h:Heap}:∀ (ns:List Int) (vs:List Value),WellAll P h vs (ns.map WData.int)→IntsAre vs ns:=by
  intro ns
  induction ns with
  | nil=>
    intro vs w
    rw[List.map_nil] at w
    cases w
    exact .nil
  | cons n ns ih=>
    intro vs w
    rw[List.map_cons] at w
    cases w with
    | cons a b=>
      cases a
      exact .cons _ _ (ih _ b)
theorem yL {l:OpenLaw}{n:Nat}(hn:l.most=some n){P:Params}{h:Heap}{args:List WData}{vals:List Value}
    (hpre:l.row.toRowW.claim.pre args=true) (hwl:WellAll P h vals args) :
    ∃ a vs ns,vals=[Value.ref a]∧args=[WData.list (ns.map WData.int)]∧h.get? a=some { cls:=.type "list", data:=.seq vs.toArray }∧IntsAre vs ns∧ns.length≤n:=by
  have hsh:WShape.hasAll [] args [.list .int]=true:=(pre_splitW hpre).1
  have hc:l.pre.holds [] { args:=args }=true:=(pre_splitW hpre).2
  obtain ⟨d,r,rfl,h1,h2⟩:=hasAllW_cons hsh
  obtain rfl:=hasAllW_nil h2
  obtain ⟨xs,rfl,h3⟩:=hasW_list h1
  obtain ⟨ns,rfl⟩:=items_int h3
  have hlen:ns.length≤n:=by
    unfold OpenLaw.pre at hc
    have h4:(WTm.not (.lt (.lit (.int (n:Int))) (.len (.arg 0)))).holds [] { args:=[.list (ns.map .int)] }=true:=by
      have h4:=(holds_andW hc).1
      rw[hn] at h4
      exact h4
    have h5:=condW_of h4 (w_not (w_lt w_lit (w_len_list (w_arg rfl))))
    rw[List.length_map] at h5
    refine Nat.le_of_not_lt fun q=>?_
    have q':(n:Int) < ((ns.length:Nat):Int):=by omega
    first
      | (rw[decide_eq_true q'] at h5;exact absurd h5 (by decide))
      | (simp at h5;omega)
  cases hwl with
  | cons w1 w2=>
    cases w2
    cases w1 with
    | list ho hall=>exact ⟨_,_,ns,rfl,rfl,ho,lF ns _ hall,hlen⟩
theorem y2 (l:OpenLaw)(args:List WData):l.row.toRowW.claim.post args (.bool true) args=true:=
  postW_of (r:=l.row.toRowW) (X:=(true == true))
    (show WShape.has [] (.bool true) .bool=true by first | rfl | decide | simp[WShape.has,WShape.arms,WShape.armsAll])
    (show (WTm.eq .res (.lit (.bool true))).value [] { args:=args,res:=some (.bool true),after:=args }=some (.bool (true == true)) from w_eq_bool (w_res rfl) w_lit) rfl
theorem ug {l:OpenLaw}{n:Nat}{q:Program}{loose:List Str}{XP:(Str→Option Value)→Heap→Prop}{YP:World→Heap→Prop}{d:DefRec}
    (hn:l.most=some n) (hdf:d.params.defaults=[])
    (call:∀ (w:World) (s₀ s₁:Shared) (mg mb:Str→Option Value) (fa:Addr) (o:Obj) (pm cd doc:Value) (a:Addr) (vs:List Value) (ns:List Int),
      Ground q loose [] XP w s₀ mg mb s₁.heap→YP w s₁.heap→
      s₁.heap.get? fa=some o→o.data=.func (docDef d.name d.params d.body d.scope pm cd doc)→s₁.heap.CodeRec cd d.name→mg d.name=some (.ref fa)→
      s₁.heap.get? a=some { cls:=.type "list", data:=.seq vs.toArray }→IntsAre vs ns→ns.length≤n→s₁.gens = #[]→
      codeAny (model l.prog w) callerA (.call (.ref fa) ⟨[.ref a],[]⟩) (fun r s'=>r=.ok (.ret (.bool true))∧OldK s₁.heap s'.heap∧s'.os=s₁.os∧AllBare s'.gens) s₁) :
    WalkO q loose XP YP l.row.toRowW d [] (fun f vs=>PySem.call f vs):=by
  intro w s₀ s₁ mg mb G Y fa o pm cd doc dV kV ho hd hcd hD hmg hg args vals as hpre hlay hrd hwl hlo
  obtain rfl:dV=.none:=Dflts.none hD hdf
  obtain rfl:kV=.none:=Dflts.noKw hD
  obtain ⟨a,vs,ns,rfl,rfl,hobj,hints,hlen⟩:=yL hn hpre hwl
  refine enter_call (codeAny_mono (call w s₀ s₁ mg mb fa o pm cd doc a vs ns G Y ho (fd_plain hd) hcd hmg hobj hints hlen hg) fun r s' hq=>?_)
  obtain ⟨rfl,h2,h3,h4⟩:=hq
  exact ⟨.inl ⟨.bool true,.bool true,[],rfl,fun _=>rfl,.bool true,y2 l _,fun _=>⟨List.Pairwise.nil,fun _ hm=>(nomatch hm)⟩⟩,h2,h3,h4⟩
section
variable {prog:Program} {w:World} {A:Around} {E:Value→Shared→Prop} {s:Shared} {K:Frag}
end
end Att
namespace L2
open PySem PySem.Spec PyProof.Rows
theorem p7:∀ {vs:List Value} {ns:List Int},IntsAre vs ns→Vals (ns.map V.int) vs
  | _,_,.nil=>.nil
  | _,_,.cons n t h=>.cons ⟨t,rfl⟩ (p7 h)
def Fo (H:Hp):Prop:=∀ b,H b=none∨∃ o xs,H b=some (.frz o (.lst xs))
theorem Ck {P:Program}{w:World}{K:PySem.W.Frag}{mg mb:Str→Option Value}{CX:CXT}{k:Nat}{fa a:Addr}{fd:FuncData}{x:Str}{sp:Sp}{s₁:Shared}{vs:List Value}{ns:List Int}
    (KX:K.In s₁.heap) (hns:s₁.heap.Ns mainGlobals mg) (hb:s₁.heap.Ns builtinsNs mb) (hbb:∀ x:Str,x ≠ "__name__" → mb x=bootBuiltins x) (hlim:s₁.heap.NoLimit) (hg:s₁.gens = #[])
    (ha:s₁.heap.get? a=some { cls:=.type "list", data:=.seq vs.toArray }) (hi:IntsAre vs ns) (hl:ns.length≤sizeLine) (hr:c6 k callerA)
    (F:∀ base:Heap,K.In base→base.Ns mainGlobals mg→fM P w K mg base CX k fa fd [x] sp) (hbind:∀ (s:Shared) (u:Value),BindsTo s fd ⟨[u],[]⟩ [(x,u)])
    (hsp:∀ H:Hp,Fo H→SqL K H a (ns.map V.int)→sp [.ref a] H (fun v _=>v=.bl true) fun _ _ _=>False)
    (hCX:∀ H e s',CX [] H s₁ (fun _ _ _=>False) e s'→False) :
    codeAny (model P w) callerA (.call (.ref fa) ⟨[.ref a],[]⟩) (fun r s'=>r=.ok (.ret (.bool true))∧OldK s₁.heap s'.heap∧s'.os=s₁.os∧AllBare s'.gens) s₁:=by
  have rv:=p7 hi
  have Lp:=hi.length
  -- from an abstract heap in which nothing but the script may be tracked
  have core:∀ H:Hp,Fo H→SqL K H a (ns.map V.int)→HOk P w H s₁.heap→(∀ b,H b≠none→b=a)→(H a≠none→K.lookup a=none)→
      codeAny (model P w) callerA (.call (.ref fa) ⟨[.ref a],[]⟩) (fun r s'=>r=.ok (.ret (.bool true))∧OldK s₁.heap s'.heap∧s'.os=s₁.os∧AllBare s'.gens) s₁:=by
    intro H hO hS hok hA hK
    have base_of:∀ {b:Addr} {o:Obj},s₁.heap.get? b=some o→H b=none→(rS s₁.heap H).get? b=some o:=fun e n=>BI e n
    have noA:∀ {b:Addr} {o:Obj} {es:Array DictEntry} {ep:Nat},s₁.heap.get? b=some o→o.data=.dict es ep→H b=none:=fun {b o es ep} e d=>by
      cases q:H b with
      | none=>rfl
      | some u=>
        have e':b=a:=hA b (by rw[q];simp)
        subst e'
        rw[ha] at e;cases e
        have d':Data.seq vs.toArray _=Data.dict es ep:=d
        cases d'
    have nsK:∀ {b:Addr} {m:Str→Option Value},s₁.heap.Ns b m→(rS s₁.heap H).Ns b m:=fun {b m} ⟨o,es,ep,e,d,r⟩=>⟨o,es,ep,base_of e (noA e d),d,r⟩
    have hKb:K.In (rS s₁.heap H):=fun b o e=>base_of (KX b o e) (by
      cases q:H b with
      | none=>rfl
      | some u=>
        have e':b=a:=hA b (by rw[q];simp)
        subst e'
        rw[hK (by rw[q];simp)] at e;cases e)
    have hM:Mod K mg (rS s₁.heap H):=⟨hKb,nsK hns,⟨mb,nsK hb,hbb⟩,let ⟨mc,h1,h2⟩:=hlim;⟨mc,nsK h1,h2⟩⟩
    have e0:vd P w K mg (rS s₁.heap H) callerA [] s₁ H:=⟨rfl,hM,fun b o e=>Fw e,Nat.le_of_eq (yQ _ _),trivial,fun b hb=>absurd (show b∈([]:List Addr) from hb) (by simp),hok,.of_eq hg⟩
    refine codeAny_mono ((F _ hKb (nsK hns)).run callerA [] s₁ H ⟨[.ref a],[]⟩ [.ref a] [.ref a] _ _ hr e0 (hbind s₁ (.ref a)) (.cons rfl .nil) (hsp H hO hS)) fun r s' h=>?_
    cases r with
    | error e=>exact (hCX H e s' h).elim
    | ok fl=>
      cases fl with
      | next=>exact False.elim h
      | brk=>exact False.elim h
      | cont=>exact False.elim h
      | ret u=>
        obtain ⟨v,H',os,bare,un,hok',r',q⟩:=h
        have q':v=.bl true:=q
        subst q'
        obtain rfl:u=Value.bool true:=r'
        refine ⟨rfl,OldK.of_keep fun b o e=>?_,os,bare⟩
        cases q:H b with
        | none=>exact un.keep b o e q (by intro z;exact absurd (show b∈([]:List Addr) from z) (by simp)) (by simp)
        | some u=>
          rcases hO b with z | ⟨ob,xs,z⟩
          · rw[q] at z;cases z
          · have z2:=un.iG b ob _ z
            obtain ⟨e1,_⟩:=hok b _ z
            obtain ⟨e2,_⟩:=hok' b _ z2
            rw[e] at e1;cases e1
            exact e2
  cases hk:K.lookup a with
  | some o=>
    -- the script is one of the module's own objects
    have e:=KX a o hk
    rw[ha] at e
    cases e
    refine core (fun _=>none) (fun _=>.inl rfl) (.inr ⟨_,vs.toArray,_,hk,rfl,rfl,rfl,by rw[List.size_toArray,Lp];exact hl,by simpa using rv⟩) (fun b u z=>by have z':(none:Option HO)=some u:=z;cases z') (fun b z=>absurd rfl z) fun z=>absurd rfl z
  | none=>
    refine core (fun b=>if b=a then some (.frz { cls:=.type "list", data:=.seq vs.toArray } (.lst (ns.map V.int))) else none) (fun b=>?_) (.inl (.inr ⟨{ cls:=.type "list", data:=.seq vs.toArray },if_pos rfl⟩)) (fun b u z=>?_) (fun b z=>?_) fun _=>hk
    · by_cases hb:b=a
      · exact .inr ⟨_,_,if_pos hb⟩
      · exact .inl (if_neg hb)
    · by_cases hb:b=a
      · have z':=(if_pos hb).symm.trans z
        cases z'
        subst hb
        exact ⟨ha,by rw[List.length_map];exact hl,vs,_,rv,ha⟩
      · have z':=(if_neg hb).symm.trans z
        cases z'
    · by_cases hb:b=a
      · exact hb
      · exact absurd (if_neg hb) z
end L2
namespace L2
open PySem PySem.Spec PyProof.Rows
theorem E7 {l:PySem.W.OpenLaw}{n k:Nat}{q:Program}{loose:List Str}{XP:(Str→Option Value)→Heap→Prop}{YP:World→Heap→Prop}{d:DefRec}{K:Params→PySem.W.Frag}{CX:World→CXT}{sp:World→Sp}{x:Str}
    (hn:l.most=some n) (hn2:n≤sizeLine) (hdf:d.params.defaults=[]) (hr:c6 k callerA)
    (hY:∀ (w:World) (h:Heap),YP w h→(K w.params).In h)
    (F:∀ (w:World) (mg:Str→Option Value) (fa:Addr) (h:Heap),(K w.params).In h→h.Ns mainGlobals mg→mg d.name=some (.ref fa)→
      ∃ fd:FuncData,(∀ (s:Shared) (u:Value),BindsTo s fd ⟨[u],[]⟩ [(x,u)])∧
        ∀ base:Heap,(K w.params).In base→base.Ns mainGlobals mg→fM l.prog w (K w.params) mg base (CX w) k fa fd [x] (sp w))
    (hsp:∀ (w:World) (H:Hp) (a:Addr) (ns:List Int),ns.length≤n→Fo H→SqL (K w.params) H a (ns.map V.int)→sp w [.ref a] H (fun v _=>v=.bl true) fun _ _ _=>False)
    (hCX:∀ (w:World) (H:Hp) (s:Shared) (e:Value) (s':Shared),CX w [] H s (fun _ _ _=>False) e s'→False) :
    PySem.W.WalkO q loose XP YP l.row.toRowW d [] (fun f vs=>PySem.call f vs):=by
  refine Att.ug hn hdf fun w s₀ s₁ mg mb fa o pm cd doc a vs ns G Y ho hd hcd hmg hobj hints hlen hg=>?_
  have KX:=hY w _ Y
  obtain ⟨fd,hb,hF⟩:=F w mg fa _ KX G.T.g hmg
  exact Ck KX G.T.g G.T.b G.T.builtins G.T.nolimit hg hobj hints (Nat.le_trans hlen hn2) hr hF hb (fun H hO hS=>hsp w H a ns hlen hO hS) fun H e s'=>hCX w H s₁ e s'
end L2
namespace L2
open PySem PySem.Spec PyProof.Rows
def jq (s:Stmt):Arguments:=match s with
  | .FunctionDef _ a _ _ _ _ _ _ _ _=>a
  | _=>{ posonlyargs:=[],args:=[],vararg:=none,kwonlyargs:=[],kw_defaults:=[],kwarg:=none,defaults:=[] }
def dN (s:Stmt):List Stmt:=match s with
  | .FunctionDef _ _ b _ _ _ _ _ _ _=>b
  | _=>[]
def aq (s:Stmt):Scope:=match s with
  | .FunctionDef _ _ _ _ _ _ sc _ _ _=>sc
  | _=>{ kind:=.function,names:=[],isGenerator:=false,isCoroutine:=false }
abbrev CX0:CXT:=fun _ _ _ _ _ _=>False
abbrev E0:XK:=fun _ _ _=>False
theorem Kr {X:Cx}:Passes CX0 X E0:=fun _ _ _ _ _ _ _ h=>h.elim
structure Fun (K:PySem.W.Frag) (x qual:Str) (st:Stmt) (f:Addr) (fd:FuncData):Prop where
  ex:∃ (oc:Value) (od:Option Addr) (kV doc pm:Value) (an:Option Addr) (cdv ct:Value) (osl:Array (Option Value)),
    fd=PySem.W.fnOf x qual (jq st) (dN st) (aq st) .none kV doc pm an cdv ct∧K.lookup f=some ⟨oc,od,.func fd,osl⟩∧PySem.W.codeIn K cdv qual=true
  kp:PySem.W.keepIn K (.ref f)=true
section
variable {P:Program} {w:World} {K:PySem.W.Frag} {mg:Str→Option Value} {base:Heap}
theorem Fun.ok {x qual:Str}{st:Stmt}{f:Addr}{fd:FuncData}{N ps:List Str}{k:Nat}{sp:Sp}(F:Fun K x qual st f fd)(S:aC N ps (aq st))(len:∀ vs H Q E,sp vs H Q E→vs.length=ps.length)
    (hbody:∀ (cdv:Value) (A:Around) (outer:List Env) (s:Shared) (H:Hp) (vs:List V) (Q:VK) (E:XK),c6 k (A.deeper (envOfC qual (aq st) s.heap.objs.size f cdv))→sp vs H Q E→
      ∃ t,PSs (tW CX0 P w K mg base N qual (aq st) f cdv A outer s H E).nox (dN st) t∧t { nx:=fun _ H'=>Q .non H',rt:=Q } (start N vs) H):fM P w K mg base CX0 (k+1) f fd ps sp:=by
  obtain ⟨oc,od,kV,doc,pm,an,cdv,ct,osl,rfl,lk,hcd⟩:=F.ex
  refine KJ lk hcd S len fun A outer s H vs Q E hr hsp=>?_
  obtain ⟨t,h,q⟩:=hbody cdv A outer s H vs Q E hr hsp
  exact ⟨t,h.nox,q⟩
theorem Fun.binds {x qual:Str}{st:Stmt}{f:Addr}{fd:FuncData}{ps:List Str}(F:Fun K x qual st f fd)
    (h:∀ (kV doc pm:Value) (an:Option Addr) (cdv ct:Value) (us:List Value),us.length=ps.length→bindArgs (PySem.W.fnOf x qual (jq st) (dN st) (aq st) .none kV doc pm an cdv ct) ⟨us,[]⟩=pure (ps.zip us)):Binds K fd ps []:=by
  obtain ⟨oc,od,kV,doc,pm,an,cdv,ct,osl,rfl,lk,hcd⟩:=F.ex
  exact .all (h kV doc pm an cdv ct)
theorem aM {x qual:Str}{st:Stmt}{f:Addr}{oc:Value}{od an:Option Addr}{osl:Array (Option Value)}{kV doc pm cdv ct:Value}(l:K.lookup f=some ⟨oc,od,.func (PySem.W.fnOf x qual (jq st) (dN st) (aq st) .none kV doc pm an cdv ct),osl⟩)
    (c:PySem.W.codeIn K cdv qual=true) (k:PySem.W.keepIn K (.ref f)=true):Fun K x qual st f (PySem.W.fnOf x qual (jq st) (dN st) (aq st) .none kV doc pm an cdv ct):=⟨⟨oc,od,kV,doc,pm,an,cdv,ct,osl,rfl,l,c⟩,k⟩
end
section
variable {X:Cx}
theorem pv (i:Nat){x:Str}{pos:Pos}(hN:X.N[i]? = some x:=by rfl)(hv:Vis X.env.scope x:=by first | exact Or.inl rfl | exact Or.inr (Or.inl rfl) | exact Or.inr (Or.inr rfl))(hd:(x == ("__debug__" : Str))=false:=by decide)
    (hcd:(x == ("__classdict__" : Str))=false:=by decide):PE X (.Name x pos) (Lc i):=Di hN hv hd hcd
end
theorem qS {A B:Prop}(h:B):if false=true then A else B:=by
  rw[if_neg Bool.false_ne_true]
  exact h
theorem rN {A B:Prop}(h:A):if true=true then A else B:=by
  rw[if_pos rfl]
  exact h
def oV (H H':Hp):Prop:=∀ b o,H b=some o→H' b=some o
theorem oV.refl (H:Hp):oV H H:=fun _ _ h=>h
theorem oV.trans {H H1 H2:Hp}(a:oV H H1)(b:oV H1 H2):oV H H2:=fun c o h=>b c o (a c o h)
theorem oV.free {H H':Hp}(e:oV H H'){l:Addr}(h:H' l=Option.none):H l=Option.none:=by
  cases q:H l with
  | none=>rfl
  | some o=>
    rw[e l o q] at h
    cases h
theorem oV.seq {K:PySem.W.Frag}{H H':Hp}{a:Addr}{xs:List V}(e:oV H H')(h:SqL K H a xs):SqL K H' a xs:=by
  rcases h with (h | ⟨o,h⟩) | h
  · exact .inl (.inl (e _ _ h))
  · exact .inl (.inr ⟨o,e _ _ h⟩)
  · exact .inr h
end L2
namespace L2
open PySem PySem.Spec PyProof.Rows
section
variable {κ:Type} [DecidableEq κ]
def gI (kvs:List (κ×V))(k:κ):Option V:=(kvs.find? fun kv=>decide (kv.1=k)).map (·.2)
def putK (kvs:List (κ×V))(k:κ)(v:V):List (κ×V):=
  if (kvs.any fun kv=>decide (kv.1=k))=true then kvs.map (fun kv=>if kv.1=k then (kv.1,v) else kv) else kvs++[(k,v)]
def F6 (kvs:List (κ×V))(k:κ):List (κ×V):=kvs.filter fun kv=>decide (kv.1≠k)
theorem jr {p:κ×V}{r:List (κ×V)}{k:κ}(e:p.1=k):gI (p::r) k=some p.2:=by simp[gI,List.find?_cons,e]
theorem je {p:κ×V}{r:List (κ×V)}{k:κ}(e:¬ p.1=k):gI (p::r) k=gI r k:=by simp[gI,List.find?_cons,e]
theorem sZ (k:κ):∀ kvs:List (κ×V),(kvs.any fun kv=>decide (kv.1=k))=(gI kvs k).isSome
  | []=>rfl
  | p::r=>by
    rw[List.any_cons]
    by_cases e:p.1=k
    · simp only[jr e,decide_eq_true e,Bool.true_or,Option.isSome_some]
    · rw[je e,decide_eq_false e,Bool.false_or];exact sZ k r
theorem gi (kvs:List (κ×V))(k:κ)(v:V):(putK kvs k v).length≤kvs.length+1:=by
  unfold putK
  split
  · rw[List.length_map];omega
  · rw[List.length_append,List.length_cons,List.length_nil];omega
theorem lB.zM {o:Option V}{u:Option Value}(r:lB o u):o.isSome=u.isSome:=by
  cases o with
  | none=>cases u with
    | none=>rfl
    | some _=>exact (show False from r).elim
  | some _=>cases u with
    | none=>exact (show False from r).elim
    | some _=>rfl
theorem lB.getD {o:Option V}{u:Option Value}{d:V}{d':Value}(r:lB o u)(rd:RelV d d'):RelV (o.getD d) (u.getD d'):=by
  cases o with
  | none=>cases u with
    | none=>exact rd
    | some _=>exact (show False from r).elim
  | some _=>cases u with
    | none=>exact (show False from r).elim
    | some _=>exact r
theorem KV.val {kvs:List (κ×V)}{vs:List (κ×Value)}(r:KV kvs vs)(k:κ):lB (gI kvs k) (valueAt vs k):=by
  unfold KV at r
  induction r with
  | nil=>exact True.intro
  | @cons p q ps qs h t ih=>
    obtain ⟨h1,h2⟩:=h
    by_cases e:p.1=k
    · have e':q.1=k:=h1.symm.trans e
      have b:valueAt (q::qs) k=some q.2:=by simp[valueAt,List.find?_cons,e']
      rw[jr e,b];exact h2
    · have e':¬ q.1=k:=fun z=>e (h1.trans z)
      have b:valueAt (q::qs) k=valueAt qs k:=by simp[valueAt,List.find?_cons,e']
      rw[je e,b];exact ih
theorem KV.any {kvs:List (κ×V)}{vs:List (κ×Value)}(r:KV kvs vs)(k:κ):(kvs.any fun kv=>decide (kv.1=k))=vs.any fun kv=>decide (kv.1=k):=by
  unfold KV at r
  induction r with
  | nil=>rfl
  | cons h t ih=>rw[List.any_cons,List.any_cons,ih,h.1]
theorem KV.Ij {kvs:List (κ×V)}{vs:List (κ×Value)}(r:KV kvs vs)(k:κ){y:V}{u:Value}(ry:RelV y u) :
    KV (kvs.map fun kv=>if kv.1=k then (kv.1,y) else kv) (vs.map fun kv=>if kv.1=k then (kv.1,u) else kv):=by
  unfold KV at r ⊢
  induction r with
  | nil=>exact .nil
  | @cons p q ps qs h t ih=>
    rw[List.map_cons,List.map_cons]
    refine .cons ?_ ih
    obtain ⟨h1,h2⟩:=h
    by_cases e:p.1=k
    · rw[if_pos e,if_pos (h1.symm.trans e)];exact ⟨h1,ry⟩
    · rw[if_neg e,if_neg (fun z=>e (h1.trans z))];exact ⟨h1,h2⟩
theorem KV.put {kvs:List (κ×V)}{vs:List (κ×Value)}(r:KV kvs vs)(k:κ){y:V}{u:Value}(ry:RelV y u):KV (putK kvs k y) (stored vs k u):=by
  unfold putK stored
  rw[r.any k]
  by_cases e:(vs.any fun kv=>decide (kv.1=k))=true
  · rw[if_pos e,if_pos e];exact r.Ij k ry
  · rw[if_neg e,if_neg e];exact Paired.snoc r ⟨rfl,ry⟩
theorem KV.drop {kvs:List (κ×V)}{vs:List (κ×Value)}(r:KV kvs vs)(k:κ):KV (F6 kvs k) (without vs k):=by
  unfold KV at r ⊢
  unfold F6 without
  induction r with
  | nil=>exact .nil
  | @cons p q ps qs h t ih=>
    obtain ⟨h1,h2⟩:=h
    rw[List.filter_cons,List.filter_cons]
    by_cases e:p.1=k
    · have a:¬ decide (p.1≠k)=true:=by simp[e]
      have b:¬ decide (q.1≠k)=true:=by simp[h1.symm.trans e]
      rw[if_neg a,if_neg b];exact ih
    · have e':¬ q.1=k:=fun z=>e (h1.trans z)
      have a:decide (p.1≠k)=true:=by simp[e]
      have b:decide (q.1≠k)=true:=by simp[e']
      rw[if_pos a,if_pos b];exact .cons ⟨h1,h2⟩ ih
theorem KV.keys {kvs:List (κ×V)}{vs:List (κ×Value)}(r:KV kvs vs):kvs.map (·.1)=vs.map (·.1):=by
  unfold KV at r
  induction r with
  | nil=>rfl
  | cons h t ih=>rw[List.map_cons,List.map_cons,ih,h.1]
theorem KV.length {kvs:List (κ×V)}{vs:List (κ×Value)}(r:KV kvs vs):kvs.length=vs.length:=Paired.length r
end
theorem xx {P:Program}{w:World}{k:Key}{u:Value}(r:RelV (kV k) u):(bM P w).is k u=true:=by
  cases k with
  | inl i=>obtain ⟨t,e⟩:=(show ∃ t,u=Value.int i t from r);subst e;exact uz P w i t
  | inr x=>obtain ⟨t,e⟩:=(show ∃ t,u=Value.str x t from r);subst e;exact uj P w x t
theorem pT {P:Program}{w:World}:∀ {ks:List Key} {us:List Value},Vals (ks.map kV) us→ItemsAre (bM P w) ks us
  | [],_,r=>by rw[List.map_nil] at r;cases r;exact .nil
  | k::ks,_,r=>by
    rw[List.map_cons] at r
    cases r with
    | cons h t=>exact .cons (xx h) (pT t)
abbrev KT (H:Hp):List (List Key×V)→List (List Key×Addr×Value)→Prop:=Paired fun p q=>p.1=q.1∧H q.2.1=some (.tup (p.1.map kV))∧RelV p.2 q.2.2
theorem KT.val {H:Hp}{kvs:List (List Key×V)}{xs:List (List Key×Addr×Value)}(r:KT H kvs xs)(k:List Key):lB (gI kvs k) ((atKey xs k).map (·.2)):=by
  induction r with
  | nil=>exact True.intro
  | @cons p q ps qs h t ih=>
    obtain ⟨h1,_,h2⟩:=h
    by_cases e:p.1=k
    · have e':q.1=k:=h1.symm.trans e
      have b:atKey (q::qs) k=some q.2:=by simp[atKey,List.find?_cons,e']
      rw[jr e,b];exact h2
    · have e':¬ q.1=k:=fun z=>e (h1.trans z)
      have b:atKey (q::qs) k=atKey qs k:=by simp[atKey,List.find?_cons,e']
      rw[je e,b];exact ih
theorem KT.Ij {H:Hp}{kvs:List (List Key×V)}{xs:List (List Key×Addr×Value)}(r:KT H kvs xs)(k:List Key){y:V}{u:Value}(ry:RelV y u) :
    KT H (kvs.map fun kv=>if kv.1=k then (kv.1,y) else kv) (xs.map (putAt k u)):=by
  induction r with
  | nil=>exact .nil
  | @cons p q ps qs h t ih=>
    rw[List.map_cons,List.map_cons]
    refine .cons ?_ ih
    obtain ⟨h1,h2,h3⟩:=h
    unfold putAt
    by_cases e:p.1=k
    · rw[if_pos e,if_pos (h1.symm.trans e)];exact ⟨h1,h2,ry⟩
    · rw[if_neg e,if_neg (fun z=>e (h1.trans z))];exact ⟨h1,h2,h3⟩
theorem KT.put {H:Hp}{kvs:List (List Key×V)}{xs:List (List Key×Addr×Value)}(r:KT H kvs xs)(k:List Key){b:Addr}{y:V}{u:Value}(hb:H b=some (.tup (k.map kV)))(ry:RelV y u) :
    KT H (putK kvs k y) (storedH xs k b u):=by
  have e:(kvs.any fun kv=>decide (kv.1=k))=(atKey xs k).isSome:=by
    rw[sZ,(r.val k).zM,Option.isSome_map]
  unfold putK storedH
  rw[e]
  by_cases q:(atKey xs k).isSome=true
  · rw[if_pos q,if_pos q];exact r.Ij k ry
  · rw[if_neg q,if_neg q];exact Paired.snoc r ⟨rfl,hb,ry⟩
theorem KT.keeps {H H':Hp}{kvs:List (List Key×V)}{xs:List (List Key×Addr×Value)}(r:KT H kvs xs)(ht:∀ b ys,H b=some (.tup ys)→H' b=some (.tup ys)):KT H' kvs xs:=
  Paired.IX r fun _ _ z=>⟨z.1,ht _ _ z.2.1,z.2.2⟩
section
variable {P:Program} {w:World} {H:Hp} {h:Heap} {a:Addr}
theorem F2 {u:HO}(ok:HOk P w H h)(e:Rd H a u):cv P w H h a u:=e.ok ok
theorem Dd {kvs:List (Key×V)}(ok:HOk P w H h)(e:Rd H a (.dK kvs)):kvs.length≤sizeLine∧(a == sysModules)=false∧∃ vs,KV kvs vs∧h.DictOf (bM P w) a vs:=
  show cv P w H h a (.dK kvs) from F2 ok e
theorem KD {kvs:List (Key×V)}(ok:HOk P w H h)(e:H a=some (.dK kvs)):kvs.length≤sizeLine∧(a == sysModules)=false∧∃ vs,KV kvs vs∧h.DictOf (bM P w) a vs:=Dd ok (.inl e)
theorem wc {ks:List Key}(ok:HOk P w H h)(e:H a=some (.tup (ks.map kV))):(tupleKind (bM P w)).is h ks a:=by
  obtain ⟨_,its,r,n,h1⟩:=(show cv P w H h a (.tup (ks.map kV)) from ok a _ e)
  exact ⟨_,its.toArray,n,h1,rfl,rfl,by simpa using pT r⟩
theorem BE {kvs:List (List Key×V)}(ok:HOk P w H h)(e:Rd H a (.dT kvs)):kvs.length≤sizeLine∧(a == sysModules)=false∧
    ∃ xs,KT H kvs xs∧h.DictOfH (tupleKind (bM P w)) a xs:=by
  obtain ⟨z,y,xs,r,o,es,ep,h1,h2,h3,h4,h5⟩:=(show cv P w H h a (.dT kvs) from F2 ok e)
  refine ⟨z,y,xs,r,o,es,ep,h1,h2,h3,h4,fun x hx=>?_,h5⟩
  have all:∀ {l:List (List Key×V)} {m:List (List Key×Addr×Value)},KT H l m→∀ x∈m,(tupleKind (bM P w)).is h x.1 x.2.1:=by
    intro l m q
    induction q with
    | nil=>intro x hx;exact nomatch hx
    | @cons p q ps qs hq t ih=>
      intro x hx
      rcases List.mem_cons.mp hx with e | hx
      · subst e
        exact wc ok (by rw[← hq.1];exact hq.2.1)
      · exact ih x hx
  exact all r x hx
theorem K9 {kvs:List (List Key×V)}(ok:HOk P w H h)(e:H a=some (.dT kvs)):kvs.length≤sizeLine∧(a == sysModules)=false∧
    ∃ xs,KT H kvs xs∧h.DictOfH (tupleKind (bM P w)) a xs:=BE ok (.inl e)
end
def sW (H:Hp)(a:Addr)(y:V)(r:Option V):Prop:=
  (∃ kvs k,Rd H a (.dK kvs)∧y=kV k∧r=gI kvs k)∨∃ kvs k b,Rd H a (.dT kvs)∧y=.ref b∧H b=some (.tup (k.map kV))∧r=gI kvs k
def vO (H:Hp)(a:Addr)(y v:V)(H':Hp):Prop:=
  (∃ kvs k,H a=some (.dK kvs)∧y=kV k∧kvs.length < sizeLine∧H'=upd H a (.dK (putK kvs k v)))∨
  ∃ kvs k b,H a=some (.dT kvs)∧y=.ref b∧H b=some (.tup (k.map kV))∧kvs.length < sizeLine∧H'=upd H a (.dT (putK kvs k v))
theorem sW.k {H:Hp}{a:Addr}{kvs:List (Key×V)}{k:Key}(e:H a=some (.dK kvs)):sW H a (kV k) (gI kvs k):=.inl ⟨kvs,k,.inl e,rfl,rfl⟩
theorem sW.t {H:Hp}{a b:Addr}{kvs:List (List Key×V)}{k:List Key}(e:H a=some (.dT kvs))(eb:H b=some (.tup (k.map kV))):sW H a (.ref b) (gI kvs k):=.inr ⟨kvs,k,b,.inl e,rfl,eb,rfl⟩
theorem vO.k {H:Hp}{a:Addr}{kvs:List (Key×V)}{k:Key}{v:V}(e:H a=some (.dK kvs))(hl:kvs.length < sizeLine):vO H a (kV k) v (upd H a (.dK (putK kvs k v))):=.inl ⟨kvs,k,e,rfl,hl,rfl⟩
theorem vO.t {H:Hp}{a b:Addr}{kvs:List (List Key×V)}{k:List Key}{v:V}(e:H a=some (.dT kvs))(eb:H b=some (.tup (k.map kV)))(hl:kvs.length < sizeLine) :
    vO H a (.ref b) v (upd H a (.dT (putK kvs k v))):=.inr ⟨kvs,k,b,e,rfl,eb,hl,rfl⟩
section
variable {X:Cx} {pins:List (Addr×Obj)} {σ:St} {H:Hp} {s:Shared} {a:Addr} {y v:V} {u r:Value} {o:Option V} {A:Around} {E:Value→Shared→Prop}
theorem Inv.big (I:Inv X pins σ H s):sysModules < s.heap.objs.size:=by
  have h:mainGlobals < s.heap.objs.size:=(I.mod.glob.keeps I.bk).lt
  exact Nat.lt_trans (by decide) h
theorem zF {Q:Value→Shared→Prop}(hu:A.units+1 < cLine)(I:Inv X pins σ H s)(g:sW H a y (some v))(ry:RelV y u)(h:∀ w' s',Inv X pins σ H s'→RelV v w'→Q w' s') :
    wpAny (model X.prog X.w) A (getItem (.ref a) u) Q E s:=by
  rcases g with ⟨kvs,k,e,ey,l⟩ | ⟨kvs,k,b,e,ey,eb,l⟩
  · subst ey
    obtain ⟨z,hd,vs,rel,dd⟩:=Dd I.hok e
    obtain ⟨w',hw,rw'⟩:=lB.some_of (v:=v) (o:=valueAt vs k) (by rw[l];exact rel.val k)
    exact wpAny_getItem_of (xx ry) dd.mapOf hw (h w' _ (I.tok _) rw')
  · subst ey
    cases (show u=Value.ref b from ry)
    obtain ⟨z,hd,xs,rel,dd⟩:=BE I.hok e
    obtain ⟨w',hw,rw'⟩:=lB.some_of (v:=v) (o:=(atKey xs k).map (·.2)) (by rw[l];exact rel.val k)
    obtain ⟨p,hp,hp2⟩:=Option.map_eq_some_iff.mp hw
    refine wpAny_getItem_heap (tupleKind_room_in1 hu) (wc I.hok eb) dd hp ?_
    rw[hp2]
    exact h w' _ (I.tok _) rw'
theorem yd {h':Heap}{t':Nat}{ob:HO}(I:Inv X pins σ H s)(mu:Mut (H a))(hs:Heap.SameBut a s.heap h')(he:∃ q,h'.get? a=some q)(new:cv X.prog X.w (upd H a ob) h' a ob) :
    Inv X pins σ (upd H a ob) { s with heap:=h',toks:=t' }:=
  I.write (x:=a) (e:=a) mu (.inl rfl) (fun b q hb z=>(hs.2 b hb).trans z) he new
theorem Bz {P:Program}{w:World}{H':Hp}{h':Heap}{kvs:List (Key×V)}{vs:List (Key×Value)}(z:kvs.length≤sizeLine)(hd:(a == sysModules)=false)(rel:KV kvs vs)(dd:h'.DictOf (bM P w) a vs) :
    cv P w H' h' a (.dK kvs):=⟨z,hd,vs,rel,dd⟩
theorem zm {H':Hp}{Q:Unit→Shared→Prop}(hu:A.units+1 < cLine)(I:Inv X pins σ H s)(g:vO H a y v H')(ry:RelV y u)(rv:RelV v r)(h:∀ s',Inv X pins σ H' s'→Q () s') :
    wpAny (model X.prog X.w) A (setItem (.ref a) u r) Q E s:=by
  rcases g with ⟨kvs,k,e,ey,l,eH⟩ | ⟨kvs,k,b,e,ey,eb,l,eH⟩
  · subst ey eH
    obtain ⟨z,hd,vs,rel,dd⟩:=KD I.hok e
    have hz:vs.length≤sizeLine:=by rw[← rel.length];exact z
    have hl:(putK kvs k v).length≤sizeLine:=by have:=gi kvs k v;omega
    refine wpAny_setItem_pairs (hsz:=hz) (xx ry) dd fun h' dd' hs=>h _ ?_
    have he:∃ q,h'.get? a=some q:=let ⟨q,_,_,hq,_⟩:=dd';⟨q,hq⟩
    exact yd I (by rw[e];exact True.intro) hs he (Bz hl hd (rel.put k rv) dd')
  · subst ey eH
    cases (show u=Value.ref b from ry)
    obtain ⟨z,hd,xs,rel,dd⟩:=K9 I.hok e
    have hz:xs.length≤sizeLine:=by rw[← Paired.length rel];exact z
    have hl:(putK kvs k v).length≤sizeLine:=by have:=gi kvs k v;omega
    refine wpAny_setItem_heap (hsz:=hz) (tupleKind_room_in1 hu) (wc I.hok eb) dd fun h' dd' hs=>h _ ?_
    obtain ⟨q,es,ep,hq,h2,h3,h4,_,h5⟩:=dd'
    refine yd I (by rw[e];exact True.intro) hs ⟨q,hq⟩ ⟨hl,hd,_,(rel.put k eb rv).keeps fun c ys ec=>?_,q,es,ep,hq,h2,h3,h4,h5⟩
    rw[aA (JA ec e (fun z=>nomatch z))]
    exact ec
end
section
variable {X:Cx} {pins:List (Addr×Obj)} {σ:St} {H:Hp} {s:Shared} {a:Addr} {kvs:List (Key×V)} {k:Key} {u:Value} {A:Around} {E:Value→Shared→Prop}
end
def G6 (i:Expr):Prop:=∀ ov iv,subscripted i false ov iv=operate [ov,iv] (getItem ov iv)
theorem DG {prog:Program}{w:World}{A:Around}{E:Value→Shared→Prop}{s:Shared}{env:Env}{value slice:Expr}{pos:Pos}{T id:String}{Q:Value→Shared→Prop}
    (hl:typeLookup (.type T) "__getitem__" = pure (some (.builtin id))) (hs:G6 slice)
    (h:wpAny (model prog w) A (eval value env) (fun o s₁=>wpAny (model prog w) A (eval slice env) (fun i s₂=>s₂.TypeIs o T∧wpAny (model prog w) A (getItem o i) Q E s₂) E s₁) E s) :
    wpAny (model prog w) A (eval (.Subscript value slice pos) env) Q E s:=by
  refine Subscript_ (wpAny_mono h (fun o s₁ h₁=>wpAny_mono h₁ (fun i s₂ h₂=>?_) fun _ _ x=>x) fun _ _ x=>x)
  obtain ⟨hT,h₂⟩:=h₂
  unfold subscriptTail
  refine wpAny_bind ?_
  rw[getitemInPython_of_ne hT.not_modules]
  refine wpAny_bind (wpAny_specialOf hT hl ?_)
  have fin:wpAny (model prog w) A (subscripted slice false o i) (fun r s₃=>wpAny (model prog w) A (letTemporaryGo value o r >>= fun _=>pure r) Q E s₃) E s₂:=by
    rw[hs o i]
    exact wpAny_operating (wpAny_mono h₂ (fun r s₃ h₃=>wpAny_bind (wpAny_letTemporaryGo (wpAny_pure h₃))) fun _ _ x=>x)
  first
    | exact wpAny_pure (wpAny_bind fin)
    | exact wpAny_bind (wpAny_pure (wpAny_bind fin))
    | exact wpAny_bind fin
theorem tq {X:Cx}{pins:List (Addr×Obj)}{σ:St}{H:Hp}{s:Shared}{a:Addr}{y:V}{o:Option V}(I:Inv X pins σ H s)(g:sW H a y o):s.TypeIs (.ref a) "dict" := by
  rcases g with ⟨kvs,k,e,_,_⟩ | ⟨kvs,k,b,e,_,_,_⟩
  · obtain ⟨_,_,vs,_,dd⟩:=Dd I.hok e
    exact dd.typeIs
  · obtain ⟨_,_,xs,_,dd⟩:=BE I.hok e
    exact dd.typeIs
def Kl (td ty:TE):TE:=fun σ H Q=>td σ H fun x H1=>ty σ H1 fun y H2=>∃ a v,x=.ref a∧sW H2 a y (some v)∧Q v H2
def JJ (td ty tv:TE):TS:=fun D σ H=>tv σ H fun v H1=>td σ H1 fun x H2=>ty σ H2 fun y H3=>∃ a H4,x=.ref a∧vO H3 a y v H4∧D.nx σ H4
section
variable {X:Cx} {o i e value:Expr} {pos pos' tpos:Pos} {td ty tv:TE}
theorem Dx (hu:X.A.units+1 < cLine)(ho:PE X o td)(hi:PE X i ty)(hs:G6 i):PE X (.Subscript o i pos) (Kl td ty):=by
  intro pins s σ H Q I h
  refine DG PySem.F.slot_dict_getitem.lookup hs (thn (ho pins s σ H _ I h) fun u s1 ⟨x,H1,I1,rx,q1⟩=>thn (hi pins s1 σ H1 _ I1 q1) fun iv s2 ⟨y,H2,I2,ry,a,v,ex,g,q2⟩=>?_)
  subst ex
  obtain rfl:u=Value.ref a:=rx
  exact ⟨tq I2 g,zF hu I2 g ry fun w' s3 I3 rw'=>⟨v,H2,I3,rw',q2⟩⟩
theorem E8 (hu:X.A.units+1 < cLine)(ho:PE X o td)(hi:PE X i ty)(hv:PE X value tv)(hs:swapsWith value (some (.Subscript o i pos')) pos.line X.env=pure false) :
    PS X (.Assign [.Subscript o i pos'] value pos) (JJ td ty tv):=by
  intro pins s σ H D I h
  refine wpAny_Assign_Subscript (thn (hv pins s σ H _ I h) fun r s1 ⟨v,H1,I1,rv,q1⟩=>thn (ho pins s1 σ H1 _ I1 q1) fun u s2 ⟨x,H2,I2,rx,q2⟩=>thn (hi pins s2 σ H2 _ I2 q2) fun iv s3 ⟨y,H3,I3,ry,a,H4,ex,g,q3⟩=>?_) hs
  subst ex
  obtain rfl:u=Value.ref a:=rx
  exact zm hu I3 g ry rv fun s4 I4=>⟨σ,H4,I4,q3⟩
end
theorem Cn {P:Program}{w:World}{H:Hp}(h:Heap)(hb:sysModules < h.objs.size):cv P w H (h.push { cls:=.type "dict", data:=.dict #[] }) h.objs.size (.dK []):=
  ⟨Nat.zero_le _,beq_eq_false_iff_ne.mpr (Ne.symm (Nat.ne_of_lt hb)),[],.nil,Heap.DictOf.new h⟩
def GA:TE:=fun _ H Q=>∀ p,H p=none→Q (.ref p) (upd H p (.dK []))
section
variable {X:Cx} {pos:Pos}
theorem Cp:PE X (.Dict [] [] pos) GA:=fun pins s σ H Q I h=>
  wpAny_Dict_empty ⟨.ref s.heap.objs.size,_,I.laid (a:=s.heap.objs.size) (o:=.dK []) (t':=s.toks) (fun _ _ q=>Heap.get?_push_of_some _ q) (Nat.le_refl _) (Cn s.heap I.big),rfl,h _ (I.hok.fresh (Nat.le_refl _))⟩
end
def ff (kvs more:List (Key×V)):List (Key×V):=more.foldl (fun acc kv=>putK acc kv.1 kv.2) kvs
theorem KV.merge:∀ {more:List (Key×V)} {rs:List (Key×Value)} {kvs:List (Key×V)} {vs:List (Key×Value)},KV more rs→KV kvs vs→KV (ff kvs more) (merged vs rs):=by
  intro more rs kvs vs r
  unfold KV at r
  induction r generalizing kvs vs with
  | nil=>intro q;exact q
  | @cons p q ps qs h t ih=>
    intro r0
    have e:KV (putK kvs p.1 p.2) (stored vs q.1 q.2):=by
      have:=r0.put p.1 h.2
      rw[← h.1];exact this
    exact ih e
theorem ig:∀ (more kvs:List (Key×V)),(ff kvs more).length≤kvs.length+more.length
  | [],kvs=>by show kvs.length≤kvs.length+0;omega
  | p::r,kvs=>by
    have h1:=ig r (putK kvs p.1 p.2)
    have h2:=gi kvs p.1 p.2
    show (ff (putK kvs p.1 p.2) r).length≤_
    rw[List.length_cons];omega
section
variable {X:Cx} {pins:List (Addr×Obj)} {σ:St} {H:Hp} {s:Shared} {a:Addr} {y d:V} {u r:Value} {o:Option V} {A:Around} {E:Value→Shared→Prop}
end
section
variable {X:Cx} {o e f:Expr} {apos cpos:Pos} {td ty tx:TE}
end
section
variable {X:Cx} {pins:List (Addr×Obj)} {σ:St} {H:Hp} {s:Shared} {a:Addr} {kvs:List (Key×V)} {A:Around} {E:Value→Shared→Prop}
end
section
variable {X:Cx} {pins:List (Addr×Obj)} {σ:St} {H:Hp} {s:Shared} {a:Addr} {y:V} {u:Value} {A:Around} {E:Value→Shared→Prop}
end
end L2
namespace L3
open PySem
local macro_rules | `(tactic| walk_at "ln")=>`(tactic| (intro ds μ Q h;split at h;rfl;exact h.elim))
theorem Jn {p q:Prop}(a:p)(b:q):p∧q:=⟨a,b⟩
inductive D where
  | non | bl (b:Bool) | int (i:Int) | str (x:Str) | ty (n:String) | tup (ds:List D) | ls (ds:List D) | obj (a:Addr)
inductive MO where
  | lst (ds:List D)
  | dct (kvs:List (L2.Key×D))
abbrev Mu:=Addr→Option MO
def up (μ:Mu)(a:Addr)(o:MO):Mu:=fun b=>if b=a then some o else μ b
theorem aN {μ:Mu}{a:Addr}{o:MO}:up μ a o a=some o:=by unfold up;rw[if_pos rfl]
theorem aV {μ:Mu}{a b:Addr}{o:MO}(h:b≠a):up μ a o b=μ b:=by unfold up;rw[if_neg h]
theorem sE {μ:Mu}{a:Addr}{o u:MO}:up (up μ a o) a u=up μ a u:=by
  funext b;unfold up;split<;>rfl
abbrev ST:=List (Option D)
abbrev DK:=D→Mu→Prop
abbrev ETr:=ST→Mu→DK→Prop
abbrev TTr:=ST→Mu→(Bool→Mu→Prop)→Prop
abbrev ATr:=ST→Mu→(List D→Mu→Prop)→Prop
abbrev DR:=D→Mu→DK→Prop
abbrev DR2:=D→D→Mu→DK→Prop
abbrev FSp:=List D→Mu→DK→Prop
structure En where
  nx:ST→Mu→Prop
  rt:DK
  bk:ST→Mu→Prop:=fun _ _=>False
  ct:ST→Mu→Prop:=fun _ _=>False
abbrev STr:=En→ST→Mu→Prop
abbrev GTr:=D→ST→Mu→(ST→Mu→Prop)→Prop
def kIf (c:Bool)(A B:Prop):Prop:=match c with
  | true=>A
  | false=>B
def kB (x:D)(f:Bool→Prop):Prop:=match x with
  | .bl c=>f c
  | _=>False
def kI (x:D)(f:Int→Prop):Prop:=match x with
  | .int c=>f c
  | _=>False
def kO (x:Option D)(f:D→Prop):Prop:=match x with
  | some d=>f d
  | none=>False
def kS (x:D)(f:List D→Prop):Prop:=match x with
  | .tup ds=>f ds
  | .ls ds=>f ds
  | _=>False
def k2 (ds:List D)(f:D→D→Prop):Prop:=match ds with
  | [v,w]=>f v w
  | _=>False
def kL (μ:Mu)(a:Addr)(f:List D→Prop):Prop:=match μ a with
  | some (.lst ds)=>f ds
  | _=>False
def kD (μ:Mu)(a:Addr)(f:List (L2.Key×D)→Prop):Prop:=match μ a with
  | some (.dct ds)=>f ds
  | _=>False
def kN (x:Option Nat)(f:Nat→Prop):Prop:=match x with
  | some d=>f d
  | none=>False
def lk:ST→Nat→Option D
  | [],_=>none
  | o::_,0=>o
  | _::r,n+1=>lk r n
def ag (i:Nat):ETr:=fun ρ μ Q=>kO (lk ρ i) fun d=>Q d μ
def TC (d:D):ETr:=fun _ μ Q=>Q d μ
def ak (r:DR2)(a b:ETr):ETr:=fun ρ μ Q=>a ρ μ fun x μ1=>b ρ μ1 fun y μ2=>r x y μ2 Q
def TUn (r:DR)(a:ETr):ETr:=fun ρ μ Q=>a ρ μ fun x μ1=>r x μ1 Q
def S64 (i:Int):Prop:=-18446744073709551616 < i∧i < 18446744073709551616
def cp (i:Int):Prop:=-115792089237316195423570985008687907853269984665640564039457584007913129639936 < i∧i < 115792089237316195423570985008687907853269984665640564039457584007913129639936
def MulOk (i j:Int):Prop:=(S64 i∨S64 j)∨(cp i∧cp j)
def eP (j:Int):Prop:=j≠0∧cp j
def tQ (i j:Int):Prop:=0≤j∧j≤1000000∧i.natAbs < 18446744073709551616
def eK:DR2:=fun x y μ Q=>match x,y with
  | .int i,.int j=>Q (.int (i - j)) μ
  | _,_=>False
def cI:DR2:=fun x y μ Q=>match x,y with
  | .int i,.int j=>MulOk i j∧Q (.int (i*j)) μ
  | _,_=>False
def f7:DR2:=fun x y μ Q=>match x,y with
  | .int i,.int j=>eP j∧Q (.int (i.fdiv j)) μ
  | _,_=>False
def lC:DR2:=fun x y μ Q=>match x,y with
  | .int i,.int j=>j≠0∧Q (.int (i.fmod j)) μ
  | _,_=>False
def AU:DR2:=fun x y μ Q=>match x,y with
  | .int i,.int j=>tQ i j∧Q (.int (i ^ j.toNat)) μ
  | _,_=>False
def nH:DR:=fun x μ Q=>match x with
  | .int i=>Q (.int (-i)) μ
  | _=>False
def CG (p:Int→Int→Bool):DR2:=fun x y μ Q=>match x,y with
  | .int i,.int j=>Q (.bl (p i j)) μ
  | _,_=>False
def rLt:DR2:=CG fun i j=>decide (i < j)
def rLe:DR2:=CG fun i j=>decide (i≤j)
def rGt:DR2:=CG fun i j=>decide (j < i)
def rGe:DR2:=CG fun i j=>decide (j≤i)
mutual
def eqD:D→D→Bool
  | .non,.non=>true
  | .bl a,.bl b=>a == b
  | .int a,.int b=>decide (a=b)
  | .bl a,.int b=>decide ((if a then 1 else 0:Int)=b)
  | .int a,.bl b=>decide (a=(if b then 1 else 0:Int))
  | .str a,.str b=>decide (a=b)
  | .tup a,.tup b=>oo a b
  | .ls a,.ls b=>oo a b
  | _,_=>false
def oo:List D→List D→Bool
  | [],[]=>true
  | a::r,b::s=>eqD a b&&oo r s
  | _,_=>false
end
mutual
def okD:Nat→D→Bool
  | _,.non=>true
  | _,.bl _=>true
  | _,.int _=>true
  | _,.str x=>PyData.strOk x
  | n+1,.tup ds=>cq n ds
  | n+1,.ls ds=>cq n ds
  | _,_=>false
def cq:Nat→List D→Bool
  | _,[]=>true
  | n,d::ds=>okD n d&&cq n ds
end
def rEq:DR2:=fun x y μ Q=>(okD 40 x=true∧okD 40 y=true)∧Q (.bl (eqD x y)) μ
def rNe:DR2:=fun x y μ Q=>(okD 40 x=true∧okD 40 y=true)∧Q (.bl (!eqD x y)) μ
def rIs:DR2:=fun x y μ Q=>match y with
  | .non=>(match x with
    | .non=>Q (.bl true) μ
    | _=>Q (.bl false) μ)
  | _=>False
def eI:DR2:=fun x y μ Q=>match y with
  | .non=>(match x with
    | .non=>Q (.bl false) μ
    | _=>Q (.bl true) μ)
  | _=>False
def eR (a b:ETr):ETr:=fun ρ μ Q=>a ρ μ fun x μ1=>kB x fun c=>kIf c (b ρ μ1 Q) (Q (.bl false) μ1)
def zy (a b:ETr):ETr:=fun ρ μ Q=>a ρ μ fun x μ1=>kB x fun c=>kIf c (Q (.bl true) μ1) (b ρ μ1 Q)
def jF (a:ETr):ETr:=fun ρ μ Q=>a ρ μ fun x μ1=>kB x fun c=>Q (.bl (!c)) μ1
def TB (t:ETr):TTr:=fun ρ μ Q=>t ρ μ fun x μ1=>kB x fun c=>Q c μ1
def u4 (t u:TTr):TTr:=fun ρ μ Q=>t ρ μ fun c μ1=>kIf c (u ρ μ1 Q) (Q false μ1)
def TOr (t u:TTr):TTr:=fun ρ μ Q=>t ρ μ fun c μ1=>kIf c (Q true μ1) (u ρ μ1 Q)
def lg (t:TTr):TTr:=fun ρ μ Q=>t ρ μ fun c μ1=>Q (!c) μ1
def G4 (c:TTr)(a b:ETr):ETr:=fun ρ μ Q=>c ρ μ fun k μ1=>kIf k (a ρ μ1 Q) (b ρ μ1 Q)
def uU (r r':DR2)(a b c:ETr):ETr:=fun ρ μ Q=>a ρ μ fun x μ1=>b ρ μ1 fun y μ2=>r x y μ2 fun z μ3=>kB z fun k=>kIf k (c ρ μ3 fun y' μ4=>r' y y' μ4 Q) (Q (.bl false) μ3)
def aw:ATr:=fun _ μ Q=>Q [] μ
def af (a:ETr)(r:ATr):ATr:=fun ρ μ Q=>a ρ μ fun x μ1=>r ρ μ1 fun xs μ2=>Q (x::xs) μ2
def dW (t:ATr):ETr:=fun ρ μ Q=>t ρ μ fun ds μ1=>ds.length≤1000000∧Q (.tup ds) μ1
def eO (t:ATr):ETr:=fun ρ μ Q=>t ρ μ fun ds μ1=>ds.length≤1000000∧Q (.ls ds) μ1
def rA (t:ATr):ETr:=fun ρ μ Q=>t ρ μ fun ds μ1=>ds.length≤1000000∧∀ p,μ1 p=none→Q (.obj p) (up μ1 p (.lst ds))
def ao (sp:FSp)(t:ATr):ETr:=fun ρ μ Q=>t ρ μ fun ds μ1=>sp ds μ1 Q
def atD (ds:List D)(i:Int):Option D:=L2.atI ds i
def rIx:DR2:=fun x y μ Q=>match x,y with
  | .tup ds,.int i=>kO (atD ds i) fun d=>Q d μ
  | .ls ds,.int i=>kO (atD ds i) fun d=>Q d μ
  | .obj a,.int i=>kL μ a fun ds=>kO (atD ds i) fun d=>Q d μ
  | _,_=>False
def tS:FSp:=fun ds μ Q=>match ds with
  | [.int i]=>Q (.int (if i < 0 then -i else i)) μ
  | _=>False
def jj:FSp:=fun ds μ Q=>match ds with
  | [.int i,.int j]=>Q (.int (if j > i then j else i)) μ
  | _=>False
def ko:FSp:=fun ds μ Q=>match ds with
  | [.int i,.int j]=>Q (.int (if j < i then j else i)) μ
  | _=>False
def JL:FSp:=fun ds μ Q=>match ds with
  | [.int i]=>Q (.int i) μ
  | [.bl k]=>Q (.int (if k then 1 else 0)) μ
  | _=>False
def dH:FSp:=fun ds μ Q=>match ds with
  | [.tup xs]=>Q (.int xs.length) μ
  | [.ls xs]=>Q (.int xs.length) μ
  | [.str x]=>x.length≤1000000∧Q (.int x.length) μ
  | [.obj a]=>kL μ a fun xs=>Q (.int xs.length) μ
  | _=>False
def tyD:D→Option String
  | .non=>some "NoneType"
  | .bl _=>some "bool"
  | .int _=>some "int"
  | .str _=>some "str"
  | .tup _=>some "tuple"
  | .ls _=>some "list"
  | _=>none
def ba (t c:String):Bool:=t == c || (t == "bool" && c == "int")
def gf (c:String):DR:=fun x μ Q=>match tyD x with
  | some t=>Q (.bl (ba t c)) μ
  | none=>False
def bh:STr:=fun E ρ μ=>E.nx ρ μ
def aF (t u:STr):STr:=fun E ρ μ=>t { E with nx:=u E } ρ μ
def wF:STr:=fun E ρ μ=>E.bk ρ μ
def BK:STr:=fun E ρ μ=>E.ct ρ μ
def iN (e:ETr):STr:=fun E ρ μ=>e ρ μ fun _ μ1=>E.nx ρ μ1
def aS (e:ETr):STr:=fun E ρ μ=>e ρ μ E.rt
def Dn:STr:=fun E _ μ=>E.rt .non μ
def cA (c:TTr)(t u:STr):STr:=fun E ρ μ=>c ρ μ fun b μ1=>kIf b (t E ρ μ1) (u E ρ μ1)
def au (i:Nat):GTr:=fun d ρ μ k=>k (ρ.set i (some d)) μ
def aO (e:ETr)(g:GTr):STr:=fun E ρ μ=>e ρ μ fun d μ1=>g d ρ μ1 E.nx
def wg (i j:Nat)(a:ATr):STr:=fun E ρ μ=>a ρ μ fun ds μ1=>k2 ds fun v w=>E.nx ((ρ.set i (some v)).set j (some w)) μ1
def Ez (x z y:D)(μ:Mu)(f:Mu→Prop):Prop:=match x,z with
  | .obj a,.int n=>kL μ a fun ds=>kN (L2.ixN ds.length n) fun j=>f (up μ a (.lst (ds.set j y)))
  | _,_=>False
def iu (o k e:ETr):STr:=fun E ρ μ=>e ρ μ fun y μ1=>o ρ μ1 fun x μ2=>k ρ μ2 fun z μ3=>Ez x z y μ3 fun μ4=>E.nx ρ μ4
def uS (c:TTr)(b:STr):STr:=fun E ρ μ=>∃ (P:ST→Mu→Prop) (m:ST→Mu→Nat),P ρ μ∧∀ ρ μ,P ρ μ→
  c ρ μ fun k μ1=>kIf k (b { E with nx:=fun ρ' μ'=>P ρ' μ'∧m ρ' μ' < m ρ μ,ct:=fun ρ' μ'=>P ρ' μ'∧m ρ' μ' < m ρ μ,bk:=E.nx } ρ μ1) (E.nx ρ μ1)
def forR (g:GTr)(b:STr)(E:En):List D→ST→Mu→Prop
  | [],ρ,μ=>E.nx ρ μ
  | d::r,ρ,μ=>g d ρ μ fun ρ1 μ1=>b { E with nx:=forR g b E r,ct:=forR g b E r,bk:=E.nx } ρ1 μ1
def j4 (it:ATr)(g:GTr)(b:STr):STr:=fun E ρ μ=>it ρ μ fun ds μ1=>forR g b E ds ρ μ1
def dq (lo:Int)(n:Nat):List D:=(List.range n).map fun i=>.int (lo+(i:Nat))
def di (a:ETr):ATr:=fun ρ μ Q=>a ρ μ fun x μ1=>kI x fun j=>(-4611686018427387904≤j∧j < 4611686018427387904)∧Q (dq 0 j.toNat) μ1
def eM (a:ETr):ATr:=fun ρ μ Q=>a ρ μ fun x μ1=>kS x fun ds=>Q ds μ1
def dn (μ:Mu)(a:Addr):Mu:=fun b=>if b=a then none else μ b
theorem CJ {μ:Mu}{a:Addr}{o:MO}(h:μ a=none):dn (up μ a o) a=μ:=by
  funext b
  unfold dn up
  by_cases hb:b=a
  · subst hb;simp[h]
  · simp[hb]
def fK (ρ:ST)(n:Nat)(caps:List Nat):ST:=List.replicate n none++caps.map (lk ρ)
def dE (p:Addr)(G:GTr)(tt:TTr)(te:ETr)(ρc:ST)(K:Mu→Prop):List D→Mu→Prop
  | [],μ=>K μ
  | d::r,μ=>G d ρc μ fun ρ1 μ1=>tt ρ1 μ1 fun b μ2=>kIf b (te ρ1 μ2 fun y μ3=>kL μ3 p fun zs=>zs.length < 1000000∧dE p G tt te ρc K r (up μ3 p (.lst (zs++[y])))) (dE p G tt te ρc K r μ2)
def bP (it:ATr)(G:GTr)(tt:TTr)(te:ETr)(n:Nat)(caps:List Nat):ETr:=fun ρ μ Q=>it ρ μ fun ds μ1=>∀ p,μ1 p=none→
  dE p G tt te (fK ρ n caps) (fun μ'=>kL μ' p fun zs=>Q (.ls zs) (dn μ' p)) ds (up μ1 p (.lst []))
def fL:TTr:=fun _ μ Q=>Q true μ
def Cs:FSp:=fun ds μ Q=>match ds with
  | [.ls xs]=>∃ bs:List Bool,xs=bs.map .bl∧Q (.bl (bs.all id)) μ
  | _=>False
theorem cF {g:GTr}{b:STr}{E:En}(P:List D→ST→Mu→Prop)(hnil:∀ ρ μ,P [] ρ μ→E.nx ρ μ)
    (hcons:∀ d r ρ μ (N:ST→Mu→Prop),P (d::r) ρ μ→(∀ ρ' μ',P r ρ' μ'→N ρ' μ')→g d ρ μ fun ρ1 μ1=>b { E with nx:=N,ct:=N,bk:=E.nx } ρ1 μ1) :
    ∀ (ds:List D) (ρ:ST) (μ:Mu),P ds ρ μ→forR g b E ds ρ μ
  | [],ρ,μ,h=>hnil ρ μ h
  | d::r,ρ,μ,h=>hcons d r ρ μ _ h fun ρ' μ' q=>cF P hnil hcons r ρ' μ' q
section
open PySem PySem.Spec PyProof.Rows L2
def SqF (K:PySem.W.Frag)(H:Hp)(a:Addr)(xs:List V):Prop:=
  (∃ o,H a=some (.frz o (.lst xs)))∨
    ∃ (o:Obj) (its:Array Value) (n:Nat),K.lookup a=some o∧o.cls=.type "list" ∧ o.dict=none∧o.data=.seq its n∧its.size≤sizeLine∧Vals xs its.toList
theorem SqF.sq {K:PySem.W.Frag}{H:Hp}{a:Addr}{xs:List V}(h:SqF K H a xs):SqL K H a xs:=by
  rcases h with h | h
  · exact .inl (.inr h)
  · exact .inr h
mutual
inductive Dp (K:PySem.W.Frag) (H:Hp):V→D→Prop
  | non:Dp K H .non .non
  | bl (b:Bool):Dp K H (.bl b) (.bl b)
  | int (n:Int):Dp K H (.int n) (.int n)
  | str (z:Str):Dp K H (.str z) (.str z)
  | ty (n:String):Dp K H (.ty n) (.ty n)
  | tup {a:Addr} {xs:List V} {ds:List D}:SqT K H a xs→DpL K H xs ds→Dp K H (.ref a) (.tup ds)
  | ls {a:Addr} {xs:List V} {ds:List D}:SqF K H a xs→DpL K H xs ds→Dp K H (.ref a) (.ls ds)
  | obj (a:Addr):Dp K H (.ref a) (.obj a)
inductive DpL (K:PySem.W.Frag) (H:Hp):List V→List D→Prop
  | nil:DpL K H [] []
  | cons {v:V} {d:D} {vs:List V} {ds:List D}:Dp K H v d→DpL K H vs ds→DpL K H (v::vs) (d::ds)
end
structure Tk (H H':Hp):Prop where
  tup:∀ a xs,H a=some (.tup xs)→H' a=some (.tup xs)
  frz:∀ a o u,H a=some (.frz o u)→H' a=some (.frz o u)
theorem Tk.refl (H:Hp):Tk H H:=⟨fun _ _ h=>h,fun _ _ _ h=>h⟩
theorem Tk.trans {H H1 H2:Hp}(a:Tk H H1)(b:Tk H1 H2):Tk H H2:=⟨fun c xs h=>b.tup c xs (a.tup c xs h),fun c o u h=>b.frz c o u (a.frz c o u h)⟩
theorem Tk.upd {H:Hp}{a:Addr}{o:HO}(h1:∀ xs,H a≠some (.tup xs))(h2:∀ o u,H a≠some (.frz o u)):Tk H (L2.upd H a o):=
  ⟨fun b xs h=>by rw[aA (fun z=>by subst z;exact h1 _ h)];exact h,fun b o u h=>by rw[aA (fun z=>by subst z;exact h2 _ _ h)];exact h⟩
theorem Tk.new {H:Hp}{a:Addr}{o:HO}(h:H a=none):Tk H (L2.upd H a o):=.upd (fun _ e=>by rw[h] at e;cases e) fun _ _ e=>by rw[h] at e;cases e
theorem Tk.sqT {K:PySem.W.Frag}{H H':Hp}{a:Addr}{xs:List V}(t:Tk H H')(h:SqT K H a xs):SqT K H' a xs:=by
  rcases h with (h | ⟨o,h⟩) | h
  · exact .inl (.inl (t.tup _ _ h))
  · exact .inl (.inr ⟨o,t.frz _ _ _ h⟩)
  · exact .inr h
theorem Tk.sqF {K:PySem.W.Frag}{H H':Hp}{a:Addr}{xs:List V}(t:Tk H H')(h:SqF K H a xs):SqF K H' a xs:=by
  rcases h with ⟨o,h⟩ | h
  · exact .inl ⟨o,t.frz _ _ _ h⟩
  · exact .inr h
mutual
theorem Dp.mono {K:PySem.W.Frag}{H H':Hp}(t:Tk H H'):∀ {v:V} {d:D},Dp K H v d→Dp K H' v d
  | _,_,.non=>.non
  | _,_,.bl b=>.bl b
  | _,_,.int i=>.int i
  | _,_,.str x=>.str x
  | _,_,.ty n=>.ty n
  | _,_,.tup h l=>.tup (t.sqT h) (DpL.mono t l)
  | _,_,.ls h l=>.ls (t.sqF h) (DpL.mono t l)
  | _,_,.obj a=>.obj a
theorem DpL.mono {K:PySem.W.Frag}{H H':Hp}(t:Tk H H'):∀ {vs:List V} {ds:List D},DpL K H vs ds→DpL K H' vs ds
  | _,_,.nil=>.nil
  | _,_,.cons h l=>.cons (Dp.mono t h) (DpL.mono t l)
end
theorem DpL.length {K:PySem.W.Frag}{H:Hp}:∀ {vs:List V} {ds:List D},DpL K H vs ds→vs.length=ds.length
  | _,_,.nil=>rfl
  | _,_,.cons _ l=>by rw[List.length_cons,List.length_cons,DpL.length l]
theorem DpL.get {K:PySem.W.Frag}{H:Hp}:∀ {vs:List V} {ds:List D} {i:Nat} {d:D},DpL K H vs ds→ds[i]? = some d→∃ v,vs[i]? = some v∧Dp K H v d
  | _,_,_,_,.nil,e=>by simp at e
  | _,_,0,_,.cons h _,e=>by simp at e;subst e;exact ⟨_,rfl,h⟩
  | _,_,i+1,d,.cons _ l,e=>by
    obtain ⟨v,e1,h⟩:=DpL.get (i:=i) (d:=d) l (by simpa using e)
    exact ⟨v,by simpa using e1,h⟩
theorem DpL.get' {K:PySem.W.Frag}{H:Hp}:∀ {vs:List V} {ds:List D} {i:Nat} {v:V},DpL K H vs ds→vs[i]? = some v→∃ d,ds[i]? = some d∧Dp K H v d
  | _,_,_,_,.nil,e=>by simp at e
  | _,_,0,_,.cons h _,e=>by simp at e;subst e;exact ⟨_,rfl,h⟩
  | _,_,i+1,d,.cons _ l,e=>by
    obtain ⟨v,e1,h⟩:=DpL.get' (i:=i) (v:=d) l (by simpa using e)
    exact ⟨v,by simpa using e1,h⟩
theorem DpL.set {K:PySem.W.Frag}{H:Hp}{v:V}{d:D}(h:Dp K H v d):∀ {vs:List V} {ds:List D} (i:Nat),DpL K H vs ds→DpL K H (vs.set i v) (ds.set i d)
  | _,_,_,.nil=>.nil
  | _,_,0,.cons _ l=>.cons h l
  | _,_,i+1,.cons q l=>.cons q (DpL.set h i l)
theorem DpL.append {K:PySem.W.Frag}{H:Hp}:∀ {vs ws:List V} {ds es:List D},DpL K H vs ds→DpL K H ws es→DpL K H (vs++ws) (ds++es)
  | _,_,_,_,.nil,s=>s
  | _,_,_,_,.cons h l,s=>.cons h (DpL.append l s)
theorem DpL.at {K:PySem.W.Frag}{H:Hp}{vs:List V}{ds:List D}{i:Int}{d:D}(l:DpL K H vs ds)(e:atD ds i=some d):∃ v,atI vs i=some v∧Dp K H v d:=by
  unfold atD atI at e
  unfold atI
  rw[l.length]
  cases q:ixN ds.length i with
  | none=>rw[q] at e;cases e
  | some j=>
    rw[q] at e
    exact l.get e
def DpK (K:PySem.W.Frag)(H:Hp)(xs:List (Key×V))(kvs:List (Key×D)):Prop:=xs.map (·.1)=kvs.map (·.1)∧DpL K H (xs.map (·.2)) (kvs.map (·.2))
theorem DpK.mono {K:PySem.W.Frag}{H H':Hp}(t:Tk H H'){xs:List (Key×V)}{kvs:List (Key×D)}(h:DpK K H xs kvs):DpK K H' xs kvs:=⟨h.1,h.2.mono t⟩
def vi (K:PySem.W.Frag)(H:Hp)(a:Addr):MO→Prop
  | .lst ds=>∃ xs,H a=some (.lst xs)∧DpL K H xs ds
  | .dct kvs=>∃ xs,H a=some (.dK xs)∧DpK K H xs kvs
theorem vi.go {K:PySem.W.Frag}{H H':Hp}{a:Addr}{o:MO}(h:vi K H a o)(t:Tk H H')(k:∀ u,H a=some u→H' a=some u):vi K H' a o:=by
  cases o with
  | lst ds=>obtain ⟨xs,z,l⟩:=h;exact ⟨xs,k _ z,l.mono t⟩
  | dct kvs=>obtain ⟨xs,z,l⟩:=h;exact ⟨xs,k _ z,l.mono t⟩
theorem vi.ne {K:PySem.W.Frag}{H:Hp}{a q:Addr}{o:MO}{u:HO}(h:vi K H a o)(t:Tk H (L2.upd H q u))(k:a≠q):vi K (L2.upd H q u) a o:=h.go t fun _ e=>by rw[aA k];exact e
def bA (K:PySem.W.Frag)(H:Hp)(μ:Mu):Prop:=∀ a o,μ a=some o→vi K H a o
theorem bA.free {K:PySem.W.Frag}{H:Hp}{μ:Mu}(h:bA K H μ){a:Addr}(e:H a=none):μ a=none:=by
  cases q:μ a with
  | none=>rfl
  | some o=>
    cases o with
    | lst ds=>obtain ⟨xs,z,_⟩:=h a _ q;rw[e] at z;cases z
    | dct ds=>obtain ⟨xs,z,_⟩:=h a _ q;rw[e] at z;cases z
theorem bA.keep {K:PySem.W.Frag}{H H':Hp}{μ:Mu}(h:bA K H μ)(t:Tk H H')(k:∀ a u,μ a≠none→H a=some u→H' a=some u):bA K H' μ:=fun a o e=>by
  exact (h a _ e).go t fun u z=>k a u (by rw[e];simp) z
def Sub (μ μ':Mu):Prop:=∀ a o,μ a=some o→μ' a=some o
theorem Sub.refl (μ:Mu):Sub μ μ:=fun _ _ h=>h
theorem Sub.new {μ:Mu}{p:Addr}{o:MO}(h:μ p=none):Sub μ (up μ p o):=fun a u e=>by
  rw[aV (fun z=>by subst z;rw[h] at e;cases e)];exact e
theorem Sub.trans {μ μ1 μ2:Mu}(a:Sub μ μ1)(b:Sub μ1 μ2):Sub μ μ2:=fun c o h=>b c o (a c o h)
theorem bA.sub {K:PySem.W.Frag}{H:Hp}{μ μ':Mu}(h:bA K H μ')(s:Sub μ μ'):bA K H μ:=fun a o e=>h a o (s a o e)
structure Rl (K:PySem.W.Frag) (σ:L2.St) (H:Hp) (ρ:ST) (μ:Mu):Prop where
  len:ρ.length=σ.length
  loc:∀ i d,lk ρ i=some d→∃ v,σ[i]? = some (some v)∧Dp K H v d
  mu:bA K H μ
theorem Rl.go {K:PySem.W.Frag}{σ:L2.St}{H H':Hp}{ρ:ST}{μ μ':Mu}(r:Rl K σ H ρ μ)(t:Tk H H')(m:bA K H' μ'):Rl K σ H' ρ μ':=
  ⟨r.len,fun i d e=>let ⟨v,h1,h2⟩:=r.loc i d e;⟨v,h1,h2.mono t⟩,m⟩
theorem Cd:∀ (ρ:ST) (i j:Nat) (d:D),lk (ρ.set i (some d)) j=if i=j∧i < ρ.length then some d else lk ρ j
  | [],i,j,d=>by simp[lk]
  | o::r,0,0,d=>by simp[lk]
  | o::r,0,j+1,d=>by simp[lk]
  | o::r,i+1,0,d=>by simp[lk]
  | o::r,i+1,j+1,d=>by
    show lk (r.set i (some d)) j=_
    rw[Cd r i j d]
    simp[lk]
theorem Rl.set {K:PySem.W.Frag}{σ:L2.St}{H:Hp}{ρ:ST}{μ:Mu}(r:Rl K σ H ρ μ){v:V}{d:D}(h:Dp K H v d)(i:Nat):Rl K (σ.set i (some v)) H (ρ.set i (some d)) μ:=by
  refine ⟨by simp[r.len],fun j e q=>?_,r.mu⟩
  rw[Cd] at q
  split at q
  · rename_i hc
    obtain ⟨rfl,hlt⟩:=hc
    cases q
    exact ⟨v,by rw[List.getElem?_set_self (by rw[← r.len];exact hlt)],h⟩
  · rename_i hc
    obtain ⟨u,h1,h2⟩:=r.loc j e q
    by_cases hij:i=j
    · subst hij
      have:¬ i < ρ.length:=fun z=>hc ⟨rfl,z⟩
      have hn:σ[i]? = none:=List.getElem?_eq_none_iff.mpr (by rw[← r.len];omega)
      rw[hn] at h1;cases h1
    · exact ⟨u,by rw[List.getElem?_set_ne hij];exact h1,h2⟩
abbrev gh (K:PySem.W.Frag)(H:Hp)(Q:DK)(Q':VK):Prop:=∀ v H' d μ',Tk H H'→bA K H' μ'→Dp K H' v d→Q d μ'→Q' v H'
def Sim (K:PySem.W.Frag)(t:TE)(T:ETr):Prop:=∀ σ H ρ μ (Q:DK) (Q':VK),Rl K σ H ρ μ→T ρ μ Q→gh K H Q Q'→t σ H Q'
def FE (K:PySem.W.Frag)(t:TT)(T:TTr):Prop:=∀ σ H ρ μ (Q:Bool→Mu→Prop) (Q':Bool→Hp→Prop),Rl K σ H ρ μ→T ρ μ Q→(∀ b H' μ',Tk H H'→bA K H' μ'→Q b μ'→Q' b H')→t σ H Q'
def Lf (K:PySem.W.Frag)(t:TA)(T:ATr):Prop:=∀ σ H ρ μ (Q:List D→Mu→Prop) (Q':List V→Hp→Prop),Rl K σ H ρ μ→T ρ μ Q→(∀ vs H' ds μ',Tk H H'→bA K H' μ'→DpL K H' vs ds→Q ds μ'→Q' vs H')→t σ H Q'
abbrev tR (K:PySem.W.Frag)(H:Hp)(N:ST→Mu→Prop)(N':L2.St→Hp→Prop):Prop:=∀ σ' H' ρ' μ',Tk H H'→Rl K σ' H' ρ' μ'→N ρ' μ'→N' σ' H'
structure Bf (K:PySem.W.Frag) (H:Hp) (E:En) (E':Ends):Prop where
  nx:tR K H E.nx E'.nx
  rt:gh K H E.rt E'.rt
  bk:tR K H E.bk E'.bk
  ct:tR K H E.ct E'.ct
theorem Bf.go {K:PySem.W.Frag}{H H1:Hp}{E:En}{E':Ends}(e:Bf K H E E')(t:Tk H H1):Bf K H1 E E':=
  ⟨fun _ _ _ _ t'=>e.nx _ _ _ _ (t.trans t'),fun _ _ _ _ t'=>e.rt _ _ _ _ (t.trans t'),fun _ _ _ _ t'=>e.bk _ _ _ _ (t.trans t'),fun _ _ _ _ t'=>e.ct _ _ _ _ (t.trans t')⟩
def DX (K:PySem.W.Frag)(t:TS)(T:STr):Prop:=∀ σ H ρ μ (E:En) (E':Ends),Rl K σ H ρ μ→T E ρ μ→Bf K H E E'→t E' σ H
def GB (K:PySem.W.Frag)(g:TG)(G:GTr):Prop:=∀ σ H ρ μ v d (k:ST→Mu→Prop) (k':L2.St→Hp→Prop),Rl K σ H ρ μ→Dp K H v d→G d ρ μ k→tR K H k k'→g v σ H k'
structure LE (X:Cx) (e:Expr) (T:ETr):Prop where
  ex:∃ t,PE X e t∧Sim X.K t T
structure LT (X:Cx) (e:Expr) (T:TTr):Prop where
  ex:∃ t,PT X e t∧FE X.K t T
structure LW (X:Cx) (e:Expr) (T:TTr):Prop where
  ex:∃ t,PW X e t∧FE X.K t T
structure LA (X:Cx) (es:List Expr) (T:ATr):Prop where
  ex:∃ t,PA X es t∧Lf X.K t T
structure LS (X:Cx) (st:Stmt) (T:STr):Prop where
  ex:∃ t,PS X st t∧DX X.K t T
structure LSs (X:Cx) (sts:List Stmt) (T:STr):Prop where
  ex:∃ t,PSs X sts t∧DX X.K t T
structure LG (X:Cx) (tg:Expr) (G:GTr):Prop where
  ex:∃ g,PG X tg g∧GB X.K g G
section
variable {X:Cx} {a b c e:Expr} {Ta Tb Tc:ETr} {pos:Pos}
theorem ae (i:Nat){x:Str}(hN:X.N[i]? = some x:=by rfl)(hv:Vis X.env.scope x:=by first | exact Or.inl rfl | exact Or.inr (Or.inl rfl) | exact Or.inr (Or.inr rfl))(hd:(x == ("__debug__" : Str))=false:=by decide)
    (hcd:(x == ("__classdict__" : Str))=false:=by decide):LE X (.Name x pos) (ag i):=
  ⟨_,Di hN hv hd hcd,fun σ H ρ μ Q Q' r h k=>by
    have h:kO (lk ρ i) fun d=>Q d μ:=h
    cases q:lk ρ i with
    | none=>rw[q] at h;exact False.elim h
    | some d=>
      rw[q] at h
      have h:Q d μ:=h
      obtain ⟨v,e1,p⟩:=r.loc i d q
      exact ⟨v,e1,k v H d μ (.refl H) r.mu p h⟩⟩
theorem le_int {i:Int}{j}:LE X (.Constant (.int i) j pos) (TC (.int i)):=⟨_,Hm,fun σ H ρ μ Q Q' r h k=>k _ H _ μ (.refl H) r.mu (.int i) h⟩
theorem dM {b:Bool}{j}:LE X (.Constant (.bool b) j pos) (TC (.bl b)):=⟨_,J5,fun σ H ρ μ Q Q' r h k=>k _ H _ μ (.refl H) r.mu (.bl b) h⟩
theorem iM {j}:LE X (.Constant .none j pos) (TC .non):=⟨_,HV,fun σ H ρ μ Q Q' r h k=>k _ H _ μ (.refl H) r.mu .non h⟩
theorem le_str {x:Str}{j}:LE X (.Constant (.str x) j pos) (TC (.str x)):=⟨_,Ic,fun σ H ρ μ Q Q' r h k=>k _ H _ μ (.refl H) r.mu (.str x) h⟩
def dB (K:PySem.W.Frag)(r:R2)(R:DR2):Prop:=∀ H μ x y dx dy (Q:DK) (Q':VK),bA K H μ→Dp K H x dx→Dp K H y dy→R dx dy μ Q→gh K H Q Q'→r x y H Q'
def Lb (K:PySem.W.Frag)(r:V→Hp→VK→Prop)(R:DR):Prop:=∀ H μ x dx (Q:DK) (Q':VK),bA K H μ→Dp K H x dx→R dx μ Q→gh K H Q Q'→r x H Q'
theorem gh.go {K:PySem.W.Frag}{H H1:Hp}{Q:DK}{Q':VK}(k:gh K H Q Q')(t:Tk H H1):gh K H1 Q Q':=fun v H' d μ' t'=>k v H' d μ' (t.trans t')
theorem gG {K:PySem.W.Frag}{r:R2}{R:DR2}{ta tb:TE}(hr:dB K r R)(ha:Sim K ta Ta)(hb:Sim K tb Tb):Sim K (tOp r ta tb) (ak R Ta Tb):=fun σ H ρ μ Q Q' rl h k=>
  ha σ H ρ μ _ _ rl h fun x H1 dx μ1 t1 m1 p1 h1=>hb σ H1 ρ μ1 _ _ (rl.go t1 m1) h1 fun y H2 dy μ2 t2 m2 p2 h2=>hr H2 μ2 x y dx dy Q Q' m2 (p1.mono t2) p2 h2 (k.go (t1.trans t2))
theorem gd {op:Operator}{r:R2}{R:DR2}(ho:OpR X (binaryOp op) r)(hr:dB X.K r R)(ha:LE X a Ta)(hb:LE X b Tb):LE X (.BinOp a op b pos) (ak R Ta Tb):=by
  obtain ⟨ta,pa,sa⟩:=ha.ex
  obtain ⟨tb,pb,sb⟩:=hb.ex
  exact ⟨_,FX ho pa pb,gG hr sa sb⟩
theorem i6 {op:CmpOp}{r:R2}{R:DR2}(ho:OpR X (compareOp op) r)(hr:dB X.K r R)(ha:LE X a Ta)(hb:LE X b Tb)(hm:behindInMarks op b=false):LE X (.Compare a [op] [b] pos) (ak R Ta Tb):=by
  obtain ⟨ta,pa,sa⟩:=ha.ex
  obtain ⟨tb,pb,sb⟩:=hb.ex
  exact ⟨_,EG ho pa pb hm,gG hr sa sb⟩
theorem GR {K:PySem.W.Frag}{t:TE}{T:ETr}(h:Sim K t T):FE K (FK t) (TB T):=fun σ H ρ μ Q Q' rl hh k=>
  h σ H ρ μ _ _ rl hh fun v H' d μ' t' m' p' h'=>by
    cases p' with
    | bl c=>exact ⟨c,rfl,k c H' μ' t' m' h'⟩
    | _=>exact False.elim h'
theorem HI {K:PySem.W.Frag}{t:TE}{T:ETr}(h:Sim K t T):FE K (tB t) (TB T):=fun σ H ρ μ Q Q' rl hh k=>
  h σ H ρ μ _ _ rl hh fun v H' d μ' t' m' p' h'=>by
    cases p' with
    | bl c=>exact ⟨c,rfl,k c H' μ' t' m' h'⟩
    | _=>exact False.elim h'
theorem dg {op:CmpOp}{r:R2}{R:DR2}(ho:OpR X (compareOp op) r)(hr:dB X.K r R)(ha:LE X a Ta)(hb:LE X b Tb)(hm:behindInMarks op b=false):LT X (.Compare a [op] [b] pos) (TB (ak R Ta Tb)):=by
  obtain ⟨ta,pa,sa⟩:=ha.ex
  obtain ⟨tb,pb,sb⟩:=hb.ex
  exact ⟨_,Ef ho pa pb hm,GR (gG hr sa sb)⟩
theorem OpR.or {f:Value→Value→Sem Value}{r r':R2}(h:OpR X f r)(h':OpR X f r'):OpR X f (fun x y H Q=>r x y H Q∨r' x y H Q):=fun pins s σ H x y v u Q I rx ry q=>by
  rcases q with q | q
  · exact h pins s σ H x y v u Q I rx ry q
  · exact h' pins s σ H x y v u Q I rx ry q
theorem jR {K:PySem.W.Frag}{C:Int→Int→Prop}{g:Int→Int→V}{R:DR2}(f:Int→Int→D)(hg:∀ H i j,Dp K H (g i j) (f i j))(hR:∀ i j μ Q,R (.int i) (.int j) μ Q→C i j∧Q (f i j) μ)
    (hn:∀ dx dy μ Q,R dx dy μ Q→(∃ i,dx=.int i)∧∃ j,dy=.int j):dB K (rI C g) R:=fun H μ x y dx dy Q Q' m px py h k=>by
  obtain ⟨⟨i,rfl⟩,j,rfl⟩:=hn _ _ _ _ h
  cases px;cases py
  obtain ⟨h1,h2⟩:=hR _ _ _ _ h
  exact ⟨i,j,rfl,rfl,h1,k _ H _ μ (.refl H) m (hg H i j) h2⟩
theorem rC {K:PySem.W.Frag}{g:Int→Int→V}{R:DR2}(f:Int→Int→D)(hg:∀ H i j,Dp K H (g i j) (f i j))(hR:∀ i j μ Q,R (.int i) (.int j) μ Q→Q (f i j) μ)
    (hn:∀ dx dy μ Q,R dx dy μ Q→(∃ i,dx=.int i)∧∃ j,dy=.int j):dB K (rI0 g) R:=fun H μ x y dx dy Q Q' m px py h k=>by
  obtain ⟨⟨i,rfl⟩,j,rfl⟩:=hn _ _ _ _ h
  cases px;cases py
  exact ⟨i,j,rfl,rfl,k _ H _ μ (.refl H) m (hg H i j) (hR _ _ _ _ h)⟩
theorem cQ (ha:LE X a Ta)(hb:LE X b Tb):LE X (.BinOp a .Sub b pos) (ak eK Ta Tb):=gd HJ (rC (fun i j=>.int (i - j)) (fun _ _ _=>.int _) (fun _ _ _ _ h=>h) (fun dx dy μ Q h=>by cases dx<;>cases dy<;>first | exact ⟨⟨_,rfl⟩,_,rfl⟩ | exact False.elim h)) ha hb
theorem cp.abs {j:Int}(h:cp j):j.natAbs < 2 ^ 256:=by
  have e:(2:Nat) ^ 256=115792089237316195423570985008687907853269984665640564039457584007913129639936:=by decide +kernel
  rw[e]
  obtain ⟨h1,h2⟩:=h
  omega
theorem MulOk.ok {i j:Int}(h:MulOk i j):IntMulOk i j:=by
  rcases h with (⟨h1,h2⟩ | ⟨h1,h2⟩) | ⟨h1,h2⟩
  · exact .of_left (intBits_le_64 h1 h2)
  · exact .of_right (intBits_le_64 h1 h2)
  · exact .of_le (PyProof.Rows.intBits_le h1.abs) (PyProof.Rows.intBits_le h2.abs) (by decide)
theorem Ee:OpR X (binaryOp .Mult) (rI MulOk fun i j=>.int (i*j)):=opI fun _ _ _ _ _ _ _ hc q=>mul_int q hc.ok
theorem eP.np {i j:Int}(h:eP j):Builtin.divisionGoesByPylong i j=false:=by
  refine PyProof.noPylong_of_log2 ?_
  have h0:j.natAbs≠0:=by have:=h.1;omega
  have:=(Nat.log2_lt h0).mpr h.2.abs
  omega
theorem E9:OpR X (binaryOp .FloorDiv) (rI (fun _ j=>eP j) fun i j=>.int (i.fdiv j)):=opI fun _ _ _ _ _ _ _ hc q=>floordiv_int hc.1 q (.inl hc.np)
theorem cK (ha:LE X a Ta)(hb:LE X b Tb):LE X (.BinOp a .FloorDiv b pos) (ak f7 Ta Tb):=gd E9 (jR (fun i j=>.int (i.fdiv j)) (fun _ _ _=>.int _) (fun _ _ _ _ h=>⟨h.1,h.2⟩) (fun dx dy μ Q h=>by cases dx<;>cases dy<;>first | exact ⟨⟨_,rfl⟩,_,rfl⟩ | exact False.elim h)) ha hb
theorem le_mul (ha:LE X a Ta)(hb:LE X b Tb):LE X (.BinOp a .Mult b pos) (ak cI Ta Tb):=gd Ee (jR (fun i j=>.int (i*j)) (fun _ _ _=>.int _) (fun _ _ _ _ h=>⟨h.1,h.2⟩) (fun dx dy μ Q h=>by cases dx<;>cases dy<;>first | exact ⟨⟨_,rfl⟩,_,rfl⟩ | exact False.elim h)) ha hb
theorem ft (ha:LE X a Ta)(hb:LE X b Tb):LE X (.BinOp a .Mod b pos) (ak lC Ta Tb):=gd D5 (jR (fun i j=>.int (i.fmod j)) (fun _ _ _=>.int _) (fun _ _ _ _ h=>⟨h.1,h.2⟩) (fun dx dy μ Q h=>by cases dx<;>cases dy<;>first | exact ⟨⟨_,rfl⟩,_,rfl⟩ | exact False.elim h)) ha hb
theorem le_pow (ha:LE X a Ta)(hb:LE X b Tb):LE X (.BinOp a .Pow b pos) (ak AU Ta Tb):=gd Hv (jR (fun i j=>.int (i ^ j.toNat)) (fun _ _ _=>.int _) (fun _ _ _ _ h=>⟨h.1,h.2⟩) (fun dx dy μ Q h=>by cases dx<;>cases dy<;>first | exact ⟨⟨_,rfl⟩,_,rfl⟩ | exact False.elim h)) ha hb
theorem fe {K:PySem.W.Frag}(p:Int→Int→Bool):dB K (rI0 fun i j=>.bl (p i j)) (CG p):=rC (fun i j=>.bl (p i j)) (fun _ _ _=>.bl _) (fun _ _ _ _ h=>h) (fun dx dy μ Q h=>by cases dx<;>cases dy<;>first | exact ⟨⟨_,rfl⟩,_,rfl⟩ | exact False.elim h)
theorem KG (ha:LE X a Ta)(hb:LE X b Tb):LE X (.Compare a [.Lt] [b] pos) (ak rLt Ta Tb):=i6 F8 (fe _) ha hb (cL _)
theorem yg (ha:LE X a Ta)(hb:LE X b Tb):LE X (.Compare a [.LtE] [b] pos) (ak rLe Ta Tb):=i6 FV (fe _) ha hb (cL _)
theorem KL (ha:LE X a Ta)(hb:LE X b Tb):LE X (.Compare a [.GtE] [b] pos) (ak rGe Ta Tb):=i6 FP (fe _) ha hb (cL _)
theorem xR (ha:LE X a Ta)(hb:LE X b Tb):LT X (.Compare a [.Lt] [b] pos) (TB (ak rLt Ta Tb)):=dg F8 (fe _) ha hb (cL _)
theorem JR (ha:LE X a Ta)(hb:LE X b Tb):LT X (.Compare a [.LtE] [b] pos) (TB (ak rLe Ta Tb)):=dg FV (fe _) ha hb (cL _)
theorem sJ (ha:LE X a Ta)(hb:LE X b Tb):LT X (.Compare a [.Gt] [b] pos) (TB (ak rGt Ta Tb)):=dg Kv (fe _) ha hb (cL _)
theorem BP (ha:LE X a Ta)(hb:LE X b Tb):LT X (.Compare a [.GtE] [b] pos) (TB (ak rGe Ta Tb)):=dg FP (fe _) ha hb (cL _)
theorem JE {op:UnaryOp}{r:V→Hp→VK→Prop}{R:DR}(ho:UnR X (unaryOp op) r)(hr:Lb X.K r R)(ha:LE X a Ta):LE X (.UnaryOp op a pos) (TUn R Ta):=by
  obtain ⟨ta,pa,sa⟩:=ha.ex
  exact ⟨_,J3 ho pa,fun σ H ρ μ Q Q' rl h k=>sa σ H ρ μ _ _ rl h fun x H1 dx μ1 t1 m1 p1 h1=>hr H1 μ1 x dx Q Q' m1 p1 h1 (k.go t1)⟩
theorem fi (ha:LE X a Ta)(he:∀ whole,isTrue a X.env whole=(do let v ← whole;standAt a.pos;holding [v] (truthy v)):=by intro _;rfl):LT X a (TB Ta):=by
  obtain ⟨ta,pa,sa⟩:=ha.ex
  exact ⟨_,Ho pa he,HI sa⟩
variable {tA tB' tC':TTr} {rest:List Expr}
theorem iJ (ha:LT X a tA):LT X (.UnaryOp .Not a pos) (lg tA):=by
  obtain ⟨ta,pa,sa⟩:=ha.ex
  exact ⟨_,Hk pa,fun σ H ρ μ Q Q' rl h k=>sa σ H ρ μ _ _ rl h fun c H1 μ1 t1 m1 h1=>k (!c) H1 μ1 t1 m1 h1⟩
theorem LW.lt (h:LW X a tA):LT X a tA:=by
  obtain ⟨ta,pa,sa⟩:=h.ex
  exact ⟨_,pa.pt,sa⟩
theorem yh (ha:LT X a tA):LW X (.BoolOp .And [a] pos) tA:=by
  obtain ⟨ta,pa,sa⟩:=ha.ex
  exact ⟨_,pw_and1 pa,sa⟩
theorem me (ha:LT X a tA):LW X (.BoolOp .Or [a] pos) tA:=by
  obtain ⟨ta,pa,sa⟩:=ha.ex
  exact ⟨_,pw_or1 pa,sa⟩
theorem Bw (ha:LT X a tA)(hb:LW X (.BoolOp .And (b::rest) pos) tB'):LW X (.BoolOp .And (a::b::rest) pos) (u4 tA tB'):=by
  obtain ⟨ta,pa,sa⟩:=ha.ex
  obtain ⟨tb,pb,sb⟩:=hb.ex
  refine ⟨_,pw_and pa pb,fun σ H ρ μ Q Q' rl h k=>sa σ H ρ μ _ _ rl h fun c H1 μ1 t1 m1 h1=>?_⟩
  cases c with
  | true=>exact rN (sb σ H1 ρ μ1 Q Q' (rl.go t1 m1) h1 fun b H2 μ2 t2=>k b H2 μ2 (t1.trans t2))
  | false=>exact qS (k false H1 μ1 t1 m1 h1)
theorem qz (ha:LT X a tA)(hb:LW X (.BoolOp .Or (b::rest) pos) tB'):LW X (.BoolOp .Or (a::b::rest) pos) (TOr tA tB'):=by
  obtain ⟨ta,pa,sa⟩:=ha.ex
  obtain ⟨tb,pb,sb⟩:=hb.ex
  refine ⟨_,pw_or pa pb,fun σ H ρ μ Q Q' rl h k=>sa σ H ρ μ _ _ rl h fun c H1 μ1 t1 m1 h1=>?_⟩
  cases c with
  | true=>exact rN (k true H1 μ1 t1 m1 h1)
  | false=>exact qS (sb σ H1 ρ μ1 Q Q' (rl.go t1 m1) h1 fun b H2 μ2 t2=>k b H2 μ2 (t1.trans t2))
theorem fT {op}(h:LE X a Ta):LE X (.BoolOp op [a] pos) Ta:=by
  obtain ⟨ta,pa,sa⟩:=h.ex
  exact ⟨_,IF pa,sa⟩
theorem f9 (ha:LE X a Ta)(hb:LE X (.BoolOp .And (b::rest) pos) Tb):LE X (.BoolOp .And (a::b::rest) pos) (eR Ta Tb):=by
  obtain ⟨ta,pa,sa⟩:=ha.ex
  obtain ⟨tb,pb,sb⟩:=hb.ex
  refine ⟨_,He pa pb,fun σ H ρ μ Q Q' rl h k=>sa σ H ρ μ _ _ rl h fun x H1 dx μ1 t1 m1 p1 h1=>?_⟩
  cases p1 with
  | bl c=>
    refine ⟨c,rfl,?_⟩
    cases c with
    | true=>exact rN (sb σ H1 ρ μ1 Q Q' (rl.go t1 m1) h1 (k.go t1))
    | false=>exact qS (k _ H1 _ μ1 t1 m1 (.bl _) h1)
  | _=>exact False.elim h1
theorem Kd (ha:LE X a Ta)(hb:LE X (.BoolOp .Or (b::rest) pos) Tb):LE X (.BoolOp .Or (a::b::rest) pos) (zy Ta Tb):=by
  obtain ⟨ta,pa,sa⟩:=ha.ex
  obtain ⟨tb,pb,sb⟩:=hb.ex
  refine ⟨_,Km pa pb,fun σ H ρ μ Q Q' rl h k=>sa σ H ρ μ _ _ rl h fun x H1 dx μ1 t1 m1 p1 h1=>?_⟩
  cases p1 with
  | bl c=>
    refine ⟨c,rfl,?_⟩
    cases c with
    | true=>exact rN (k _ H1 _ μ1 t1 m1 (.bl _) h1)
    | false=>exact qS (sb σ H1 ρ μ1 Q Q' (rl.go t1 m1) h1 (k.go t1))
  | _=>exact False.elim h1
theorem r9 (ha:LE X a Ta):LE X (.UnaryOp .Not a pos) (jF Ta):=by
  obtain ⟨ta,pa,sa⟩:=ha.ex
  refine ⟨_,Hg pa,fun σ H ρ μ Q Q' rl h k=>sa σ H ρ μ _ _ rl h fun x H1 dx μ1 t1 m1 p1 h1=>?_⟩
  cases p1 with
  | bl c=>exact ⟨c,rfl,k _ H1 _ μ1 t1 m1 (.bl _) h1⟩
  | _=>exact False.elim h1
variable {es:List Expr} {At:ATr}
theorem ah:LA X [] aw:=⟨_,gq,fun σ H ρ μ Q Q' rl h k=>k [] H [] μ (.refl H) rl.mu .nil h⟩
theorem aa (ha:LE X e Ta)(hr:LA X es At)(hs:starEach (e::es) X.env=(false,eval e X.env)::starEach es X.env:=by rfl):LA X (e::es) (af Ta At):=by
  obtain ⟨ta,pa,sa⟩:=ha.ex
  obtain ⟨tr,pr,sr⟩:=hr.ex
  exact ⟨_,cS pa pr hs,fun σ H ρ μ Q Q' rl h k=>sa σ H ρ μ _ _ rl h fun x H1 dx μ1 t1 m1 p1 h1=>sr σ H1 ρ μ1 _ _ (rl.go t1 m1) h1 fun xs H2 ds μ2 t2 m2 p2 h2=>k _ H2 _ μ2 (t1.trans t2) m2 (.cons (p1.mono t2) p2) h2⟩
theorem cz {K:PySem.W.Frag}{H:Hp}{μ:Mu}{p:Addr}{o:HO}(m:bA K H μ)(hp:H p=none):bA K (L2.upd H p o) μ:=m.keep (.new hp) fun a' xs' _ e=>by rw[aA (aQ e hp)];exact e
theorem big {n:Nat}(h:n≤1000000):n≤sizeLine:=Nat.le_trans h (by decide)
theorem cm {x1}(h:LA X es At):LE X (.Tuple es x1 pos) (dW At):=by
  obtain ⟨ta,pa,sa⟩:=h.ex
  refine ⟨_,Hy pa,fun σ H ρ μ Q Q' rl h k=>sa σ H ρ μ _ _ rl h fun xs H1 ds μ1 t1 m1 p1 h1=>⟨by rw[p1.length];exact big h1.1,fun p hp=>?_⟩⟩
  exact k _ _ _ μ1 (t1.trans (.new hp)) (cz m1 hp) (.tup (SqT.of aE) (p1.mono (.new hp))) h1.2
theorem sd (h:LA X es At):LE X (.List es pos) (rA At):=by
  obtain ⟨ta,pa,sa⟩:=h.ex
  refine ⟨_,Cj pa,fun σ H ρ μ Q Q' rl h k=>sa σ H ρ μ _ _ rl h fun xs H1 ds μ1 t1 m1 p1 h1=>⟨by rw[p1.length];exact big h1.1,fun p hp=>?_⟩⟩
  refine k _ _ _ (up μ1 p (.lst ds)) (t1.trans (.new hp)) (fun a o e=>?_) (.obj p) (h1.2 p (m1.free hp))
  by_cases ha:a=p
  · subst ha
    rw[aN] at e;cases e
    exact ⟨xs,aE,p1.mono (.new hp)⟩
  · rw[aV ha] at e
    exact cz m1 hp a o e
def EU (t:TE):TE:=fun σ H Q=>t σ H fun v H1=>∃ a xs,v=.ref a∧H1 a=some (.lst xs)∧∀ o,Q v (L2.upd H1 a (.frz o (.lst xs)))
theorem jM {t:TE}(h:PE X e t):PE X e (EU t):=by
  intro pins s σ H Q I hh
  refine thn (h pins s σ H _ I hh) fun u s1 ⟨v,H1,I1,r,a,xs,ev,ea,q⟩=>?_
  obtain ⟨z,its,n,rv,hg⟩:=(show cv X.prog X.w H1 s1.heap a (.lst xs) from I1.hok a _ ea)
  have nl:∀ b o,H1 b=some o→(∀ ys,o≠.lst ys)→b≠a:=fun b o e1 e2 z=>by subst z;rw[ea] at e1;cases e1;exact e2 _ rfl
  refine ⟨v,_,I1.un (h':=s1.heap) (t':=s1.toks) (H':=L2.upd H1 a (.frz { cls:=.type "list", data:=.seq its.toArray n } (.lst xs))) ⟨fun b o e _ _ _=>e,fun b o e _ _ _=>⟨o.slots,e⟩,fun b o e n _=>?_,fun b o e _=>⟨o,e⟩,fun b ys e=>?_,fun b o u e=>?_,fun b ps e=>⟨#[],?_⟩⟩ (fun b u e=>?_),r,q _⟩
  · rw[aA (fun z=>by subst z;rw[ea] at n;cases n)];exact n
  · rw[aA (nl b _ e (fun _=>nofun))];exact e
  · rw[aA (nl b _ e (fun _=>nofun))];exact e
  · rw[aA (nl b _ e (fun _=>nofun)),e];simp
  · by_cases hb:b=a
    · subst hb
      rw[aE] at e;cases e
      exact ⟨hg,z,its,n,rv,hg⟩
    · rw[aA hb] at e
      refine (I1.hok b u e).jk (fun c w _ q=>q) (fun c q=>?_) fun c ys q=>?_
      · rw[aA (nl c _ q (fun _=>nofun))];exact q
      · rw[aA (nl c _ q (fun _=>nofun))];exact q
theorem cy (h:LA X es At):LE X (.List es pos) (eO At):=by
  obtain ⟨ta,pa,sa⟩:=h.ex
  refine ⟨_,jM (Cj pa),fun σ H ρ μ Q Q' rl h k=>sa σ H ρ μ _ _ rl h fun xs H1 ds μ1 t1 m1 p1 h1=>⟨by rw[p1.length];exact big h1.1,fun p hp=>⟨p,xs,rfl,aE,fun o=>?_⟩⟩⟩
  have e:L2.upd (L2.upd H1 p (.lst xs)) p (.frz o (.lst xs))=L2.upd H1 p (.frz o (.lst xs)):=rW
  rw[e]
  exact k _ _ _ μ1 (t1.trans (.new hp)) (cz m1 hp) (.ls (.inl ⟨o,aE⟩) (p1.mono (.new hp))) h1.2
end
end
section
open PySem PySem.Spec PyProof.Rows L2
mutual
def toP:D→PyData
  | .non=>.none
  | .bl b=>.bool b
  | .int i=>.int i
  | .str x=>.str x
  | .tup ds=>.tuple (jB ds)
  | .ls ds=>.list (jB ds)
  | .ty _=>.none
  | .obj _=>.none
def jB:List D→List PyData
  | []=>[]
  | d::r=>toP d::jB r
end
mutual
theorem fz:∀ (n:Nat) (d:D),okD n d=true→(toP d).canLay0=true∧(toP d).depth≤n
  | n,.non,_=>⟨rfl,Nat.zero_le _⟩
  | n,.bl b,_=>⟨rfl,Nat.zero_le _⟩
  | n,.int i,_=>⟨rfl,Nat.zero_le _⟩
  | n,.str x,h=>⟨by cases n<;>exact h,Nat.zero_le _⟩
  | n+1,.tup ds,h=>by
    obtain ⟨h1,h2⟩:=lZ n ds h
    exact ⟨h1,Nat.succ_le_succ h2⟩
  | n+1,.ls ds,h=>by
    obtain ⟨h1,h2⟩:=lZ n ds h
    exact ⟨h1,Nat.succ_le_succ h2⟩
  | 0,.tup ds,h=>by cases h
  | 0,.ls ds,h=>by cases h
  | n,.ty _,h=>by cases n<;>cases h
  | n,.obj _,h=>by cases n<;>cases h
theorem lZ:∀ (n:Nat) (ds:List D),cq n ds=true→PyData.canLayAll0 (jB ds)=true∧PyData.depthAll (jB ds)≤n
  | n,[],_=>⟨rfl,Nat.zero_le _⟩
  | n,d::r,h=>by
    have h':okD n d=true∧cq n r=true:=by simpa[cq] using h
    obtain ⟨a1,a2⟩:=fz n d h'.1
    obtain ⟨b1,b2⟩:=lZ n r h'.2
    refine ⟨?_,?_⟩
    · show (PyData.canLay0 (toP d)&&PyData.canLayAll0 (jB r))=true
      rw[a1,b1];rfl
    · show max (PyData.depth (toP d)) (PyData.depthAll (jB r))≤n
      exact Nat.max_le.mpr ⟨a2,b2⟩
end
theorem str_beq (a b:Str):(a == b)=decide (a=b):=by
  by_cases h:a=b
  · subst h;simp
  · rw[decide_eq_false h];exact beq_eq_false_iff_ne.mpr h
mutual
theorem lN:∀ (n m:Nat) (a b:D),okD n a=true→okD m b=true→PyData.eqv (toP a) (toP b)=eqD a b
  | n,m,.non,b,_,hb=>by cases b<;>first | rfl | (cases m<;>cases hb)
  | n,m,.bl x,b,_,hb=>by
    cases b with
    | int y=>simp only[toP,PyData.eqv,eqD];rw[Bool.beq_eq_decide_eq]
    | ty _=>cases m<;>cases hb
    | obj _=>cases m<;>cases hb
    | _=>rfl
  | n,m,.int x,b,_,hb=>by
    cases b with
    | int y=>simp only[toP,PyData.eqv,eqD];rw[Bool.beq_eq_decide_eq]
    | bl y=>simp only[toP,PyData.eqv,eqD];rw[Bool.beq_eq_decide_eq]
    | ty _=>cases m<;>cases hb
    | obj _=>cases m<;>cases hb
    | _=>rfl
  | n,m,.str x,b,_,hb=>by
    cases b with
    | str y=>simp only[toP,PyData.eqv,eqD];exact str_beq x y
    | ty _=>cases m<;>cases hb
    | obj _=>cases m<;>cases hb
    | _=>rfl
  | n+1,m,.tup xs,b,ha,hb=>by
    cases b with
    | tup ys=>
      cases m with
      | zero=>cases hb
      | succ m=>simp only[toP,PyData.eqv,eqD];exact mM n m xs ys ha hb
    | ty _=>cases m<;>cases hb
    | obj _=>cases m<;>cases hb
    | _=>rfl
  | n+1,m,.ls xs,b,ha,hb=>by
    cases b with
    | ls ys=>
      cases m with
      | zero=>cases hb
      | succ m=>simp only[toP,PyData.eqv,eqD];exact mM n m xs ys ha hb
    | ty _=>cases m<;>cases hb
    | obj _=>cases m<;>cases hb
    | _=>rfl
  | 0,_,.tup ds,_,h,_=>by cases h
  | 0,_,.ls ds,_,h,_=>by cases h
  | n,_,.ty _,_,h,_=>by cases n<;>cases h
  | n,_,.obj _,_,h,_=>by cases n<;>cases h
theorem mM:∀ (n m:Nat) (a b:List D),cq n a=true→cq m b=true→PyData.eqvAll (jB a) (jB b)=oo a b
  | _,_,[],[],_,_=>rfl
  | _,_,[],_::_,_,_=>by simp[jB,PyData.eqvAll,oo]
  | _,_,_::_,[],_,_=>by simp[jB,PyData.eqvAll,oo]
  | n,m,a::r,b::s,ha,hb=>by
    have ha':okD n a=true∧cq n r=true:=by simpa[cq] using ha
    have hb':okD m b=true∧cq m s=true:=by simpa[cq] using hb
    show (PyData.eqv (toP a) (toP b)&&PyData.eqvAll (jB r) (jB s))=(eqD a b&&oo r s)
    rw[lN n m a b ha'.1 hb'.1,mM n m r s ha'.2 hb'.2]
end
section
variable {X:Cx} {pins:List (Addr×Obj)} {σ:L2.St} {H:Hp} {s:Shared}
mutual
theorem cZ (I:Inv X pins σ H s):∀ {n:Nat} {v:V} {d:D} {u:Value},Dp X.K H v d→okD n d=true→RelV v u→∃ as,Reads s.heap u (toP d) as
  | n,_,_,u,.non,_,r=>by cases (show u=Value.none from r);exact ⟨_,.none⟩
  | n,_,_,u,.bl b,_,r=>by cases (show u=Value.bool b from r);exact ⟨_,.bool b⟩
  | n,_,_,u,.int i,_,r=>by obtain ⟨t,e⟩:=(show ∃ t,u=Value.int i t from r);subst e;exact ⟨_,.int i t⟩
  | n,_,_,u,.str x,_,r=>by obtain ⟨t,e⟩:=(show ∃ t,u=Value.str x t from r);subst e;exact ⟨_,.str x t⟩
  | n,_,_,u,.ty _,h,_=>by cases n<;>cases h
  | n+1,_,_,u,@Dp.tup _ _ a xs ds q l,h,r=>by
    cases (show u=Value.ref a from r)
    obtain ⟨its,rv,⟨o,e1,e2,k,e3⟩,_⟩:=I.tuple q
    obtain ⟨as,ra⟩:=gc I (n:=n) l h rv
    exact ⟨_,.tuple e1 e2 e3 (by simpa using ra)⟩
  | n+1,_,_,u,@Dp.ls _ _ a xs ds q l,h,r=>by
    cases (show u=Value.ref a from r)
    obtain ⟨its,rv,⟨o,k,e1,e2,_,e3⟩,_⟩:=I.list q.sq
    obtain ⟨as,ra⟩:=gc I (n:=n) l h rv
    exact ⟨_,.list e1 e2 e3 (by simpa using ra)⟩
  | 0,_,_,u,@Dp.tup _ _ a xs ds q l,h,r=>by cases h
  | 0,_,_,u,@Dp.ls _ _ a xs ds q l,h,r=>by cases h
  | n,_,_,u,.obj _,h,_=>by cases n<;>cases h
theorem gc (I:Inv X pins σ H s):∀ {n:Nat} {vs:List V} {ds:List D} {us:List Value},DpL X.K H vs ds→cq n ds=true→Vals vs us→∃ as,ReadsAll s.heap us (jB ds) as
  | n,_,_,_,.nil,_,.nil=>⟨_,.nil⟩
  | n,_,_,_,@DpL.cons _ _ v d vs ds h l,ho,.cons r rs=>by
    have ho':okD n d=true∧cq n ds=true:=by simpa[cq] using ho
    obtain ⟨as,ra⟩:=cZ I h ho'.1 r
    obtain ⟨bs,rb⟩:=gc I l ho'.2 rs
    exact ⟨_,.cons ra rb⟩
end
end
def D7 (K:PySem.W.Frag)(f:Bool→Bool):R2:=fun x y H Q=>∃ dx dy,Dp K H x dx∧Dp K H y dy∧okD 40 dx=true∧okD 40 dy=true∧Q (.bl (f (eqD dx dy))) H
section
variable {X:Cx} {a b c e:Expr} {Ta Tb Tc:ETr} {pos:Pos}
theorem Aw (hu:X.A.units+64 < cLine):OpR X (compareOp .Eq) (D7 X.K id):=fun pins s σ H x y v u Q I rx ry ⟨dx,dy,px,py,ox,oy,q⟩=>by
  obtain ⟨as,ra⟩:=cZ I px ox rx
  obtain ⟨bs,rb⟩:=cZ I py oy ry
  obtain ⟨l1,d1⟩:=fz 40 dx ox
  obtain ⟨l2,d2⟩:=fz 40 dy oy
  exact SeqAt.compareEq_reads ra rb l1 l2 (by have:=Nat.min_le_left (toP dx).depth (toP dy).depth;omega) ⟨.bl _,H,I,rfl,by rw[lN 40 40 dx dy ox oy];exact q⟩
theorem Iu (hu:X.A.units+64 < cLine):OpR X (compareOp .NotEq) (D7 X.K not):=fun pins s σ H x y v u Q I rx ry ⟨dx,dy,px,py,ox,oy,q⟩=>by
  obtain ⟨as,ra⟩:=cZ I px ox rx
  obtain ⟨bs,rb⟩:=cZ I py oy ry
  obtain ⟨l1,d1⟩:=fz 40 dx ox
  obtain ⟨l2,d2⟩:=fz 40 dy oy
  exact SeqAt.compareNe_reads ra rb l1 l2 (by have:=Nat.min_le_left (toP dx).depth (toP dy).depth;omega) ⟨.bl _,H,I,rfl,by rw[lN 40 40 dx dy ox oy];exact q⟩
theorem CS {K:PySem.W.Frag}:dB K (D7 K id) rEq:=fun H μ x y dx dy Q Q' m px py h k=>⟨dx,dy,px,py,h.1.1,h.1.2,k _ H _ μ (.refl H) m (.bl _) h.2⟩
theorem Jr {K:PySem.W.Frag}:dB K (D7 K not) rNe:=fun H μ x y dx dy Q Q' m px py h k=>⟨dx,dy,px,py,h.1.1,h.1.2,k _ H _ μ (.refl H) m (.bl _) h.2⟩
theorem le_eq (hu:X.A.units+64 < cLine)(ha:LE X a Ta)(hb:LE X b Tb):LE X (.Compare a [.Eq] [b] pos) (ak rEq Ta Tb):=i6 (Aw hu) CS ha hb (cL _)
theorem lt_eq (hu:X.A.units+64 < cLine)(ha:LE X a Ta)(hb:LE X b Tb):LT X (.Compare a [.Eq] [b] pos) (TB (ak rEq Ta Tb)):=dg (Aw hu) CS ha hb (cL _)
theorem Df (hu:X.A.units+64 < cLine)(ha:LE X a Ta)(hb:LE X b Tb):LT X (.Compare a [.NotEq] [b] pos) (TB (ak rNe Ta Tb)):=dg (Iu hu) Jr ha hb (cL _)
theorem HA {K:PySem.W.Frag}:dB K (fun x y H Q=>y=.non∧Q (.bl (decide (x=.non))) H) rIs:=fun H μ x y dx dy Q Q' m px py h k=>by
  cases py with
  | non=>
    refine ⟨rfl,?_⟩
    cases px with
    | non=>exact k _ H _ μ (.refl H) m (.bl _) h
    | _=>exact k _ H _ μ (.refl H) m (.bl _) h
  | _=>exact False.elim h
theorem pS {K:PySem.W.Frag}:dB K (fun x y H Q=>y=.non∧Q (.bl (!decide (x=.non))) H) eI:=fun H μ x y dx dy Q Q' m px py h k=>by
  cases py with
  | non=>
    refine ⟨rfl,?_⟩
    cases px with
    | non=>exact k _ H _ μ (.refl H) m (.bl _) h
    | _=>exact k _ H _ μ (.refl H) m (.bl _) h
  | _=>exact False.elim h
theorem Ae (ha:LE X a Ta)(hb:LE X b Tb):LE X (.Compare a [.IsNot] [b] pos) (ak eI Ta Tb):=i6 xt pS ha hb (cL _)
theorem F3 (ha:LE X a Ta)(hb:LE X b Tb):LT X (.Compare a [.Is] [b] pos) (TB (ak rIs Ta Tb)):=dg IC HA ha hb (cL _)
theorem Ai (ha:LE X a Ta)(hb:LE X b Tb):LT X (.Compare a [.IsNot] [b] pos) (TB (ak eI Ta Tb)):=dg xt pS ha hb (cL _)
theorem EX {K:PySem.W.Frag}:Lb K (rU fun i=>.int (-i)) nH:=fun H μ x dx Q Q' m px h k=>by
  cases px with
  | int i=>exact ⟨i,rfl,k _ H _ μ (.refl H) m (.int _) h⟩
  | _=>exact False.elim h
theorem le_neg (ha:LE X a Ta):LE X (.UnaryOp .USub a pos) (TUn nH Ta):=JE HP EX ha
theorem jN {o:Option D}{f:D→Prop}(h:kO o f):∃ d,o=some d∧f d:=by
  cases o with
  | none=>exact False.elim h
  | some d=>exact ⟨d,rfl,h⟩
theorem ck {μ:Mu}{a:Addr}{f:List D→Prop}(h:kL μ a f):∃ ds,μ a=some (.lst ds)∧f ds:=by
  unfold kL at h
  cases e:μ a with
  | none=>rw[e] at h;exact False.elim h
  | some o=>cases o with
    | lst ds=>rw[e] at h;exact ⟨ds,rfl,h⟩
    | dct ds=>rw[e] at h;exact False.elim h
theorem CC {μ:Mu}{a:Addr}{f:List (Key×D)→Prop}(h:kD μ a f):∃ ds,μ a=some (.dct ds)∧f ds:=by
  unfold kD at h
  cases e:μ a with
  | none=>rw[e] at h;exact False.elim h
  | some o=>cases o with
    | lst ds=>rw[e] at h;exact False.elim h
    | dct ds=>rw[e] at h;exact ⟨ds,rfl,h⟩
theorem qX {o:Option Nat}{f:Nat→Prop}(h:kN o f):∃ d,o=some d∧f d:=by
  cases o with
  | none=>exact False.elim h
  | some d=>exact ⟨d,rfl,h⟩
theorem zY {K:PySem.W.Frag}:dB K (L2.rIx K) L3.rIx:=fun H μ x y dx dy Q Q' m px py h k=>by
  cases px with
  | @tup a xs ds q l=>
    cases py with
    | int i=>
      obtain ⟨d,e,h'⟩:=jN h
      obtain ⟨v,e1,p⟩:=l.at e
      exact .inr (.inl ⟨a,xs,i,v,rfl,rfl,q,e1,k _ H _ μ (.refl H) m p h'⟩)
    | _=>exact False.elim h
  | @ls a xs ds q l=>
    cases py with
    | int i=>
      obtain ⟨d,e,h'⟩:=jN h
      obtain ⟨v,e1,p⟩:=l.at e
      exact .inl ⟨a,xs,i,v,rfl,rfl,q.sq,e1,k _ H _ μ (.refl H) m p h'⟩
    | _=>exact False.elim h
  | obj a=>
    cases py with
    | int i=>
      obtain ⟨ds,e0,h1⟩:=ck h
      obtain ⟨d,e,h'⟩:=jN h1
      obtain ⟨xs,ex,l⟩:=m a _ e0
      obtain ⟨v,e1,p⟩:=l.at e
      exact .inl ⟨a,xs,i,v,rfl,rfl,SqL.of ex,e1,k _ H _ μ (.refl H) m p h'⟩
    | _=>exact False.elim h
  | _=>cases py<;>exact False.elim h
theorem ay (ha:LE X a Ta)(hb:LE X b Tb)(hs:lI b:=by intro _ _;rfl):LE X (.Subscript a b pos) (ak L3.rIx Ta Tb):=by
  obtain ⟨ta,pa,sa⟩:=ha.ex
  obtain ⟨tb,pb,sb⟩:=hb.ex
  exact ⟨_,Ad A4 pa pb hs,gG zY sa sb⟩
variable {es:List Expr} {At:ATr} {x:Str} {p:Pos} {id T:String}
def lj (K:PySem.W.Frag)(r:List V→Hp→VK→Prop)(R:FSp):Prop:=∀ H μ xs ds (Q:DK) (Q':VK),bA K H μ→DpL K H xs ds→R ds μ Q→gh K H Q Q'→r xs H Q'
theorem pL {K:PySem.W.Frag}{r:List V→Hp→VK→Prop}{R:FSp}{ta:TA}(hr:lj K r R)(ha:Lf K ta At):Sim K (tCB r ta) (ao R At):=fun σ H ρ μ Q Q' rl h k=>
  ha σ H ρ μ _ _ rl h fun xs H1 ds μ1 t1 m1 p1 h1=>hr H1 μ1 xs ds Q Q' m1 p1 h1 (k.go t1)
theorem aI {r:List V→Hp→VK→Prop}{R:FSp}(hc:bI X (.builtin id) r)(hr:lj X.K r R)(hg:Gl X x)(hm:X.mg x=none)(hv:bootBuiltins x=some (.builtin id))(ha:LA X (e::es) At)(hn:x ≠ "__name__" := by decide)(hdb:(x == ("__debug__" : Str))=false:=by decide)
    (h1:starEach (e::es) X.env=(false,eval e X.env)::starEach es X.env:=by rfl) (h2:(backTo pos (starEach es X.env)).any (·.1)=false:=by rfl):LE X (.Call (.Name x p) (e::es) [] pos) (ao R At):=by
  obtain ⟨ta,pa,sa⟩:=ha.ex
  exact ⟨_,mN hc hg hm hv pa hn hdb h1 h2,pL hr sa⟩
theorem eU {r:List V→Hp→VK→Prop}{R:FSp}(hc:bI X (.type T) r)(hr:lj X.K r R)(hg:Gl X x)(hm:X.mg x=none)(hv:bootBuiltins x=some (.type T))(ha:LA X (e::es) At)(hn:x ≠ "__name__" := by decide)(hdb:(x == ("__debug__" : Str))=false:=by decide)
    (h1:starEach (e::es) X.env=(false,eval e X.env)::starEach es X.env:=by rfl) (h2:(backTo pos (starEach es X.env)).any (·.1)=false:=by rfl):LE X (.Call (.Name x p) (e::es) [] pos) (ao R At):=by
  obtain ⟨ta,pa,sa⟩:=ha.ex
  exact ⟨_,yF hc hg hm hv pa hn hdb h1 h2,pL hr sa⟩
theorem lL {K:PySem.W.Frag}:lj K (fun xs H Q=>∃ i,xs=[.int i]∧Q (.int (if i < 0 then -i else i)) H) tS:=fun H μ xs ds Q Q' m p h k=>by
  unfold tS at h
  split at h
  · cases p with | cons p1 p2=>cases p2;cases p1;exact ⟨_,rfl,k _ H _ μ (.refl H) m (.int _) h⟩
  · exact False.elim h
theorem nD {K:PySem.W.Frag}:lj K (fun xs H Q=>∃ i j,xs=[.int i,.int j]∧Q (.int (if j > i then j else i)) H) jj:=fun H μ xs ds Q Q' m p h k=>by
  unfold jj at h
  split at h
  · cases p with | cons p1 p2=>cases p2 with | cons p2 p3=>cases p3;cases p1;cases p2;exact ⟨_,_,rfl,k _ H _ μ (.refl H) m (.int _) h⟩
  · exact False.elim h
theorem i9 {K:PySem.W.Frag}:lj K (fun xs H Q=>∃ i j,xs=[.int i,.int j]∧Q (.int (if j < i then j else i)) H) ko:=fun H μ xs ds Q Q' m p h k=>by
  unfold ko at h
  split at h
  · cases p with | cons p1 p2=>cases p2 with | cons p2 p3=>cases p3;cases p1;cases p2;exact ⟨_,_,rfl,k _ H _ μ (.refl H) m (.int _) h⟩
  · exact False.elim h
theorem bI.or {f:Value}{r r':List V→Hp→VK→Prop}(h:bI X f r)(h':bI X f r'):bI X f (fun xs H Q=>r xs H Q∨r' xs H Q):=fun pins s σ H xs us Q I rx q=>by
  rcases q with q | q
  · exact h pins s σ H xs us Q I rx q
  · exact h' pins s σ H xs us Q I rx q
theorem cG {K:PySem.W.Frag}:lj K (fun xs H Q=>(∃ p ys,xs=[.ref p]∧(SqL K H p ys∨SqT K H p ys)∧Q (.int ys.length) H)∨∃ z,xs=[.str z]∧z.length≤sizeLine∧Q (.int z.length) H) dH:=fun H μ xs ds Q Q' m p h k=>by
  unfold dH at h
  split at h
  · cases p with | cons p1 p2=>cases p2;cases p1 with | tup q l=>exact .inl ⟨_,_,rfl,.inr q,k _ H _ μ (.refl H) m (by rw[l.length];exact .int _) h⟩
  · cases p with | cons p1 p2=>cases p2;cases p1 with | ls q l=>exact .inl ⟨_,_,rfl,.inl q.sq,k _ H _ μ (.refl H) m (by rw[l.length];exact .int _) h⟩
  · cases p with | cons p1 p2=>cases p2;cases p1;exact .inr ⟨_,rfl,big h.1,k _ H _ μ (.refl H) m (.int _) h.2⟩
  · rename_i a
    cases p with | cons p1 p2=>
    cases p2;cases p1
    obtain ⟨ys,e0,h⟩:=ck h
    obtain ⟨xs,ex,l⟩:=m a _ e0
    exact .inl ⟨_,_,rfl,.inl (SqL.of ex),k _ H _ μ (.refl H) m (by rw[l.length];exact .int _) h⟩
  · exact False.elim h
theorem bC:bI X (.builtin "len") (fun xs H Q=>(∃ p ys,xs=[.ref p]∧(SqL X.K H p ys∨SqT X.K H p ys)∧Q (.int ys.length) H)∨∃ z,xs=[.str z]∧z.length≤sizeLine∧Q (.int z.length) H):=bI.or qW qQ
end
end
section
open PySem PySem.Spec PyProof.Rows L2
def tys:List String:=["NoneType", "bool", "int", "str", "tuple", "list"]
def DT:List String:=["bool", "int", "str", "tuple", "list", "dict"]
theorem Du (K:PySem.W.Frag):∀ t∈tys,∀ c∈DT,PySem.W.kitOne K (.type t) (.type c)=some (ba t c):=by
  intro t ht c hc
  simp only[tys,List.mem_cons,List.not_mem_nil,or_false] at ht
  simp only[DT,List.mem_cons,List.not_mem_nil,or_false] at hc
  rcases ht with rfl | rfl | rfl | rfl | rfl | rfl<;>rcases hc with rfl | rfl | rfl | rfl | rfl | rfl<;>with_unfolding_all rfl
theorem Hx {d:D}{t:String}(h:tyD d=some t):t∈tys:=by
  cases d<;>simp[tyD] at h<;>subst h<;>decide
def Kh (K:PySem.W.Frag):List V→Hp→VK→Prop:=fun xs H Q=>∃ x d t c,xs=[x,.ty c]∧Dp K H x d∧tyD d=some t∧c∈DT∧Q (.bl (ba t c)) H
theorem Ax {X:Cx}:bI X (.builtin "isinstance") (Kh X.K):=fun pins s σ H xs us Q I rx ⟨x,d,t,c,ex,px,et,hc,q⟩=>by
  subst ex
  cases rx with | @cons _ u _ _ r1 r2=>cases r2 with | cons r2 r3=>
  cases r3
  cases (show _=Value.type c from r2)
  have e:=Du X.K t (Hx et) c hc
  have fin:∀ tk,EP X pins σ Q (.bool (ba t c)) { s with toks:=tk }:=fun tk=>⟨.bl _,H,I.tok tk,rfl,q⟩
  cases px with
  | non=>cases et;cases (show u=Value.none from r1);exact PySem.W.kia_one PySem.W.kitx_none I.kIn True.intro e (fun z=>nomatch z) fin
  | bl y=>cases et;cases (show u=Value.bool y from r1);exact PySem.W.kia_one PySem.W.kitx_bool I.kIn True.intro e (fun z=>nomatch z) fin
  | int i=>cases et;obtain ⟨t,z⟩:=(show ∃ t,u=Value.int i t from r1);cases z;exact PySem.W.kia_one PySem.W.kitx_int I.kIn True.intro e (fun z=>nomatch z) fin
  | str y=>cases et;obtain ⟨t,z⟩:=(show ∃ t,u=Value.str y t from r1);cases z;exact PySem.W.kia_one PySem.W.kitx_str I.kIn True.intro e (fun z=>nomatch z) fin
  | ty _=>cases et
  | obj _=>cases et
  | @tup a xs ds sq l=>
    cases et
    cases (show u=Value.ref a from r1)
    obtain ⟨its,_,⟨o,h1,h2,_⟩,_⟩:=I.tuple sq
    exact PySem.W.kia_one PySem.W.kitx_tuple I.kIn ⟨o,h1,h2⟩ e (fun z=>nomatch z) fin
  | @ls a xs ds sq l=>
    cases et
    cases (show u=Value.ref a from r1)
    obtain ⟨its,_,⟨o,n,h1,h2,_⟩,_⟩:=I.list sq.sq
    exact PySem.W.kia_one PySem.W.kitx_list I.kIn ⟨o,h1,h2⟩ e (fun z=>nomatch z) fin
theorem jU {X:Cx}{x y:Str}{p p2 pos:Pos}{c:String}{e:Expr}{Ta:ETr}(hg:Gl X x)(hm:X.mg x=none)(hv:bootBuiltins x=some (.builtin "isinstance"))(ha:LE X e Ta)(hg2:Gl X y)(hm2:X.mg y=none)(hv2:bootBuiltins y=some (.type c))(hc:c∈DT:=by decide)
    (hn:x ≠ "__name__" := by decide) (hdb:(x == ("__debug__" : Str))=false:=by decide) (hn2:y ≠ "__name__" := by decide) (hdb2:(y == ("__debug__" : Str))=false:=by decide)
    (h0:starEach [.Name y p2] X.env=[(false,eval (.Name y p2) X.env)]:=by rfl) (h1:starEach (e::[.Name y p2]) X.env=(false,eval e X.env)::starEach [.Name y p2] X.env:=by rfl) (h2:(backTo pos (starEach [.Name y p2] X.env)).any (·.1)=false:=by rfl) :
    LE X (.Call (.Name x p) [e,.Name y p2] [] pos) (TUn (gf c) Ta):=by
  obtain ⟨ta,pa,sa⟩:=ha.ex
  refine ⟨_,mN Ax hg hm hv (cS pa (cS (Ej hg2 hm2 hv2 (v:=.ty c) rfl hn2 hdb2) gq h0) h1) hn hdb h1 h2,fun σ H ρ μ Q Q' rl h k=>sa σ H ρ μ _ _ rl h fun v H1 d μ1 t1 m1 p1 h1=>?_⟩
  have h1':(match tyD d with | some t=>Q (.bl (ba t c)) μ1 | none=>False):=h1
  cases et:tyD d with
  | none=>rw[et] at h1';exact False.elim h1'
  | some t=>rw[et] at h1';exact ⟨v,d,t,c,rfl,p1,et,hc,k _ H1 _ μ1 t1 m1 (.bl _) h1'⟩
section
variable {X:Cx} {a b c e tg o:Expr} {Ta Tb Tc:ETr} {pos:Pos} {es:List Expr} {At:ATr} {x:Str} {p:Pos} {id T:String} {st:Stmt} {rest:List Stmt} {T1 T2:STr} {tA:TTr}
theorem aR:LSs X [] bh:=⟨_,DO,fun σ H ρ μ E E' rl h k=>k.nx _ _ _ _ (.refl H) rl h⟩
theorem aj (h1:LS X st T1)(h2:LSs X rest T2):LSs X (st::rest) (aF T1 T2):=by
  obtain ⟨t1,p1,s1⟩:=h1.ex
  obtain ⟨t2,p2,s2⟩:=h2.ex
  exact ⟨_,Cg p1 p2,fun σ H ρ μ E E' rl h k=>s1 σ H ρ μ _ _ rl h ⟨fun σ' H' ρ' μ' t' r' q=>s2 σ' H' ρ' μ' E E' r' q (k.go t'),k.rt,k.bk,k.ct⟩⟩
theorem av (h1:LS X st T1):LSs X [st] T1:=by
  obtain ⟨t1,p1,s1⟩:=h1.ex
  exact ⟨_,Fv p1,s1⟩
theorem lG (he:LE X e Ta)(hs:swapsWith e none pos.line X.env=pure false:=by rfl):LS X (.Expr e pos) (iN Ta):=by
  obtain ⟨ta,pa,sa⟩:=he.ex
  exact ⟨_,DJ pa hs,fun σ H ρ μ E E' rl h k=>sa σ H ρ μ _ _ rl h fun v H' d μ' t' m' p' h'=>k.nx _ _ _ _ t' (rl.go t' m') h'⟩
theorem aB (he:LE X e Ta):LS X (.Return (some e) pos) (aS Ta):=by
  obtain ⟨ta,pa,sa⟩:=he.ex
  exact ⟨_,GC pa,fun σ H ρ μ E E' rl h k=>sa σ H ρ μ _ _ rl h k.rt⟩
theorem bK {sa sb:List Stmt}(hc:LT X c tA)(ha:LSs X sa T1)(hb:LSs X sb T2):LS X (.If c sa sb pos) (cA tA T1 T2):=by
  obtain ⟨tc,pc,sc⟩:=hc.ex
  obtain ⟨t1,p1,s1⟩:=ha.ex
  obtain ⟨t2,p2,s2⟩:=hb.ex
  refine ⟨_,Jw pc p1 p2,fun σ H ρ μ E E' rl h k=>sc σ H ρ μ _ _ rl h fun q H1 μ1 t1' m1 h1=>?_⟩
  cases q with
  | true=>exact rN (s1 σ H1 ρ μ1 E E' (rl.go t1' m1) h1 (k.go t1'))
  | false=>exact qS (s2 σ H1 ρ μ1 E E' (rl.go t1' m1) h1 (k.go t1'))
theorem jL {K:PySem.W.Frag}(i:Nat):GB K (qo i) (au i):=fun σ H ρ μ v d k k' rl p h q=>q _ _ _ _ (.refl H) (rl.set p i) h
theorem fo (i:Nat)(hN:X.N.Nodup)(hi:X.N[i]? = some x:=by rfl)(hx:Loc X.env.scope x:=by first | exact Or.inl rfl | exact Or.inr rfl)(hf:X.fn x=true∨X.env.scope.names.lookup x=some .local:=by first | exact .inl rfl | exact .inr rfl | assumption):LG X (.Name x pos) (au i):=
  ⟨_,ju hN hi hx hf,jL i⟩
theorem az (i:Nat){pos':Pos}(hN:X.N.Nodup)(he:LE X e Ta)(hi:X.N[i]? = some x:=by rfl)(hx:Loc X.env.scope x:=by first | exact Or.inl rfl | exact Or.inr rfl)(hs:swapsWith e (some (.Name x pos')) pos.line X.env=pure false:=by rfl)
    (hf:X.fn x=true∨X.env.scope.names.lookup x=some .local:=by first | exact .inl rfl | exact .inr rfl | assumption):LS X (.Assign [.Name x pos'] e pos) (aO Ta (au i)):=by
  obtain ⟨ta,pa,sa⟩:=he.ex
  exact ⟨_,IJ hN hi hx pa hs hf,fun σ H ρ μ E E' rl h k=>sa σ H ρ μ _ _ rl h fun v H' d μ' t' m' p' h'=>jL i σ H' ρ μ' v d _ _ (rl.go t' m') p' h' (k.go t').nx⟩
theorem CA (i j:Nat){y:Str}{px py pt:Pos}{kt k2 pt2}(hc:X.calm=true)(hN:X.N.Nodup)(ha:LA X [a,b] At)(hi:X.N[i]? = some x:=by rfl)(hj:X.N[j]? = some y:=by rfl)(hij:i≠j:=by decide)
    (hx:X.env.scope.names.lookup x=some .local:=by rfl) (hy:X.env.scope.names.lookup y=some .local:=by rfl)
    (hw:swappedStores [.Tuple [.Name x px,.Name y py] kt pt] (.Tuple [a,b] k2 pt2) X.env=pure (some [x,y]):=by rfl)
    (hs:swapsWithSole [.Tuple [.Name x px,.Name y py] kt pt] (.Tuple [a,b] k2 pt2) pos.line X.env=pure false:=by rfl) :
    LS X (.Assign [.Tuple [.Name x px,.Name y py] kt pt] (.Tuple [a,b] k2 pt2) pos) (wg i j At):=by
  obtain ⟨ta,pa,sa⟩:=ha.ex
  refine ⟨_,Im hc hN hi hj hij hx hy pa hw hs,fun σ H ρ μ E E' rl h k=>sa σ H ρ μ _ _ rl h fun vs H' ds μ' t' m' p' h'=>?_⟩
  unfold L3.k2 at h'
  split at h'
  · rename_i dv dw
    cases p' with | cons p1 p2=>cases p2 with | cons p2 p3=>
    cases p3
    exact ⟨_,_,rfl,k.nx _ _ _ _ t' (((rl.go t' m').set p1 i).set p2 j) h'⟩
  · exact False.elim h'
theorem sT {Tk':ETr}{tpos:Pos}(ho:LE X o Ta)(hi:LE X b Tk')(he:LE X e Tb)
    (ha:∀ v,assign (.Subscript o b tpos) X.env v=(do
      let ov ← holding [v] (eval o X.env)
      let iv ← holding [v,ov] (eval b X.env)
      standAt tpos
      holding [v,ov,iv] (setItem ov iv v)
      release [v,ov,iv] []):=by intro _;rfl)
    (hs:swapsWithSole [.Subscript o b tpos] e pos.line X.env=pure false:=by rfl) (hw:swappedStores [.Subscript o b tpos] e X.env=pure none:=by rfl)
    (h1:(assignEach [.Subscript o b tpos] X.env).map (·.2)=[assign (.Subscript o b tpos) X.env]:=by rfl):LS X (.Assign [.Subscript o b tpos] e pos) (iu Ta Tk' Tb):=by
  obtain ⟨to,po,so⟩:=ho.ex
  obtain ⟨ti,pi,si⟩:=hi.ex
  obtain ⟨te,pe,se⟩:=he.ex
  refine ⟨_,AE pe (IZ po pi set_list ha) hs hw h1,fun σ H ρ μ E E' rl h k=>se σ H ρ μ _ _ rl h fun y H1 dy μ1 t1 m1 p1 h1=>so σ H1 ρ μ1 _ _ (rl.go t1 m1) h1 fun ov H2 dov μ2 t2 m2 p2 h2=>
    si σ H2 ρ μ2 _ _ (rl.go (t1.trans t2) m2) h2 fun iv H3 div μ3 t3 m3 p3 h3=>?_⟩
  cases p2 with
  | obj q=>
    cases p3 with
    | int n=>
      obtain ⟨ds,e0,h3'⟩:=ck h3
      obtain ⟨j,e1,h4⟩:=qX h3'
      obtain ⟨xs,ex,l⟩:=m3 q _ e0
      refine ⟨q,xs,n,j,rfl,rfl,ex,by rw[l.length];exact e1,?_⟩
      have t4:Tk H3 (L2.upd H3 q (.lst (xs.set j y))):=.upd (fun ys z=>by rw[ex] at z;cases z) fun o' u z=>by rw[ex] at z;cases z
      have t14:=t1.trans (t2.trans (t3.trans t4))
      refine k.nx _ _ ρ _ t14 (rl.go t14 (fun a' o' e'=>?_)) h4
      by_cases haq:a'=q
      · subst haq
        rw[aN] at e';cases e'
        exact ⟨_,aE,(l.set (p1.mono (t2.trans t3)) j).mono t4⟩
      · rw[aV haq] at e'
        exact (m3 a' _ e').ne t4 haq
    | _=>exact False.elim h3
  | _=>cases p3<;>exact False.elim h3
theorem tH {body:List Stmt}(hp:PassesOwn (model X.prog X.w) X.A X.env X.xe)(hc:LT X c tA)(hb:LSs X body T1):LS X (.While c body [] pos) (uS tA T1):=by
  obtain ⟨tc,pc,sc⟩:=hc.ex
  obtain ⟨t1,p1,s1⟩:=hb.ex
  refine ⟨_,AZ hp pc p1,fun σ H ρ μ E E' rl h k=>?_⟩
  obtain ⟨P,m,h0,hs⟩:=h
  refine ⟨fun n σ' H'=>∃ ρ' μ',Tk H H'∧Rl X.K σ' H' ρ' μ'∧P ρ' μ'∧n=m ρ' μ',⟨_,ρ,μ,.refl H,rl,h0,rfl⟩,?_⟩
  rintro n σ1 H1 ⟨ρ1,μ1,t1',rl1,hP,rfl⟩
  refine sc σ1 H1 ρ1 μ1 _ _ rl1 (hs ρ1 μ1 hP) fun q H2 μ2 t2 m2 h2=>?_
  have t12:=t1'.trans t2
  cases q with
  | true=>
    refine rN ⟨fun σ' H'=>∃ ρ' μ',Tk H H'∧Rl X.K σ' H' ρ' μ'∧P ρ' μ'∧m ρ' μ' < m ρ1 μ1,fun σ' H' ⟨ρ',μ',a1,a2,a3,a4⟩=>⟨_,a4,ρ',μ',a1,a2,a3,rfl⟩,?_⟩
    have h2':=h2
    refine s1 σ1 H2 ρ1 μ2 _ _ (rl1.go t2 m2) h2' ⟨fun σ' H' ρ' μ' t' r' q=>⟨ρ',μ',t12.trans t',r',q.1,q.2⟩,(k.go t12).rt,(k.go t12).nx,fun σ' H' ρ' μ' t' r' q=>⟨ρ',μ',t12.trans t',r',q.1,q.2⟩⟩
  | false=>exact qS (k.nx _ _ _ _ t12 (rl1.go t2 m2) h2)
end
def lift (K:PySem.W.Frag)(sp:FSp):Sp:=fun vs H Q _=>∃ ds μ QQ,DpL K H vs ds∧bA K H μ∧sp ds μ QQ∧gh K H QQ Q
def RT (Q:DK):DK:=fun d μ'=>∃ μ,Sub μ μ'∧Q d μ
def ini (n:Nat)(ds:List D):ST:=ds.map some++List.replicate (n - ds.length) none
theorem HX:∀ (ds:List D) (n i:Nat) (d:D),lk (ini n ds) i=some d→ds[i]? = some d:=by
  intro ds
  have rep:∀ m i (d:D),lk (List.replicate m none) i=some d→False:=by
    intro m
    induction m with
    | zero=>intro i d h;cases i<;>cases h
    | succ m ih=>intro i d h;cases i with
      | zero=>cases h
      | succ i=>exact ih i d h
  have gen:∀ (ds:List D) m i d,lk (ds.map some++List.replicate m none) i=some d→ds[i]? = some d:=by
    intro ds
    induction ds with
    | nil=>intro m i d h;exact (rep m i d h).elim
    | cons x r ih=>intro m i d h;cases i with
      | zero=>simpa[lk] using h
      | succ i=>simpa using ih m i d h
  exact fun n i d h=>gen ds _ i d h
section
variable {P:Program} {w:World} {K:PySem.W.Frag} {mg:Str→Option Value} {base:Heap}
theorem F5 {x qual:Str}{st:Stmt}{f:Addr}{fd:FuncData}{N ps:List Str}{k:Nat}{sp:FSp}{T:STr}(F:Fun K x qual st f fd)(S:aC N ps (aq st))(len:∀ ds μ Q,sp ds μ Q→ds.length=ps.length)
    (hb:∀ (cdv:Value) (A:Around) (outer:List Env) (s:Shared) (H:Hp) (E:XK),c6 k (A.deeper (envOfC qual (aq st) s.heap.objs.size f cdv))→
      LSs (tW CX0 P w K mg base N qual (aq st) f cdv A outer s H E).nox (dN st) T)
    (hr:∀ ds μ Q,sp ds μ Q→T { nx:=fun _ μ'=>RT Q .non μ',rt:=RT Q } (ini N.length ds) μ):fM P w K mg base CX0 (k+1) f fd ps (lift K sp):=by
  refine F.ok S (fun vs H Q E h=>?_) (fun cdv A outer s H vs Q E hroom h=>?_)
  · obtain ⟨ds,μ,QQ,l,m,h1,k⟩:=h
    rw[l.length];exact len ds μ QQ h1
  · obtain ⟨ds,μ,QQ,l,m,h1,k⟩:=h
    obtain ⟨t,pt,stt⟩:=(hb cdv A outer s H E hroom).ex
    have hl:vs.length=ds.length:=l.length
    refine ⟨t,pt,stt (L2.start N vs) H (ini N.length ds) μ _ _ ⟨?_,fun i d e=>?_,m⟩ (hr ds μ QQ h1) ⟨fun σ' H' ρ' μ' t' r' q=>?_,fun v H' d μ' t' m' p' q=>?_,fun _ _ _ _ _ _ q=>q,fun _ _ _ _ _ _ q=>q⟩⟩
    · unfold ini L2.start;simp[hl]
    · have e':=HX ds _ i d e
      obtain ⟨v,e1,p⟩:=l.get e'
      refine ⟨v,?_,p⟩
      unfold L2.start
      have hi:i < vs.length:=(List.getElem?_eq_some_iff.mp e1).1
      rw[List.getElem?_append_left (by simpa using hi),List.getElem?_map,e1]
      rfl
    · obtain ⟨μ2,s2,q2⟩:=q
      exact k _ _ _ μ2 t' (r'.mu.sub s2) .non q2
    · obtain ⟨μ2,s2,q2⟩:=q
      exact k _ _ _ μ2 t' (m'.sub s2) p' q2
end
section
variable {X:Cx} {k:Nat} {f:Addr} {fd:FuncData} {ps:List Str} {sp:FSp} {x:Str} {p pos:Pos} {e:Expr} {es:List Expr} {At:ATr}
theorem EF (F:fM X.prog X.w X.K X.mg X.base CX0 k f fd ps (lift X.K sp))(hr:c6 k X.A)(hg:Gl X x)(hm:X.mg x=some (.ref f))(hk:PySem.W.keepIn X.K (.ref f)=true)(hb:Binds X.K fd ps [])
    (ha:LA X (e::es) At) (hdb:(x == ("__debug__" : Str))=false:=by decide) (he:starEach (e::es) X.env=(false,eval e X.env)::starEach es X.env:=by rfl) (hpl:(backTo pos (starEach es X.env)).any (·.1)=false:=by rfl) :
    LE X (.Call (.Name x p) (e::es) [] pos) (ao sp At):=by
  obtain ⟨ta,pa,sa⟩:=ha.ex
  refine ⟨_,Eh F hr hg hm hk hb .nil Kr pa hdb he hpl,fun σ H ρ μ Q Q' rl h k=>sa σ H ρ μ _ _ rl h fun xs H1 ds μ1 t1 m1 p1 h1=>?_⟩
  rw[List.append_nil]
  exact ⟨ds,μ1,Q,p1,m1,h1,k.go t1⟩
end
end
section
open PySem PySem.Spec PyProof.Rows L2
theorem DpL.ints {K:PySem.W.Frag}{H:Hp}:∀ ns:List Int,DpL K H (ns.map V.int) (ns.map D.int)
  | []=>.nil
  | n::r=>.cons (.int n) (DpL.ints r)
theorem SqF.only {K:PySem.W.Frag}{H:Hp}{a:Addr}{xs:List V}(hO:Fo H)(h:SqL K H a xs):SqF K H a xs:=by
  rcases h with (h | h) | h
  · rcases hO a with z | ⟨o,ys,z⟩
    · rw[h] at z;cases z
    · rw[h] at z;cases z
  · exact .inl h
  · exact .inr h
theorem KR {l:PySem.W.OpenLaw}{k:Nat}{q:Program}{loose:List Str}{XP:(Str→Option Value)→Heap→Prop}{YP:World→Heap→Prop}{d:DefRec}{K:Params→PySem.W.Frag}{sp:FSp}{x:Str}
    (hn:l.most=some 63) (hdf:d.params.defaults=[]) (hr:c6 k callerA) (hY:∀ (w:World) (h:Heap),YP w h→(K w.params).In h)
    (hl:∀ ns:List Int,ns.length≤63→∀ μ,sp [.ls (ns.map .int)] μ (fun d _=>d=.bl true))
    (F:∀ (w:World) (mg:Str→Option Value) (fa:Addr) (h:Heap),(K w.params).In h→h.Ns mainGlobals mg→mg d.name=some (.ref fa)→
      ∃ fd:FuncData,(∀ (s:Shared) (u:Value),BindsTo s fd ⟨[u],[]⟩ [(x,u)])∧∀ base:Heap,(K w.params).In base→base.Ns mainGlobals mg→fM l.prog w (K w.params) mg base CX0 k fa fd [x] (lift (K w.params) sp)) :
    PySem.W.WalkO q loose XP YP l.row.toRowW d [] (fun f vs=>PySem.call f vs):=
  L2.E7 (n:=63) (k:=k) (x:=x) (CX:=fun _=>CX0) (sp:=fun w=>lift (K w.params) sp) hn (by decide) hdf hr hY F
    (fun w H a ns hl' hO hS=>⟨[.ls (ns.map .int)],fun _=>none,_,.cons (.ls (.only hO hS) (.ints ns)) .nil,(fun a o e=>by cases e),hl ns hl' _,fun v H' d μ' _ _ p e=>by
      have e':d=.bl true:=e
      subst e'
      cases p;rfl⟩) fun _ _ _ _ _ z=>z
end
section
open PySem PySem.Spec PyProof.Rows L2
structure aL (P:Program) (w:World) (K:PySem.W.Frag) (mg:Str→Option Value) (base:Heap) (k:Nat) (x:Str) (ps:List Str) (sp:FSp):Prop where
  ex:∃ f fd,fM P w K mg base CX0 k f fd ps (lift K sp)∧mg x=some (.ref f)∧PySem.W.keepIn K (.ref f)=true∧Binds K fd ps []
section
variable {P:Program} {w:World} {K:PySem.W.Frag} {mg:Str→Option Value} {base:Heap}
theorem aG {x qual:Str}{st:Stmt}{f:Addr}{fd:FuncData}{N ps:List Str}{k:Nat}{sp:FSp}{T:STr}(m:mg x=some (.ref f))(F:Fun K x qual st f fd)(S:aC N ps (aq st))(len:∀ ds μ Q,sp ds μ Q→ds.length=ps.length)
    (hr:∀ ds μ Q,sp ds μ Q→T { nx:=fun _ μ'=>RT Q .non μ',rt:=RT Q } (ini N.length ds) μ)
    (b:∀ (kV doc pm:Value) (an:Option Addr) (cdv ct:Value) (us:List Value),us.length=ps.length→bindArgs (PySem.W.fnOf x qual (jq st) (dN st) (aq st) .none kV doc pm an cdv ct) ⟨us,[]⟩=pure (ps.zip us))
    (hb:∀ (cdv:Value) (A:Around) (outer:List Env) (s:Shared) (H:Hp) (E:XK),c6 k (A.deeper (envOfC qual (aq st) s.heap.objs.size f cdv))→(A.deeper (envOfC qual (aq st) s.heap.objs.size f cdv)).units+64 < cLine→
      LSs (tW CX0 P w K mg base N qual (aq st) f cdv A outer s H E).nox (dN st) T):aL P w K mg base (k+1) x ps sp:=
  ⟨f,fd,F5 F S len (fun cdv A outer s H E h=>hb cdv A outer s H E h h.units) hr,m,F.kp,F.binds b⟩
end
theorem ai {X:Cx}{k n:Nat}{x:Str}{ps:List Str}{sp:FSp}{e:Expr}{es:List Expr}{At:ATr}{p pos:Pos}(C:aL X.prog X.w X.K X.mg X.base k x ps sp)(hr:c6 n X.A)(hg:Gl X x)
    (ha:LA X (e::es) At) (hle:k≤n:=by decide) (hdb:(x == ("__debug__" : Str))=false:=by decide) (he:starEach (e::es) X.env=(false,eval e X.env)::starEach es X.env:=by rfl) (hpl:(backTo pos (starEach es X.env)).any (·.1)=false:=by rfl) :
    LE X (.Call (.Name x p) (e::es) [] pos) (ao sp At):=by
  obtain ⟨f,fd,F,m,kp,b⟩:=C.ex
  exact EF F (hr.mono hle) hg m kp b ha hdb he hpl
end
section
open PySem PySem.Spec PyProof.Rows L2
def a8 (X:Cx)(scope:Scope)(Nc:List Str)(cl:List (Str×Addr))(C:Addr)(s₀:Shared)(H₀:Hp)(ex:List Addr):Cx:=
  { X with env:=compEnvC scope cl C X.env,N:=Nc,s₀:=s₀,H₀:=H₀,outer:=X.stack,ex:=ex,fn:=fun _=>false,pn:=[] }
theorem iL {scope:Scope}{env:Env}(h:∀ y∈scope.names,y.2=.free→∃ c,env.cells.lookup y.1=some c) :
    ∃ cl,closureFor scope env=pure cl∧(∀ x c,cl.lookup x=some c→env.cells.lookup x=some c)∧∀ y∈scope.names,y.2=.free→∃ c,cl.lookup y.1=some c:=by
  have gen:∀ (ns:List (Str×NameKind)) (cs:List (Str×Addr)),(∀ y∈ns,y.2=.free→∃ c,env.cells.lookup y.1=some c)→(∀ x c,cs.lookup x=some c→env.cells.lookup x=some c)→
      ∃ cl,(forIn ns cs fun x r=>if (x.2 == NameKind.free)=true then do let c ← cellOf env x.1;pure (ForInStep.yield ((x.1,c)::r)) else pure (ForInStep.yield r):Sem _)=pure cl∧(∀ x c,cl.lookup x=some c→env.cells.lookup x=some c)∧
        (∀ x,(cs.lookup x).isSome=true→(cl.lookup x).isSome=true)∧∀ y∈ns,y.2=.free→∃ c,cl.lookup y.1=some c:=by
    intro ns
    induction ns with
    | nil=>intro cs _ h2;exact ⟨cs,rfl,h2,fun _ z=>z,fun _ z=>nomatch z⟩
    | cons y r ih=>
      intro cs h1 h2
      obtain ⟨n,k⟩:=y
      by_cases hk:k=.free
      · subst hk
        obtain ⟨c,hc⟩:=h1 (n,.free) List.mem_cons_self rfl
        have h2':∀ x c',((n,c)::cs).lookup x=some c'→env.cells.lookup x=some c':=fun x c' e=>by
          rw[List.lookup_cons] at e
          split at e
          · rename_i hx
            cases e
            have:x=n:=by simpa using hx
            subst this;exact hc
          · exact h2 x c' e
        obtain ⟨cl,e1,e2,e3,e4⟩:=ih ((n,c)::cs) (fun y hy=>h1 y (List.mem_cons_of_mem _ hy)) h2'
        refine ⟨cl,?_,e2,fun x hx=>e3 x ?_,fun y hy hf=>?_⟩
        · rw[List.forIn_cons]
          have:cellOf env n=pure c:=by unfold cellOf;rw[hc]
          simp only[beq_self_eq_true,if_true,this,pure_bind]
          exact e1
        · rw[List.lookup_cons];split
          · rfl
          · exact hx
        · obtain rfl | hy:=List.mem_cons.mp hy
          · have:(cl.lookup n).isSome=true:=e3 n (by simp[List.lookup_cons])
            exact Option.isSome_iff_exists.mp this
          · exact e4 y hy hf
      · obtain ⟨cl,e1,e2,e3,e4⟩:=ih cs (fun y hy=>h1 y (List.mem_cons_of_mem _ hy)) h2
        refine ⟨cl,?_,e2,e3,fun y hy hf=>?_⟩
        · rw[List.forIn_cons]
          have:(k == NameKind.free)=false:=by simpa using hk
          simp only[this,Bool.false_eq_true,if_false,pure_bind]
          exact e1
        · obtain rfl | hy:=List.mem_cons.mp hy
          · exact absurd hf hk
          · exact e4 y hy hf
  obtain ⟨cl,e1,e2,_,e4⟩:=gen scope.names [] h fun x c e=>by cases e
  refine ⟨cl,?_,e2,e4⟩
  show ((forIn scope.names ([]:List (Str×Addr)) fun x r=>if (x.2 == NameKind.free)=true then do let c ← cellOf env x.1;pure (ForInStep.yield ((x.1,c)::r)) else pure (ForInStep.yield r):Sem _) >>= fun s=>pure s)=pure cl
  rw[e1]
  rfl
def zp (Y:Cx)(ifs:List Expr)(t:TT):Prop:=
  ∀ (pins:List (Addr×Obj)) (s:Shared) (σ:L2.St) (H:Hp) (Q:Bool→Hp→Prop),Inv Y pins σ H s→t σ H Q→
    wpAny (model Y.prog Y.w) Y.A (forIn ifs true fun c r=>if r=true then do let ok ← isTrue c Y.env (eval c Y.env);pure (ForInStep.yield ok) else pure (ForInStep.yield r)) (TP Y pins σ Q) Y.xe s
def L5:TT:=fun _ H Q=>Q true H
theorem DV {Y:Cx}:zp Y [] L5:=fun pins s σ H Q I h=>wpAny_tests_nil ⟨H,I,h⟩
theorem Fp {Y:Cx}{c:Expr}{t:TT}(h:PT Y c t):zp Y [c] t:=fun pins s σ H Q I hh=>wpAny_tests_one (h pins s σ H Q I hh)
def c7 (σ:L2.St)(n:Nat)(caps:List Nat):L2.St:=List.replicate n none++caps.map fun i=>(σ[i]?).join
def Wk (σ' σ:L2.St):Prop:=σ'.length=σ.length∧∀ (i:Nat) v,σ'[i]? = some (some v)→σ[i]? = some (some v)
def t9 (wi:TI)(g:TG)(tt:TT)(te:TE)(n:Nat)(caps:List Nat):TE:=fun σ H Q=>wi σ H fun J H1=>∀ D,H1 D=none→
  ∃ W:Nat→Nat→List V→Hp→Prop,(∃ m,W 0 m [] (L2.upd H1 D (.lst [])))∧∀ i m ys H2,W i m ys H2→
    (J.stop i H2∧Q (.ref D) H2)∨(J.go i H2∧∃ N:List V→Hp→Prop,(∀ ys' H',N ys' H'→∃ m',m' < m∧W (i+1) m' ys' H')∧
      ∀ x H3,J.yld i H2 x H3→g x (c7 σ n caps) H3 fun σ4 H4=>Wk (c7 σ n caps) σ4∧tt σ4 H4 fun b H5=>if b=true then te σ4 H5 fun y H6=>∃ zs,H6 D=some (.lst zs)∧zs.length < sizeLine∧N (zs++[y]) (L2.upd H6 D (.lst (zs++[y]))) else N ys H5)
theorem jS {prog:Program}{w:World}{A:Around}{R:Result→Shared→Prop}{s:Shared}{elt target iter:Expr}{ifs:List Expr}{scope:Scope}{pos:Pos}{it acc:Value}{env:Env}(J:Nat→Shared→Prop)
    (turn:∀ n s,J n s→wpAny (model prog w) A (pyNext it) (fun o t₁=>match o with
      | none=>R (.ok .next) t₁
      | some v=>wpAny (model prog w) A (letOwnedTupleGo target it v) (fun _ t₁=>wpAny (model prog w) A (assign target env v) (fun _ t₂=>
          wpAny (model prog w) A (forIn ifs true fun c r=>
            if r=true then do let ok ← isTrue c env (eval c env);pure (ForInStep.yield ok) else pure (ForInStep.yield r)) (fun ok t₃=>
            if ok=true then wpAny (model prog w) A (eval elt env) (fun x t₄=>
              wpAny (model prog w) A (call (.builtin "list.append") [acc,x]) (fun _ t₅=>∃ m,m < n∧J m t₅) (fun _ _=>False) t₄) (fun _ _=>False) t₃
            else ∃ m,m < n∧J m t₃) (fun _ _=>False) t₂) (fun _ _=>False) t₁) (fun _ _=>False) t₁) (fun _ _=>False) s)
    (n:Nat) (h:J n s):codeAny (model prog w) A (.compLoop (.ListComp elt [⟨target,iter,ifs,0⟩] scope pos) 0 it acc env) R s:=by
  refine codeAny_loop rfl J (fun n s hJ=>?_) n h
  show wpAny _ A ((compTurn (.ListComp elt [⟨target,iter,ifs,0⟩] scope pos) 0 it acc env).onRaise
    (fun x=>do noteFrame x env;theTreesLotGoes x)) _ _ s
  refine wpAny_noted ?_
  rw[compTurn_list]
  refine wpAny_bind (wpAny_standAt (wpAny_bind (wpAny_mono (turn n s hJ) (fun r t₁ g₁=>?_) fun _ _ h'=>h'.elim)))
  cases r with
  | none=>exact wpAny_pure g₁
  | some v=>
    refine wpAny_bind (wpAny_mono g₁ (fun _ t₁' g₁'=>?_) fun _ _ h'=>h'.elim)
    refine wpAny_bind (wpAny_mono g₁' (fun _ t₂ g₂=>wpAny_bind (wpAny_mono g₂ (fun ok t₃ g₃=>?_) fun _ _ h'=>h'.elim)) fun _ _ h'=>h'.elim)
    cases ok with
    | false=>exact wpAny_pure ⟨rfl,g₃⟩
    | true=>
      exact wpAny_bind (wpAny_bind (wpAny_mono g₃ (fun x t₄ g₄=>wpAny_bind (wpAny_mono g₄ (fun _ t₅ g₅=>wpAny_pure (wpAny_pure ⟨rfl,g₅⟩)) fun _ _ h'=>h'.elim)) fun _ _ h'=>h'.elim))
theorem eZ {σ:L2.St}{n:Nat}{caps:List Nat}{i:Nat}{v:V}(h:(c7 σ n caps)[i]? = some (some v)):∃ j k,i=n+j∧caps[j]? = some k∧σ[k]? = some (some v):=by
  unfold c7 at h
  by_cases hi:i < n
  · rw[List.getElem?_append_left (by simpa using hi),List.getElem?_replicate,if_pos hi] at h
    cases h
  · rw[List.getElem?_append_right (by simpa using hi)] at h
    rw[List.length_replicate,List.getElem?_map] at h
    cases e:caps[i - n]? with
    | none=>rw[e] at h;cases h
    | some k=>
      rw[e] at h
      have h':(σ[k]?).join=some v:=Option.some.inj h
      cases e2:σ[k]? with
      | none=>rw[e2] at h';cases h'
      | some o=>
        rw[e2] at h'
        have h'':o=some v:=h'
        subst h''
        exact ⟨i - n,k,by omega,e,e2⟩
theorem bB {env:Env}(hk:env.scope.kind=.function):∀ {names:List (Str×NameKind)} {x:Str},env.kindOf x=some .cell→names.lookup x=some .free→
    (names.map fun (n,k)=>if (k == NameKind.free&&env.scope.kind == .function&&env.kindOf n == some .cell) then (n,NameKind.cell) else (n,k)).lookup x=some .cell
  | [],_,_,h=>by simp at h
  | (n,k)::r,x,hc,h=>by
    have ih:=@bB env hk r x hc
    show List.lookup x ((if (k == NameKind.free&&env.scope.kind == .function&&env.kindOf n == some .cell)=true
      then (n,NameKind.cell) else (n,k))::_)=_
    cases hx:x == n with
    | true=>
      simp only[hx,List.lookup_cons] at h
      cases h
      have e:x=n:=by simpa using hx
      subst e
      simp[List.lookup_cons,hk,hc]
    | false=>
      simp only[hx,List.lookup_cons] at h
      by_cases hcc:(k == NameKind.free&&env.scope.kind == .function&&env.kindOf n == some .cell)=true
      · rw[if_pos hcc];simp only[List.lookup_cons,hx];exact ih h
      · rw[if_neg hcc];simp only[List.lookup_cons,hx];exact ih h
theorem dR {env:Env}:∀ {names:List (Str×NameKind)} {x:Str} {k':NameKind},(∀ y∈names,y.2≠.cell)→(k'=.cell∨k'=.free)→
    (x,k')∈(names.map fun (n,k)=>if (k == NameKind.free&&env.scope.kind == .function&&env.kindOf n == some .cell) then (n,NameKind.cell) else (n,k))→(x,NameKind.free)∈names:=by
  intro names x k' hn hk h
  obtain ⟨⟨n,k⟩,hm,e⟩:=List.mem_map.mp h
  dsimp only at e
  split at e
  · rename_i hc
    cases e
    have:k=.free:=by simp at hc;exact hc.1.1
    subst this;exact hm
  · cases e
    rcases hk with rfl | rfl
    · exact absurd rfl (hn _ hm)
    · exact hm
theorem xb {X:Cx}{tg iter elt:Expr}{ifs:List Expr}{scope:Scope}{pos:Pos}{wi:TI}{g:TG}{tt:TT}{te:TE}{Nc:List Str}{n:Nat}{caps:List Nat}
    (hxe:X.xe=fun _ _=>False) (hcalm:X.calm=true) (hi:PI X tg iter wi)
    (hbody:∀ (cl:List (Str×Addr)) (C:Addr) (s₀:Shared) (H₀:Hp) (ex:List Addr),PG (a8 X scope Nc cl C s₀ H₀ ex) tg g∧zp (a8 X scope Nc cl C s₀ H₀ ex) ifs tt∧PE (a8 X scope Nc cl C s₀ H₀ ex) elt te)
    (hfree:∀ y∈scope.names,y.2=.free→X.env.kindOf y.1=some .cell) (hcell:∀ y∈scope.names,y.2≠.cell) (dO:scope.kind=.function)
    (hnames:∀ y∈scope.names,y.2=.local→scope.names.lookup y.1=some .local) (hlen:Nc.length=n+caps.length)
    (hcap:∀ (j k:Nat),caps[j]? = some k→∃ x,Nc[n+j]? = some x∧X.N[k]? = some x∧scope.names.lookup x=some .free)
    (hs:∀ x,foldedSetIterable iter X.env x=pure x:=by intro _;rfl) :
    PE X (.ListComp elt [⟨tg,iter,ifs,0⟩] scope pos) (t9 wi g tt te n caps):=by
  intro pins s σ H Q I h
  rw[hxe]
  obtain ⟨cl,hclos,clin,clfree⟩:=iL (scope:=scope) (env:=X.env) fun y hy hf=>I.ok.has y.1 (.inl (hfree y hy hf))
  rw[eval_ListComp]
  refine wpAny_comprehension_free (use:=none) rfl hs hclos dO hnames ?_
  have hi':=hi pins s σ H _ I h
  rw[hxe] at hi'
  refine wpAny_mono hi' (fun xv s1 h1=>wpAny_mono h1 (fun itv s2 h2=>?_) fun _ _ z=>z) fun _ _ z=>z
  obtain ⟨it,fp,tn,J,H1,rfl,I2,T,st2,f2,hh⟩:=h2
  -- the new list
  refine wpAny_newObj_type ?_
  have hD:H1 s2.heap.objs.size=none:=I2.hok.fresh (Nat.le_refl _)
  obtain ⟨W,⟨m0,w0⟩,turn⟩:=hh _ hD
  have I3:Inv X pins σ (L2.upd H1 s2.heap.objs.size (.lst [])) { s2 with heap:=s2.heap.push { cls:=.type "list", dict:=none,data:=.seq ([]:List Value).toArray } }:=
    I2.laid (t':=s2.toks) (fun b u e=>Heap.get?_push_of_some _ e) (Nat.le_refl _) ⟨Nat.zero_le _,[],0,.nil,Heap.get?_push_size _ rfl⟩
  have k3:∀ b u,s2.heap.get? b=some u→(s2.heap.push { cls:=.type "list", dict:=none,data:=.seq ([]:List Value).toArray }).get? b=some u:=fun b u e=>Heap.get?_push_of_some _ e
  have fne:∀ b∈fp,b≠s2.heap.objs.size:=fun b hb=>by
    obtain ⟨o,ho,_⟩:=T.obj 0 _ st2 b hb
    exact Nat.ne_of_lt (Heap.lt_size ho)
  generalize eD:s2.heap.objs.size=D at *
  generalize eh3:s2.heap.push { cls:=.type "list", dict:=none,data:=.seq ([]:List Value).toArray }=h3 at *
  generalize eH3:L2.upd H1 D (.lst [])=H3 at *
  have st3:tn 0 h3:=T.keep 0 _ _ st2 fun b hb o e=>k3 b o e
  have f3:∀ b∈fp,jX X pins H3 b:=fun b hb=>⟨by rw[← eH3,aA (fne b hb)];exact (f2 b hb).1,(f2 b hb).2⟩
  have lt3:∀ b∈fp,b < h3.objs.size:=fun b hb=>by
    obtain ⟨o,ho,_⟩:=T.obj 0 _ st3 b hb
    exact Heap.lt_size ho
  generalize es3:({ s2 with heap:=h3 }:Shared)=s3 at *
  have hs3:s3.heap=h3:=by rw[← es3]
  refine wpAny_newFunctionEnv hcell (fun y hy=>(by cases hy)) (fun h4 hns hsb=>?_) dO
  show codeAny _ _ (.compStart _ 0 (.ref it) (.ref D) (compEnvC scope cl s3.heap.objs.size X.env)) (compPost _ _ _ none _ (.ref D) s3.heap.objs.size) _
  have k4:∀ b u,s3.heap.get? b=some u→h4.get? b=some u:=fun b u e=>hsb.extBut b u (Nat.ne_of_lt (Heap.lt_size e)) (Heap.get?_push_of_some _ e)
  have okY:(a8 X scope Nc cl s3.heap.objs.size s3 H3 fp).Ok:=by
    refine ⟨I3.ok.mod,dO,I3.ok.glob,I3.ok.blt,Nat.le_refl _,fun x y c e1 e2=>I3.ok.inj x y c (clin _ _ e1) (clin _ _ e2),fun x hx=>?_,fun x c hf=>(by cases hf),I3.ok.hd,I3.ok.frames,.inl rfl,fun b hb=>⟨?_,fun x c e z=>?_⟩,I3.bs,Nat.le_trans I3.ok.bsz I3.sz,fun b o e hb=>?_,fun b hb hz=>?_,I3.stack,I3.lH⟩
    · have hx':(relabel scope X.env).names.lookup x=some .cell∨(relabel scope X.env).names.lookup x=some .free:=hx
      have hm:(x,NameKind.free)∈scope.names:=by
        rcases hx' with q | q
        · exact dR hcell (.inl rfl) (PySem.mem_of_lookup q)
        · exact dR hcell (.inr rfl) (PySem.mem_of_lookup q)
      exact clfree _ hm rfl
    · show b≠s3.heap.objs.size
      rw[hs3];exact Nat.ne_of_lt (lt3 b hb)
    · exact (f3 b hb).2.2.2.2.1 x c (clin _ _ e) z
    · rcases (f3 b hb).2.2.2.1 with z | z
      · exact I3.ok.vL b o e z
      · exact absurd (Nat.lt_of_lt_of_le (Heap.lt_size e) (Nat.le_trans I3.ok.bsz z)) (Nat.lt_irrefl _)
    · rcases List.mem_cons.mp (I3.nS b hz) with z | z
      · exact (f3 b hb).2.1 z
      · exact (f3 b hb).2.2.1 z
  have uE:∀ c v,s3.heap.IsCell c v→h4.IsCell c v:=fun c v ⟨o,ho,hd⟩=>⟨o,k4 c o ho,hd⟩
  have J0:Inv (a8 X scope Nc cl s3.heap.objs.size s3 H3 fp) [] (c7 σ n caps) H3 { s3 with heap:=h4,toks:=s3.toks+([]:List (Str×Value)).length }:=by
    refine ⟨okY,rfl,I3.bare,Un.kept k4,⟨_,hns,fun i x v e1 e2 e3=>?_⟩,fun x c e=>?_,I3.hok.fresh (Nat.le_refl _),fun x c e=>I3.e6 x c (clin _ _ e),(fun p hp=>(by cases hp)),I3.hok.kept k4,?_⟩
    · obtain ⟨j,k,rfl,ej,ek⟩:=eZ e2
      obtain ⟨x',n1,n2,n3⟩:=hcap j k ej
      have e1':Nc[n+j]? = some x:=e1
      rw[n1] at e1';cases e1'
      have hmem:(x,NameKind.free)∈scope.names:=PySem.mem_of_lookup n3
      have hcellx:X.env.kindOf x=some .cell:=hfree _ hmem rfl
      obtain ⟨m,hn,hl⟩:=I3.loc
      obtain ⟨u,ru,lk⟩:=hl k x v n2 ek (.inr (.inl hcellx))
      refine ⟨u,ru,.inr ⟨.inl (bB I3.ok.kind hcellx n3),?_⟩⟩
      rcases lk with ⟨q,_⟩ | ⟨_,c,ec,ic⟩
      · rw[hcellx] at q;cases q
      · obtain ⟨c',ec'⟩:=clfree _ hmem rfl
        have:=clin _ _ ec'
        rw[ec] at this;cases this
        exact ⟨c,ec',uE _ _ ic⟩
    · obtain ⟨v,q⟩:=I3.cell x c (clin _ _ e)
      exact ⟨v,uE _ _ q⟩
    · unfold c7
      show _=Nc.length
      rw[List.length_append,List.length_replicate,List.length_map,hlen]
  obtain ⟨pg,pifs,pelt⟩:=hbody cl s3.heap.objs.size s3 H3 fp
  generalize eY:a8 X scope Nc cl s3.heap.objs.size s3 H3 fp=Y at *
  have yP:Y.prog=X.prog:=by rw[← eY];rfl
  have yw:Y.w=X.w:=by rw[← eY];rfl
  have yK:Y.K=X.K:=by rw[← eY];rfl
  have yA:Y.A=X.A:=by rw[← eY];rfl
  have yx:Y.xe=fun _ _=>False:=by rw[← eY];exact hxe
  have yc:Y.calm=true:=by rw[← eY];exact hcalm
  have ye:Y.env=compEnvC scope cl s3.heap.objs.size X.env:=by rw[← eY];rfl
  have yfs:Y.fs=frs X.stack:=by rw[← eY];rfl
  have yex:Y.ex=fp:=by rw[← eY];rfl
  have ys0:Y.s₀=s3:=by rw[← eY];rfl
  have yH0:Y.H₀=H3:=by rw[← eY];rfl
  have ypn:Y.pn=[]:=by rw[← eY];rfl
  have iz:∀ {H':Hp},(∀ b∈fp,H' b=none)→∀ b∈fp,jX Y [] H' b:=fun hn b hb=>⟨hn b hb,by rw[ye];show b≠s3.heap.objs.size;rw[hs3];exact Nat.ne_of_lt (lt3 b hb),okY.vJ b (by rw[yex];exact hb),.inl (by rw[yex];exact hb),
    fun x c e=>by rw[ye] at e;exact (f3 b hb).2.2.2.2.1 x c (clin _ _ e),fun p hp=>by rw[ypn] at hp;exact nomatch hp⟩
  have tn4:∀ t,tn 0 ({ s3 with heap:=h4,toks:=t }:Shared).heap:=fun t=>T.keep 0 _ _ st3 fun b hb o e=>k4 b o (by rw[hs3];exact e)
  -- the end
  have fin:∀ (s5:Shared) (H5:Hp),Inv Y [] (c7 σ n caps) H5 s5→Q (.ref D) H5→compPost (model X.prog X.w) X.A (fun _ _=>False) none (EP X pins σ Q) (.ref D) s3.heap.objs.size (.ok .next) s5:=fun s5 H5 I5 q5=>by
    obtain ⟨m,hn,_⟩:=I5.loc
    rw[ye] at hn
    refine ⟨m,hn,fun h6 hs6=>⟨.ref D,H5,?_,rfl,q5⟩⟩
    have nC:∀ b o,s3.heap.get? b=some o→b≠s3.heap.objs.size:=fun b o e=>Nat.ne_of_lt (Heap.lt_size e)
    have un:=I5.base
    rw[yfs,yex,yH0,ys0] at un
    have hfreeC0:=I5.free
    rw[ye] at hfreeC0
    have hfreeC:H5 s3.heap.objs.size=none:=hfreeC0
    refine I3.xZ (ch:=fp) (s':={ s5 with heap:=h6 }) (by have:=I5.os;rw[ys0] at this;exact this) ⟨fun b o e n1 n2 n3=>(hs6.2 b (nC b o e)).trans (un.keep b o e n1 n2 n3),fun b o e n1 n2 n3=>?_,un.free,fun b o e n1=>?_,un.ji,un.iG,un.jh⟩ (fun b u e=>?_) I5.bare fun b hb=>?_
    · obtain ⟨sl,q⟩:=un.slot b o e n1 n2 n3
      exact ⟨sl,(hs6.2 b (nC b o e)).trans q⟩
    · obtain ⟨o',q⟩:=un.there b o e n1
      exact ⟨o',(hs6.2 b (nC b o e)).trans q⟩
    · have hok5:=I5.hok
      rw[yP,yw] at hok5
      refine (hok5 b u e).jk (fun c w' hc q=>(hs6.2 c ?_).trans q) (fun _ q=>q) fun _ _ q=>q
      rintro rfl
      rcases hc with z | z
      · rw[← z,hfreeC] at e;cases e
      · rw[hfreeC] at z;cases z
    · exact ⟨(f3 b hb).2.2.2.1,(f3 b hb).2.1,(f3 b hb).2.2.2.2.1,(f3 b hb).2.2.2.2.2⟩
  have loop:codeAny (model X.prog X.w) X.A (.compLoop (.ListComp elt [⟨tg,iter,ifs,0⟩] scope pos) 0 (.ref it) (.ref D) (compEnvC scope cl s3.heap.objs.size X.env)) (compPost (model X.prog X.w) X.A (fun _ _=>False) none (EP X pins σ Q) (.ref D) s3.heap.objs.size)
      { s3 with heap:=h4,toks:=s3.toks+([]:List (Str×Value)).length }:=by
    refine jS (fun k s'=>∃ i ys H',Inv Y [] (c7 σ n caps) H' s'∧tn i s'.heap∧(∀ b∈fp,H' b=none)∧W i k ys H') ?_ m0 ⟨0,[],H3,J0,tn4 _,fun b hb=>(f3 b hb).1,w0⟩
    rintro k s5 ⟨i,ys,H5,I5,st5,fr5,w5⟩
    rcases turn i k ys H5 w5 with ⟨stop,q⟩ | ⟨go,N,hN,step⟩
    · have d:=T.done Y yP yw yK yc i [] s5 _ H5 (fun _ _=>False) I5 (iz fr5) st5 stop
      rw[yA] at d
      refine thn d fun r s6 ⟨hr,I6⟩=>?_
      subst hr
      exact fin s6 H5 I6 q
    · have d:=T.item Y yP yw yK yc i [] s5 _ H5 (fun _ _=>False) I5 (iz fr5) st5 go
      rw[yA] at d
      refine thn d fun r s6 ⟨u,hr,h6⟩=>?_
      subst hr
      refine thn h6 fun _ s7 ⟨x,H7,I7,r7,y7,st7,fr7⟩=>?_
      have I7':=I7.pinned (iz fr7) (T.obj _ _ st7)
      have a:=pg _ s7 _ H7 x u _ I7' r7 (step x H7 y7)
      rw[yP,yw,yA,yx,ye] at a
      refine thn a fun _ s8 ⟨σ8,H8,I8,wk,q8⟩=>?_
      have b:=pifs _ s8 σ8 H8 _ I8 q8
      rw[yP,yw,yA,yx,ye] at b
      have again:∀ {s9:Shared} {ys9:List V} {H9:Hp},Inv Y ([]++iE fp s7.heap) σ8 H9 s9→N ys9 H9→∃ m,m < k∧∃ i ys H',Inv Y [] (c7 σ n caps) H' s9∧tn i s9.heap∧(∀ b∈fp,H' b=none)∧W i m ys H':=fun {s9 ys9 H9} I9 n9=>by
        obtain ⟨m',hm,w9⟩:=hN ys9 H9 n9
        have hp:∀ b∈fp,∀ o,s7.heap.get? b=some o→s9.heap.get? b=some o∧H9 b=none:=fun b hb o e=>
          ⟨(I9.pin (b,o) (List.mem_append_right _ (List.mem_append_right _ (bN hb e)))).1,(I9.pin (b,o) (List.mem_append_right _ (List.mem_append_right _ (bN hb e)))).2.1⟩
        refine ⟨m',hm,i+1,ys9,H9,I9.dD.weak wk.1 wk.2,T.keep _ _ _ st7 fun b hb o e=>(hp b hb o e).1,fun b hb=>?_,w9⟩
        obtain ⟨o,e,_⟩:=T.obj _ _ st7 b hb
        exact (hp b hb o e).2
      refine thn b fun ok s9 ⟨H9,I9,q9⟩=>?_
      cases ok with
      | false=>
        rw[if_neg Bool.false_ne_true] at q9 ⊢
        exact again I9 q9
      | true=>
        rw[if_pos rfl] at q9 ⊢
        have c:=pelt _ s9 σ8 H9 _ I9 q9
        rw[yP,yw,yA,yx,ye] at c
        refine thn c fun v s10 ⟨y,H10,I10,r10,zs,ez,lz,n10⟩=>?_
        have d:=gH (X:=Y) _ s10 σ8 H10 (.ref D) [y] (.ref D) [v] (fun _ H'=>N (zs++[y]) H') I10 rfl (.cons r10 .nil) ⟨D,zs,y,rfl,rfl,ez,lz,n10⟩
        rw[yP,yw,yA,yx] at d
        exact thn d fun _ s11 ⟨_,H11,I11,_,q11⟩=>again I11 q11
  refine codeAny_compStart_list loop ?_
  exact T.self X.A 0 _ _ _ (tn4 _) loop
end
section
open PySem PySem.Spec PyProof.Rows L2
structure A8 (K:PySem.W.Frag) (J:It) (H1:Hp) (ds:List D):Prop where
  go:∀ i H',Tk H1 H'→i < ds.length→J.go i H'
  yld:∀ i H' x H'',Tk H1 H'→i < ds.length→J.yld i H' x H''→Tk H' H''∧(∃ d,ds[i]? = some d∧Dp K H'' x d)∧∀ μ,bA K H' μ→bA K H'' μ
  stop:∀ i H',Tk H1 H'→ds.length≤i→J.stop i H'
def Ir (K:PySem.W.Frag)(wi:TI)(It':ATr):Prop:=∀ σ H ρ μ (Q:List D→Mu→Prop) (R:It→Hp→Prop),Rl K σ H ρ μ→It' ρ μ Q→(∀ J H1 ds μ1,Tk H H1→bA K H1 μ1→A8 K J H1 ds→Q ds μ1→R J H1)→wi σ H R
structure LI (X:Cx) (tg iter:Expr) (It':ATr):Prop where
  ex:∃ wi,PI X tg iter wi∧Ir X.K wi It'
section
variable {X:Cx} {tg a b c e elt iter:Expr} {Ta Tb Te:ETr} {Tt:TTr} {pos:Pos} {It':ATr} {G:GTr}
theorem Dj {K:PySem.W.Frag}{H:Hp}{p:Addr}{xs:List V}{ds:List D}(q:SqT K H p xs)(l:DpL K H xs ds):A8 K (Itt K p) H ds where
  go:=fun i H' t hi=>by
    have hl:=l.length
    exact ⟨xs,xs[i],t.sqT q,by simp[show i < xs.length by omega]⟩
  yld:=fun i H' x H'' t hi ⟨e,y⟩=>by
    subst e
    have ex:=y xs (t.sqT q)
    obtain ⟨d,ed,p⟩:=l.get' ex
    exact ⟨.refl _,⟨d,ed,p.mono t⟩,fun _ m=>m⟩
  stop:=fun i H' t hi=>⟨xs,t.sqT q,by rw[l.length];exact hi⟩
theorem Ek {K:PySem.W.Frag}{H:Hp}{p:Addr}{xs:List V}{ds:List D}(q:SqF K H p xs)(l:DpL K H xs ds):A8 K (Itl K p) H ds where
  go:=fun i H' t hi=>by
    have hl:=l.length
    exact ⟨xs,xs[i],(t.sqF q).sq,by simp[show i < xs.length by omega]⟩
  yld:=fun i H' x H'' t hi ⟨e,y⟩=>by
    subst e
    have ex:=y xs (t.sqF q).sq
    obtain ⟨d,ed,p⟩:=l.get' ex
    exact ⟨.refl _,⟨d,ed,p.mono t⟩,fun _ m=>m⟩
  stop:=fun i H' t hi=>⟨xs,(t.sqF q).sq,by rw[l.length];exact hi⟩
theorem iw (lo:Int)(n:Nat):(dq lo n).length=n:=by unfold dq;simp
theorem uw {K:PySem.W.Frag}{H:Hp}(lo:Int)(n:Nat):A8 K (Itr lo n) H (dq lo n) where
  go:=fun i H' t hi=>by rw[iw] at hi;exact hi
  yld:=fun i H' x H'' t hi ⟨e,y⟩=>by
    rw[iw] at hi
    subst e y
    exact ⟨.refl _,⟨.int (lo+i),by unfold dq;simp[hi],.int _⟩,fun _ m=>m⟩
  stop:=fun i H' t hi=>by rw[iw] at hi;exact hi
def KA (a:ETr):ATr:=fun ρ μ Q=>a ρ μ fun x μ1=>match x with
  | .tup ds=>Q ds μ1
  | _=>False
def ILs (a:ETr):ATr:=fun ρ μ Q=>a ρ μ fun x μ1=>match x with
  | .ls ds=>Q ds μ1
  | _=>False
theorem gA {rp rpos:Pos}(hg:Gl X "range")(hm:X.mg "range" = none)(ha:LE X a Ta)(hs:starEach [a] X.env=[(false,eval a X.env)]:=by rfl):LI X tg (.Call (.Name "range" rp) [a] [] rpos) (di Ta):=by
  obtain ⟨ta,pa,sa⟩:=ha.ex
  refine ⟨_,yG hg hm (cS pa gq hs) hs,fun σ H ρ μ Q R rl h k=>sa σ H ρ μ _ _ rl h fun x H1 d μ1 t1 m1 p1 h1=>?_⟩
  cases p1 with
  | int j=>
    obtain ⟨⟨h2,h3⟩,h4⟩:=h1
    exact ⟨j,rfl,by simpa using h2,by simpa using h3,k _ H1 _ μ1 t1 m1 (uw 0 _) h4⟩
  | _=>exact False.elim h1
theorem J9 {t1:TS}{T1:STr}{g:TG}{E:En}{E':Ends}{K:PySem.W.Frag}{H0 H1:Hp}{J:It}{ds:List D}(sg:GB K g G)(s1:DX K t1 T1)(k:Bf K H0 E E')(Y:A8 K J H1 ds){σ:L2.St}{ρ:ST}{μ:Mu}(t0:Tk H0 H1)(rl:Rl K σ H1 ρ μ)(h:forR G T1 E ds ρ μ) :
    ∃ W:Nat→Nat→L2.St→Hp→Prop,(∃ m,W 0 m σ H1)∧∀ i m σ H,W i m σ H→
      (J.stop i H∧E'.nx σ H)∨(J.go i H∧∃ N:L2.St→Hp→Prop,(∀ σ' H',N σ' H'→∃ m',m' < m∧W (i+1) m' σ' H')∧∀ x H',J.yld i H x H'→g x σ H' fun σ2 H2=>t1 { E' with nx:=N,ct:=N,bk:=E'.nx } σ2 H2):=by
  refine ⟨fun i m σ' H'=>m=ds.length - i∧i≤ds.length∧Tk H1 H'∧∃ ρ' μ',Rl K σ' H' ρ' μ'∧forR G T1 E (ds.drop i) ρ' μ',⟨ds.length,by simp,Nat.zero_le _,.refl _,ρ,μ,rl,by simpa using h⟩,?_⟩
  rintro i m σ1 H2 ⟨rfl,hi,t12,ρ1,μ1,r1,h1⟩
  by_cases hlt:i < ds.length
  · refine .inr ⟨Y.go i H2 t12 hlt,fun σ' H'=>Tk H1 H'∧∃ ρ' μ',Rl K σ' H' ρ' μ'∧forR G T1 E (ds.drop (i+1)) ρ' μ',fun σ' H' ⟨t',ρ',μ',r',h'⟩=>⟨ds.length - (i+1),by omega,rfl,hlt,t',ρ',μ',r',h'⟩,fun x H3 y=>?_⟩
    obtain ⟨t23,⟨d,ed,pd⟩,mk⟩:=Y.yld i H2 x H3 t12 hlt y
    have e:ds.drop i=d::ds.drop (i+1):=by
      refine (List.drop_eq_getElem_cons hlt).trans ?_
      congr 1
      rw[List.getElem?_eq_getElem hlt] at ed
      exact Option.some.inj ed
    rw[e] at h1
    have t13:=t12.trans t23
    refine sg σ1 H3 ρ1 μ1 _ _ _ _ (r1.go t23 (mk _ r1.mu)) pd h1 fun σ4 H4 ρ4 μ4 t4 r4 h4=>?_
    have t14:=t13.trans t4
    have t04:=t0.trans t14
    exact s1 σ4 H4 ρ4 μ4 _ _ r4 h4 ⟨fun σ' H' ρ' μ' t' r' q=>⟨t14.trans t',ρ',μ',r',q⟩,(k.go t04).rt,(k.go t04).nx,fun σ' H' ρ' μ' t' r' q=>⟨t14.trans t',ρ',μ',r',q⟩⟩
  · have e:i=ds.length:=by omega
    subst e
    rw[List.drop_length] at h1
    exact .inl ⟨Y.stop _ H2 t12 (Nat.le_refl _),k.nx _ _ _ _ (t0.trans t12) r1 h1⟩
theorem fN {body:List Stmt}{T1:STr}(hp:PassesOwn (model X.prog X.w) X.A X.env X.xe)(hc:X.calm=true)(hi:LI X tg iter It')(hG:LG X tg G)(hb:LSs X body T1)(hf:∀ x,foldedSetIterable iter X.env x=pure x:=by intro _;rfl) :
    LS X (.For tg iter body [] pos) (j4 It' G T1):=by
  obtain ⟨wi,pi,si⟩:=hi.ex
  obtain ⟨g,pg,sg⟩:=hG.ex
  obtain ⟨t1,p1,s1⟩:=hb.ex
  exact ⟨_,Iy hp hc pi pg p1 hf,fun σ H ρ μ E E' rl h k=>si σ H ρ μ _ _ rl h fun J H1 ds μ1 t1' m1 Y h1=>J9 sg s1 k Y t1' (rl.go t1' m1) h1⟩
def nT (K:PySem.W.Frag)(T:ETr):TE:=fun σ H Q'=>∃ ρ μ Q,Rl K σ H ρ μ∧T ρ μ Q∧gh K H Q Q'
def liftT (K:PySem.W.Frag)(T:TTr):TT:=fun σ H Q'=>∃ ρ μ Q,Rl K σ H ρ μ∧T ρ μ Q∧∀ b H' μ',Tk H H'→bA K H' μ'→Q b μ'→Q' b H'
abbrev F7 (K:PySem.W.Frag)(n:Nat)(σ:L2.St)(H:Hp)(k:ST→Mu→Prop)(k':L2.St→Hp→Prop):Prop:=∀ σ' H' ρ' μ',Tk H H'→Rl K σ' H' ρ' μ'→(σ'.length=σ.length∧∀ j,n≤j→σ'[j]? = σ[j]?)→k ρ' μ'→k' σ' H'
def l6 (K:PySem.W.Frag)(n:Nat)(G:GTr):TG:=fun v σ H k'=>∃ ρ μ d k,Rl K σ H ρ μ∧Dp K H v d∧G d ρ μ k∧F7 K n σ H k k'
theorem LE.pe (h:LE X e Te):PE X e (nT X.K Te):=by
  obtain ⟨t,p,s⟩:=h.ex
  exact fun pins st σ H Q I ⟨ρ,μ,Q0,rl,hT,k⟩=>p pins st σ H Q I (s σ H ρ μ Q0 Q rl hT k)
structure vS (X:Cx) (ifs:List Expr) (Tt:TTr):Prop where
  pe:zp X ifs (liftT X.K Tt)
theorem cc:vS X [] fL:=⟨fun pins s σ H Q I ⟨ρ,μ,Q0,rl,hT,k⟩=>DV pins s σ H Q I (k true H μ (.refl H) rl.mu hT)⟩
theorem iU (h:LT X c Tt):vS X [c] Tt:=by
  obtain ⟨t,p,s⟩:=h.ex
  exact ⟨fun pins st σ H Q I ⟨ρ,μ,Q0,rl,hT,k⟩=>Fp p pins st σ H Q I (s σ H ρ μ Q0 Q rl hT k)⟩
structure LGc (X:Cx) (n:Nat) (tg:Expr) (G:GTr):Prop where
  pe:PG X tg (l6 X.K n G)
theorem bQ {x:Str}{n:Nat}(i:Nat)(hN:X.N.Nodup)(hin:i < n:=by decide)(hi:X.N[i]? = some x:=by rfl)(hx:Loc X.env.scope x:=by first | exact Or.inl rfl | exact Or.inr rfl)(hf:X.fn x=true∨X.env.scope.names.lookup x=some .local:=by first | exact .inr rfl | exact .inl rfl | assumption):LGc X n (.Name x pos) (au i):=
  ⟨fun pins s σ H v u k' I r ⟨ρ,μ,d,k,rl,p,h,post⟩=>ju hN hi hx hf pins s σ H v u k' I r (post _ H _ μ (.refl H) (rl.set p i) ⟨by simp,fun j hj=>by rw[List.getElem?_set_ne (by omega)]⟩ h)⟩
theorem qB {K:PySem.W.Frag}{σ:L2.St}{H:Hp}{ρ:ST}{μ:Mu}(rl:Rl K σ H ρ μ)(n:Nat)(caps:List Nat):Rl K (c7 σ n caps) H (fK ρ n caps) μ:=by
  refine ⟨by unfold c7 fK;simp,fun i d e=>?_,rl.mu⟩
  have gen:∀ (n i:Nat),lk (List.replicate n none++caps.map (lk ρ)) i=some d→∃ j,i=n+j∧∃ k,caps[j]? = some k∧lk ρ k=some d:=by
    intro n
    induction n with
    | zero=>
      intro i h
      have h':lk (caps.map (lk ρ)) i=some d:=by simpa using h
      have g2:∀ (cs:List Nat) (i:Nat),lk (cs.map (lk ρ)) i=some d→∃ k,cs[i]? = some k∧lk ρ k=some d:=by
        intro cs
        induction cs with
        | nil=>intro i h;cases i<;>cases h
        | cons c r ih=>intro i h;cases i with
          | zero=>exact ⟨c,rfl,h⟩
          | succ i=>simpa using ih i h
      exact ⟨i,by omega,g2 caps i h'⟩
    | succ n ih=>
      intro i h
      cases i with
      | zero=>cases h
      | succ i=>
        obtain ⟨j,rfl,k,h1,h2⟩:=ih i h
        exact ⟨j,by omega,k,h1,h2⟩
  obtain ⟨j,rfl,k,h1,h2⟩:=gen n i e
  obtain ⟨v,h3,h4⟩:=rl.loc k d h2
  refine ⟨v,?_,h4⟩
  unfold c7
  rw[List.getElem?_append_right (by simp)]
  simp[h1,h3]
theorem DY {ifs:List Expr}{scope:Scope}{Nc:List Str}{n:Nat}{caps:List Nat}(hxe:X.xe=fun _ _=>False)(hcalm:X.calm=true)(hi:LI X tg iter It')
    (hbody:∀ (cl:List (Str×Addr)) (C:Addr) (s₀:Shared) (H₀:Hp) (ex:List Addr),LGc (a8 X scope Nc cl C s₀ H₀ ex) n tg G∧vS (a8 X scope Nc cl C s₀ H₀ ex) ifs Tt∧LE (a8 X scope Nc cl C s₀ H₀ ex) elt Te)
    (hfree:∀ y∈scope.names,y.2=.free→X.env.kindOf y.1=some .cell) (hcell:∀ y∈scope.names,y.2≠.cell) (dO:scope.kind=.function)
    (hnames:∀ y∈scope.names,y.2=.local→scope.names.lookup y.1=some .local) (hlen:Nc.length=n+caps.length)
    (hcap:∀ (j k:Nat),caps[j]? = some k→∃ x,Nc[n+j]? = some x∧X.N[k]? = some x∧scope.names.lookup x=some .free)
    (hs:∀ x,foldedSetIterable iter X.env x=pure x:=by intro _;rfl) :
    LE X (.ListComp elt [⟨tg,iter,ifs,0⟩] scope pos) (bP It' G Tt Te n caps):=by
  obtain ⟨wi,pi,si⟩:=hi.ex
  refine ⟨_,jM (xb (g:=l6 X.K n G) (tt:=liftT X.K Tt) (te:=nT X.K Te) hxe hcalm pi (fun cl C s₀ H₀ ex=>let ⟨h1,h2,h3⟩:=hbody cl C s₀ H₀ ex;⟨h1.pe,h2.pe,h3.pe⟩) hfree hcell dO hnames hlen hcap hs),?_⟩
  intro σ H ρ μ Q Q' rl h k
  refine si σ H ρ μ _ _ rl h fun J H1 ds μ1 t1 m1 Y h1 D hD=>?_
  have hp:=h1 D (m1.free hD)
  have tD:Tk H1 (L2.upd H1 D (.lst [])):=.new hD
  have mD:bA X.K (L2.upd H1 D (.lst [])) (up μ1 D (.lst [])):=fun a o e=>by
    by_cases ha:a=D
    · subst ha
      rw[aN] at e;cases e
      exact ⟨[],aE,.nil⟩
    · rw[aV ha] at e
      exact cz m1 hD a o e
  refine ⟨fun i m ys H2=>m=ds.length - i∧i≤ds.length∧Tk H1 H2∧∃ μ2,bA X.K H2 μ2∧dE D G Tt Te (fK ρ n caps) (fun μ'=>kL μ' D fun zs=>Q (.ls zs) (dn μ' D)) (ds.drop i) μ2,
    ⟨ds.length,by simp,Nat.zero_le _,tD,_,mD,by simpa using hp⟩,?_⟩
  rintro i m ys H2 ⟨rfl,hi,t12,μ2,m2,h2⟩
  by_cases hlt:i < ds.length
  · refine .inr ⟨Y.go i H2 t12 hlt,fun ys' H'=>Tk H1 H'∧∃ μ',bA X.K H' μ'∧dE D G Tt Te (fK ρ n caps) (fun μ'=>kL μ' D fun zs=>Q (.ls zs) (dn μ' D)) (ds.drop (i+1)) μ',fun ys' H' ⟨t',μ',m',h'⟩=>⟨ds.length - (i+1),by omega,rfl,hlt,t',μ',m',h'⟩,fun x H3 y=>?_⟩
    obtain ⟨t23,⟨d,ed,pd⟩,mk⟩:=Y.yld i H2 x H3 t12 hlt y
    have e:ds.drop i=d::ds.drop (i+1):=by
      refine (List.drop_eq_getElem_cons hlt).trans ?_
      congr 1
      rw[List.getElem?_eq_getElem hlt] at ed
      exact Option.some.inj ed
    rw[e] at h2
    have t13:=t12.trans t23
    have r3:Rl X.K (c7 σ n caps) H3 (fK ρ n caps) μ2:=qB (rl.go (t1.trans t13) (mk _ m2)) n caps
    refine ⟨_,_,d,_,r3,pd,h2,fun σ4 H4 ρ4 μ4 t4 r4 kp h4=>⟨⟨kp.1.symm,fun j v ej=>?_⟩,_,_,_,r4,h4,fun b H5 μ5 t5 m5 h5=>?_⟩⟩
    · by_cases hj:n≤j
      · rw[kp.2 j hj];exact ej
      · obtain ⟨j',k',e1,_⟩:=eZ ej
        omega
    · have t15:=t13.trans (t4.trans t5)
      cases b with
      | false=>exact qS ⟨t15,μ5,m5,h5⟩
      | true=>
        refine rN ⟨_,_,_,r4.go t5 m5,h5,fun v H6 d6 μ6 t6 m6 p6 h6=>?_⟩
        obtain ⟨zs,ez,lz,h7⟩:=ck h6
        obtain ⟨xs,ex,lx⟩:=m6 D _ ez
        have t67:Tk H6 (L2.upd H6 D (.lst (xs++[v]))):=.upd (fun ys z=>by rw[ex] at z;cases z) fun o' u z=>by rw[ex] at z;cases z
        refine ⟨xs,ex,by rw[lx.length];exact Nat.lt_of_lt_of_le lz (by decide),(t15.trans t6).trans t67,up μ6 D (.lst (zs++[d6])),fun a o ea=>?_,h7⟩
        by_cases ha:a=D
        · subst ha
          rw[aN] at ea;cases ea
          exact ⟨_,aE,(lx.append (.cons p6 .nil)).mono t67⟩
        · rw[aV ha] at ea
          exact (m6 a _ ea).ne t67 ha
  · have e:i=ds.length:=by omega
    subst e
    rw[List.drop_length] at h2
    obtain ⟨zs,ez,hq⟩:=ck (show kL μ2 D fun zs=>Q (.ls zs) (dn μ2 D) from h2)
    obtain ⟨xs,ex,lx⟩:=m2 D _ ez
    refine .inl ⟨Y.stop _ H2 t12 (Nat.le_refl _),D,xs,rfl,ex,fun o=>?_⟩
    have t2f:Tk H2 (L2.upd H2 D (.frz o (.lst xs))):=.upd (fun ys z=>by rw[ex] at z;cases z) fun o' u z=>by rw[ex] at z;cases z
    refine k _ _ _ (dn μ2 D) ((t1.trans t12).trans t2f) (fun a o' ea=>?_) (.ls (.inl ⟨o,aE⟩) (lx.mono t2f)) hq
    have ha:a≠D:=fun z=>by subst z;unfold dn at ea;rw[if_pos rfl] at ea;cases ea
    have ea':μ2 a=some o':=by unfold dn at ea;rw[if_neg ha] at ea;exact ea
    exact (m2 a _ ea').ne t2f ha
end
end
section
open PySem PySem.Spec PyProof.Rows L2
def jQ (fn:List (Str×NameKind))(XN:List Str)(sc:Scope)(Nc:List Str)(n:Nat)(caps:List Nat):Bool:=
  sc.names.all (fun y=>(y.2 != .free || fn.lookup y.1 == some .cell)&&y.2 != .cell&&(y.2 != .local || sc.names.lookup y.1 == some .local))&&sc.kind == .function&&Nc.length == n+caps.length &&
  (List.range caps.length).all fun j=>match caps[j]? with
    | some k=>(match XN[k]? with
      | some x=>Nc[n+j]? == some x&&sc.names.lookup x == some .free
      | none=>false)
    | none=>false
section
variable {X:Cx} {tg a b c e elt iter:Expr} {Ta Tb Te:ETr} {Tt:TTr} {pos:Pos} {It':ATr} {G:GTr}
theorem bf {ifs:List Expr}{scope fsc:Scope}(XN Nc:List Str)(n:Nat)(caps:List Nat)(hxe:X.xe=fun _ _=>False)(hcalm:X.calm=true)(hi:LI X tg iter It')
    (hbody:∀ (cl:List (Str×Addr)) (C:Addr) (s₀:Shared) (H₀:Hp) (ex:List Addr),LGc (a8 X scope Nc cl C s₀ H₀ ex) n tg G∧vS (a8 X scope Nc cl C s₀ H₀ ex) ifs Tt∧LE (a8 X scope Nc cl C s₀ H₀ ex) elt Te)
    (hsc:X.env.scope=fsc) (hXN:X.N=XN) (hok:jQ fsc.names XN scope Nc n caps=true)
    (hs:∀ x,foldedSetIterable iter X.env x=pure x:=by intro _;rfl) :
    LE X (.ListComp elt [⟨tg,iter,ifs,0⟩] scope pos) (bP It' G Tt Te n caps):=by
  unfold jQ at hok
  simp only[Bool.and_eq_true,List.all_eq_true] at hok
  obtain ⟨⟨⟨h1,h2⟩,h3⟩,h4⟩:=hok
  refine DY hxe hcalm hi hbody (fun y hy hf=>?_) (fun y hy hf=>?_) (by simpa using h2) (fun y hy hf=>?_) (by simpa using h3) (fun j k hj=>?_) hs
  · have:=(h1 y hy).1.1
    show X.env.scope.names.lookup y.1=_
    rw[hsc]
    simpa[hf] using this
  · have:=(h1 y hy).1.2
    simp[hf] at this
  · have:=(h1 y hy).2
    simpa[hf] using this
  · have hl:j < caps.length:=(List.getElem?_eq_some_iff.mp hj).1
    have:=h4 j (List.mem_range.mpr hl)
    rw[hj] at this
    dsimp only at this
    rw[hXN]
    cases e:XN[k]? with
    | none=>rw[e] at this;cases this
    | some x=>
      rw[e] at this
      dsimp only at this
      rw[Bool.and_eq_true] at this
      exact ⟨x,by simpa using this.1,rfl,by simpa using this.2⟩
end
theorem kr:∀ {bs:List Bool} {us:List Value},Vals (bs.map V.bl) us→LSm.BoolsAre us bs
  | [],_,.nil=>.nil
  | b::r,_,.cons h t=>by
    cases (show _=Value.bool b from h)
    exact .cons b (kr t)
theorem jZ {X:Cx}(hc:X.calm=true):bI X (.builtin "all") (fun xs H Q=>∃ (p:Addr) (ys:List V) (bs:List Bool),xs=[.ref p]∧SqL X.K H p ys∧ys=bs.map V.bl∧Q (.bl (bs.all id)) H):=fun pins s σ H xs us Q I rx ⟨p,ys,bs,e1,sq,e2,q⟩=>by
  subst e1 e2
  cases rx with | cons r1 r2=>
  cases r2
  cases (show _=Value.ref p from r1)
  obtain ⟨its,rv,pl,_⟩:=I.list sq
  have ils:s.heap.IsList p its.toArray:=by
    obtain ⟨o,n,h1,h2,_,h3⟩:=pl
    exact ⟨o,h1,h2,n,h3⟩
  have bls:=kr rv
  have hlt:p < s.heap.objs.size:=by obtain ⟨_,e,_⟩:=ils;exact Heap.lt_size e
  refine call_all_walk (wpAny_pyIter_list ils ?_)
  refine ⟨s.heap.objs.size,[s.heap.objs.size,p],[s.heap.objs.size],its.toArray.size,_,_,fun i=>(bs[i]?).getD true,rfl,Walks.list (A:=X.A.in1) (I.ok.hd hc) _ p (Nat.ne_of_lt hlt) its.toArray,
    ⟨⟨_,Heap.get?_push_size _ rfl,rfl,rfl⟩,ils.push _⟩,fun i v s' Q' E' gP gQ=>?_,fun h' tk hk=>?_⟩
  · obtain ⟨b,e,rfl⟩:=bls.get i v (by simpa using gP)
    simp only[e,Option.getD_some] at gQ
    exact wpAny_truthy_bool gQ
  · have e:((List.range its.toArray.size).all fun i=>(bs[i]?).getD true)=bs.all id:=by
      rw[List.size_toArray,bls.length];exact LSm.range_all bs
    rw[e]
    exact ⟨.bl _,H,I.kept (LSm.kept_iter hk),rfl,q⟩
theorem DpL.bools {K:PySem.W.Frag}{H:Hp}:∀ {xs:List V} {bs:List Bool},DpL K H xs (bs.map .bl)→xs=bs.map V.bl
  | _,[],.nil=>rfl
  | _,b::r,.cons h l=>by cases h;rw[DpL.bools l];rfl
theorem qN {K:PySem.W.Frag}:lj K (fun xs H Q=>∃ (p:Addr) (ys:List V) (bs:List Bool),xs=[.ref p]∧SqL K H p ys∧ys=bs.map V.bl∧Q (.bl (bs.all id)) H) Cs:=fun H μ xs ds Q Q' m p h k=>by
  unfold Cs at h
  split at h
  · obtain ⟨bs,rfl,h⟩:=h
    cases p with | cons p1 p2=>cases p2;cases p1 with | ls q l=>exact ⟨_,_,bs,rfl,q.sq,l.bools,k _ H _ μ (.refl H) m (.bl _) h⟩
  · exact h.elim
end
section
open PySem PySem.Spec PyProof.Rows L2
def GV (K:PySem.W.Frag)(mg:Str→Option Value)(x:Str)(d:D):Prop:=∃ u v,mg x=some u∧RelV v u∧∀ H,Dp K H v d
theorem a6 {X:Cx}{x:Str}{pos:Pos}{d:D}(hg:Gl X x)(h:GV X.K X.mg x d)(hd:(x == ("__debug__" : Str))=false:=by decide):LE X (.Name x pos) (TC d):=by
  obtain ⟨u,v,hm,r,p⟩:=h
  exact ⟨_,FD hg hm r hd,fun σ H ρ μ Q Q' rl h k=>k v H d μ (.refl H) rl.mu (p H) h⟩
section
variable {K:PySem.W.Frag} {h:Heap} {mg:Str→Option Value} {x:Str}
theorem c9 {i:Int}{t:Tok}(X:K.In h)(G:h.Ns mainGlobals mg)(a:PySem.W.nsIn K mainGlobals x=some (some (.int i t))):GV K mg x (.int i):=⟨_,.int i,PySem.W.mg_of X G a,⟨t,rfl⟩,fun _=>.int i⟩
theorem Iz {p:Addr}{o:Obj}{its:Array Value}{n:Nat}{xs:List V}{ds:List D}(X:K.In h)(G:h.Ns mainGlobals mg)(a:PySem.W.nsIn K mainGlobals x=some (some (.ref p)))(l:K.lookup p=some o)(c:o.cls=.type "tuple")(dn:o.dict=none)(d:o.data=.seq its n)
    (z:its.size≤sizeLine) (r:Vals xs its.toList) (q:∀ H,DpL K H xs ds):GV K mg x (.tup ds):=⟨_,.ref p,PySem.W.mg_of X G a,rfl,fun H=>.tup (.inr ⟨o,its,n,l,c,dn,d,z,r⟩) (q H)⟩
end
def fQ:ST→List Nat→List D→ST
  | ρ,i::is,d::ds=>fQ (ρ.set i (some d)) is ds
  | ρ,_,_=>ρ
def eG (is:List Nat):GTr:=fun d ρ μ k=>match d with
  | .tup ds=>ds.length=is.length∧k (fQ ρ is ds) μ
  | _=>False
def KZ (K:PySem.W.Frag)(t:TGs)(is:List Nat):Prop:=∀ σ H ρ μ vs ds (k:ST→Mu→Prop) (k':L2.St→Hp→Prop),Rl K σ H ρ μ→DpL K H vs ds→ds.length=is.length→k (fQ ρ is ds) μ→tR K H k k'→t vs σ H k'
structure LGs (X:Cx) (es:List Expr) (is:List Nat):Prop where
  ex:∃ t,PGs X es t∧KZ X.K t is
section
variable {X:Cx} {e tg:Expr} {es:List Expr} {is:List Nat} {pos:Pos} {x:Str} {Ta:ETr} {G:GTr}
theorem xX:LGs X [] []:=⟨_,xI,fun σ H ρ μ vs ds k k' rl l hl h q=>by
  cases ds with
  | nil=>cases l;exact ⟨rfl,q _ _ _ _ (.refl H) rl h⟩
  | cons=>cases hl⟩
theorem c5 (i:Nat)(hN:X.N.Nodup)(h2:LGs X es is)(hi:X.N[i]? = some x:=by rfl)(hx:Loc X.env.scope x:=by first | exact Or.inl rfl | exact Or.inr rfl)(hf:X.fn x=true∨X.env.scope.names.lookup x=some .local:=by first | exact .inl rfl | exact .inr rfl | assumption)
    (hs:(assignEach (.Name x pos::es) X.env).map (·.2)=assign (.Name x pos) X.env::(assignEach es X.env).map (·.2):=by rfl):LGs X (.Name x pos::es) (i::is):=by
  obtain ⟨t,pt,st⟩:=h2.ex
  refine ⟨_,tU (ju hN hi hx hf) pt hs,fun σ H ρ μ vs ds k k' rl l hl h q=>?_⟩
  cases l with
  | nil=>cases hl
  | @cons v d vs ds p l=>exact ⟨v,vs,rfl,st _ H _ μ vs ds k k' (rl.set p i) l (by simpa using hl) h q⟩
theorem BL {k:Nat}(hc:X.calm=true)(h:LGs X es is)(hn:(assignEach es X.env).length=is.length:=by rfl)(hst:(assignEach es X.env).findIdx? (·.1)=none:=by rfl):LG X (.Tuple es k pos) (eG is):=by
  obtain ⟨t,pt,st⟩:=h.ex
  refine ⟨_,C9 hc pt hn hst,fun σ H ρ μ v d k k' rl p h q=>?_⟩
  cases p with
  | @tup a xs ds sq l=>exact ⟨a,xs,rfl,sq,by rw[l.length];exact h.1,st σ H ρ μ xs ds k k' rl l h.1 h.2 q⟩
  | _=>exact False.elim h
theorem Ie (he:LE X e Ta)(hG:LG X tg G)(hs:swapsWithSole [tg] e pos.line X.env=pure false:=by rfl)(hw:swappedStores [tg] e X.env=pure none:=by rfl)
    (h1:(assignEach [tg] X.env).map (·.2)=[assign tg X.env]:=by rfl):LS X (.Assign [tg] e pos) (aO Ta G):=by
  obtain ⟨ta,pa,sa⟩:=he.ex
  obtain ⟨g,pg,sg⟩:=hG.ex
  exact ⟨_,AE pa pg hs hw h1,fun σ H ρ μ E E' rl h k=>sa σ H ρ μ _ _ rl h fun v H' d μ' t' m' p' h'=>sg σ H' ρ μ' v d _ _ (rl.go t' m') p' h' (k.go t').nx⟩
end
end
section
open PySem PySem.Spec PyProof.Rows L2
def eS (tp:Bool)(h:Heap)(it a:Addr)(i:Nat):Prop:=match tp with
  | true=>h.IsTupleIter it a i
  | false=>h.IsListIter it a i
def dk (tp:Bool)(h:Heap)(a:Addr)(xs:Array Value):Prop:=match tp with
  | true=>h.IsTuple a xs
  | false=>h.IsList a xs
theorem eS.at {tp:Bool}{h g:Heap}{it a:Addr}{i:Nat}(x:eS tp h it a i)(k:∀ o,h.get? it=some o→g.get? it=some o):eS tp g it a i:=by
  cases tp with
  | true=>obtain ⟨o,e,r⟩:=x;exact ⟨o,k o e,r⟩
  | false=>obtain ⟨o,e,r⟩:=x;exact ⟨o,k o e,r⟩
theorem dk.at {tp:Bool}{h g:Heap}{a:Addr}{xs:Array Value}(x:dk tp h a xs)(k:∀ o,h.get? a=some o→g.get? a=some o):dk tp g a xs:=by
  cases tp with
  | true=>obtain ⟨o,e,r⟩:=x;exact ⟨o,k o e,r⟩
  | false=>obtain ⟨o,e,r⟩:=x;exact ⟨o,k o e,r⟩
theorem eS.ex {tp:Bool}{h:Heap}{it a:Addr}{i:Nat}(x:eS tp h it a i):∃ o,h.get? it=some o∧∃ vs,o.data=.fields vs:=by
  cases tp with
  | true=>obtain ⟨o,e,_,d⟩:=x;exact ⟨o,e,_,d⟩
  | false=>obtain ⟨o,e,_,d⟩:=x;exact ⟨o,e,_,d⟩
section
variable {prog:Program} {w:World} {A:Around} {E:Value→Shared→Prop} {s:Shared}
theorem Af {it t:Addr}{i:Nat}{xs:Array Value}{x:Value}{Q:Value→Shared→Prop}(hi:s.heap.IsTupleIter it t i)(ht:s.heap.IsTuple t xs)(hx:xs[i]? = some x)
    (k:∀ g,g.IsTupleIter it t (i+1)→Heap.SameBut it s.heap g→Q x { s with heap:=g }):wpAny (model prog w) A (Builtin.SmallTypes.nextOf (.ref it)) Q E s:=by
  obtain ⟨ob,gb,cb,db⟩:=id hi
  obtain ⟨ot,gt,_,nt,dt⟩:=ht
  delta Builtin.SmallTypes.nextOf
  refine wpAny_bind (wpAny_callSpecial?_slot (name:=Str.ofString "__next__") hi.typeIs F.slot_tuple_iterator_next (wpAny_call_entry F.slot_tuple_iterator_next hi.typeIs F.entry_tuple_iterator_next ?_ (F.args_tuple_iterator_next_1 _)))
  refine wpAny_bind (m:=field (.ref it) 0) (wpAny_field gb db (x:=.ref t) rfl ?_)
  refine (show wpAny _ _ (if (Value.ref t == Value.none)=true then _ else _) _ _ s from ?_)
  rw[if_neg (show ¬ ((Value.ref t == Value.none)=true) by intro z;cases z)]
  refine wpAny_bind (m:=field (.ref it) 1) (wpAny_field gb db (x:=.int i 0) rfl ?_)
  refine wpAny_bind (m:=seqItems? (.ref t)) (wpAny_seqItems gt dt ?_)
  simp only[hx,Int.toNat_natCast]
  refine wpAny_bind (wpAny_setField gb db (by simp) (wpAny_pure ⟨x,rfl,wpAny_pure (k _ ⟨_,Heap.get?_update_self _ gb (Obj.isFreed_of_fields (Obj.data_mapFields db _)),(Obj.cls_mapFields ..).trans cb,?_⟩ (Heap.SameBut.update ..))⟩))
  rw[Obj.data_mapFields db];simp[rawInt]
theorem lK {tp:Bool}{it a:Addr}{i:Nat}{xs:Array Value}{x:Value}{Q:Value→Shared→Prop}(hi:eS tp s.heap it a i)(hs:dk tp s.heap a xs)(hx:xs[i]? = some x)
    (k:∀ g,eS tp g it a (i+1)→Heap.SameBut it s.heap g→Q x { s with heap:=g }):wpAny (model prog w) A (Builtin.SmallTypes.nextOf (.ref it)) Q E s:=by
  cases tp with
  | true=>exact Af hi hs hx k
  | false=>exact wpAny_nextOf_list_item hi hs hx k
theorem Dr {it t:Addr}{i:Nat}{xs:Array Value}{Q:Value→Shared→Prop}(hh:A.handled=none)(hi:s.heap.IsTupleIter it t i)(ht:s.heap.IsTuple t xs)(hx:xs[i]? = none)
    (k:∀ g e,Heap.ExtBut it s.heap g→(∃ o,g.get? e=some o∧o.cls=.type "StopIteration")→E (.ref e) { s with heap:=g }):wpAny (model prog w) A (Builtin.SmallTypes.nextOf (.ref it)) Q E s:=by
  obtain ⟨ob,gb,cb,db⟩:=id hi
  obtain ⟨ot,gt,_,nt,dt⟩:=ht
  delta Builtin.SmallTypes.nextOf
  refine wpAny_bind (wpAny_callSpecial?_slot (name:=Str.ofString "__next__") hi.typeIs F.slot_tuple_iterator_next (wpAny_call_entry F.slot_tuple_iterator_next hi.typeIs F.entry_tuple_iterator_next ?_ (F.args_tuple_iterator_next_1 _)))
  refine wpAny_bind (m:=field (.ref it) 0) (wpAny_field gb db (x:=.ref t) rfl ?_)
  refine (show wpAny _ _ (if (Value.ref t == Value.none)=true then _ else _) _ _ s from ?_)
  rw[if_neg (show ¬ ((Value.ref t == Value.none)=true) by intro z;cases z)]
  refine wpAny_bind (m:=field (.ref it) 1) (wpAny_field gb db (x:=.int i 0) rfl ?_)
  refine wpAny_bind (m:=seqItems? (.ref t)) (wpAny_seqItems gt dt ?_)
  simp only[hx,Int.toNat_natCast]
  refine wpAny_bind (wpAny_rule (wpAny_bind (wpAny_setField gb db (by simp) (wpAny_bind (m:=newExc (.type "StopIteration") []) ?_))))
  simp only[newExc,newTuple]
  refine wpAny_bind (wpAny_newObj_type (wpAny_bind (m:=firstArgMember _ _) (wpAny_of_eq (a:=Value.none) (by first | rfl | (simp only[firstArgMember];rfl)) (wpAny_newObj_type ?_ (by size_fits)))) (by size_fits))
  simp only[raiseNew]
  refine wpAny_bind <| wpAny_handled ?_
  rw[(show A.in1.handled=none from hh)]
  exact wpAny_bind (wpAny_pure (wpAny_throw (k _ _ (((Heap.SameBut.update ..).extBut.push _).push _) ⟨_,Heap.get?_push_size _ rfl,rfl⟩)))
theorem vY {tp:Bool}{it a:Addr}{i:Nat}{xs:Array Value}{Q:Value→Shared→Prop}(hh:A.handled=none)(hi:eS tp s.heap it a i)(hs:dk tp s.heap a xs)(hx:xs[i]? = none)
    (k:∀ g e,Heap.ExtBut it s.heap g→(∃ o,g.get? e=some o∧o.cls=.type "StopIteration")→E (.ref e) { s with heap:=g }):wpAny (model prog w) A (Builtin.SmallTypes.nextOf (.ref it)) Q E s:=by
  cases tp with
  | true=>exact Dr hh hi hs hx k
  | false=>exact wpAny_nextOf_list_end hh hi hs hx k
structure Zp (z ti to i j a b:Addr):Prop where
  nd:[z,ti,to,i,j].Nodup
  na:a ∉ [z,to,i,j]
  nb:b ∉ [z,to,i,j]
structure ZAt (ta tb:Bool) (h:Heap) (z ti to i j a b:Addr) (k:Nat):Prop where
  zz:PySem.IsZip h z ti to .none
  zt:PySem.IsPair h ti (.ref i) (.ref j)
  zo:∃ u v,PySem.IsPair h to u v
  zi:eS ta h i a k
  zj:eS tb h j b k
theorem zf {ta tb:Bool}{z ti to i j a b:Addr}{k:Nat}{xs ys:Array Value}{x y:Value}{Q:Option Value→Shared→Prop}(Z:Zp z ti to i j a b)(S:ZAt ta tb s.heap z ti to i j a b k)(ha:dk ta s.heap a xs)(hb:dk tb s.heap b ys)(hx:xs[k]? = some x)(hy:ys[k]? = some y)
    (q:∀ g,PySem.IsZip g z ti to (rawInt s.heap.objs.size)→PySem.IsPair g ti (.ref i) (.ref j)→PySem.IsPair g to x y→eS ta g i a (k+1)→eS tb g j b (k+1)→PySem.IsPair g s.heap.objs.size x y→
      (∀ c o,c≠z→c≠to→c≠i→c≠j→s.heap.get? c=some o→g.get? c=some o)→Q (some (.ref s.heap.objs.size)) { s with heap:=g }):wpAny (model prog w) A (pyNext (.ref z)) Q E s:=by
  obtain ⟨zz,zt,⟨u,v,zo⟩,zi,zj⟩:=S
  obtain ⟨nd,na,nb⟩:=Z
  simp only[List.nodup_cons,List.mem_cons,List.not_mem_nil,or_false,not_or] at nd na nb
  obtain ⟨⟨n1,n2,n3,n4⟩,⟨n5,n6,n7⟩,⟨n8,n9⟩,n10,_⟩:=nd
  obtain ⟨a1,a2,a3,a4⟩:=na
  obtain ⟨b1,b2,b3,b4⟩:=nb
  have hT:s.TypeIs (.ref z) "zip" := ⟨_,zz,rfl⟩
  unfold pyNext
  refine wpAny_bind (wpAny_attempt (wpAny_callSpecial?_slot (name:=Str.ofString "__next__") hT F.slot_zip_next (wpAny_call_entry F.slot_zip_next hT F.entry_zip_next ?_ (F.args_zip_next_1 _))))
  refine wpAny_bind (m:=field (.ref z) 2) (wpAny_field zz rfl (x:=.bool false) rfl ?_)
  refine wpAny_bind (m:=field (.ref z) 3) (wpAny_field zz rfl (x:=.ref ti) rfl (wpAny_bind (wpAny_seqItems zt rfl (wpAny_bind (m:=Builtin.SmallTypes.ownedTupleIsFree (.ref z)) ?_))))
  delta Builtin.SmallTypes.ownedTupleIsFree
  refine wpAny_bind (wpAny_field zz rfl (x:=.none) rfl (wpAny_pure ?_))
  simp only[if_true]
  refine wpAny_bind (wpAny_rule (wpAny_bind (wpAny_field zz rfl (x:=.ref to) rfl (wpAny_bind (wpAny_setField_rec zz (by simp) fun g1 zz1 k1=>wpAny_bind ?_)))))
  have zz1:PySem.IsZip g1 z ti to .ellipsis:=zz1
  simp only[List.zipIdx_nil,List.zipIdx_cons,List.forIn_nil,List.forIn_cons]
  refine wpAny_bind (wpAny_bind (wpAny_onRaise (wpAny_bind (m:=Builtin.SmallTypes.nextOf (.ref i)) (lK (s:={ s with heap:=g1 }) (zi.at fun o e=>(k1.2 i (Ne.symm n3)).trans e) (ha.at fun o e=>(k1.2 a a1).trans e) hx fun g2 zi2 k2=>wpAny_pure ?_))))
  have zo2:PySem.IsPair g2 to u v:=(k2.2 to n8).trans ((k1.2 to (Ne.symm n2)).trans zo)
  refine wpAny_bind (wpAny_seqItems zo2 rfl (wpAny_bind (PySem.wpAny_updateSeq_pair zo2 fun g3 zo3 k3=>wpAny_bind (wpAny_letGo (wpAny_pure ?_)))))
  have zo3:PySem.IsPair g3 to x v:=zo3
  refine wpAny_bind (wpAny_bind (wpAny_onRaise (wpAny_bind (m:=Builtin.SmallTypes.nextOf (.ref j)) (lK (s:={ s with heap:=g3 }) (zj.at fun o e=>(k3.2 j (Ne.symm n9)).trans ((k2.2 j (Ne.symm n10)).trans ((k1.2 j (Ne.symm n4)).trans e)))
    (hb.at fun o e=>(k3.2 b b2).trans ((k2.2 b b3).trans ((k1.2 b b1).trans e))) hy fun g4 zj4 k4=>wpAny_pure ?_))))
  have zo4:PySem.IsPair g4 to x v:=(k4.2 to n9).trans zo3
  refine wpAny_bind (wpAny_seqItems zo4 rfl (wpAny_bind (PySem.wpAny_updateSeq_pair zo4 fun g5 zo5 k5=>wpAny_bind (wpAny_letGo (wpAny_pure (wpAny_pure ?_))))))
  have zo5:PySem.IsPair g5 to x y:=zo5
  refine wpAny_bind (wpAny_seqItems zo5 rfl (wpAny_bind (wpAny_newTuple (wpAny_bind (m:=Builtin.SmallTypes.ownedTupleHandOut (.ref z) (.ref g5.objs.size)) ?_))))
  have sz:g5.objs.size=s.heap.objs.size:=by rw[k5.1,k4.1,k3.1,k2.1,k1.1]
  have zz5:PySem.IsZip g5 z ti to .ellipsis:=(k5.2 z n2).trans ((k4.2 z n4).trans ((k3.2 z n2).trans ((k2.2 z n3).trans zz1)))
  have zlt:z < g5.objs.size:=Heap.lt_size zz5
  delta Builtin.SmallTypes.ownedTupleHandOut
  have zz6:PySem.IsZip (g5.push { cls:=.type "tuple", data:=.seq #[x,y] }) z ti to .ellipsis:=Heap.get?_push_of_some _ zz5
  refine wpAny_bind (wpAny_setField_rec zz6 (by simp) fun g7 zz7 k7=>?_)
  have zz7:PySem.IsZip g7 z ti to (rawInt g5.objs.size):=zz7
  refine wpAny_setField_rec zz7 (by simp) fun g8 zz8 k8=>wpAny_pure ⟨_,rfl,wpAny_pure ?_⟩
  have up5:∀ c o,c≠z→g5.get? c=some o→g8.get? c=some o:=fun c o c1 e=>(k8.2 c c1).trans ((k7.2 c c1).trans (Heap.get?_push_of_some _ e))
  have Kc:PySem.IsPair g8 g5.objs.size x y:=(k8.2 _ (Nat.ne_of_gt zlt)).trans ((k7.2 _ (Nat.ne_of_gt zlt)).trans (Heap.get?_push_size _ rfl))
  have zz8:PySem.IsZip g8 z ti to (rawInt g5.objs.size):=zz8
  rw[sz] at zz8 Kc
  have all:∀ c o,c≠z→c≠to→c≠i→c≠j→s.heap.get? c=some o→g8.get? c=some o:=fun c o c1 c2 c3 c4 e=>up5 c o c1 ((k5.2 c c2).trans ((k4.2 c c4).trans ((k3.2 c c2).trans ((k2.2 c c3).trans ((k1.2 c c1).trans e)))))
  have fin:=q g8 zz8 (all ti _ (Ne.symm n1) n5 n6 n7 zt) (up5 to _ (Ne.symm n2) zo5) (zi2.at fun o e=>up5 i o (Ne.symm n3) ((k5.2 i (Ne.symm n8)).trans ((k4.2 i n10).trans ((k3.2 i (Ne.symm n8)).trans e)))) (zj4.at fun o e=>up5 j o (Ne.symm n4) ((k5.2 j (Ne.symm n9)).trans e)) Kc all
  rw[← sz] at fin
  exact fin
theorem Ay {ta tb:Bool}{z ti to i j a b:Addr}{k:Nat}{xs ys:Array Value}{Q:Option Value→Shared→Prop}(hh:A.handled=none)(Z:Zp z ti to i j a b)(S:ZAt ta tb s.heap z ti to i j a b k)(ha:dk ta s.heap a xs)(hb:dk tb s.heap b ys)(he:xs[k]? = none∨ys[k]? = none)
    (q:∀ g,(∀ c o,c≠z→c≠to→c≠i→c≠j→s.heap.get? c=some o→g.get? c=some o)→Q none { s with heap:=g }):wpAny (model prog w) A (pyNext (.ref z)) Q E s:=by
  obtain ⟨zz,zt,⟨u,v,zo⟩,zi,zj⟩:=S
  obtain ⟨nd,na,nb⟩:=Z
  simp only[List.nodup_cons,List.mem_cons,List.not_mem_nil,or_false,not_or] at nd na nb
  obtain ⟨⟨n1,n2,n3,n4⟩,⟨n5,n6,n7⟩,⟨n8,n9⟩,n10,_⟩:=nd
  obtain ⟨a1,a2,a3,a4⟩:=na
  obtain ⟨b1,b2,b3,b4⟩:=nb
  have hT:s.TypeIs (.ref z) "zip" := ⟨_,zz,rfl⟩
  have stop:∀ g e,(∃ o,g.get? e=some o∧o.cls=.type "StopIteration")→(∀ c o,c≠z→c≠to→c≠i→c≠j→s.heap.get? c=some o→g.get? c=some o)→
      wpAny (model prog w) A (isInstance (.ref e) (.type "StopIteration") >>= fun y=>if y=true then pure none else throw (.ref e)) Q E { s with heap:=g }:=fun g e ⟨o,ho,hc⟩ al=>by
    refine wpAny_bind <| wpAny_isInstance (T := "StopIteration") (b:=true) ⟨o,ho,hc⟩ isSubtype_stop ?_
    exact wpAny_pure (q g al)
  unfold pyNext
  refine wpAny_bind (wpAny_attempt (wpAny_callSpecial?_slot (name:=Str.ofString "__next__") hT F.slot_zip_next (wpAny_call_entry F.slot_zip_next hT F.entry_zip_next ?_ (F.args_zip_next_1 _))))
  refine wpAny_bind (m:=field (.ref z) 2) (wpAny_field zz rfl (x:=.bool false) rfl ?_)
  refine wpAny_bind (m:=field (.ref z) 3) (wpAny_field zz rfl (x:=.ref ti) rfl (wpAny_bind (wpAny_seqItems zt rfl (wpAny_bind (m:=Builtin.SmallTypes.ownedTupleIsFree (.ref z)) ?_))))
  delta Builtin.SmallTypes.ownedTupleIsFree
  refine wpAny_bind (wpAny_field zz rfl (x:=.none) rfl (wpAny_pure ?_))
  simp only[if_true]
  refine wpAny_bind (wpAny_rule (wpAny_bind (wpAny_field zz rfl (x:=.ref to) rfl (wpAny_bind (wpAny_setField_rec zz (by simp) fun g1 zz1 k1=>wpAny_bind ?_)))))
  have zz1:PySem.IsZip g1 z ti to .ellipsis:=zz1
  simp only[List.zipIdx_nil,List.zipIdx_cons,List.forIn_nil,List.forIn_cons]
  have zi1:eS ta g1 i a k:=zi.at fun o e=>(k1.2 i (Ne.symm n3)).trans e
  have ha1:dk ta g1 a xs:=ha.at fun o e=>(k1.2 a a1).trans e
  refine wpAny_bind (wpAny_bind (wpAny_onRaise (wpAny_bind (m:=Builtin.SmallTypes.nextOf (.ref i)) ?_)))
  cases hx:xs[k]? with
  | none=>
    refine vY (s:={ s with heap:=g1 }) hh zi1 ha1 hx fun g2 e k2 he2=>?_
    obtain ⟨oe,ge,ce⟩:=he2
    have zz2:PySem.IsZip g2 z ti to .ellipsis:=k2 z _ n3 zz1
    have ez:e≠z:=fun y=>by subst y;rw[zz2] at ge;cases ge;simp at ce
    refine wpAny_setField_rec zz2 (by simp) fun g3 _ k3=>stop g3 e ⟨oe,(k3.2 e ez).trans ge,ce⟩ fun c o c1 _ c3 _ y=>(k3.2 c c1).trans (k2 c o c3 ((k1.2 c c1).trans y))
  | some x=>
    have hy:ys[k]? = none:=by rcases he with h | h;rw[hx] at h;cases h;exact h
    refine lK (s:={ s with heap:=g1 }) zi1 ha1 hx fun g2 zi2 k2=>wpAny_pure ?_
    have zo2:PySem.IsPair g2 to u v:=(k2.2 to n8).trans ((k1.2 to (Ne.symm n2)).trans zo)
    refine wpAny_bind (wpAny_seqItems zo2 rfl (wpAny_bind (PySem.wpAny_updateSeq_pair zo2 fun g3 zo3 k3=>wpAny_bind (wpAny_letGo (wpAny_pure ?_)))))
    refine wpAny_bind (wpAny_bind (wpAny_onRaise (wpAny_bind (m:=Builtin.SmallTypes.nextOf (.ref j)) (vY (s:={ s with heap:=g3 }) hh (zj.at fun o e=>(k3.2 j (Ne.symm n9)).trans ((k2.2 j (Ne.symm n10)).trans ((k1.2 j (Ne.symm n4)).trans e)))
      (hb.at fun o e=>(k3.2 b b2).trans ((k2.2 b b3).trans ((k1.2 b b1).trans e))) hy fun g4 e k4 he4=>?_))))
    obtain ⟨oe,ge,ce⟩:=he4
    have zz4:PySem.IsZip g4 z ti to .ellipsis:=k4 z _ n4 ((k3.2 z n2).trans ((k2.2 z n3).trans zz1))
    have ez:e≠z:=fun y=>by subst y;rw[zz4] at ge;cases ge;simp at ce
    refine wpAny_setField_rec zz4 (by simp) fun g5 _ k5=>stop g5 e ⟨oe,(k5.2 e ez).trans ge,ce⟩ fun c o c1 c2 c3 c4 y=>(k5.2 c c1).trans (k4 c o c4 ((k3.2 c c2).trans ((k2.2 c c3).trans ((k1.2 c c1).trans y))))
abbrev itO (tp:Bool)(a:Addr):Obj:={ cls:=.type (match tp with | true => "tuple_iterator" | false => "list_iterator"),data:=.fields #[.ref a,.int 0 0] }
theorem EW {tp:Bool}{a:Addr}{xs:Array Value}{Q:Value→Shared→Prop}(h:dk tp s.heap a xs)(q:Q (.ref s.heap.objs.size) { s with heap:=s.heap.push (itO tp a) }):wpAny (model prog w) A (pyIter (.ref a)) Q E s:=by
  cases tp with
  | true=>exact wpAny_pyIter_tuple h q
  | false=>exact wpAny_pyIter_list h q
abbrev zg1 (ta:Bool)(h:Heap)(a:Addr):Heap:=h.push (itO ta a)
abbrev zg2 (ta tb:Bool)(h:Heap)(a b:Addr):Heap:=(zg1 ta h a).push (itO tb b)
abbrev zg3 (ta tb:Bool)(h:Heap)(a b:Addr):Heap:=(zg2 ta tb h a b).push { cls:=.type "tuple", data:=.seq #[.ref h.objs.size,.ref (zg1 ta h a).objs.size] }
abbrev zg4 (ta tb:Bool)(h:Heap)(a b:Addr):Heap:=(zg3 ta tb h a b).push { cls:=.type "tuple", data:=.seq #[.none,.none] }
abbrev zg5 (ta tb:Bool)(h:Heap)(a b:Addr):Heap:=(zg4 ta tb h a b).push { cls:=.type "zip", data:=.fields #[.none,.bool false,.bool false,.ref (zg2 ta tb h a b).objs.size,.ref (zg3 ta tb h a b).objs.size] }
theorem Aq (ta tb:Bool)(a b:Addr)(xs ys:Array Value):Meets (Builtin.«zip.__new__» ⟨[.type "zip", .ref a,.ref b],[]⟩) (fun _ R s=>dk ta s.heap a xs∧dk tb s.heap b ys∧R (.ok (.ret (.ref (zg4 ta tb s.heap a b).objs.size))) { s with heap:=zg5 ta tb s.heap a b }):=
  .of_wp fun prog w A R s h=>by
    rcases s with ⟨hp,g,d,tk,os⟩
    obtain ⟨h1,h2,h⟩:=h
    have hs0:=PySem.sub_zip
    have H1:dk ta (Shared.heap ⟨hp,g,d,tk,os⟩) a xs:=h1
    have H2:dk tb (Shared.heap ⟨hp.push (itO ta a),g,d,tk,os⟩) b ys:=dk.at h2 fun o e=>Heap.get?_push_of_some _ e
    wp_walk using EW H1,EW H2
    exact ⟨_,rfl,h⟩
theorem zb {ta tb:Bool}{a b:Addr}{xs ys:Array Value}{Q:Value→Shared→Prop}(h1:dk ta s.heap a xs)(h2:dk tb s.heap b ys)
    (q:∀ g,ZAt ta tb g (s.heap.objs.size+4) (s.heap.objs.size+2) (s.heap.objs.size+3) s.heap.objs.size (s.heap.objs.size+1) a b 0→(∀ c o,s.heap.get? c=some o→g.get? c=some o)→Q (.ref (s.heap.objs.size+4)) { s with heap:=g }) :
    wpAny (model prog w) A (call (.type "zip") [.ref a,.ref b]) Q E s:=by
  refine callType_new F.called_zip (by decide) (F.typeCall_zip_2 _ _) (F.newCall_zip_2 _ _) (fun obj=>F.args_object_init_3 obj _ _) F.entry_zip_new (Aq ta tb a b xs ys) ⟨h1,h2,?_⟩
  have s1:(zg1 ta s.heap a).objs.size=s.heap.objs.size+1:=Heap.size_push ..
  have s2:(zg2 ta tb s.heap a b).objs.size=s.heap.objs.size+2:=by rw[Heap.size_push,s1]
  have s3:(zg3 ta tb s.heap a b).objs.size=s.heap.objs.size+3:=by rw[Heap.size_push,s2]
  have s4:(zg4 ta tb s.heap a b).objs.size=s.heap.objs.size+4:=by rw[Heap.size_push,s3]
  have p5:(zg5 ta tb s.heap a b).get? (zg4 ta tb s.heap a b).objs.size=some _:=Heap.get?_push_size _ rfl
  have p4:(zg5 ta tb s.heap a b).get? (zg3 ta tb s.heap a b).objs.size=some _:=Heap.get?_push_of_some _ (Heap.get?_push_size _ rfl)
  have p3:(zg5 ta tb s.heap a b).get? (zg2 ta tb s.heap a b).objs.size=some _:=Heap.get?_push_of_some _ (Heap.get?_push_of_some _ (Heap.get?_push_size _ rfl))
  have p2:(zg5 ta tb s.heap a b).get? (zg1 ta s.heap a).objs.size=some (itO tb b):=Heap.get?_push_of_some _ (Heap.get?_push_of_some _ (Heap.get?_push_of_some _ (Heap.get?_push_size _ rfl)))
  have p1:(zg5 ta tb s.heap a b).get? s.heap.objs.size=some (itO ta a):=Heap.get?_push_of_some _ (Heap.get?_push_of_some _ (Heap.get?_push_of_some _ (Heap.get?_push_of_some _ (Heap.get?_push_size _ rfl))))
  have i1:eS ta (zg5 ta tb s.heap a b) s.heap.objs.size a 0:=by cases ta<;>exact ⟨_,p1,rfl,rfl⟩
  have i2:eS tb (zg5 ta tb s.heap a b) (zg1 ta s.heap a).objs.size b 0:=by cases tb<;>exact ⟨_,p2,rfl,rfl⟩
  show _∧_
  rw[s2,s3,s4] at p5
  rw[s1,s2] at p3
  rw[s3] at p4
  rw[s1] at i2
  rw[s4]
  exact ⟨⟨_,p5,rfl⟩,q _ ⟨p5,p3,⟨_,_,p4⟩,i1,i2⟩ fun c o x=>Heap.get?_push_of_some _ (Heap.get?_push_of_some _ (Heap.get?_push_of_some _ (Heap.get?_push_of_some _ (Heap.get?_push_of_some _ x))))⟩
end
def Sq (tp:Bool)(K:PySem.W.Frag)(H:Hp)(a:Addr)(xs:List V):Prop:=match tp with
  | true=>SqT K H a xs
  | false=>SqF K H a xs
theorem Inv.sq {X:Cx}{pins:List (Addr×Obj)}{σ:L2.St}{H:Hp}{s:Shared}{tp:Bool}{a:Addr}{xs:List V}(I:Inv X pins σ H s)(h:Sq tp X.K H a xs):∃ its:List Value,Vals xs its∧dk tp s.heap a its.toArray:=by
  cases tp with
  | true=>obtain ⟨its,r,p,_⟩:=I.tuple h;exact ⟨its,r,p⟩
  | false=>
    obtain ⟨its,r,⟨o,n,e1,e2,_,e3⟩,_⟩:=I.list (SqF.sq h)
    exact ⟨its,r,o,e1,e2,n,e3⟩
theorem Inv.ve {X:Cx}{pins:List (Addr×Obj)}{σ:L2.St}{H:Hp}{s:Shared}{tp:Bool}{a:Addr}{xs ys:List V}(I:Inv X pins σ H s)(h:Sq tp X.K H a xs)(h':Sq tp X.K H a ys):xs=ys:=by
  cases tp with
  | true=>exact I.qv h h'
  | false=>exact I.sD (SqF.sq h) (SqF.sq h')
def Itz (ta tb:Bool)(K:PySem.W.Frag)(a b:Addr):It:=
  ⟨fun i H=>∃ xs ys x y,Sq ta K H a xs∧Sq tb K H b ys∧xs[i]? = some x∧ys[i]? = some y,
   fun i H v H'=>∃ x y p,(∀ xs,Sq ta K H a xs→xs[i]? = some x)∧(∀ ys,Sq tb K H b ys→ys[i]? = some y)∧v=.ref p∧H p=none∧H'=L2.upd H p (.tup [x,y]),
   fun i H=>∃ xs ys,Sq ta K H a xs∧Sq tb K H b ys∧(xs.length≤i∨ys.length≤i)⟩
theorem B0 {P:Program}{w:World}{K:PySem.W.Frag}{es:List Expr}{ek:Nat}{ep:Pos}{ta tb:Bool}{z ti to i j a b:Addr}(Z:Zp z ti to i j a b) :
    Turn P w K (.Tuple es ek ep) (Itz ta tb K a b) [z,ti,to,i,j] z (fun k h=>ZAt ta tb h z ti to i j a b k) where
  mem:=by simp
  obj:=fun k h S c hc=>by
    obtain ⟨zz,zt,⟨u,v,zo⟩,zi,zj⟩:=S
    simp only[List.mem_cons,List.not_mem_nil,or_false] at hc
    rcases hc with rfl | rfl | rfl | rfl | rfl
    · exact ⟨_,zz,fun v y=>by cases y⟩
    · exact ⟨_,zt,fun v y=>by cases y⟩
    · exact ⟨_,zo,fun v y=>by cases y⟩
    · obtain ⟨o,e,vs,d⟩:=zi.ex;exact ⟨o,e,fun v y=>by rw[d] at y;cases y⟩
    · obtain ⟨o,e,vs,d⟩:=zj.ex;exact ⟨o,e,fun v y=>by rw[d] at y;cases y⟩
  keep:=fun k h g S kp=>by
    obtain ⟨zz,zt,⟨u,v,zo⟩,zi,zj⟩:=S
    exact ⟨kp z (by simp) _ zz,kp ti (by simp) _ zt,⟨u,v,kp to (by simp) _ zo⟩,zi.at fun o e=>kp i (by simp) o e,zj.at fun o e=>kp j (by simp) o e⟩
  item:=by
    intro X hP hw hK hc k pins s σ H E I hf S hg
    subst hP hw hK
    obtain ⟨xs,ys,x,y,qa,qb,ex,ey⟩:=hg
    obtain ⟨ia,ra,sa⟩:=Inv.sq I qa
    obtain ⟨ib,rb,sb⟩:=Inv.sq I qb
    obtain ⟨ux,hux,rx⟩:=ra.get ex
    obtain ⟨uy,huy,ry⟩:=rb.get ey
    refine zf Z S sa sb (x:=ux) (y:=uy) (by simpa using hux) (by simpa using huy) fun g zz zt zo zi zj new al=>⟨_,rfl,wpAny_letOwnedTupleGo_zip zz fun g2 zz2 k2=>?_⟩
    have nd:=Z.nd
    simp only[List.nodup_cons,List.mem_cons,List.not_mem_nil,or_false,not_or] at nd
    obtain ⟨⟨n1,n2,n3,n4⟩,_⟩:=nd
    have zlt:z < s.heap.objs.size:=Heap.lt_size S.zz
    have fr:H s.heap.objs.size=none:=I.hok.fresh (Nat.le_refl _)
    have new2:PySem.IsPair g2 s.heap.objs.size ux uy:=(k2.2 _ (Nat.ne_of_gt zlt)).trans new
    have all:∀ c o,c ∉ [z,ti,to,i,j]→s.heap.get? c=some o→g2.get? c=some o:=fun c o hc e=>by
      simp only[List.mem_cons,List.not_mem_nil,or_false,not_or] at hc
      exact (k2.2 c hc.1).trans (al c o hc.1 hc.2.2.1 hc.2.2.2.1 hc.2.2.2.2 e)
    have nfp:∀ c u,H c=some u→c ∉ [z,ti,to,i,j]:=fun c u e hc=>by rw[(hf c hc).1] at e;cases e
    refine ⟨.ref s.heap.objs.size,L2.upd H s.heap.objs.size (.tup [x,y]),?_,rfl,⟨x,y,_,fun xs' q=>by rw[Inv.ve I q qa];exact ex,fun ys' q=>by rw[Inv.ve I q qb];exact ey,rfl,fr,rfl⟩,⟨zz2,(k2.2 ti (Ne.symm n1)).trans zt,⟨_,_,(k2.2 to (Ne.symm n2)).trans zo⟩,zi.at fun o e=>(k2.2 i (Ne.symm n3)).trans e,zj.at fun o e=>(k2.2 j (Ne.symm n4)).trans e⟩,fun c hc=>?_⟩
    · refine L2.Inv.step (s:=s) (H:=H) (H':=L2.upd H s.heap.objs.size (.tup [x,y])) (g':=s.gens) (d':=s.drawn) (t':=s.toks) (h':=g2) (ch:=[z,ti,to,i,j]) I (fun c hc=>⟨(hf c hc).2.2.2.1,(hf c hc).2.1,(hf c hc).2.2.2.2.1,(hf c hc).2.2.2.2.2⟩) (fun c o _ _ hc e _=>all c o hc e) (fun c o _ _ hc e _=>⟨o.slots,all c o hc e⟩) (fun c o hc e n=>?_) (fun c o hc e=>⟨o,all c o hc e⟩)
        (fun c xs e=>?_) (fun c o u e=>?_) (fun c ps e=>⟨#[],?_⟩) (fun m hm=>?_) (fun c u e=>?_) I.bare
      · rw[aA (Nat.ne_of_lt (Heap.lt_size e))];exact n
      · rw[aA (aQ e fr)];exact e
      · rw[aA (aQ e fr)];exact e
      · rw[aA (aQ e fr),e];simp
      · obtain ⟨o,es',ep',ho,r⟩:=hm
        exact ⟨o,es',ep',all _ o (fun hc=>(hf _ hc).2.1 rfl) ho,r⟩
      · by_cases hcT:c=s.heap.objs.size
        · subst hcT
          rw[aE] at e;cases e
          exact ⟨by show 2≤sizeLine;decide,[ux,uy],.cons rx (.cons ry .nil),⟨_,new2⟩⟩
        · rw[aA hcT] at e
          refine (I.hok c u e).jk (fun c' v hc' q=>all c' v ?_ q) (fun c' q=>by rw[aA (aQ q fr)];exact q) fun c' xs q=>by rw[aA (aQ q fr)];exact q
          rcases hc' with rfl | hc'
          · exact nfp _ _ e
          · exact nfp _ _ hc'
    · have hcl:c≠s.heap.objs.size:=by
        obtain ⟨zz,zt,⟨u,v,zo⟩,zi,zj⟩:=S
        simp only[List.mem_cons,List.not_mem_nil,or_false] at hc
        rcases hc with rfl | rfl | rfl | rfl | rfl
        · exact Nat.ne_of_lt (Heap.lt_size zz)
        · exact Nat.ne_of_lt (Heap.lt_size zt)
        · exact Nat.ne_of_lt (Heap.lt_size zo)
        · obtain ⟨o,e,_⟩:=zi.ex;exact Nat.ne_of_lt (Heap.lt_size e)
        · obtain ⟨o,e,_⟩:=zj.ex;exact Nat.ne_of_lt (Heap.lt_size e)
      rw[aA hcl];exact (hf c hc).1
  done:=by
    intro X hP hw hK hc k pins s σ H E I hf S hg
    subst hP hw hK
    obtain ⟨xs,ys,qa,qb,he⟩:=hg
    obtain ⟨ia,ra,sa⟩:=Inv.sq I qa
    obtain ⟨ib,rb,sb⟩:=Inv.sq I qb
    have la:=ra.length
    have lb:=rb.length
    refine Ay (I.ok.hd hc) Z S sa sb (he.imp (fun h=>by simp;omega) fun h=>by simp;omega) fun g al=>⟨rfl,?_⟩
    have all:∀ c o,c ∉ [z,ti,to,i,j]→s.heap.get? c=some o→g.get? c=some o:=fun c o hc e=>by
      simp only[List.mem_cons,List.not_mem_nil,or_false,not_or] at hc
      exact al c o hc.1 hc.2.2.1 hc.2.2.2.1 hc.2.2.2.2 e
    have nfp:∀ c u,H c=some u→c ∉ [z,ti,to,i,j]:=fun c u e hc=>by rw[(hf c hc).1] at e;cases e
    refine L2.Inv.step (s:=s) (H:=H) (H':=H) (g':=s.gens) (d':=s.drawn) (t':=s.toks) (h':=g) (ch:=[z,ti,to,i,j]) I (fun c hc=>⟨(hf c hc).2.2.2.1,(hf c hc).2.1,(hf c hc).2.2.2.2.1,(hf c hc).2.2.2.2.2⟩) (fun c o _ _ hc e _=>all c o hc e) (fun c o _ _ hc e _=>⟨o.slots,all c o hc e⟩) (fun c o hc e n=>n) (fun c o hc e=>⟨o,all c o hc e⟩)
      (fun c xs e=>e) (fun c o u e=>e) (fun c ps e=>⟨#[],by rw[e];simp⟩) (fun m hm=>?_) (fun c u e=>?_) I.bare
    · obtain ⟨o,es',ep',ho,r⟩:=hm
      exact ⟨o,es',ep',all _ o (fun hc=>(hf _ hc).2.1 rfl) ho,r⟩
    · refine (I.hok c u e).jk (fun c' v hc' q=>all c' v ?_ q) (fun c' q=>q) fun c' xs q=>q
      rcases hc' with rfl | hc'
      · exact nfp _ _ e
      · exact nfp _ _ hc'
  self:=fun _ _ _ _ _ S h=>wpAny_pyIter_zip S.zz h
theorem Jz (n a b:Nat)(ha:a < n)(hb:b < n):Zp (n+4) (n+2) (n+3) n (n+1) a b:=by
  refine ⟨?_,?_,?_⟩
  · show ([n+4,n+2,n+3,n,n+1]:List Nat).Nodup
    simp only[List.nodup_cons,List.mem_cons,List.not_mem_nil,or_false,not_or,List.nodup_nil,and_true,not_false_eq_true]
    and_intros<;>omega
  · show a ∉ ([n+4,n+3,n,n+1]:List Nat)
    simp only[List.mem_cons,List.not_mem_nil,or_false,not_or]
    omega
  · show b ∉ ([n+4,n+3,n,n+1]:List Nat)
    simp only[List.mem_cons,List.not_mem_nil,or_false,not_or]
    omega
theorem FQ (n c:Nat)(h:c∈([n+4,n+2,n+3,n,n+1]:List Nat)):n≤c:=by
  simp only[List.mem_cons,List.not_mem_nil,or_false] at h
  omega
section
variable {X:Cx} {ea eb:Expr} {es:List Expr} {ek:Nat} {ep p pos:Pos}
def kQ (tp:Bool)(x:D)(f:List D→Prop):Prop:=match tp,x with
  | true,.tup ds=>f ds
  | false,.ls ds=>f ds
  | _,_=>False
theorem vp {K:PySem.W.Frag}{H:Hp}{tp:Bool}{v:V}{x:D}{f:List D→Prop}(p:Dp K H v x)(h:kQ tp x f):∃ a xs ds,v=.ref a∧Sq tp K H a xs∧DpL K H xs ds∧f ds:=by
  cases tp with
  | true=>cases p with
    | @tup a xs ds q l=>exact ⟨a,xs,ds,rfl,q,l,h⟩
    | _=>exact False.elim h
  | false=>cases p with
    | @ls a xs ds q l=>exact ⟨a,xs,ds,rfl,q,l,h⟩
    | _=>exact False.elim h
theorem Tk.sq {K:PySem.W.Frag}{H H':Hp}{tp:Bool}{a:Addr}{xs:List V}(t:Tk H H')(h:Sq tp K H a xs):Sq tp K H' a xs:=by
  cases tp with
  | true=>exact t.sqT h
  | false=>exact t.sqF h
end
end
section
open PySem PySem.Spec PyProof.Rows L2
def kObj (x:D)(f:Addr→Prop):Prop:=match x with
  | .obj a=>f a
  | _=>False
theorem nM (a:Addr)(f):kObj (.obj a) f=f a:=rfl
section
variable {X:Cx} {o a b c e:Expr} {To Ta Tb Tc Te T T':ETr} {pos:Pos}
theorem LE.imp (h:LE X e T)(k:∀ ρ μ Q,T' ρ μ Q→T ρ μ Q):LE X e T':=by
  obtain ⟨t,p,s⟩:=h.ex
  exact ⟨t,p,fun σ H ρ μ Q Q' rl hh post=>s σ H ρ μ Q Q' rl (k _ _ _ hh) post⟩
theorem JU {K:PySem.W.Frag}{H:Hp}{μ:Mu}{q:Addr}{u:HO}(m:bA K H μ)(t:Tk H (L2.upd H q u)):bA K (L2.upd H q u) (dn μ q):=fun z y ez=>by
  have zq:z≠q:=fun w=>by subst w;unfold dn at ez;rw[if_pos rfl] at ez;cases ez
  have ez':μ z=some y:=by unfold dn at ez;rw[if_neg zq] at ez;exact ez
  exact (m z _ ez').ne t zq
theorem j8 {H:Hp}{q:Addr}{u:HO}{xs:List V}(ex:H q=some (.lst xs)):Tk H (L2.upd H q u):=
  .upd (fun ys z=>by rw[ex] at z;cases z) fun o' w z=>by rw[ex] at z;cases z
theorem F9 {K:PySem.W.Frag}{H:Hp}{μ:Mu}{q:Addr}{xs ys:List V}{ds:List D}(m:bA K H μ)(ex:H q=some (.lst xs))(l:DpL K H ys ds):bA K (L2.upd H q (.lst ys)) (up μ q (.lst ds)):=fun z y ez=>by
  by_cases zq:z=q
  · subst zq
    rw[aN] at ez;cases ez
    exact ⟨ys,aE,l.mono (j8 ex)⟩
  · rw[aV zq] at ez
    exact (m z _ ez).ne (j8 ex) zq
def vV (T:ETr):ETr:=fun ρ μ Q=>T ρ μ fun x μ1=>kObj x fun a=>kL μ1 a fun ds=>Q (.ls ds) (dn μ1 a)
theorem zZ (h:LE X e T):LE X e (vV T):=by
  obtain ⟨t,p,s⟩:=h.ex
  refine ⟨_,jM p,fun σ H ρ μ Q Q' rl h k=>s σ H ρ μ _ _ rl h fun v H1 d μ1 t1 m1 p1 h1=>?_⟩
  cases p1 with
  | obj q=>
    obtain ⟨ds,e0,h2⟩:=ck h1
    obtain ⟨xs,ex,l⟩:=m1 q _ e0
    refine ⟨q,xs,rfl,ex,fun u=>?_⟩
    have t2:Tk H1 (L2.upd H1 q (.frz u (.lst xs))):=j8 ex
    exact k _ _ _ (dn μ1 q) (t1.trans t2) (JU m1 t2) (.ls (.inl ⟨u,aE⟩) (l.mono t2)) h2
  | _=>exact False.elim h1
def uo (To Te:ETr):ETr:=fun ρ μ Q=>To ρ μ fun x μ1=>kObj x fun a=>kL μ1 a fun _=>Te ρ μ1 fun y μ2=>kL μ2 a fun ds=>ds.length < 1000000∧Q .non (up μ2 a (.lst (ds++[y])))
theorem le_app {apos cpos:Pos}(ho:LE X o To)(he:LE X e Te)
    (hbase:attributeBase o (Str.ofString "append") X.env (eval o X.env)=eval o X.env:=by rfl)
    (hfew:((backTo cpos (starEach [e] X.env)).all (fun x=>!x.1)&&(backToKw cpos (keywordEach [] X.env)).all (fun x=>x.1.isSome)
      && decide ([e].length+([]:List Keyword).length+(if ([]:List Keyword).isEmpty then 0 else 1) < 30))=true:=by rfl)
    (hline:(apos.endLine == cpos.line)=true:=by rfl) (hs:starEach [e] X.env=(false,eval e X.env)::starEach [] X.env:=by rfl) (hplain:(backTo cpos (starEach [] X.env)).any (·.1)=false:=by rfl) :
    LE X (.Call (.Attribute o (Str.ofString "append") apos) [e] [] cpos) (uo To Te):=by
  obtain ⟨to,po,so⟩:=ho.ex
  obtain ⟨te,pe,se⟩:=he.ex
  refine ⟨_,FF PySem.F.plainAttrs_list PySem.F.slot_list_append PySem.F.type_list_append gH po (cS pe gq hs) hbase hfew hline hs hplain,fun σ H ρ μ Q Q' rl h k=>so σ H ρ μ _ _ rl h fun x H1 dx μ1 t1 m1 p1 h1=>?_⟩
  cases p1 with
  | obj q=>
    obtain ⟨ds0,e0,h2⟩:=ck h1
    obtain ⟨xs0,ex0,_⟩:=m1 q _ e0
    refine ⟨.inl ⟨rfl,_,SqL.of ex0⟩,se σ H1 ρ μ1 _ _ (rl.go t1 m1) h2 fun y H2 dy μ2 t2 m2 p2 h3=>?_⟩
    obtain ⟨ds,e1,lz,h4⟩:=ck h3
    obtain ⟨xs,ex,l⟩:=m2 q _ e1
    exact ⟨q,xs,y,rfl,rfl,ex,by rw[l.length];exact Nat.lt_of_lt_of_le lz (by decide),k _ _ _ _ ((t1.trans t2).trans (j8 ex)) (F9 m2 ex (l.append (.cons p2 .nil))) .non h4⟩
  | _=>exact False.elim h1
def dm:FSp:=fun ds μ Q=>match ds with
  | [.tup xs]=>Q (.tup xs) μ
  | [.ls xs]=>Q (.tup xs) μ
  | [.obj a]=>kL μ a fun xs=>Q (.tup xs) μ
  | _=>False
theorem gw {K:PySem.W.Frag}:lj K (fun xs H Q=>∃ p ys,xs=[.ref p]∧((SqL K H p ys∧∀ l,H l=none→Q (.ref l) (L2.upd H l (.tup ys)))∨(SqT K H p ys∧Q (.ref p) H))) dm:=fun H μ xs ds Q Q' m p h k=>by
  unfold dm at h
  split at h
  · cases p with | cons p1 p2=>cases p2;cases p1 with | tup q l=>exact ⟨_,_,rfl,.inr ⟨q,k _ H _ μ (.refl H) m (.tup q l) h⟩⟩
  · cases p with | cons p1 p2=>cases p2;cases p1 with | ls q l=>exact ⟨_,_,rfl,.inl ⟨q.sq,fun z hz=>k _ _ _ μ (.new hz) (cz m hz) (.tup (SqT.of aE) (l.mono (.new hz))) h⟩⟩
  · rename_i q
    cases p with | cons p1 p2=>
    cases p2;cases p1
    obtain ⟨ys,e0,h⟩:=ck h
    obtain ⟨xs,ex,l⟩:=m q _ e0
    exact ⟨_,_,rfl,.inl ⟨SqL.of ex,fun z hz=>k _ _ _ μ (.new hz) (cz m hz) (.tup (SqT.of aE) (l.mono (.new hz))) h⟩⟩
  · exact False.elim h
def vB:FSp:=fun ds μ Q=>match ds with
  | [.tup xs]=>∀ p,μ p=none→Q (.obj p) (up μ p (.lst xs))
  | [.ls xs]=>∀ p,μ p=none→Q (.obj p) (up μ p (.lst xs))
  | [.obj a]=>kL μ a fun xs=>∀ p,μ p=none→Q (.obj p) (up μ p (.lst xs))
  | _=>False
def wK:FSp:=fun ds μ Q=>match ds with
  | [.tup xs]=>Q (.ls xs) μ
  | [.ls xs]=>Q (.ls xs) μ
  | [.obj a]=>kL μ a fun xs=>Q (.ls xs) μ
  | _=>False
def Ka (Q:VK):VK:=fun v H1=>∃ a xs,v=.ref a∧H1 a=some (.lst xs)∧∀ o,Q v (L2.upd H1 a (.frz o (.lst xs)))
theorem qR {K:PySem.W.Frag}{H:Hp}{μ:Mu}{ys:List V}{ds:List D}{Q:DK}{Q':VK}{z:Addr}(m:bA K H μ)(l:DpL K H ys ds)(h:Q (.ls ds) μ)(k:gh K H Q Q')(hz:H z=none):Ka Q' (.ref z) (L2.upd H z (.lst ys)):=
  ⟨z,ys,rfl,aE,fun o=>by
    have e:L2.upd (L2.upd H z (.lst ys)) z (.frz o (.lst ys))=L2.upd H z (.frz o (.lst ys)):=rW
    rw[e]
    exact k _ _ _ μ (.new hz) (cz m hz) (.ls (.inl ⟨o,aE⟩) (l.mono (.new hz))) h⟩
def fD:D→Bool
  | .non=>true
  | .bl _=>true
  | .int _=>true
  | .str _=>true
  | _=>false
def inD (x:D)(xs:List D):Bool:=xs.any fun y=>eqD y x
def rIn (neg:Bool):DR2:=fun x y μ Q=>match y with
  | .tup xs=>(fD x=true∧xs.all fD=true)∧Q (.bl (if neg then !inD x xs else inD x xs)) μ
  | .ls xs=>(fD x=true∧xs.all fD=true)∧Q (.bl (if neg then !inD x xs else inD x xs)) μ
  | .obj a=>kL μ a fun xs=>(fD x=true∧xs.all fD=true)∧Q (.bl (if neg then !inD x xs else inD x xs)) μ
  | _=>False
end
end
section
open PySem PySem.Spec PyProof.Rows L2
section
variable {X:Cx} {a b e:Expr} {Ta Tb T:ETr} {pos:Pos}
def Jx (t:TE):TE:=fun σ H Q=>t σ H fun v H1=>Q v H1∨Ka Q v H1
theorem yq {t:TE}(h:PE X e t):PE X e (Jx t):=by
  have g:PE X e (fun σ H Q=>∃ P:VK,EU t σ H P∧∀ v H',P v H'→Q v H'):=fun pins s σ H Q I ⟨P,hP,k⟩=>
    thn (jM h pins s σ H P I hP) fun u s1 ⟨v,H1,I1,r,q⟩=>⟨v,H1,I1,r,k _ _ q⟩
  intro pins s σ H Q I hh
  refine thn (h pins s σ H _ I hh) fun u s1 ⟨v,H1,I1,r,q⟩=>?_
  rcases q with q | ⟨c,xs,rfl,ec,q⟩
  · exact ⟨v,H1,I1,r,q⟩
  · have hz:=I1.hok c _ ec
    obtain ⟨z,its,n,rv,hg⟩:=hz
    have nl:∀ d o,H1 d=some o→(∀ ys,o≠.lst ys)→d≠c:=fun d o e1 e2 w=>by subst w;rw[ec] at e1;cases e1;exact e2 _ rfl
    refine ⟨.ref c,_,I1.un (h':=s1.heap) (t':=s1.toks) (H':=L2.upd H1 c (.frz { cls:=.type "list", data:=.seq its.toArray n } (.lst xs))) ⟨fun d o e _ _ _=>e,fun d o e _ _ _=>⟨o.slots,e⟩,fun d o e w _=>?_,fun d o e _=>⟨o,e⟩,fun d ys e=>?_,fun d o u e=>?_,fun d ps e=>⟨#[],?_⟩⟩ (fun d u e=>?_),r,q _⟩
    · rw[aA (fun z=>by subst z;rw[ec] at w;cases w)];exact w
    · rw[aA (nl d _ e (fun _=>nofun))];exact e
    · rw[aA (nl d _ e (fun _=>nofun))];exact e
    · rw[aA (nl d _ e (fun _=>nofun)),e];simp
    · by_cases hd:d=c
      · subst hd
        rw[aE] at e;cases e
        exact ⟨hg,z,its,n,rv,hg⟩
      · rw[aA hd] at e
        refine (I1.hok d u e).jk (fun k w _ q=>q) (fun k q=>?_) fun k ys q=>?_
        · rw[aA (nl k _ q (fun _=>nofun))];exact q
        · rw[aA (nl k _ q (fun _=>nofun))];exact q
def FU (K:PySem.W.Frag):R2:=fun x y H Q=>∃ p q ys,x=.ref p∧y=.ref q∧SqT K H p []∧SqT K H q ys∧Q (.ref q) H
theorem Ed:OpR X (binaryOp .Add) (FU X.K):=fun pins s σ H x y v u Q I rx ry ⟨p,q,ys,e1,e2,hp,hq,h⟩=>by
  subst e1 e2
  cases rx
  cases ry
  obtain ⟨its,r1,p1,_⟩:=I.tuple hp
  obtain ⟨its2,r2,p2,_⟩:=I.tuple hq
  cases r1
  obtain ⟨⟨c1,d1,t1,l1⟩,ho,hc,n,hd⟩:=id p1
  obtain ⟨⟨c2,d2,t2,l2⟩,ho2,hc2,n2,hd2⟩:=id p2
  simp only at hc hd hc2 hd2
  subst hc hd hc2 hd2
  exact concat_meets ⟨_,ho,rfl⟩ ⟨_,ho2,rfl⟩ noFill_tuple_add seq_tuple_add PySem.F.slot_tuple_add PySem.F.entry_tuple_add (PySem.F.args_tuple_add_2 _ _)
    (tuple_addW0 p q #[] its2.toArray n n2 d1 d2 l1 l2 rfl) ⟨ho,ho2,⟨.ref q,H,I,rfl,h⟩⟩
def FW (K:PySem.W.Frag):R2:=fun x y H Q=>∃ p q xs ys,x=.ref p∧y=.ref q∧SqL K H p xs∧SqL K H q ys∧xs.length+ys.length≤sizeLine∧∀ z,H z=none→Q (.ref z) (L2.upd H z (.lst (xs++ys)))
theorem ET:OpR X (binaryOp .Add) (FW X.K):=fun pins s σ H x y v u Q I rx ry ⟨p,q,xs,ys,e1,e2,hp,hq,hz,h⟩=>by
  subst e1 e2
  cases rx
  cases ry
  obtain ⟨its,r1,p1,_⟩:=I.list hp
  obtain ⟨its2,r2,p2,_⟩:=I.list hq
  obtain ⟨⟨c1,d1,t1,l1⟩,n,ho,hc,hx,hd⟩:=id p1
  obtain ⟨⟨c2,d2,t2,l2⟩,n2,ho2,hc2,hx2,hd2⟩:=id p2
  simp only at hc hd hc2 hd2
  subst hc hd hc2 hd2
  have z1:=r1.length
  have z2:=r2.length
  refine concat_meets ⟨_,ho,rfl⟩ ⟨_,ho2,rfl⟩ PySem.noFill_list_add PySem.seq_list_add PySem.F.slot_list_add PySem.F.entry_list_add (PySem.F.args_list_add_2 _ _)
    (list_addW p q its.toArray its2.toArray n n2 d1 d2 l1 l2 (by rw[List.size_toArray,List.size_toArray];omega)) ⟨ho,ho2,?_⟩
  have ea:its.toArray++its2.toArray=(its++its2).toArray:=by simp
  rw[ea]
  exact ⟨.ref _,_,I.Lo (t':=s.toks) (r1.append r2) (by rw[List.length_append];omega),rfl,h _ I.fresh⟩
def aK:DR2:=fun x y μ Q=>match x,y with
  | .int i,.int j=>Q (.int (i+j)) μ
  | .str i,.str j=>i.length+j.length≤1000000∧Q (.str (i++j)) μ
  | .tup a,.tup b=>a.length+b.length≤1000000∧Q (.tup (a++b)) μ
  | .ls a,.ls b=>a.length+b.length≤1000000∧Q (.ls (a++b)) μ
  | _,_=>False
def rPl (K:PySem.W.Frag):R2:=fun x y H Q=>(rI0 fun i j=>.int (i+j)) x y H Q∨(∃ i j,x=.str i∧y=.str j∧i.length+j.length≤sizeLine∧Q (.str (i++j)) H)∨Ga K x y H Q∨FU K x y H Q∨FW K x y H Q
theorem DF:OpR X (binaryOp .Add) (rPl X.K):=fun pins s σ H x y v u Q I rx ry h=>by
  rcases h with h | h | h | h | h
  · exact GJ pins s σ H x y v u Q I rx ry h
  · exact vG pins s σ H x y v u Q I rx ry h
  · exact Fy pins s σ H x y v u Q I rx ry h
  · exact Ed pins s σ H x y v u Q I rx ry h
  · exact ET pins s σ H x y v u Q I rx ry h
theorem aD (ha:LE X a Ta)(hb:LE X b Tb):LE X (.BinOp a .Add b pos) (ak aK Ta Tb):=by
  obtain ⟨ta,pa,sa⟩:=ha.ex
  obtain ⟨tb,pb,sb⟩:=hb.ex
  refine ⟨_,yq (FX DF pa pb),fun σ H ρ μ Q Q' rl h k=>sa σ H ρ μ _ _ rl h fun x H1 dx μ1 t1 m1 p1 h1=>sb σ H1 ρ μ1 _ _ (rl.go t1 m1) h1 fun y H2 dy μ2 t2 m2 p2 h2=>?_⟩
  have p1:=p1.mono t2
  have k:=k.go (t1.trans t2)
  cases p1 with
  | int i=>
    cases p2 with
    | int j=>exact .inl ⟨i,j,rfl,rfl,.inl (k _ H2 _ μ2 (.refl H2) m2 (.int _) h2)⟩
    | _=>exact False.elim h2
  | str i=>
    cases p2 with
    | str j=>exact .inr (.inl ⟨i,j,rfl,rfl,big h2.1,.inl (k _ H2 _ μ2 (.refl H2) m2 (.str _) h2.2)⟩)
    | _=>exact False.elim h2
  | @tup q xs ds sq l=>
    cases p2 with
    | @tup q' ys es sq' l'=>
      obtain ⟨hz,h3⟩:=h2
      by_cases hx:xs=[]
      · subst hx
        cases l
        exact .inr (.inr (.inr (.inl ⟨q,q',ys,rfl,rfl,sq,sq',.inl (k _ H2 _ μ2 (.refl H2) m2 (.tup sq' l') h3)⟩)))
      · refine .inr (.inr (.inl ⟨q,q',xs,ys,rfl,rfl,sq,sq',hx,by rw[l.length,l'.length];exact big hz,fun hy=>?_,fun _ z hzn=>.inl ?_⟩))
        · subst hy
          cases l'
          rw[List.append_nil] at h3
          exact .inl (k _ H2 _ μ2 (.refl H2) m2 (.tup sq l) h3)
        · exact k _ _ _ μ2 (.new hzn) (cz m2 hzn) (.tup (SqT.of aE) ((l.append l').mono (.new hzn))) h3
    | _=>exact False.elim h2
  | @ls q xs ds sq l=>
    cases p2 with
    | @ls q' ys es sq' l'=>exact .inr (.inr (.inr (.inr ⟨q,q',xs,ys,rfl,rfl,sq.sq,sq'.sq,by rw[l.length,l'.length];exact big h2.1,fun z hz=>.inr (qR m2 (l.append l') h2.2 k hz)⟩)))
    | _=>exact False.elim h2
  | _=>cases p2<;>exact False.elim h2
abbrev OTr:=ST→Mu→(Option Int→Mu→Prop)→Prop
def ONo:OTr:=fun _ μ Q=>Q none μ
def mP (T:ETr):OTr:=fun ρ μ Q=>T ρ μ fun x μ1=>kI x fun i=>Q (some i) μ1
def Ln (K:PySem.W.Frag)(t:TO)(T:OTr):Prop:=∀ σ H ρ μ (Q:Option Int→Mu→Prop) (Q':Option Int→Hp→Prop),Rl K σ H ρ μ→T ρ μ Q→(∀ i H' μ',Tk H H'→bA K H' μ'→Q i μ'→Q' i H')→t σ H Q'
structure LO (X:Cx) (o:Option Expr) (T:OTr):Prop where
  ex:∃ t,PO X o t∧Ln X.K t T
theorem qu:LO X none ONo:=⟨_,Es,fun σ H ρ μ Q Q' rl h k=>k none H μ (.refl H) rl.mu h⟩
theorem j7 (h:LE X e T):LO X (some e) (mP T):=by
  obtain ⟨t,p,s⟩:=h.ex
  refine ⟨_,DL p,fun σ H ρ μ Q Q' rl h k=>s σ H ρ μ _ _ rl h fun v H1 d μ1 t1 m1 p1 h1=>?_⟩
  cases p1 with
  | int i=>exact ⟨i,rfl,k _ H1 μ1 t1 m1 h1⟩
  | _=>exact False.elim h1
def cutD {α:Type}(xs:List α)(lo hi:Option Int):List α:=(xs.drop (HT.sIx xs.length 0 lo)).take (HT.sIx xs.length xs.length hi - HT.sIx xs.length 0 lo)
theorem wO {α:Type}{xs:List α}{lo hi:Option Int}(h:HT.sIx xs.length 0 lo=0∧HT.sIx xs.length xs.length hi=xs.length):cutD xs lo hi=xs:=by
  unfold cutD;rw[h.1,h.2];simp
theorem DpL.take {K:PySem.W.Frag}{H:Hp}:∀ {vs:List V} {ds:List D} (n:Nat),DpL K H vs ds→DpL K H (vs.take n) (ds.take n)
  | _,_,0,_=>.nil
  | _,_,_+1,.nil=>.nil
  | _,_,n+1,.cons h l=>.cons h (DpL.take n l)
theorem DpL.drop {K:PySem.W.Frag}{H:Hp}:∀ {vs:List V} {ds:List D} (n:Nat),DpL K H vs ds→DpL K H (vs.drop n) (ds.drop n)
  | _,_,0,l=>l
  | _,_,_+1,.nil=>.nil
  | _,_,n+1,.cons _ l=>DpL.drop n l
theorem DpL.cut {K:PySem.W.Frag}{H:Hp}{vs:List V}{ds:List D}(lo hi:Option Int)(l:DpL K H vs ds):DpL K H (uK vs lo hi) (cutD ds lo hi):=by
  unfold uK cutD;rw[l.length];exact (l.drop _).take _
theorem sL {prog:Program}{w:World}{A:Around}{E:Value→Shared→Prop}{s:Shared}{t sl:Addr}{items:Array Value}{vl vu:Value}{lo hi:Option Int}{Q:Value→Shared→Prop}(ht:IsTup s.heap t items)(hs:s.heap.IsSliceOf sl vl vu .none)(pl:IsPart vl lo)(pu:IsPart vu hi)
    (hw:HT.sIx items.size 0 lo=0∧HT.sIx items.size items.size hi=items.size) (h:Q (.ref t) s):wpAny (model prog w) A (getItem (.ref t) (.ref sl)) Q E s:=by
  obtain ⟨os,hos,hcs,hds⟩:=id hs
  have hTs:s.TypeIs (.ref sl) "slice" := ⟨os,hos,hcs⟩
  unfold getItem
  try with_reducible refine wpAny_holding ?_
  first | refine wpAny_bind (wpAny_pure ?_) | skip
  refine wpAny_bind (wpAny_sequenceKey ht.typeIs (by decide) ?_)
  refine wpAny_bind (wpAny_callSpecial?_slot (name:=Str.ofString "__getitem__") ht.typeIs PyProof.Rows.slot_tuple_getitem (wpAny_call_entry PyProof.Rows.slot_tuple_getitem ht.typeIs entry_tuple_getitem ?_ (args_tuple_getitem _ _)))
  show wpAny _ _ (Builtin.Tuple.tupleItemsOf (.ref t) >>= _) _ _ s
  refine wpAny_bind (tupleItemsOf_ ht ?_)
  refine wpAny_bind <| wpAny_typeOf hTs ?_
  rw[if_pos (by decide)]
  refine wpAny_bind (HT.e5 hs pl pu ?_)
  rw[hw.1,hw.2]
  refine (show wpAny _ _ (if (((0:Nat):Int) == 0&&(1:Int) == 1&&(items.size - 0) == items.size)=true then _ else _) _ _ s from ?_)
  rw[if_pos (by simp)]
  unfold Builtin.Tuple.tupleIsExact
  refine wpAny_bind (wpAny_bind (wpAny_typeOf ht.typeIs (wpAny_pure ?_)))
  rw[if_pos (by decide)]
  first
    | exact wpAny_bind (wpAny_rule (wpAny_bind (wpAny_pure (wpAny_pure ⟨_,rfl,wpAny_pure h⟩))))
    | exact wpAny_bind (wpAny_rule (wpAny_pure ⟨_,rfl,wpAny_pure h⟩))
    | exact wpAny_bind (wpAny_bind (wpAny_rule (wpAny_pure (wpAny_pure ⟨_,rfl,wpAny_pure h⟩))))
def LF (K:PySem.W.Frag):V→Option Int→Option Int→Hp→VK→Prop:=fun x lo hi H Q=>∃ a xs,x=.ref a∧SqT K H a xs∧(HT.sIx xs.length 0 lo=0∧HT.sIx xs.length xs.length hi=xs.length)∧Q (.ref a) H
theorem Az:SlR X (LF X.K):=fun pins s σ H x v vl vu lo hi sl Q I rx hs pl pu ⟨q,xs,e,hx,hw,h⟩=>by
  subst e
  cases rx
  obtain ⟨its,r,ht,_⟩:=I.tuple hx
  have hlen:its.toArray.size=xs.length:=by rw[List.size_toArray];exact r.length.symm
  exact ⟨"tuple", _,PyProof.Rows.slot_tuple_getitem.lookup,ht.typeIs,sL ht hs pl pu (by rw[hlen];exact hw) ⟨.ref q,H,I,rfl,h⟩⟩
def rSl:D→Option Int→Option Int→Mu→DK→Prop:=fun x lo hi μ Q=>match x with
  | .tup xs=>Q (.tup (cutD xs lo hi)) μ
  | .ls xs=>Q (.ls (cutD xs lo hi)) μ
  | .obj a=>kL μ a fun xs=>Q (.ls (cutD xs lo hi)) μ
  | _=>False
def TSl (a:ETr)(lo hi:OTr):ETr:=fun ρ μ Q=>a ρ μ fun x μ1=>lo ρ μ1 fun l μ2=>hi ρ μ2 fun h μ3=>rSl x l h μ3 Q
theorem xN {lo hi:Option Expr}{Tl Th:OTr}{p2:Pos}(ha:LE X a Ta)(hl:LO X lo Tl)(hh:LO X hi Th):LE X (.Subscript a (.Slice lo hi none p2) pos) (TSl Ta Tl Th):=by
  obtain ⟨ta,pa,sa⟩:=ha.ex
  obtain ⟨tl,pl,sl⟩:=hl.ex
  obtain ⟨th,ph,sh⟩:=hh.ex
  refine ⟨_,yq (ub (SlR.or Az (SlR.or IL E2)) pa pl ph),fun σ H ρ μ Q Q' rl h k=>sa σ H ρ μ _ _ rl h fun x H1 dx μ1 t1 m1 p1 h1=>sl σ H1 ρ μ1 _ _ (rl.go t1 m1) h1 fun i H2 μ2 t2 m2 h2=>sh σ H2 ρ μ2 _ _ (rl.go (t1.trans t2) m2) h2 fun j H3 μ3 t3 m3 h3=>?_⟩
  have p1:=p1.mono (t2.trans t3)
  have k:=k.go (t1.trans (t2.trans t3))
  cases p1 with
  | @tup q xs ds sq l=>
    by_cases hw:HT.sIx xs.length 0 i=0∧HT.sIx xs.length xs.length j=xs.length
    · refine .inl ⟨q,xs,rfl,sq,hw,.inl (k _ H3 _ μ3 (.refl H3) m3 (.tup sq l) ?_)⟩
      rw[l.length] at hw
      have h3:Q (.tup (cutD ds i j)) μ3:=h3
      rw[wO hw] at h3;exact h3
    · exact .inr (.inl ⟨q,xs,rfl,sq,hw,fun z hz=>.inl (k _ _ _ μ3 (.new hz) (cz m3 hz) (.tup (SqT.of aE) ((l.cut i j).mono (.new hz))) h3)⟩)
  | @ls q xs ds sq l=>exact .inr (.inr ⟨q,xs,rfl,sq.sq,fun z hz=>.inr (qR m3 (l.cut i j) h3 k hz)⟩)
  | obj q=>
    obtain ⟨ds,e0,h4⟩:=ck h3
    obtain ⟨xs,ex,l⟩:=m3 q _ e0
    exact .inr (.inr ⟨q,xs,rfl,SqL.of ex,fun z hz=>.inr (qR m3 (l.cut i j) h4 k hz)⟩)
  | _=>exact False.elim h3
theorem yj {α:Type}(xs:List α)(k:Nat):cutD xs none (some (k:Int))=xs.take k:=by
  unfold cutD
  rw[HT.A5,HT.EB,List.drop_zero,Nat.sub_zero]
  rcases Nat.le_total k xs.length with h | h
  · rw[Nat.min_eq_left h]
  · rw[Nat.min_eq_right h,List.take_length,List.take_of_length_le h]
end
end
section
open PySem PySem.Spec PyProof.Rows L2
theorem DpL.ints_of {K:PySem.W.Frag}{H:Hp}:∀ {xs:List V} {ns:List Int},DpL K H xs (ns.map .int)→xs=ns.map V.int
  | _,[],.nil=>rfl
  | _,n::r,.cons h l=>by cases h;rw[DpL.ints_of l];rfl
end
section
open PySem PySem.Spec PyProof.Rows L2
theorem _root_.L2.Inv.frz {X:Cx}{pins:List (Addr×Obj)}{σ:L2.St}{H:Hp}{s:Shared}{c:Addr}{xs:List V}(I1:Inv X pins σ H s)(ec:H c=some (.lst xs)):∃ o,Inv X pins σ (L2.upd H c (.frz o (.lst xs))) s:=by
  obtain ⟨z,its,n,rv,hg⟩:=I1.hok c _ ec
  have nl:∀ d o,H d=some o→(∀ ys,o≠.lst ys)→d≠c:=fun d o e1 e2 w=>by subst w;rw[ec] at e1;cases e1;exact e2 _ rfl
  refine ⟨_,I1.un (h':=s.heap) (t':=s.toks) (H':=L2.upd H c (.frz { cls:=.type "list", data:=.seq its.toArray n } (.lst xs))) ⟨fun d o e _ _ _=>e,fun d o e _ _ _=>⟨o.slots,e⟩,fun d o e w _=>?_,fun d o e _=>⟨o,e⟩,fun d ys e=>?_,fun d o u e=>?_,fun d ps e=>⟨#[],?_⟩⟩ (fun d u e=>?_)⟩
  · rw[aA (fun z=>by subst z;rw[ec] at w;cases w)];exact w
  · rw[aA (nl d _ e (fun _=>nofun))];exact e
  · rw[aA (nl d _ e (fun _=>nofun))];exact e
  · rw[aA (nl d _ e (fun _=>nofun)),e];simp
  · by_cases hd:d=c
    · subst hd
      rw[aE] at e;cases e
      exact ⟨hg,z,its,n,rv,hg⟩
    · rw[aA hd] at e
      refine (I1.hok d u e).jk (fun k w _ q=>q) (fun k q=>?_) fun k ys q=>?_
      · rw[aA (nl k _ q (fun _=>nofun))];exact q
      · rw[aA (nl k _ q (fun _=>nofun))];exact q
theorem D3 {X:Cx}{tg iter elt:Expr}{ifs:List Expr}{scope:Scope}{pos spos py:Pos}{y:Str}{iy:Nat}{wi:TI}{g:TG}{tt:TT}{te:TE}{Nc:List Str}{n:Nat}{caps:List Nat}
    (hxe:X.xe=fun _ _=>False) (hcalm:X.calm=true) (hi:PI X tg iter wi)
    (hbody:∀ (cl:List (Str×Addr)) (C:Addr) (s₀:Shared) (H₀:Hp) (ex:List Addr),PG (a8 X scope Nc cl C s₀ H₀ ex) tg g∧zp (a8 X scope Nc cl C s₀ H₀ ex) ifs tt∧PE (a8 X scope Nc cl C s₀ H₀ ex) elt te)
    (hfree:∀ y∈scope.names,y.2=.free→X.env.kindOf y.1=some .cell) (hcell:∀ y∈scope.names,y.2≠.cell) (dO:scope.kind=.function)
    (hnames:∀ y∈scope.names,y.2=.local→scope.names.lookup y.1=some .local) (hlen:Nc.length=n+caps.length)
    (hcap:∀ (j k:Nat),caps[j]? = some k→∃ x,Nc[n+j]? = some x∧X.N[k]? = some x∧scope.names.lookup x=some .free)
    (pgy:PG X (.Name y py) (qo iy))
    (hsw:swapsWith (.ListComp elt [⟨tg,iter,ifs,0⟩] scope pos) (some (.Name y py)) spos.line X.env=pure true)
    (hs:∀ x,foldedSetIterable iter X.env x=pure x:=by intro _;rfl) :
    PS X (.Assign [.Name y py] (.ListComp elt [⟨tg,iter,ifs,0⟩] scope pos) spos) (Hb (EU (t9 wi g tt te n caps)) (qo iy)):=by
  intro pins s σ H E' I h
  rw[hxe]
  obtain ⟨cl,hclos,clin,clfree⟩:=iL (scope:=scope) (env:=X.env) fun y hy hf=>I.ok.has y.1 (.inl (hfree y hy hf))
  rewrite [exec_Assign_Name_used _ _ _ _ hsw]
  refine wpAny_bind (wpAny_standAt ?_)
  refine wpAny_bind ?_
  refine (show wpAny _ X.A (do let _ ← comprehension (.ListComp elt [⟨tg,iter,ifs,0⟩] scope pos) scope X.env _ (newList []) false (eval iter X.env) (some (assign (.Name y py) X.env))) _ _ s from ?_)
  refine wpAny_bind (wpAny_mono (wpAny_comprehension_free (use:=some (assign (.Name y py) X.env)) (Q:=fun _ s'=>SP X pins E' .next s') rfl hs hclos dO hnames ?_) (fun _ s' hq=>wpAny_pure (wpAny_pure hq)) fun _ _ e=>e)
  have hi':=hi pins s σ H _ I h
  rw[hxe] at hi'
  refine wpAny_mono hi' (fun xv s1 h1=>wpAny_mono h1 (fun itv s2 h2=>?_) fun _ _ z=>z) fun _ _ z=>z
  obtain ⟨it,fp,tn,J,H1,rfl,I2,T,st2,f2,hh⟩:=h2
  -- the new list
  refine wpAny_newObj_type ?_
  have hD:H1 s2.heap.objs.size=none:=I2.hok.fresh (Nat.le_refl _)
  obtain ⟨W,⟨m0,w0⟩,turn⟩:=hh _ hD
  have I3:Inv X pins σ (L2.upd H1 s2.heap.objs.size (.lst [])) { s2 with heap:=s2.heap.push { cls:=.type "list", dict:=none,data:=.seq ([]:List Value).toArray } }:=
    I2.laid (t':=s2.toks) (fun b u e=>Heap.get?_push_of_some _ e) (Nat.le_refl _) ⟨Nat.zero_le _,[],0,.nil,Heap.get?_push_size _ rfl⟩
  have k3:∀ b u,s2.heap.get? b=some u→(s2.heap.push { cls:=.type "list", dict:=none,data:=.seq ([]:List Value).toArray }).get? b=some u:=fun b u e=>Heap.get?_push_of_some _ e
  have fne:∀ b∈fp,b≠s2.heap.objs.size:=fun b hb=>by
    obtain ⟨o,ho,_⟩:=T.obj 0 _ st2 b hb
    exact Nat.ne_of_lt (Heap.lt_size ho)
  generalize eD:s2.heap.objs.size=D at *
  generalize eh3:s2.heap.push { cls:=.type "list", dict:=none,data:=.seq ([]:List Value).toArray }=h3 at *
  generalize eH3:L2.upd H1 D (.lst [])=H3 at *
  have st3:tn 0 h3:=T.keep 0 _ _ st2 fun b hb o e=>k3 b o e
  have f3:∀ b∈fp,jX X pins H3 b:=fun b hb=>⟨by rw[← eH3,aA (fne b hb)];exact (f2 b hb).1,(f2 b hb).2⟩
  have lt3:∀ b∈fp,b < h3.objs.size:=fun b hb=>by
    obtain ⟨o,ho,_⟩:=T.obj 0 _ st3 b hb
    exact Heap.lt_size ho
  generalize es3:({ s2 with heap:=h3 }:Shared)=s3 at *
  have hs3:s3.heap=h3:=by rw[← es3]
  refine wpAny_newFunctionEnv hcell (fun y hy=>(by cases hy)) (fun h4 hns hsb=>?_) dO
  show codeAny _ _ (.compStart _ 0 (.ref it) (.ref D) (compEnvC scope cl s3.heap.objs.size X.env)) (compPost _ _ _ _ _ (.ref D) s3.heap.objs.size) _
  have k4:∀ b u,s3.heap.get? b=some u→h4.get? b=some u:=fun b u e=>hsb.extBut b u (Nat.ne_of_lt (Heap.lt_size e)) (Heap.get?_push_of_some _ e)
  have okY:(a8 X scope Nc cl s3.heap.objs.size s3 H3 fp).Ok:=by
    refine ⟨I3.ok.mod,dO,I3.ok.glob,I3.ok.blt,Nat.le_refl _,fun x y c e1 e2=>I3.ok.inj x y c (clin _ _ e1) (clin _ _ e2),fun x hx=>?_,fun x c hf=>(by cases hf),I3.ok.hd,I3.ok.frames,.inl rfl,fun b hb=>⟨?_,fun x c e z=>?_⟩,I3.bs,Nat.le_trans I3.ok.bsz I3.sz,fun b o e hb=>?_,fun b hb hz=>?_,I3.stack,I3.lH⟩
    · have hx':(relabel scope X.env).names.lookup x=some .cell∨(relabel scope X.env).names.lookup x=some .free:=hx
      have hm:(x,NameKind.free)∈scope.names:=by
        rcases hx' with q | q
        · exact dR hcell (.inl rfl) (PySem.mem_of_lookup q)
        · exact dR hcell (.inr rfl) (PySem.mem_of_lookup q)
      exact clfree _ hm rfl
    · show b≠s3.heap.objs.size
      rw[hs3];exact Nat.ne_of_lt (lt3 b hb)
    · exact (f3 b hb).2.2.2.2.1 x c (clin _ _ e) z
    · rcases (f3 b hb).2.2.2.1 with z | z
      · exact I3.ok.vL b o e z
      · exact absurd (Nat.lt_of_lt_of_le (Heap.lt_size e) (Nat.le_trans I3.ok.bsz z)) (Nat.lt_irrefl _)
    · rcases List.mem_cons.mp (I3.nS b hz) with z | z
      · exact (f3 b hb).2.1 z
      · exact (f3 b hb).2.2.1 z
  have uE:∀ c v,s3.heap.IsCell c v→h4.IsCell c v:=fun c v ⟨o,ho,hd⟩=>⟨o,k4 c o ho,hd⟩
  have J0:Inv (a8 X scope Nc cl s3.heap.objs.size s3 H3 fp) [] (c7 σ n caps) H3 { s3 with heap:=h4,toks:=s3.toks+([]:List (Str×Value)).length }:=by
    refine ⟨okY,rfl,I3.bare,Un.kept k4,⟨_,hns,fun i x v e1 e2 e3=>?_⟩,fun x c e=>?_,I3.hok.fresh (Nat.le_refl _),fun x c e=>I3.e6 x c (clin _ _ e),(fun p hp=>(by cases hp)),I3.hok.kept k4,?_⟩
    · obtain ⟨j,k,rfl,ej,ek⟩:=eZ e2
      obtain ⟨x',n1,n2,n3⟩:=hcap j k ej
      have e1':Nc[n+j]? = some x:=e1
      rw[n1] at e1';cases e1'
      have hmem:(x,NameKind.free)∈scope.names:=PySem.mem_of_lookup n3
      have hcellx:X.env.kindOf x=some .cell:=hfree _ hmem rfl
      obtain ⟨m,hn,hl⟩:=I3.loc
      obtain ⟨u,ru,lk⟩:=hl k x v n2 ek (.inr (.inl hcellx))
      refine ⟨u,ru,.inr ⟨.inl (bB I3.ok.kind hcellx n3),?_⟩⟩
      rcases lk with ⟨q,_⟩ | ⟨_,c,ec,ic⟩
      · rw[hcellx] at q;cases q
      · obtain ⟨c',ec'⟩:=clfree _ hmem rfl
        have:=clin _ _ ec'
        rw[ec] at this;cases this
        exact ⟨c,ec',uE _ _ ic⟩
    · obtain ⟨v,q⟩:=I3.cell x c (clin _ _ e)
      exact ⟨v,uE _ _ q⟩
    · unfold c7
      show _=Nc.length
      rw[List.length_append,List.length_replicate,List.length_map,hlen]
  obtain ⟨pg,pifs,pelt⟩:=hbody cl s3.heap.objs.size s3 H3 fp
  generalize eY:a8 X scope Nc cl s3.heap.objs.size s3 H3 fp=Y at *
  have yP:Y.prog=X.prog:=by rw[← eY];rfl
  have yw:Y.w=X.w:=by rw[← eY];rfl
  have yK:Y.K=X.K:=by rw[← eY];rfl
  have yA:Y.A=X.A:=by rw[← eY];rfl
  have yx:Y.xe=fun _ _=>False:=by rw[← eY];exact hxe
  have yc:Y.calm=true:=by rw[← eY];exact hcalm
  have ye:Y.env=compEnvC scope cl s3.heap.objs.size X.env:=by rw[← eY];rfl
  have yfs:Y.fs=frs X.stack:=by rw[← eY];rfl
  have yex:Y.ex=fp:=by rw[← eY];rfl
  have ys0:Y.s₀=s3:=by rw[← eY];rfl
  have yH0:Y.H₀=H3:=by rw[← eY];rfl
  have ypn:Y.pn=[]:=by rw[← eY];rfl
  have iz:∀ {H':Hp},(∀ b∈fp,H' b=none)→∀ b∈fp,jX Y [] H' b:=fun hn b hb=>⟨hn b hb,by rw[ye];show b≠s3.heap.objs.size;rw[hs3];exact Nat.ne_of_lt (lt3 b hb),okY.vJ b (by rw[yex];exact hb),.inl (by rw[yex];exact hb),
    fun x c e=>by rw[ye] at e;exact (f3 b hb).2.2.2.2.1 x c (clin _ _ e),fun p hp=>by rw[ypn] at hp;exact nomatch hp⟩
  have tn4:∀ t,tn 0 ({ s3 with heap:=h4,toks:=t }:Shared).heap:=fun t=>T.keep 0 _ _ st3 fun b hb o e=>k4 b o (by rw[hs3];exact e)
  -- the end
  have fin:∀ (s5:Shared) (H5:Hp),Inv Y [] (c7 σ n caps) H5 s5→(∃ a xs,V.ref D=V.ref a∧H5 a=some (.lst xs)∧∀ o,qo iy (.ref D) σ (L2.upd H5 a (.frz o (.lst xs))) E'.nx)→
      compPost (model X.prog X.w) X.A (fun _ _=>False) (some (assign (.Name y py) X.env)) (fun _ s'=>SP X pins E' .next s') (.ref D) s3.heap.objs.size (.ok .next) s5:=fun s5 H5 I5 q5=>by
    obtain ⟨m,hn,_⟩:=I5.loc
    rw[ye] at hn
    have nC:∀ b o,s3.heap.get? b=some o→b≠s3.heap.objs.size:=fun b o e=>Nat.ne_of_lt (Heap.lt_size e)
    have un:=I5.base
    rw[yfs,yex,yH0,ys0] at un
    have hfreeC0:=I5.free
    rw[ye] at hfreeC0
    have hfreeC:H5 s3.heap.objs.size=none:=hfreeC0
    have hok5:=I5.hok
    rw[yP,yw] at hok5
    have I5X:Inv X pins σ H5 s5:=I3.xZ (ch:=fp) (s':=s5) (by have:=I5.os;rw[ys0] at this;exact this) un hok5 I5.bare fun b hb=>⟨(f3 b hb).2.2.2.1,(f3 b hb).2.1,(f3 b hb).2.2.2.2.1,(f3 b hb).2.2.2.2.2⟩
    obtain ⟨a,xs,ea,eH,q⟩:=q5
    cases ea
    obtain ⟨o,I5F⟩:=I5X.frz eH
    have neD:s3.heap.objs.size≠D:=fun z=>by rw[z] at hfreeC;rw[hfreeC] at eH;cases eH
    have fC:jX X pins (L2.upd H5 D (.frz o (.lst xs))) s3.heap.objs.size:=I3.Cq (Nat.le_refl _) (by rw[aA neD];exact hfreeC)
    obtain ⟨oC,gC,dC⟩:∃ oC,s5.heap.get? s3.heap.objs.size=some oC∧∀ v,oC.data≠.cell v:=by
      obtain ⟨oC,es,ep,ho,hd,_⟩:=hn
      exact ⟨oC,ho,fun v z=>by rw[hd] at z;cases z⟩
    have I5P:=I5F.pinned (fp:=[s3.heap.objs.size]) (fun b hb=>by cases List.mem_singleton.mp hb;exact fC) (fun b hb=>by cases List.mem_singleton.mp hb;exact ⟨oC,gC,dC⟩)
    have as:=pgy _ s5 σ _ (.ref D) (.ref D) E'.nx I5P rfl (q o)
    rw[hxe] at as
    refine thn as fun _ s6 ⟨σ6,H6,I6,n6⟩=>?_
    obtain ⟨g6,f6,_⟩:=I6.pin (s3.heap.objs.size,oC) (List.mem_append_right _ (List.mem_append_right _ (bN List.mem_cons_self gC)))
    refine ⟨m,hn.at' (fun o' e'=>by have e'':s5.heap.get? s3.heap.objs.size=some o':=e';rw[gC] at e'';cases e'';exact g6),fun h7 hs7=>⟨σ6,H6,?_,n6⟩⟩
    have I6U:=I6.dD
    have keep:∀ b o',b≠s3.heap.objs.size→s6.heap.get? b=some o'→h7.get? b=some o':=fun b o' hb e'=>(hs7.2 b hb).trans e'
    refine I6U.xZ (ch:=[s3.heap.objs.size]) (s':={ s6 with heap:=h7 }) rfl ⟨fun b o' e' _ _ nx=>keep b o' (fun z=>nx (by rw[z];exact List.mem_cons_self)) e',fun b o' e' _ _ nx=>⟨o'.slots,keep b o' (fun z=>nx (by rw[z];exact List.mem_cons_self)) e'⟩,fun b o' _ w _=>w,fun b o' e' nx=>⟨o',keep b o' (fun z=>nx (by rw[z];exact List.mem_cons_self)) e'⟩,fun b ys e'=>e',fun b o' u e'=>e',fun b ps e'=>⟨#[],by simpa using e'⟩⟩ (fun b u e'=>?_) I6U.bare fun b hb=>?_
    · refine (I6U.hok b u e').jk (fun c w' hc q=>keep c w' ?_ q) (fun _ q=>q) fun _ _ q=>q
      rintro rfl
      rcases hc with z | z
      · rw[← z,f6] at e';cases e'
      · rw[f6] at z;cases z
    · cases List.mem_singleton.mp hb
      exact ⟨fC.2.2.2.1,fC.2.1,fC.2.2.2.2.1,fC.2.2.2.2.2⟩
  have loop:codeAny (model X.prog X.w) X.A (.compLoop (.ListComp elt [⟨tg,iter,ifs,0⟩] scope pos) 0 (.ref it) (.ref D) (compEnvC scope cl s3.heap.objs.size X.env)) (compPost (model X.prog X.w) X.A (fun _ _=>False) (some (assign (.Name y py) X.env)) (fun _ s'=>SP X pins E' .next s') (.ref D) s3.heap.objs.size)
      { s3 with heap:=h4,toks:=s3.toks+([]:List (Str×Value)).length }:=by
    refine jS (fun k s'=>∃ i ys H',Inv Y [] (c7 σ n caps) H' s'∧tn i s'.heap∧(∀ b∈fp,H' b=none)∧W i k ys H') ?_ m0 ⟨0,[],H3,J0,tn4 _,fun b hb=>(f3 b hb).1,w0⟩
    rintro k s5 ⟨i,ys,H5,I5,st5,fr5,w5⟩
    rcases turn i k ys H5 w5 with ⟨stop,q⟩ | ⟨go,N,hN,step⟩
    · have d:=T.done Y yP yw yK yc i [] s5 _ H5 (fun _ _=>False) I5 (iz fr5) st5 stop
      rw[yA] at d
      refine thn d fun r s6 ⟨hr,I6⟩=>?_
      subst hr
      exact fin s6 H5 I6 q
    · have d:=T.item Y yP yw yK yc i [] s5 _ H5 (fun _ _=>False) I5 (iz fr5) st5 go
      rw[yA] at d
      refine thn d fun r s6 ⟨u,hr,h6⟩=>?_
      subst hr
      refine thn h6 fun _ s7 ⟨x,H7,I7,r7,y7,st7,fr7⟩=>?_
      have I7':=I7.pinned (iz fr7) (T.obj _ _ st7)
      have a:=pg _ s7 _ H7 x u _ I7' r7 (step x H7 y7)
      rw[yP,yw,yA,yx,ye] at a
      refine thn a fun _ s8 ⟨σ8,H8,I8,wk,q8⟩=>?_
      have b:=pifs _ s8 σ8 H8 _ I8 q8
      rw[yP,yw,yA,yx,ye] at b
      have again:∀ {s9:Shared} {ys9:List V} {H9:Hp},Inv Y ([]++iE fp s7.heap) σ8 H9 s9→N ys9 H9→∃ m,m < k∧∃ i ys H',Inv Y [] (c7 σ n caps) H' s9∧tn i s9.heap∧(∀ b∈fp,H' b=none)∧W i m ys H':=fun {s9 ys9 H9} I9 n9=>by
        obtain ⟨m',hm,w9⟩:=hN ys9 H9 n9
        have hp:∀ b∈fp,∀ o,s7.heap.get? b=some o→s9.heap.get? b=some o∧H9 b=none:=fun b hb o e=>
          ⟨(I9.pin (b,o) (List.mem_append_right _ (List.mem_append_right _ (bN hb e)))).1,(I9.pin (b,o) (List.mem_append_right _ (List.mem_append_right _ (bN hb e)))).2.1⟩
        refine ⟨m',hm,i+1,ys9,H9,I9.dD.weak wk.1 wk.2,T.keep _ _ _ st7 fun b hb o e=>(hp b hb o e).1,fun b hb=>?_,w9⟩
        obtain ⟨o,e,_⟩:=T.obj _ _ st7 b hb
        exact (hp b hb o e).2
      refine thn b fun ok s9 ⟨H9,I9,q9⟩=>?_
      cases ok with
      | false=>
        rw[if_neg Bool.false_ne_true] at q9 ⊢
        exact again I9 q9
      | true=>
        rw[if_pos rfl] at q9 ⊢
        have c:=pelt _ s9 σ8 H9 _ I9 q9
        rw[yP,yw,yA,yx,ye] at c
        refine thn c fun v s10 ⟨y,H10,I10,r10,zs,ez,lz,n10⟩=>?_
        have d:=gH (X:=Y) _ s10 σ8 H10 (.ref D) [y] (.ref D) [v] (fun _ H'=>N (zs++[y]) H') I10 rfl (.cons r10 .nil) ⟨D,zs,y,rfl,rfl,ez,lz,n10⟩
        rw[yP,yw,yA,yx] at d
        exact thn d fun _ s11 ⟨_,H11,I11,_,q11⟩=>again I11 q11
  refine codeAny_compStart_list loop ?_
  exact T.self X.A 0 _ _ _ (tn4 _) loop
theorem ue {K:PySem.W.Frag}{wi:TI}{It':ATr}{G:GTr}{Tt:TTr}{Te:ETr}{n:Nat}{caps:List Nat}(si:Ir K wi It'):Sim K (EU (t9 wi (l6 K n G) (liftT K Tt) (nT K Te) n caps)) (bP It' G Tt Te n caps):=by
  intro σ H ρ μ Q Q' rl h k
  refine si σ H ρ μ _ _ rl h fun J H1 ds μ1 t1 m1 Y h1 D hD=>?_
  have hp:=h1 D (m1.free hD)
  have tD:Tk H1 (L2.upd H1 D (.lst [])):=.new hD
  have mD:bA K (L2.upd H1 D (.lst [])) (up μ1 D (.lst [])):=fun a o e=>by
    by_cases ha:a=D
    · subst ha
      rw[aN] at e;cases e
      exact ⟨[],aE,.nil⟩
    · rw[aV ha] at e
      exact cz m1 hD a o e
  refine ⟨fun i m ys H2=>m=ds.length - i∧i≤ds.length∧Tk H1 H2∧∃ μ2,bA K H2 μ2∧dE D G Tt Te (fK ρ n caps) (fun μ'=>kL μ' D fun zs=>Q (.ls zs) (dn μ' D)) (ds.drop i) μ2,
    ⟨ds.length,by simp,Nat.zero_le _,tD,_,mD,by simpa using hp⟩,?_⟩
  rintro i m ys H2 ⟨rfl,hi,t12,μ2,m2,h2⟩
  by_cases hlt:i < ds.length
  · refine .inr ⟨Y.go i H2 t12 hlt,fun ys' H'=>Tk H1 H'∧∃ μ',bA K H' μ'∧dE D G Tt Te (fK ρ n caps) (fun μ'=>kL μ' D fun zs=>Q (.ls zs) (dn μ' D)) (ds.drop (i+1)) μ',fun ys' H' ⟨t',μ',m',h'⟩=>⟨ds.length - (i+1),by omega,rfl,hlt,t',μ',m',h'⟩,fun x H3 y=>?_⟩
    obtain ⟨t23,⟨d,ed,pd⟩,mk⟩:=Y.yld i H2 x H3 t12 hlt y
    have e:ds.drop i=d::ds.drop (i+1):=by
      refine (List.drop_eq_getElem_cons hlt).trans ?_
      congr 1
      rw[List.getElem?_eq_getElem hlt] at ed
      exact Option.some.inj ed
    rw[e] at h2
    have t13:=t12.trans t23
    have r3:Rl K (c7 σ n caps) H3 (fK ρ n caps) μ2:=qB (rl.go (t1.trans t13) (mk _ m2)) n caps
    refine ⟨_,_,d,_,r3,pd,h2,fun σ4 H4 ρ4 μ4 t4 r4 kp h4=>⟨⟨kp.1.symm,fun j v ej=>?_⟩,_,_,_,r4,h4,fun b H5 μ5 t5 m5 h5=>?_⟩⟩
    · by_cases hj:n≤j
      · rw[kp.2 j hj];exact ej
      · obtain ⟨j',k',e1,_⟩:=eZ ej
        omega
    · have t15:=t13.trans (t4.trans t5)
      cases b with
      | false=>exact qS ⟨t15,μ5,m5,h5⟩
      | true=>
        refine rN ⟨_,_,_,r4.go t5 m5,h5,fun v H6 d6 μ6 t6 m6 p6 h6=>?_⟩
        obtain ⟨zs,ez,lz,h7⟩:=ck h6
        obtain ⟨xs,ex,lx⟩:=m6 D _ ez
        have t67:Tk H6 (L2.upd H6 D (.lst (xs++[v]))):=.upd (fun ys z=>by rw[ex] at z;cases z) fun o' u z=>by rw[ex] at z;cases z
        refine ⟨xs,ex,by rw[lx.length];exact Nat.lt_of_lt_of_le lz (by decide),(t15.trans t6).trans t67,up μ6 D (.lst (zs++[d6])),fun a o ea=>?_,h7⟩
        by_cases ha:a=D
        · subst ha
          rw[aN] at ea;cases ea
          exact ⟨_,aE,(lx.append (.cons p6 .nil)).mono t67⟩
        · rw[aV ha] at ea
          exact (m6 a _ ea).ne t67 ha
  · have e:i=ds.length:=by omega
    subst e
    rw[List.drop_length] at h2
    obtain ⟨zs,ez,hq⟩:=ck (show kL μ2 D fun zs=>Q (.ls zs) (dn μ2 D) from h2)
    obtain ⟨xs,ex,lx⟩:=m2 D _ ez
    refine .inl ⟨Y.stop _ H2 t12 (Nat.le_refl _),D,xs,rfl,ex,fun o=>?_⟩
    have t2f:Tk H2 (L2.upd H2 D (.frz o (.lst xs))):=.upd (fun ys z=>by rw[ex] at z;cases z) fun o' u z=>by rw[ex] at z;cases z
    refine k _ _ _ (dn μ2 D) ((t1.trans t12).trans t2f) (fun a o' ea=>?_) (.ls (.inl ⟨o,aE⟩) (lx.mono t2f)) hq
    have ha:a≠D:=fun z=>by subst z;unfold dn at ea;rw[if_pos rfl] at ea;cases ea
    have ea':μ2 a=some o':=by unfold dn at ea;rw[if_neg ha] at ea;exact ea
    exact (m2 a _ ea').ne t2f ha
theorem AF {X:Cx}{tg elt iter:Expr}{Te:ETr}{Tt:TTr}{pos spos py:Pos}{y:Str}{It':ATr}{G:GTr}{ifs:List Expr}{scope fsc:Scope}(iy:Nat)(hN:X.N.Nodup)(XN Nc:List Str)(n:Nat)(caps:List Nat)(hxe:X.xe=fun _ _=>False)(hcalm:X.calm=true)(hi:LI X tg iter It')
    (hbody:∀ (cl:List (Str×Addr)) (C:Addr) (s₀:Shared) (H₀:Hp) (ex:List Addr),LGc (a8 X scope Nc cl C s₀ H₀ ex) n tg G∧vS (a8 X scope Nc cl C s₀ H₀ ex) ifs Tt∧LE (a8 X scope Nc cl C s₀ H₀ ex) elt Te)
    (hsc:X.env.scope=fsc) (hXN:X.N=XN) (hok:jQ fsc.names XN scope Nc n caps=true)
    (hiy:X.N[iy]? = some y:=by rfl) (hx:Loc X.env.scope y:=by first | exact Or.inl rfl | exact Or.inr rfl) (hf:X.fn y=true∨X.env.scope.names.lookup y=some .local:=by first | exact .inl rfl | exact .inr rfl | assumption)
    (hsw:swapsWith (.ListComp elt [⟨tg,iter,ifs,0⟩] scope pos) (some (.Name y py)) spos.line X.env=pure true:=by rfl)
    (hs:∀ x,foldedSetIterable iter X.env x=pure x:=by intro _;rfl) :
    LS X (.Assign [.Name y py] (.ListComp elt [⟨tg,iter,ifs,0⟩] scope pos) spos) (aO (bP It' G Tt Te n caps) (au iy)):=by
  unfold jQ at hok
  simp only[Bool.and_eq_true,List.all_eq_true] at hok
  obtain ⟨⟨⟨h1,h2⟩,h3⟩,h4⟩:=hok
  obtain ⟨wi,pi,si⟩:=hi.ex
  refine ⟨_,D3 (g:=l6 X.K n G) (tt:=liftT X.K Tt) (te:=nT X.K Te) hxe hcalm pi (fun cl C s₀ H₀ ex=>let ⟨h1,h2,h3⟩:=hbody cl C s₀ H₀ ex;⟨h1.pe,h2.pe,h3.pe⟩) (fun y hy hf=>?_) (fun y hy hf=>?_) (by simpa using h2) (fun y hy hf=>?_) (by simpa using h3) (fun j k hj=>?_) (ju hN hiy hx hf) hsw hs,fun σ H ρ μ E E' rl h k=>ue si σ H ρ μ _ _ rl h fun v H' d μ' t' m' p' h'=>jL iy σ H' ρ μ' v d _ _ (rl.go t' m') p' h' (k.go t').nx⟩
  · have:=(h1 y hy).1.1
    show X.env.scope.names.lookup y.1=_
    rw[hsc]
    simpa[hf] using this
  · have:=(h1 y hy).1.2
    simp[hf] at this
  · have:=(h1 y hy).2
    simpa[hf] using this
  · have hl:j < caps.length:=(List.getElem?_eq_some_iff.mp hj).1
    have:=h4 j (List.mem_range.mpr hl)
    rw[hj] at this
    dsimp only at this
    rw[hXN]
    cases e:XN[k]? with
    | none=>rw[e] at this;cases this
    | some x=>
      rw[e] at this
      dsimp only at this
      rw[Bool.and_eq_true] at this
      exact ⟨x,by simpa using this.1,rfl,by simpa using this.2⟩
end
section
open PySem PySem.Spec PyProof.Rows L2
section
variable {X:Cx} {ea:Expr} {es:List Expr} {ek:Nat} {ep p pos:Pos}
def jE (ds:List D):List D:=(List.range ds.length).zipWith (fun i d=>.tup [.int (i:Nat),d]) ds
def JK (t:ATr):ATr:=fun ρ μ Q=>t ρ μ fun vs μ1=>match vs with
  | [.ls ds]=>Q (jE ds) μ1
  | _=>False
theorem qe (ds:List D)(i:Nat):(jE ds)[i]? = (ds[i]?).map fun d=>.tup [.int (i:Nat),d]:=by
  unfold jE
  rw[List.getElem?_zipWith]
  by_cases h:i < ds.length
  · rw[List.getElem?_range h,List.getElem?_eq_getElem h];rfl
  · rw[List.getElem?_eq_none_iff.mpr (by simpa using h),List.getElem?_eq_none_iff.mpr (by simpa using h)];rfl
theorem qd (ds:List D):(jE ds).length=ds.length:=by unfold jE;simp
variable {eb:Expr} {tg:Expr} {Ta Tb:ETr}
def jA (a b:ETr):ATr:=fun ρ μ Q=>a ρ μ fun x μ1=>b ρ μ1 fun y μ2=>kI x fun i=>kI y fun j=>((-4611686018427387904≤i∧i < 4611686018427387904)∧-4611686018427387904≤j∧j < 4611686018427387904)∧Q (dq i (j - i).toNat) μ2
theorem jO {rp rpos:Pos}(hg:Gl X "range")(hm:X.mg "range" = none)(ha:LE X ea Ta)(hb:LE X eb Tb)(hs:starEach [ea,eb] X.env=[(false,eval ea X.env),(false,eval eb X.env)]:=by rfl)(hs2:starEach [eb] X.env=[(false,eval eb X.env)]:=by rfl):LI X tg (.Call (.Name "range" rp) [ea,eb] [] rpos) (jA Ta Tb):=by
  obtain ⟨ta,pa,sa⟩:=ha.ex
  obtain ⟨tb,pb,sb⟩:=hb.ex
  refine ⟨_,zN hg hm (cS pa (cS pb gq hs2) (by rw[hs,hs2])) hs hs2,fun σ H ρ μ Q R rl h k=>sa σ H ρ μ _ _ rl h fun x H1 d μ1 t1 m1 p1 h1=>sb σ H1 ρ μ1 _ _ (rl.go t1 m1) h1 fun y H2 d2 μ2 t2 m2 p2 h2=>?_⟩
  cases p1 with
  | int i=>
    cases p2 with
    | int j=>
      obtain ⟨⟨⟨h3,h4⟩,h5,h6⟩,h7⟩:=h2
      exact ⟨i,j,rfl,⟨by simpa using h3,by simpa using h4,by simpa using h5,by simpa using h6⟩,k _ H2 _ μ2 (t1.trans t2) m2 (uw i _) h7⟩
    | _=>exact False.elim h2
  | _=>exact False.elim h2
end
end
section
open PySem PySem.Spec PyProof PyProof.Rows L2
theorem dX:∀ {us:List Value} {ns:List Int},IntsAre us ns→∃ ps:List (Int×Tok),us=ps.map (fun p=>Value.int p.1 p.2)∧ps.map Prod.fst=ns
  | _,_,.nil=>⟨[],⟨rfl,rfl⟩⟩
  | _,_,.cons n t h=>by
    obtain ⟨ps,e1,e2⟩:=dX h
    exact ⟨(n,t)::ps,by rw[e1];rfl,by rw[← e2];rfl⟩
theorem mG (ps:List (Int×Tok))(i:Nat):numAt ps.toArray i=((ps.map Prod.fst)[i]?).getD 0:=by
  unfold numAt
  simp only[List.getElem?_toArray,List.getElem?_map]
theorem pP {X:Cx}(hc:X.calm=true):bI X (.builtin "max") (fun xs H Q=>∃ (p:Addr) (ns:List Int),xs=[.ref p]∧SqL X.K H p (ns.map V.int)∧ns≠[]∧∀ M,M∈ns→(∀ a∈ns,a≤M)→Q (.int M) H):=fun pins s σ H xs us Q I rx ⟨p,ns,e1,sq,ne,q⟩=>by
  subst e1
  obtain ⟨u,rfl,ru⟩:=vals1 rx
  cases ru
  obtain ⟨its,rv,pl,_⟩:=I.list sq
  obtain ⟨ps,rfl,rfl⟩:=dX (intsAre_of rv)
  have hn:0 < ps.length:=by cases ps with | nil=>exact absurd rfl ne | cons=>simp
  have il:s.heap.IsList p (intItems ps.toArray):=by
    have:=pl.isList
    simpa[intItems] using this
  refine max_intList (I.ok.hd hc) il (by simpa using hn) fun v h' tk hv hk=>?_
  rcases intItems_at hv with ⟨t,rfl⟩
  obtain ⟨b1,b2⟩:=argBest_gt (numAt ps.toArray) (ps.toArray.size - 1)
  generalize argBest (fun i j=>decide (numAt ps.toArray i > numAt ps.toArray j)) (ps.toArray.size - 1)=k at hv b1 b2
  have hs:ps.toArray.size=ps.length:=by simp
  rw[hs] at b1 b2
  have hk':k < (ps.map Prod.fst).length:=by rw[List.length_map];omega
  refine ⟨.int _,H,I.kept hk,⟨t,rfl⟩,q _ ?_ fun a ha=>?_⟩
  · rw[mG,List.getElem?_eq_getElem hk']
    exact List.getElem_mem hk'
  · obtain ⟨j,hj,rfl⟩:=List.getElem_of_mem ha
    have:=b2 j (by rw[List.length_map] at hj;omega)
    rw[mG ps j,List.getElem?_eq_getElem hj] at this
    exact this
def sI:FSp:=fun ds μ Q=>match ds with
  | [.ls xs]=>∃ ns:List Int,(xs=ns.map .int∧ns≠[])∧∀ M,M∈ns→(∀ a∈ns,a≤M)→Q (.int M) μ
  | _=>False
theorem tm {K:PySem.W.Frag}:lj K (fun xs H Q=>∃ (p:Addr) (ns:List Int),xs=[.ref p]∧SqL K H p (ns.map V.int)∧ns≠[]∧∀ M,M∈ns→(∀ a∈ns,a≤M)→Q (.int M) H) sI:=fun H μ xs ds Q Q' m p h k=>by
  unfold sI at h
  split at h
  · obtain ⟨ns,⟨rfl,ne⟩,h⟩:=h
    cases p with | cons p1 p2=>
    cases p2
    cases p1 with
    | @ls q xs ds sq l=>
      have ex:=l.ints_of
      subst ex
      exact ⟨q,ns,rfl,sq.sq,ne,fun M h1 h2=>k _ H _ μ (.refl H) m (.int _) (h M h1 h2)⟩
  · exact h.elim
section
variable {X:Cx} {a b:Expr} {Ta Tb:ETr} {pos:Pos}
end
end
theorem qI (i j:Int)(μ Q):aK (.int i) (.int j) μ Q=Q (.int (i+j)) μ:=rfl
theorem sf (i j:Str)(μ Q):aK (.str i) (.str j) μ Q=(i.length+j.length≤1000000∧Q (.str (i++j)) μ):=rfl
theorem rQ (a b:List D)(μ Q):aK (.tup a) (.tup b) μ Q=(a.length+b.length≤1000000∧Q (.tup (a++b)) μ):=rfl
theorem qY (a b:List D)(μ Q):aK (.ls a) (.ls b) μ Q=(a.length+b.length≤1000000∧Q (.ls (a++b)) μ):=rfl
theorem l7 (a:List D)(μ Q):dm [.tup a] μ Q=Q (.tup a) μ:=rfl
theorem mI (a:List D)(μ Q):dm [.ls a] μ Q=Q (.tup a) μ:=rfl
theorem mj (a:Addr)(μ Q):dm [.obj a] μ Q=kL μ a fun xs=>Q (.tup xs) μ:=rfl
theorem nK (a:List D)(μ Q):wK [.tup a] μ Q=Q (.ls a) μ:=rfl
theorem l3 (a:List D)(μ Q):wK [.ls a] μ Q=Q (.ls a) μ:=rfl
theorem nB (a:Addr)(μ Q):wK [.obj a] μ Q=kL μ a fun xs=>Q (.ls xs) μ:=rfl
theorem mY (a:List D)(μ Q):vB [.tup a] μ Q = ∀ p,μ p=none→Q (.obj p) (up μ p (.lst a)):=rfl
theorem nG (a:List D)(μ Q):vB [.ls a] μ Q = ∀ p,μ p=none→Q (.obj p) (up μ p (.lst a)):=rfl
theorem nj (a:Addr)(μ Q):vB [.obj a] μ Q=kL μ a fun xs=>∀ p,μ p=none→Q (.obj p) (up μ p (.lst xs)):=rfl
theorem BY (a:List D)(lo hi)(μ Q):rSl (.tup a) lo hi μ Q=Q (.tup (cutD a lo hi)) μ:=rfl
theorem AY (a:List D)(lo hi)(μ Q):rSl (.ls a) lo hi μ Q=Q (.ls (cutD a lo hi)) μ:=rfl
theorem CN (a:Addr)(lo hi)(μ Q):rSl (.obj a) lo hi μ Q=kL μ a fun xs=>Q (.ls (cutD xs lo hi)) μ:=rfl
theorem Au (n:Bool)(x:D)(a:List D)(μ Q):L3.rIn n x (.tup a) μ Q=((fD x=true∧a.all fD=true)∧Q (.bl (if n then !inD x a else inD x a)) μ):=rfl
theorem A0 (n:Bool)(x:D)(a:List D)(μ Q):L3.rIn n x (.ls a) μ Q=((fD x=true∧a.all fD=true)∧Q (.bl (if n then !inD x a else inD x a)) μ):=rfl
theorem AB (n:Bool)(x:D)(a:Addr)(μ Q):L3.rIn n x (.obj a) μ Q=kL μ a fun xs=>(fD x=true∧xs.all fD=true)∧Q (.bl (if n then !inD x xs else inD x xs)) μ:=rfl
theorem vD (a:Addr)(μ Q):dH [.obj a] μ Q=kL μ a fun xs=>Q (.int xs.length) μ:=rfl
theorem wY (x:Str)(μ Q):dH [.str x] μ Q=(x.length≤1000000∧Q (.int x.length) μ):=rfl
theorem Dk (μ Q):rIs .non .non μ Q=Q (.bl true) μ:=rfl
theorem Ah (i:Int)(μ Q):rIs (.int i) .non μ Q=Q (.bl false) μ:=rfl
theorem Av (i:List D)(μ Q):rIs (.tup i) .non μ Q=Q (.bl false) μ:=rfl
theorem m4 (μ Q):eI .non .non μ Q=Q (.bl false) μ:=rfl
theorem mW (i:Int)(μ Q):eI (.int i) .non μ Q=Q (.bl true) μ:=rfl
theorem nL (i:List D)(μ Q):eI (.tup i) .non μ Q=Q (.bl true) μ:=rfl
theorem uP (c:String)(i:List D)(μ Q):gf c (.ls i) μ Q=Q (.bl (ba "list" c)) μ:=rfl
theorem wA (c:String)(i:Str)(μ Q):gf c (.str i) μ Q=Q (.bl (ba "str" c)) μ:=rfl
theorem u7 (c:String)(μ Q):gf c .non μ Q=Q (.bl (ba "NoneType" c)) μ:=rfl
theorem cT (k:Nat)(ds:List D):atD ds (k:Int)=ds[k]?:=by
  unfold atD L2.atI L2.ixN
  rw[if_pos (Int.natCast_nonneg k)]
  by_cases h:k < ds.length
  · rw[if_pos (by omega)];simp
  · rw[if_neg (by omega)];simp;omega
theorem yC (ds:List D):atD ds 0=ds[0]?:=cT 0 ds
theorem yp (ds:List D):atD ds 1=ds[1]?:=cT 1 ds
theorem xf (ds:List D):atD ds 2=ds[2]?:=cT 2 ds
theorem yo (ds:List D):atD ds 3=ds[3]?:=cT 3 ds
theorem xG (ds:List D):atD ds 4=ds[4]?:=cT 4 ds
theorem ya (ds:List D):atD ds 5=ds[5]?:=cT 5 ds
theorem xJ (n k:Nat):L2.ixN n (k:Int)=if k < n then some k else none:=by
  unfold L2.ixN
  rw[if_pos (Int.natCast_nonneg k)]
  by_cases h:k < n
  · rw[if_pos (by omega),if_pos h];simp
  · rw[if_neg (by omega),if_neg h]
theorem jc:ba "int" "int" = true:=by decide
theorem jG:ba "int" "bool" = false:=by decide
theorem iQ:ba "bool" "bool" = true:=by decide
theorem jg:ba "bool" "int" = true:=by decide
theorem jy:ba "tuple" "tuple" = true:=by decide
theorem iO:ba "int" "tuple" = false:=by decide
theorem jt:ba "bool" "tuple" = false:=by decide
theorem fm0 {a n:Int}(h:0 < n):0≤a.fmod n:=Int.fmod_nonneg_of_pos a h
theorem fm1 {a n:Int}(h:0 < n):a.fmod n < n:=Int.fmod_lt_of_pos a h
theorem CW (A B:Prop):kIf true A B=A:=rfl
theorem Dm (A B:Prop):kIf false A B=B:=rfl
theorem CL (p:Prop) [Decidable p] (A B:Prop):kIf (decide p) A B=if p then A else B:=by by_cases h:p<;>simp[h,kIf]
theorem zX (c:Bool)(A B:Prop):kIf (!c) A B=kIf c B A:=by cases c<;>rfl
theorem Aa (c:Bool)(f):kB (.bl c) f=f c:=rfl
theorem wX (c:Int)(f):kI (.int c) f=f c:=rfl
theorem qZ (c:D)(f):kO (some c) f=f c:=rfl
theorem wU (c:List D)(f):kS (.tup c) f=f c:=rfl
theorem BD (c:List D)(f):kS (.ls c) f=f c:=rfl
theorem vc (a b:D)(f):k2 [a,b] f=f a b:=rfl
theorem rf (c:Nat)(f):kN (some c) f=f c:=rfl
theorem xS (μ:Mu)(a:Addr)(ds:List D)(f):kL (up μ a (.lst ds)) a f=f ds:=by unfold kL;rw[aN]
theorem Kt {μ:Mu}{a:Addr}{ds:List D}(h:μ a=some (.lst ds))(f):kL μ a f=f ds:=by unfold kL;rw[h]
theorem nO (a:Addr)(n:Int)(y:D)(μ:Mu)(f):Ez (.obj a) (.int n) y μ f=kL μ a fun ds=>kN (L2.ixN ds.length n) fun j=>f (up μ a (.lst (ds.set j y))):=rfl
theorem uR (i j:Int)(μ Q):eK (.int i) (.int j) μ Q=Q (.int (i - j)) μ:=rfl
theorem vk (i j:Int)(μ Q):cI (.int i) (.int j) μ Q=(MulOk i j∧Q (.int (i*j)) μ):=rfl
theorem vm (i j:Int)(μ Q):f7 (.int i) (.int j) μ Q=(eP j∧Q (.int (i.fdiv j)) μ):=rfl
theorem wo (i j:Int)(μ Q):lC (.int i) (.int j) μ Q=(j≠0∧Q (.int (i.fmod j)) μ):=rfl
theorem vT (i j:Int)(μ Q):AU (.int i) (.int j) μ Q=(tQ i j∧Q (.int (i ^ j.toNat)) μ):=rfl
theorem vt (i:Int)(μ Q):nH (.int i) μ Q=Q (.int (-i)) μ:=rfl
theorem z8 (i j:Int)(μ Q):rLt (.int i) (.int j) μ Q=Q (.bl (decide (i < j))) μ:=rfl
theorem BV (i j:Int)(μ Q):rLe (.int i) (.int j) μ Q=Q (.bl (decide (i≤j))) μ:=rfl
theorem A2 (i j:Int)(μ Q):rGt (.int i) (.int j) μ Q=Q (.bl (decide (j < i))) μ:=rfl
theorem AJ (i j:Int)(μ Q):rGe (.int i) (.int j) μ Q=Q (.bl (decide (j≤i))) μ:=rfl
theorem CY (x y:D)(μ Q):L3.rEq x y μ Q=((okD 40 x=true∧okD 40 y=true)∧Q (.bl (eqD x y)) μ):=rfl
theorem AO (x y:D)(μ Q):L3.rNe x y μ Q=((okD 40 x=true∧okD 40 y=true)∧Q (.bl (!eqD x y)) μ):=rfl
theorem sP (ds:List D)(i:Int)(μ Q):L3.rIx (.tup ds) (.int i) μ Q=kO (atD ds i) fun d=>Q d μ:=rfl
theorem Dc (ds:List D)(i:Int)(μ Q):L3.rIx (.ls ds) (.int i) μ Q=kO (atD ds i) fun d=>Q d μ:=rfl
theorem BA (a:Addr)(i:Int)(μ Q):L3.rIx (.obj a) (.int i) μ Q=kL μ a fun ds=>kO (atD ds i) fun d=>Q d μ:=rfl
theorem wV (c:String)(i:Int)(μ Q):gf c (.int i) μ Q=Q (.bl (ba "int" c)) μ:=rfl
theorem vn (c:String)(i:Bool)(μ Q):gf c (.bl i) μ Q=Q (.bl (ba "bool" c)) μ:=rfl
theorem we (c:String)(i:List D)(μ Q):gf c (.tup i) μ Q=Q (.bl (ba "tuple" c)) μ:=rfl
theorem wy (i:Int)(μ Q):tS [.int i] μ Q=Q (.int (if i < 0 then -i else i)) μ:=rfl
theorem vo (i j:Int)(μ Q):jj [.int i,.int j] μ Q=Q (.int (if j > i then j else i)) μ:=rfl
theorem vE (i j:Int)(μ Q):ko [.int i,.int j] μ Q=Q (.int (if j < i then j else i)) μ:=rfl
theorem uO (i:Int)(μ Q):JL [.int i] μ Q=Q (.int i) μ:=rfl
theorem wW (i:Bool)(μ Q):JL [.bl i] μ Q=Q (.int (if i then 1 else 0)) μ:=rfl
theorem wI (i:List D)(μ Q):dH [.tup i] μ Q=Q (.int i.length) μ:=rfl
theorem vw (i:List D)(μ Q):dH [.ls i] μ Q=Q (.int i.length) μ:=rfl
local macro_rules | `(tactic| walk_at "rd")=>`(tactic| try simp only[ag,TC,ak,TUn,eR,zy,jF,TB,u4,TOr,lg,G4,uU,aw,af,dW,eO,rA,ao,bh,aF,wF,BK,iN,aS,Dn,cA,au,aO,wg,iu,j4,di,eM, 
  CW,Dm,CL,zX,Aa,wX,qZ,wU,BD,vc,rf,xS,nO,qI,sf,rQ,qY,uo,nM,vV,l7,mI,mj,nK,l3,nB,mY,nG,nj,TSl,ONo,mP,BY,AY,CN,Au,A0,AB,vD,wY,Dk,Ah,Av,m4,mW,nL,uP,wA,u7,uR,vk,vm,wo,vT,vt,z8,BV,A2,AJ,CY,AO,sP,Dc,BA,wV,vn,we,wy,vo,vE,uO,wW,wI,vw,
  lk,ini,List.map,List.length,List.replicate,List.append,List.set,List.cons_append,List.nil_append,Nat.sub_self,Nat.reduceSub,Nat.reduceAdd,
  yC,yp,xf,yo,xG,ya,List.getElem?_cons_zero,List.getElem?_cons_succ,aN,Nat.reduceLT,Nat.reduceLeDiff,if_true,if_false,true_and,and_true,Bool.not_true,Bool.not_false,Nat.lt_add_one,Nat.zero_lt_succ,Nat.succ_lt_succ_iff,Nat.zero_lt_one,
  decide_eq_true_eq,Bool.false_eq_true,ite_false,ite_true,ne_eq,not_false_eq_true,Int.reduceToNat,Int.reducePow,Int.reduceNeg,Int.reduceSub,Int.reduceAdd,Int.reduceMul,Int.reduceEq,okD,cq,eqD,oo,Bool.and_self,Bool.and_true,Bool.true_and,jc,jG,iQ,jg,jy,iO,jt])
local macro_rules | `(tactic| walk_at "ok")=>`(tactic| (simp only[L3.eP,L3.MulOk,L3.S64,L3.cp,L3.tQ] at *;omega))
def Box (μ:Mu)(b:Addr):Prop:=∃ g s c:Int,μ b=some (.lst [.int g,.int s,.int c])∧0≤s∧s < 2147483647
structure mV (b:Addr) (μ μ':Mu):Prop where
  box:Box μ' b
  oth:∀ a,a≠b→μ' a=μ a
theorem mV.trans {b:Addr}{μ μ1 μ2:Mu}(x:mV b μ μ1)(y:mV b μ1 μ2):mV b μ μ2:=⟨y.box,fun a h=>(y.oth a h).trans (x.oth a h)⟩
theorem sC (x y:Int):Int.gcd y (x.fmod y)=Int.gcd x y:=by
  rw[Int.fmod_def,Int.gcd_sub_mul_left_right,Int.gcd_comm]
theorem Dl (a:Int):(if a < 0 then -a else a)=(a.natAbs:Int):=by
  split<;>omega
def mz (i:Nat):ST→Mu→Nat:=fun ρ _=>match lk ρ i with
  | some (.int z)=>z.toNat
  | _=>0
structure Fr (p q:Int):Prop where
  q0:0 < q
  q1:q < 100000000000
  p0:-100000000000 < p
  p1:p < 100000000000
  g:Int.gcd p q=1
theorem cw {a b:Int}(h:0 < b):a.fdiv b=a / b:=Int.fdiv_eq_ediv_of_nonneg a (Int.le_of_lt h)
def cJ:FSp:=fun ds μ Q=>match ds with
  | [.ls xs]=>(∃ ns:List Int,xs=ns.map .int∧ns.length≤63)∧∀ μ',Q (.bl true) μ'
  | _=>False
theorem qT:∀ ds μ Q,cJ ds μ Q→ds.length=1:=by
  unfold cJ
  walk_at "ln"
theorem j3 (ns:List Int)(h:ns.length≤63)(μ:Mu):cJ [.ls (ns.map .int)] μ (fun d _=>d=.bl true):=⟨⟨ns,rfl,h⟩,fun _=>rfl⟩
local macro_rules | `(tactic| walk_at "rd")=>`(tactic| try simp only[ag,TC,ak,TUn,eR,zy,jF,TB,u4,TOr,lg,G4,uU,aw,af,dW,eO,rA,ao,bh,aF,wF,BK,iN,aS,Dn,cA,au,aO,wg,iu,j4,di,eM,bP,dE,fK,fL,KA,ILs,
  CW,Dm,CL,zX,Aa,wX,qZ,wU,BD,vc,rf,xS,nO,qI,sf,rQ,qY,uo,nM,vV,l7,mI,mj,nK,l3,nB,mY,nG,nj,TSl,ONo,mP,BY,AY,CN,Au,A0,AB,vD,wY,Dk,Ah,Av,m4,mW,nL,uP,wA,u7,uR,vk,vm,wo,vT,vt,z8,BV,A2,AJ,CY,AO,sP,Dc,BA,wV,vn,we,wy,vo,vE,uO,wW,wI,vw,
  lk,ini,List.map,List.length,List.replicate,List.append,List.set,List.cons_append,List.nil_append,Nat.sub_self,Nat.reduceSub,Nat.reduceAdd,
  yC,yp,xf,yo,xG,ya,List.getElem?_cons_zero,List.getElem?_cons_succ,aN,sE,Nat.reduceLT,Nat.reduceLeDiff,if_true,if_false,true_and,and_true,Bool.not_true,Bool.not_false,Nat.lt_add_one,Nat.zero_lt_succ,Nat.succ_lt_succ_iff,Nat.zero_lt_one,
  decide_eq_true_eq,Bool.false_eq_true,ite_false,ite_true,ne_eq,not_false_eq_true,Int.reduceToNat,Int.reducePow,Int.reduceNeg,Int.reduceSub,Int.reduceAdd,Int.reduceMul,Int.reduceEq,okD,cq,eqD,oo,Bool.and_self,Bool.and_true,Bool.true_and,jc,jG,iQ,jg,jy,iO,jt])
structure IsPart (a b p q:Int):Prop where
  q0:0 < q
  g:Int.gcd p q=1
  e:p*b=a*q
  pa:p.natAbs≤a.natAbs
  qb:q.natAbs≤b.natAbs
theorem m7 {g c:Int}(hg:0 < g):c.natAbs≤(g*c).natAbs:=by
  rw[Int.natAbs_mul]
  exact Nat.le_mul_of_pos_left _ (by omega)
theorem EY {a b:Int}(hb:b≠0):IsPart a b (a.fdiv (if b < 0 then -(Int.gcd a b:Int) else Int.gcd a b)) (b.fdiv (if b < 0 then -(Int.gcd a b:Int) else Int.gcd a b)):=by
  have gp:0 < Int.gcd a b:=Int.gcd_pos_of_ne_zero_right a hb
  have gz:0 < (Int.gcd a b:Int):=by omega
  obtain ⟨c,hc⟩:=Int.gcd_dvd_left a b
  obtain ⟨d,hd⟩:=Int.gcd_dvd_right a b
  have g1:=Int.gcd_ediv_gcd_ediv_gcd gp
  have e1:a / (Int.gcd a b:Int)=c:=Int.ediv_eq_of_eq_mul_right (by omega) hc
  have e2:b / (Int.gcd a b:Int)=d:=Int.ediv_eq_of_eq_mul_right (by omega) hd
  rw[e1,e2] at g1
  generalize (Int.gcd a b:Int)=g at *
  clear e1 e2 gp
  subst hc hd
  have p1:=m7 (c:=c) gz
  have p2:=m7 (c:=d) gz
  split
  · rename_i hneg
    have d0:d < 0:=by
      rcases Int.lt_trichotomy d 0 with h | h | h
      · exact h
      · subst h;omega
      · have:=Int.mul_pos gz h;omega
    have x1:(g*c).fdiv (-g) = -c:=by rw[show g*c = -g * -c by rw[Int.neg_mul_neg]];exact Int.mul_fdiv_cancel_left _ (by omega)
    have x2:(g*d).fdiv (-g) = -d:=by rw[show g*d = -g * -d by rw[Int.neg_mul_neg]];exact Int.mul_fdiv_cancel_left _ (by omega)
    rw[x1,x2]
    refine ⟨by omega,by rw[Int.neg_gcd,Int.gcd_neg];exact g1,?_,by omega,by omega⟩
    rw[Int.neg_mul,Int.mul_neg,Int.mul_left_comm,Int.mul_assoc]
  · rename_i hneg
    have d0:0 < d:=by
      rcases Int.lt_trichotomy d 0 with h | h | h
      · have:=Int.mul_neg_of_pos_of_neg gz h;omega
      · subst h;omega
      · exact h
    have x1:(g*c).fdiv g=c:=Int.mul_fdiv_cancel_left _ (by omega)
    have x2:(g*d).fdiv g=d:=Int.mul_fdiv_cancel_left _ (by omega)
    rw[x1,x2]
    refine ⟨d0,g1,?_,by omega,by omega⟩
    rw[Int.mul_left_comm,Int.mul_assoc]
theorem Eb {p q p' q':Int}(q0:0 < q)(q0':0 < q')(g:Int.gcd p q=1)(g':Int.gcd p' q'=1)(e:p*q'=p'*q):p=p'∧q=q':=by
  have h1:q ∣ q':=by
    have:q ∣ p*q':=⟨p',by rw[e,Int.mul_comm]⟩
    have h:=Int.dvd_gcd_mul_iff_dvd_mul.mpr this
    rw[Int.gcd_comm,g] at h
    simpa using h
  have h2:q' ∣ q:=by
    have:q' ∣ p'*q:=⟨p,by rw[← e,Int.mul_comm]⟩
    have h:=Int.dvd_gcd_mul_iff_dvd_mul.mpr this
    rw[Int.gcd_comm,g'] at h
    simpa using h
  have e3:q=q':=Int.dvd_antisymm (by omega) (by omega) h1 h2
  subst e3
  exact ⟨Int.eq_of_mul_eq_mul_right (by omega) e,rfl⟩
theorem IsPart.same {a b p q a' b' p' q':Int}(h:IsPart a b p q)(h':IsPart a' b' p' q')(hb:b≠0)(hb':b'≠0)(e:a*b'=a'*b):p=p'∧q=q':=by
  refine Eb h.q0 h'.q0 h.g h'.g ?_
  have e1:=h.e
  have e2:=h'.e
  have x:(p*q')*(b*b')=(p'*q)*(b*b'):=by
    calc (p*q')*(b*b')=(p*b)*(q'*b'):=by ac_rfl
      _=(a*q)*(q'*b'):=by rw[e1]
      _=(a*b')*(q*q'):=by ac_rfl
      _=(a'*b)*(q*q'):=by rw[e]
      _=(a'*q')*(q*b):=by ac_rfl
      _=(p'*b')*(q*b):=by rw[e2]
      _=(p'*q)*(b*b'):=by ac_rfl
  exact Int.eq_of_mul_eq_mul_right (Int.mul_ne_zero hb hb') x
def bO:FSp:=fun ds μ Q=>match ds with
  | [.int a,.int b]=>Q (.int (Int.gcd a b)) μ
  | _=>False
theorem oZ:∀ ds μ Q,bO ds μ Q→ds.length=2:=by
  unfold bO
  walk_at "ln"
def kh:STr:=aF (aO (ao tS (af (ag 0) (aw))) (au 2)) (aF (aO (ao tS (af (ag 1) (aw))) (au 3)) (aF (uS (TB (ak rGt (ag 3) (TC (.int 0)))) (aF (aO (ak lC (ag 2) (ag 3)) (au 4)) (aF (aO (ag 3) (au 2)) (aO (ag 4) (au 3))))) (aS (ag 2))))
theorem rX:∀ ds μ Q,bO ds μ Q→kh { nx:=fun _ μ'=>RT Q .non μ',rt:=RT Q } (ini 5 ds) μ:=by
  intro ds μ Q k
  unfold bO at k
  split at k
  case h_2=>exact k.elim
  rename_i a b
  unfold kh
  walk_at "rd"
  refine ⟨fun ρ μ'=>μ'=μ∧∃ (x y:Int) (z:Option D),ρ=[some (.int a),some (.int b),some (.int x),some (.int y),z]∧0≤x∧0≤y∧Int.gcd x y=Int.gcd a b,mz 3,⟨rfl,_,_,_,rfl,?_,?_,?_⟩,?_⟩
  · split<;>omega
  · split<;>omega
  · rw[Dl,Dl];unfold Int.gcd;rw[Int.natAbs_natCast,Int.natAbs_natCast]
  · rintro ρ _ ⟨rfl,x,y,z,rfl,x0,y0,e⟩
    walk_at "rd"
    split
    · rename_i hy
      refine ⟨by omega,⟨_,_,_,rfl,y0,fm0 hy,?_⟩,?_⟩
      · rw[sC];exact e
      · have:=fm1 (a:=x) hy
        have:=fm0 (a:=x) hy
        simp only[mz,lk]
        omega
    · rename_i hy
      have hy0:y=0:=by omega
      subst hy0
      rw[Int.gcd_zero_right] at e
      have hx:x=(Int.gcd a b:Int):=by omega
      subst hx
      exact ⟨_,.refl _,k⟩
def cU:FSp:=fun ds μ Q=>match ds with
  | [.int a,.int b]=>(b≠0∧cp b)∧∀ p q,IsPart a b p q→Q (.tup [.int p,.int q]) μ
  | _=>False
theorem CT:∀ ds μ Q,cU ds μ Q→ds.length=2:=by
  unfold cU
  walk_at "ln"
def By:STr:=aF (aO (ao bO (af (ag 0) (af (ag 1) (aw)))) (au 2)) (aF (cA (TB (ak rLt (ag 1) (TC (.int 0)))) (aO (TUn nH (ag 2)) (au 2)) (bh)) (aS (dW (af (ak f7 (ag 0) (ag 2)) (af (ak f7 (ag 1) (ag 2)) (aw))))))
theorem ES:∀ ds μ Q,cU ds μ Q→By { nx:=fun _ μ'=>RT Q .non μ',rt:=RT Q } (ini 3 ds) μ:=by
  intro ds μ Q h
  unfold cU at h
  split at h
  case h_2=>exact h.elim
  rename_i a b
  obtain ⟨⟨hb,hm⟩,k⟩:=h
  have P:=k _ _ (EY (a:=a) hb)
  have gp:0 < Int.gcd a b:=Int.gcd_pos_of_ne_zero_right a hb
  have gl:Int.gcd a b≤b.natAbs:=Int.gcd_le_natAbs_right a hb
  unfold By
  walk_at "rd"
  show (if b < 0 then _ else _)
  split
  · rename_i hn
    rw[if_pos hn] at P
    have dv:eP (-(Int.gcd a b:Int)):=by walk_at "ok"
    exact ⟨dv,dv,_,.refl _,P⟩
  · rename_i hn
    rw[if_neg hn] at P
    have dv:eP (Int.gcd a b:Int):=by walk_at "ok"
    exact ⟨dv,dv,_,.refl _,P⟩
structure FrB (lo hi p q:Int):Prop where
  q0:0 < q
  q1:q≤10000002
  g:Int.gcd p q=1
  ge:lo*q≤p
  le:p≤hi*q
structure FrA (lo hi p q:Int):Prop extends FrB lo hi p q where
  ab:lo*q < p
structure FrL (hi p q:Int):Prop extends FrB 0 hi p q where
  ab:0 < p
  be:p < hi*q
theorem zK {a b:Int}(b0:0 < b):∃ g p q:Int,0 < g∧a=g*p∧b=g*q∧a.fdiv (Int.gcd a b)=p∧b.fdiv (Int.gcd a b)=q∧0 < q∧q≤b∧Int.gcd p q=1:=by
  have gp:0 < Int.gcd a b:=Int.gcd_pos_of_ne_zero_right a (by omega)
  have gz:0 < (Int.gcd a b:Int):=by omega
  obtain ⟨c,hc⟩:=Int.gcd_dvd_left a b
  obtain ⟨d,hd⟩:=Int.gcd_dvd_right a b
  have g1:=Int.gcd_ediv_gcd_ediv_gcd gp
  have e1:a / (Int.gcd a b:Int)=c:=Int.ediv_eq_of_eq_mul_right (by omega) hc
  have e2:b / (Int.gcd a b:Int)=d:=Int.ediv_eq_of_eq_mul_right (by omega) hd
  rw[e1,e2] at g1
  refine ⟨_,c,d,gz,hc,hd,by rw[cw gz];exact e1,by rw[cw gz];exact e2,?_,?_,g1⟩
  all_goals generalize (Int.gcd a b:Int)=g at *
  · rcases Int.lt_trichotomy d 0 with h | h | h
    · have:=Int.mul_neg_of_pos_of_neg gz h;omega
    · subst h;omega
    · exact h
  · have d0:0 < d:=by
      rcases Int.lt_trichotomy d 0 with h | h | h
      · have:=Int.mul_neg_of_pos_of_neg gz h;omega
      · subst h;omega
      · exact h
    have h:=Int.mul_le_mul_of_nonneg_right (show (1:Int)≤g by omega) (show (0:Int)≤d by omega)
    omega
theorem pI:(Str.ofString "still" = Str.ofString "step")=False:=eq_false (by decide +kernel)
theorem my:(Str.ofString "still" = Str.ofString "swell")=False:=eq_false (by decide +kernel)
theorem o4:(Str.ofString "still" = Str.ofString "heed")=False:=eq_false (by decide +kernel)
theorem oi:(Str.ofString "still" = Str.ofString "calm")=False:=eq_false (by decide +kernel)
theorem oA:(Str.ofString "step" = Str.ofString "still")=False:=eq_false (by decide +kernel)
theorem nU:(Str.ofString "step" = Str.ofString "swell")=False:=eq_false (by decide +kernel)
theorem rY:(Str.ofString "step" = Str.ofString "heed")=False:=eq_false (by decide +kernel)
theorem rD:(Str.ofString "step" = Str.ofString "calm")=False:=eq_false (by decide +kernel)
theorem mw:(Str.ofString "swell" = Str.ofString "still")=False:=eq_false (by decide +kernel)
theorem oW:(Str.ofString "swell" = Str.ofString "step")=False:=eq_false (by decide +kernel)
theorem oG:(Str.ofString "swell" = Str.ofString "heed")=False:=eq_false (by decide +kernel)
theorem oO:(Str.ofString "swell" = Str.ofString "calm")=False:=eq_false (by decide +kernel)
theorem og:(Str.ofString "heed" = Str.ofString "still")=False:=eq_false (by decide +kernel)
theorem rO:(Str.ofString "heed" = Str.ofString "step")=False:=eq_false (by decide +kernel)
theorem om:(Str.ofString "heed" = Str.ofString "swell")=False:=eq_false (by decide +kernel)
theorem sx:(Str.ofString "heed" = Str.ofString "calm")=False:=eq_false (by decide +kernel)
theorem pC:(Str.ofString "calm" = Str.ofString "still")=False:=eq_false (by decide +kernel)
theorem sj:(Str.ofString "calm" = Str.ofString "step")=False:=eq_false (by decide +kernel)
theorem oa:(Str.ofString "calm" = Str.ofString "swell")=False:=eq_false (by decide +kernel)
theorem qD:(Str.ofString "calm" = Str.ofString "heed")=False:=eq_false (by decide +kernel)
theorem qm:PyData.strOk (Str.ofString "still")=true:=by decide +kernel
theorem tX:PyData.strOk (Str.ofString "step")=true:=by decide +kernel
theorem qj:PyData.strOk (Str.ofString "swell")=true:=by decide +kernel
theorem uD:PyData.strOk (Str.ofString "heed")=true:=by decide +kernel
theorem sV:PyData.strOk (Str.ofString "calm")=true:=by decide +kernel
abbrev fr (p q:Int):D:=.tup [.int p,.int q]
inductive uV:Str→D→Prop
  | kc {p q:Int} (w:FrB 1 60 p q):uV (Str.ofString "still") (.tup [.str "still", fr p q])
  | calm {p q r s x y l h:Int} (w:FrB 1 60 p q) (t:FrB 1 60 r s) (wt:p*s≤r*q) (u:FrA 0 60 x y) (l0:0≤l) (lh:l≤h) (h1:h≤60):uV (Str.ofString "calm") (.tup [.str "calm", fr p q,fr x y,.int l,.int h,fr r s])
  | CM {p q r s x y a b:Int} (w:FrB 1 60 p q) (t:FrB 1 60 r s) (wt:p*s≤r*q) (u:FrA 0 60 x y) (g:FrA 0 1 a b):uV (Str.ofString "heed") (.tup [.str "heed", fr p q,fr x y,fr a b,fr r s])
  | step {p q r s x y a b:Int} (w:FrB 1 60 p q) (t:FrB 1 60 r s) (wt:p*s≤r*q) (u:FrA 0 60 x y) (g:FrL 1 a b):uV (Str.ofString "step") (.tup [.str "step", fr p q,fr x y,fr a b,fr r s])
  | l4 {p q r s x y a b:Int} (w:FrB 1 60 p q) (t:FrB 1 60 r s) (wt:p*s≤r*q) (u:FrA 1 60 x y) (g:FrL 1 a b):uV (Str.ofString "swell") (.tup [.str "swell", fr p q,fr x y,fr a b,fr r s])
theorem eL (i:Decidable (Str.ofString "still" = Str.ofString "step")):@decide (Str.ofString "still" = Str.ofString "step") i=false:=by cases i with | isTrue h=>exact absurd h (by rw[pI];exact not_false) | isFalse _=>rfl
theorem du (i:Decidable (Str.ofString "still" = Str.ofString "swell")):@decide (Str.ofString "still" = Str.ofString "swell") i=false:=by cases i with | isTrue h=>exact absurd h (by rw[my];exact not_false) | isFalse _=>rfl
theorem d7 (i:Decidable (Str.ofString "still" = Str.ofString "heed")):@decide (Str.ofString "still" = Str.ofString "heed") i=false:=by cases i with | isTrue h=>exact absurd h (by rw[o4];exact not_false) | isFalse _=>rfl
theorem dZ (i:Decidable (Str.ofString "still" = Str.ofString "calm")):@decide (Str.ofString "still" = Str.ofString "calm") i=false:=by cases i with | isTrue h=>exact absurd h (by rw[oi];exact not_false) | isFalse _=>rfl
theorem eB (i:Decidable (Str.ofString "step" = Str.ofString "still")):@decide (Str.ofString "step" = Str.ofString "still") i=false:=by cases i with | isTrue h=>exact absurd h (by rw[oA];exact not_false) | isFalse _=>rfl
theorem dU (i:Decidable (Str.ofString "step" = Str.ofString "swell")):@decide (Str.ofString "step" = Str.ofString "swell") i=false:=by cases i with | isTrue h=>exact absurd h (by rw[nU];exact not_false) | isFalse _=>rfl
theorem fg (i:Decidable (Str.ofString "step" = Str.ofString "heed")):@decide (Str.ofString "step" = Str.ofString "heed") i=false:=by cases i with | isTrue h=>exact absurd h (by rw[rY];exact not_false) | isFalse _=>rfl
theorem fu (i:Decidable (Str.ofString "step" = Str.ofString "calm")):@decide (Str.ofString "step" = Str.ofString "calm") i=false:=by cases i with | isTrue h=>exact absurd h (by rw[rD];exact not_false) | isFalse _=>rfl
theorem dz (i:Decidable (Str.ofString "swell" = Str.ofString "still")):@decide (Str.ofString "swell" = Str.ofString "still") i=false:=by cases i with | isTrue h=>exact absurd h (by rw[mw];exact not_false) | isFalse _=>rfl
theorem eE (i:Decidable (Str.ofString "swell" = Str.ofString "step")):@decide (Str.ofString "swell" = Str.ofString "step") i=false:=by cases i with | isTrue h=>exact absurd h (by rw[oW];exact not_false) | isFalse _=>rfl
theorem ei (i:Decidable (Str.ofString "swell" = Str.ofString "heed")):@decide (Str.ofString "swell" = Str.ofString "heed") i=false:=by cases i with | isTrue h=>exact absurd h (by rw[oG];exact not_false) | isFalse _=>rfl
theorem eA (i:Decidable (Str.ofString "swell" = Str.ofString "calm")):@decide (Str.ofString "swell" = Str.ofString "calm") i=false:=by cases i with | isTrue h=>exact absurd h (by rw[oO];exact not_false) | isFalse _=>rfl
theorem eh (i:Decidable (Str.ofString "heed" = Str.ofString "still")):@decide (Str.ofString "heed" = Str.ofString "still") i=false:=by cases i with | isTrue h=>exact absurd h (by rw[og];exact not_false) | isFalse _=>rfl
theorem fw (i:Decidable (Str.ofString "heed" = Str.ofString "step")):@decide (Str.ofString "heed" = Str.ofString "step") i=false:=by cases i with | isTrue h=>exact absurd h (by rw[rO];exact not_false) | isFalse _=>rfl
theorem eN (i:Decidable (Str.ofString "heed" = Str.ofString "swell")):@decide (Str.ofString "heed" = Str.ofString "swell") i=false:=by cases i with | isTrue h=>exact absurd h (by rw[om];exact not_false) | isFalse _=>rfl
theorem fB (i:Decidable (Str.ofString "heed" = Str.ofString "calm")):@decide (Str.ofString "heed" = Str.ofString "calm") i=false:=by cases i with | isTrue h=>exact absurd h (by rw[sx];exact not_false) | isFalse _=>rfl
theorem dY (i:Decidable (Str.ofString "calm" = Str.ofString "still")):@decide (Str.ofString "calm" = Str.ofString "still") i=false:=by cases i with | isTrue h=>exact absurd h (by rw[pC];exact not_false) | isFalse _=>rfl
theorem fh (i:Decidable (Str.ofString "calm" = Str.ofString "step")):@decide (Str.ofString "calm" = Str.ofString "step") i=false:=by cases i with | isTrue h=>exact absurd h (by rw[sj];exact not_false) | isFalse _=>rfl
theorem ef (i:Decidable (Str.ofString "calm" = Str.ofString "swell")):@decide (Str.ofString "calm" = Str.ofString "swell") i=false:=by cases i with | isTrue h=>exact absurd h (by rw[oa];exact not_false) | isFalse _=>rfl
theorem fj (i:Decidable (Str.ofString "calm" = Str.ofString "heed")):@decide (Str.ofString "calm" = Str.ofString "heed") i=false:=by cases i with | isTrue h=>exact absurd h (by rw[qD];exact not_false) | isFalse _=>rfl
theorem sk (a:Str)(i:Decidable (a=a)):@decide (a=a) i=true:=by cases i with | isTrue _=>rfl | isFalse h=>exact absurd rfl h
def kLs (x:D)(f:List D→Prop):Prop:=match x with
  | .ls ds=>f ds
  | _=>False
def bX (sp:FSp)(ds:List D)(μ:Mu)(Q:DK):Prop:=sp ds μ Q
def LEN (ds:List D)(P:Prop):Prop:=ds.length≤1000000∧P
theorem HQ (d:D)(r:ST)(μ:Mu)(Q:DK):ag 0 (some d::r) μ Q=Q d μ:=propext Iff.rfl
theorem Ft (x0:Option D)(r:ST)(d:D)(μ:Mu)(k:ST→Mu→Prop):au 0 d (x0::r) μ k=k (some d::r) μ:=propext Iff.rfl
theorem GK (x0:Option D)(d:D)(r:ST)(μ:Mu)(Q:DK):ag 1 (x0::some d::r) μ Q=Q d μ:=propext Iff.rfl
theorem Ea (x0 x1:Option D)(r:ST)(d:D)(μ:Mu)(k:ST→Mu→Prop):au 1 d (x0::x1::r) μ k=k (x0::some d::r) μ:=propext Iff.rfl
theorem Gj (x0 x1:Option D)(d:D)(r:ST)(μ:Mu)(Q:DK):ag 2 (x0::x1::some d::r) μ Q=Q d μ:=propext Iff.rfl
theorem Fb (x0 x1 x2:Option D)(r:ST)(d:D)(μ:Mu)(k:ST→Mu→Prop):au 2 d (x0::x1::x2::r) μ k=k (x0::x1::some d::r) μ:=propext Iff.rfl
theorem Jo (x0 x1 x2:Option D)(d:D)(r:ST)(μ:Mu)(Q:DK):ag 3 (x0::x1::x2::some d::r) μ Q=Q d μ:=propext Iff.rfl
theorem EI (x0 x1 x2 x3:Option D)(r:ST)(d:D)(μ:Mu)(k:ST→Mu→Prop):au 3 d (x0::x1::x2::x3::r) μ k=k (x0::x1::x2::some d::r) μ:=propext Iff.rfl
theorem Hi (x0 x1 x2 x3:Option D)(d:D)(r:ST)(μ:Mu)(Q:DK):ag 4 (x0::x1::x2::x3::some d::r) μ Q=Q d μ:=propext Iff.rfl
theorem DM (x0 x1 x2 x3 x4:Option D)(r:ST)(d:D)(μ:Mu)(k:ST→Mu→Prop):au 4 d (x0::x1::x2::x3::x4::r) μ k=k (x0::x1::x2::x3::some d::r) μ:=propext Iff.rfl
theorem Jd (x0 x1 x2 x3 x4:Option D)(d:D)(r:ST)(μ:Mu)(Q:DK):ag 5 (x0::x1::x2::x3::x4::some d::r) μ Q=Q d μ:=propext Iff.rfl
theorem EC (x0 x1 x2 x3 x4 x5:Option D)(r:ST)(d:D)(μ:Mu)(k:ST→Mu→Prop):au 5 d (x0::x1::x2::x3::x4::x5::r) μ k=k (x0::x1::x2::x3::x4::some d::r) μ:=propext Iff.rfl
theorem HU (x0 x1 x2 x3 x4 x5:Option D)(d:D)(r:ST)(μ:Mu)(Q:DK):ag 6 (x0::x1::x2::x3::x4::x5::some d::r) μ Q=Q d μ:=propext Iff.rfl
theorem E5 (x0 x1 x2 x3 x4 x5 x6:Option D)(r:ST)(d:D)(μ:Mu)(k:ST→Mu→Prop):au 6 d (x0::x1::x2::x3::x4::x5::x6::r) μ k=k (x0::x1::x2::x3::x4::x5::some d::r) μ:=propext Iff.rfl
theorem Ha (x0 x1 x2 x3 x4 x5 x6:Option D)(d:D)(r:ST)(μ:Mu)(Q:DK):ag 7 (x0::x1::x2::x3::x4::x5::x6::some d::r) μ Q=Q d μ:=propext Iff.rfl
theorem Ds (x0 x1 x2 x3 x4 x5 x6 x7:Option D)(r:ST)(d:D)(μ:Mu)(k:ST→Mu→Prop):au 7 d (x0::x1::x2::x3::x4::x5::x6::x7::r) μ k=k (x0::x1::x2::x3::x4::x5::x6::some d::r) μ:=propext Iff.rfl
theorem Hh (x0 x1 x2 x3 x4 x5 x6 x7:Option D)(d:D)(r:ST)(μ:Mu)(Q:DK):ag 8 (x0::x1::x2::x3::x4::x5::x6::x7::some d::r) μ Q=Q d μ:=propext Iff.rfl
theorem Fe (x0 x1 x2 x3 x4 x5 x6 x7 x8:Option D)(r:ST)(d:D)(μ:Mu)(k:ST→Mu→Prop):au 8 d (x0::x1::x2::x3::x4::x5::x6::x7::x8::r) μ k=k (x0::x1::x2::x3::x4::x5::x6::x7::some d::r) μ:=propext Iff.rfl
theorem Gy (x0 x1 x2 x3 x4 x5 x6 x7 x8:Option D)(d:D)(r:ST)(μ:Mu)(Q:DK):ag 9 (x0::x1::x2::x3::x4::x5::x6::x7::x8::some d::r) μ Q=Q d μ:=propext Iff.rfl
theorem DN (x0 x1 x2 x3 x4 x5 x6 x7 x8 x9:Option D)(r:ST)(d:D)(μ:Mu)(k:ST→Mu→Prop):au 9 d (x0::x1::x2::x3::x4::x5::x6::x7::x8::x9::r) μ k=k (x0::x1::x2::x3::x4::x5::x6::x7::x8::some d::r) μ:=propext Iff.rfl
theorem Fg (x0 x1 x2 x3 x4 x5 x6 x7 x8 x9:Option D)(d:D)(r:ST)(μ:Mu)(Q:DK):ag 10 (x0::x1::x2::x3::x4::x5::x6::x7::x8::x9::some d::r) μ Q=Q d μ:=propext Iff.rfl
theorem Cv (x0 x1 x2 x3 x4 x5 x6 x7 x8 x9 x10:Option D)(r:ST)(d:D)(μ:Mu)(k:ST→Mu→Prop):au 10 d (x0::x1::x2::x3::x4::x5::x6::x7::x8::x9::x10::r) μ k=k (x0::x1::x2::x3::x4::x5::x6::x7::x8::x9::some d::r) μ:=propext Iff.rfl
theorem ER (x0 x1 x2 x3 x4 x5 x6 x7 x8 x9 x10:Option D)(d:D)(r:ST)(μ:Mu)(Q:DK):ag 11 (x0::x1::x2::x3::x4::x5::x6::x7::x8::x9::x10::some d::r) μ Q=Q d μ:=propext Iff.rfl
theorem CI (x0 x1 x2 x3 x4 x5 x6 x7 x8 x9 x10 x11:Option D)(r:ST)(d:D)(μ:Mu)(k:ST→Mu→Prop):au 11 d (x0::x1::x2::x3::x4::x5::x6::x7::x8::x9::x10::x11::r) μ k=k (x0::x1::x2::x3::x4::x5::x6::x7::x8::x9::x10::some d::r) μ:=propext Iff.rfl
theorem EM (x0 x1 x2 x3 x4 x5 x6 x7 x8 x9 x10 x11:Option D)(d:D)(r:ST)(μ:Mu)(Q:DK):ag 12 (x0::x1::x2::x3::x4::x5::x6::x7::x8::x9::x10::x11::some d::r) μ Q=Q d μ:=propext Iff.rfl
theorem Cy (x0 x1 x2 x3 x4 x5 x6 x7 x8 x9 x10 x11 x12:Option D)(r:ST)(d:D)(μ:Mu)(k:ST→Mu→Prop):au 12 d (x0::x1::x2::x3::x4::x5::x6::x7::x8::x9::x10::x11::x12::r) μ k=k (x0::x1::x2::x3::x4::x5::x6::x7::x8::x9::x10::x11::some d::r) μ:=propext Iff.rfl
theorem EO (x0 x1 x2 x3 x4 x5 x6 x7 x8 x9 x10 x11 x12:Option D)(d:D)(r:ST)(μ:Mu)(Q:DK):ag 13 (x0::x1::x2::x3::x4::x5::x6::x7::x8::x9::x10::x11::x12::some d::r) μ Q=Q d μ:=propext Iff.rfl
theorem AR (x0 x1 x2 x3 x4 x5 x6 x7 x8 x9 x10 x11 x12 x13:Option D)(r:ST)(d:D)(μ:Mu)(k:ST→Mu→Prop):au 13 d (x0::x1::x2::x3::x4::x5::x6::x7::x8::x9::x10::x11::x12::x13::r) μ k=k (x0::x1::x2::x3::x4::x5::x6::x7::x8::x9::x10::x11::x12::some d::r) μ:=propext Iff.rfl
theorem Fx (x0 x1 x2 x3 x4 x5 x6 x7 x8 x9 x10 x11 x12 x13:Option D)(d:D)(r:ST)(μ:Mu)(Q:DK):ag 14 (x0::x1::x2::x3::x4::x5::x6::x7::x8::x9::x10::x11::x12::x13::some d::r) μ Q=Q d μ:=propext Iff.rfl
theorem Bv (x0 x1 x2 x3 x4 x5 x6 x7 x8 x9 x10 x11 x12 x13 x14:Option D)(r:ST)(d:D)(μ:Mu)(k:ST→Mu→Prop):au 14 d (x0::x1::x2::x3::x4::x5::x6::x7::x8::x9::x10::x11::x12::x13::x14::r) μ k=k (x0::x1::x2::x3::x4::x5::x6::x7::x8::x9::x10::x11::x12::x13::some d::r) μ:=propext Iff.rfl
theorem L0 (d:D)(ρ:ST)(μ:Mu)(Q:DK):TC d ρ μ Q=Q d μ:=propext Iff.rfl
theorem Gk (r:DR2)(a b:ETr)(ρ:ST)(μ:Mu)(Q:DK):ak r a b ρ μ Q=a ρ μ fun x μ1=>b ρ μ1 fun y μ2=>r x y μ2 Q:=propext Iff.rfl
theorem KC (r:DR)(a:ETr)(ρ:ST)(μ:Mu)(Q:DK):TUn r a ρ μ Q=a ρ μ fun x μ1=>r x μ1 Q:=propext Iff.rfl
theorem DD (a b:ETr)(ρ:ST)(μ:Mu)(Q:DK):eR a b ρ μ Q=a ρ μ fun x μ1=>kB x fun c=>kIf c (b ρ μ1 Q) (Q (.bl false) μ1):=propext Iff.rfl
theorem ID (a b:ETr)(ρ:ST)(μ:Mu)(Q:DK):zy a b ρ μ Q=a ρ μ fun x μ1=>kB x fun c=>kIf c (Q (.bl true) μ1) (b ρ μ1 Q):=propext Iff.rfl
theorem DZ (a:ETr)(ρ:ST)(μ:Mu)(Q:DK):jF a ρ μ Q=a ρ μ fun x μ1=>kB x fun c=>Q (.bl (!c)) μ1:=propext Iff.rfl
theorem Lh (t:ETr)(ρ:ST)(μ:Mu)(Q:Bool→Mu→Prop):TB t ρ μ Q=t ρ μ fun x μ1=>kB x fun c=>Q c μ1:=propext Iff.rfl
theorem GQ (t u:TTr)(ρ:ST)(μ:Mu)(Q:Bool→Mu→Prop):u4 t u ρ μ Q=t ρ μ fun c μ1=>kIf c (u ρ μ1 Q) (Q false μ1):=propext Iff.rfl
theorem Kf (t u:TTr)(ρ:ST)(μ:Mu)(Q:Bool→Mu→Prop):TOr t u ρ μ Q=t ρ μ fun c μ1=>kIf c (Q true μ1) (u ρ μ1 Q):=propext Iff.rfl
theorem Jl (t:TTr)(ρ:ST)(μ:Mu)(Q:Bool→Mu→Prop):lg t ρ μ Q=t ρ μ fun c μ1=>Q (!c) μ1:=propext Iff.rfl
theorem G1 (ρ:ST)(μ:Mu)(Q:List D→Mu→Prop):aw ρ μ Q=Q [] μ:=propext Iff.rfl
theorem Ex (a:ETr)(r:ATr)(ρ:ST)(μ:Mu)(Q:List D→Mu→Prop):af a r ρ μ Q=a ρ μ fun x μ1=>r ρ μ1 fun xs μ2=>Q (x::xs) μ2:=propext Iff.rfl
theorem Hl (t:ATr)(ρ:ST)(μ:Mu)(Q:DK):dW t ρ μ Q=t ρ μ fun ds μ1=>LEN ds (Q (.tup ds) μ1):=propext Iff.rfl
theorem GN (t:ATr)(ρ:ST)(μ:Mu)(Q:DK):eO t ρ μ Q=t ρ μ fun ds μ1=>LEN ds (Q (.ls ds) μ1):=propext Iff.rfl
theorem GL (t:ATr)(ρ:ST)(μ:Mu)(Q:DK):rA t ρ μ Q=t ρ μ fun ds μ1=>LEN ds (∀ p,μ1 p=none→Q (.obj p) (up μ1 p (.lst ds))):=propext Iff.rfl
theorem D0 (sp:FSp)(t:ATr)(ρ:ST)(μ:Mu)(Q:DK):ao sp t ρ μ Q=t ρ μ fun ds μ1=>bX sp ds μ1 Q:=propext Iff.rfl
theorem Fq (nx:ST→Mu→Prop)(rt:DK)(bk ct:ST→Mu→Prop)(ρ:ST)(μ:Mu):bh ⟨nx,rt,bk,ct⟩ ρ μ=nx ρ μ:=propext Iff.rfl
theorem IG (t u:STr)(nx:ST→Mu→Prop)(rt:DK)(bk ct:ST→Mu→Prop)(ρ:ST)(μ:Mu):aF t u ⟨nx,rt,bk,ct⟩ ρ μ=t ⟨u ⟨nx,rt,bk,ct⟩,rt,bk,ct⟩ ρ μ:=propext Iff.rfl
theorem Eo (e:ETr)(nx:ST→Mu→Prop)(rt:DK)(bk ct:ST→Mu→Prop)(ρ:ST)(μ:Mu):iN e ⟨nx,rt,bk,ct⟩ ρ μ=e ρ μ fun _ μ1=>nx ρ μ1:=propext Iff.rfl
theorem Jp (e:ETr)(nx:ST→Mu→Prop)(rt:DK)(bk ct:ST→Mu→Prop)(ρ:ST)(μ:Mu):aS e ⟨nx,rt,bk,ct⟩ ρ μ=e ρ μ rt:=propext Iff.rfl
theorem Gg (c:TTr)(t u:STr)(nx:ST→Mu→Prop)(rt:DK)(bk ct:ST→Mu→Prop)(ρ:ST)(μ:Mu):cA c t u ⟨nx,rt,bk,ct⟩ ρ μ=c ρ μ fun b μ1=>kIf b (t ⟨nx,rt,bk,ct⟩ ρ μ1) (u ⟨nx,rt,bk,ct⟩ ρ μ1):=propext Iff.rfl
theorem Gz (e:ETr)(g:GTr)(nx:ST→Mu→Prop)(rt:DK)(bk ct:ST→Mu→Prop)(ρ:ST)(μ:Mu):aO e g ⟨nx,rt,bk,ct⟩ ρ μ=e ρ μ fun d μ1=>g d ρ μ1 nx:=propext Iff.rfl
theorem IU (i j:Nat)(a:ATr)(nx:ST→Mu→Prop)(rt:DK)(bk ct:ST→Mu→Prop)(ρ:ST)(μ:Mu):wg i j a ⟨nx,rt,bk,ct⟩ ρ μ=a ρ μ fun ds μ1=>k2 ds fun v w=>au i v ρ μ1 fun ρ2 μ2=>au j w ρ2 μ2 nx:=propext Iff.rfl
theorem AH (o k e:ETr)(nx:ST→Mu→Prop)(rt:DK)(bk ct:ST→Mu→Prop)(ρ:ST)(μ:Mu):iu o k e ⟨nx,rt,bk,ct⟩ ρ μ=e ρ μ fun y μ1=>o ρ μ1 fun x μ2=>k ρ μ2 fun z μ3=>Ez x z y μ3 fun μ4=>nx ρ μ4:=propext Iff.rfl
theorem Jh (it:ATr)(g:GTr)(b:STr)(nx:ST→Mu→Prop)(rt:DK)(bk ct:ST→Mu→Prop)(ρ:ST)(μ:Mu):j4 it g b ⟨nx,rt,bk,ct⟩ ρ μ=it ρ μ fun ds μ1=>forR g b ⟨nx,rt,bk,ct⟩ ds ρ μ1:=propext Iff.rfl
theorem zP (a:ETr)(ρ:ST)(μ:Mu)(Q:List D→Mu→Prop):di a ρ μ Q=a ρ μ fun x μ1=>kI x fun j=>(-4611686018427387904≤j∧j < 4611686018427387904)∧Q (dq 0 j.toNat) μ1:=propext Iff.rfl
theorem xj (a:ETr)(ρ:ST)(μ:Mu)(Q:List D→Mu→Prop):JK (af a aw) ρ μ Q=a ρ μ fun x μ1=>kLs x fun ds=>Q (jE ds) μ1:=propext (Iff.of_eq (congrArg (a ρ μ) (funext fun x=>funext fun μ1=>by cases x<;>rfl)))
theorem zJ (a b:ETr)(ρ:ST)(μ:Mu)(Q:List D→Mu→Prop):jA a b ρ μ Q=a ρ μ fun x μ1=>b ρ μ1 fun y μ2=>kI x fun i=>kI y fun j=>((-4611686018427387904≤i∧i < 4611686018427387904)∧-4611686018427387904≤j∧j < 4611686018427387904)∧Q (dq i (j - i).toNat) μ2:=propext Iff.rfl
theorem GP (a:ETr)(ρ:ST)(μ:Mu)(Q:DK):vV a ρ μ Q=a ρ μ fun x μ1=>kObj x fun b=>kL μ1 b fun ds=>Q (.ls ds) (dn μ1 b):=propext Iff.rfl
theorem I0 (To Te:ETr)(ρ:ST)(μ:Mu)(Q:DK):uo To Te ρ μ Q=To ρ μ fun x μ1=>kObj x fun a=>kL μ1 a fun _=>Te ρ μ1 fun y μ2=>kL μ2 a fun ds=>ds.length < 1000000∧Q .non (up μ2 a (.lst (ds++[y]))):=propext Iff.rfl
theorem JY (a:ETr)(lo hi:OTr)(ρ:ST)(μ:Mu)(Q:DK):TSl a lo hi ρ μ Q=a ρ μ fun x μ1=>lo ρ μ1 fun l μ2=>hi ρ μ2 fun h μ3=>rSl x l h μ3 Q:=propext Iff.rfl
theorem K7 (ρ:ST)(μ:Mu)(Q:Option Int→Mu→Prop):ONo ρ μ Q=Q none μ:=propext Iff.rfl
theorem GW (T:ETr)(ρ:ST)(μ:Mu)(Q:Option Int→Mu→Prop):mP T ρ μ Q=T ρ μ fun x μ1=>kI x fun i=>Q (some i) μ1:=propext Iff.rfl
theorem IH (i0 i1:Nat)(d0 d1:D)(ρ:ST)(μ:Mu)(k:ST→Mu→Prop):eG [i0,i1] (.tup [d0,d1]) ρ μ k=au i0 d0 ρ μ fun ρ1 _=>au i1 d1 ρ1 μ fun ρ2 _=>k ρ2 μ:=by simp[eG,fQ,au]
theorem Jm (i0 i1 i2:Nat)(d0 d1 d2:D)(ρ:ST)(μ:Mu)(k:ST→Mu→Prop):eG [i0,i1,i2] (.tup [d0,d1,d2]) ρ μ k=au i0 d0 ρ μ fun ρ1 _=>au i1 d1 ρ1 μ fun ρ2 _=>au i2 d2 ρ2 μ fun ρ3 _=>k ρ3 μ:=by simp[eG,fQ,au]
theorem Hj (i0 i1 i2 i3 i4 i5:Nat)(d0 d1 d2 d3 d4 d5:D)(ρ:ST)(μ:Mu)(k:ST→Mu→Prop):eG [i0,i1,i2,i3,i4,i5] (.tup [d0,d1,d2,d3,d4,d5]) ρ μ k=au i0 d0 ρ μ fun ρ1 _=>au i1 d1 ρ1 μ fun ρ2 _=>au i2 d2 ρ2 μ fun ρ3 _=>au i3 d3 ρ3 μ fun ρ4 _=>au i4 d4 ρ4 μ fun ρ5 _=>au i5 d5 ρ5 μ fun ρ6 _=>k ρ6 μ:=by simp[eG,fQ,au]
theorem Ki (P:Prop):LEN [] P=P:=by simp[LEN]
theorem KI (x0:D)(P:Prop):LEN [x0] P=P:=by simp[LEN]
theorem JV (x0 x1:D)(P:Prop):LEN [x0,x1] P=P:=by simp[LEN]
theorem Kn (x0 x1 x2:D)(P:Prop):LEN [x0,x1,x2] P=P:=by simp[LEN]
theorem KS (x0 x1 x2 x3:D)(P:Prop):LEN [x0,x1,x2,x3] P=P:=by simp[LEN]
theorem Kx (x0 x1 x2 x3 x4:D)(P:Prop):LEN [x0,x1,x2,x3,x4] P=P:=by simp[LEN]
theorem KH (x0 x1 x2 x3 x4 x5:D)(P:Prop):LEN [x0,x1,x2,x3,x4,x5] P=P:=by simp[LEN]
theorem IE (x0:D)(r:List D)(μ:Mu)(Q:DK):L3.rIx (.tup (x0::r)) (.int 0) μ Q=Q x0 μ:=by rw[sP];exact congrArg (fun o=>kO o fun d=>Q d μ) (cT 0 _)
theorem HY (x0 x1:D)(r:List D)(μ:Mu)(Q:DK):L3.rIx (.tup (x0::x1::r)) (.int 1) μ Q=Q x1 μ:=by rw[sP];exact congrArg (fun o=>kO o fun d=>Q d μ) (cT 1 _)
theorem IK (i j:Int)(μ:Mu)(Q:DK):L3.rEq (.int i) (.int j) μ Q=Q (.bl (decide (i=j))) μ:=by simp[L3.rEq,okD,eqD]
theorem IT (i j:Int)(μ:Mu)(Q:DK):L3.rNe (.int i) (.int j) μ Q=Q (.bl (!decide (i=j))) μ:=by simp[L3.rNe,okD,eqD]
theorem Gs (i j:Str)(μ:Mu)(Q:DK):L3.rEq (.str i) (.str j) μ Q=((PyData.strOk i=true∧PyData.strOk j=true)∧Q (.bl (decide (i=j))) μ):=by simp[L3.rEq,okD,eqD]
theorem Gu (i:Int)(μ:Mu)(Q:DK):bX tS [.int i] μ Q=Q (.int (if i < 0 then -i else i)) μ:=propext Iff.rfl
theorem HH (i j:Int)(μ:Mu)(Q:DK):bX jj [.int i,.int j] μ Q=Q (.int (max i j)) μ:=by show Q (.int (if j > i then j else i)) μ=_;congr 2;omega
theorem G0 (i j:Int)(μ:Mu)(Q:DK):bX ko [.int i,.int j] μ Q=Q (.int (min i j)) μ:=by show Q (.int (if j < i then j else i)) μ=_;congr 2;omega
theorem Cm (a:List D)(μ:Mu)(Q:DK):bX dm [.ls a] μ Q=Q (.tup a) μ:=propext Iff.rfl
theorem Bi (a:Addr)(μ:Mu)(Q:DK):bX dm [.obj a] μ Q=kL μ a fun xs=>Q (.tup xs) μ:=propext Iff.rfl
theorem G3 (a:Addr)(μ:Mu)(Q:DK):bX dH [.obj a] μ Q=kL μ a fun xs=>Q (.int xs.length) μ:=propext Iff.rfl
theorem HB (x:Str)(μ:Mu)(Q:DK):bX dH [.str x] μ Q=(x.length≤1000000∧Q (.int x.length) μ):=propext Iff.rfl
theorem Ct (a:List D)(μ:Mu)(Q:DK):bX dH [.tup a] μ Q=Q (.int a.length) μ:=propext Iff.rfl
theorem Ag (a:List D)(μ:Mu)(Q:DK):bX dH [.ls a] μ Q=Q (.int a.length) μ:=propext Iff.rfl
theorem Jv (n:Nat)(i:Int):okD n (.int i)=true:=by cases n<;>simp[okD]
theorem Jt (n:Nat)(i:Bool):okD n (.bl i)=true:=by cases n<;>simp[okD]
theorem Kb (n:Nat)(x:Str):okD n (.str x)=PyData.strOk x:=by cases n<;>simp[okD]
theorem FT (i j:Int):eqD (.int i) (.int j)=decide (i=j):=by simp[eqD]
theorem FR (i j:Str):eqD (.str i) (.str j)=decide (i=j):=by simp[eqD]
theorem F4 (i j:Bool):eqD (.bl i) (.bl j)=(i == j):=by simp[eqD]
theorem EA (A B:Prop):kIf true A B=A:=propext Iff.rfl
theorem DH (A B:Prop):kIf false A B=B:=propext Iff.rfl
theorem DA (c:Bool)(f):kB (.bl c) f=f c:=propext Iff.rfl
theorem AV (c:Int)(f):kI (.int c) f=f c:=propext Iff.rfl
theorem CD (c:List D)(f):kS (.tup c) f=f c:=propext Iff.rfl
theorem Eg (c:List D)(f):kS (.ls c) f=f c:=propext Iff.rfl
theorem z9 (a b:D)(f):k2 [a,b] f=f a b:=propext Iff.rfl
theorem zQ (c:Nat)(f):kN (some c) f=f c:=propext Iff.rfl
theorem u5 (a:Addr)(n:Int)(y:D)(μ:Mu)(f):Ez (.obj a) (.int n) y μ f=kL μ a fun ds=>kN (L2.ixN ds.length n) fun j=>f (up μ a (.lst (ds.set j y))):=propext Iff.rfl
theorem yR (i j:Int)(μ Q):aK (.int i) (.int j) μ Q=Q (.int (i+j)) μ:=propext Iff.rfl
theorem zR (i j:Str)(μ Q):aK (.str i) (.str j) μ Q=(i.length+j.length≤1000000∧Q (.str (i++j)) μ):=propext Iff.rfl
theorem ze (a b:List D)(μ Q):aK (.ls a) (.ls b) μ Q=(a.length+b.length≤1000000∧Q (.ls (a++b)) μ):=propext Iff.rfl
theorem Bk (i j:Int)(μ Q):eK (.int i) (.int j) μ Q=Q (.int (i - j)) μ:=propext Iff.rfl
theorem Ak (i j:Int)(μ Q):cI (.int i) (.int j) μ Q=(MulOk i j∧Q (.int (i*j)) μ):=propext Iff.rfl
theorem Bt (i j:Int)(μ Q):f7 (.int i) (.int j) μ Q=(eP j∧Q (.int (i.fdiv j)) μ):=propext Iff.rfl
theorem BF (i j:Int)(μ Q):lC (.int i) (.int j) μ Q=(j≠0∧Q (.int (i.fmod j)) μ):=propext Iff.rfl
theorem CH (i j:Int)(μ Q):AU (.int i) (.int j) μ Q=(tQ i j∧Q (.int (i ^ j.toNat)) μ):=propext Iff.rfl
theorem BZ (i:Int)(μ Q):nH (.int i) μ Q=Q (.int (-i)) μ:=propext Iff.rfl
theorem D4 (i j:Int)(μ Q):rLt (.int i) (.int j) μ Q=Q (.bl (decide (i < j))) μ:=propext Iff.rfl
theorem Ew (i j:Int)(μ Q):rLe (.int i) (.int j) μ Q=Q (.bl (decide (i≤j))) μ:=propext Iff.rfl
theorem Fj (i j:Int)(μ Q):rGt (.int i) (.int j) μ Q=Q (.bl (decide (j < i))) μ:=propext Iff.rfl
theorem DC (i j:Int)(μ Q):rGe (.int i) (.int j) μ Q=Q (.bl (decide (j≤i))) μ:=propext Iff.rfl
theorem Fc (a:Addr)(i:Int)(μ Q):L3.rIx (.obj a) (.int i) μ Q=kL μ a fun ds=>kO (atD ds i) fun d=>Q d μ:=propext Iff.rfl
theorem BO (c:String)(i:Int)(μ Q):gf c (.int i) μ Q=Q (.bl (ba "int" c)) μ:=propext Iff.rfl
theorem BC (c:String)(i:Bool)(μ Q):gf c (.bl i) μ Q=Q (.bl (ba "bool" c)) μ:=propext Iff.rfl
theorem Am (c:String)(i:List D)(μ Q):gf c (.tup i) μ Q=Q (.bl (ba "tuple" c)) μ:=propext Iff.rfl
theorem AW (c:String)(i:Str)(μ Q):gf c (.str i) μ Q=Q (.bl (ba "str" c)) μ:=propext Iff.rfl
theorem Em (μ Q):rIs .non .non μ Q=Q (.bl true) μ:=propext Iff.rfl
theorem Dw (i:Int)(μ Q):rIs (.int i) .non μ Q=Q (.bl false) μ:=propext Iff.rfl
theorem wZ (μ Q):eI .non .non μ Q=Q (.bl false) μ:=propext Iff.rfl
theorem wu (i:Int)(μ Q):eI (.int i) .non μ Q=Q (.bl true) μ:=propext Iff.rfl
theorem E1 (a:List D)(lo hi)(μ Q):rSl (.tup a) lo hi μ Q=Q (.tup (cutD a lo hi)) μ:=propext Iff.rfl
theorem Fi (a:List D)(lo hi)(μ Q):rSl (.ls a) lo hi μ Q=Q (.ls (cutD a lo hi)) μ:=propext Iff.rfl
theorem xP (ds:List D)(i:Int)(μ Q):L3.rIx (.tup ds) (.int i) μ Q=kO (atD ds i) fun d=>Q d μ:=propext Iff.rfl
theorem xO (ds:List D)(i:Int)(μ Q):L3.rIx (.ls ds) (.int i) μ Q=kO (atD ds i) fun d=>Q d μ:=propext Iff.rfl
theorem xr (x y:D)(μ Q):L3.rEq x y μ Q=((okD 40 x=true∧okD 40 y=true)∧Q (.bl (eqD x y)) μ):=propext Iff.rfl
theorem xD (x y:D)(μ Q):L3.rNe x y μ Q=((okD 40 x=true∧okD 40 y=true)∧Q (.bl (!eqD x y)) μ):=propext Iff.rfl
theorem kif {p:Prop} [Decidable p] {A B:Prop}(h1:p→A)(h2:¬ p→B):kIf (decide p) A B:=by
  by_cases h:p
  · rw[decide_eq_true h];exact h1 h
  · rw[decide_eq_false h];exact h2 h
theorem Mg {p:Prop} [Decidable p] {A B:Prop}(h1:¬ p→A)(h2:p→B):kIf (!decide p) A B:=by
  by_cases h:p
  · rw[decide_eq_true h];exact h2 h
  · rw[decide_eq_false h];exact h1 h
theorem CV {o:Option D}{d:D}{f:D→Prop}(e:o=some d)(h:f d):kO o f:=by rw[e];exact h
theorem cH {μ:Mu}{a:Addr}{ds:List D}{f:List D→Prop}(e:μ a=some (.lst ds))(h:f ds):kL μ a f:=by rw[Kt e];exact h
section
open PySem PySem.Spec PyProof.Rows L2
def FZ (kvs:List (Str×D))(s:Str):Option D:=(kvs.find? fun kv=>decide (kv.1=s)).map (·.2)
def ym (K:PySem.W.Frag):List DictEntry→List (Str×D)→Prop
  | [],[]=>True
  | e::es,(x,d)::r=>(∃ t,e.key=.str x t)∧(∃ v,RelV v e.val∧∀ H,Dp K H v d)∧ym K es r
  | _,_=>False
theorem tG (s x:Str)(t:Tok):Value.isStrOf s (.str x t)=decide (x=s):=by
  by_cases h:x=s
  · subst h;simp[Value.isStrOf]
  · rw[decide_eq_false h];simp[Value.isStrOf];first | exact h | exact fun z=>h z.symm
theorem ym.find {K:PySem.W.Frag}(s:Str):∀ {es:List DictEntry} {kvs:List (Str×D)},ym K es kvs→
    match FZ kvs s with
    | none=>(es.find? fun e=>Value.isStrOf s e.key)=none
    | some d=>∃ e v,(es.find? fun e=>Value.isStrOf s e.key)=some e∧RelV v e.val∧∀ H,Dp K H v d
  | [],[],_=>rfl
  | e::es,(x,d)::r,h=>by
    obtain ⟨⟨t,ht⟩,⟨v,rv,pv⟩,hr⟩:=h
    have ih:=ym.find s hr
    unfold FZ at ih ⊢
    rw[List.find?_cons,List.find?_cons,ht,tG]
    by_cases hx:x=s
    · simp only[decide_eq_true hx,Option.map_some]
      exact ⟨e,v,rfl,rv,pv⟩
    · simp only[decide_eq_false hx]
      exact ih
  | [],_::_,h=>False.elim h
  | _::_,[],h=>False.elim h
section
variable {X:Cx} {a b c e:Expr} {Ta Tb Te:ETr} {pos gpos:Pos} {x:Str} {kvs:List (Str×D)}
end
section
variable {X:Cx} {a b:Expr} {Ta Tb:ETr} {pos:Pos}
end
end
section
open PySem PySem.Spec PyProof.Rows L2
def cV (kvs:List (Key×D))(k:Key):Option D:=(kvs.find? fun kv=>decide (kv.1=k)).map (·.2)
def putD (kvs:List (Key×D))(k:Key)(v:D):List (Key×D):=
  if (kvs.any fun kv=>decide (kv.1=k))=true then kvs.map (fun kv=>if kv.1=k then (kv.1,v) else kv) else kvs++[(k,v)]
def y6 (x:D)(f:Key→Prop):Prop:=match x with
  | .int i=>f (.inl i)
  | .str s=>f (.inr s)
  | _=>False
theorem DpK.nil {K:PySem.W.Frag}{H:Hp}:DpK K H [] []:=⟨rfl,.nil⟩
theorem DpK.cons {K:PySem.W.Frag}{H:Hp}{k:Key}{v:V}{d:D}{xs:List (Key×V)}{kvs:List (Key×D)}(h:Dp K H v d)(r:DpK K H xs kvs):DpK K H ((k,v)::xs) ((k,d)::kvs):=
  ⟨by simp[r.1],.cons h r.2⟩
theorem DpK.ind {K:PySem.W.Frag}{H:Hp}{P:List (Key×V)→List (Key×D)→Prop}(h0:P [] [])(h1:∀ k v d xs kvs,Dp K H v d→DpK K H xs kvs→P xs kvs→P ((k,v)::xs) ((k,d)::kvs)) :
    ∀ {xs:List (Key×V)} {kvs:List (Key×D)},DpK K H xs kvs→P xs kvs
  | [],[],_=>h0
  | [],_::_,h=>by cases h.1
  | _::_,[],h=>by cases h.1
  | (k,v)::xs,(k',d)::kvs,h=>by
    obtain ⟨h2,h3⟩:=h
    simp only[List.map_cons,List.cons.injEq] at h2
    obtain ⟨rfl,h2⟩:=h2
    cases h3 with
    | cons p l=>exact h1 k v d xs kvs p ⟨h2,l⟩ (DpK.ind h0 h1 ⟨h2,l⟩)
theorem DpK.look {K:PySem.W.Frag}{H:Hp}{xs:List (Key×V)}{kvs:List (Key×D)}(h:DpK K H xs kvs)(k:Key) :
    (cV kvs k=none∧gI xs k=none)∨∃ v d,cV kvs k=some d∧gI xs k=some v∧Dp K H v d:=by
  refine DpK.ind (P:=fun xs kvs=>(cV kvs k=none∧gI xs k=none)∨∃ v d,cV kvs k=some d∧gI xs k=some v∧Dp K H v d) (.inl ⟨rfl,rfl⟩) (fun j v d xs kvs p _ ih=>?_) h
  by_cases e:j=k
  · refine .inr ⟨v,d,?_,jr (p:=(j,v)) e,p⟩
    unfold cV;rw[List.find?_cons];simp[e]
  · have e1:cV ((j,d)::kvs) k=cV kvs k:=by unfold cV;rw[List.find?_cons];simp[e]
    rw[e1,je (p:=(j,v)) e]
    exact ih
theorem DpK.any {K:PySem.W.Frag}{H:Hp}{xs:List (Key×V)}{kvs:List (Key×D)}(h:DpK K H xs kvs)(k:Key):(xs.any fun kv=>decide (kv.1=k))=kvs.any fun kv=>decide (kv.1=k):=by
  refine DpK.ind (P:=fun xs kvs=>(xs.any fun kv=>decide (kv.1=k))=kvs.any fun kv=>decide (kv.1=k)) rfl (fun j v d xs kvs p _ ih=>?_) h
  rw[List.any_cons,List.any_cons,ih]
theorem DpK.put {K:PySem.W.Frag}{H:Hp}{xs:List (Key×V)}{kvs:List (Key×D)}(h:DpK K H xs kvs)(k:Key){v:V}{d:D}(p:Dp K H v d):DpK K H (putK xs k v) (putD kvs k d):=by
  unfold putK putD
  rw[h.any k]
  split
  · refine DpK.ind (P:=fun xs kvs=>DpK K H (xs.map fun kv=>if kv.1=k then (kv.1,v) else kv) (kvs.map fun kv=>if kv.1=k then (kv.1,d) else kv)) .nil (fun j v' d' xs kvs p' _ ih=>?_) h
    rw[List.map_cons,List.map_cons]
    by_cases e:j=k
    · rw[if_pos e,if_pos e];exact .cons p ih
    · rw[if_neg e,if_neg e];exact .cons p' ih
  · refine DpK.ind (P:=fun xs kvs=>DpK K H (xs++[(k,v)]) (kvs++[(k,d)])) (.cons p .nil) (fun j v' d' xs kvs p' _ ih=>?_) h
    exact .cons p' ih
theorem DpK.length {K:PySem.W.Frag}{H:Hp}{xs:List (Key×V)}{kvs:List (Key×D)}(h:DpK K H xs kvs):xs.length=kvs.length:=by
  have:=h.2.length
  simpa using this
theorem tM {K:PySem.W.Frag}{H:Hp}{y:V}{dy:D}{f:Key→Prop}(p:Dp K H y dy)(h:y6 dy f):∃ k,y=kV k∧f k:=by
  cases p with
  | int i=>exact ⟨.inl i,rfl,h⟩
  | str s=>exact ⟨.inr s,rfl,h⟩
  | _=>exact False.elim h
theorem nN {K:PySem.W.Frag}{H:Hp}{x:V}{dx:D}{f:Addr→Prop}(p:Dp K H x dx)(h:kObj dx f):∃ a,x=.ref a∧f a:=by
  cases p with
  | obj a=>exact ⟨a,rfl,h⟩
  | _=>exact False.elim h
theorem vb {H:Hp}{q:Addr}{u:HO}{xs:List (Key×V)}(ex:H q=some (.dK xs)):Tk H (L2.upd H q u):=
  .upd (fun ys z=>by rw[ex] at z;cases z) fun o' w z=>by rw[ex] at z;cases z
theorem GO {K:PySem.W.Frag}{H:Hp}{μ:Mu}{q:Addr}{xs ys:List (Key×V)}{ds:List (Key×D)}(m:bA K H μ)(ex:H q=some (.dK xs))(l:DpK K H ys ds):bA K (L2.upd H q (.dK ys)) (up μ q (.dct ds)):=fun z y ez=>by
  by_cases zq:z=q
  · subst zq
    rw[aN] at ez;cases ez
    exact ⟨ys,aE,l.mono (vb ex)⟩
  · rw[aV zq] at ez
    exact (m z _ ez).ne (vb ex) zq
theorem xu {K:PySem.W.Frag}{H:Hp}{μ:Mu}{q:Addr}{ys:List (Key×V)}{ds:List (Key×D)}(m:bA K H μ)(hq:H q=none)(l:DpK K H ys ds):bA K (L2.upd H q (.dK ys)) (up μ q (.dct ds)):=fun z y ez=>by
  by_cases zq:z=q
  · subst zq
    rw[aN] at ez;cases ez
    exact ⟨ys,aE,l.mono (.new hq)⟩
  · rw[aV zq] at ez
    exact cz m hq z y ez
section
variable {X:Cx} {o i a b c e value:Expr} {To Ti Ta Tb Te:ETr} {pos tpos:Pos}
theorem hu1 (hu:X.A.units+64 < cLine):X.A.units+1 < cLine:=by omega
def xF (To Ti:ETr):ETr:=fun ρ μ Q=>To ρ μ fun x μ1=>Ti ρ μ1 fun y μ2=>kObj x fun a=>kD μ2 a fun kvs=>y6 y fun k=>kO (cV kvs k) fun d=>Q d μ2
theorem xC (hu:X.A.units+64 < cLine)(ho:LE X o To)(hi:LE X i Ti)(hs:G6 i:=by intro _ _;rfl):LE X (.Subscript o i pos) (xF To Ti):=by
  obtain ⟨to,po,so⟩:=ho.ex
  obtain ⟨ti,pi,si⟩:=hi.ex
  refine ⟨_,Dx (hu1 hu) po pi hs,fun σ H ρ μ Q Q' rl h k=>so σ H ρ μ _ _ rl h fun x H1 dx μ1 t1 m1 p1 h1=>si σ H1 ρ μ1 _ _ (rl.go t1 m1) h1 fun y H2 dy μ2 t2 m2 p2 h2=>?_⟩
  obtain ⟨q,rfl,h2⟩:=nN p1 h2
  obtain ⟨kvs,e0,h2⟩:=CC h2
  obtain ⟨kk,rfl,h2⟩:=tM p2 h2
  obtain ⟨d,e1,h2⟩:=jN h2
  obtain ⟨xs,ex,l⟩:=m2 q _ e0
  rcases l.look kk with ⟨z,_⟩ | ⟨v,d',z,ev,pv⟩
  · rw[z] at e1;cases e1
  · rw[z] at e1;cases e1
    exact ⟨q,v,rfl,by rw[← ev];exact sW.k ex,k _ H2 _ μ2 (t1.trans t2) m2 pv h2⟩
def A1 (To Ti Te:ETr):STr:=fun E ρ μ=>Te ρ μ fun v μ1=>To ρ μ1 fun x μ2=>Ti ρ μ2 fun y μ3=>kObj x fun a=>kD μ3 a fun kvs=>y6 y fun k=>kvs.length < 1000000∧E.nx ρ (up μ3 a (.dct (putD kvs k v)))
theorem EK (hu:X.A.units+64 < cLine)(ho:LE X o To)(hi:LE X i Ti)(he:LE X value Te)(hs:swapsWith value (some (.Subscript o i tpos)) pos.line X.env=pure false:=by rfl) :
    LS X (.Assign [.Subscript o i tpos] value pos) (A1 To Ti Te):=by
  obtain ⟨to,po,so⟩:=ho.ex
  obtain ⟨ti,pi,si⟩:=hi.ex
  obtain ⟨te,pe,se⟩:=he.ex
  refine ⟨_,E8 (hu1 hu) po pi pe hs,fun σ H ρ μ E E' rl h k=>se σ H ρ μ _ _ rl h fun v H1 dv μ1 t1 m1 p1 h1=>so σ H1 ρ μ1 _ _ (rl.go t1 m1) h1 fun x H2 dx μ2 t2 m2 p2 h2=>
    si σ H2 ρ μ2 _ _ (rl.go (t1.trans t2) m2) h2 fun y H3 dy μ3 t3 m3 p3 h3=>?_⟩
  obtain ⟨q,rfl,h3⟩:=nN p2 h3
  obtain ⟨kvs,e0,h3⟩:=CC h3
  obtain ⟨kk,rfl,h3⟩:=tM p3 h3
  obtain ⟨xs,ex,l⟩:=m3 q _ e0
  have t4:Tk H3 (L2.upd H3 q (.dK (putK xs kk v))):=vb ex
  have t14:=t1.trans (t2.trans (t3.trans t4))
  refine ⟨q,_,rfl,vO.k ex (by rw[l.length];exact Nat.lt_of_lt_of_le h3.1 (by decide)),k.nx _ _ ρ _ t14 (rl.go t14 (GO m3 ex (l.put kk (p1.mono (t2.trans t3))))) h3.2⟩
def EH (f:Int→Int→Int)(i:Nat)(Te:ETr):STr:=fun E ρ μ=>kO (lk ρ i) fun d=>kI d fun m=>Te ρ μ fun w μ1=>kI w fun n=>au i (.int (f m n)) ρ μ1 E.nx
theorem E4 {te:TE}{K:PySem.W.Frag}{f:Int→Int→Int}{j:Nat}(se:Sim K te Te):DX K (KP j te (ipI f)) (EH f j Te):=fun σ H ρ μ E E' rl h k=>by
  obtain ⟨d,e1,h⟩:=jN h
  obtain ⟨v,ev,pv⟩:=rl.loc j d e1
  cases pv with
  | int m=>
    refine ⟨.int m,ev,se σ H ρ μ _ _ rl h fun w H1 dw μ1 t1 m1 p1 h1=>?_⟩
    cases p1 with
    | int n=>exact ⟨m,n,rfl,rfl,k.nx _ _ _ _ t1 ((rl.go t1 m1).set (.int _) j) h1⟩
    | _=>exact False.elim h1
  | _=>exact False.elim h
theorem zH (j:Nat){x:Str}(hN:X.N.Nodup)(he:LE X e Te)(hi:X.N[j]? = some x:=by rfl)(hx:Loc X.env.scope x:=by first | exact Or.inl rfl | exact Or.inr rfl)(hf:X.fn x=true∨X.env.scope.names.lookup x=some .local:=by first | exact .inl rfl | exact .inr rfl | assumption) :
    LS X (.AugAssign (.Name x tpos) .Add e pos) (EH (fun m n=>m+n) j Te):=by
  obtain ⟨te,pe,se⟩:=he.ex
  exact ⟨_,G7 hN hi hx pe Jk hf,E4 se⟩
theorem El:LE X (.Dict [] [] pos) (fun ρ μ Q=>∀ p,μ p=none→Q (.obj p) (up μ p (.dct []))):=
  ⟨_,Cp,fun σ H ρ μ Q Q' rl h k p hp=>k _ _ _ _ (.new hp) (xu rl.mu hp .nil) (.obj p) (h p (rl.mu.free hp))⟩
theorem DpK.zip {K:PySem.W.Frag}{H:Hp}:∀ {ks:List Key} {vs:List V} {ds:List D},DpL K H vs ds→DpK K H (ks.zip vs) (ks.zip ds)
  | [],_,_,_=>by simp;exact .nil
  | _::_,_,_,.nil=>by simp;exact .nil
  | k::ks,_,_,.cons p l=>.cons p (DpK.zip l)
end
end
section
open PySem PySem.Spec PyProof.Rows L2
theorem zu:typeLookup (.type "list") (Str.ofString "keys")=pure none:=am_miss_of_fast (by kernel_rfl)
theorem HM {prog:Program}{w:World}{A:Around}{E:Value→Shared→Prop}{s:Shared}{a:Addr}{o:Obj}{xs:Array Value}{k:Nat}{Q:Option Value→Shared→Prop}
    (hx:s.heap.get? a=some o) (hc:o.cls=.type "list") (hdat:o.data=.seq xs k) (hd:o.dict=none) (hA:A.handled=none)
    (h:∀ h' tk,(∀ b ob,s.heap.get? b=some ob→h'.get? b=some ob)→Q none { s with heap:=h',toks:=tk }) :
    wpAny (model prog w) A (getAttr? (.ref a) "keys") Q E s:=by
  obtain ⟨c,dct,dat,sl⟩:=o
  simp only at hc hdat hd
  subst hc hdat hd
  obtain ⟨hp,g,d,tk,os⟩:=s
  have hT:∀ tk',(⟨hp,g,d,tk',os⟩:Shared).TypeIs (.ref a) "list" := fun _=>⟨_,hx,rfl⟩
  have f1:=sub_AttributeError
  have f3:=F.slot_list_getattribute.lookup
  have f4:=F.slot_list_getattribute.bind (.ref a)
  have f5:=am_list_getattr_none
  unfold getAttr? getAttrBy? getAttrBy
  repeat (any_goals (first | assumption | exact hT _ | ((with_reducible show wpAny _ _ (call (Value.builtin "list.__getattribute__") _ _) _ _ _);refine call_meets F.slot_list_getattribute (hT _) am_entry_list_getattribute (F.args_list_getattribute_2 _ _) (meets_getattribute_miss_list a xs k sl (Str.ofString "keys") _ zu (by decide +kernel) (by decide +kernel)) ⟨hx,hA,fun h' tk' e hx'=>?_⟩) | wp_step))
  obtain ⟨t',u',he⟩:=hx'.there
  show wpAny _ _ (getattributeRaised _ _ _ _ _ _ _) _ _ _
  unfold getattributeRaised
  repeat (any_goals (first | assumption | wp_step))
  exact h _ _ hx'.keeps
theorem jd:plainId "dict.update.loop" = true:=by decide +kernel
theorem tN:entryFor table "dict.update.loop" = some Builtin.«dict.update.loop»:=entryFor_of_fast (by kernel_rfl)
inductive dj {prog:Program} {w:World} {κ:Type} [DecidableEq κ] (knd:KeyKind prog w κ) (h:Heap):List Value→List (κ×Value)→Prop
  | nil:dj knd h [] []
  | cons {a:Addr} {u v:Value} {k:κ} {us:List Value} {r:List (κ×Value)}:IsTup h a #[u,v]→knd.is k u=true→dj knd h us r→dj knd h (.ref a::us) ((k,v)::r)
section
variable {prog:Program} {w:World} {κ:Type} [DecidableEq κ] {knd:KeyKind prog w κ}
theorem dj.keeps {h h':Heap}(kp:∀ b o,h.get? b=some o→o.cls=.type "tuple" → h'.get? b=some o):∀ {us:List Value} {r:List (κ×Value)},dj knd h us r→dj knd h' us r
  | _,_,.nil=>.nil
  | _,_,.cons t k r=>.cons (by obtain ⟨o,e,c,n,d⟩:=t;exact ⟨o,kp _ o e c,c,n,d⟩) k (r.keeps kp)
theorem uF {A:Around}{R:Result→Shared→Prop}{d it l:Addr}{items:Array Value}(hA:A.handled=none)(n1:d≠it)(n2:l≠it)(n3:l≠d) :
    ∀ (us:List Value) (r:List (κ×Value)) (i:Nat) (kvs:List (κ×Value)) (s:Shared),items.toList.drop i=us→dj knd s.heap us r→s.heap.IsListIter it l i→s.heap.IsList l items→s.heap.DictOf knd d kvs→kvs.length+r.length≤sizeLine→
      (∀ h' tk,h'.DictOf knd d (merged kvs r)→(∀ b o,b≠it→b≠d→s.heap.get? b=some o→h'.get? b=some o)→R (.ok (.ret .none)) { s with heap:=h',toks:=tk })→
      wpAny (model prog w) A.in1 (Builtin.«dict.update.loop» ⟨[.ref d,.ref it,rawInt i,.none],[]⟩) (fun fin s'=>match fin with | .done f=>R (.ok f) s' | .again c'=>c'.quiet=true∧codeAny (model prog w) A c' R s') (fun e s'=>R (.error e) s') s
  | [],r,i,kvs,s,hd,P,hit,hl,hm,hz,h=>by
    cases P
    have hx:items[i]? = none:=by
      have:items.toList.length≤i:=by
        have:=congrArg List.length hd
        simp at this;simp;omega
      simpa using this
    show wpAny _ _ (pyNext (.ref it) >>= _) _ _ _
    refine wpAny_bind (wpAny_pyNext_list_end (by exact hA) hit hl hx fun h' k=>?_)
    show wpAny _ _ (Builtin.Dict.addKeywords d [] >>= _) _ _ _
    refine wpAny_bind (wpAny_pure (wpAny_pure ?_))
    refine h h' s.toks ?_ fun b o hb _ e=>k b o hb e
    obtain ⟨o,es,ep,ho,rest⟩:=hm
    exact ⟨o,es,ep,k d o n1 ho,rest⟩
  | u::us,r,i,kvs,s,hd,P,hit,hl,hm,hz,h=>by
    cases P with
    | @cons a ku v k _ r tp hk P=>
    have hx:items[i]? = some (.ref a):=by
      have:items.toList[i]? = some (.ref a):=by
        have:=congrArg (fun l=>l[0]?) hd
        simpa using this
      simpa using this
    have hd':items.toList.drop (i+1)=us:=by
      have:=congrArg List.tail hd
      simpa using this
    show wpAny _ _ (pyNext (.ref it) >>= _) _ _ _
    refine wpAny_bind (wpAny_pyNext_list_item hit hl hx fun h1 it1 k1=>?_)
    have ne_it:∀ b o,s.heap.get? b=some o→o.cls≠.type "list_iterator" → b≠it:=fun b o e c z=>by
      subst z
      obtain ⟨o',e',c',_⟩:=hit
      rw[e] at e';cases e';exact c c'
    have tp1:IsTup h1 a #[ku,v]:=by
      obtain ⟨o,e,c,n,dd⟩:=tp
      exact ⟨o,(k1.2 a (ne_it a o e (by rw[c];decide))).trans e,c,n,dd⟩
    obtain ⟨o,e,c,n,dd⟩:=tp1
    have hm1:h1.DictOf knd d kvs:=by
      obtain ⟨o,es,ep,ho,rest⟩:=hm
      exact ⟨o,es,ep,(k1.2 d n1).trans ho,rest⟩
    have hl1:h1.IsList l items:=by
      obtain ⟨o,e,c,n,dd⟩:=hl
      exact ⟨o,(k1.2 l n2).trans e,c,n,dd⟩
    dsimp only
    refine wpAny_bind (wpAny_holding ?_)
    refine wpAny_bind (wpAny_tryCatch ?_)
    unfold Builtin.Dict.pairItems
    refine wpAny_bind (wpAny_typeOf (T := "tuple") ⟨o,e,c⟩ ?_)
    rw[if_pos (by decide)]
    refine wpAny_bind (wpAny_seqItems e dd (wpAny_pure ?_))
    show wpAny _ _ (holding [ku,v] (dictSet d ku v)) _ _ _
    refine wpAny_holding (wpAny_dictSet_pairs (hsz:=by have:=hz;simp at this;omega) hk hm1 fun h2 hm2 k2=>?_)
    refine wpAny_pure ?_
    refine ⟨plainId_quiet jd _,codeAny_builtin tN ?_⟩
    rw[Around.under_plainId jd _]
    have kp:∀ b o,b≠it→b≠d→s.heap.get? b=some o→h2.get? b=some o:=fun b o b1 b2 q=>(k2.2 b b2).trans ((k1.2 b b1).trans q)
    have ci:((i:Int)+1)=((i+1:Nat):Int):=by push_cast;rfl
    have nd:∀ b o,s.heap.get? b=some o→o.cls≠.type "dict" → b≠d:=fun b o q c z=>by
      subst z
      obtain ⟨o',_,_,e',ex,_⟩:=hm
      rw[q] at e';cases e';exact c ex.1
    show wpAny _ _ (Builtin.«dict.update.loop» ⟨[.ref d,.ref it,rawInt ((i:Int)+1),.none],[]⟩) _ _ _
    rw[ci]
    refine uF hA n1 n2 n3 us r (i+1) (stored kvs k v) _ hd' (P.keeps fun b o q c=>kp b o (ne_it b o q (by rw[c];decide)) (nd b o q (by rw[c];decide)) q) ?_ ?_ hm2 ?_ ?_
    · obtain ⟨o,e,c⟩:=it1
      exact ⟨o,(k2.2 it (Ne.symm n1)).trans e,c⟩
    · obtain ⟨o,e,c⟩:=hl1
      exact ⟨o,(k2.2 l n3).trans e,c⟩
    · have:=stored_length_le kvs k v
      simp at hz;omega
    · intro h' tk hm' kp'
      exact h h' tk hm' fun b o b1 b2 q=>kp' b o b1 b2 (kp b o b1 b2 q)
end
end
section
open PySem PySem.Spec PyProof.Rows L2
section
variable {prog:Program} {w:World} {κ:Type} [DecidableEq κ] {knd:KeyKind prog w κ}
theorem kF {A:Around}{E:Value→Shared→Prop}{s:Shared}{l:Addr}{o:Obj}{items:Array Value}{k:Nat}{r:List (κ×Value)}{Q:Value→Shared→Prop}(hA:A.handled=none)
    (hx:s.heap.get? l=some o) (hc:o.cls=.type "list") (hdat:o.data=.seq items k) (hd:o.dict=none) (P:dj knd s.heap items.toList r) (hz:r.length≤sizeLine)
    (h:∀ h' tk,h'.DictOf knd s.heap.objs.size (merged [] r)→(∀ b o,s.heap.get? b=some o→h'.get? b=some o)→Q (.ref s.heap.objs.size) { s with heap:=h',toks:=tk }) :
    wpAny (model prog w) A (call (.type "dict") [.ref l]) Q E s:=by
  refine callType_codes (Q₁:=fun obj s₁=>obj=.ref s.heap.objs.size∧s₁={ s with heap:=s.heap.push { cls:=.type "dict", data:=.dict #[] } }) F.kt_called_dict (F.kt_typeCall_dict_1 _) F.entry_dict_init (kt_code_dict_new _ ⟨rfl,rfl⟩) ?_
  rintro obj s₁ ⟨rfl,rfl⟩
  have Fm:(s.heap.push { cls:=.type "dict", data:=.dict #[] }).DictOf knd s.heap.objs.size []:=Heap.DictOf.new s.heap
  have hx1:(s.heap.push { cls:=.type "dict", data:=.dict #[] }).get? l=some o:=Heap.get?_push_of_some _ hx
  have ll:l < s.heap.objs.size:=Heap.lt_size hx
  refine ⟨Fm.typeIs,F.args_dict_init_2 _ _,?_⟩
  unfold Builtin.«dict.__init__»
  refine wpAny_bind ?_
  unfold Builtin.Dict.selfAndRest
  refine wpAny_bind (wpAny_notOrdered_dict Fm.typeIs ?_)
  show wpAny _ _ (pure (s.heap.objs.size,[Value.ref l])) _ _ _
  refine wpAny_pure ?_
  show wpAny _ _ (Builtin.Dict.updateFrom "dict.__init__" s.heap.objs.size (.ref l) [] .none) _ _ _
  unfold Builtin.Dict.updateFrom
  refine wpAny_bind (wpAny_typeOf (T := "list") ⟨o,hx1,hc⟩ ?_)
  rw[if_pos (by decide)]
  refine wpAny_bind (HM hx1 hc hdat hd hA fun h1 tk1 kp1=>?_)
  rw[if_pos (by decide)]
  refine wpAny_bind (wpAny_rule ?_)
  have hx2:h1.get? l=some o:=kp1 _ _ hx1
  have hl2:h1.IsList l items:=⟨o,hx2,hc,k,hdat⟩
  have lt1:s.heap.objs.size < h1.objs.size:=by
    obtain ⟨o',es,ep,ho,_⟩:=Fm
    exact Heap.lt_size (kp1 _ _ ho)
  refine wpAny_bind (wpAny_pyIter_list hl2 ?_)
  refine wpAny_bind (wpAny_pure (wpAny_pure ?_))
  refine ⟨plainId_quiet jd _,codeAny_builtin tN ?_⟩
  rw[Around.under_plainId jd _]
  have kp2:∀ b o,s.heap.get? b=some o→(h1.push { cls:=.type "list_iterator", data:=.fields #[.ref l,.int 0 0] }).get? b=some o:=fun b o q=>Heap.get?_push_of_some _ (kp1 _ _ (Heap.get?_push_of_some _ q))
  refine uF (A:=A.in1) (knd:=knd) (it:=h1.objs.size) (d:=s.heap.objs.size) (l:=l) (items:=items) (R:=wants (fun r s₂=>r=Value.none∧Q (Value.ref s.heap.objs.size) s₂) E) hA (Nat.ne_of_lt lt1) (Nat.ne_of_lt (Nat.lt_trans ll lt1)) (Nat.ne_of_lt ll) items.toList r 0 [] _ rfl ?_ ?_ ?_ ?_ (by simpa using hz) ?_
  · exact P.keeps fun b o q _=>kp2 b o q
  · exact ⟨_,Heap.get?_push_size _ rfl,rfl,rfl⟩
  · exact ⟨o,Heap.get?_push_of_some _ hx2,hc,k,hdat⟩
  · obtain ⟨o',es,ep,ho,rest⟩:=Fm
    exact ⟨o',es,ep,Heap.get?_push_of_some _ (kp1 _ _ ho),rest⟩
  · intro h' tk hm' kp'
    refine ⟨rfl,h h' tk hm' fun b o q=>?_⟩
    have hb:b < s.heap.objs.size:=Heap.lt_size q
    exact kp' b o (Nat.ne_of_lt (Nat.lt_trans hb lt1)) (Nat.ne_of_lt hb) (kp2 b o q)
end
def dK:Key→D
  | .inl i=>.int i
  | .inr s=>.str s
def vf (kv:Key×D):D:=.tup [dK kv.1,kv.2]
def fW (kvs more:List (Key×D)):List (Key×D):=more.foldl (fun acc kv=>putD acc kv.1 kv.2) kvs
inductive c8 (K:PySem.W.Frag) (H:Hp):List V→List (Key×V)→Prop
  | nil:c8 K H [] []
  | cons {a:Addr} {k:Key} {v:V} {ys:List V} {r:List (Key×V)}:SqT K H a [kV k,v]→c8 K H ys r→c8 K H (.ref a::ys) ((k,v)::r)
theorem c8.at {X:Cx}{pins:List (Addr×Obj)}{σ:L2.St}{H:Hp}{s:Shared}(I:Inv X pins σ H s):∀ {ys:List V} {kvs:List (Key×V)} {us:List Value},c8 X.K H ys kvs→Vals ys us→∃ r,dj (bM X.prog X.w) s.heap us r∧KV kvs r
  | _,_,_,.nil,.nil=>⟨[],.nil,.nil⟩
  | _,_,_,@c8.cons _ _ a k v ys r sq h,.cons ru rs=>by
    cases (show _=Value.ref a from ru)
    obtain ⟨r,p,q⟩:=h.at I rs
    obtain ⟨its,vs,it,_⟩:=I.tuple sq
    cases vs with | @cons _ u1 _ _ r1 vs=>cases vs with | @cons _ u2 _ _ r2 vs=>
    cases vs
    exact ⟨(k,u2)::r,.cons it (xx r1) p,.cons ⟨rfl,r2⟩ q⟩
theorem u6 {X:Cx}(hc:X.calm=true):bI X (.type "dict") (fun xs H Q=>∃ l ys kvs,xs=[.ref l]∧SqL X.K H l ys∧c8 X.K H ys kvs∧kvs.length≤sizeLine∧∀ p,H p=none→Q (.ref p) (L2.upd H p (.dK (ff [] kvs)))):=by
  intro pins s σ H xs us Q I rx h
  obtain ⟨l,ys,kvs,rfl,sq,pv,hz,q⟩:=h
  obtain ⟨u,rfl,ru⟩:=vals1 rx
  cases (show u=Value.ref l from ru)
  obtain ⟨its,vs,pl,_⟩:=I.list sq
  obtain ⟨o,n,e,c,hd,hdat⟩:=pl
  obtain ⟨r,pr,kv⟩:=pv.at I vs
  refine kF (knd:=bM X.prog X.w) (I.ok.hd hc) e c hdat hd (r:=r) (by simpa using pr) (by rw[← kv.length];exact hz) fun h' tk dd kp=>?_
  have hl:(ff [] kvs).length≤sizeLine:=by have:=ig kvs [];simp at this;omega
  exact ⟨.ref s.heap.objs.size,_,I.laid (a:=s.heap.objs.size) (o:=.dK (ff [] kvs)) kp (Nat.le_refl _) (Bz hl (beq_eq_false_iff_ne.mpr (Ne.symm (Nat.ne_of_lt I.big))) (KV.merge kv .nil) dd),rfl,q _ (I.hok.fresh (Nat.le_refl _))⟩
def yk:FSp:=fun ds μ Q=>match ds with
  | [.ls xs]=>∃ kvs:List (Key×D),xs=kvs.map vf∧kvs.length≤1000000∧∀ p,μ p=none→Q (.obj p) (up μ p (.dct (fW [] kvs)))
  | _=>False
theorem HD {K:PySem.W.Frag}{H:Hp}{v:V}{k:Key}(h:Dp K H v (dK k)):v=kV k:=by
  cases k with
  | inl i=>cases h;rfl
  | inr s=>cases h;rfl
theorem c8.of {K:PySem.W.Frag}{H:Hp}:∀ {kvs:List (Key×D)} {xs:List V},DpL K H xs (kvs.map vf)→∃ r,c8 K H xs r∧DpK K H r kvs
  | [],_,h=>by cases h;exact ⟨[],.nil,.nil⟩
  | kv::kvs,_,h=>by
    obtain ⟨k,d⟩:=kv
    cases h with
    | cons p l=>
      obtain ⟨r,h1,h2⟩:=c8.of l
      cases p with
      | tup sq lp=>
        cases lp with | cons p1 lp=>cases lp with | cons p2 lp=>
        cases lp
        cases HD p1
        exact ⟨(k,_)::r,.cons sq h1,.cons p2 h2⟩
theorem DpK.merge {K:PySem.W.Frag}{H:Hp}{xs:List (Key×V)}{kvs:List (Key×D)}(h:DpK K H xs kvs):∀ {axs:List (Key×V)} {akvs:List (Key×D)},DpK K H axs akvs→DpK K H (ff axs xs) (fW akvs kvs):=
  DpK.ind (P:=fun xs kvs=>∀ {axs:List (Key×V)} {akvs:List (Key×D)},DpK K H axs akvs→DpK K H (ff axs xs) (fW akvs kvs)) (fun h=>h) (fun k v d xs kvs p _ ih axs akvs ha=>ih (ha.put k p)) h
theorem Bo {K:PySem.W.Frag}:lj K (fun xs H Q=>∃ l ys kvs,xs=[.ref l]∧SqL K H l ys∧c8 K H ys kvs∧kvs.length≤sizeLine∧∀ p,H p=none→Q (.ref p) (L2.upd H p (.dK (ff [] kvs)))) yk:=fun H μ xs ds Q Q' m p h k=>by
  unfold yk at h
  split at h
  · obtain ⟨kvs,rfl,hl,h⟩:=h
    cases p with | cons p1 p2=>
    cases p2
    cases p1 with
    | ls q l=>
      obtain ⟨r,h1,h2⟩:=c8.of l
      exact ⟨_,_,r,rfl,q.sq,h1,by rw[h2.length];exact big hl,fun z hz=>k _ _ _ _ (.new hz) (xu m hz (h2.merge .nil)) (.obj z) (h z (m.free hz))⟩
  · exact False.elim h
end
section
open PySem PySem.Spec PyProof.Rows L2
section
variable {X:Cx} {o i a b c e value:Expr} {To Ti Ta Tb Te:ETr} {pos tpos apos cpos:Pos}
def Il (To Ti:ETr):ETr:=fun ρ μ Q=>To ρ μ fun x μ1=>kObj x fun a=>kL μ1 a fun _=>Ti ρ μ1 fun y μ2=>kI y fun j=>(-9223372036854775808≤j∧j < 9223372036854775808)∧kL μ2 a fun ds=>kN (L2.ixN ds.length j) fun k=>kO ds[k]? fun d=>Q d (up μ2 a (.lst (ds.eraseIdx k)))
theorem BU {n k:Nat}{j:Int}(h:L2.ixN n j=some k):seqIndex? j n=some k:=by
  unfold L2.ixN at h
  unfold seqIndex?
  split at h
  · split at h
    · cases h
      rename_i h1 h2
      simp[show ¬ (j < 0) by omega,h1,h2]
    · cases h
  · split at h
    · cases h
      rename_i h1 h2
      simp[show j < 0 by omega]
      omega
    · cases h
theorem DpL.erase {K:PySem.W.Frag}{H:Hp}:∀ {vs:List V} {ds:List D} (i:Nat),DpL K H vs ds→DpL K H (vs.eraseIdx i) (ds.eraseIdx i)
  | _,_,_,.nil=>by simp;exact .nil
  | _,_,0,.cons _ l=>l
  | _,_,i+1,.cons q l=>.cons q (DpL.erase i l)
theorem Iq (ho:LE X o To)(hi:LE X i Ti)
    (hbase:attributeBase o "pop" X.env (eval o X.env)=eval o X.env:=by rfl)
    (hfew:((backTo cpos (starEach [i] X.env)).all (fun x=>!x.1)&&(backToKw cpos (keywordEach [] X.env)).all (fun x=>x.1.isSome)
      && decide (([i]:List Expr).length+([]:List Keyword).length+(if ([]:List Keyword).isEmpty then 0 else 1) < 30))=true:=by rfl)
    (hline:(apos.endLine == cpos.line)=true:=by rfl) (hs:starEach [i] X.env=(false,eval i X.env)::starEach [] X.env:=by rfl) (hplain:(backTo cpos (starEach [] X.env)).any (·.1)=false:=by rfl) :
    LE X (.Call (.Attribute o "pop" apos) [i] [] cpos) (Il To Ti):=by
  obtain ⟨to,po,so⟩:=ho.ex
  obtain ⟨ti,pi,si⟩:=hi.ex
  refine ⟨_,FF PySem.F.plainAttrs_list PySem.F.slot_list_pop PySem.F.type_list_pop AL po (cS pi gq hs) hbase hfew hline hs hplain,fun σ H ρ μ Q Q' rl h k=>so σ H ρ μ _ _ rl h fun x H1 dx μ1 t1 m1 p1 h1=>?_⟩
  obtain ⟨q,rfl,h1⟩:=nN p1 h1
  obtain ⟨ds0,e0,h1⟩:=ck h1
  obtain ⟨xs0,ex0,_⟩:=m1 q _ e0
  refine ⟨.inl ⟨rfl,_,SqL.of ex0⟩,si σ H1 ρ μ1 _ _ (rl.go t1 m1) h1 fun y H2 dy μ2 t2 m2 p2 h2=>?_⟩
  cases p2 with
  | int j=>
    obtain ⟨hr,h2⟩:=h2
    obtain ⟨ds,e2,h3⟩:=ck (show kL μ2 q _ from h2)
    obtain ⟨kk,e3,h3⟩:=qX h3
    obtain ⟨d,e4,h3⟩:=jN h3
    obtain ⟨xs,ex,l⟩:=m2 q _ e2
    obtain ⟨v,ev,pv⟩:=l.get e4
    have e3':L2.ixN xs.length j=some kk:=by rw[l.length];exact e3
    exact ⟨q,xs,j,kk,v,rfl,rfl,ex,by omega,by omega,BU e3',ev,k _ _ _ _ ((t1.trans t2).trans (j8 ex)) (F9 m2 ex (l.erase kk)) (pv.mono (j8 ex)) h3⟩
  | _=>exact False.elim h2
end
noncomputable def mL (h:Heap) (dx:PyData) (y:Value):Bool:=@decide (∃ d as,Reads h y d as∧PyData.canLay0 d=true∧PyData.eqv d dx=true) (Classical.propDecidable _)
theorem Fh {h:Heap}{dx d:PyData}{y:Value}{as:List Addr}(r:Reads h y d as)(hd:d.canLay0=true):mL h dx y=PyData.eqv d dx:=by
  unfold mL
  cases e:PyData.eqv d dx with
  | true=>exact @decide_eq_true _ (Classical.propDecidable _) ⟨d,as,r,hd,e⟩
  | false=>
    refine @decide_eq_false _ (Classical.propDecidable _) ?_
    rintro ⟨d',as',r',hd',e'⟩
    cases SeqAt.Reads.unique _ _ _ _ _ hd r r'
    rw[e] at e';cases e'
theorem xi {n:Nat}:∀ {ds:List D} {d:D},cq n ds=true→d∈ds→okD n d=true
  | x::r,d,h,hm=>by
    have h':okD n x=true∧cq n r=true:=by simpa[cq] using h
    rcases List.mem_cons.mp hm with rfl | hm
    · exact h'.1
    · exact xi h'.2 hm
section
variable {X:Cx} {pins:List (Addr×Obj)} {σ:L2.St} {H:Hp} {s:Shared}
theorem item_at (I:Inv X pins σ H s){vs:List V}{ds:List D}{us:List Value}(l:DpL X.K H vs ds)(r:Vals vs us)(ok:cq 38 ds=true){dy:D}{y:Value}{bs:List Addr}(oy:okD 38 dy=true)(ry:Reads s.heap y (toP dy) bs)(hu:X.A.units+64 < cLine)
    {m:Nat} {u:Value} (hm:us[m]? = some u):∃ d,ds[m]? = some d∧mL s.heap (toP dy) u=eqD d dy∧SeqAt.EqAt X.A.in1 s u y (mL s.heap (toP dy) u):=by
  have hlt:m < vs.length:=by rw[r.length];exact (List.getElem?_eq_some_iff.mp hm).1
  obtain ⟨u',e1,rv⟩:=r.get (List.getElem?_eq_getElem hlt)
  rw[hm] at e1;cases e1
  obtain ⟨d,ed,pd⟩:=l.get' (List.getElem?_eq_getElem hlt)
  have od:=xi ok (List.mem_of_getElem? ed)
  obtain ⟨as,ra⟩:=cZ I pd od rv
  obtain ⟨l1,d1⟩:=fz 38 d od
  obtain ⟨l2,d2⟩:=fz 38 dy oy
  have e:=Fh (dx:=toP dy) ra l1
  refine ⟨d,ed,by rw[e,lN 38 38 d dy od oy],?_⟩
  rw[e]
  exact SeqAt.eqAt_reads _ _ _ s _ _ _ _ ra ry l1 l2 (by have:=Nat.min_le_left (toP d).depth (toP dy).depth;rw[Around.in1_units];omega)
end
def yT (ds:List D)(x:D):Option Nat:=ds.findIdx? fun y=>eqD y x
section
variable {X:Cx} {o i a b c e value:Expr} {To Ti Ta Tb Te:ETr} {pos tpos apos cpos:Pos}
def inG (x:D)(ds:List D):Bool:=ds.any fun y=>eqD y x
def FI (K:PySem.W.Frag)(neg:Bool):L2.R2:=fun x y H Q=>∃ p xs ds dx,y=.ref p∧(SqL K H p xs∨SqT K H p xs)∧DpL K H xs ds∧Dp K H x dx∧cq 38 ds=true∧okD 38 dx=true∧Q (.bl (if neg then !inG dx ds else inG dx ds)) H
theorem A6 {pins:List (Addr×Obj)}{σ:L2.St}{H:Hp}{s:Shared}(I:Inv X pins σ H s)(hu:X.A.units+64 < cLine){vs:List V}{ds:List D}{us:List Value}(l:DpL X.K H vs ds)(r:Vals vs us)(ok:cq 38 ds=true){dy:D}{y:Value}{bs:List Addr}(oy:okD 38 dy=true)(ry:Reads s.heap y (toP dy) bs) :
    (∀ w,w∈us.toArray→SeqAt.EqAt X.A.in1 s w y (mL s.heap (toP dy) w))∧us.toArray.any (mL s.heap (toP dy))=inG dy ds:=by
  have hl:ds.length=us.length:=by rw[← l.length,r.length]
  constructor
  · intro w hw
    obtain ⟨m,hm,rfl⟩:=Array.mem_iff_getElem.mp hw
    obtain ⟨d,_,_,e3⟩:=item_at I l r ok oy ry hu (m:=m) (u:=us.toArray[m]) (by simp at hm ⊢)
    exact e3
  · unfold inG
    rw[show us.toArray.any (mL s.heap (toP dy))=us.any (mL s.heap (toP dy)) by simp]
    rw[Bool.eq_iff_iff,List.any_eq_true,List.any_eq_true]
    constructor
    · rintro ⟨w,hw,e⟩
      obtain ⟨m,hm,rfl⟩:=List.mem_iff_getElem.mp hw
      obtain ⟨d,e1,e2,_⟩:=item_at I l r ok oy ry hu (m:=m) (u:=us[m]) (by simp)
      exact ⟨d,List.mem_of_getElem? e1,by rw[← e2];exact e⟩
    · rintro ⟨d,hd,e⟩
      obtain ⟨m,hm,rfl⟩:=List.mem_iff_getElem.mp hd
      obtain ⟨d',e1,e2,_⟩:=item_at I l r ok oy ry hu (m:=m) (u:=us[m]'(by omega)) (by simp)
      rw[List.getElem?_eq_getElem hm] at e1;cases e1
      exact ⟨us[m]'(by omega),List.getElem_mem _,by rw[e2];exact e⟩
theorem Jf (hu:X.A.units+64 < cLine):OpR X (compareOp .In) (FI X.K false):=by
  intro pins s σ H x y v u Q I rx ry h
  obtain ⟨p,xs,ds,dx,rfl,hq,l,px,o1,o2,q⟩:=h
  cases (show u=Value.ref p from ry)
  obtain ⟨bs,rb⟩:=cZ I px o2 rx
  rcases hq with hq | hq
  · obtain ⟨its,r,pl,hz⟩:=I.list hq
    obtain ⟨h1,h2⟩:=A6 I hu l r o1 o2 rb
    exact SeqAt.in_listAt _ pl.isList h1 ⟨.bl _,H,I,rfl,by rw[h2];exact q⟩
  · obtain ⟨its,r,pl,hz⟩:=I.tuple hq
    obtain ⟨h1,h2⟩:=A6 I hu l r o1 o2 rb
    exact SeqAt.in_tupleAt _ pl h1 ⟨.bl _,H,I,rfl,by rw[h2];exact q⟩
def L9 (μ:Mu)(x:D)(f:List D→Prop):Prop:=match x with
  | .tup ds=>f ds
  | .ls ds=>f ds
  | .obj a=>kL μ a f
  | _=>False
def Ce (neg:Bool):DR2:=fun x y μ Q=>L9 μ y fun ds=>(cq 38 ds=true∧okD 38 x=true)∧Q (.bl (if neg then !inG x ds else inG x ds)) μ
theorem ED {K:PySem.W.Frag}(neg:Bool):dB K (FI K neg) (Ce neg):=fun H μ x y dx dy Q Q' m px py h k=>by
  cases py with
  | tup sq l=>exact ⟨_,_,_,dx,rfl,.inr sq,l,px,h.1.1,h.1.2,k _ H _ μ (.refl H) m (.bl _) h.2⟩
  | ls sq l=>exact ⟨_,_,_,dx,rfl,.inl sq.sq,l,px,h.1.1,h.1.2,k _ H _ μ (.refl H) m (.bl _) h.2⟩
  | obj q=>
    obtain ⟨ds,e0,h⟩:=ck (show kL μ q _ from h)
    obtain ⟨xs,ex,l⟩:=m q _ e0
    exact ⟨_,_,_,dx,rfl,.inl (SqL.of ex),l,px,h.1.1,h.1.2,k _ H _ μ (.refl H) m (.bl _) h.2⟩
  | _=>exact False.elim h
theorem C8 (hu:X.A.units+64 < cLine)(ha:LE X a Ta)(hb:LE X b Tb)(hm:behindInMarks .In b=false:=by rfl):LT X (.Compare a [.In] [b] pos) (TB (ak (Ce false) Ta Tb)):=dg (Jf hu) (ED false) ha hb hm
end
end
section
open PySem PySem.Spec PyProof.Rows L2
def HZ (K:PySem.W.Frag)(n:Nat)(t:TGs)(is:List Nat):Prop:=∀ σ H ρ μ vs ds (k:ST→Mu→Prop) (k':L2.St→Hp→Prop),Rl K σ H ρ μ→DpL K H vs ds→ds.length=is.length→k (fQ ρ is ds) μ→F7 K n σ H k k'→t vs σ H k'
structure EL (X:Cx) (n:Nat) (es:List Expr) (is:List Nat):Prop where
  ex:∃ t,PGs X es t∧HZ X.K n t is
section
variable {X:Cx} {e tg:Expr} {es:List Expr} {is:List Nat} {pos:Pos} {x:Str} {n:Nat}
theorem eW:EL X n [] []:=⟨_,xI,fun σ H ρ μ vs ds k k' rl l hl h q=>by
  cases ds with
  | nil=>cases l;exact ⟨rfl,q _ _ _ _ (.refl H) rl ⟨rfl,fun _ _=>rfl⟩ h⟩
  | cons=>cases hl⟩
theorem a5 (i:Nat)(hN:X.N.Nodup)(h2:EL X n es is)(hin:i < n:=by decide)(hi:X.N[i]? = some x:=by rfl)(hx:Loc X.env.scope x:=by first | exact Or.inl rfl | exact Or.inr rfl)(hf:X.fn x=true∨X.env.scope.names.lookup x=some .local:=by first | exact .inr rfl | exact .inl rfl | assumption)
    (hs:(assignEach (.Name x pos::es) X.env).map (·.2)=assign (.Name x pos) X.env::(assignEach es X.env).map (·.2):=by rfl):EL X n (.Name x pos::es) (i::is):=by
  obtain ⟨t,pt,st⟩:=h2.ex
  refine ⟨_,tU (ju hN hi hx hf) pt hs,fun σ H ρ μ vs ds k k' rl l hl h q=>?_⟩
  cases l with
  | nil=>cases hl
  | @cons v d vs ds p l=>
    refine ⟨v,vs,rfl,st _ H _ μ vs ds k k' (rl.set p i) l (by simpa using hl) h fun σ' H' ρ' μ' t' r' hk kk=>q σ' H' ρ' μ' t' r' ⟨?_,fun j hj=>?_⟩ kk⟩
    · rw[hk.1];simp
    · rw[hk.2 j hj,List.getElem?_set_ne (by omega)]
theorem gB {k:Nat}(hc:X.calm=true)(h:EL X n es is)(hn:(assignEach es X.env).length=is.length:=by rfl)(hst:(assignEach es X.env).findIdx? (·.1)=none:=by rfl):LGc X n (.Tuple es k pos) (eG is):=by
  obtain ⟨t,pt,st⟩:=h.ex
  refine ⟨fun pins s σ H v u k' I r ⟨ρ,μ,d,k,rl,p,h,post⟩=>C9 hc pt hn hst pins s σ H v u k' I r ?_⟩
  cases p with
  | @tup a xs ds sq l=>exact ⟨a,xs,rfl,sq,by rw[l.length];exact h.1,st σ H ρ μ xs ds k k' rl l h.1 h.2 post⟩
  | _=>exact False.elim h
end
section
variable {X:Cx} {o i a b c e value:Expr} {To Ti Ta Tb Te:ETr} {pos tpos apos cpos:Pos}
end
section
variable {P:Program} {w:World} {K:PySem.W.Frag} {mg:Str→Option Value} {base:Heap}
end
end
section
open PySem PySem.Spec PyProof.Rows L2
section
variable {X:Cx} {tg a ea eb:Expr} {Ta:ETr} {es:List Expr} {ek:Nat} {ep p pos:Pos}
def LY (K:PySem.W.Frag)(tl:TE):TI:=fun σ H R=>tl σ H fun x H1=>∃ q,x=.ref q∧(((∃ xs,SqL K H1 q xs)∧R (Itl K q) H1)∨((∃ xs,SqT K H1 q xs)∧R (Itt K q) H1))
theorem Gx {tl:TE}(hl:PE X a tl):PI X tg a (LY X.K tl):=by
  intro pins s σ H R I h
  refine thn (hl pins s σ H _ I h) fun v s1 ⟨x,H1,I1,r1,q,ex,qq⟩=>?_
  subst ex
  cases (show v=Value.ref q from r1)
  have fp:∀ b∈[s1.heap.objs.size],_:=fun b hb=>by
    have e:b=s1.heap.objs.size:=by simpa using hb
    subst e
    exact I1.Cq (Nat.le_refl _) (I1.hok.fresh (Nat.le_refl _))
  rcases qq with ⟨⟨xs,sq⟩,qq⟩ | ⟨⟨xs,sq⟩,qq⟩
  · obtain ⟨its,rv,pl,hz⟩:=I1.list sq
    exact wpAny_pyIter_list pl.isList ⟨s1.heap.objs.size,[s1.heap.objs.size],_,_,H1,rfl,I1.kept (t':=s1.toks) (fun b o e=>Heap.get?_push_of_some _ e),zB q _,⟨_,Heap.get?_push_size _ rfl,rfl,rfl⟩,fp,qq⟩
  · obtain ⟨its,rv,pl,hz⟩:=I1.tuple sq
    exact wpAny_pyIter_tuple (show s1.heap.IsTuple q its.toArray from pl) ⟨s1.heap.objs.size,[s1.heap.objs.size],_,_,H1,rfl,I1.kept (t':=s1.toks) (fun b o e=>Heap.get?_push_of_some _ e),vy q _,⟨_,Heap.get?_push_size _ rfl,rfl,rfl⟩,fp,qq⟩
theorem cn (ha:LE X a Ta):LI X tg a (eM Ta):=by
  obtain ⟨ta,pa,sa⟩:=ha.ex
  refine ⟨_,Gx pa,fun σ H ρ μ Q R rl h k=>sa σ H ρ μ _ _ rl h fun x H1 d μ1 t1 m1 p1 h1=>?_⟩
  cases p1 with
  | @tup p xs ds q l=>exact ⟨p,rfl,.inr ⟨⟨xs,q⟩,k _ H1 ds μ1 t1 m1 (Dj q l) h1⟩⟩
  | @ls p xs ds q l=>exact ⟨p,rfl,.inl ⟨⟨xs,q.sq⟩,k _ H1 ds μ1 t1 m1 (Ek q l) h1⟩⟩
  | _=>exact False.elim h1
def K6 (K:PySem.W.Frag)(t:TA):TI:=fun σ H R=>t σ H fun vs H1=>∃ (ta tb:Bool) (a b:Addr),vs=[.ref a,.ref b]∧(∃ xs,Sq ta K H1 a xs)∧(∃ ys,Sq tb K H1 b ys)∧R (Itz ta tb K a b) H1
theorem Fz {t:TA}(hg:Gl X "zip")(hm:X.mg "zip" = none)(ha:PA X [ea,eb] t)(hs:starEach [ea,eb] X.env=[(false,eval ea X.env),(false,eval eb X.env)]:=by rfl)(hs2:starEach [eb] X.env=[(false,eval eb X.env)]:=by rfl) :
    PI X (.Tuple es ek ep) (.Call (.Name "zip" p) [ea,eb] [] pos) (K6 X.K t):=by
  intro pins s σ H R I h
  refine Call_ (ix I hg hm boot_zip (PyProof.Rows.callWith_type1 (thn (ha pos pins s σ H _ I h) fun us s1 ⟨vs,H1,I1,r1,ta,tb,a,b,e,⟨xs,qa⟩,⟨ys,qb⟩,q⟩=>?_) (by rw[hs,hs2]) (by rw[hs2];rfl)))
  subst e
  cases r1 with | cons r rr=>cases rr with | cons r' rr=>
  cases rr
  cases (show _=Value.ref a from r)
  cases (show _=Value.ref b from r')
  obtain ⟨ia,ra,sa⟩:=Inv.sq I1 qa
  obtain ⟨ib,rb,sb⟩:=Inv.sq I1 qb
  have alt:a < s1.heap.objs.size:=by cases ta<;>(obtain ⟨o,e,_⟩:=sa;exact Heap.lt_size e)
  have blt:b < s1.heap.objs.size:=by cases tb<;>(obtain ⟨o,e,_⟩:=sb;exact Heap.lt_size e)
  refine zb sa sb fun g S kp=>wpAny_pyIter_zip S.zz ⟨s1.heap.objs.size+4,[s1.heap.objs.size+4,s1.heap.objs.size+2,s1.heap.objs.size+3,s1.heap.objs.size,s1.heap.objs.size+1],_,_,H1,rfl,I1.kept (t':=s1.toks) kp,B0 (Jz _ _ _ alt blt),S,fun c hc=>?_,q⟩
  exact I1.Cq (FQ _ _ hc) (I1.hok.fresh (FQ _ _ hc))
def xk (t:ATr):ATr:=fun ρ μ Q=>t ρ μ fun vs μ1=>k2 vs fun x y=>kS x fun ds=>kS y fun es=>Q (List.zipWith (fun d e=>.tup [d,e]) ds es) μ1
theorem vx {K:PySem.W.Frag}{H:Hp}{v:V}{x:D}{f:List D→Prop}(p:Dp K H v x)(h:kS x f):∃ (tp:Bool) (a:Addr) (xs:List V) (ds:List D),v=.ref a∧Sq tp K H a xs∧DpL K H xs ds∧kQ tp x f:=by
  cases p with
  | @tup a xs ds q l=>exact ⟨true,a,xs,ds,rfl,q,l,h⟩
  | @ls a xs ds q l=>exact ⟨false,a,xs,ds,rfl,q,l,h⟩
  | _=>exact False.elim h
theorem xQ {At:ATr}(hg:Gl X "zip")(hm:X.mg "zip" = none)(ha:LA X [ea,eb] At)
    (hs:starEach [ea,eb] X.env=[(false,eval ea X.env),(false,eval eb X.env)]:=by rfl) (hs2:starEach [eb] X.env=[(false,eval eb X.env)]:=by rfl) :
    LI X (.Tuple es ek ep) (.Call (.Name "zip" p) [ea,eb] [] pos) (xk At):=by
  obtain ⟨t,pt,st⟩:=ha.ex
  refine ⟨_,Fz hg hm pt hs hs2,fun σ H ρ μ Q R rl h k=>st σ H ρ μ _ _ rl h fun vs H1 ds μ1 t1 m1 p1 h1=>?_⟩
  unfold L3.k2 at h1
  split at h1
  case h_2=>exact False.elim h1
  cases p1 with | cons pa p2=>cases p2 with | cons pb p3=>
  cases p3
  obtain ⟨ta,a,xs,dx,rfl,qa,la,h2⟩:=vx pa h1
  obtain ⟨a',xs',dx',ea',qa',la',h2⟩:=vp pa h2
  cases ea'
  obtain ⟨tb,b,ys,dy,rfl,qb,lb,h3⟩:=vx pb h2
  obtain ⟨b',ys',dy',eb',qb',lb',h3⟩:=vp pb h3
  cases eb'
  refine ⟨ta,tb,a,b,rfl,⟨xs',qa'⟩,⟨ys',qb'⟩,k _ H1 _ μ1 t1 m1 ⟨fun i H' tk hi=>?_,fun i H' v H'' tk hi yv=>?_,fun i H' tk hi=>?_⟩ h3⟩
  · have l1:=la'.length
    have l2:=lb'.length
    rw[List.length_zipWith] at hi
    exact ⟨xs',ys',xs'[i],ys'[i],tk.sq qa',tk.sq qb',by simp[show i < xs'.length by omega],by simp[show i < ys'.length by omega]⟩
  · obtain ⟨x,y,q,fx,fy,rfl,fr,rfl⟩:=yv
    obtain ⟨d,ed,pd⟩:=la'.get' (fx _ (tk.sq qa'))
    obtain ⟨e,ee,pe⟩:=lb'.get' (fy _ (tk.sq qb'))
    have tn:Tk H' (L2.upd H' q (.tup [x,y])):=.new fr
    exact ⟨tn,⟨.tup [d,e],by simp[List.getElem?_zipWith,ed,ee],.tup (SqT.of aE) (.cons ((pd.mono tk).mono tn) (.cons ((pe.mono tk).mono tn) .nil))⟩,fun μ' m'=>cz m' fr⟩
  · have l1:=la'.length
    have l2:=lb'.length
    rw[List.length_zipWith] at hi
    exact ⟨xs',ys',tk.sq qa',tk.sq qb',by omega⟩
variable {i o:Expr} {Ti To:ETr}
end
end
section
open PySem PySem.Spec PyProof.Rows L2
def ltS (x y:Str):Bool:=decide (x.cps.toList < y.cps.toList)
theorem iT:∀ {us:List Value} {ss:List Str},StrsAre us ss→Vals (ss.map V.str) us
  | _,_,.nil=>.nil
  | _,_,.cons n t h=>.cons ⟨t,rfl⟩ (iT h)
theorem xw:∀ {us:List Value} {ss:List Str},Vals (ss.map V.str) us→StrsAre us ss
  | _,[],h=>by cases h;exact .nil
  | _,s::r,h=>by
    cases h with
    | cons q h=>obtain ⟨t,rfl⟩:=(show ∃ t,_=Value.str s t from q);exact .cons s t (xw h)
def GG (K:PySem.W.Frag):List V→Hp→VK→Prop:=fun xs H Q=>∃ (p:Addr) (ss:List Str),xs=[.ref p]∧SqL K H p (ss.map V.str)∧ss.length < 64∧∀ ss':List Str,ss'.Perm ss→ss'.Pairwise (fun a b=>ltS b a=false)→∀ z,H z=none→Q (.ref z) (L2.upd H z (.lst (ss'.map V.str)))
theorem yE:∀ (p:Str) (l:List Str),risingS p l=true→(p::l).Pairwise (fun a b=>ltS b a=false):=by
  have tr:∀ a b c:Str,ltS b a=false→ltS c b=false→ltS c a=false:=by
    intro a b c h1 h2
    unfold ltS at *
    rw[decide_eq_false_iff_not,List.not_lt] at *
    exact List.le_trans h1 h2
  intro p l
  induction l generalizing p with
  | nil=>intro _;exact List.pairwise_singleton _ _
  | cons x r ih=>
    intro h
    have h':ltCps x.cps.toList p.cps.toList=false∧risingS x r=true:=by
      have:(!ltCps x.cps.toList p.cps.toList&&risingS x r)=true:=h
      simpa using this
    have hx:=ih x h'.2
    have hpx:ltS x p=false:=by unfold ltS;rw[← ltCps_eq];exact h'.1
    refine List.pairwise_cons.mpr ⟨fun y hy=>?_,hx⟩
    rcases List.mem_cons.mp hy with rfl | hy
    · exact hpx
    · exact tr p x y hpx ((List.pairwise_cons.mp hx).1 y hy)
theorem zw:∀ (l:List Str),sortedS l=true→l.Pairwise (fun a b=>ltS b a=false)
  | [],_=>.nil
  | p::l,h=>yE p l h
theorem vg {X:Cx}:bI X (.builtin "sorted") (GG X.K):=fun pins s σ H xs us Q I rx ⟨p,ss,e1,sq,hl,q⟩=>by
  subst e1
  obtain ⟨u,rfl,ru⟩:=vals1 rx
  cases (show u=Value.ref p from ru)
  obtain ⟨its,rv,pl,hz⟩:=I.list sq
  have hi:StrsAre its ss:=xw rv
  have hlen:its.length < 64:=by have:=rv.length;simp at this;omega
  refine sorted_strs pl.isList hi hlen fun out ss' a1 a2 a3=>?_
  obtain ⟨n,en⟩:=sortedAll_at s.heap its out
  refine ⟨.ref _,_,I.laid (t':=s.toks) (o:=.lst (ss'.map V.str)) (fun b o e=>sortedAll_old e) (Nat.le_succ _) ?_,rfl,q ss' a2 (zw _ a3) _ (I.hok.fresh (Nat.le_succ _))⟩
  have z1:ss'.length=ss.length:=a2.length_eq
  exact ⟨by rw[List.length_map,z1];exact Nat.le_of_lt (Nat.lt_of_lt_of_le hl (by decide)),out.toList,n,iT a1,by simpa[seqObj] using en⟩
def wm:FSp:=fun ds μ Q=>match ds with
  | [.ls xs]=>∃ ss:List Str,(xs=ss.map .str∧ss.length < 64)∧∀ ss':List Str,ss'.Perm ss→ss'.Pairwise (fun a b=>ltS b a=false)→Q (.ls (ss'.map .str)) μ
  | _=>False
theorem DpL.strs {K:PySem.W.Frag}{H:Hp}:∀ ss:List Str,DpL K H (ss.map V.str) (ss.map D.str)
  | []=>.nil
  | s::r=>.cons (.str s) (DpL.strs r)
theorem DpL.iT {K:PySem.W.Frag}{H:Hp}:∀ {xs:List V} {ss:List Str},DpL K H xs (ss.map .str)→xs=ss.map V.str
  | _,[],.nil=>rfl
  | _,s::r,.cons h l=>by cases h;rw[DpL.iT l];rfl
section
variable {X:Cx} {e a b:Expr} {x:Str} {p pos:Pos} {At:ATr} {Ta Tb:ETr}
theorem Cw (hg:Gl X x)(hm:X.mg x=none)(hv:bootBuiltins x=some (.builtin "sorted"))(ha:LA X [e] At)(hn:x ≠ "__name__" := by decide)(hdb:(x == ("__debug__" : Str))=false:=by decide)
    (h1:starEach [e] X.env=(false,eval e X.env)::starEach [] X.env:=by rfl) (h2:(backTo pos (starEach [] X.env)).any (·.1)=false:=by rfl):LE X (.Call (.Name x p) [e] [] pos) (ao wm At):=by
  obtain ⟨ta,pa,sa⟩:=ha.ex
  refine ⟨_,jM (mN vg hg hm hv pa hn hdb h1 h2),fun σ H ρ μ Q Q' rl h k=>sa σ H ρ μ _ _ rl h fun xs H1 ds μ1 t1 m1 p1 h1=>?_⟩
  unfold wm at h1
  split at h1
  · obtain ⟨ss,⟨rfl,hl⟩,h2⟩:=h1
    cases p1 with | cons p1 p2=>
    cases p2
    cases p1 with
    | @ls a ys _ q l=>
      cases DpL.iT l
      refine ⟨a,ss,rfl,q.sq,hl,fun ss' a2 a3 z hz=>⟨z,_,rfl,aE,fun o=>?_⟩⟩
      have e:L2.upd (L2.upd H1 z (.lst (ss'.map V.str))) z (.frz o (.lst (ss'.map V.str)))=L2.upd H1 z (.frz o (.lst (ss'.map V.str))):=rW
      rw[e]
      exact k _ _ _ μ1 (t1.trans (.new hz)) (cz m1 hz) (.ls (.inl ⟨o,aE⟩) (.strs ss')) (h2 ss' a2 a3)
  · exact False.elim h1
end
end
section
open PySem PySem.Spec PyProof.Rows L2
end
theorem DI (a b:ETr)(ρ:ST)(μ:Mu)(Q:DK):xF a b ρ μ Q=a ρ μ fun x μ1=>b ρ μ1 fun y μ2=>kObj x fun a=>kD μ2 a fun kvs=>y6 y fun k=>kO (cV kvs k) fun d=>Q d μ2:=propext Iff.rfl
theorem DB (a b e:ETr)(nx:ST→Mu→Prop)(rt:DK)(bk ct:ST→Mu→Prop)(ρ:ST)(μ:Mu):A1 a b e ⟨nx,rt,bk,ct⟩ ρ μ=e ρ μ fun v μ1=>a ρ μ1 fun x μ2=>b ρ μ2 fun y μ3=>kObj x fun a=>kD μ3 a fun kvs=>y6 y fun k=>kvs.length < 1000000∧nx ρ (up μ3 a (.dct (putD kvs k v))):=propext Iff.rfl
theorem Ig (f:Int→Int→Int)(i:Nat)(e:ETr)(nx:ST→Mu→Prop)(rt:DK)(bk ct:ST→Mu→Prop)(ρ:ST)(μ:Mu):EH f i e ⟨nx,rt,bk,ct⟩ ρ μ=ag i ρ μ fun d _=>kI d fun m=>e ρ μ fun w μ1=>kI w fun n=>au i (.int (f m n)) ρ μ1 nx:=propext Iff.rfl
theorem Hc (a b:ETr)(ρ:ST)(μ:Mu)(Q:DK):Il a b ρ μ Q=a ρ μ fun x μ1=>kObj x fun a=>kL μ1 a fun _=>b ρ μ1 fun y μ2=>kI y fun j=>(-9223372036854775808≤j∧j < 9223372036854775808)∧kL μ2 a fun ds=>kN (L2.ixN ds.length j) fun k=>kO ds[k]? fun d=>Q d (up μ2 a (.lst (ds.eraseIdx k))):=propext Iff.rfl
theorem Hs (a:ETr)(ρ:ST)(μ:Mu)(Q:List D→Mu→Prop):eM a ρ μ Q=a ρ μ fun x μ1=>kS x fun ds=>Q ds μ1:=propext Iff.rfl
theorem D9 (t:ATr)(ρ:ST)(μ:Mu)(Q:List D→Mu→Prop):xk t ρ μ Q=t ρ μ fun vs μ1=>k2 vs fun x y=>kS x fun ds=>kS y fun es=>Q (List.zipWith (fun d e=>.tup [d,e]) ds es) μ1:=propext Iff.rfl
theorem Gm (n:Bool)(x:D)(ds:List D)(μ:Mu)(Q:DK):Ce n x (.tup ds) μ Q=((cq 38 ds=true∧okD 38 x=true)∧Q (.bl (if n then !inG x ds else inG x ds)) μ):=propext Iff.rfl
theorem Js (s:Str)(f:L2.Key→Prop):y6 (.str s) f=f (.inr s):=propext Iff.rfl
theorem K0 {μ:Mu}{a:Addr}{ds:List (L2.Key×D)}(h:μ a=some (.dct ds))(f):kD μ a f=f ds:=by unfold kD;rw[h]
theorem Bn {μ:Mu}{a:Addr}{ds:List (L2.Key×D)}{f:List (L2.Key×D)→Prop}(e:μ a=some (.dct ds))(h:f ds):kD μ a f:=by rw[K0 e];exact h
theorem D2 (xs:List D)(μ:Mu)(Q:DK):bX yk [.ls xs] μ Q=(∃ kvs:List (L2.Key×D),xs=kvs.map vf∧kvs.length≤1000000∧∀ p,μ p=none→Q (.obj p) (up μ p (.dct (fW [] kvs)))):=propext Iff.rfl
theorem IsPart.of_eq {a b c d x y:Int}(h:IsPart a b x y)(hb:0 < b)(hd:0 < d)(e:a*d=c*b):IsPart c d x y:=by
  have xd:x*d=c*y:=by
    refine Int.eq_of_mul_eq_mul_right (a:=b) (by omega) ?_
    calc x*d*b=(x*b)*d:=by ac_rfl
      _=(a*y)*d:=by rw[h.e]
      _=(a*d)*y:=by ac_rfl
      _=(c*b)*y:=by rw[e]
      _=c*y*b:=by ac_rfl
  have y0:=h.q0
  have dx:x ∣ c:=by
    have:x ∣ y*c:=⟨d,by rw[Int.mul_comm y c];exact xd.symm⟩
    have h':=Int.dvd_gcd_mul_iff_dvd_mul.mpr this
    rw[h.g] at h'
    simpa using h'
  have dy:y ∣ d:=by
    have:y ∣ x*d:=⟨c,by rw[xd,Int.mul_comm]⟩
    have h':=Int.dvd_gcd_mul_iff_dvd_mul.mpr this
    rw[Int.gcd_comm,h.g] at h'
    simpa using h'
  refine ⟨h.q0,h.g,xd,?_,Nat.le_of_dvd (by omega) (Int.natAbs_dvd_natAbs.mpr dy)⟩
  by_cases hc:c=0
  · subst hc
    have:x=0:=by
      rcases Int.mul_eq_zero.mp (show x*d=0 by rw[xd,Int.zero_mul]) with z | z
      · exact z
      · omega
    rw[this];exact Nat.le_refl _
  · exact Nat.le_of_dvd (by omega) (Int.natAbs_dvd_natAbs.mpr dx)
structure Vl (d:D) (a b:Int):Prop where
  ex:∃ p q,d=fr p q∧IsPart a b p q
  b0:0 < b
theorem Vl.of_eq {d:D}{a b a' b':Int}(h:Vl d a b)(hb:0 < b')(e:a*b'=a'*b):Vl d a' b':=by
  obtain ⟨⟨p,q,rfl,P⟩,b0⟩:=h
  exact ⟨⟨p,q,rfl,P.of_eq b0 hb e⟩,hb⟩
theorem GS {lo hi p q:Int}(h:FrB lo hi p q):Vl (fr p q) p q:=⟨⟨p,q,rfl,h.q0,h.g,rfl,Nat.le_refl _,Nat.le_refl _⟩,h.q0⟩
theorem rg {a b x y:Int}(h:IsPart a b x y)(b0:0 < b):Vl (fr x y) a b:=⟨⟨x,y,rfl,h⟩,b0⟩
theorem J2 {p q a b:Int}(g:Int)(q0:0 < q)(b0:0 < b)(e:p*b=a*q):p*g / q=a*g / b:=by
  calc p*g / q=(p*g)*b / (q*b):=(Int.mul_ediv_mul_of_pos_left _ _ b0).symm
    _=(a*g)*q / (b*q):=by rw[show p*g*b=(p*b)*g by ac_rfl,e,Int.mul_comm q b,show a*q*g=a*g*q by ac_rfl]
    _=a*g / b:=Int.mul_ediv_mul_of_pos_left _ _ q0
theorem Al {p q a b:Int}(q0:0 < q)(b0:0 < b)(e:p*b=a*q):p / q=a / b:=by
  have:=J2 1 q0 b0 e
  simpa using this
theorem Ju {p q r s a b c e:Int}(q0:0 < q)(s0:0 < s)(b0:0 < b)(e0:0 < e)(h1:p*b=a*q)(h2:r*e=c*s):(p*s < r*q)↔(a*e < c*b):=by
  have k1:(p*s)*(b*e)=(a*e)*(q*s):=by
    calc (p*s)*(b*e)=(p*b)*(s*e):=by ac_rfl
      _=(a*q)*(s*e):=by rw[h1]
      _=(a*e)*(q*s):=by ac_rfl
  have k2:(r*q)*(b*e)=(c*b)*(q*s):=by
    calc (r*q)*(b*e)=(r*e)*(q*b):=by ac_rfl
      _=(c*s)*(q*b):=by rw[h2]
      _=(c*b)*(q*s):=by ac_rfl
  have be:0 < b*e:=Int.mul_pos b0 e0
  have qs:0 < q*s:=Int.mul_pos q0 s0
  constructor
  · intro h
    have:=Int.mul_lt_mul_of_pos_right h be
    rw[k1,k2] at this
    exact Int.lt_of_mul_lt_mul_right this (Int.le_of_lt qs)
  · intro h
    have:=Int.mul_lt_mul_of_pos_right h qs
    rw[← k1,← k2] at this
    exact Int.lt_of_mul_lt_mul_right this (Int.le_of_lt be)
def Le (a A:Int):Prop:=-A≤a∧a≤A
theorem Le.mono {a A B:Int}(h:Le a A)(hb:A≤B):Le a B:=⟨by have:=h.1;omega,by have:=h.2;omega⟩
theorem Le.of {a A:Int}(h0:0≤a)(h1:a≤A):Le a A:=⟨by omega,h1⟩
theorem Le.add {a b A B:Int}(h:Le a A)(k:Le b B):Le (a+b) (A+B):=⟨by have:=h.1;have:=k.1;omega,by have:=h.2;have:=k.2;omega⟩
theorem Le.sub {a b A B:Int}(h:Le a A)(k:Le b B):Le (a - b) (A+B):=⟨by have:=h.1;have:=k.2;omega,by have:=h.2;have:=k.1;omega⟩
theorem Le.neg {a A:Int}(h:Le a A):Le (-a) A:=⟨by have:=h.2;omega,by have:=h.1;omega⟩
theorem Le.abs {a A:Int}(h:Le a A):(a.natAbs:Int)≤A:=by have:=h.1;have:=h.2;omega
theorem Le.AG {a A:Int}(h:(a.natAbs:Int)≤A):Le a A:=⟨by omega,by omega⟩
theorem Le.mul {a b A B:Int}(h:Le a A)(k:Le b B):Le (a*b) (A*B):=by
  refine .AG ?_
  rw[Int.natAbs_mul,Int.natCast_mul]
  have a0:(0:Int)≤(a.natAbs:Int):=Int.natCast_nonneg _
  have b0:(0:Int)≤(b.natAbs:Int):=Int.natCast_nonneg _
  exact Int.mul_le_mul h.abs k.abs b0 (Int.le_trans a0 h.abs)
abbrev Bd (a:Int):Prop:=Le a 1000000000000000000000000000000
theorem Bd.m {a:Int}(h:Bd a):cp a:=by have:=h.1;have:=h.2;unfold cp;omega
theorem Bd.mm {a b:Int}(h:Bd a)(k:Bd b):cp (a*b):=by
  have:=(h.mul k).1;have:=(h.mul k).2
  unfold cp;omega
theorem Bd.mul {a b:Int}(h:Bd a)(k:Bd b):MulOk a b:=.inr ⟨h.m,k.m⟩
theorem IsPart.bp {a b x y:Int}(h:IsPart a b x y)(ha:Bd a):Bd x:=.AG (by have:=h.pa;have:=ha.abs;omega)
theorem IsPart.bq {a b x y:Int}(h:IsPart a b x y)(hb:Bd b):Bd y:=.AG (by have:=h.qb;have:=hb.abs;omega)
inductive Wd | kc | step | l4 | CM | calm
  deriving DecidableEq
structure RN where
  wd:Wd
  p:Int
  q:Int
  x:Int
  y:Int
  a:Int
  b:Int
  l:Int
  h:Int
  r:Int
  s:Int
def Wd.str:Wd→Str
  | .kc=>Str.ofString "still"
  | .step=>Str.ofString "step"
  | .l4=>Str.ofString "swell"
  | .CM=>Str.ofString "heed"
  | .calm=>Str.ofString "calm"
def RN.toD (R:RN):D:=match R.wd with
  | .kc=>.tup [.str "still", fr R.p R.q]
  | .step=>.tup [.str "step", fr R.p R.q,fr R.x R.y,fr R.a R.b,fr R.r R.s]
  | .l4=>.tup [.str "swell", fr R.p R.q,fr R.x R.y,fr R.a R.b,fr R.r R.s]
  | .CM=>.tup [.str "heed", fr R.p R.q,fr R.x R.y,fr R.a R.b,fr R.r R.s]
  | .calm=>.tup [.str "calm", fr R.p R.q,fr R.x R.y,.int R.l,.int R.h,fr R.r R.s]
structure RN.Ok (R:RN):Prop where
  w:FrB 1 60 R.p R.q
  t:FrB 1 60 R.r R.s
  wt:R.p*R.s≤R.r*R.q
  u:FrA 0 60 R.x R.y
  u1:R.wd=.l4→R.y < R.x
  g:FrA 0 1 R.a R.b
  d1:R.wd=.step∨R.wd=.l4→R.a < R.b
  l0:0≤R.l
  lh:R.l≤R.h
  h1:R.h≤60
  st:R.wd=.kc→R.r=R.p∧R.s=R.q
theorem Hq {lo hi:Int}(h0:lo < 1)(h1:1≤hi):FrA lo hi 1 1:=⟨⟨by decide,by decide,by decide,by omega,by omega⟩,by omega⟩
theorem Gd {p q:Int}(h:FrL 1 p q):FrA 0 1 p q:=⟨h.toFrB,by have:=h.ab;omega⟩
theorem uV.rn {w:Str}{d:D}(h:uV w d):∃ R:RN,R.Ok∧d=R.toD∧R.wd.str=w:=by
  cases h with
  | @kc p q w=>exact ⟨⟨.kc,p,q,1,1,1,1,0,0,p,q⟩,⟨w,w,Int.le_refl _,Hq (by decide) (by decide),nofun,Hq (by decide) (by decide),(fun z=>by rcases z with z | z<;>cases z),Int.le_refl 0,Int.le_refl 0,(show (0:Int)≤60 by decide),fun _=>⟨rfl,rfl⟩⟩,rfl,rfl⟩
  | @calm p q r s x y l h w t wt u l0 lh h1=>exact ⟨⟨.calm,p,q,x,y,1,1,l,h,r,s⟩,⟨w,t,wt,u,nofun,Hq (by decide) (by decide),(fun z=>by rcases z with z | z<;>cases z),l0,lh,h1,nofun⟩,rfl,rfl⟩
  | @CM p q r s x y a b w t wt u g=>exact ⟨⟨.CM,p,q,x,y,a,b,0,0,r,s⟩,⟨w,t,wt,u,nofun,g,(fun z=>by rcases z with z | z<;>cases z),Int.le_refl 0,Int.le_refl 0,(show (0:Int)≤60 by decide),nofun⟩,rfl,rfl⟩
  | @step p q r s x y a b w t wt u g=>
    have d1:a < b:=by have:=g.be;omega
    exact ⟨⟨.step,p,q,x,y,a,b,0,0,r,s⟩,⟨w,t,wt,u,nofun,Gd g,fun _=>d1,Int.le_refl 0,Int.le_refl 0,(show (0:Int)≤60 by decide),nofun⟩,rfl,rfl⟩
  | @l4 p q r s x y a b w t wt u g=>
    have d1:a < b:=by have:=g.be;omega
    have y0:=u.q0
    have u2:=u.ab
    have u3:FrA 0 60 x y:=⟨⟨u.q0,u.q1,u.g,by omega,u.le⟩,by omega⟩
    exact ⟨⟨.l4,p,q,x,y,a,b,0,0,r,s⟩,⟨w,t,wt,u3,fun _=>(by omega:y < x),Gd g,fun _=>d1,Int.le_refl 0,Int.le_refl 0,(show (0:Int)≤60 by decide),nofun⟩,rfl,rfl⟩
structure Hd where
  good:Int
  mark:Int
  BG:Int
  wt:Int
structure Hd.Ok (h:Hd):Prop where
  g0:0≤h.good
  g1:h.good≤1000000
  m0:0≤h.mark
  m1:h.mark≤1000000
  l0:0≤h.BG
  l1:h.BG≤1000000
  w0:0≤h.wt
def Hd.toD (h:Hd):D:=.tup [.int h.good,.int h.mark,.int h.BG,.int h.wt]
def Hd.bad (h:Hd):Int:=h.mark+h.BG
def Hd.many (h:Hd):Int:=h.good+h.bad
def RN.idle (R:RN)(h:Hd):Prop:=R.wd=.kc∨h.good+h.mark+h.BG=0
instance (R:RN) (h:Hd):Decidable (R.idle h):=by unfold RN.idle;infer_instance
theorem Le.div {a b A:Int}(h:Le a A)(hb:0 < b)(hA:0≤A):Le (a / b) A:=by
  constructor
  · rw[Int.le_ediv_iff_mul_le hb]
    have:=h.1
    have:A*1≤A*b:=Int.mul_le_mul_of_nonneg_left (by omega) hA
    rw[Int.neg_mul];omega
  · refine Int.ediv_le_of_le_mul hb ?_
    have:=h.2
    have:A*1≤A*b:=Int.mul_le_mul_of_nonneg_left (by omega) hA
    omega
local macro_rules | `(tactic| walk_at "rd")=>`(tactic| try simp only[ag,TC,ak,TUn,eR,zy,jF,TB,u4,TOr,lg,G4,uU,aw,af,dW,eO,rA,ao,bh,aF,wF,BK,iN,aS,Dn,cA,au,aO,wg,iu,j4,di,eM,bP,dE,fK,fL,KA,ILs,
  CW,Dm,CL,zX,Aa,wX,qZ,wU,BD,vc,rf,xS,nO,qI,sf,rQ,qY,uo,nM,vV,l7,mI,mj,nK,l3,nB,mY,nG,nj,TSl,ONo,mP,BY,AY,CN,Au,A0,AB,vD,wY,Dk,Ah,Av,m4,mW,nL,uP,wA,u7,uR,vk,vm,wo,vT,vt,z8,BV,A2,AJ,CY,AO,sP,Dc,BA,wV,vn,we,wy,vo,vE,uO,wW,wI,vw,
  lk,ini,List.map,List.length,List.replicate,List.append,List.set,List.cons_append,List.nil_append,Nat.sub_self,Nat.reduceSub,Nat.reduceAdd,
  yC,yp,xf,yo,xG,ya,List.getElem?_cons_zero,List.getElem?_cons_succ,aN,sE,Nat.reduceLT,Nat.reduceLeDiff,if_true,if_false,true_and,and_true,Bool.not_true,Bool.not_false,Nat.lt_add_one,Nat.zero_lt_succ,Nat.succ_lt_succ_iff,Nat.zero_lt_one,
  decide_eq_true_eq,Bool.false_eq_true,ite_false,ite_true,ne_eq,not_false_eq_true,Int.reduceToNat,Int.reducePow,Int.reduceNeg,Int.reduceSub,Int.reduceAdd,Int.reduceMul,Int.reduceEq,okD,cq,eqD,oo,Bool.and_self,Bool.and_true,Bool.true_and,eG,fQ,decide_true,decide_false,Bool.or_true,Bool.or_false,Bool.true_or,Bool.false_or,Bool.and_false,Bool.false_and,and_self,eL,du,d7,dZ,eB,dU,fg,fu,dz,eE,ei,eA,eh,fw,eN,fB,dY,fh,ef,fj,sk,qm,tX,qj,uD,sV,jc,jG,iQ,jg,jy,iO,jt])
def gD:FSp:=fun ds μ Q=>match ds with
  | [d1,d2]=>∃ a b c e,((Vl d1 a b∧Vl d2 c e)∧Bd a∧Bd b∧Bd c∧Bd e)∧∀ z,Vl z (a*e+c*b) (b*e)→Q z μ
  | _=>False
theorem CQ:∀ ds μ Q,gD ds μ Q→ds.length=2:=by
  unfold gD
  walk_at "ln"
def CK:STr:=aS (ao cU (af (ak aK (ak cI (ak L3.rIx (ag 0) (TC (.int 0))) (ak L3.rIx (ag 1) (TC (.int 1)))) (ak cI (ak L3.rIx (ag 1) (TC (.int 0))) (ak L3.rIx (ag 0) (TC (.int 1))))) (af (ak cI (ak L3.rIx (ag 0) (TC (.int 1))) (ak L3.rIx (ag 1) (TC (.int 1)))) (aw))))
theorem Fs:∀ ds μ Q,gD ds μ Q→CK { nx:=fun _ μ'=>RT Q .non μ',rt:=RT Q } (ini 2 ds) μ:=by
  intro ds μ Q h
  unfold gD at h
  split at h
  case h_2=>exact h.elim
  rename_i d1 d2
  unfold CK
  walk_at "rd"
  obtain ⟨a,b,c,e,⟨⟨V1,V2⟩,Ba,Bb,Bc,Be⟩,k⟩:=h
  obtain ⟨⟨p,q,rfl,P⟩,b0⟩:=V1
  obtain ⟨⟨r,s,rfl,S⟩,e0⟩:=V2
  have q0:=P.q0
  have s0:=S.q0
  have be:0 < b*e:=Int.mul_pos b0 e0
  have qs:0 < q*s:=Int.mul_pos q0 s0
  have Bp:=P.bp Ba
  have Bq:=P.bq Bb
  have Br:=S.bp Bc
  have Bs:=S.bq Be
  walk_at "rd"
  refine ⟨Bp.mul Bs,Br.mul Bq,Bq.mul Bs,⟨by omega,Bq.mm Bs⟩,fun x y Pt=>⟨_,.refl _,k _ ⟨⟨x,y,rfl,Pt.of_eq qs be ?_⟩,be⟩⟩⟩
  calc (p*s+r*q)*(b*e)=(p*b)*(s*e)+(r*e)*(q*b):=by rw[Int.add_mul];congr 1<;>ac_rfl
    _=(a*q)*(s*e)+(c*s)*(q*b):=by rw[P.e,S.e]
    _=(a*e+c*b)*(q*s):=by rw[Int.add_mul];congr 1<;>ac_rfl
def gy:FSp:=fun ds μ Q=>match ds with
  | [d1,d2]=>∃ a b c e,((Vl d1 a b∧Vl d2 c e)∧Bd a∧Bd b∧Bd c∧Bd e)∧Q (.bl (decide (a*e < c*b))) μ
  | _=>False
theorem BH:∀ ds μ Q,gy ds μ Q→ds.length=2:=by
  unfold gy
  walk_at "ln"
def AD:STr:=aS (ak rLt (ak cI (ak L3.rIx (ag 0) (TC (.int 0))) (ak L3.rIx (ag 1) (TC (.int 1)))) (ak cI (ak L3.rIx (ag 1) (TC (.int 0))) (ak L3.rIx (ag 0) (TC (.int 1)))))
theorem EJ:∀ ds μ Q,gy ds μ Q→AD { nx:=fun _ μ'=>RT Q .non μ',rt:=RT Q } (ini 2 ds) μ:=by
  intro ds μ Q h
  unfold gy at h
  split at h
  case h_2=>exact h.elim
  rename_i d1 d2
  unfold AD
  walk_at "rd"
  obtain ⟨a,b,c,e,⟨⟨V1,V2⟩,Ba,Bb,Bc,Be⟩,k⟩:=h
  obtain ⟨⟨p,q,rfl,P⟩,b0⟩:=V1
  obtain ⟨⟨r,s,rfl,S⟩,e0⟩:=V2
  walk_at "rd"
  refine ⟨(P.bp Ba).mul (S.bq Be),(S.bp Bc).mul (P.bq Bb),_,.refl _,?_⟩
  rw[show decide (p*s < r*q)=decide (a*e < c*b) from decide_eq_decide.mpr (Ju P.q0 S.q0 b0 e0 P.e S.e)]
  exact k
def cE:FSp:=fun ds μ Q=>match ds with
  | [d1]=>∃ a b,(Vl d1 a b∧Bd b)∧Q (.int (a / b)) μ
  | _=>False
theorem rP:∀ ds μ Q,cE ds μ Q→ds.length=1:=by
  unfold cE
  walk_at "ln"
def nA:STr:=aS (ak f7 (ak L3.rIx (ag 0) (TC (.int 0))) (ak L3.rIx (ag 0) (TC (.int 1))))
theorem uq:∀ ds μ Q,cE ds μ Q→nA { nx:=fun _ μ'=>RT Q .non μ',rt:=RT Q } (ini 1 ds) μ:=by
  intro ds μ Q h
  unfold cE at h
  split at h
  case h_2=>exact h.elim
  rename_i d1
  unfold nA
  walk_at "rd"
  obtain ⟨a,b,⟨⟨⟨p,q,rfl,P⟩,b0⟩,Bb⟩,k⟩:=h
  have q0:=P.q0
  walk_at "rd"
  rw[cw q0,Al q0 b0 P.e]
  exact ⟨⟨by omega,(P.bq Bb).m⟩,_,.refl _,k⟩
def b5:FSp:=fun ds μ Q=>match ds with
  | [d1]=>∃ a b,(Vl d1 a b∧Bd b)∧Q (.int (-((-a) / b))) μ
  | _=>False
theorem tf:∀ ds μ Q,b5 ds μ Q→ds.length=1:=by
  unfold b5
  walk_at "ln"
def pM:STr:=aS (TUn nH (ak f7 (TUn nH (ak L3.rIx (ag 0) (TC (.int 0)))) (ak L3.rIx (ag 0) (TC (.int 1)))))
theorem vQ:∀ ds μ Q,b5 ds μ Q→pM { nx:=fun _ μ'=>RT Q .non μ',rt:=RT Q } (ini 1 ds) μ:=by
  intro ds μ Q h
  unfold b5 at h
  split at h
  case h_2=>exact h.elim
  rename_i d1
  unfold pM
  walk_at "rd"
  obtain ⟨a,b,⟨⟨⟨p,q,rfl,P⟩,b0⟩,Bb⟩,k⟩:=h
  have q0:=P.q0
  walk_at "rd"
  rw[cw q0,Al (p:=-p) (a:=-a) q0 b0 (by rw[Int.neg_mul,Int.neg_mul,P.e])]
  exact ⟨⟨by omega,(P.bq Bb).m⟩,_,.refl _,k⟩
theorem t7 {xs:List D}{d:D}(h:xs[xs.length - 1]? = some d)(h0:xs≠[]):atD xs ((xs.length:Int) - 1)=some d:=by
  have:0 < xs.length:=List.length_pos_iff.mpr h0
  have e:((xs.length:Int) - 1)=((xs.length - 1:Nat):Int):=by omega
  rw[e,cT,h]
theorem Bl {xs:List D}{d:D}(h:xs[xs.length - 1]? = some d)(h0:xs≠[]):atD xs (-1)=some d:=by
  have:0 < xs.length:=List.length_pos_iff.mpr h0
  unfold atD L2.atI L2.ixN
  rw[if_neg (by decide),if_pos (by omega)]
  have e:(-1+(xs.length:Int)).toNat=xs.length - 1:=by omega
  show xs[(-1+(xs.length:Int)).toNat]? = some d
  rw[e];exact h
theorem RN.tup (R:RN)(hst:R.wd=.kc→R.r=R.p∧R.s=R.q):∃ xs,R.toD=.tup xs∧xs[0]? = some (.str R.wd.str)∧xs[1]? = some (fr R.p R.q)∧xs[xs.length - 1]? = some (fr R.r R.s)∧xs≠[]:=by
  obtain ⟨wd,p,q,x,y,a,b,l,h,r,s⟩:=R
  cases wd
  · obtain ⟨e1,e2⟩:=hst rfl
    dsimp only at e1 e2
    subst e1 e2
    exact ⟨_,rfl,rfl,rfl,rfl,nofun⟩
  all_goals exact ⟨_,rfl,rfl,rfl,rfl,nofun⟩
def bF:FSp:=fun ds μ Q=>match ds with
  | [d]=>∃ R:RN,(R.Ok∧d=R.toD)∧Q (fr R.r R.s) μ
  | _=>False
theorem lX:∀ ds μ Q,bF ds μ Q→ds.length=1:=by
  unfold bF
  walk_at "ln"
def gr:STr:=aS (ak L3.rIx (ag 0) (ak eK (ao dH (af (ag 0) (aw))) (TC (.int 1))))
theorem p9:∀ ds μ Q,bF ds μ Q→gr { nx:=fun _ μ'=>RT Q .non μ',rt:=RT Q } (ini 1 ds) μ:=by
  intro ds μ Q h
  unfold bF at h
  split at h
  case h_2=>exact h.elim
  rename_i d
  unfold gr
  walk_at "rd"
  obtain ⟨R,⟨K,rfl⟩,k⟩:=h
  obtain ⟨xs,e,_,_,e3,e4⟩:=R.tup K.st
  rw[e]
  walk_at "rd"
  rw[t7 e3 e4]
  exact ⟨_,.refl _,k⟩
def Ke:=Jn @HQ <| Jn @Ft <| Jn @GK <| Jn @Ea <| Jn @Gj <| Jn @Fb <| Jn @Jo <| Jn @EI <| Jn @Hi <| Jn @DM <| Jn @Jd <| Jn @EC <| Jn @HU <| Jn @E5 <| Jn @Ha <| Jn @Ds <| Jn @Hh <| Jn @Fe <| Jn @Gy <| Jn @DN <| Jn @Fg <| Jn @Cv <| Jn @ER <| Jn @CI <| Jn @EM <| Jn @Cy <| Jn @EO <| Jn @AR <| Jn @Fx <| Jn @Bv <| Jn @L0 <| Jn @Gk <| Jn @KC <| Jn @DD <| Jn @ID <| Jn @DZ <| Jn @Lh <| Jn @GQ <| Jn @Kf <| Jn @Jl <| Jn @G1 <| Jn @Ex <| Jn @Hl <| Jn @GN <| Jn @GL <| Jn @D0 <| Jn @Fq <| Jn @IG <| Jn @Eo <| Jn @Jp <| Jn @Gg <| Jn @Gz <| Jn @IU <| Jn @AH <| Jn @Jh <| Jn @zP <| Jn @zJ <| Jn @GP <| Jn @I0 <| Jn @JY <| Jn @K7 <| Jn @GW <| Jn @IH <| Jn @Jm <| Jn @Hj <| Jn @Ki <| Jn @KI <| Jn @JV <| Jn @Kn <| Jn @KS <| Jn @Kx <| Jn @KH <| Jn @IE <| Jn @HY <| Jn @EA <| Jn @DH <| Jn @DA <| Jn @AV <| Jn @CD <| Jn @Eg <| Jn @z9 <| Jn @zQ <| Jn @xS <| Jn @u5 <| Jn @yR <| Jn @zR <| Jn @ze <| Jn @Bk <| Jn @Ak <| Jn @Bt <| Jn @BF <| Jn @CH <| Jn @BZ <| Jn @D4 <| Jn @Ew <| Jn @Fj <| Jn @DC <| Jn @Fc <| Jn @BO <| Jn @BC <| Jn @Am <| Jn @AW <| Jn @Em <| Jn @Dw <| Jn @wZ <| Jn @wu <| Jn @E1 <| Jn @Fi <| Jn @IK <| Jn @IT <| Jn @Gs <| Jn @Gu <| Jn @HH <| Jn @G0 <| Jn @Cm <| Jn @Bi <| Jn @G3 <| @HB
def Kp:=Jn @qm <| Jn @tX <| Jn @qj <| Jn @uD <| @sV
local macro_rules | `(tactic| walk_at "go")=>`(tactic| try simp only[↓Ke,Kp,↓xj,↓nM,eL,du,d7,dZ,eB,dU,fg,fu,dz,eE,ei,eA,eh,fw,eN,fB,dY,fh,ef,fj,sk,Jv,Jt,Kb,FT,FR,F4,Ct,Ag,xP,xO,xr,xD,true_and,and_true,and_self,Bool.not_true,Bool.not_false,decide_true,decide_false,Bool.or_true,Bool.or_false,Bool.true_or,Bool.false_or,Bool.and_false,Bool.false_and,Bool.and_true,Bool.true_and,Int.reduceToNat,Int.reducePow,Int.reduceNeg,Int.reduceSub,Int.reduceAdd,Int.reduceMul,Int.reduceEq,Int.reduceLT,Int.reduceLE,Int.reduceBEq,sE,jc,jG,iQ,jg,jy,iO,jt,if_true,if_false,Bool.false_eq_true,reduceCtorEq,decide_eq_true_eq])
local macro_rules | `(tactic| walk_at "ini")=>`(tactic| simp only[ini,List.map,List.length,List.replicate,Nat.reduceSub,Nat.reduceAdd,Nat.sub_self,List.cons_append,List.nil_append,List.append_nil])
theorem AK {xs:List D}{P:D→Prop}(h:∀ d∈xs,P d){k:Int}(k0:0≤k)(k1:k < xs.length):∃ d,atD xs k=some d∧P d:=by
  obtain ⟨j,rfl⟩:=Int.eq_ofNat_of_zero_le k0
  rw[cT]
  have hj:j < xs.length:=by omega
  exact ⟨xs[j],by simp[hj],h _ (List.getElem_mem hj)⟩
def IsL (hi:Int)(d:D):Prop:=∃ p q,d=fr p q∧FrL hi p q
def IsI (lo hi:Int)(d:D):Prop:=∃ i:Int,d=.int i∧lo≤i∧i≤hi
theorem cO {P:D→Prop}:∀ d∈([]:List D),P d:=fun _ h=>nomatch h
theorem bY {P:D→Prop}{a:D}{xs:List D}(h:P a)(k:∀ d∈xs,P d):∀ d∈a::xs,P d:=fun d hd=>by
  rcases List.mem_cons.mp hd with e | e
  · rw[e];exact h
  · exact k d e
local macro_rules | `(tactic| walk_at "all")=>`(tactic| repeat' (first | exact cO | refine bY ?_ ?_))
structure nV (b p:Addr) (xs:List D) (μ μ':Mu):Prop where
  box:Box μ' b
  ne:p≠b
  new:μ p=none
  at':μ' p=some (.lst xs)
  oth:∀ a,a≠b→a≠p→μ' a=μ a
theorem nV.go {b p:Addr}{xs:List D}{μ μ1 μ2:Mu}(h:nV b p xs μ μ1)(B:mV b μ1 μ2):nV b p xs μ μ2:=
  ⟨B.box,h.ne,h.new,by rw[B.oth p h.ne];exact h.at',fun a h1 h2=>by rw[B.oth a h1];exact h.oth a h1 h2⟩
theorem nV.set {b p:Addr}{xs ys:List D}{μ μ1:Mu}(h:nV b p xs μ μ1):nV b p ys μ (up μ1 p (.lst ys)):=by
  obtain ⟨g,s,c,e,hh⟩:=h.box
  exact ⟨⟨g,s,c,by rw[aV h.ne.symm];exact e,hh⟩,h.ne,h.new,aN,fun a h1 h2=>by rw[aV h2];exact h.oth a h1 h2⟩
theorem Ih (μ:Mu)(p:Addr):Sub (dn μ p) μ:=fun a o e=>by
  unfold dn at e
  split at e
  · cases e
  · exact e
theorem nV.fin {b p:Addr}{xs:List D}{μ μ1:Mu}(h:nV b p xs μ μ1):mV b μ (dn μ1 p):=by
  obtain ⟨g,s,c,e,hh⟩:=h.box
  refine ⟨⟨g,s,c,?_,hh⟩,fun a ha=>?_⟩
  · unfold dn;rw[if_neg h.ne.symm];exact e
  · unfold dn
    split
    · rename_i z;subst z;exact h.new.symm
    · rename_i z;exact h.oth a ha z
theorem nV.rt {b p:Addr}{xs:List D}{μ μ1:Mu}{Q:DK}{d:D}(h:nV b p xs μ μ1)(k:∀ μ',mV b μ μ'→Q d μ'):RT Q d μ1:=⟨_,Ih μ1 p,k _ h.fin⟩
theorem xp {n b:Int}(b0:0 < b):-((-n) / b)=(n+b - 1) / b:=by
  have h1:=Int.ediv_mul_le (n+b - 1) (show b≠0 by omega)
  have h2:=Int.lt_ediv_add_one_mul_self (n+b - 1) b0
  generalize (n+b - 1) / b=q at *
  have e:(q+1)*b=q*b+b:=by rw[Int.add_mul,Int.one_mul]
  have k1:-q≤(-n) / b:=by
    rw[Int.le_ediv_iff_mul_le b0,Int.neg_mul];omega
  have k2:(-n) / b < -q+1:=by
    rw[Int.ediv_lt_iff_lt_mul b0,Int.add_mul,Int.neg_mul,Int.one_mul];omega
  omega
theorem gx {p:Addr}{G:GTr}{tt:TTr}{te:ETr}{ρc:ST}{K:Mu→Prop}(P:List D→Mu→Prop)(hnil:∀ μ,P [] μ→K μ)
    (hcons:∀ d r μ (N:Mu→Prop),P (d::r) μ→(∀ μ',P r μ'→N μ')→G d ρc μ fun ρ1 μ1=>tt ρ1 μ1 fun b μ2=>kIf b (te ρ1 μ2 fun y μ3=>kL μ3 p fun zs=>zs.length < 1000000∧N (up μ3 p (.lst (zs++[y])))) (N μ2)) :
    ∀ (ds:List D) (μ:Mu),P ds μ→dE p G tt te ρc K ds μ
  | [],μ,h=>hnil μ h
  | d::r,μ,h=>hcons d r μ _ h fun μ' q=>gx P hnil hcons r μ' q
theorem KY (d0:D)(r:List D)(f:D→Prop):kO (atD (d0::r) 0) f=f d0:=by rw[yC];rfl
theorem JQ (d0 d1:D)(r:List D)(f:D→Prop):kO (atD (d0::d1::r) 1) f=f d1:=by rw[yp];rfl
theorem K4 (d0 d1 d2:D)(r:List D)(f:D→Prop):kO (atD (d0::d1::d2::r) 2) f=f d2:=by rw[xf];rfl
theorem J8 (d0 d1 d2 d3:D)(r:List D)(f:D→Prop):kO (atD (d0::d1::d2::d3::r) 3) f=f d3:=by rw[yo];rfl
theorem Ld (d0 d1 d2 d3 d4:D)(r:List D)(f:D→Prop):kO (atD (d0::d1::d2::d3::d4::r) 4) f=f d4:=by rw[xG];rfl
theorem K5 (d0 d1 d2 d3 d4 d5:D)(r:List D)(f:D→Prop):kO (atD (d0::d1::d2::d3::d4::d5::r) 5) f=f d5:=by rw[ya];rfl
def y4 (G:GTr)(tt:TTr)(te:ETr)(ρc:ST)(ds:List D)(μ:Mu)(Q:DK):Prop:=∀ p,μ p=none→dE p G tt te ρc (fun μ'=>kL μ' p fun zs=>Q (.ls zs) (dn μ' p)) ds (up μ p (.lst []))
theorem D6 (it:ATr)(G:GTr)(tt:TTr)(te:ETr)(n:Nat)(caps:List Nat)(ρ:ST)(μ:Mu)(Q:DK):bP it G tt te n caps ρ μ Q=it ρ μ fun ds μ1=>y4 G tt te (fK ρ n caps) ds μ1 Q:=propext Iff.rfl
theorem Ib (ρ:ST)(μ:Mu)(Q:Bool→Mu→Prop):fL ρ μ Q=Q true μ:=propext Iff.rfl
section
variable {G:GTr} {tt:TTr} {te:ETr} {ρc:ST} {ds:List D} {μ:Mu} {Q:DK}
theorem BB (I:List D→List D→Prop)(h0:I ds [])(hl:ds.length≤999999)
    (step:∀ d r zs μ',Sub μ μ'→I (d::r) zs→∀ (N:Option D→Mu→Prop),(∀ oy,I r (zs++oy.toList)→N oy μ')→G d ρc μ' fun ρ1 μ1=>tt ρ1 μ1 fun b μ2=>kIf b (te ρ1 μ2 fun y μ3=>N (some y) μ3) (N none μ2))
    (k:∀ zs,I [] zs→Q (.ls zs) μ):y4 G tt te ρc ds μ Q:=by
  intro p hp
  refine gx (fun r μ'=>∃ zs,I r zs∧zs.length+r.length≤ds.length∧μ'=up μ p (.lst zs)) ?_ ?_ _ _ ⟨[],h0,by simp,rfl⟩
  · rintro μ' ⟨zs,hI,_,rfl⟩
    refine cH aN ?_
    rw[CJ hp];exact k zs hI
  · rintro d r μ' N ⟨zs,hI,hz,rfl⟩ hN
    rw[List.length_cons] at hz
    refine step d r zs _ (Sub.new hp) hI (fun oy μ3=>match oy with
      | some y=>kL μ3 p fun zs=>zs.length < 1000000∧N (up μ3 p (.lst (zs++[y])))
      | none=>N μ3) ?_
    intro oy hoy
    cases oy with
    | none=>exact hN _ ⟨zs,by simpa using hoy,by omega,rfl⟩
    | some y=>
      refine cH aN ⟨by omega,hN _ ⟨zs++[y],hoy,by rw[List.length_append];simp;omega,?_⟩⟩
      rw[sE]
theorem fZ {α:Type}(xs:List α)(t:α→D)(h:α→Option D)(hds:ds=xs.map t)(hl:xs.length≤999999)
    (step:∀ x∈xs,∀ μ',Sub μ μ'→∀ (N:Option D→Mu→Prop),N (h x) μ'→G (t x) ρc μ' fun ρ1 μ1=>tt ρ1 μ1 fun b μ2=>kIf b (te ρ1 μ2 fun y μ3=>N (some y) μ3) (N none μ2))
    (k:Q (.ls (xs.filterMap h)) μ):y4 G tt te ρc ds μ Q:=by
  subst hds
  refine BB (fun r zs=>∃ a c,xs=a++c∧r=c.map t∧zs=a.filterMap h) ⟨[],xs,rfl,rfl,rfl⟩ (by simpa using hl) ?_ ?_
  · rintro d r zs μ' sb ⟨a,c,e,er,rfl⟩ N hN
    cases c with
    | nil=>cases er
    | cons x c=>
    cases er
    refine step x (by rw[e];simp) μ' sb N (hN _ ⟨a++[x],c,by rw[e];simp,rfl,?_⟩)
    rw[List.filterMap_append]
    cases hx:h x<;>simp[hx]
  · rintro zs ⟨a,c,e,er,rfl⟩
    have:c=[]:=by cases c with | nil=>rfl | cons=>cases er
    subst this
    rw[List.append_nil] at e
    subst e;exact k
theorem bW {α:Type}(xs:List α)(t:α→D)(h:α→D)(hds:ds=xs.map t)(hl:xs.length≤999999)
    (step:∀ x∈xs,∀ μ',Sub μ μ'→∀ (N:DK),N (h x) μ'→G (t x) ρc μ' fun ρ1 μ1=>te ρ1 μ1 N)
    (k:Q (.ls (xs.map h)) μ):y4 G fL te ρc ds μ Q:=by
  refine fZ xs t (fun x=>some (h x)) hds hl (fun x hx μ' s N n=>?_) (by rw[show (fun x=>some (h x))=some ∘ h from rfl,List.filterMap_eq_map];exact k)
  exact step x hx μ' s (fun y μ3=>N (some y) μ3) n
end
section
open PySem PySem.Spec PyProof.Rows L2
section
variable {prog:Program} {w:World} {A:Around} {E:Value→Shared→Prop} {s:Shared}
end
section
variable {X:Cx} {ea eb:Expr} {Ta Tb:ETr} {p p2 pos rpos:Pos}
end
end
section
open PySem PySem.Spec PyProof.Rows L2
section
variable {prog:Program} {w:World} {A:Around} {E:Value→Shared→Prop} {s:Shared}
end
theorem gE {X:Cx}(hc:X.calm=true):bI X (.builtin "sum") (fun xs H Q=>∃ (p:Addr) (ns:List Int),xs=[.ref p]∧SqL X.K H p (ns.map V.int)∧Q (.int ns.sum) H):=fun pins s σ H xs us Q I rx ⟨p,ns,e1,sq,q⟩=>by
  subst e1
  obtain ⟨u,rfl,ru⟩:=vals1 rx
  cases ru
  obtain ⟨its,rv,pl,_⟩:=I.list sq
  obtain ⟨ps,rfl,rfl⟩:=dX (intsAre_of rv)
  have il:s.heap.IsList p (intItems ps.toArray):=by
    have:=pl.isList
    simpa[intItems] using this
  refine sum_intListG (I.ok.hd hc) il fun h' tk t' hk=>?_
  have e:preSum (numAt ps.toArray) ps.toArray.size=(ps.map Prod.fst).sum:=by
    rw[preSum_eq,List.take_of_length_le (by simp)]
  rw[e]
  exact ⟨.int _,H,I.kept hk,⟨t',rfl⟩,q⟩
def nQ:FSp:=fun ds μ Q=>match ds with
  | [.ls xs]=>∃ ns:List Int,xs=ns.map .int∧Q (.int ns.sum) μ
  | _=>False
theorem iV {K:PySem.W.Frag}:lj K (fun xs H Q=>∃ (p:Addr) (ns:List Int),xs=[.ref p]∧SqL K H p (ns.map V.int)∧Q (.int ns.sum) H) nQ:=fun H μ xs ds Q Q' m p h k=>by
  unfold nQ at h
  split at h
  · obtain ⟨ns,rfl,h⟩:=h
    cases p with | cons p1 p2=>
    cases p2
    cases p1 with
    | @ls q xs ds sq l=>
      have ex:=l.ints_of
      subst ex
      exact ⟨q,ns,rfl,sq.sq,k _ H _ μ (.refl H) m (.int _) h⟩
  · exact h.elim
end
section
open PySem PySem.Spec PyProof.Rows L2
section
variable {prog:Program} {w:World} {A:Around} {E:Value→Shared→Prop} {s:Shared}
theorem CF {tp:Bool}{e it a:Addr}{i:Nat}{xs:Array Value}{x old:Value}{Q:Option Value→Shared→Prop}(en:IsEnum s.heap e it i old)(li:eS tp s.heap it a i)(se:dk tp s.heap a xs)(hx:xs[i]? = some x)(ne:e≠it)
    (q:∀ g,IsEnumOut g e it ((i:Int)+1) x s.heap.objs.size→eS tp g it a (i+1)→g.get? s.heap.objs.size=some { cls:=.type "tuple", data:=.seq #[.int i s.toks,x] }→
      (∀ c o,c≠e→c≠it→s.heap.get? c=some o→g.get? c=some o)→Q (some (.ref s.heap.objs.size)) { s with heap:=g,toks:=s.toks+1 }):wpAny (model prog w) A (pyNext (.ref e)) Q E s:=by
  have ty:s.TypeIs (.ref e) "enumerate" := ⟨_,en,rfl⟩
  unfold pyNext
  refine wpAny_bind (wpAny_attempt (wpAny_callSpecial?_slot (name:=Str.ofString "__next__") ty F.slot_enumerate_next (wpAny_call_entry F.slot_enumerate_next ty F.entry_enumerate_next ?_ (F.args_enumerate_next_1 _))))
  refine wpAny_bind (m:=field (.ref e) 2) (wpAny_field en rfl (x:=.ref it) rfl (wpAny_bind (m:=Builtin.SmallTypes.nextOf (.ref it)) (lK li se hx fun g1 li1 k1=>?_)))
  have en1:IsEnum g1 e it i old:=(k1.2 e ne).trans en
  refine wpAny_bind (m:=field (.ref e) 3) (wpAny_field (s:={ s with heap:=g1 }) en1 rfl (x:=rawInt i) rfl (wpAny_bind (m:=field (.ref e) 4) (wpAny_field (s:={ s with heap:=g1 }) en1 rfl (x:=.none) rfl (wpAny_bind (m:=mkInt i) (wpAny_mkInt ?_)))))
  refine wpAny_bind (m:=setField (.ref e) 3 (rawInt ((i:Int)+1))) (wpAny_setField_rec en1 (by simp) fun g2 en2 k2=>?_)
  have en2:IsEnum g2 e it ((i:Int)+1) old:=en2
  refine wpAny_bind (m:=setField (.ref e) 4 .none) (wpAny_setField_rec en2 (by simp) fun g3 en3 k3=>?_)
  have en3:IsEnum g3 e it ((i:Int)+1) old:=en3
  refine wpAny_bind (m:=newTuple [.int i s.toks,x]) (wpAny_newTuple ?_)
  have sz:g3.objs.size=s.heap.objs.size:=by rw[k3.1,k2.1,k1.1]
  have en4:IsEnum (g3.push { cls:=.type "tuple", data:=.seq #[.int i s.toks,x] }) e it ((i:Int)+1) old:=Heap.get?_push_of_some _ en3
  have elt:e < g3.objs.size:=Heap.lt_size en3
  refine wpAny_bind (m:=Builtin.SmallTypes.ownedTupleIsFree (.ref e)) ?_
  delta Builtin.SmallTypes.ownedTupleIsFree
  refine wpAny_bind (wpAny_field (s:={ s with heap:=g3.push { cls:=.type "tuple", data:=.seq #[.int i s.toks,x] },toks:=s.toks+1 }) en4 rfl (x:=.none) rfl (wpAny_pure ?_))
  simp only[if_true]
  refine wpAny_bind (wpAny_rule (wpAny_bind (wpAny_field en4 rfl (x:=old) rfl (wpAny_bind (wpAny_setField_rec en4 (by simp) fun g5 en5 k5=>?_)))))
  have en5:IsEnum g5 e it ((i:Int)+1) x:=en5
  refine wpAny_bind (m:=Builtin.SmallTypes.ownedTupleHandOut (.ref e) (.ref g3.objs.size)) ?_
  delta Builtin.SmallTypes.ownedTupleHandOut
  refine wpAny_bind (wpAny_setField_rec en5 (by simp) fun g6 en6 k6=>?_)
  have en6:IsEnumOut g6 e it ((i:Int)+1) x g3.objs.size:=en6
  refine wpAny_setField_rec en6 (by simp) fun g7 en7 k7=>?_
  have en7:IsEnumOut g7 e it ((i:Int)+1) x g3.objs.size:=en7
  have up3:∀ c o,c≠e→g3.get? c=some o→g7.get? c=some o:=fun c o c1 h=>(k7.2 c c1).trans ((k6.2 c c1).trans ((k5.2 c c1).trans (Heap.get?_push_of_some _ h)))
  have new:g7.get? g3.objs.size=some { cls:=.type "tuple", data:=.seq #[.int i s.toks,x] }:=(k7.2 _ (Nat.ne_of_gt elt)).trans ((k6.2 _ (Nat.ne_of_gt elt)).trans ((k5.2 _ (Nat.ne_of_gt elt)).trans (Heap.get?_push_size _ rfl)))
  rw[sz] at en7 new
  have fin:=q g7 en7 (li1.at fun o h=>up3 it o (Ne.symm ne) ((k3.2 it (Ne.symm ne)).trans ((k2.2 it (Ne.symm ne)).trans h))) new fun c o c1 c2 h=>up3 c o c1 ((k3.2 c c1).trans ((k2.2 c c1).trans ((k1.2 c c2).trans h)))
  rw[← sz] at fin
  exact wpAny_bind (wpAny_letGo (wpAny_pure ⟨_,rfl,wpAny_pure fin⟩))
theorem EV {tp:Bool}{e it a:Addr}{i:Nat}{xs:Array Value}{old:Value}{Q:Option Value→Shared→Prop}(hh:A.handled=none)(en:IsEnum s.heap e it i old)(li:eS tp s.heap it a i)(se:dk tp s.heap a xs)(hx:xs[i]? = none)
    (q:∀ g,Heap.ExtBut it s.heap g→Q none { s with heap:=g }):wpAny (model prog w) A (pyNext (.ref e)) Q E s:=by
  have ty:s.TypeIs (.ref e) "enumerate" := ⟨_,en,rfl⟩
  unfold pyNext
  refine wpAny_bind (wpAny_attempt (wpAny_callSpecial?_slot (name:=Str.ofString "__next__") ty F.slot_enumerate_next (wpAny_call_entry F.slot_enumerate_next ty F.entry_enumerate_next ?_ (F.args_enumerate_next_1 _))))
  refine wpAny_bind (m:=field (.ref e) 2) (wpAny_field en rfl (x:=.ref it) rfl (wpAny_bind (m:=Builtin.SmallTypes.nextOf (.ref it)) (vY hh li se hx fun g z kp sz=>?_)))
  obtain ⟨o,ho,hc⟩:=sz
  exact wpAny_bind (wpAny_isInstance (T := "StopIteration") (b:=true) ⟨o,ho,hc⟩ isSubtype_stop (wpAny_pure (q _ kp)))
theorem BN (tp:Bool)(a:Addr)(xs:Array Value):Meets (Builtin.«enumerate.__new__» ⟨[.type "enumerate", .ref a],[]⟩) (fun _ R s=>dk tp s.heap a xs∧
      R (.ok (.ret (.ref (s.heap.push (itO tp a)).objs.size))) { s with heap:=(s.heap.push (itO tp a)).push { cls:=.type "enumerate", data:=.fields #[.none,.bool false,.ref s.heap.objs.size,rawInt 0,.none,.none] } }):=
  .of_wp fun prog w A R s h=>by
    rcases s with ⟨hp,g,d,tk,os⟩
    obtain ⟨h1,h⟩:=h
    have hs0:=sub_enumerate
    have H1:dk tp (Shared.heap ⟨hp,g,d,tk,os⟩) a xs:=h1
    wp_walk
    refine wpAny_stack_any fun stk=>wpAny_pure ?_
    split
    · rename_i c _ _ _ _ _
      cases (c == Value.type "enumerate")<;>(wp_walk using EW H1;exact ⟨_,rfl,h⟩)
    · wp_walk using EW H1
      exact ⟨_,rfl,h⟩
theorem w8 {tp:Bool}{a:Addr}{xs:Array Value}{Q:Value→Shared→Prop}(h1:dk tp s.heap a xs)
    (q:∀ g,IsEnum g (s.heap.objs.size+1) s.heap.objs.size 0 .none→eS tp g s.heap.objs.size a 0→(∀ c o,s.heap.get? c=some o→g.get? c=some o)→Q (.ref (s.heap.objs.size+1)) { s with heap:=g }) :
    wpAny (model prog w) A (call (.type "enumerate") [.ref a]) Q E s:=by
  refine callType_new F.called_enumerate (by decide) (F.typeCall_enumerate_1 _) (F.newCall_enumerate_1 _) (fun obj=>F.args_object_init_2 obj _) F.entry_enumerate_new (BN tp a xs) ⟨h1,?_⟩
  have s1:(s.heap.push (itO tp a)).objs.size=s.heap.objs.size+1:=Heap.size_push ..
  have new:IsEnum ((s.heap.push (itO tp a)).push { cls:=.type "enumerate", data:=.fields #[.none,.bool false,.ref s.heap.objs.size,rawInt 0,.none,.none] }) (s.heap.push (itO tp a)).objs.size s.heap.objs.size 0 .none:=Heap.get?_push_size _ rfl
  refine ⟨⟨_,new,rfl⟩,?_⟩
  rw[s1] at new ⊢
  refine q _ new ?_ fun c o h=>Heap.get?_push_of_some _ (Heap.get?_push_of_some _ h)
  have z:=Heap.get?_push_of_some { cls:=.type "enumerate", data:=.fields #[.none,.bool false,.ref s.heap.objs.size,rawInt 0,.none,.none] } (Heap.get?_push_size s.heap (o:=itO tp a) (by cases tp<;>rfl))
  cases tp<;>exact ⟨_,z,rfl,rfl⟩
end
def Itn (tp:Bool)(K:PySem.W.Frag)(a:Addr):It:=
  ⟨fun i H=>∃ xs x,Sq tp K H a xs∧xs[i]? = some x,
   fun i H v H'=>∃ x p,(∀ xs,Sq tp K H a xs→xs[i]? = some x)∧v=.ref p∧H p=none∧H'=L2.upd H p (.tup [.int i,x]),
   fun i H=>∃ xs,Sq tp K H a xs∧xs.length≤i⟩
structure NAt (tp:Bool) (h:Heap) (e it a:Addr) (k:Nat):Prop where
  en:∃ old,IsEnum h e it k old
  li:eS tp h it a k
theorem C5 {P:Program}{w:World}{K:PySem.W.Frag}{es:List Expr}{ek:Nat}{ep:Pos}{tp:Bool}{e it a:Addr}(n1:e≠it) :
    Turn P w K (.Tuple es ek ep) (Itn tp K a) [e,it] e (fun k h=>NAt tp h e it a k) where
  mem:=by simp
  obj:=fun k h S c hc=>by
    obtain ⟨⟨old,en⟩,li⟩:=S
    simp only[List.mem_cons,List.not_mem_nil,or_false] at hc
    rcases hc with rfl | rfl
    · exact ⟨_,en,fun v y=>by cases y⟩
    · obtain ⟨o,ho,vs,hd⟩:=li.ex;exact ⟨o,ho,fun v y=>by rw[hd] at y;cases y⟩
  keep:=fun k h g S kp=>by
    obtain ⟨⟨old,en⟩,li⟩:=S
    exact ⟨⟨old,kp e (by simp) _ en⟩,li.at fun o q=>kp it (by simp) o q⟩
  item:=by
    intro X hP hw hK hc k pins s σ H E I hf S hg
    subst hP hw hK
    obtain ⟨xs,x,qa,ex⟩:=hg
    obtain ⟨⟨old,en⟩,li⟩:=S
    obtain ⟨ia,ra,sa⟩:=Inv.sq I qa
    obtain ⟨ux,hux,rx⟩:=ra.get ex
    have elt:e < s.heap.objs.size:=Heap.lt_size en
    have fr:H s.heap.objs.size=none:=I.hok.fresh (Nat.le_refl _)
    refine CF en li sa (x:=ux) (by simpa using hux) n1 fun g eo li2 new al=>⟨_,rfl,wpAny_letOwnedTupleGo_enum eo fun g2 en2 k2=>?_⟩
    have k2:Heap.SameBut e g g2:=k2
    have all:∀ c o,c ∉ [e,it]→s.heap.get? c=some o→g2.get? c=some o:=fun c o hc q=>by
      simp only[List.mem_cons,List.not_mem_nil,or_false,not_or] at hc
      exact (k2.2 c hc.1).trans (al c o hc.1 hc.2 q)
    have new2:g2.get? s.heap.objs.size=some { cls:=.type "tuple", data:=.seq #[.int k s.toks,ux] }:=(k2.2 _ (Nat.ne_of_gt elt)).trans new
    have nfp:∀ c u,H c=some u→c ∉ [e,it]:=fun c u q hc=>by rw[(hf c hc).1] at q;cases q
    refine ⟨.ref s.heap.objs.size,L2.upd H s.heap.objs.size (.tup [.int k,x]),?_,rfl,⟨x,_,fun xs' q=>by rw[Inv.ve I q qa];exact ex,rfl,fr,rfl⟩,⟨⟨_,en2⟩,li2.at fun o q=>(k2.2 it (Ne.symm n1)).trans q⟩,fun c hc=>?_⟩
    · refine L2.Inv.step (s:=s) (H:=H) (H':=L2.upd H s.heap.objs.size (.tup [.int k,x])) (g':=s.gens) (d':=s.drawn) (t':=s.toks+1) (h':=g2) (ch:=[e,it]) I (fun c hc=>⟨(hf c hc).2.2.2.1,(hf c hc).2.1,(hf c hc).2.2.2.2.1,(hf c hc).2.2.2.2.2⟩) (fun c o _ _ hc q _=>all c o hc q) (fun c o _ _ hc q _=>⟨o.slots,all c o hc q⟩) (fun c o hc q n=>?_) (fun c o hc q=>⟨o,all c o hc q⟩)
        (fun c xs q=>?_) (fun c o u q=>?_) (fun c ps q=>⟨#[],?_⟩) (fun m hm=>?_) (fun c u q=>?_) I.bare
      · rw[aA (Nat.ne_of_lt (Heap.lt_size q))];exact n
      · rw[aA (aQ q fr)];exact q
      · rw[aA (aQ q fr)];exact q
      · rw[aA (aQ q fr),q];simp
      · obtain ⟨o,es',ep',ho,r⟩:=hm
        exact ⟨o,es',ep',all _ o (fun hc=>(hf _ hc).2.1 rfl) ho,r⟩
      · by_cases hcT:c=s.heap.objs.size
        · subst hcT
          rw[aE] at q;cases q
          exact ⟨by show 2≤sizeLine;decide,[.int k s.toks,ux],.cons ⟨s.toks,rfl⟩ (.cons rx .nil),⟨_,new2⟩⟩
        · rw[aA hcT] at q
          refine (I.hok c u q).jk (fun c' v hc' z=>all c' v ?_ z) (fun c' z=>by rw[aA (aQ z fr)];exact z) fun c' xs z=>by rw[aA (aQ z fr)];exact z
          rcases hc' with rfl | hc'
          · exact nfp _ _ q
          · exact nfp _ _ hc'
    · have hcl:c≠s.heap.objs.size:=by
        simp only[List.mem_cons,List.not_mem_nil,or_false] at hc
        rcases hc with rfl | rfl
        · exact Nat.ne_of_lt elt
        · obtain ⟨o,q,_⟩:=li.ex;exact Nat.ne_of_lt (Heap.lt_size q)
      rw[aA hcl];exact (hf c hc).1
  done:=by
    intro X hP hw hK hc k pins s σ H E I hf S hg
    subst hP hw hK
    obtain ⟨xs,qa,he⟩:=hg
    obtain ⟨⟨old,en⟩,li⟩:=S
    obtain ⟨ia,ra,sa⟩:=Inv.sq I qa
    have la:=ra.length
    obtain ⟨f0,f1,f2,f3,f4,f5⟩:=hf it (by simp)
    exact EV (I.ok.hd hc) en li sa (by simp;omega) fun g eb=>⟨rfl,I.turned (t':=s.toks) (fun b o hb q=>eb b o hb q) f0 f1 f3 f4 f5⟩
  self:=fun _ _ _ _ _ S h=>by
    obtain ⟨⟨old,en⟩,_⟩:=S
    exact wpAny_pyIter_enum en h
def LL (K:PySem.W.Frag)(t:TA):TI:=fun σ H R=>t σ H fun vs H1=>∃ (tp:Bool) (a:Addr),vs=[.ref a]∧(∃ xs,Sq tp K H1 a xs)∧R (Itn tp K a) H1
section
variable {X:Cx} {ea:Expr} {es:List Expr} {ek:Nat} {ep p pos:Pos}
theorem Hu {t:TA}(hg:Gl X "enumerate")(hm:X.mg "enumerate" = none)(ha:PA X [ea] t)(hs:starEach [ea] X.env=[(false,eval ea X.env)]:=by rfl) :
    PI X (.Tuple es ek ep) (.Call (.Name "enumerate" p) [ea] [] pos) (LL X.K t):=by
  intro pins s σ H R I h
  refine Call_ (ix I hg hm boot_enumerate (PyProof.Rows.callWith_type1 (thn (ha pos pins s σ H _ I h) fun us s1 ⟨vs,H1,I1,r1,q1⟩=>?_) (by rw[hs];rfl) rfl))
  obtain ⟨tp,a,e,⟨xs,qa⟩,q⟩:=q1
  subst e
  cases r1 with | cons r rr=>
  cases rr
  cases (show _=Value.ref a from r)
  obtain ⟨ia,ra,sa⟩:=Inv.sq I1 qa
  refine w8 sa fun g en li kp=>wpAny_pyIter_enum en ?_
  refine ⟨s1.heap.objs.size+1,[s1.heap.objs.size+1,s1.heap.objs.size],_,_,H1,rfl,I1.kept (t':=s1.toks) kp,C5 (tp:=tp) (a:=a) (Nat.succ_ne_self _),⟨⟨_,en⟩,li⟩,fun c hc=>?_,q⟩
  have hc':s1.heap.objs.size≤c:=by
    simp only[List.mem_cons,List.not_mem_nil,or_false] at hc
    rcases hc with rfl | rfl
    · exact Nat.le_succ _
    · exact Nat.le_refl _
  exact I1.Cq hc' (I1.hok.fresh hc')
def Bj (t:ATr):ATr:=fun ρ μ Q=>t ρ μ fun vs μ1=>match vs with
  | [x]=>kS x fun ds=>Q (jE ds) μ1
  | _=>False
theorem Fd {At:ATr}(hg:Gl X "enumerate")(hm:X.mg "enumerate" = none)(ha:LA X [ea] At)(hs:starEach [ea] X.env=[(false,eval ea X.env)]:=by rfl) :
    LI X (.Tuple es ek ep) (.Call (.Name "enumerate" p) [ea] [] pos) (Bj At):=by
  obtain ⟨t,pt,st⟩:=ha.ex
  refine ⟨_,Hu hg hm pt hs,fun σ H ρ μ Q R rl h k=>st σ H ρ μ _ _ rl h fun vs H1 ds μ1 t1 m1 p1 h1=>?_⟩
  split at h1
  case h_2=>exact False.elim h1
  cases p1 with | cons pa p2=>
  cases p2
  obtain ⟨tp,a,xs,dx,rfl,qa,la,h2⟩:=vx pa h1
  obtain ⟨a',xs',dx',ea',qa',la',h2⟩:=vp pa h2
  cases ea'
  refine ⟨tp,a,rfl,⟨xs',qa'⟩,k _ H1 _ μ1 t1 m1 ⟨fun i H' tk hi=>?_,fun i H' v H'' tk hi yv=>?_,fun i H' tk hi=>?_⟩ h2⟩
  · have l1:=la'.length
    rw[qd] at hi
    exact ⟨xs',xs'[i],tk.sq qa',by simp[show i < xs'.length by omega]⟩
  · obtain ⟨x,q,fx,rfl,fr,rfl⟩:=yv
    have ex:=fx _ (tk.sq qa')
    obtain ⟨d,ed,pd⟩:=la'.get' ex
    have tn:Tk H' (L2.upd H' q (.tup [.int i,x])):=.new fr
    exact ⟨tn,⟨.tup [.int i,d],by rw[qe,ed];rfl,.tup (SqT.of aE) (.cons (.int _) (.cons ((pd.mono tk).mono tn) .nil))⟩,fun μ' m'=>cz m' fr⟩
  · rw[qd] at hi
    exact ⟨xs',tk.sq qa',by rw[la'.length];exact hi⟩
end
end
section
open PySem PySem.Spec PyProof PyProof.Rows L2
section
variable {w:World} {prog:Program} {A:Around} {E:Value→Shared→Prop}
section
variable {R:Result→Shared→Prop} {I:Addr} {fp wr:List Addr} {n:Nat} {P:Nat→Value→Prop} {St:Nat→Heap→Prop}
end
variable {s:Shared}
end
section
variable {X:Cx} {e d:Expr} {p pos kp:Pos} {Te Td:ETr}
end
end
section
open PySem PySem.Spec PyProof.Rows L2
def qV (It':ATr)(G:GTr)(tt:TTr)(te:ETr)(n:Nat)(caps:List Nat):ETr:=fun ρ μ Q=>It' ρ μ fun ds μ1=>∀ p,μ1 p=none→dE p G tt te (fK ρ n caps) (fun μ'=>Q (.obj p) μ') ds (up μ1 p (.lst []))
theorem zU {K:PySem.W.Frag}{wi:TI}{It':ATr}{G:GTr}{Tt:TTr}{Te:ETr}{n:Nat}{caps:List Nat}(si:Ir K wi It'):Sim K (t9 wi (l6 K n G) (liftT K Tt) (nT K Te) n caps) (qV It' G Tt Te n caps):=by
  intro σ H ρ μ Q Q' rl h k
  refine si σ H ρ μ _ _ rl h fun J H1 ds μ1 t1 m1 Y h1 D hD=>?_
  have hp:=h1 D (m1.free hD)
  have tD:Tk H1 (L2.upd H1 D (.lst [])):=.new hD
  have mD:bA K (L2.upd H1 D (.lst [])) (up μ1 D (.lst [])):=fun a o e=>by
    by_cases ha:a=D
    · subst ha
      rw[aN] at e;cases e
      exact ⟨[],aE,.nil⟩
    · rw[aV ha] at e
      exact cz m1 hD a o e
  refine ⟨fun i m ys H2=>m=ds.length - i∧i≤ds.length∧Tk H1 H2∧∃ μ2,bA K H2 μ2∧dE D G Tt Te (fK ρ n caps) (fun μ'=>Q (.obj D) μ') (ds.drop i) μ2,
    ⟨ds.length,by simp,Nat.zero_le _,tD,_,mD,by simpa using hp⟩,?_⟩
  rintro i m ys H2 ⟨rfl,hi,t12,μ2,m2,h2⟩
  by_cases hlt:i < ds.length
  · refine .inr ⟨Y.go i H2 t12 hlt,fun ys' H'=>Tk H1 H'∧∃ μ',bA K H' μ'∧dE D G Tt Te (fK ρ n caps) (fun μ'=>Q (.obj D) μ') (ds.drop (i+1)) μ',fun ys' H' ⟨t',μ',m',h'⟩=>⟨ds.length - (i+1),by omega,rfl,hlt,t',μ',m',h'⟩,fun x H3 y=>?_⟩
    obtain ⟨t23,⟨d,ed,pd⟩,mk⟩:=Y.yld i H2 x H3 t12 hlt y
    have e:ds.drop i=d::ds.drop (i+1):=by
      refine (List.drop_eq_getElem_cons hlt).trans ?_
      congr 1
      rw[List.getElem?_eq_getElem hlt] at ed
      exact Option.some.inj ed
    rw[e] at h2
    have t13:=t12.trans t23
    have r3:Rl K (c7 σ n caps) H3 (fK ρ n caps) μ2:=qB (rl.go (t1.trans t13) (mk _ m2)) n caps
    refine ⟨_,_,d,_,r3,pd,h2,fun σ4 H4 ρ4 μ4 t4 r4 kp h4=>⟨⟨kp.1.symm,fun j v ej=>?_⟩,_,_,_,r4,h4,fun b H5 μ5 t5 m5 h5=>?_⟩⟩
    · by_cases hj:n≤j
      · rw[kp.2 j hj];exact ej
      · obtain ⟨j',k',e1,_⟩:=eZ ej
        omega
    · have t15:=t13.trans (t4.trans t5)
      cases b with
      | false=>exact qS ⟨t15,μ5,m5,h5⟩
      | true=>
        refine rN ⟨_,_,_,r4.go t5 m5,h5,fun v H6 d6 μ6 t6 m6 p6 h6=>?_⟩
        obtain ⟨zs,ez,lz,h7⟩:=ck h6
        obtain ⟨xs,ex,lx⟩:=m6 D _ ez
        have t67:Tk H6 (L2.upd H6 D (.lst (xs++[v]))):=.upd (fun ys z=>by rw[ex] at z;cases z) fun o' u z=>by rw[ex] at z;cases z
        refine ⟨xs,ex,by rw[lx.length];exact Nat.lt_of_lt_of_le lz (by decide),(t15.trans t6).trans t67,up μ6 D (.lst (zs++[d6])),fun a o ea=>?_,h7⟩
        by_cases ha:a=D
        · subst ha
          rw[aN] at ea;cases ea
          exact ⟨_,aE,(lx.append (.cons p6 .nil)).mono t67⟩
        · rw[aV ha] at ea
          exact (m6 a _ ea).ne t67 ha
  · have e:i=ds.length:=by omega
    subst e
    rw[List.drop_length] at h2
    exact .inl ⟨Y.stop _ H2 t12 (Nat.le_refl _),k _ _ _ μ2 (t1.trans t12) m2 (.obj _) h2⟩
section
variable {X:Cx} {o i:Expr} {To Ti:ETr} {apos cpos:Pos}
end
end
section
open PySem PySem.Spec PyProof.Rows L2
section
variable {X:Cx} {o i:Expr} {To Ti:ETr} {apos cpos:Pos}
end
end
section
open PySem PySem.Spec PyProof.Rows L2
theorem Ar {M:Model}{A:Around}{E:Value→Shared→Prop}{s:Shared}{β:Type}(f:Nat→β→Sem (ForInStep β))(Iv:Nat→β→Shared→Prop)(Q:β→Shared→Prop)(n:Nat)
    (turn:∀ i b s,i < n→Iv i b s→wpAny M A (f i b) (fun r s'=>match r with | .yield b'=>Iv (i+1) b' s' | .done b'=>Q b' s') E s)
    (fin:∀ b s,Iv n b s→Q b s) (b:β) (h:Iv 0 b s):wpAny M A (forIn [0:n] b f) Q E s:=by
  rw[Std.Legacy.Range.forIn_eq_forIn_range'];refine wpAny_forIn_list f (fun r b s=>∃ i,r=List.range' i (n - i)∧i≤n∧Iv i b s) Q ?_ ?_ _ b ⟨0,by simp[Std.Legacy.Range.size],Nat.zero_le _,h⟩
  · rintro x rest b s ⟨i,e,hi,hv⟩
    cases hn:n - i with
    | zero=>rw[hn] at e;cases e
    | succ k=>
      rw[hn,List.range'_succ] at e
      obtain ⟨rfl,rfl⟩:=List.cons.inj e
      refine wpAny_mono (turn x b s (by omega) hv) (fun r s' q=>?_) fun _ _ q=>q
      cases r with
      | yield b'=>exact ⟨x+1,by rw[show n - (x+1)=k by omega],by omega,q⟩
      | done b'=>exact q
  · rintro b s ⟨i,e,hi,hv⟩
    have:n - i=0:=by
      cases hn:n - i with
      | zero=>rfl
      | succ k=>rw[hn,List.range'_succ] at e;cases e
    rw[show i=n by omega] at hv
    exact fin b s hv
theorem tP (l:Addr)(items:Array Value)(n:Nat)(dd:Option Addr)(sl:Array (Option Value))(x:Value)(e:Value→Bool)(j:Nat)(hj:j < items.size)(hit:e items[j]=true)(hno:∀ m (hm:m < items.size),m < j→e items[m]=false) :
    Meets (Builtin.«tuple.index» ⟨[.ref l,x],[]⟩)
      (fun A R s=>s.heap.get? l=some { cls:=.type "tuple", dict:=dd,data:=.seq items n,slots:=sl }∧(∀ y,y∈items→SeqAt.EqAt A.in1 s y x (e y))∧R (.ok (.ret (.int j s.toks))) { s with toks:=s.toks+1 }):=
  .of_wp fun prog w A R s h=>by
    rcases s with ⟨hp,g,d,tk,os⟩
    obtain ⟨hl,he,h⟩:=h
    wp_walk using AutoSeq1.wpAny_loadPart' hl,Ar _ (fun i (b:Option Fin×Unit) s'=>b.1=none∧s'=⟨hp,g,d,tk,os⟩∧i≤j) _ _
    case turn=>
      rintro i b s' hi ⟨hb,rfl,hij⟩
      have hi':i < items.size:=by omega
      rw[show items[i]? = some items[i] from Array.getElem?_eq_getElem hi']
      refine wpAny_bind (he _ (Array.getElem_mem hi') prog w _ _ ?_)
      by_cases z:i=j
      · subst z
        rw[hit]
        wp_walk
        exact ⟨_,rfl,h⟩
      · rw[hno i hi' (by omega)]
        wp_walk
        exact ⟨rfl,rfl,by omega⟩
    case fin=>
      rintro b s' ⟨hb,rfl,hij⟩
      omega
    case h=>exact ⟨rfl,rfl,Nat.zero_le _⟩
theorem C6 {X:Cx}(hu:X.A.units+64 < cLine):MtM X "tuple.index" (fun x vs H Q=>∃ p xs y ds dy,∃ j:Nat,x=.ref p∧vs=[y]∧SqT X.K H p xs∧DpL X.K H xs ds∧Dp X.K H y dy∧cq 38 ds=true∧okD 38 dy=true∧yT ds dy=some j∧Q (.int j) H):=by
  intro pins s σ H x vs v us Q I rx rv h
  obtain ⟨p,xs,y,ds,dy,j,rfl,rfl,sq,l,py,ok,oy,hj,q⟩:=h
  cases (show v=Value.ref p from rx)
  obtain ⟨u,rfl,ru⟩:=rv.one
  obtain ⟨its,r,⟨o,e,c,n,hdat⟩,_⟩:=I.tuple sq
  obtain ⟨bs,rb⟩:=cZ I py oy ru
  have he:s.heap.get? p=some ⟨.type "tuple", o.dict,.seq its.toArray n,o.slots⟩:=by
    rw[e];obtain ⟨c',dd,dt,sl⟩:=o;simp only at c hdat;subst c hdat;rfl
  unfold yT at hj
  rw[List.findIdx?_eq_some_iff_getElem] at hj
  obtain ⟨h1,h2,h3⟩:=hj
  have hl:ds.length=its.length:=by rw[← l.length,r.length]
  have at':∀ m (hm:m < its.toArray.size),∃ d,ds[m]? = some d∧mL s.heap (toP dy) its.toArray[m]=eqD d dy∧SeqAt.EqAt X.A.in1 s its.toArray[m] u (mL s.heap (toP dy) its.toArray[m]):=fun m hm=>
    item_at I l r ok oy rb hu (by simp at hm ⊢)
  refine call_meets F.slot_tuple_index ⟨_,he,rfl⟩ F.entry_tuple_index (F.args_tuple_index_2 _ _) (tP p its.toArray n o.dict o.slots u (mL s.heap (toP dy)) j (by simp;omega) ?_ ?_) ⟨he,fun w hw=>?_,?_⟩
  · obtain ⟨d,e1,e2,_⟩:=at' j (by simp;omega)
    rw[e2]
    rw[List.getElem?_eq_getElem h1] at e1;cases e1
    exact h2
  · intro m hm hlt
    obtain ⟨d,e1,e2,_⟩:=at' m hm
    rw[e2]
    have hm':m < ds.length:=by simp at hm;omega
    rw[List.getElem?_eq_getElem hm'] at e1;cases e1
    have:=h3 m hlt
    simpa using this
  · obtain ⟨m,hm,rfl⟩:=Array.mem_iff_getElem.mp hw
    obtain ⟨d,_,_,e3⟩:=at' m hm
    exact e3
  · exact ⟨.int j,H,I.tok _,⟨_,rfl⟩,q⟩
theorem G8 {X:Cx}{o e:Expr}{es:List Expr}{to:TE}{t:TA}{name:Str}{apos cpos:Pos}{id:String}{r:V→List V→Hp→VK→Prop}(slot:Slot "tuple" name id)(hty:typeOf (.builtin id)=pure (.type "method_descriptor"))(hm:MtM X id r)(ho:PE X o to)(ha:PA X (e::es) t)
    (hbase:attributeBase o name X.env (eval o X.env)=eval o X.env:=by rfl)
    (hfew:((backTo cpos (starEach (e::es) X.env)).all (fun x=>!x.1)&&(backToKw cpos (keywordEach [] X.env)).all (fun x=>x.1.isSome)
      && decide ((e::es).length+([]:List Keyword).length+(if ([]:List Keyword).isEmpty then 0 else 1) < 30))=true:=by rfl)
    (hline:(apos.endLine == cpos.line)=true:=by rfl) (hs:starEach (e::es) X.env=(false,eval e X.env)::starEach es X.env:=by rfl) (hplain:(backTo cpos (starEach es X.env)).any (·.1)=false:=by rfl) :
    PE X (.Call (.Attribute o name apos) (e::es) [] cpos) (fun σ H Q=>to σ H fun x H1=>(∃ p xs,x=.ref p∧SqT X.K H1 p xs)∧t σ H1 fun xs H2=>r x xs H2 Q):=by
  intro pins s σ H Q I h
  refine wpAny_Call_method_late hbase hfew hline rfl (thn (ho pins s σ H _ I h) fun v s1 ⟨x,H1,I1,r1,⟨p,ys,ex,sq⟩,q1⟩=>?_)
  subst ex
  cases (show v=Value.ref p from r1)
  obtain ⟨ob,he,hc,hd⟩:=I1.HF sq
  refine ⟨"tuple", id,PySem.F.plainAttrs_tuple,slot,hty,⟨ob,he,hc⟩,(fun a e=>by cases e;exact ⟨ob,he,hd⟩),?_⟩
  have hA:=ha cpos pins s1 σ H1 _ I1 q1
  rw[hs] at hA ⊢
  refine Calls.callWith_builtin (by show (false || (backTo cpos (starEach es X.env)).any (·.1))=false;rw[hplain]<;>rfl) (Calls.evalArgs_plain ?_)
  exact thn hA fun us s2 ⟨vs,H2,I2,r2,q2⟩=>hm pins s2 σ H2 _ vs _ us Q I2 r1 r2 q2
def kTp (x:D)(f:List D→Prop):Prop:=match x with
  | .tup ds=>f ds
  | _=>False
def lJ (To Ti:ETr):ETr:=fun ρ μ Q=>To ρ μ fun x μ1=>kTp x fun ds=>Ti ρ μ1 fun y μ2=>(cq 38 ds=true∧okD 38 y=true)∧kN (yT ds y) fun j=>Q (.int j) μ2
theorem pQ {X:Cx}{o i:Expr}{apos cpos:Pos}{To Ti:ETr}(hu:X.A.units+64 < cLine)(ho:LE X o To)(hi:LE X i Ti)
    (hbase:attributeBase o "index" X.env (eval o X.env)=eval o X.env:=by rfl)
    (hfew:((backTo cpos (starEach [i] X.env)).all (fun x=>!x.1)&&(backToKw cpos (keywordEach [] X.env)).all (fun x=>x.1.isSome)
      && decide (([i]:List Expr).length+([]:List Keyword).length+(if ([]:List Keyword).isEmpty then 0 else 1) < 30))=true:=by rfl)
    (hline:(apos.endLine == cpos.line)=true:=by rfl) (hs:starEach [i] X.env=(false,eval i X.env)::starEach [] X.env:=by rfl) (hplain:(backTo cpos (starEach [] X.env)).any (·.1)=false:=by rfl) :
    LE X (.Call (.Attribute o "index" apos) [i] [] cpos) (lJ To Ti):=by
  obtain ⟨to,po,so⟩:=ho.ex
  obtain ⟨ti,pi,si⟩:=hi.ex
  refine ⟨_,G8 PySem.F.slot_tuple_index PySem.F.type_tuple_index (C6 hu) po (cS pi gq hs) hbase hfew hline hs hplain,fun σ H ρ μ Q Q' rl h k=>so σ H ρ μ _ _ rl h fun x H1 dx μ1 t1 m1 p1 h1=>?_⟩
  cases p1 with
  | @tup a xs ds sq l=>
    refine ⟨⟨a,xs,rfl,sq⟩,si σ H1 ρ μ1 _ _ (rl.go t1 m1) h1 fun y H2 dy μ2 t2 m2 p2 h2=>?_⟩
    obtain ⟨⟨o1,o2⟩,h2⟩:=h2
    obtain ⟨j,ej,h2⟩:=qX h2
    cases (Dp.tup sq l).mono t2 with
    | tup sq' l'=>exact ⟨a,_,y,ds,dy,j,rfl,rfl,sq',l',p2,o1,o2,ej,k _ H2 _ μ2 (t1.trans t2) m2 (.int _) h2⟩
  | _=>exact False.elim h1
end
section
open PySem PySem.Spec PyProof.Rows L2
section
variable {X:Cx} {a b c d:Expr} {ta tb tc td:TE} {Ta Tb Tc Td:ETr} {pos:Pos} {o1 o2 o3:CmpOp} {r1 r2 r3:L2.R2} {R1 R2 R3:DR2}
end
end
section
open PySem PySem.Spec PyProof.Rows L2
section
variable {X:Cx} {tg a b:Expr} {Ta Tb:ETr} {pos:Pos}
def Kq (x:Str):List D:=x.cps.toList.map fun c=>.str ⟨#[c]⟩
def J7 (a:ETr):ATr:=fun ρ μ Q=>a ρ μ fun x μ1=>match x with
  | .str z=>z.cps.all (· < 128)=true∧Q (Kq z) μ1
  | _=>False
def pO:DR2:=fun x y μ Q=>match x,y with
  | .str z,.int i=>z.length≤1000000∧kN (atI z.cps.toList i) fun c=>Q (.str ⟨#[c]⟩) μ
  | _,_=>False
theorem xY {K:PySem.W.Frag}:dB K L2.HS pO:=fun H μ x y dx dy Q Q' m px py h k=>by
  cases px with
  | str z=>
    cases py with
    | int i=>
      obtain ⟨h1,h2⟩:=h
      obtain ⟨c,ec,h3⟩:=qX h2
      exact ⟨z,i,c,rfl,rfl,Nat.le_trans h1 (by decide),ec,k _ H _ μ (.refl H) m (.str _) h3⟩
    | _=>exact False.elim h
  | _=>exact False.elim (by cases py<;>exact h)
theorem HC (ha:LE X a Ta)(hb:LE X b Tb)(hs:lI b:=by intro _ _;rfl):LE X (.Subscript a b pos) (ak pO Ta Tb):=by
  obtain ⟨ta,pa,sa⟩:=ha.ex
  obtain ⟨tb,pb,sb⟩:=hb.ex
  exact ⟨_,Ad BM pa pb hs,gG xY sa sb⟩
def Ky:V→Option Int→Option Int→Hp→VK→Prop:=fun x lo hi H Q=>∃ z,x=.str z∧z.length≤sizeLine∧Q (.str (Txt.slice z lo hi)) H
theorem part_of {v:Value}{o:Option Int}(h:PySem.IsPart v o):∃ p:Option (Int×Tok),v=partValue p∧p.map (·.1)=o:=by
  cases h with
  | none=>exact ⟨none,rfl,rfl⟩
  | int i t=>exact ⟨some (i,t),rfl,rfl⟩
theorem Ik:SlR X Ky:=by
  intro pins s σ H x v vl vu lo hi sl Q I rx hs pl pu h
  obtain ⟨z,rfl,hz,q⟩:=h
  obtain ⟨t,rfl⟩:=rx
  obtain ⟨pl',rfl,el⟩:=part_of pl
  obtain ⟨pu',rfl,eu⟩:=part_of pu
  refine ⟨"str", _,F.slot_str_getitem.lookup,typeIs_str _ _ _,wpAny_getItem_str_slice (l:=pl') (u:=pu') (st:=none) hs rfl ?_⟩
  have e:slicePicked z pl' pu' none=Builtin.Str.strSliceIndices lo hi 1 z.length:=by unfold slicePicked;rw[el,eu];rfl
  have le:=Txt.slice_le z lo hi
  unfold sliceMade
  rw[e]
  unfold Txt.slice at q le
  split
  · rename_i c
    rw[if_pos (by simpa using c)] at q
    exact ⟨.str z,H,I,⟨t,rfl⟩,q⟩
  · rename_i c
    rw[if_neg (by simpa using c)] at q le
    exact ⟨Nat.le_trans le hz,.str _,H,I.tok _,⟨_,rfl⟩,q⟩
def Ca (Ta:ETr)(Tl Th:OTr):ETr:=fun ρ μ Q=>Ta ρ μ fun x μ1=>Tl ρ μ1 fun i μ2=>Th ρ μ2 fun j μ3=>match x with
  | .str z=>z.length≤1000000∧Q (.str (Txt.slice z i j)) μ3
  | _=>False
theorem Bx {lo hi:Option Expr}{Tl Th:OTr}{p2:Pos}(ha:LE X a Ta)(hl:LO X lo Tl)(hh:LO X hi Th):LE X (.Subscript a (.Slice lo hi none p2) pos) (Ca Ta Tl Th):=by
  obtain ⟨ta,pa,sa⟩:=ha.ex
  obtain ⟨tl,pl,sl⟩:=hl.ex
  obtain ⟨th,ph,sh⟩:=hh.ex
  refine ⟨_,ub Ik pa pl ph,fun σ H ρ μ Q Q' rl h k=>sa σ H ρ μ _ _ rl h fun x H1 dx μ1 t1 m1 p1 h1=>sl σ H1 ρ μ1 _ _ (rl.go t1 m1) h1 fun i H2 μ2 t2 m2 h2=>sh σ H2 ρ μ2 _ _ (rl.go (t1.trans t2) m2) h2 fun j H3 μ3 t3 m3 h3=>?_⟩
  cases p1 with
  | str z=>exact ⟨z,rfl,Nat.le_trans h3.1 (by decide),k _ H3 _ μ3 (t1.trans (t2.trans t3)) m3 (.str _) h3.2⟩
  | _=>exact False.elim h3
end
end
section
open PySem PySem.Spec PyProof.Rows L2
def BW:ETr:=fun ρ μ Q=>∀ p,μ p=none→Q (.obj p) (up μ p (.dct []))
theorem Je {X:Cx}{pos:Pos}:LE X (.Dict [] [] pos) BW:=El
end
section
open PySem PySem.Spec PyProof.Rows L2
section
variable {X:Cx} {o i:Expr} {apos cpos:Pos}
theorem sS:∀ {zs:List Str} {us:List Value},Vals (zs.map V.str) us→∃ l:List (Str×Tok),us=strValues l∧l.map (·.1)=zs
  | [],_,.nil=>⟨[],rfl,rfl⟩
  | z::zs,_,.cons ⟨t,e⟩ r=>by
    obtain ⟨l,h1,h2⟩:=sS r
    exact ⟨(z,t)::l,by rw[e,h1];rfl,by rw[← h2];rfl⟩
theorem Dy:MtM X "str.join" (fun x vs H Q=>∃ sep p zs,x=.str sep∧vs=[.ref p]∧SqL X.K H p (zs.map V.str)∧JoinOk sep zs=true∧Q (.str (Txt.join sep zs)) H):=by
  intro pins s σ H x vs v us Q I rx rv h
  obtain ⟨sep,p,zs,rfl,rfl,sq,ok,q⟩:=h
  obtain ⟨t,rfl⟩:=rx
  obtain ⟨u,rfl,ru⟩:=rv.one
  cases (show u=Value.ref p from ru)
  obtain ⟨its,r,pl,_⟩:=I.list sq
  obtain ⟨l,rfl,e⟩:=sS r
  exact SC.join pl.isList e ok fun t' k=>⟨.str _,H,I.tok _,⟨_,rfl⟩,q⟩
theorem Gq {e:Expr}{es:List Expr}{to:TE}{t:TA}{name:Str}{id:String}{r:V→List V→Hp→VK→Prop}(slot:Slot "str" name id)(hty:typeOf (.builtin id)=pure (.type "method_descriptor"))(hm:MtM X id r)(ho:PE X o to)(ha:PA X (e::es) t)
    (hbase:attributeBase o name X.env (eval o X.env)=eval o X.env:=by rfl)
    (hfew:((backTo cpos (starEach (e::es) X.env)).all (fun x=>!x.1)&&(backToKw cpos (keywordEach [] X.env)).all (fun x=>x.1.isSome)
      && decide ((e::es).length+([]:List Keyword).length+(if ([]:List Keyword).isEmpty then 0 else 1) < 30))=true:=by rfl)
    (hline:(apos.endLine == cpos.line)=true:=by rfl) (hs:starEach (e::es) X.env=(false,eval e X.env)::starEach es X.env:=by rfl) (hplain:(backTo cpos (starEach es X.env)).any (·.1)=false:=by rfl) :
    PE X (.Call (.Attribute o name apos) (e::es) [] cpos) (fun σ H Q=>to σ H fun x H1=>(∃ z,x=.str z)∧t σ H1 fun xs H2=>r x xs H2 Q):=by
  intro pins s σ H Q I h
  refine wpAny_Call_method_late hbase hfew hline rfl (thn (ho pins s σ H _ I h) fun v s1 ⟨x,H1,I1,r1,⟨z,ex⟩,q1⟩=>?_)
  subst ex
  obtain ⟨tk,rfl⟩:=r1
  refine ⟨"str", id,PySem.F.plainAttrs_str,slot,hty,typeIs_str _ _ _,(fun a e=>nomatch e),?_⟩
  have hA:=ha cpos pins s1 σ H1 _ I1 q1
  rw[hs] at hA ⊢
  refine Calls.callWith_builtin (by show (false || (backTo cpos (starEach es X.env)).any (·.1))=false;rw[hplain]<;>rfl) (Calls.evalArgs_plain ?_)
  exact thn hA fun us s2 ⟨vs,H2,I2,r2,q2⟩=>hm pins s2 σ H2 (.str z) vs _ us Q I2 ⟨tk,rfl⟩ r2 q2
def jz:List D→Option (List Str)
  | []=>some []
  | .str z::r=>(jz r).map (z::·)
  | _::_=>none
theorem yB {K:PySem.W.Frag}{H:Hp}:∀ {xs:List V} {ds:List D} {zs:List Str},DpL K H xs ds→jz ds=some zs→xs=zs.map V.str
  | _,_,_,.nil,e=>by simp only[jz,Option.some.injEq] at e;subst e;rfl
  | _,d::ds,zs,.cons h l,e=>by
    cases h with
    | str z=>
      simp only[jz] at e
      cases e1:jz ds with
      | none=>rw[e1] at e;cases e
      | some ys=>
        rw[e1] at e
        cases e
        rw[yB l e1];rfl
    | _=>cases e
def yt (To Ti:ETr):ETr:=fun ρ μ Q=>To ρ μ fun x μ1=>match x with
  | .str sep=>Ti ρ μ1 fun y μ2=>match y with
    | .ls ds=>∃ zs,jz ds=some zs∧JoinOk sep zs=true∧Q (.str (Txt.join sep zs)) μ2
    | _=>False
  | _=>False
theorem Fl {To Ti:ETr}(ho:LE X o To)(hi:LE X i Ti)
    (hbase:attributeBase o "join" X.env (eval o X.env)=eval o X.env:=by rfl)
    (hfew:((backTo cpos (starEach [i] X.env)).all (fun x=>!x.1)&&(backToKw cpos (keywordEach [] X.env)).all (fun x=>x.1.isSome)
      && decide (([i]:List Expr).length+([]:List Keyword).length+(if ([]:List Keyword).isEmpty then 0 else 1) < 30))=true:=by rfl)
    (hline:(apos.endLine == cpos.line)=true:=by rfl) (hs:starEach [i] X.env=(false,eval i X.env)::starEach [] X.env:=by rfl) (hplain:(backTo cpos (starEach [] X.env)).any (·.1)=false:=by rfl) :
    LE X (.Call (.Attribute o "join" apos) [i] [] cpos) (yt To Ti):=by
  obtain ⟨to,po,so⟩:=ho.ex
  obtain ⟨ti,pi,si⟩:=hi.ex
  refine ⟨_,Gq PySem.F.slot_str_join PySem.F.type_str_join Dy po (cS pi gq hs) hbase hfew hline hs hplain,fun σ H ρ μ Q Q' rl h k=>so σ H ρ μ _ _ rl h fun x H1 dx μ1 t1 m1 p1 h1=>?_⟩
  cases p1 with
  | str z=>
    refine ⟨⟨z,rfl⟩,si σ H1 ρ μ1 _ _ (rl.go t1 m1) h1 fun y H2 dy μ2 t2 m2 p2 h2=>?_⟩
    cases p2 with
    | @ls a xs ds sq l=>
      obtain ⟨zs,e,ok,h2⟩:=h2
      have:=yB l e
      subst this
      exact ⟨z,a,zs,rfl,rfl,sq.sq,ok,k _ H2 _ μ2 (t1.trans t2) m2 (.str _) h2⟩
    | _=>exact False.elim h2
  | _=>exact False.elim h1
end
theorem join_list:∀ (cs:List Nat),(Txt.join (Str.ofString "") (cs.map fun c=>⟨#[c]⟩)).cps.toList=cs:=by
  intro cs
  show (Builtin.Str.glued (Str.ofString "") _).cps.toList=cs
  rw[StrLaws.glued_eq_join]
  have e0:(Str.ofString "").cps = #[]:=by decide +kernel
  induction cs with
  | nil=>rfl
  | cons c r ih=>
    cases r with
    | nil=>rfl
    | cons d r=>
      simp only[List.map_cons,Str.join] at ih ⊢
      show ((#[c]++(Str.ofString "").cps)++_).toList=_
      rw[Array.toList_append,ih,e0];simp
theorem DU (zs:List Str)(h:∀ z∈zs,z.length=1)(hl:zs.length≤1000):JoinOk (Str.ofString "") zs=true:=by
  unfold JoinOk
  rw[StrLaws.joinTotal]
  have e0:(Str.ofString "").length=0:=by decide +kernel
  have es:(zs.map (·.length)).sum=zs.length:=by
    clear hl
    induction zs with
    | nil=>rfl
    | cons z r ih=>rw[List.map_cons,List.sum_cons,h z List.mem_cons_self,ih fun y hy=>h y (List.mem_cons_of_mem _ hy),List.length_cons];omega
  rw[es,e0]
  have:Builtin.Str.tooLong (zs.length+zs.length*0)=false:=decide_eq_false (Nat.not_lt.mpr (Nat.le_trans (show zs.length+zs.length*0≤1000 by omega) (by decide)))
  rw[this];rfl
end
section
open PySem PySem.Spec PyProof PyProof.Rows L2
section
variable {X:Cx} {o:Expr} {apos cpos pos p:Pos} {x:Str}
end
end
section
open PySem PySem.Spec PyProof.Rows L2
end
structure WE where
  nm:Str
  pc:Int
  rm:D
  ma:D
  so:D
def WE.toD (w:WE):D:=.tup [.str w.nm,.int w.pc,w.rm,w.ma,w.so]
structure WE.Ok (w:WE):Prop where
  n:PyData.strOk w.nm=true
  ne:w.nm≠Str.ofString ""
  p0:1≤w.pc
  p1:w.pc≤20
structure SE where
  nm:Str
  r0:Str
  rd:List Str
  bt:Int
  bg:D
  mn:D
  R:RN
def SE.road (s:SE):List Str:=s.r0::s.rd
def SE.toD (s:SE):D:=.tup [.str s.nm,.tup (s.road.map .str),.int s.bt,s.bg,s.mn,s.R.toD]
structure SE.Ok (s:SE):Prop where
  n:PyData.strOk s.nm=true
  r:∀ x∈s.road,PyData.strOk x=true
  b0:1≤s.bt
  b1:s.bt≤8
  R:s.R.Ok
  bo:okD 38 s.bg=true
  mo:okD 38 s.mn=true
def SE.lim (s:SE):Int:=s.R.r / s.R.s
theorem SE.Ok.lim {s:SE}(h:s.Ok):1≤s.lim∧s.lim≤60:=by
  have t:=h.R.t
  have q0:=t.q0
  have h1:=t.ge
  have h2:=t.le
  exact ⟨(Int.le_ediv_iff_mul_le q0).mpr h1,Int.ediv_le_of_le_mul q0 h2⟩
structure PE' (ws:List WE) (ss:List SE):Prop where
  w:∀ x∈ws,x.Ok
  s:∀ x∈ss,x.Ok
  rd:∀ x∈ss,x.road.Sublist (ws.map WE.nm)
  wl:ws.length≤8
  sl:ss.length≤8
  nd:(ss.map SE.nm).Nodup
  wn:(ws.map WE.nm).Nodup
theorem PE'.all {ws:List WE}{ss:List SE}(h:PE' ws ss):∀ x∈ss,∀ n∈x.road,∃ y∈ws,y.nm=n:=fun x hx n hn=>List.mem_map.mp ((h.rd x hx).subset hn)
theorem PE'.on {ws:List WE}{ss:List SE}(h:PE' ws ss):∀ x∈ss,∃ y∈ws,y.nm=x.r0:=fun x hx=>h.all x hx x.r0 List.mem_cons_self
theorem xU (w:Str)(os:List Str):inG (.str w) (os.map .str)=decide (w∈os):=by
  unfold inG
  rw[List.any_map,Bool.eq_iff_iff,List.any_eq_true,decide_eq_true_eq]
  constructor
  · rintro ⟨x,hx,e⟩
    have:x=w:=by simpa[eqD] using e
    exact this ▸ hx
  · exact fun h=>⟨w,h,by simp[eqD]⟩
theorem lM {os:List Str}{k:Nat}(h:∀ x∈os,PyData.strOk x=true):cq k (os.map .str)=true:=by
  induction os with
  | nil=>simp[cq]
  | cons a r ih=>
    rw[List.map_cons,cq,Bool.and_eq_true]
    exact ⟨by cases k<;>simpa[okD] using h a List.mem_cons_self,ih fun n z=>h n (List.mem_cons_of_mem _ z)⟩
structure SOk (x:Int×Int):Prop where
  d0:0 < x.2
  g:Int.gcd x.1 x.2=1
  n:Le x.1 (1000*x.2)
def frS (x:Int×Int):D:=fr x.1 x.2
theorem SOk.vl {x:Int×Int}(h:SOk x):Vl (frS x) x.1 x.2:=⟨⟨x.1,x.2,rfl,h.d0,h.g,rfl,Nat.le_refl _,Nat.le_refl _⟩,h.d0⟩
def Mj (t x:Int×Int):Int×Int:=(t.1*x.2+x.1*t.2,t.2*x.2)
def cX:List (Int×Int)→Int
  | []=>1
  | x::r=>x.2*cX r
theorem eT:∀ {xs:List (Int×Int)},(∀ x∈xs,SOk x)→1≤cX xs
  | [],_=>Int.le_refl _
  | x::r,h=>by
    have h1:=eT fun y hy=>h y (List.mem_cons_of_mem _ hy)
    have h2:=(h x List.mem_cons_self).d0
    show 1≤x.2*cX r
    have:=Int.mul_le_mul (show 1≤x.2 by omega) h1 (by decide) (by omega)
    omega
structure Sm (t:Int×Int) (r:List (Int×Int)) (k:Nat):Prop where
  b0:0 < t.2
  pr:t.2*cX r≤100000000000000000000000
  a:Le t.1 (1000*k*t.2)
  k:k+r.length≤8
  o:∀ x∈r,SOk x
theorem Sm.item {t x:Int×Int}{r:List (Int×Int)}{k:Nat}(h:Sm t (x::r) k):Bd x.1∧Bd x.2:=by
  have hx:=h.o x List.mem_cons_self
  have d0:=hx.d0
  have p1:=eT fun y hy=>h.o y (List.mem_cons_of_mem _ hy)
  have b0:=h.b0
  have hb:x.2≤100000000000000000000000:=by
    have e:t.2*cX (x::r)=x.2*(t.2*cX r):=by show t.2*(x.2*cX r)=_;rw[Int.mul_left_comm]
    have h1:1≤t.2*cX r:=by
      have:=Int.mul_le_mul (show 1≤t.2 by omega) p1 (by decide) (by omega)
      omega
    have:=Int.mul_le_mul_of_nonneg_left h1 (show 0≤x.2 by omega)
    have:=h.pr
    rw[e] at this
    omega
  exact ⟨hx.n.mono (by omega),Le.of (by omega) (by omega)⟩
theorem Sm.next {t x:Int×Int}{r:List (Int×Int)}{k:Nat}(h:Sm t (x::r) k):Sm (Mj t x) r (k+1):=by
  have hx:=h.o x List.mem_cons_self
  have d0:=hx.d0
  have b0:=h.b0
  refine ⟨Int.mul_pos b0 d0,?_,?_,by have:=h.k;simp at this;omega,fun y hy=>h.o y (List.mem_cons_of_mem _ hy)⟩
  · have:=h.pr
    show t.2*x.2*cX r≤_
    rw[Int.mul_assoc]
    exact this
  · have h1:=h.a.mul (Le.of (a:=x.2) (A:=x.2) (by omega) (Int.le_refl _))
    have h2:=hx.n.mul (Le.of (a:=t.2) (A:=t.2) (by omega) (Int.le_refl _))
    refine (h1.add h2).mono (Int.le_of_eq ?_)
    show 1000*(k:Int)*t.2*x.2+1000*x.2*t.2=1000*((k+1:Nat):Int)*(t.2*x.2)
    rw[Int.natCast_succ]
    rw[show 1000*((k:Int)+1)=1000*k+1000 by omega,Int.add_mul,Int.mul_assoc (1000*(k:Int)),Int.mul_assoc 1000 x.2 t.2,Int.mul_comm x.2 t.2]
theorem Sm.less {t x:Int×Int}{r:List (Int×Int)}{k:Nat}(h:Sm t (x::r) k):Sm t r k:=by
  have hx:=h.o x List.mem_cons_self
  have d0:=hx.d0
  have b0:=h.b0
  have o':=fun y hy=>h.o y (List.mem_cons_of_mem x hy)
  refine ⟨b0,?_,h.a,by have:=h.k;simp at this;omega,o'⟩
  have p1:=eT o'
  have e:t.2*cX (x::r)=x.2*(t.2*cX r):=by show t.2*(x.2*cX r)=_;rw[Int.mul_left_comm]
  have h1:0≤t.2*cX r:=Int.mul_nonneg (by omega) (by omega)
  have:=Int.mul_le_mul_of_nonneg_right (show 1≤x.2 by omega) h1
  have:=h.pr
  rw[e] at this
  omega
abbrev ShF:=Str→Int×Int
structure JS (f:ShF) (ss:List SE):Prop where
  o:∀ s∈ss,SOk (f s.nm)
  p:cX (ss.map fun s=>f s.nm)≤100000000000000000000000
def jJ (f:ShF)(n:Str)(x:Int×Int):ShF:=fun w=>if w=n then x else f w
theorem mB {f:ShF}:∀ {ss:List SE},(∀ s∈ss,SOk (f s.nm)∧(f s.nm).2≤96)→cX (ss.map fun s=>f s.nm)≤96 ^ ss.length
  | [],_=>Int.le_refl _
  | s::r,h=>by
    have ih:=mB fun y hy=>h y (List.mem_cons_of_mem s hy)
    obtain ⟨h1,h2⟩:=h s List.mem_cons_self
    have p1:=eT (xs:=r.map fun s=>f s.nm) fun x hx=>by
      obtain ⟨y,yi,rfl⟩:=List.mem_map.mp hx
      exact (h y (List.mem_cons_of_mem s yi)).1
    show (f s.nm).2*_≤96 ^ (r.length+1)
    rw[Int.pow_succ,Int.mul_comm]
    exact Int.mul_le_mul ih h2 (by have:=h1.d0;omega) (by omega)
theorem FJ {n:Nat}(h:n≤7):(96:Int) ^ n≤96 ^ 7:=by
  match n,h with
  | 0,_=>decide
  | 1,_=>decide
  | 2,_=>decide
  | 3,_=>decide
  | 4,_=>decide
  | 5,_=>decide
  | 6,_=>decide
  | 7,_=>decide
theorem JS.one {f:ShF}{ss:List SE}{n:Str}{x:Int×Int}(h:∀ s∈ss,SOk (f s.nm)∧(f s.nm).2≤96)(hl:ss.length≤8)(nd:(ss.map SE.nm).Nodup)(hx:SOk x)(hd:x.2≤1000000000):JS (jJ f n x) ss:=by
  have key:∀ (r:List SE),(∀ s∈r,SOk (f s.nm)∧(f s.nm).2≤96)→(r.map SE.nm).Nodup→r.length≤8→cX (r.map fun s=>jJ f n x s.nm)≤1000000000*96 ^ (r.length - 1)∨(n ∉ r.map SE.nm∧cX (r.map fun s=>jJ f n x s.nm)≤96 ^ r.length):=by
    intro r
    induction r with
    | nil=>exact fun _ _ _=>.inr ⟨(fun z=>nomatch z),Int.le_refl _⟩
    | cons s r ih=>
      intro hr hn hl
      rw[List.map_cons] at hn;rw[List.nodup_cons] at hn
      have hr':=fun y hy=>hr y (List.mem_cons_of_mem s hy)
      obtain ⟨h1,h2⟩:=hr s List.mem_cons_self
      have hl':r.length≤7:=by simpa using hl
      have ok':∀ x'∈r.map fun s=>jJ f n x s.nm,SOk x':=fun x' hx'=>by
        obtain ⟨y,hy,rfl⟩:=List.mem_map.mp hx'
        show SOk (jJ f n x y.nm)
        unfold jJ
        split
        · exact hx
        · exact (hr' y hy).1
      have p1:=eT ok'
      show (jJ f n x s.nm).2*_≤1000000000*96 ^ (r.length+1 - 1)∨(n ∉ s.nm::r.map SE.nm∧(jJ f n x s.nm).2*_≤96 ^ (r.length+1))
      rw[Nat.add_sub_cancel]
      by_cases e:s.nm=n
      · refine .inl ?_
        have hs:jJ f n x s.nm=x:=if_pos e
        rw[hs]
        have hnr:n ∉ r.map SE.nm:=by rw[← e];exact hn.1
        have eq:(r.map fun s=>jJ f n x s.nm)=r.map fun s=>f s.nm:=List.map_congr_left fun y hy=>if_neg fun z=>hnr (List.mem_map.mpr ⟨y,hy,z⟩)
        rw[eq] at p1 ⊢
        exact Int.mul_le_mul hd (mB hr') (by omega) (by decide)
      · have hs:jJ f n x s.nm=f s.nm:=if_neg e
        rw[hs]
        have d0:=h1.d0
        rcases ih hr' hn.2 (by omega) with q | ⟨q1,q2⟩
        · refine .inl ?_
          cases r with
          | nil=>
            show (f s.nm).2*1≤1000000000*1
            omega
          | cons s' r'=>
            rw[List.length_cons,Nat.add_sub_cancel] at q
            have:=Int.mul_le_mul h2 q (by omega) (by decide)
            rw[List.length_cons,Int.pow_succ]
            have e3:(96:Int)*(1000000000*96 ^ r'.length)=1000000000*(96 ^ r'.length*96):=by
              rw[Int.mul_left_comm,Int.mul_comm 96 (96 ^ r'.length)]
            rw[e3] at this
            exact this
        · refine .inr ⟨fun z=>?_,?_⟩
          · rcases List.mem_cons.mp z with z | z
            · exact e z.symm
            · exact q1 z
          · rw[Int.pow_succ,Int.mul_comm]
            exact Int.mul_le_mul q2 h2 (by omega) (by omega)
  refine ⟨fun s hs=>?_,?_⟩
  · show SOk (jJ f n x s.nm)
    unfold jJ
    split
    · exact hx
    · exact (h s hs).1
  · have e8:(96:Int) ^ 8≤100000000000000000000000:=by decide
    have e7:1000000000*(96:Int) ^ 7≤100000000000000000000000:=by decide
    rcases key ss h nd hl with q | ⟨_,q⟩
    · have:=FJ (n:=ss.length - 1) (by omega)
      have:=Int.mul_le_mul_of_nonneg_left this (show (0:Int)≤1000000000 by decide)
      omega
    · by_cases e:ss.length=8
      · rw[e] at q;omega
      · have:=FJ (n:=ss.length) (by omega)
        have:(96:Int) ^ 7≤96 ^ 8:=by decide
        omega
theorem pN (kvs:List (L2.Key×D))(k j:L2.Key)(d:D):cV (putD kvs k d) j=if j=k then some d else cV kvs j:=by
  unfold putD cV
  split
  · rename_i ha
    induction kvs with
    | nil=>cases ha
    | cons kv r ih=>
      rw[List.map_cons,List.find?_cons,List.find?_cons]
      by_cases e:kv.1=k
      · rw[if_pos e]
        by_cases f:j=k
        · rw[if_pos f,f,decide_eq_true e];rfl
        · rw[if_neg f,e,decide_eq_false (Ne.symm f)]
          by_cases hr:(r.any fun kv=>decide (kv.1=k))=true
          · have:=ih hr
            rw[if_neg f] at this
            exact this
          · have same:r.map (fun kv=>if kv.1=k then (kv.1,d) else kv)=r:=by
              refine (List.map_congr_left fun x hx=>?_).trans (List.map_id r)
              have:¬ x.1=k:=fun z=>hr (List.any_eq_true.mpr ⟨x,hx,decide_eq_true z⟩)
              rw[if_neg this];rfl
            rw[same]
      · rw[if_neg e]
        have hr:(r.any fun kv=>decide (kv.1=k))=true:=by
          rw[List.any_cons,decide_eq_false e] at ha
          exact ha
        by_cases f:kv.1=j
        · rw[decide_eq_true f]
          have:¬ j=k:=fun z=>e (f.trans z)
          rw[if_neg this]
        · rw[decide_eq_false f]
          exact ih hr
  · rename_i ha
    rw[List.find?_append]
    by_cases f:j=k
    · rw[if_pos f,f]
      have:kvs.find? (fun kv=>decide (kv.1=k))=none:=List.find?_eq_none.mpr fun x hx z=>ha (List.any_eq_true.mpr ⟨x,hx,z⟩)
      rw[this]
      simp
    · rw[if_neg f]
      have:([(k,d)]:List (L2.Key×D)).find? (fun kv=>decide (kv.1=j))=none:=by simp[Ne.symm f]
      rw[this]
      simp
theorem z6 (kvs:List (L2.Key×D))(k:L2.Key)(d:D):(putD kvs k d).length≤kvs.length+1:=by
  unfold putD
  split
  · rw[List.length_map];omega
  · rw[List.length_append];exact Nat.le_refl _
section
open PySem PySem.Spec PyProof.Rows L2
section
variable {X:Cx} {a b:Expr} {Ta Tb:ETr} {pos:Pos}
def A7:DR2:=fun x y μ Q=>match x with
  | .str z=>pO (.str z) y μ Q
  | x=>L3.rIx x y μ Q
theorem Fu {K:PySem.W.Frag}:dB K (L2.rIx K) A7:=fun H μ x y dx dy Q Q' m px py h k=>by
  cases dx with
  | str z=>exact .inr (.inr (xY H μ x y (.str z) dy Q Q' m px py h k))
  | _=>exact zY H μ x y _ dy Q Q' m px py h k
theorem Hn (ha:LE X a Ta)(hb:LE X b Tb)(hs:lI b:=by intro _ _;rfl):LE X (.Subscript a b pos) (ak A7 Ta Tb):=by
  obtain ⟨ta,pa,sa⟩:=ha.ex
  obtain ⟨tb,pb,sb⟩:=hb.ex
  exact ⟨_,Ad A4 pa pb hs,gG Fu sa sb⟩
def Gh:DR2:=fun x y μ Q=>match x,y with
  | .int i,.int n=>(i=1∧0≤n∧n≤60)∧Q (.int (i*2 ^ n.toNat)) μ
  | _,_=>False
def GF:DR2:=fun x y μ Q=>match x,y with
  | .int i,.int n=>0≤n∧Q (.int (i.fdiv (2 ^ n.toNat))) μ
  | _,_=>False
def AA:DR2:=fun x y μ Q=>match x,y with
  | .int i,.int n=>Q (.int (Builtin.bitAnd i n)) μ
  | _,_=>False
theorem BJ:OpR X (binaryOp .LShift) (rI (fun i n=>i=1∧0≤n∧n≤60) fun i n=>.int (i*2 ^ n.toNat)):=opI fun i n _ _ _ _ _ hc q=>by
  obtain ⟨e,h0,h1⟩:=hc
  refine lshift_int h0 ?_ q
  rw[e]
  have:Builtin.Int.intBits 1=1:=by decide
  rw[this]
  omega
theorem BX:OpR X (binaryOp .RShift) (rI (fun _ n=>0≤n) fun i n=>.int (i.fdiv (2 ^ n.toNat))):=opI fun _ _ _ _ _ _ _ hc q=>rshift_int hc q
theorem FC:OpR X (binaryOp .BitAnd) (rI0 fun i n=>.int (Builtin.bitAnd i n)):=Gr fun _ _ _ _ _ _ _ q=>and_int q
theorem GX (ha:LE X a Ta)(hb:LE X b Tb):LE X (.BinOp a .LShift b pos) (ak Gh Ta Tb):=gd BJ (jR (fun i j=>.int (i*2 ^ j.toNat)) (fun _ _ _=>.int _) (fun _ _ _ _ h=>⟨h.1,h.2⟩) (fun dx dy μ Q h=>by cases dx<;>cases dy<;>first | exact ⟨⟨_,rfl⟩,_,rfl⟩ | exact False.elim h)) ha hb
theorem Gv (ha:LE X a Ta)(hb:LE X b Tb):LE X (.BinOp a .RShift b pos) (ak GF Ta Tb):=gd BX (jR (fun i j=>.int (i.fdiv (2 ^ j.toNat))) (fun _ _ _=>.int _) (fun _ _ _ _ h=>⟨h.1,h.2⟩) (fun dx dy μ Q h=>by cases dx<;>cases dy<;>first | exact ⟨⟨_,rfl⟩,_,rfl⟩ | exact False.elim h)) ha hb
theorem FA (ha:LE X a Ta)(hb:LE X b Tb):LE X (.BinOp a .BitAnd b pos) (ak AA Ta Tb):=gd FC (rC (fun i j=>.int (Builtin.bitAnd i j)) (fun _ _ _=>.int _) (fun _ _ _ _ h=>h) (fun dx dy μ Q h=>by cases dx<;>cases dy<;>first | exact ⟨⟨_,rfl⟩,_,rfl⟩ | exact False.elim h)) ha hb
end
theorem AS {X:Cx}{tg elt iter:Expr}{Te:ETr}{Tt:TTr}{pos:Pos}{It':ATr}{G:GTr}{ifs:List Expr}{scope fsc:Scope}(XN Nc:List Str)(n:Nat)(caps:List Nat)(hxe:X.xe=fun _ _=>False)(hcalm:X.calm=true)(hi:LI X tg iter It')
    (hbody:∀ (cl:List (Str×Addr)) (C:Addr) (s₀:Shared) (H₀:Hp) (ex:List Addr),LGc (a8 X scope Nc cl C s₀ H₀ ex) n tg G∧vS (a8 X scope Nc cl C s₀ H₀ ex) ifs Tt∧LE (a8 X scope Nc cl C s₀ H₀ ex) elt Te)
    (hsc:X.env.scope=fsc) (hXN:X.N=XN) (hok:jQ fsc.names XN scope Nc n caps=true)
    (hs:∀ x,foldedSetIterable iter X.env x=pure x:=by intro _;rfl) :
    LE X (.ListComp elt [⟨tg,iter,ifs,0⟩] scope pos) (qV It' G Tt Te n caps):=by
  unfold jQ at hok
  simp only[Bool.and_eq_true,List.all_eq_true] at hok
  obtain ⟨⟨⟨h1,h2⟩,h3⟩,h4⟩:=hok
  obtain ⟨wi,pi,si⟩:=hi.ex
  refine ⟨_,xb (g:=l6 X.K n G) (tt:=liftT X.K Tt) (te:=nT X.K Te) hxe hcalm pi (fun cl C s₀ H₀ ex=>let ⟨h1,h2,h3⟩:=hbody cl C s₀ H₀ ex;⟨h1.pe,h2.pe,h3.pe⟩) (fun y hy hf=>?_) (fun y hy hf=>?_) (by simpa using h2) (fun y hy hf=>?_) (by simpa using h3) (fun j k hj=>?_) hs,zU si⟩
  · have:=(h1 y hy).1.1
    show X.env.scope.names.lookup y.1=_
    rw[hsc]
    simpa[hf] using this
  · have:=(h1 y hy).1.2
    simp[hf] at this
  · have:=(h1 y hy).2
    simpa[hf] using this
  · have hl:j < caps.length:=(List.getElem?_eq_some_iff.mp hj).1
    have:=h4 j (List.mem_range.mpr hl)
    rw[hj] at this
    dsimp only at this
    rw[hXN]
    cases e:XN[k]? with
    | none=>rw[e] at this;cases this
    | some x=>
      rw[e] at this
      dsimp only at this
      rw[Bool.and_eq_true] at this
      exact ⟨x,by simpa using this.1,rfl,by simpa using this.2⟩
end
structure Bp (μ:Mu) (b c:Addr):Prop where
  ne:b≠c
  ex:∃ (ns:List Int) (s:Int),μ b=some (.lst [.obj c,.int s])∧μ c=some (.lst (ns.map .int))
structure da (b c:Addr) (μ μ':Mu):Prop where
  p:Bp μ' b c
  o:∀ a,a≠b→a≠c→μ' a=μ a
theorem da.trans {b c:Addr}{μ μ1 μ2:Mu}(h:da b c μ μ1)(k:da b c μ1 μ2):da b c μ μ2:=⟨k.p,fun a h1 h2=>(k.o a h1 h2).trans (h.o a h1 h2)⟩
theorem Bp.nb {μ:Mu}{b c a:Addr}(h:Bp μ b c)(e:μ a=none):a≠b∧a≠c:=by
  obtain ⟨_,ns,s,e1,e2⟩:=h
  exact ⟨(fun z=>by subst z;rw[e1] at e;cases e),(fun z=>by subst z;rw[e2] at e;cases e)⟩
theorem Bp.up {μ:Mu}{b c a:Addr}{o:MO}(h:Bp μ b c)(n:a≠b∧a≠c):Bp (up μ a o) b c:=by
  obtain ⟨ne,ns,s,e1,e2⟩:=h
  exact ⟨ne,ns,s,by rw[aV n.1.symm];exact e1,by rw[aV n.2.symm];exact e2⟩
theorem da.old {b c a:Addr}{μ μ':Mu}{o:MO}(h:da b c μ μ')(hB:Bp μ b c)(n1:a≠b)(n2:a≠c)(e:μ a=some o):μ' a=some o:=(h.o a n1 n2).trans e
section
variable {G:GTr} {tt:TTr} {te:ETr} {ρc:ST} {ds:List D} {μ:Mu} {Q:DK} {b c:Addr}
theorem rZ (hP:Bp μ b c)(I:List D→List D→Prop)(h0:I ds [])(hl:ds.length≤999999)
    (step:∀ d r zs μ',Bp μ' b c→(∀ a o,a≠b→a≠c→μ a=some o→μ' a=some o)→I (d::r) zs→∀ (N:Option D→Mu→Prop),(∀ oy μ2,I r (zs++oy.toList)→da b c μ' μ2→N oy μ2)→G d ρc μ' fun ρ1 μ1=>tt ρ1 μ1 fun c μ2=>kIf c (te ρ1 μ2 fun y μ3=>N (some y) μ3) (N none μ2))
    (k:∀ zs μ',I [] zs→da b c μ μ'→Q (.ls zs) μ'):y4 G tt te ρc ds μ Q:=by
  intro p hp
  have pb:=hP.nb hp
  refine gx (fun r μ'=>∃ zs,I r zs∧zs.length+r.length≤ds.length∧μ' p=some (.lst zs)∧Bp μ' b c∧∀ a,a≠b→a≠c→a≠p→μ' a=μ a) ?_ ?_ _ _ ⟨[],h0,by simp,aN,hP.up pb,fun a _ _ h=>aV h⟩
  · rintro μ' ⟨zs,hI,_,e,P,fr⟩
    refine cH e (k zs _ hI ⟨?_,fun a h1 h2=>?_⟩)
    · obtain ⟨ne,ns,s,e1,e2⟩:=P
      exact ⟨ne,ns,s,by unfold dn;rw[if_neg pb.1.symm];exact e1,by unfold dn;rw[if_neg pb.2.symm];exact e2⟩
    · unfold dn
      split
      · rename_i z;subst z;exact hp.symm
      · rename_i z;exact fr a h1 h2 z
  · rintro d r μ' N ⟨zs,hI,hz,e,P,fr⟩ hN
    rw[List.length_cons] at hz
    refine step d r zs μ' P (fun a o n1 n2 h=>?_) hI (fun oy μ3=>match oy with
      | some y=>kL μ3 p fun zs=>zs.length < 1000000∧N (up μ3 p (.lst (zs++[y])))
      | none=>N μ3) ?_
    · rw[fr a n1 n2 (fun z=>by subst z;rw[hp] at h;cases h)];exact h
    intro oy μ2 hoy P2
    have e2:μ2 p=some (.lst zs):=by rw[P2.o p pb.1 pb.2];exact e
    cases oy with
    | none=>exact hN _ ⟨zs,by simpa using hoy,by omega,e2,P2.p,fun a h1 h2 h3=>(P2.o a h1 h2).trans (fr a h1 h2 h3)⟩
    | some y=>
      refine cH e2 ⟨by omega,hN _ ⟨zs++[y],hoy,by rw[List.length_append];simp;omega,aN,P2.p.up pb,fun a h1 h2 h3=>?_⟩⟩
      rw[aV h3,P2.o a h1 h2,fr a h1 h2 h3]
end
def soS (b:Bool):Str:=if b then Str.ofString "turns" else Str.ofString "line"
theorem Ge (b:Bool):PyData.strOk (soS b)=true:=by cases b<;>decide +kernel
theorem yu:PyData.strOk (Str.ofString "turns")=true:=by decide +kernel
theorem JX (b:Bool):decide (soS b=Str.ofString "turns")=b:=by cases b<;>decide +kernel
structure WB where
  nm:Str
  pc:Int
  rm:Int
  ma:D
  so:Bool
def WB.toD (w:WB):D:=.tup [.str w.nm,.int w.pc,.int w.rm,w.ma,.str (soS w.so)]
structure WB.Ok (w:WB):Prop where
  n:PyData.strOk w.nm=true
  p0:1≤w.pc
  p1:w.pc≤20
  r0:1≤w.rm
  r1:w.rm≤60
structure SB where
  nm:Str
  rd:List Str
  bt:Int
  bg:D
  mn:D
  ru:List D
  r:Int
  s:Int
def SB.rl (x:SB):D:=.tup (x.ru++[fr x.r x.s])
def SB.toD (x:SB):D:=.tup [.str x.nm,.tup (x.rd.map .str),.int x.bt,x.bg,x.mn,x.rl]
structure SB.Ok (x:SB):Prop where
  rd:∀ z∈x.rd,PyData.strOk z=true
  b0:1≤x.bt
  b1:x.bt≤8
  f:FrB 1 60 x.r x.s
  l:x.rd.length≤100
def SB.lim (x:SB):Int:=x.r / x.s
theorem SB.Ok.lim {x:SB}(h:x.Ok):1≤x.lim∧x.lim≤60:=by
  have q0:=h.f.q0
  have h1:=h.f.ge
  have h2:=h.f.le
  exact ⟨(Int.le_ediv_iff_mul_le q0).mpr h1,Int.ediv_le_of_le_mul q0 h2⟩
structure PB (ws:List WB) (ss:List SB):Prop where
  w:∀ x∈ws,x.Ok
  s:∀ x∈ss,x.Ok
  rd:∀ x∈ss,x.rd.Sublist (ws.map WB.nm)
  wn:(ws.map WB.nm).Nodup
  wl:ws.length≤6
  sl:ss.length≤8
def plB (g:D)(ws:List WB)(ss:List SB):D:=.tup [g,.tup (ws.map WB.toD),.tup (ss.map SB.toD)]
section
variable (w:WB) (x:SB) (g:D) (ws:List WB) (ss:List SB) (μ:Mu) (Q:DK)
theorem Ma:L3.rIx w.toD (.int 0) μ Q=Q (.str w.nm) μ:=propext Iff.rfl
theorem Mb:L3.rIx w.toD (.int 1) μ Q=Q (.int w.pc) μ:=propext Iff.rfl
theorem L4:L3.rIx w.toD (.int 2) μ Q=Q (.int w.rm) μ:=propext Iff.rfl
theorem Ll:L3.rIx w.toD (.int 4) μ Q=Q (.str (soS w.so)) μ:=propext Iff.rfl
theorem LM:L3.rIx x.toD (.int 1) μ Q=Q (.tup (x.rd.map .str)) μ:=propext Iff.rfl
theorem Lu:L3.rIx x.toD (.int 2) μ Q=Q (.int x.bt) μ:=propext Iff.rfl
theorem LQ:L3.rIx x.toD (.int 5) μ Q=Q x.rl μ:=propext Iff.rfl
theorem Mf:L3.rIx (plB g ws ss) (.int 1) μ Q=Q (.tup (ws.map WB.toD)) μ:=propext Iff.rfl
theorem Mi:L3.rIx (plB g ws ss) (.int 2) μ Q=Q (.tup (ss.map SB.toD)) μ:=propext Iff.rfl
theorem JH:L3.rIx x.rl (.int (-1)) μ Q=Q (fr x.r x.s) μ:=by
  show kO (atD (x.ru++[fr x.r x.s]) (-1)) (fun d=>Q d μ)=_
  rw[Bl (d:=fr x.r x.s) (by simp) (by simp)]
  rfl
end
theorem JI (i0 i1 i2 i3 i4 i5:Nat)(x:SB)(ρ:ST)(μ:Mu)(k:ST→Mu→Prop):eG [i0,i1,i2,i3,i4,i5] x.toD ρ μ k=eG [i0,i1,i2,i3,i4,i5] (.tup [.str x.nm,.tup (x.rd.map .str),.int x.bt,x.bg,x.mn,x.rl]) ρ μ k:=propext Iff.rfl
def onB (n:Str)(ss:List SB):List SB:=ss.filter fun x=>decide (n∈x.rd)
def frn (n:Str)(rd:List Str):List Str:=rd.take (rd.findIdx fun x=>decide (x=n))
theorem rV {n:Str}{rest:List Str}:∀ {dn rd:List Str},(dn++n::rest).Nodup→rd.Sublist (dn++n::rest)→n∈rd→∀ x∈frn n rd,x∈dn
  | [],rd,nd,sb,hn,x,hx=>by
    cases sb with
    | cons _ h=>exact absurd (h.subset hn) (List.nodup_cons.mp nd).1
    | cons_cons _ h=>simp[frn,List.findIdx_cons] at hx
  | d::dn,rd,nd,sb,hn,x,hx=>by
    obtain ⟨n1,n2⟩:=List.nodup_cons.mp nd
    cases sb with
    | cons _ h=>exact List.mem_cons_of_mem _ (rV n2 h hn x hx)
    | cons_cons _ h=>
      rename_i r
      have dn':d≠n:=fun z=>n1 (by rw[z];simp)
      have hr:n∈r:=(List.mem_cons.mp hn).resolve_left fun z=>dn' z.symm
      have e:frn n (d::r)=d::frn n r:=by
        unfold frn
        rw[List.findIdx_cons]
        simp[dn']
      rw[e] at hx
      rcases List.mem_cons.mp hx with rfl | z
      · exact List.mem_cons_self
      · exact List.mem_cons_of_mem _ (rV n2 h hr x z)
theorem tV {n:Str}{rd:List Str}(h:n∈rd):yT (rd.map .str) (.str n)=some (rd.findIdx fun x=>decide (x=n)):=by
  have hl:rd.findIdx (fun x=>decide (x=n)) < rd.length:=List.findIdx_lt_length_of_exists ⟨n,h,by simp⟩
  unfold yT
  induction rd with
  | nil=>cases h
  | cons x r ih=>
    rw[List.map_cons,List.findIdx?_cons,List.findIdx_cons]
    by_cases e:x=n
    · simp[e,eqD]
    · have hr:n∈r:=(List.mem_cons.mp h).resolve_left fun z=>e z.symm
      have:=ih hr (List.findIdx_lt_length_of_exists ⟨n,hr,by simp⟩)
      have ne:eqD (.str x) (.str n)=false:=by simp[eqD,e]
      rw[ne,this]
      simp[e]
abbrev WF:=Str→Int
def tu (W:WF)(n:Str)(v:Int):WF:=fun x=>if x=n then v else W x
def ahd (W:WF)(n:Str)(x:SB):Int:=((frn n x.rd).map W).sum
def cmb (W:WF)(n:Str)(k:Int)(x:SB):Int:=x.lim*((k+ahd W n x+x.bt - 1) / x.bt)
def com (W:WF)(n:Str)(l:List SB)(k:Int):Int:=(l.map (cmb W n k)).sum
def W0 (W:WF):Prop:=∀ n,0≤W n
theorem W0.set {W:WF}(h:W0 W){n:Str}{v:Int}(hv:0≤v):W0 (tu W n v):=fun x=>by
  unfold tu
  split
  · exact hv
  · exact h x
theorem vW:∀ {l:List Int},(∀ x∈l,0≤x)→0≤l.sum
  | [],_=>by simp
  | x::r,h=>by
    rw[List.sum_cons]
    have:=h x List.mem_cons_self
    have:=vW fun y hy=>h y (List.mem_cons_of_mem x hy)
    omega
theorem Ji {W:WF}(h:W0 W)(n:Str)(x:SB):0≤ahd W n x:=vW fun v hv=>by
  obtain ⟨y,_,rfl⟩:=List.mem_map.mp hv
  exact h y
theorem IY {W:WF}(h:W0 W){n:Str}{l:List SB}(hl:∀ x∈l,x.Ok){k:Int}(k0:0≤k):0≤com W n l k:=vW fun v hv=>by
  obtain ⟨x,hx,rfl⟩:=List.mem_map.mp hv
  have X:=hl x hx
  have b0:=X.b0
  have l0:=X.lim.1
  have a0:=Ji h n x
  exact Int.mul_nonneg (by omega) (Int.ediv_nonneg (by omega) (by omega))
def ld (l:List SB):Int:=(l.map fun x=>x.lim*(840 / x.bt)).sum
theorem Cc {b:Int}(h0:1≤b)(h1:b≤8):840 / b*b=840∧b ∣ 840:=by
  have:b=1∨b=2∨b=3∨b=4∨b=5∨b=6∨b=7∨b=8:=by omega
  rcases this with rfl | rfl | rfl | rfl | rfl | rfl | rfl | rfl<;>exact ⟨by decide,by decide⟩
def rdN (R:Nat)(l:List SB):Nat:=l.foldl (fun r x=>Nat.lcm r x.bt.toNat) R
theorem xc:∀ {l:List SB} {R:Nat},(∀ x∈l,x.Ok)→R ∣ 840→0 < R→rdN R l ∣ 840∧0 < rdN R l∧R ∣ rdN R l∧(∀ x∈l,x.bt.toNat ∣ rdN R l)∧∀ m,R ∣ m→(∀ x∈l,x.bt.toNat ∣ m)→rdN R l ∣ m
  | [],R,_,h,h0=>⟨h,h0,Nat.dvd_refl _,(fun _ z=>nomatch z),fun m hm _=>hm⟩
  | x::r,R,hl,h,h0=>by
    have X:=hl x List.mem_cons_self
    have b0:=X.b0
    have d:x.bt.toNat ∣ 840:=by
      have:=(Cc X.b0 X.b1).2
      have e:((x.bt.toNat:Nat):Int)=x.bt:=by omega
      rw[← e] at this
      exact Int.natCast_dvd_natCast.mp this
    have p:0 < Nat.lcm R x.bt.toNat:=Nat.lcm_pos h0 (by omega)
    obtain ⟨i1,i2,i3,i4,i5⟩:=xc (l:=r) (R:=Nat.lcm R x.bt.toNat) (fun y hy=>hl y (List.mem_cons_of_mem _ hy)) (Nat.lcm_dvd h d) p
    refine ⟨i1,i2,Nat.dvd_trans (Nat.dvd_lcm_left _ _) i3,fun y hy=>?_,fun m hm hd=>i5 m (Nat.lcm_dvd hm (hd x List.mem_cons_self)) fun y hy=>hd y (List.mem_cons_of_mem _ hy)⟩
    rcases List.mem_cons.mp hy with rfl | z
    · exact Nat.dvd_trans (Nat.dvd_lcm_right _ _) i3
    · exact i4 y z
theorem BR {R:Nat}{b:Int}(h0:0 < R)(hb:1≤b):(R:Int).fdiv (Int.gcd (R:Int) b)*b=((Nat.lcm R b.toNat:Nat):Int):=by
  have e:((b.toNat:Nat):Int)=b:=by omega
  have g:Int.gcd (R:Int) b=Nat.gcd R b.toNat:=by rw[← e];rfl
  have gp:0 < Nat.gcd R b.toNat:=Nat.gcd_pos_of_pos_left _ h0
  rw[g,cw (by omega),← Int.natCast_ediv]
  have e3:((R / Nat.gcd R b.toNat:Nat):Int)*b=((R / Nat.gcd R b.toNat*b.toNat:Nat):Int):=by rw[Int.natCast_mul,e]
  rw[e3]
  congr 1
  unfold Nat.lcm
  obtain ⟨q,hq⟩:=Nat.gcd_dvd_left R b.toNat
  clear g e3
  generalize Nat.gcd R b.toNat=G at *
  subst hq
  rw[Nat.mul_div_cancel_left q gp,Nat.mul_assoc,Nat.mul_div_cancel_left _ gp]
def mx (l:List Int):Int:=l.foldl max 0
theorem xK:∀ (l:List Int) (a:Int),(l.foldl max a=a∨l.foldl max a∈l)∧a≤l.foldl max a∧∀ x∈l,x≤l.foldl max a
  | [],a=>⟨.inl rfl,Int.le_refl _,fun _ h=>nomatch h⟩
  | x::r,a=>by
    obtain ⟨i1,i2,i3⟩:=xK r (max a x)
    rw[List.foldl_cons]
    refine ⟨?_,by omega,fun y hy=>?_⟩
    · rcases i1 with e | e
      · rw[e]
        rcases Int.le_total a x with z | z
        · right;rw[Int.max_eq_right z];exact List.mem_cons_self
        · left;exact Int.max_eq_left z
      · exact .inr (List.mem_cons_of_mem _ e)
    · rcases List.mem_cons.mp hy with rfl | z
      · omega
      · exact i3 y z
theorem FY {l:List Int}{M:Int}(h:M=0∨M∈l)(h0:0≤M)(hl:∀ a∈l,a≤M):M=mx l:=by
  obtain ⟨i1,i2,i3⟩:=xK l 0
  unfold mx
  refine Int.le_antisymm ?_ ?_
  · rcases h with rfl | h
    · exact i2
    · exact i3 M h
  · rcases i1 with e | e
    · rw[e];exact h0
    · exact hl _ e
def pkL (W:WF)(w:WB)(l:List SB):List Int:=(List.range (rdN 1 l)).map fun (i:Nat)=>com W w.nm l (1+(i:Int)) - w.pc*(1+(i:Int) - 1)
def pk (W:WF)(w:WB)(l:List SB):Int:=mx (pkL W w l)
def inP (w:WB)(l:List SB):Bool:=decide (ld l≤840*w.pc)
def most (W:WF)(w:WB)(l:List SB):Int:=if inP w l then min w.rm (pk W w l) else w.rm
def eQ (W:WF)(w:WB)(l:List SB):Bool:=inP w l&&decide (pk W w l≤w.rm)
def kK (w:WB)(l:List SB)(m:Int):Int:=if w.so then min w.rm m*l.length else min w.rm m
def plc (w:WB)(l:List SB)(m:Int):Int:=max 0 ((kK w l m+w.pc - 1) / w.pc - 1)
def uJ (W:WF)(w:WB)(l:List SB)(k:Int):Bool:=decide (com W w.nm l (k+1)≤w.pc*(k+1))
def isW (W:WF)(w:WB)(l:List SB)(m k:Int):Bool:=decide (l=[]) || (decide (plc w l m≤k) || uJ W w l k)
def LH (W:WF)(w:WB)(l:List SB)(n:Nat):List Int:=((List.range n).filter fun (k:Nat)=>uJ W w l k).map fun (k:Nat)=>(k:Int)
def wt (W:WF)(w:WB)(l:List SB)(m:Int):Int:=(LH W w l (plc w l m).toNat).headD (plc w l m)
theorem GU (w:WB)(l:List SB)(m:Int):0≤plc w l m:=by unfold plc;omega
theorem zr {p:Nat→Bool}:∀ {n j:Nat},j < n→p j=true→(∀ i < j,p i=false)→∃ r,(List.range n).filter p=j::r:=by
  intro n j hj pj hi
  obtain ⟨k,rfl⟩:=Nat.exists_eq_add_of_le (show j+1≤n from hj)
  have e:List.range (j+1+k)=List.range j++j::(List.range k).map (fun i=>j+1+i):=by
    rw[List.range_add,List.range_succ,List.append_assoc];rfl
  have z:(List.range j).filter p=[]:=List.filter_eq_nil_iff.mpr fun i hi' q=>by
    rw[hi i (List.mem_range.mp hi')] at q;cases q
  rw[e,List.filter_append,z,List.filter_cons,if_pos pj]
  exact ⟨_,rfl⟩
def tI (tab:List (L2.Key×D))(W:WF)(ns:List Str):Prop:=∀ n∈ns,cV tab (.inr n)=some (.int (W n))
theorem tI.put {tab:List (L2.Key×D)}{W:WF}{ns:List Str}(T:tI tab W ns)(n:Str)(v:Int):tI (putD tab (.inr n) (.int v)) (tu W n v) (ns++[n]):=fun x hx=>by
  rw[pN]
  unfold tu
  by_cases e:x=n
  · rw[if_pos (by rw[e]),if_pos e]
  · rw[if_neg (fun z=>e (by injection z)),if_neg e]
    rcases List.mem_append.mp hx with z | z
    · exact T x z
    · exact absurd (List.mem_singleton.mp z) e
structure LB (n:Str) (l:List SB) (W:WF) (tab:List (L2.Key×D)):Prop where
  o:∀ x∈l,x.Ok
  on:∀ x∈l,n∈x.rd
  t:∀ x∈l,tI tab W (frn n x.rd)
  len:l.length≤8
  n:PyData.strOk n=true
def iK (W:WF)(n:Str)(x:SB):D:=.tup [.int x.lim,.int x.bt,.int (ahd W n x)]
theorem E6 (i0 i1 i2:Nat)(W:WF)(n:Str)(x:SB)(ρ:ST)(μ:Mu)(k:ST→Mu→Prop):eG [i0,i1,i2] (iK W n x) ρ μ k=eG [i0,i1,i2] (.tup [.int x.lim,.int x.bt,.int (ahd W n x)]) ρ μ k:=propext Iff.rfl
theorem nE {n:Str}{ss:List SB}{x:SB}:x∈onB n ss↔x∈ss∧n∈x.rd:=by unfold onB;rw[List.mem_filter,decide_eq_true_eq]
theorem xV (n:Str)(ss:List SB):(onB n ss).length≤ss.length:=List.length_filter_le _ _
theorem PB.lb {ws:List WB}{ss:List SB}{dn rs:List WB}{w:WB}{W:WF}{tab:List (L2.Key×D)}(P:PB ws ss)(e:dn++w::rs=ws)(T:tI tab W (dn.map WB.nm)):LB w.nm (onB w.nm ss) W tab:=by
  have hw:w∈ws:=by rw[← e];simp
  have nd:=P.wn
  rw[← e,List.map_append,List.map_cons] at nd
  refine ⟨fun x hx=>P.s x (nE.mp hx).1,fun x hx=>(nE.mp hx).2,fun x hx n hn=>T n ?_,Nat.le_trans (xV _ _) P.sl,(P.w w hw).n⟩
  have sb:=P.rd x (nE.mp hx).1
  rw[← e,List.map_append,List.map_cons] at sb
  exact rV nd sb (nE.mp hx).2 n hn
section
open PySem PySem.Spec PyProof.Rows L2
theorem AN:∀ (ns:List (Str×NameKind)) (n:Nat) (acc:List (Str×Addr)) (x:Str) (c:Addr),(cellsFrom n ns acc).lookup x=some c→(n≤c∧(x,NameKind.cell)∈ns)∨(acc.lookup x=some c∧(x,NameKind.cell) ∉ ns)
  | [],_,_,_,_,e=>.inr ⟨e,fun h=>nomatch h⟩
  | (y,k)::r,n,acc,x,c,e=>by
    unfold cellsFrom at e
    split at e
    · rename_i hk
      have hk:k=.cell:=by simpa using hk
      subst hk
      rcases AN r _ _ x c e with ⟨q,m⟩ | ⟨q,m⟩
      · exact .inl ⟨by omega,List.mem_cons_of_mem _ m⟩
      · rw[List.lookup_cons] at q
        cases hx:x == y with
        | true=>
          rw[hx] at q
          have:x=y:=by simpa using hx
          subst this
          cases q
          exact .inl ⟨Nat.le_refl _,List.mem_cons_self⟩
        | false=>
          rw[hx] at q
          refine .inr ⟨q,fun z=>?_⟩
          rcases List.mem_cons.mp z with z | z
          · injection z with z _
            simp[z] at hx
          · exact m z
    · rename_i hk
      rcases AN r _ _ x c e with ⟨q,m⟩ | ⟨q,m⟩
      · exact .inl ⟨q,List.mem_cons_of_mem _ m⟩
      · refine .inr ⟨q,fun z=>?_⟩
        rcases List.mem_cons.mp z with z | z
        · injection z with _ z
          exact hk (by rw[← z];rfl)
        · exact m z
theorem qO:∀ (ns:List (Str×NameKind)) (n:Nat) (acc:List (Str×Addr)) (x:Str),(x,NameKind.cell) ∉ ns→(cellsFrom n ns acc).lookup x=acc.lookup x
  | [],_,_,_,_=>rfl
  | (y,k)::r,n,acc,x,h=>by
    have hr:=fun z=>h (List.mem_cons_of_mem _ z)
    unfold cellsFrom
    split
    · rename_i hk
      have hk:k=.cell:=by simpa using hk
      subst hk
      rw[qO r _ _ x hr,List.lookup_cons]
      have:(x == y)=false:=by
        cases hx:x == y with
        | false=>rfl
        | true=>
          have:x=y:=by simpa using hx
          subst this
          exact absurd List.mem_cons_self h
      rw[this]
    · exact qO r _ _ x hr
theorem vz:∀ (ns:List (Str×NameKind)) (n:Nat) (acc:List (Str×Addr)),(∀ x y c,acc.lookup x=some c→acc.lookup y=some c→x=y)→(∀ x c,acc.lookup x=some c→c < n)→∀ x y c,(cellsFrom n ns acc).lookup x=some c→(cellsFrom n ns acc).lookup y=some c→x=y
  | [],_,_,h,_=>h
  | (z,k)::r,n,acc,h,hb=>by
    unfold cellsFrom
    split
    · have one:∀ x c,((z,n)::acc).lookup x=some c→(x=z∧c=n)∨(acc.lookup x=some c):=fun x c e=>by
        rw[List.lookup_cons] at e
        cases hx:x == z with
        | true=>rw[hx] at e;cases e;exact .inl ⟨by simpa using hx,rfl⟩
        | false=>rw[hx] at e;exact .inr e
      refine vz r _ _ (fun x y c e1 e2=>?_) fun x c e=>?_
      · rcases one x c e1 with ⟨a1,a2⟩ | a1<;>rcases one y c e2 with ⟨b1,b2⟩ | b1
        · exact a1.trans b1.symm
        · exact absurd (a2 ▸ hb _ _ b1) (Nat.lt_irrefl _)
        · exact absurd (b2 ▸ hb _ _ a1) (Nat.lt_irrefl _)
        · exact h _ _ _ a1 b1
      · rcases one x c e with ⟨_,a2⟩ | a1
        · rw[a2];exact Nat.lt_succ_self _
        · exact Nat.lt_succ_of_lt (hb _ _ a1)
    · exact vz r _ _ h hb
theorem CZ:∀ (ns:List (Str×NameKind)) (h:Heap) (acc:List (Str×Addr)),(∀ x c,acc.lookup x=some c→∃ v,h.IsCell c v)→∀ x c,(cellsFrom h.objs.size ns acc).lookup x=some c→∃ v,(pushCells h ns).IsCell c v
  | [],_,_,ha,x,c,e=>ha x c e
  | (z,k)::r,h,acc,ha,x,c,e=>by
    unfold cellsFrom at e
    unfold pushCells
    split at e
    · rename_i hk
      rw[if_pos hk]
      refine CZ r (h.push { cls:=.type "cell", data:=.cell none }) ((z,h.objs.size)::acc) (fun x c e=>?_) x c (by rw[Heap.size_push];exact e)
      rw[List.lookup_cons] at e
      cases hx:x == z with
      | true=>rw[hx] at e;cases e;exact ⟨none,_,Heap.get?_push_size _ rfl,rfl⟩
      | false=>
        rw[hx] at e
        obtain ⟨v,o,ho,hd⟩:=ha x c e
        exact ⟨v,o,Heap.get?_push_of_some _ ho,hd⟩
    · rename_i hk
      rw[if_neg hk]
      exact CZ r h acc ha x c e
theorem HE:∀ (ns:List (Str×NameKind)) (n:Nat) (acc:List (Str×Addr)) (x:Str) (c:Addr),(x,NameKind.cell)∈ns→(cellsFrom n ns acc).lookup x=some c→(cellsFrom n ns []).lookup x=some c:=by
  have gen:∀ (ns:List (Str×NameKind)) (n:Nat) (a b:List (Str×Addr)) (x:Str),((x,NameKind.cell)∈ns∨a.lookup x=b.lookup x)→(cellsFrom n ns a).lookup x=(cellsFrom n ns b).lookup x:=by
    intro ns
    induction ns with
    | nil=>intro n a b x h;exact h.elim (fun z=>nomatch z) id
    | cons y r ih=>
      intro n a b x h
      obtain ⟨y,k⟩:=y
      unfold cellsFrom
      split
      · refine ih _ _ _ x ?_
        cases hx:x == y with
        | true=>right;simp only[List.lookup_cons,hx]
        | false=>
          rcases h with h | h
          · rcases List.mem_cons.mp h with z | z
            · injection z with z _
              simp[z] at hx
            · exact .inl z
          · right;simp only[List.lookup_cons,hx];exact h
      · rename_i hk
        refine ih _ _ _ x ?_
        rcases h with h | h
        · rcases List.mem_cons.mp h with z | z
          · injection z with _ z
            exact absurd (by rw[← z];rfl) hk
          · exact .inl z
        · exact .inr h
  intro ns n acc x c hx e
  rw[gen ns n [] acc x (.inl hx)]
  exact e
theorem E3 {M:Model}{A:Around}{E:Value→Shared→Prop}{s:Shared}{scope:Scope}{g:Addr}{cl:List (Str×Addr)}{q:Str}{env:Env}{Q:Env→Shared→Prop}
    (h:∀ h':Heap,h'.Ns s.heap.objs.size (fun _=>none)→(∀ b o,s.heap.get? b=some o→h'.get? b=some o)→(∀ x c,(∀ x c,cl.lookup x=some c→∃ v,h'.IsCell c v)→(cellsFrom (s.heap.objs.size+1) scope.names cl).lookup x=some c→∃ v,h'.IsCell c v)→
      Q { scope:=scope,locals:=s.heap.objs.size,globals:=g,cells:=cellsFrom (s.heap.objs.size+1) scope.names cl,qual:=q,func:=none,code:=env.code,frame:=env.frame,builtins:=env.builtins } { s with heap:=h' }) :
    wpAny M A (newFunctionEnv scope g cl [] q none .none (some env)) Q E s:=by
  simp only[if_true,Option.isSome_some,newFunctionEnv]
  refine wpAny_bind (wpAny_alloc (wpAny_bind (wpAny_layCells _ (fun _ kd _=>by cases hkd:kd == NameKind.cell<;>simp[hkd]) _ _ _ _ ?_)))
  rw[show ({ s with heap:=s.heap.push { cls:=.type "dict", data:=.dict #[] } }:Shared).heap.objs.size=s.heap.objs.size+1 from Heap.size_push ..]
  refine wpAny_bind ?_
  rw[List.forIn_nil]
  refine wpAny_pure (wpAny_pure (h _ ((Heap.Ns.new s.heap (.type "dict")).keeps (pushCells_keeps _ _)) (fun b o e=>pushCells_keeps _ _ b o (Heap.get?_push_of_some _ e)) fun x c ha e=>?_))
  by_cases hx:(x,NameKind.cell)∈scope.names
  · obtain ⟨v,q⟩:=CZ scope.names (s.heap.push { cls:=.type "dict", data:=.dict #[] }) [] (fun _ _ e=>nomatch e) x c (by
      rw[Heap.size_push]
      exact HE _ _ _ _ _ hx e)
    exact ⟨v,q⟩
  · rw[qO _ _ _ _ hx] at e
    exact ha x c e
def dh (X:Cx)(scope:Scope)(Nc:List Str)(cl:List (Str×Addr))(C:Addr)(s₀:Shared)(H₀:Hp)(ex:List Addr):Cx:=
  { a8 X scope Nc cl C s₀ H₀ ex with fn:=fun x=>decide (scope.names.lookup x=some .cell) }
theorem jw {env:Env}{names:List (Str×NameKind)}{x:Str}{k':NameKind}(hk:k'=.cell∨k'=.free)
    (h:(x,k')∈(names.map fun (n,k)=>if (k == NameKind.free&&env.scope.kind == .function&&env.kindOf n == some .cell) then (n,NameKind.cell) else (n,k))):(x,NameKind.free)∈names∨(x,NameKind.cell)∈names:=by
  obtain ⟨⟨n,k⟩,hm,e⟩:=List.mem_map.mp h
  dsimp only at e
  split at e
  · rename_i hc
    cases e
    have:k=.free:=by simp at hc;exact hc.1.1
    subst this;exact .inl hm
  · cases e
    rcases hk with rfl | rfl
    · exact .inr hm
    · exact .inl hm
theorem Bg {X:Cx}{tg iter elt:Expr}{ifs:List Expr}{scope:Scope}{pos:Pos}{wi:TI}{g:TG}{tt:TT}{te:TE}{Nc:List Str}{n:Nat}{caps:List Nat}
    (hxe:X.xe=fun _ _=>False) (hcalm:X.calm=true) (hi:PI X tg iter wi)
    (hbody:∀ (cl:List (Str×Addr)) (C:Addr) (s₀:Shared) (H₀:Hp) (ex:List Addr),PG (dh X scope Nc cl C s₀ H₀ ex) tg g∧zp (dh X scope Nc cl C s₀ H₀ ex) ifs tt∧PE (dh X scope Nc cl C s₀ H₀ ex) elt te)
    (hfree:∀ y∈scope.names,y.2=.free→X.env.kindOf y.1=some .cell) (hcell:∀ y∈scope.names,y.2=.cell→scope.names.lookup y.1=some .cell) (dO:scope.kind=.function)
    (hnames:∀ y∈scope.names,y.2=.local→scope.names.lookup y.1=some .local) (hlen:Nc.length=n+caps.length)
    (hcap:∀ (j k:Nat),caps[j]? = some k→∃ x,Nc[n+j]? = some x∧X.N[k]? = some x∧scope.names.lookup x=some .free)
    (hs:∀ x,foldedSetIterable iter X.env x=pure x:=by intro _;rfl) :
    PE X (.ListComp elt [⟨tg,iter,ifs,0⟩] scope pos) (t9 wi g tt te n caps):=by
  intro pins s σ H Q I h
  rw[hxe]
  obtain ⟨cl,hclos,clin,clfree⟩:=iL (scope:=scope) (env:=X.env) fun y hy hf=>I.ok.has y.1 (.inl (hfree y hy hf))
  rw[eval_ListComp]
  refine wpAny_comprehension_free (use:=none) rfl hs hclos dO hnames ?_
  have hi':=hi pins s σ H _ I h
  rw[hxe] at hi'
  refine wpAny_mono hi' (fun xv s1 h1=>wpAny_mono h1 (fun itv s2 h2=>?_) fun _ _ z=>z) fun _ _ z=>z
  obtain ⟨it,fp,tn,J,H1,rfl,I2,T,st2,f2,hh⟩:=h2
  -- the new list
  refine wpAny_newObj_type ?_
  have hD:H1 s2.heap.objs.size=none:=I2.hok.fresh (Nat.le_refl _)
  obtain ⟨W,⟨m0,w0⟩,turn⟩:=hh _ hD
  have I3:Inv X pins σ (L2.upd H1 s2.heap.objs.size (.lst [])) { s2 with heap:=s2.heap.push { cls:=.type "list", dict:=none,data:=.seq ([]:List Value).toArray } }:=
    I2.laid (t':=s2.toks) (fun b u e=>Heap.get?_push_of_some _ e) (Nat.le_refl _) ⟨Nat.zero_le _,[],0,.nil,Heap.get?_push_size _ rfl⟩
  have k3:∀ b u,s2.heap.get? b=some u→(s2.heap.push { cls:=.type "list", dict:=none,data:=.seq ([]:List Value).toArray }).get? b=some u:=fun b u e=>Heap.get?_push_of_some _ e
  have fne:∀ b∈fp,b≠s2.heap.objs.size:=fun b hb=>by
    obtain ⟨o,ho,_⟩:=T.obj 0 _ st2 b hb
    exact Nat.ne_of_lt (Heap.lt_size ho)
  generalize eD:s2.heap.objs.size=D at *
  generalize eh3:s2.heap.push { cls:=.type "list", dict:=none,data:=.seq ([]:List Value).toArray }=h3 at *
  generalize eH3:L2.upd H1 D (.lst [])=H3 at *
  have st3:tn 0 h3:=T.keep 0 _ _ st2 fun b hb o e=>k3 b o e
  have f3:∀ b∈fp,jX X pins H3 b:=fun b hb=>⟨by rw[← eH3,aA (fne b hb)];exact (f2 b hb).1,(f2 b hb).2⟩
  have lt3:∀ b∈fp,b < h3.objs.size:=fun b hb=>by
    obtain ⟨o,ho,_⟩:=T.obj 0 _ st3 b hb
    exact Heap.lt_size ho
  generalize es3:({ s2 with heap:=h3 }:Shared)=s3 at *
  have hs3:s3.heap=h3:=by rw[← es3]
  have clt:∀ x c,cl.lookup x=some c→c < s3.heap.objs.size:=fun x c e=>(I3.cell x c (clin _ _ e)).elim fun _ q=>q.lt
  refine E3 (fun h4 hns k4 hce=>?_)
  generalize ecs:cellsFrom (s3.heap.objs.size+1) scope.names cl=cs at *
  have Eu:∀ x c,cs.lookup x=some c→(s3.heap.objs.size < c∧scope.names.lookup x=some .cell)∨(cl.lookup x=some c∧(x,NameKind.cell) ∉ scope.names):=fun x c e=>by
    rw[← ecs] at e
    rcases AN _ _ _ _ _ e with ⟨q,m⟩ | q
    · exact .inl ⟨q,hcell _ m rfl⟩
    · exact .inr q
  have IP:∀ x,scope.names.lookup x=some .free→cs.lookup x=cl.lookup x:=fun x e=>by
    rw[← ecs]
    exact qO _ _ _ _ fun m=>by have:=hcell _ m rfl;rw[e] at this;cases this
  show codeAny _ _ (.compStart _ 0 (.ref it) (.ref D) (compEnvC scope cs s3.heap.objs.size X.env)) (compPost _ _ _ none _ (.ref D) s3.heap.objs.size) _
  have okY:(dh X scope Nc cs s3.heap.objs.size s3 H3 fp).Ok:=by
    refine ⟨I3.ok.mod,dO,I3.ok.glob,I3.ok.blt,Nat.le_refl _,fun x y c e1 e2=>?_,fun x hx=>?_,fun x c hf e=>?_,I3.ok.hd,I3.ok.frames,.inl rfl,fun b hb=>⟨?_,fun x c e z=>?_⟩,I3.bs,Nat.le_trans I3.ok.bsz I3.sz,fun b o e hb=>?_,fun b hb hz=>?_,I3.stack,I3.lH⟩
    · have e1:cs.lookup x=some c:=e1
      have e2:cs.lookup y=some c:=e2
      rw[← ecs] at e1 e2
      exact vz _ _ _ (fun x y c e1 e2=>I3.ok.inj x y c (clin _ _ e1) (clin _ _ e2)) (fun x c e=>Nat.lt_succ_of_lt (clt x c e)) _ _ _ e1 e2
    · have hx':(relabel scope X.env).names.lookup x=some .cell∨(relabel scope X.env).names.lookup x=some .free:=hx
      have hm:(x,NameKind.free)∈scope.names∨(x,NameKind.cell)∈scope.names:=by
        rcases hx' with q | q
        · exact jw (.inl rfl) (PySem.mem_of_lookup q)
        · exact jw (.inr rfl) (PySem.mem_of_lookup q)
      show ∃ c,cs.lookup x=some c
      rw[← ecs]
      refine Option.isSome_iff_exists.mp (PySem.W.cellsFrom_some _ _ _ ?_)
      rcases hm with hm | hm
      · obtain ⟨c,e⟩:=clfree _ hm rfl
        exact .inr (by rw[e];rfl)
      · exact .inl (hcell _ hm rfl)
    · have hf:decide (scope.names.lookup x=some .cell)=true:=hf
      rcases Eu x c e with ⟨q,_⟩ | ⟨_,q⟩
      · exact Nat.le_of_lt q
      · exact absurd (PySem.mem_of_lookup (of_decide_eq_true hf)) q
    · show b≠s3.heap.objs.size
      rw[hs3];exact Nat.ne_of_lt (lt3 b hb)
    · rcases Eu x c e with ⟨q,_⟩ | ⟨q,_⟩
      · have:=lt3 b hb
        rw[hs3] at q
        exact absurd (z ▸ q) (Nat.not_lt.mpr (Nat.le_of_lt this))
      · exact (f3 b hb).2.2.2.2.1 x c (clin _ _ q) z
    · rcases (f3 b hb).2.2.2.1 with z | z
      · exact I3.ok.vL b o e z
      · exact absurd (Nat.lt_of_lt_of_le (Heap.lt_size e) (Nat.le_trans I3.ok.bsz z)) (Nat.lt_irrefl _)
    · rcases List.mem_cons.mp (I3.nS b hz) with z | z
      · exact (f3 b hb).2.1 z
      · exact (f3 b hb).2.2.1 z
  have uE:∀ c v,s3.heap.IsCell c v→h4.IsCell c v:=fun c v ⟨o,ho,hd⟩=>⟨o,k4 c o ho,hd⟩
  have J0:Inv (dh X scope Nc cs s3.heap.objs.size s3 H3 fp) [] (c7 σ n caps) H3 { s3 with heap:=h4 }:=by
    refine ⟨okY,rfl,I3.bare,Un.kept k4,⟨_,hns,fun i x v e1 e2 e3=>?_⟩,fun x c e=>?_,I3.hok.fresh (Nat.le_refl _),fun x c e=>?_,(fun p hp=>(by cases hp)),I3.hok.kept k4,?_⟩
    · obtain ⟨j,k,rfl,ej,ek⟩:=eZ e2
      obtain ⟨x',n1,n2,n3⟩:=hcap j k ej
      have e1':Nc[n+j]? = some x:=e1
      rw[n1] at e1';cases e1'
      have hmem:(x,NameKind.free)∈scope.names:=PySem.mem_of_lookup n3
      have hcellx:X.env.kindOf x=some .cell:=hfree _ hmem rfl
      obtain ⟨m,hn,hl⟩:=I3.loc
      obtain ⟨u,ru,lk⟩:=hl k x v n2 ek (.inr (.inl hcellx))
      refine ⟨u,ru,.inr ⟨.inl (bB I3.ok.kind hcellx n3),?_⟩⟩
      rcases lk with ⟨q,_⟩ | ⟨_,c,ec,ic⟩
      · rw[hcellx] at q;cases q
      · obtain ⟨c',ec'⟩:=clfree _ hmem rfl
        have:=clin _ _ ec'
        rw[ec] at this;cases this
        exact ⟨c,by show cs.lookup x=_;rw[IP _ n3];exact ec',uE _ _ ic⟩
    · refine hce x c (fun x c e=>?_) e
      obtain ⟨v,q⟩:=I3.cell x c (clin _ _ e)
      exact ⟨v,uE _ _ q⟩
    · rcases Eu x c e with ⟨q,_⟩ | ⟨q,_⟩
      · exact I3.hok.fresh (Nat.le_of_lt q)
      · exact I3.e6 x c (clin _ _ q)
    · unfold c7
      show _=Nc.length
      rw[List.length_append,List.length_replicate,List.length_map,hlen]
  obtain ⟨pg,pifs,pelt⟩:=hbody cs s3.heap.objs.size s3 H3 fp
  generalize eY:dh X scope Nc cs s3.heap.objs.size s3 H3 fp=Y at *
  have yP:Y.prog=X.prog:=by rw[← eY];rfl
  have yw:Y.w=X.w:=by rw[← eY];rfl
  have yK:Y.K=X.K:=by rw[← eY];rfl
  have yA:Y.A=X.A:=by rw[← eY];rfl
  have yx:Y.xe=fun _ _=>False:=by rw[← eY];exact hxe
  have yc:Y.calm=true:=by rw[← eY];exact hcalm
  have ye:Y.env=compEnvC scope cs s3.heap.objs.size X.env:=by rw[← eY];rfl
  have yfs:Y.fs=frs X.stack:=by rw[← eY];rfl
  have yex:Y.ex=fp:=by rw[← eY];rfl
  have ys0:Y.s₀=s3:=by rw[← eY];rfl
  have yH0:Y.H₀=H3:=by rw[← eY];rfl
  have ypn:Y.pn=[]:=by rw[← eY];rfl
  have iz:∀ {H':Hp},(∀ b∈fp,H' b=none)→∀ b∈fp,jX Y [] H' b:=fun hn b hb=>⟨hn b hb,by rw[ye];show b≠s3.heap.objs.size;rw[hs3];exact Nat.ne_of_lt (lt3 b hb),okY.vJ b (by rw[yex];exact hb),.inl (by rw[yex];exact hb),
    fun x c e=>by
      rw[ye] at e
      rcases Eu x c e with ⟨q,_⟩ | ⟨q,_⟩
      · intro z
        have:=lt3 b hb
        rw[hs3] at q
        exact absurd (z ▸ q) (Nat.not_lt.mpr (Nat.le_of_lt this))
      · exact (f3 b hb).2.2.2.2.1 x c (clin _ _ q),fun p hp=>by rw[ypn] at hp;exact nomatch hp⟩
  have tn4:tn 0 ({ s3 with heap:=h4 }:Shared).heap:=T.keep 0 _ _ st3 fun b hb o e=>k4 b o (by rw[hs3];exact e)
  -- the end
  have fin:∀ (s5:Shared) (H5:Hp),Inv Y [] (c7 σ n caps) H5 s5→Q (.ref D) H5→compPost (model X.prog X.w) X.A (fun _ _=>False) none (EP X pins σ Q) (.ref D) s3.heap.objs.size (.ok .next) s5:=fun s5 H5 I5 q5=>by
    obtain ⟨m,hn,_⟩:=I5.loc
    rw[ye] at hn
    refine ⟨m,hn,fun h6 hs6=>⟨.ref D,H5,?_,rfl,q5⟩⟩
    have nC:∀ b o,s3.heap.get? b=some o→b≠s3.heap.objs.size:=fun b o e=>Nat.ne_of_lt (Heap.lt_size e)
    have un:=I5.base
    rw[yfs,yex,yH0,ys0] at un
    have hfreeC0:=I5.free
    rw[ye] at hfreeC0
    have hfreeC:H5 s3.heap.objs.size=none:=hfreeC0
    refine I3.xZ (ch:=fp) (s':={ s5 with heap:=h6 }) (by have:=I5.os;rw[ys0] at this;exact this) ⟨fun b o e n1 n2 n3=>(hs6.2 b (nC b o e)).trans (un.keep b o e n1 n2 n3),fun b o e n1 n2 n3=>?_,un.free,fun b o e n1=>?_,un.ji,un.iG,un.jh⟩ (fun b u e=>?_) I5.bare fun b hb=>?_
    · obtain ⟨sl,q⟩:=un.slot b o e n1 n2 n3
      exact ⟨sl,(hs6.2 b (nC b o e)).trans q⟩
    · obtain ⟨o',q⟩:=un.there b o e n1
      exact ⟨o',(hs6.2 b (nC b o e)).trans q⟩
    · have hok5:=I5.hok
      rw[yP,yw] at hok5
      refine (hok5 b u e).jk (fun c w' hc q=>(hs6.2 c ?_).trans q) (fun _ q=>q) fun _ _ q=>q
      rintro rfl
      rcases hc with z | z
      · rw[← z,hfreeC] at e;cases e
      · rw[hfreeC] at z;cases z
    · exact ⟨(f3 b hb).2.2.2.1,(f3 b hb).2.1,(f3 b hb).2.2.2.2.1,(f3 b hb).2.2.2.2.2⟩
  have loop:codeAny (model X.prog X.w) X.A (.compLoop (.ListComp elt [⟨tg,iter,ifs,0⟩] scope pos) 0 (.ref it) (.ref D) (compEnvC scope cs s3.heap.objs.size X.env)) (compPost (model X.prog X.w) X.A (fun _ _=>False) none (EP X pins σ Q) (.ref D) s3.heap.objs.size)
      { s3 with heap:=h4 }:=by
    refine jS (fun k s'=>∃ i ys H',Inv Y [] (c7 σ n caps) H' s'∧tn i s'.heap∧(∀ b∈fp,H' b=none)∧W i k ys H') ?_ m0 ⟨0,[],H3,J0,tn4,fun b hb=>(f3 b hb).1,w0⟩
    rintro k s5 ⟨i,ys,H5,I5,st5,fr5,w5⟩
    rcases turn i k ys H5 w5 with ⟨stop,q⟩ | ⟨go,N,hN,step⟩
    · have d:=T.done Y yP yw yK yc i [] s5 _ H5 (fun _ _=>False) I5 (iz fr5) st5 stop
      rw[yA] at d
      refine thn d fun r s6 ⟨hr,I6⟩=>?_
      subst hr
      exact fin s6 H5 I6 q
    · have d:=T.item Y yP yw yK yc i [] s5 _ H5 (fun _ _=>False) I5 (iz fr5) st5 go
      rw[yA] at d
      refine thn d fun r s6 ⟨u,hr,h6⟩=>?_
      subst hr
      refine thn h6 fun _ s7 ⟨x,H7,I7,r7,y7,st7,fr7⟩=>?_
      have I7':=I7.pinned (iz fr7) (T.obj _ _ st7)
      have a:=pg _ s7 _ H7 x u _ I7' r7 (step x H7 y7)
      rw[yP,yw,yA,yx,ye] at a
      refine thn a fun _ s8 ⟨σ8,H8,I8,wk,q8⟩=>?_
      have b:=pifs _ s8 σ8 H8 _ I8 q8
      rw[yP,yw,yA,yx,ye] at b
      have again:∀ {s9:Shared} {ys9:List V} {H9:Hp},Inv Y ([]++iE fp s7.heap) σ8 H9 s9→N ys9 H9→∃ m,m < k∧∃ i ys H',Inv Y [] (c7 σ n caps) H' s9∧tn i s9.heap∧(∀ b∈fp,H' b=none)∧W i m ys H':=fun {s9 ys9 H9} I9 n9=>by
        obtain ⟨m',hm,w9⟩:=hN ys9 H9 n9
        have hp:∀ b∈fp,∀ o,s7.heap.get? b=some o→s9.heap.get? b=some o∧H9 b=none:=fun b hb o e=>
          ⟨(I9.pin (b,o) (List.mem_append_right _ (List.mem_append_right _ (bN hb e)))).1,(I9.pin (b,o) (List.mem_append_right _ (List.mem_append_right _ (bN hb e)))).2.1⟩
        refine ⟨m',hm,i+1,ys9,H9,I9.dD.weak wk.1 wk.2,T.keep _ _ _ st7 fun b hb o e=>(hp b hb o e).1,fun b hb=>?_,w9⟩
        obtain ⟨o,e,_⟩:=T.obj _ _ st7 b hb
        exact (hp b hb o e).2
      refine thn b fun ok s9 ⟨H9,I9,q9⟩=>?_
      cases ok with
      | false=>
        rw[if_neg Bool.false_ne_true] at q9 ⊢
        exact again I9 q9
      | true=>
        rw[if_pos rfl] at q9 ⊢
        have c:=pelt _ s9 σ8 H9 _ I9 q9
        rw[yP,yw,yA,yx,ye] at c
        refine thn c fun v s10 ⟨y,H10,I10,r10,zs,ez,lz,n10⟩=>?_
        have d:=gH (X:=Y) _ s10 σ8 H10 (.ref D) [y] (.ref D) [v] (fun _ H'=>N (zs++[y]) H') I10 rfl (.cons r10 .nil) ⟨D,zs,y,rfl,rfl,ez,lz,n10⟩
        rw[yP,yw,yA,yx] at d
        exact thn d fun _ s11 ⟨_,H11,I11,_,q11⟩=>again I11 q11
  refine codeAny_compStart_list loop ?_
  exact T.self X.A 0 _ _ _ (tn4) loop
def yz (fn:List (Str×NameKind))(XN:List Str)(sc:Scope)(Nc:List Str)(n:Nat)(caps:List Nat):Bool:=
  sc.names.all (fun y=>(y.2 != .free || fn.lookup y.1 == some .cell)&&(y.2 != .cell || sc.names.lookup y.1 == some .cell)&&(y.2 != .local || sc.names.lookup y.1 == some .local))&&sc.kind == .function&&Nc.length == n+caps.length &&
  (List.range caps.length).all fun j=>match caps[j]? with
    | some k=>(match XN[k]? with
      | some x=>Nc[n+j]? == some x&&sc.names.lookup x == some .free
      | none=>false)
    | none=>false
theorem Bm {X:Cx}{tg elt iter:Expr}{Te:ETr}{Tt:TTr}{pos:Pos}{It':ATr}{G:GTr}{ifs:List Expr}{scope fsc:Scope}(XN Nc:List Str)(n:Nat)(caps:List Nat)(hxe:X.xe=fun _ _=>False)(hcalm:X.calm=true)(hi:LI X tg iter It')
    (hbody:∀ (cl:List (Str×Addr)) (C:Addr) (s₀:Shared) (H₀:Hp) (ex:List Addr),LGc (dh X scope Nc cl C s₀ H₀ ex) n tg G∧vS (dh X scope Nc cl C s₀ H₀ ex) ifs Tt∧LE (dh X scope Nc cl C s₀ H₀ ex) elt Te)
    (hsc:X.env.scope=fsc) (hXN:X.N=XN) (hok:yz fsc.names XN scope Nc n caps=true)
    (hs:∀ x,foldedSetIterable iter X.env x=pure x:=by intro _;rfl) :
    LE X (.ListComp elt [⟨tg,iter,ifs,0⟩] scope pos) (bP It' G Tt Te n caps):=by
  obtain ⟨wi,pi,si⟩:=hi.ex
  unfold yz at hok
  simp only[Bool.and_eq_true,List.all_eq_true] at hok
  obtain ⟨⟨⟨h1,h2⟩,h3⟩,h4⟩:=hok
  refine ⟨_,jM (Bg (g:=l6 X.K n G) (tt:=liftT X.K Tt) (te:=nT X.K Te) hxe hcalm pi (fun cl C s₀ H₀ ex=>let ⟨h1,h2,h3⟩:=hbody cl C s₀ H₀ ex;⟨h1.pe,h2.pe,h3.pe⟩) (fun y hy hf=>?_) (fun y hy hf=>?_) (by simpa using h2) (fun y hy hf=>?_) (by simpa using h3) (fun j k hj=>?_) hs),ue si⟩
  · have:=(h1 y hy).1.1
    show X.env.scope.names.lookup y.1=_
    rw[hsc]
    simpa[hf] using this
  · have:=(h1 y hy).1.2
    simpa[hf] using this
  · have:=(h1 y hy).2
    simpa[hf] using this
  · have hl:j < caps.length:=(List.getElem?_eq_some_iff.mp hj).1
    have:=h4 j (List.mem_range.mpr hl)
    rw[hj] at this
    dsimp only at this
    rw[hXN]
    cases e:XN[k]? with
    | none=>rw[e] at this;cases this
    | some x=>
      rw[e] at this
      dsimp only at this
      rw[Bool.and_eq_true] at this
      exact ⟨x,by simpa using this.1,rfl,by simpa using this.2⟩
end
section
open PySem PySem.Spec PyProof.Rows L2
def Kj (i j k:Nat)(ta:TA):TS:=fun D σ H=>ta σ H fun vs H1=>∃ u v w,vs=[u,v,w]∧D.nx (((σ.set i (some u)).set j (some v)).set k (some w)) H1
theorem LV {α:Type}(l:List α){i j k:Nat}(hij:i≠j)(hik:i≠k)(hjk:j≠k)(a b c:α):((l.set k c).set j b).set i a=((l.set i a).set j b).set k c:=by
  rw[List.set_comm _ _ (Ne.symm hij),List.set_comm _ _ (Ne.symm hik),List.set_comm _ _ (Ne.symm hjk)]
theorem D1 {X:Cx}{i j k:Nat}{x y z:Str}{a b c:Expr}{ta:TA}{px py pz pt pos:Pos}{kt k2 pt2}(hc:X.calm=true)(hN:X.N.Nodup)(hi:X.N[i]? = some x)(hj:X.N[j]? = some y)(hk:X.N[k]? = some z)(hij:i≠j)(hik:i≠k)(hjk:j≠k)
    (hx:X.env.scope.names.lookup x=some .local) (hy:X.env.scope.names.lookup y=some .local) (hz:X.env.scope.names.lookup z=some .local) (ha:PA X [a,b,c] ta)
    (hw:swappedStores [.Tuple [.Name x px,.Name y py,.Name z pz] kt pt] (.Tuple [a,b,c] k2 pt2) X.env=pure (some [x,y,z]))
    (hs:swapsWithSole [.Tuple [.Name x px,.Name y py,.Name z pz] kt pt] (.Tuple [a,b,c] k2 pt2) pos.line X.env=pure false) :
    PS X (.Assign [.Tuple [.Name x px,.Name y py,.Name z pz] kt pt] (.Tuple [a,b,c] k2 pt2) pos) (Kj i j k ta):=by
  intro pins s σ H D I h
  rw[exec_Assign_arm]
  refine wpAny_bind (wpAny_standAt ?_)
  rw[hs]
  refine wpAny_bind (wpAny_pure ?_)
  rw[if_neg (by decide)]
  refine wpAny_bind (Tuple_ (thn (ha _ pins s σ H _ I h) fun us s1 ⟨vs,H1,I1,r1,q1⟩=>?_))
  obtain ⟨u,v,w,e1,q1⟩:=q1
  subst e1
  obtain ⟨u1,u2,u3,rfl,ru,rv,rw'⟩:∃ u1 u2 u3,us=[u1,u2,u3]∧RelV u u1∧RelV v u2∧RelV w u3:=by
    cases r1 with | cons p q=>
    cases q with | cons p' q'=>
    cases q' with | cons p'' q''=>
    cases q''
    exact ⟨_,_,_,rfl,p,p',p''⟩
  refine wpAny_newObj_type ?_ (by show 3≤sizeLine;decide)
  have I2:Inv X pins σ H1 { s1 with heap:=s1.heap.push { cls:=.type "tuple", data:=.seq [u1,u2,u3].toArray } }:=I1.kept (t':=s1.toks) fun b o e=>Heap.get?_push_of_some _ e
  rw[hw]
  refine wpAny_bind (wpAny_pure ?_)
  show wpAny (model X.prog X.w) X.A (do rule "assign.swapped-stores";let items ← unpackItems (.ref s1.heap.objs.size) 3 none;assignInOrder [fun v=>bindName X.env z v,fun v=>bindName X.env y v,fun v=>bindName X.env x v] items.reverse;pure Flow.next) _ _ _
  refine wpAny_bind (wpAny_rule (wpAny_bind (unpackItems_tuple (items:=#[u1,u2,u3]) (I.ok.hd hc) (IsTup.new s1.heap _) fun h' hx'=>?_)))
  have I3:=I2.kept (h':=h') (t':=s1.toks) fun b o e=>hx' b o (Nat.ne_of_lt (Heap.lt_size e)) e
  show wpAny _ _ (assignInOrder [fun v=>bindName X.env z v,fun v=>bindName X.env y v,fun v=>bindName X.env x v] [u3,u2,u1] >>= fun _=>pure Flow.next) _ _ _
  refine wpAny_bind (assignInOrder_cons (wpAny_bindName (cY I3 hN hk (.inl hz) rw' (fun s2 I4=>?_) (.inr hz))))
  refine assignInOrder_cons (wpAny_bindName (cY I4 hN hj (.inl hy) rv (fun s3 I5=>?_) (.inr hy)))
  refine assignInOrder_cons (wpAny_bindName (cY I5 hN hi (.inl hx) ru (fun s4 I6=>?_) (.inr hx)))
  refine assignInOrder_nil (wpAny_pure ?_)
  rw[LV _ hij hik hjk] at I6
  exact ⟨_,H1,I6,q1⟩
def k3 (ds:List D)(f:D→D→D→Prop):Prop:=match ds with
  | [u,v,w]=>f u v w
  | _=>False
def Ci (i j k:Nat)(a:ATr):STr:=fun E ρ μ=>a ρ μ fun ds μ1=>k3 ds fun u v w=>E.nx (((ρ.set i (some u)).set j (some v)).set k (some w)) μ1
theorem EE {X:Cx}{x y z:Str}{a b c:Expr}{At:ATr}{pos:Pos}(i j k:Nat){px py pz pt:Pos}{kt k2 pt2}(hc:X.calm=true)(hN:X.N.Nodup)(ha:LA X [a,b,c] At)(hi:X.N[i]? = some x:=by rfl)(hj:X.N[j]? = some y:=by rfl)(hk:X.N[k]? = some z:=by rfl)(hij:i≠j:=by decide)(hik:i≠k:=by decide)(hjk:j≠k:=by decide)
    (hx:X.env.scope.names.lookup x=some .local:=by rfl) (hy:X.env.scope.names.lookup y=some .local:=by rfl) (hz:X.env.scope.names.lookup z=some .local:=by rfl)
    (hw:swappedStores [.Tuple [.Name x px,.Name y py,.Name z pz] kt pt] (.Tuple [a,b,c] k2 pt2) X.env=pure (some [x,y,z]):=by rfl)
    (hs:swapsWithSole [.Tuple [.Name x px,.Name y py,.Name z pz] kt pt] (.Tuple [a,b,c] k2 pt2) pos.line X.env=pure false:=by rfl) :
    LS X (.Assign [.Tuple [.Name x px,.Name y py,.Name z pz] kt pt] (.Tuple [a,b,c] k2 pt2) pos) (Ci i j k At):=by
  obtain ⟨ta,pa,sa⟩:=ha.ex
  refine ⟨_,D1 hc hN hi hj hk hij hik hjk hx hy hz pa hw hs,fun σ H ρ μ E E' rl h k'=>sa σ H ρ μ _ _ rl h fun vs H' ds μ' t' m' p' h'=>?_⟩
  unfold L3.k3 at h'
  split at h'
  · cases p' with | cons p1 p2=>
    cases p2 with | cons p2 p3=>
    cases p3 with | cons p3 p4=>
    cases p4
    exact ⟨_,_,_,rfl,k'.nx _ _ _ _ t' ((((rl.go t' m').set p1 i).set p2 j).set p3 k) h'⟩
  · exact False.elim h'
theorem DP (i j k:Nat)(a:ATr)(nx:ST→Mu→Prop)(rt:DK)(bk ct:ST→Mu→Prop)(ρ:ST)(μ:Mu):Ci i j k a ⟨nx,rt,bk,ct⟩ ρ μ=a ρ μ fun ds μ1=>k3 ds fun u v w=>au i u ρ μ1 fun ρ1 μ1=>au j v ρ1 μ1 fun ρ2 μ2=>au k w ρ2 μ2 nx:=propext Iff.rfl
theorem Li (u v w:D)(f:D→D→D→Prop):k3 [u,v,w] f=f u v w:=propext Iff.rfl
end
def wz:WF:=fun _=>0
theorem wz0:W0 wz:=fun _=>Int.le_refl _
theorem Gn {w:WB}{l:List SB}(K:w.Ok)(hl:l.length≤8)(m:Int):plc w l m≤480:=by
  have p0:=K.p0
  have r1:=K.r1
  have hs:kK w l m≤480:=by
    unfold kK
    have h1:min w.rm m≤60:=by omega
    split
    · have h2:min w.rm m*(l.length:Int)≤60*(l.length:Int):=Int.mul_le_mul_of_nonneg_right h1 (by omega)
      omega
    · omega
  have:(kK w l m+w.pc - 1) / w.pc≤481:=by
    refine Int.ediv_le_of_le_mul (by omega) ?_
    have:480*1≤480*w.pc:=Int.mul_le_mul_of_nonneg_left p0 (by decide)
    omega
  unfold plc
  omega
structure RB where
  nm:Str
  mo:Int
  wa:Int
  no:Bool
def RB.toD (r:RB):D:=.tup [.str r.nm,.int r.mo,.int r.wa,.bl r.no]
section
variable (r:RB) (μ:Mu) (Q:DK)
theorem Lv:L3.rIx r.toD (.int 0) μ Q=Q (.str r.nm) μ:=propext Iff.rfl
theorem LK:L3.rIx r.toD (.int 1) μ Q=Q (.int r.mo) μ:=propext Iff.rfl
theorem Md:L3.rIx r.toD (.int 2) μ Q=Q (.int r.wa) μ:=propext Iff.rfl
theorem LN:L3.rIx r.toD (.int 3) μ Q=Q (.bl r.no) μ:=propext Iff.rfl
end
def rgt (W:WF)(ss:List SB)(w:WB)(r:RB):Bool:=!decide (r.mo < most W w (onB w.nm ss))&&(isW W w (onB w.nm ss) r.mo r.wa&&(!r.no || eQ W w (onB w.nm ss)))
def gK (ss:List SB):WF→List (WB×RB)→Bool
  | _,[]=>true
  | W,p::ps=>rgt W ss p.1 p.2&&gK ss (tu W p.1.nm p.2.wa) ps
def kH:WF→List (WB×RB)→WF
  | W,[]=>W
  | W,p::ps=>kH (tu W p.1.nm p.2.wa) ps
theorem qf (ss:List SB)(q:WB×RB):∀ (ps:List (WB×RB)) (W:WF),gK ss W (ps++[q])=(gK ss W ps&&rgt (kH W ps) ss q.1 q.2)
  | [],W=>by simp[gK,kH]
  | p::ps,W=>by
    show (rgt W ss p.1 p.2&&gK ss _ (ps++[q]))=_
    rw[qf ss q ps]
    simp only[gK,kH,Bool.and_assoc]
theorem j5 (q:WB×RB):∀ (ps:List (WB×RB)) (W:WF),kH W (ps++[q])=tu (kH W ps) q.1.nm q.2.wa
  | [],W=>rfl
  | p::ps,W=>by
    show kH _ (ps++[q])=_
    rw[j5 q ps];rfl
theorem HL {W V:WF}{n:Str}{l:List SB}(h:∀ x∈l,∀ m∈frn n x.rd,W m=V m)(k:Int):com W n l k=com V n l k:=by
  unfold com
  congr 1
  refine List.map_congr_left fun x hx=>?_
  unfold cmb
  have:ahd W n x=ahd V n x:=by
    unfold ahd
    congr 1
    exact List.map_congr_left (h x hx)
  rw[this]
theorem Ei {W V:WF}{w:WB}{l:List SB}(e:∀ k,com W w.nm l k=com V w.nm l k):most W w l=most V w l∧eQ W w l=eQ V w l∧(∀ m k,isW W w l m k=isW V w l m k)∧pk W w l=pk V w l:=by
  have e2:pk W w l=pk V w l:=by unfold pk pkL;simp only[e]
  refine ⟨by unfold most;rw[e2],by unfold eQ;rw[e2],fun m k=>by unfold isW uJ;rw[e],e2⟩
theorem Iw {W V:WF}{ss:List SB}{w:WB}{r:RB}(h:∀ x∈onB w.nm ss,∀ m∈frn w.nm x.rd,W m=V m):rgt W ss w r=rgt V ss w r:=by
  obtain ⟨h1,h2,h3,_⟩:=Ei (w:=w) (HL h)
  unfold rgt
  rw[h1,h2,h3]
theorem xq {ws:List WB}{ss:List SB}(P:PB ws ss)(V:WF):∀ (qs ps:List (WB×RB)) (W:WF),(ps++qs).map (·.1)=ws→(∀ p∈ps++qs,V p.1.nm=p.2.wa)→(∀ p∈ps,W p.1.nm=p.2.wa)→gK ss W qs=qs.all fun p=>rgt V ss p.1 p.2
  | [],_,_,_,_,_=>rfl
  | q::qs,ps,W,e,hV,hW=>by
    have nd:=P.wn
    rw[← e] at nd
    simp only[List.map_append,List.map_cons,List.map_map] at nd
    have e1:rgt W ss q.1 q.2=rgt V ss q.1 q.2:=Iw fun x hx m hm=>by
      have sb:=P.rd x (nE.mp hx).1
      rw[← e] at sb
      simp only[List.map_append,List.map_cons,List.map_map] at sb
      obtain ⟨p,hp,rfl⟩:=List.mem_map.mp (rV nd sb (nE.mp hx).2 m hm)
      exact (hW p hp).trans (hV p (List.mem_append_left _ hp)).symm
    show (rgt W ss q.1 q.2&&gK ss _ qs)=_
    rw[e1,xq P V qs (ps++[q]) _ (by rw[← e];simp) (fun p hp=>hV p (by simpa using hp)) fun p hp=>?_]
    · rfl
    · unfold tu
      rcases List.mem_append.mp hp with (h | h)
      · rw[if_neg (fun z=>?_)]
        · exact hW p h
        · have:=(List.nodup_append.mp nd).2.2 _ (List.mem_map.mpr ⟨p,h,rfl⟩) _ List.mem_cons_self
          exact this z
      · rw[List.mem_singleton.mp h,if_pos rfl]
def wOf (rs:List RB):WF:=fun n=>((rs.find? fun r=>decide (r.nm=n)).map RB.wa).getD 0
theorem BS:∀ {rs:List RB},(rs.map RB.nm).Nodup→∀ r∈rs,wOf rs r.nm=r.wa
  | [],_,r,h=>nomatch h
  | r0::rs,nd,r,h=>by
    rw[List.map_cons] at nd
    have ⟨n1,n2⟩:=List.nodup_cons.mp nd
    unfold wOf
    rw[List.find?_cons]
    rcases List.mem_cons.mp h with (rfl | h)
    · simp
    · have:r0.nm≠r.nm:=fun z=>n1 (by rw[z];exact List.mem_map.mpr ⟨r,h,rfl⟩)
      simp only[decide_eq_false this]
      exact BS n2 r h
theorem G5 {rs:List RB}(h:∀ r∈rs,0≤r.wa):W0 (wOf rs):=fun n=>by
  unfold wOf
  cases e:rs.find? fun r=>decide (r.nm=n) with
  | none=>exact Int.le_refl _
  | some r=>exact h r (List.mem_of_find?_eq_some e)
theorem Mc {α β:Type}(f:α→D)(g:β→D)(xs:List α)(ys:List β):List.zipWith (fun d e=>D.tup [d,e]) (xs.map f) (ys.map g)=(List.zip xs ys).map fun y=>.tup [f y.1,g y.2]:=by
  induction xs generalizing ys with
  | nil=>rfl
  | cons x xs ih=>cases ys with
    | nil=>rfl
    | cons y ys=>simp only[List.map_cons,List.zipWith_cons_cons,List.zip_cons_cons,ih]
def uW (rs:List RB):List (L2.Key×D):=rs.map fun r=>(.inr r.nm,.int r.wa)
theorem xT:∀ (rs:List RB) (kvs:List (L2.Key×D)) (n:Str),(rs.map RB.nm).Nodup→cV (fW kvs (uW rs)) (.inr n)=if n∈rs.map RB.nm then some (.int (wOf rs n)) else cV kvs (.inr n)
  | [],kvs,n,_=>by simp[uW,fW]
  | r::rs,kvs,n,nd=>by
    rw[List.map_cons] at nd
    have ⟨n1,n2⟩:=List.nodup_cons.mp nd
    show cV (fW (putD kvs (.inr r.nm) (.int r.wa)) (uW rs)) (.inr n)=_
    rw[xT rs _ n n2,pN]
    unfold wOf
    rw[List.find?_cons,List.map_cons]
    by_cases e:n=r.nm
    · subst e
      rw[if_neg n1,if_pos rfl,if_pos List.mem_cons_self]
      simp
    · have e':¬ r.nm=n:=fun z=>e z.symm
      simp only[decide_eq_false e',List.mem_cons,e,false_or]
      split
      · rfl
      · rw[if_neg (fun z=>e (by injection z))]
theorem GI (rs:List RB)(nd:(rs.map RB.nm).Nodup):tI (fW [] (uW rs)) (wOf rs) (rs.map RB.nm):=fun n hn=>by
  rw[xT rs [] n nd,if_pos hn]
end L3
namespace Kk
local macro_rules | `(tactic| walk_at "ln")=>`(tactic| (intro ds μ Q h;split at h;rfl;exact h.elim))
open PySem L3
theorem CO:ba "NoneType" "int" = false:=by decide +kernel
theorem zC:ba "NoneType" "bool" = false:=by decide +kernel
theorem Bu:ba "NoneType" "str" = false:=by decide +kernel
theorem vj:ba "NoneType" "tuple" = false:=by decide +kernel
theorem z5:ba "bool" "int" = true:=by decide +kernel
theorem y3:ba "bool" "bool" = true:=by decide +kernel
theorem C2:ba "bool" "str" = false:=by decide +kernel
theorem vH:ba "bool" "tuple" = false:=by decide +kernel
theorem C3:ba "int" "int" = true:=by decide +kernel
theorem yI:ba "int" "bool" = false:=by decide +kernel
theorem A3:ba "int" "str" = false:=by decide +kernel
theorem vM:ba "int" "tuple" = false:=by decide +kernel
theorem zV:ba "str" "int" = false:=by decide +kernel
theorem yY:ba "str" "bool" = false:=by decide +kernel
theorem Co:ba "str" "str" = true:=by decide +kernel
theorem wN:ba "str" "tuple" = false:=by decide +kernel
theorem Aj:ba "tuple" "int" = false:=by decide +kernel
theorem zd:ba "tuple" "bool" = false:=by decide +kernel
theorem Ac:ba "tuple" "str" = false:=by decide +kernel
theorem wD:ba "tuple" "tuple" = true:=by decide +kernel
theorem C4:ba "list" "int" = false:=by decide +kernel
theorem yJ:ba "list" "bool" = false:=by decide +kernel
theorem C7:ba "list" "str" = false:=by decide +kernel
theorem wB:ba "list" "tuple" = false:=by decide +kernel
theorem Dh:ba "dict" "int" = false:=by decide +kernel
theorem y8:ba "dict" "bool" = false:=by decide +kernel
theorem Cz:ba "dict" "str" = false:=by decide +kernel
theorem uX:ba "dict" "tuple" = false:=by decide +kernel
def kTx (x:D)(f:Str→Prop):Prop:=match x with
  | .str z=>f z
  | _=>False
section
variable (c:String) (μ:Mu) (Q:DK)
theorem Fn (x:Str)(i:Int):pO (.str x) (.int i) μ Q=(x.length≤1000000∧kN (L2.atI x.cps.toList i) fun c=>Q (.str ⟨#[c]⟩) μ):=propext Iff.rfl
theorem GZ (a:ETr)(ρ:ST)(Q:List D→Mu→Prop):J7 a ρ μ Q=a ρ μ fun x μ1=>kTx x fun z=>z.cps.all (· < 128)=true∧Q (Kq z) μ1:=by
  unfold J7 kTx;rfl
theorem Hz (a:ETr)(lo hi:OTr)(ρ:ST):Ca a lo hi ρ μ Q=a ρ μ fun x μ1=>lo ρ μ1 fun i μ2=>hi ρ μ2 fun j μ3=>kTx x fun z=>z.length≤1000000∧Q (.str (Txt.slice z i j)) μ3:=by
  unfold Ca kTx;rfl
theorem JT (z:Str)(f:Str→Prop):kTx (.str z) f=f z:=propext Iff.rfl
theorem DW (ρ:ST):BW ρ μ Q = ∀ p,μ p=none→Q (.obj p) (up μ p (.dct [])):=propext Iff.rfl
end
def kLz (x:D)(f:List D→Prop):Prop:=match x with
  | .ls z=>f z
  | _=>False
theorem La (z:List D)(f:List D→Prop):kLz (.ls z) f=f z:=propext Iff.rfl
theorem Dq (a i:ETr)(ρ:ST)(μ:Mu)(Q:DK):yt a i ρ μ Q=a ρ μ fun x μ1=>kTx x fun sep=>i ρ μ1 fun y μ2=>kLz y fun ds=>∃ zs,jz ds=some zs∧JoinOk sep zs=true∧Q (.str (Txt.join sep zs)) μ2:=by
  unfold yt kTx kLz;rfl
theorem yU (a b:ETr)(ρ:ST)(μ:Mu)(Q:DK):lJ a b ρ μ Q=a ρ μ fun x μ1=>kTp x fun ds=>b ρ μ1 fun y μ2=>(cq 38 ds=true∧okD 38 y=true)∧kN (yT ds y) fun j=>Q (.int j) μ2:=propext Iff.rfl
theorem KO (ds:List D)(f:List D→Prop):kTp (.tup ds) f=f ds:=propext Iff.rfl
theorem EN (a:ETr)(ρ:ST)(μ:Mu)(Q:List D→Mu→Prop):Bj (af a aw) ρ μ Q=a ρ μ fun x μ1=>kS x fun ds=>Q (jE ds) μ1:=propext Iff.rfl
theorem G9 (x:List D)(y:D)(μ:Mu)(Q:DK):A7 (.ls x) y μ Q=L3.rIx (.ls x) y μ Q:=propext Iff.rfl
theorem IA (x:Str)(y:D)(μ:Mu)(Q:DK):A7 (.str x) y μ Q=pO (.str x) y μ Q:=propext Iff.rfl
theorem Jq (i n:Int)(μ:Mu)(Q:DK):Gh (.int i) (.int n) μ Q=((i=1∧0≤n∧n≤60)∧Q (.int (i*2 ^ n.toNat)) μ):=propext Iff.rfl
theorem Ia (i n:Int)(μ:Mu)(Q:DK):GF (.int i) (.int n) μ Q=(0≤n∧Q (.int (i.fdiv (2 ^ n.toNat))) μ):=propext Iff.rfl
theorem Ep (i n:Int)(μ:Mu)(Q:DK):AA (.int i) (.int n) μ Q=Q (.int (Builtin.bitAnd i n)) μ:=propext Iff.rfl
def Io (G:GTr)(tt:TTr)(te:ETr)(ρc:ST)(ds:List D)(μ:Mu)(Q:DK):Prop:=∀ p,μ p=none→dE p G tt te ρc (fun μ'=>Q (.obj p) μ') ds (up μ p (.lst []))
theorem yS (it:ATr)(G:GTr)(tt:TTr)(te:ETr)(n:Nat)(caps:List Nat)(ρ:ST)(μ:Mu)(Q:DK):qV it G tt te n caps ρ μ Q=it ρ μ fun ds μ1=>Io G tt te (fK ρ n caps) ds μ1 Q:=propext Iff.rfl
theorem IQ (xs:List D)(μ:Mu)(Q:DK):bX nQ [.ls xs] μ Q = ∃ ns:List Int,xs=ns.map .int∧Q (.int ns.sum) μ:=propext Iff.rfl
theorem EZ (xs:List D)(μ:Mu)(Q:DK):bX sI [.ls xs] μ Q = ∃ ns:List Int,(xs=ns.map .int∧ns≠[])∧∀ M,M∈ns→(∀ a∈ns,a≤M)→Q (.int M) μ:=propext Iff.rfl
def LZ:=Jn @DP <| Jn @Li <| Jn @Lv <| Jn @LK <| Jn @Md <| Jn @LN <| Jn @La <| Jn @yU <| Jn @KO <| Jn @EN <| Jn @G9 <| Jn @IA <| Jn @Jq <| Jn @Ia <| Jn @Ep <| Jn @yS <| Jn @IQ <| Jn @EZ <| Jn @Ma <| Jn @Mb <| Jn @L4 <| Jn @Ll <| Jn @LM <| Jn @Lu <| Jn @LQ <| Jn @Mf <| Jn @Mi <| Jn @JI <| Jn @E6 <| Jn @Fn <| Jn @JT <| Jn @DW <| Jn @D6 <| Jn @Ib <| Jn @DI <| Jn @DB <| Jn @Ig <| Jn @Hc <| Jn @Hs <| Jn @D9 <| Jn @Gm <| Jn @Js <| Jn @D2 <| @Ke
local macro_rules | `(tactic| walk_at "go")=>`(tactic| try simp only[↓LZ,Kp,↓Dq,↓JH,↓GZ,↓Hz,↓KY,↓JQ,↓K4,↓J8,↓Ld,↓K5,↓xj,↓nM,eL,du,d7,dZ,eB,dU,fg,fu,dz,eE,ei,eA,eh,fw,eN,fB,dY,fh,ef,fj,sk,CO,zC,Bu,vj,z5,y3,C2,vH,C3,yI,A3,vM,zV,yY,Co,wN,Aj,zd,Ac,wD,C4,yJ,C7,wB,Dh,y8,Cz,uX,fK,List.map_cons,List.map_nil,List.replicate,List.cons_append,List.nil_append,lk,Jv,Jt,Kb,FT,FR,F4,Ct,Ag,xP,xO,xr,xD,true_and,and_true,and_self,Bool.not_true,Bool.not_false,decide_true,decide_false,Bool.or_true,Bool.or_false,Bool.true_or,Bool.false_or,Bool.and_false,Bool.false_and,Bool.and_true,Bool.true_and,Int.reduceToNat,Int.reducePow,Int.reduceNeg,Int.reduceSub,Int.reduceAdd,Int.reduceMul,Int.reduceEq,Int.reduceLT,Int.reduceLE,Int.reduceBEq,sE,jc,jG,iQ,jg,jy,iO,jt,if_true,if_false,Bool.false_eq_true,reduceCtorEq,decide_eq_true_eq])
local macro_rules | `(tactic| walk_at "ok")=>`(tactic| (simp only[L3.eP,L3.MulOk,L3.S64,L3.cp,L3.tQ] at *;omega))
local macro_rules | `(tactic| walk_at "ini")=>`(tactic| simp only[ini,List.map,List.length,List.replicate,Nat.reduceSub,Nat.reduceAdd,Nat.sub_self,List.cons_append,List.nil_append,List.append_nil])
def cC:FSp:=fun ds μ Q=>match ds with
  | [.int i]=>Q (.bl true) μ
  | _=>False
theorem rG:∀ ds μ Q,cC ds μ Q→ds.length=1:=by
  unfold cC
  walk_at "ln"
def mU:STr:=aS (eR (TUn (gf "int") (ag 0)) (jF (TUn (gf "bool") (ag 0))))
theorem uL:∀ ds μ Q,cC ds μ Q→mU { nx:=fun _ μ'=>RT Q .non μ',rt:=RT Q } (ini 1 ds) μ:=by
  intro ds μ Q h
  unfold cC at h
  split at h
  case h_2=>exact h.elim
  rename_i i
  walk_at "ini"
  unfold mU
  walk_at "go"
  exact ⟨_,.refl _,h⟩
def aW:FSp:=fun ds μ Q=>match ds with
  | [.tup xs,.int n]=>Q (.bl (decide ((xs.length:Int)=n))) μ
  | _=>False
theorem kJ:∀ ds μ Q,aW ds μ Q→ds.length=2:=by
  unfold aW
  walk_at "ln"
def hC:STr:=aS (eR (TUn (gf "tuple") (ag 0)) (ak rEq (ao dH (af (ag 0) (aw))) (ag 1)))
theorem m8:∀ ds μ Q,aW ds μ Q→hC { nx:=fun _ μ'=>RT Q .non μ',rt:=RT Q } (ini 2 ds) μ:=by
  intro ds μ Q h
  unfold aW at h
  split at h
  case h_2=>exact h.elim
  rename_i xs n
  walk_at "ini"
  unfold hC
  walk_at "go"
  exact ⟨_,.refl _,h⟩
def aZ:FSp:=fun ds μ Q=>match ds with
  | [.int a,.int b]=>∃ R:Nat,(a=(R:Int)∧0 < R∧1≤b∧b≤8)∧Q (.int (Nat.lcm R b.toNat)) μ
  | _=>False
theorem gJ:∀ ds μ Q,aZ ds μ Q→ds.length=2:=by
  unfold aZ
  walk_at "ln"
def dP:STr:=aS (ak cI (ak f7 (ag 0) (ao L3.bO (af (ag 0) (af (ag 1) (aw))))) (ag 1))
theorem iF:∀ ds μ Q,aZ ds μ Q→dP { nx:=fun _ μ'=>RT Q .non μ',rt:=RT Q } (ini 2 ds) μ:=by
  intro ds μ Q h
  unfold aZ at h
  split at h
  case h_2=>exact h.elim
  rename_i a b
  walk_at "ini"
  unfold dP
  walk_at "go"
  obtain ⟨R,⟨rfl,R0,b0,b1⟩,k⟩:=h
  refine (show L3.f7 (.int R) (.int (Int.gcd (R:Int) b)) μ (fun x μ1=>cI x (.int b) μ1 fun y μ2=>RT Q y μ2) from ?_)
  have g0:0 < Int.gcd (R:Int) b:=Int.gcd_pos_of_ne_zero_right _ (by omega)
  have g1:(Int.gcd (R:Int) b:Int)≤b:=Int.gcd_le_right _ (by omega)
  walk_at "go"
  refine ⟨⟨by omega,by unfold cp;omega⟩,.inl (.inr (by unfold S64;omega)),?_⟩
  rw[BR R0 b0]
  exact ⟨_,.refl _,k⟩
def bF:FSp:=fun ds μ Q=>match ds with
  | [d]=>∃ x:SB,d=x.rl∧Q (fr x.r x.s) μ
  | _=>False
theorem lX:∀ ds μ Q,bF ds μ Q→ds.length=1:=by
  unfold bF
  walk_at "ln"
def gr:STr:=aS (ak L3.rIx (ag 0) (ak eK (ao dH (af (ag 0) (aw))) (TC (.int 1))))
theorem p9:∀ ds μ Q,bF ds μ Q→gr { nx:=fun _ μ'=>RT Q .non μ',rt:=RT Q } (ini 1 ds) μ:=by
  intro ds μ Q h
  unfold bF at h
  split at h
  case h_2=>exact h.elim
  rename_i d
  walk_at "ini"
  unfold gr
  walk_at "go"
  obtain ⟨x,rfl,k⟩:=h
  unfold SB.rl
  walk_at "go"
  refine CV (t7 (d:=fr x.r x.s) (by simp) (by simp)) ?_
  exact ⟨_,.refl _,k⟩
def bZ:FSp:=fun ds μ Q=>match ds with
  | [d]=>∃ x:SB,(d=x.rl∧x.Ok)∧Q (.int x.lim) μ
  | _=>False
theorem rz:∀ ds μ Q,bZ ds μ Q→ds.length=1:=by
  unfold bZ
  walk_at "ln"
def lU:STr:=aS (ao L3.cE (af (ao bF (af (ag 0) (aw))) (aw)))
theorem tJ:∀ ds μ Q,bZ ds μ Q→lU { nx:=fun _ μ'=>RT Q .non μ',rt:=RT Q } (ini 1 ds) μ:=by
  intro ds μ Q h
  unfold bZ at h
  split at h
  case h_2=>exact h.elim
  rename_i d
  walk_at "ini"
  unfold lU
  walk_at "go"
  obtain ⟨x,⟨rfl,X⟩,k⟩:=h
  refine ⟨x,rfl,?_⟩
  walk_at "go"
  refine ⟨x.r,x.s,⟨GS X.f,Le.of (by have:=X.f.q0;omega) (by have:=X.f.q1;omega)⟩,?_⟩
  exact ⟨_,.refl _,k⟩
def bD:FSp:=fun ds μ Q=>match ds with
  | [d]=>∃ x:SB,(d=x.toD∧x.Ok)∧∀ z,Vl z x.lim x.bt→Q z μ
  | _=>False
theorem kW:∀ ds μ Q,bD ds μ Q→ds.length=1:=by
  unfold bD
  walk_at "ln"
def gL:STr:=aS (ao L3.cU (af (ao bZ (af (ak L3.rIx (ag 0) (TC (.int 5))) (aw))) (af (ak L3.rIx (ag 0) (TC (.int 2))) (aw))))
theorem nc:∀ ds μ Q,bD ds μ Q→gL { nx:=fun _ μ'=>RT Q .non μ',rt:=RT Q } (ini 1 ds) μ:=by
  intro ds μ Q h
  unfold bD at h
  split at h
  case h_2=>exact h.elim
  rename_i d
  walk_at "ini"
  unfold gL
  walk_at "go"
  obtain ⟨x,⟨rfl,X⟩,k⟩:=h
  walk_at "go"
  refine ⟨x,⟨rfl,X⟩,?_⟩
  walk_at "go"
  have b0:=X.b0
  have b1:=X.b1
  refine ⟨⟨by omega,by unfold cp;omega⟩,fun p q hp=>?_⟩
  exact ⟨_,.refl _,k _ (rg hp (by omega))⟩
theorem yf {α:Type}(xs:List α)(P:α→Bool)(t:α→D):(xs.filterMap fun x=>if P x then some (t x) else none)=(xs.filter P).map t:=by
  rw[← List.filterMap_eq_map,List.filterMap_filter]
  rfl
def bV:FSp:=fun ds μ Q=>match ds with
  | [d,.str n]=>∃ (g:D) (ws:List WB) (ss:List SB),(d=plB g ws ss∧PyData.strOk n=true∧PB ws ss)∧Q (.ls ((onB n ss).map SB.toD)) μ
  | _=>False
theorem mQ:∀ ds μ Q,bV ds μ Q→ds.length=2:=by
  unfold bV
  walk_at "ln"
def jm:STr:=aS (bP (eM (ak L3.rIx (ag 0) (TC (.int 2)))) (au 0) (TB (ak (Ce false) (ag 1) (ak L3.rIx (ag 0) (TC (.int 1))))) (ag 0) 1 [1])
theorem nY:∀ ds μ Q,bV ds μ Q→jm { nx:=fun _ μ'=>RT Q .non μ',rt:=RT Q } (ini 2 ds) μ:=by
  intro ds μ Q h
  unfold bV at h
  split at h
  case h_2=>exact h.elim
  rename_i d n
  walk_at "ini"
  unfold jm
  walk_at "go"
  obtain ⟨g,ws,ss,⟨rfl,on,P⟩,k⟩:=h
  have sl:=P.sl
  walk_at "go"
  refine fZ ss SB.toD (fun y=>if decide (n∈y.rd) then some y.toD else none) rfl (by omega) (fun y hy μ' _ N m=>?_) ?_
  · walk_at "go"
    rw[xU]
    refine ⟨⟨lM (P.s y hy).rd,on⟩,?_⟩
    refine kif (fun h=>?_) fun h=>?_
    · rw[decide_eq_true h] at m;exact m
    · rw[decide_eq_false h] at m;exact m
  rw[yf]
  exact ⟨_,.refl _,k⟩
theorem yr (x:SB)(r:List SB):ld (x::r)=x.lim*(840 / x.bt)+ld r:=by unfold ld;rw[List.map_cons,List.sum_cons]
theorem A9 {x:SB}(X:x.Ok):0≤x.lim*(840 / x.bt)∧x.lim*(840 / x.bt)≤60*840:=by
  have l:=X.lim
  have b0:=X.b0
  have q0:0≤840 / x.bt:=Int.ediv_nonneg (by decide) (by omega)
  have q1:840 / x.bt≤840:=Int.ediv_le_self _ (by decide)
  exact ⟨Int.mul_nonneg (by omega) q0,Int.mul_le_mul l.2 q1 q0 (by decide)⟩
theorem AX {l:List SB}(h:∀ x∈l,x.Ok):0≤ld l∧ld l≤60*840*l.length:=by
  induction l with
  | nil=>exact ⟨by simp[ld],by simp[ld]⟩
  | cons x r ih=>
    have i:=ih fun y z=>h y (List.mem_cons_of_mem _ z)
    have o:=A9 (h x List.mem_cons_self)
    rw[yr,List.length_cons]
    omega
def cP:FSp:=fun ds μ Q=>match ds with
  | [.ls xs]=>∃ l:List SB,(xs=l.map SB.toD∧(∀ x∈l,x.Ok)∧l.length≤8)∧∀ z,Vl z (ld l) 840→Q z μ
  | _=>False
theorem sM:∀ ds μ Q,cP ds μ Q→ds.length=1:=by
  unfold cP
  walk_at "ln"
def qx:STr:=aF (aO (TC (.tup [.int 0,.int 1])) (au 1)) (aF (j4 (eM (ag 0)) (au 2) (aO (ao L3.gD (af (ag 1) (af (ao bD (af (ag 2) (aw))) (aw)))) (au 1))) (aS (ag 1)))
theorem vN:∀ ds μ Q,cP ds μ Q→qx { nx:=fun _ μ'=>RT Q .non μ',rt:=RT Q } (ini 3 ds) μ:=by
  intro ds μ Q h
  unfold cP at h
  split at h
  case h_2=>exact h.elim
  rename_i xs
  walk_at "ini"
  unfold qx
  walk_at "go"
  obtain ⟨l,⟨rfl,ho,hl⟩,k⟩:=h
  have top:=(AX ho).2
  refine cF (fun r ρ μ'=>∃ (rs:List SB) (a:Int) (z:D) (v2:Option D),r=rs.map SB.toD∧(∀ x∈rs,x.Ok)∧ρ=[some (.ls (l.map SB.toD)),some z,v2]∧μ'=μ∧Vl z a 840∧0≤a∧a+ld rs=ld l) ?_ ?_ _ _ _ ⟨l,0,_,_,rfl,ho,rfl,rfl,⟨⟨0,1,rfl,⟨by decide,by decide,by decide,by decide,by decide⟩⟩,by decide⟩,by decide,by omega⟩
  · rintro ρ μ' ⟨rs,a,z,v2,er,_,rfl,rfl,V,_,e⟩
    cases rs with
    | cons _ _=>cases er
    | nil=>
    have e:a=ld l:=by simpa[ld] using e
    rw[e] at V
    walk_at "go"
    exact ⟨_,.refl _,k _ V⟩
  · rintro d r ρ μ' N ⟨rs,a,z,v2,er,hr,rfl,rfl,V,a0,e⟩ hN
    cases rs with
    | nil=>cases er
    | cons x rs=>
    cases er
    have X:=hr x List.mem_cons_self
    have o:=A9 X
    have b0:=X.b0
    have b1:=X.b1
    have lm:=X.lim
    have rn:=(AX fun y hy=>hr y (List.mem_cons_of_mem x hy)).1
    rw[yr] at e
    walk_at "go"
    refine ⟨x,⟨rfl,X⟩,fun z1 V1=>?_⟩
    walk_at "go"
    refine ⟨a,840,x.lim,x.bt,⟨⟨V,V1⟩,Le.of a0 (by omega),Le.of (by decide) (by decide),Le.of (by omega) (by omega),Le.of (by omega) (by omega)⟩,fun z2 V2=>?_⟩
    refine hN _ _ ⟨rs,a+x.lim*(840 / x.bt),z2,_,rfl,(fun y hy=>hr y (List.mem_cons_of_mem x hy)),rfl,rfl,V2.of_eq (by decide) ?_,by omega,by omega⟩
    have q:=(Cc b0 b1).1
    generalize 840 / x.bt=Z at q
    have e1:(a+x.lim*Z)*(840*x.bt)=a*x.bt*840+x.lim*(Z*x.bt)*840:=by
      rw[Int.add_mul]
      congr 1
      · ac_rfl
      · ac_rfl
    rw[e1,q,Int.add_mul]
def aX:FSp:=fun ds μ Q=>match ds with
  | [d,.ls xs]=>∃ (w:WB) (l:List SB),((d=w.toD∧w.Ok)∧xs=l.map SB.toD∧(∀ x∈l,x.Ok)∧l.length≤8)∧Q (.bl (inP w l)) μ
  | _=>False
theorem iH:∀ ds μ Q,aX ds μ Q→ds.length=2:=by
  unfold aX
  walk_at "ln"
def fb:STr:=aS (jF (ao L3.gy (af (dW (af (ak L3.rIx (ag 0) (TC (.int 1))) (af (TC (.int 1)) (aw)))) (af (ao cP (af (ag 1) (aw))) (aw)))))
theorem js:∀ ds μ Q,aX ds μ Q→fb { nx:=fun _ μ'=>RT Q .non μ',rt:=RT Q } (ini 2 ds) μ:=by
  intro ds μ Q h
  unfold aX at h
  split at h
  case h_2=>exact h.elim
  rename_i d xs
  walk_at "ini"
  unfold fb
  walk_at "go"
  obtain ⟨w,l,⟨⟨rfl,K⟩,rfl,ho,hl⟩,k⟩:=h
  have p0:=K.p0
  have p1:=K.p1
  have ln:=AX ho
  refine ⟨l,⟨rfl,ho,hl⟩,fun z V=>?_⟩
  walk_at "go"
  refine ⟨w.pc,1,ld l,840,⟨⟨⟨⟨w.pc,1,rfl,by decide,by simp,rfl,Nat.le_refl _,Nat.le_refl _⟩,by decide⟩,V⟩,Le.of (by omega) (by omega),Le.of (by decide) (by decide),Le.of (by omega) (by omega),Le.of (by decide) (by decide)⟩,?_⟩
  walk_at "go"
  have e:(!decide (w.pc*840 < ld l*1))=inP w l:=by
    unfold inP
    rw[← decide_not]
    exact decide_eq_decide.mpr (by omega)
  rw[e]
  exact ⟨_,.refl _,k⟩
def bE:FSp:=fun ds μ Q=>match ds with
  | [d,.str n,.obj q]=>∃ (x:SB) (W:WF) (tab:List (L2.Key×D)),((d=x.toD∧x.Ok∧n∈x.rd∧PyData.strOk n=true)∧μ q=some (.dct tab)∧tI tab W (frn n x.rd))∧Q (.int (ahd W n x)) μ
  | _=>False
theorem xh (n:Str)(rd:List Str):(frn n rd).length≤rd.length:=by unfold frn;rw[List.length_take];omega
theorem sG {n:Str}(rd:List Str):cutD (rd.map D.str) none (some ((rd.findIdx fun x=>decide (x=n):Nat):Int))=(frn n rd).map D.str:=by
  rw[yj,← List.map_take];rfl
theorem lu:∀ ds μ Q,bE ds μ Q→ds.length=3:=by
  unfold bE
  walk_at "ln"
def g9:STr:=aF (aO (ak L3.rIx (ag 0) (TC (.int 1))) (au 3)) (aS (ao nQ (af (bP (eM (TSl (ag 3) (ONo) (mP (lJ (ag 3) (ag 1))))) (au 0) (fL) (xF (ag 1) (ag 0)) 1 [2]) (aw))))
theorem mZ:∀ ds μ Q,bE ds μ Q→g9 { nx:=fun _ μ'=>RT Q .non μ',rt:=RT Q } (ini 4 ds) μ:=by
  intro ds μ Q h
  unfold bE at h
  split at h
  case h_2=>exact h.elim
  rename_i d n q
  walk_at "ini"
  unfold g9
  walk_at "go"
  obtain ⟨x,W,tab,⟨⟨rfl,X,hn,on⟩,eq,T⟩,k⟩:=h
  walk_at "go"
  refine ⟨⟨lM X.rd,on⟩,?_⟩
  rw[tV hn]
  walk_at "go"
  rw[sG]
  have fl:=xh n x.rd
  have xl:=X.l
  refine bW (frn n x.rd) D.str (fun m=>.int (W m)) rfl (by omega) (fun m hm μ' s' N nn=>?_) ?_
  · walk_at "go"
    refine Bn (s' q _ eq) ?_
    rw[T m hm]
    exact nn
  walk_at "go"
  exact ⟨(frn n x.rd).map W,by rw[List.map_map];rfl,_,.refl _,k⟩
theorem C0 (W:WF)(n:Str)(x:SB)(r:List SB)(j:Int):com W n (x::r) j=cmb W n j x+com W n r j:=by unfold com;rw[List.map_cons,List.sum_cons]
def a7:FSp:=fun ds μ Q=>match ds with
  | [.str n,.ls xs,.obj q,.int j]=>∃ (l:List SB) (W:WF) (tab:List (L2.Key×D)),(xs=l.map SB.toD∧LB n l W tab∧μ q=some (.dct tab))∧Q (.int (com W n l j)) μ
  | _=>False
theorem ly:∀ ds μ Q,a7 ds μ Q→ds.length=4:=by
  unfold a7
  walk_at "ln"
def hE:STr:=aF (aO (TC (.int 0)) (au 4)) (aF (j4 (eM (ag 1)) (au 5) (aF (aO (ao L3.b5 (af (ao L3.cU (af (ak aK (ag 3) (ao bE (af (ag 5) (af (ag 0) (af (ag 2) (aw)))))) (af (ak L3.rIx (ag 5) (TC (.int 2))) (aw)))) (aw))) (au 6)) (EH (fun m n=>m+n) 4 (ak cI (ao bZ (af (ak L3.rIx (ag 5) (TC (.int 5))) (aw))) (ag 6))))) (aS (ag 4)))
theorem mJ:∀ ds μ Q,a7 ds μ Q→hE { nx:=fun _ μ'=>RT Q .non μ',rt:=RT Q } (ini 7 ds) μ:=by
  intro ds μ Q h
  unfold a7 at h
  split at h
  case h_2=>exact h.elim
  rename_i n xs q j
  walk_at "ini"
  unfold hE
  walk_at "go"
  obtain ⟨l,W,tab,⟨rfl,L,eq⟩,k⟩:=h
  refine cF (fun r ρ μ'=>∃ (rs:List SB) (a:Int) (v5 v6:Option D),r=rs.map SB.toD∧(∀ x∈rs,x∈l)∧ρ=[some (.str n),some (.ls (l.map SB.toD)),some (.obj q),some (.int j),some (.int a),v5,v6]∧μ'=μ∧a+com W n rs j=com W n l j) ?_ ?_ _ _ _ ⟨l,0,_,_,rfl,(fun _ h=>h),rfl,rfl,by omega⟩
  · rintro ρ μ' ⟨rs,a,v5,v6,er,_,rfl,rfl,e⟩
    cases rs with
    | cons _ _=>cases er
    | nil=>
    have e:a=com W n l j:=by simpa[com] using e
    rw[← e] at k
    walk_at "go"
    exact ⟨_,.refl _,k⟩
  · rintro d r ρ μ' N ⟨rs,a,v5,v6,er,hr,rfl,rfl,e⟩ hN
    cases rs with
    | nil=>cases er
    | cons x rs=>
    cases er
    have hx:=hr x List.mem_cons_self
    have X:=L.o x hx
    have b0:=X.b0
    have b1:=X.b1
    have lm:=X.lim
    rw[C0] at e
    walk_at "go"
    refine ⟨x,W,tab,⟨⟨rfl,X,L.on x hx,L.n⟩,eq,L.t x hx⟩,?_⟩
    walk_at "go"
    refine ⟨⟨by omega,by unfold cp;omega⟩,fun p z hp=>?_⟩
    refine ⟨j+ahd W n x,x.bt,⟨rg hp (by omega),Le.of (by omega) (by omega)⟩,?_⟩
    walk_at "go"
    refine ⟨x,⟨rfl,X⟩,?_⟩
    walk_at "go"
    refine ⟨.inl (.inl (by unfold S64;omega)),?_⟩
    have ec:a+x.lim * -(-(j+ahd W n x) / x.bt)=a+cmb W n j x:=by
      unfold cmb
      rw[xp (show 0 < x.bt by omega)]
    rw[ec]
    exact hN _ _ ⟨rs,a+cmb W n j x,_,_,rfl,(fun y hy=>hr y (List.mem_cons_of_mem x hy)),rfl,rfl,by omega⟩
def cx:FSp:=fun ds μ Q=>match ds with
  | [d,.ls xs,.obj q]=>∃ (w:WB) (l:List SB) (W:WF) (tab:List (L2.Key×D)),((d=w.toD∧w.Ok)∧xs=l.map SB.toD∧LB w.nm l W tab∧μ q=some (.dct tab)∧W0 W)∧Q (.int (pk W w l)) μ
  | _=>False
theorem uG:∀ ds μ Q,cx ds μ Q→ds.length=3:=by
  unfold cx
  walk_at "ln"
def pZ:STr:=aF (aO (TC (.int 1)) (au 3)) (aF (j4 (eM (ag 1)) (au 4) (aO (ao aZ (af (ag 3) (af (ak L3.rIx (ag 4) (TC (.int 2))) (aw)))) (au 3))) (aF (aO (rA (aw)) (au 5)) (aF (j4 (jA (TC (.int 1)) (ak aK (ag 3) (TC (.int 1)))) (au 6) (iN (uo (ag 5) (ak eK (ao a7 (af (ak L3.rIx (ag 0) (TC (.int 0))) (af (ag 1) (af (ag 2) (af (ag 6) (aw)))))) (ak cI (ak L3.rIx (ag 0) (TC (.int 1))) (ak eK (ag 6) (TC (.int 1)))))))) (aS (ao sI (af (vV (ag 5)) (aw)))))))
theorem vC:∀ ds μ Q,cx ds μ Q→pZ { nx:=fun _ μ'=>RT Q .non μ',rt:=RT Q } (ini 7 ds) μ:=by
  intro ds μ Q h
  unfold cx at h
  split at h
  case h_2=>exact h.elim
  rename_i d xs q
  walk_at "ini"
  unfold pZ
  walk_at "go"
  obtain ⟨w,l,W,tab,⟨⟨rfl,K⟩,rfl,L,eq,w0⟩,k⟩:=h
  have p0:=K.p0
  have p1:=K.p1
  obtain ⟨d1,d2,_,_,_⟩:=xc (l:=l) (R:=1) L.o (Nat.one_dvd _) (by decide)
  have d3:=Nat.le_of_dvd (by decide) d1
  refine cF (fun r ρ μ'=>∃ (rs:List SB) (R:Nat) (v4 v5 v6:Option D),r=rs.map SB.toD∧(∀ x∈rs,x∈l)∧ρ=[some w.toD,some (.ls (l.map SB.toD)),some (.obj q),some (.int R),v4,v5,v6]∧μ'=μ∧0 < R∧rdN R rs=rdN 1 l) ?_ ?_ _ _ _ ⟨l,1,_,_,_,rfl,(fun _ h=>h),rfl,rfl,by decide,rfl⟩
  rotate_left
  · rintro d r ρ μ' N ⟨rs,R,v4,v5,v6,er,hr,rfl,rfl,R0,e⟩ hN
    cases rs with
    | nil=>cases er
    | cons x rs=>
    cases er
    have X:=L.o x (hr x List.mem_cons_self)
    have b0:=X.b0
    walk_at "go"
    refine ⟨R,⟨rfl,R0,X.b0,X.b1⟩,?_⟩
    exact hN _ _ ⟨rs,Nat.lcm R x.bt.toNat,_,_,_,rfl,(fun y hy=>hr y (List.mem_cons_of_mem x hy)),rfl,rfl,Nat.lcm_pos R0 (by omega),e⟩
  · rintro ρ μ' ⟨rs,R,v4,v5,v6,er,_,rfl,rfl,R0,e⟩
    cases rs with
    | cons _ _=>cases er
    | nil=>
    have e:R=rdN 1 l:=e
    subst e
    walk_at "go"
    intro p hp
    have pq:p≠q:=fun z=>by subst z;rw[eq] at hp;cases hp
    walk_at "go"
    have er:((rdN 1 l:Nat):Int)+1 - 1=(rdN 1 l:Nat):=by omega
    rw[er,Int.toNat_natCast]
    refine ⟨⟨by omega,by omega⟩,?_⟩
    refine cF (fun r ρ μ2=>∃ (dn rs:List Nat) (v6:Option D),r=rs.map (fun i:Nat=>D.int (1+(i:Int)))∧dn++rs=List.range (rdN 1 l)∧ρ=[some w.toD,some (.ls (l.map SB.toD)),some (.obj q),some (.int (rdN 1 l:Nat)),v4,some (.obj p),v6]∧μ2=up μ' p (.lst ((dn.map fun i:Nat=>com W w.nm l (1+(i:Int)) - w.pc*(1+(i:Int) - 1)).map D.int))) ?_ ?_ _ _ _ ⟨[],List.range (rdN 1 l),_,rfl,rfl,rfl,rfl⟩
    · rintro ρ μ2 ⟨dn,rs,v6,er,es,rfl,rfl⟩
      cases rs with
      | cons _ _=>cases er
      | nil=>
      rw[List.append_nil] at es
      subst es
      walk_at "go"
      have hk:pkL W w l=(List.range (rdN 1 l)).map fun i:Nat=>com W w.nm l (1+(i:Int)) - w.pc*(1+(i:Int) - 1):=rfl
      rw[← hk]
      have m0:com W w.nm l 1∈pkL W w l:=by
        rw[hk]
        exact List.mem_map.mpr ⟨0,List.mem_range.mpr d2,by simp⟩
      refine ⟨pkL W w l,⟨rfl,fun z=>by rw[z] at m0;cases m0⟩,fun M h1 h2=>?_⟩
      have c0:=IY w0 (n:=w.nm) L.o (k:=1) (by decide)
      have:=h2 _ m0
      have e:=FY (.inr h1) (by omega) h2
      rw[e,CJ hp]
      exact ⟨_,.refl _,k⟩
    · rintro d r ρ μ2 N ⟨dn,rs,v6,er,es,rfl,rfl⟩ hN
      cases rs with
      | nil=>cases er
      | cons i rs=>
      cases er
      have dl:dn.length+(rs.length+1)=rdN 1 l:=by
        have:=congrArg List.length es
        simpa using this
      walk_at "go"
      refine ⟨l,W,tab,⟨rfl,L,by rw[aV (Ne.symm pq)];exact eq⟩,?_⟩
      walk_at "go"
      refine ⟨.inl (.inl (by unfold S64;omega)),by simp;omega,hN _ _ ⟨dn++[i],rs,_,rfl,by rw[← es];simp,rfl,?_⟩⟩
      simp
def bU:FSp:=fun ds μ Q=>match ds with
  | [d,.ls xs,.obj q]=>∃ (w:WB) (l:List SB) (W:WF) (tab:List (L2.Key×D)),((d=w.toD∧w.Ok)∧xs=l.map SB.toD∧LB w.nm l W tab∧μ q=some (.dct tab)∧W0 W)∧Q (.int (most W w l)) μ
  | _=>False
theorem lQ:∀ ds μ Q,bU ds μ Q→ds.length=3:=by
  unfold bU
  walk_at "ln"
def jx:STr:=aF (cA (lg (TB (ao aX (af (ag 0) (af (ag 1) (aw)))))) (aS (ak L3.rIx (ag 0) (TC (.int 2)))) (bh)) (aS (ao ko (af (ak L3.rIx (ag 0) (TC (.int 2))) (af (ao cx (af (ag 0) (af (ag 1) (af (ag 2) (aw))))) (aw)))))
theorem pA:∀ ds μ Q,bU ds μ Q→jx { nx:=fun _ μ'=>RT Q .non μ',rt:=RT Q } (ini 3 ds) μ:=by
  intro ds μ Q h
  unfold bU at h
  split at h
  case h_2=>exact h.elim
  rename_i d xs q
  walk_at "ini"
  unfold jx
  walk_at "go"
  obtain ⟨w,l,W,tab,⟨⟨rfl,K⟩,rfl,L,eq,w0⟩,k⟩:=h
  refine ⟨w,l,⟨⟨rfl,K⟩,rfl,L.o,L.len⟩,?_⟩
  walk_at "go"
  unfold most at k
  cases h:inP w l with
  | false=>
    rw[h] at k
    walk_at "go"
    exact ⟨_,.refl _,k⟩
  | true=>
    rw[h] at k
    walk_at "go"
    refine ⟨w,l,W,tab,⟨⟨rfl,K⟩,rfl,L,eq,w0⟩,?_⟩
    walk_at "go"
    exact ⟨_,.refl _,k⟩
def bc:FSp:=fun ds μ Q=>match ds with
  | [d,.ls xs,.obj q]=>∃ (w:WB) (l:List SB) (W:WF) (tab:List (L2.Key×D)),((d=w.toD∧w.Ok)∧xs=l.map SB.toD∧LB w.nm l W tab∧μ q=some (.dct tab)∧W0 W)∧Q (.bl (eQ W w l)) μ
  | _=>False
theorem jb:∀ ds μ Q,bc ds μ Q→ds.length=3:=by
  unfold bc
  walk_at "ln"
def fJ:STr:=aS (eR (ao aX (af (ag 0) (af (ag 1) (aw)))) (ak rLe (ao cx (af (ag 0) (af (ag 1) (af (ag 2) (aw))))) (ak L3.rIx (ag 0) (TC (.int 2)))))
theorem jY:∀ ds μ Q,bc ds μ Q→fJ { nx:=fun _ μ'=>RT Q .non μ',rt:=RT Q } (ini 3 ds) μ:=by
  intro ds μ Q h
  unfold bc at h
  split at h
  case h_2=>exact h.elim
  rename_i d xs q
  walk_at "ini"
  unfold fJ
  walk_at "go"
  obtain ⟨w,l,W,tab,⟨⟨rfl,K⟩,rfl,L,eq,w0⟩,k⟩:=h
  refine ⟨w,l,⟨⟨rfl,K⟩,rfl,L.o,L.len⟩,?_⟩
  walk_at "go"
  unfold eQ at k
  cases h:inP w l with
  | false=>
    rw[h] at k
    walk_at "go"
    exact ⟨_,.refl _,k⟩
  | true=>
    rw[h] at k
    walk_at "go"
    refine ⟨w,l,W,tab,⟨⟨rfl,K⟩,rfl,L,eq,w0⟩,?_⟩
    walk_at "go"
    exact ⟨_,.refl _,k⟩
def cM:FSp:=fun ds μ Q=>match ds with
  | [d,.ls xs,.obj q,.int m,.int j]=>∃ (w:WB) (l:List SB) (W:WF) (tab:List (L2.Key×D)),((d=w.toD∧w.Ok)∧xs=l.map SB.toD∧LB w.nm l W tab∧μ q=some (.dct tab)∧0≤j)∧Q (.bl (isW W w l m j)) μ
  | _=>False
theorem sX:∀ ds μ Q,cM ds μ Q→ds.length=5:=by
  unfold cM
  walk_at "ln"
def p8:STr:=aF (cA (TB (ak rEq (ao dH (af (ag 1) (aw))) (TC (.int 0)))) (aS (TC (.bl true))) (bh)) (aF (aO (ao ko (af (ak L3.rIx (ag 0) (TC (.int 2))) (af (ag 3) (aw)))) (au 5)) (aF (cA (TB (ak rEq (ak L3.rIx (ag 0) (TC (.int 4))) (TC (.str "turns")))) (aO (ak cI (ag 5) (ao dH (af (ag 1) (aw)))) (au 5)) (bh)) (aF (cA (TB (ak rGe (ag 4) (ak eK (ao L3.b5 (af (ao L3.cU (af (ag 5) (af (ak L3.rIx (ag 0) (TC (.int 1))) (aw)))) (aw))) (TC (.int 1))))) (aS (TC (.bl true))) (bh)) (aS (ak rLe (ao a7 (af (ak L3.rIx (ag 0) (TC (.int 0))) (af (ag 1) (af (ag 2) (af (ak aK (ag 4) (TC (.int 1))) (aw)))))) (ak cI (ak L3.rIx (ag 0) (TC (.int 1))) (ak aK (ag 4) (TC (.int 1)))))))))
theorem wJ:∀ ds μ Q,cM ds μ Q→p8 { nx:=fun _ μ'=>RT Q .non μ',rt:=RT Q } (ini 6 ds) μ:=by
  intro ds μ Q h
  unfold cM at h
  split at h
  case h_2=>exact h.elim
  rename_i d xs q m j
  walk_at "ini"
  unfold p8
  walk_at "go"
  obtain ⟨w,l,W,tab,⟨⟨rfl,K⟩,rfl,L,eq,j0⟩,k⟩:=h
  have p0:=K.p0
  have p1:=K.p1
  have r0:=K.r0
  have r1:=K.r1
  have ll:=L.len
  rw[List.length_map]
  cases hl:l with
  | nil=>
    subst hl
    have k:Q (.bl true) μ:=k
    walk_at "go"
    exact ⟨_,.refl _,k⟩
  | cons x0 r0'=>
  rw[← hl]
  have l0:0 < l.length:=by rw[hl];simp
  have e0:decide ((l.length:Int)=0)=false:=decide_eq_false (by omega)
  rw[e0]
  walk_at "go"
  refine ⟨⟨Ge _,yu⟩,?_⟩
  rw[JX]
  have fin:∀ s:Int,s=kK w l m→bX L3.cU [.int s,.int w.pc] μ fun x μ1=>bX L3.b5 [x] μ1 fun y μ2=>L3.eK y (.int 1) μ2 fun z μ3=>L3.rGe (.int j) z μ3 fun t μ4=>kB t fun c=>kIf c (RT Q (.bl true) μ4) (L3.aK (.int j) (.int 1) μ4 fun n1 μ5=>bX a7 [.str w.nm,.ls (l.map SB.toD),.obj q,n1] μ5 fun c1 μ6=>L3.aK (.int j) (.int 1) μ6 fun n2 μ7=>cI (.int w.pc) n2 μ7 fun c2 μ8=>L3.rLe c1 c2 μ8 fun y μ9=>RT Q y μ9):=by
    rintro s rfl
    refine ⟨⟨by omega,by unfold cp;omega⟩,fun p z hp=>?_⟩
    refine ⟨kK w l m,w.pc,⟨rg hp (by omega),Le.of (by omega) (by omega)⟩,?_⟩
    rw[xp (show 0 < w.pc by omega)]
    walk_at "go"
    have ne:decide (l=[])=false:=decide_eq_false fun z=>by rw[z] at l0;simp at l0
    unfold isW at k
    rw[ne,Bool.false_or] at k
    have ep:decide (plc w l m≤j)=decide ((kK w l m+w.pc - 1) / w.pc - 1≤j):=decide_eq_decide.mpr (by unfold plc;omega)
    rw[ep] at k
    refine kif (fun h=>?_) fun h=>?_
    · rw[decide_eq_true h,Bool.true_or] at k
      exact ⟨_,.refl _,k⟩
    · rw[decide_eq_false h,Bool.false_or] at k
      walk_at "go"
      refine ⟨l,W,tab,⟨rfl,L,eq⟩,?_⟩
      walk_at "go"
      refine ⟨.inl (.inl (by unfold S64;omega)),?_⟩
      exact ⟨_,.refl _,k⟩
  cases hs:w.so with
  | true=>
    have e:min w.rm m*(l.length:Int)=kK w l m:=by unfold kK;rw[hs];rfl
    walk_at "go"
    refine ⟨.inl (.inr (by unfold S64;omega)),?_⟩
    have f:=fin _ e
    walk_at "go"
    exact f
  | false=>
    have e:min w.rm m=kK w l m:=by unfold kK;rw[hs];rfl
    have f:=fin _ e
    walk_at "go"
    exact f
def bJ:FSp:=fun ds μ Q=>match ds with
  | [.int i]=>Q (.bl (decide (0≤i))) μ
  | _=>False
theorem r8:∀ ds μ Q,bJ ds μ Q→ds.length=1:=by
  unfold bJ
  walk_at "ln"
def lV:STr:=aS (eR (ao cC (af (ag 0) (aw))) (ak rGe (ag 0) (TC (.int 0))))
theorem ud:∀ ds μ Q,bJ ds μ Q→lV { nx:=fun _ μ'=>RT Q .non μ',rt:=RT Q } (ini 1 ds) μ:=by
  intro ds μ Q h
  unfold bJ at h
  split at h
  case h_2=>exact h.elim
  rename_i i
  walk_at "ini"
  unfold lV
  walk_at "go"
  walk_at "go"
  exact ⟨_,.refl _,h⟩
theorem Jy {ws:List WB}{rs:List RB}(h:rs.map RB.nm=ws.map WB.nm):∀ p∈ws.zip rs,p.2.nm=p.1.nm:=by
  induction ws generalizing rs with
  | nil=>intro p hp;simp at hp
  | cons w ws ih=>
    cases rs with
    | nil=>intro p hp;simp at hp
    | cons r rs=>
      simp only[List.cons.injEq,List.map_cons] at h
      intro p hp
      rw[List.zip_cons_cons] at hp
      rcases List.mem_cons.mp hp with rfl | hp
      · exact h.1
      · exact ih h.2 p hp
theorem Gf {xs:List D}{n:Int}{μ:Mu}{Q:DK}:bX aW [.tup xs,.int n] μ Q=Q (.bl (decide ((xs.length:Int)=n))) μ:=propext Iff.rfl
theorem FH {n:Int}{μ:Mu}{Q:DK}:bX bJ [.int n] μ Q=Q (.bl (decide (0≤n))) μ:=propext Iff.rfl
def b9:FSp:=fun ds μ Q=>match ds with
  | [d,e]=>∃ (w:WB) (r:RB),((d=w.toD∧w.Ok)∧e=r.toD∧r.nm=w.nm∧0≤r.mo∧0≤r.wa)∧Q (.bl true) μ
  | _=>False
theorem pF:∀ ds μ Q,b9 ds μ Q→ds.length=2:=by
  unfold b9
  walk_at "ln"
def kE:STr:=aF (cA (TOr (lg (TB (ao aW (af (ag 1) (af (TC (.int 4)) (aw)))))) (TOr (lg (TB (TUn (gf "str") (ak L3.rIx (ag 1) (TC (.int 0)))))) (TB (ak rNe (ak L3.rIx (ag 1) (TC (.int 0))) (ak L3.rIx (ag 0) (TC (.int 0))))))) (aS (TC (.bl false))) (bh)) (aS (eR (ao bJ (af (ak L3.rIx (ag 1) (TC (.int 1))) (aw))) (eR (ao bJ (af (ak L3.rIx (ag 1) (TC (.int 2))) (aw))) (TUn (gf "bool") (ak L3.rIx (ag 1) (TC (.int 3)))))))
theorem qK:∀ ds μ Q,b9 ds μ Q→kE { nx:=fun _ μ'=>RT Q .non μ',rt:=RT Q } (ini 2 ds) μ:=by
  intro ds μ Q h
  unfold b9 at h
  split at h
  case h_2=>exact h.elim
  rename_i d e
  walk_at "ini"
  unfold kE
  walk_at "go"
  obtain ⟨w,r,⟨⟨rfl,K⟩,rfl,en,m0,w0⟩,k⟩:=h
  have on:=K.n
  walk_at "go"
  refine (show bX aW [.tup [.str r.nm,.int r.mo,.int r.wa,.bl r.no],.int 4] _ _ from ?_)
  rw[Gf,decide_eq_true (show (([D.str r.nm,.int r.mo,.int r.wa,.bl r.no].length:Nat):Int)=4 from rfl)]
  rw[en]
  walk_at "go"
  refine ⟨on,?_⟩
  rw[FH,decide_eq_true m0]
  walk_at "go"
  rw[FH,decide_eq_true w0]
  walk_at "go"
  exact ⟨_,.refl _,k⟩
def br:FSp:=fun ds μ Q=>match ds with
  | [d,e,.obj q,f]=>∃ (g:D) (ws:List WB) (ss:List SB) (w:WB) (r:RB) (W:WF) (tab:List (L2.Key×D)),((d=plB g ws ss∧PB ws ss)∧(e=w.toD∧w.Ok)∧(f=r.toD∧0≤r.wa)∧LB w.nm (onB w.nm ss) W tab∧μ q=some (.dct tab)∧W0 W)∧Q (.bl (rgt W ss w r)) μ
  | _=>False
theorem jW:∀ ds μ Q,br ds μ Q→ds.length=4:=by
  unfold br
  walk_at "ln"
def fO:STr:=aF (aO (ao bV (af (ag 0) (af (ak L3.rIx (ag 1) (TC (.int 0))) (aw)))) (au 4)) (aF (cA (TB (ak rLt (ak L3.rIx (ag 3) (TC (.int 1))) (ao bU (af (ag 1) (af (ag 4) (af (ag 2) (aw))))))) (aS (TC (.bl false))) (bh)) (aF (cA (lg (TB (ao cM (af (ag 1) (af (ag 4) (af (ag 2) (af (ak L3.rIx (ag 3) (TC (.int 1))) (af (ak L3.rIx (ag 3) (TC (.int 2))) (aw))))))))) (aS (TC (.bl false))) (bh)) (aS (zy (jF (ak L3.rIx (ag 3) (TC (.int 3)))) (ao bc (af (ag 1) (af (ag 4) (af (ag 2) (aw)))))))))
theorem kM:∀ ds μ Q,br ds μ Q→fO { nx:=fun _ μ'=>RT Q .non μ',rt:=RT Q } (ini 5 ds) μ:=by
  intro ds μ Q h
  unfold br at h
  split at h
  case h_2=>exact h.elim
  rename_i d e q f
  walk_at "ini"
  unfold fO
  walk_at "go"
  obtain ⟨g,ws,ss,w,r,W,tab,⟨⟨rfl,P⟩,⟨rfl,K⟩,⟨rfl,r0⟩,L,eq,w0⟩,k⟩:=h
  walk_at "go"
  refine ⟨g,ws,ss,⟨rfl,K.n,P⟩,?_⟩
  walk_at "go"
  refine ⟨w,onB w.nm ss,W,tab,⟨⟨rfl,K⟩,rfl,L,eq,w0⟩,?_⟩
  walk_at "go"
  unfold rgt at k
  refine kif (fun h=>?_) fun h=>?_
  · rw[decide_eq_true h] at k
    exact ⟨_,.refl _,k⟩
  rw[decide_eq_false h] at k
  refine ⟨w,onB w.nm ss,W,tab,⟨⟨rfl,K⟩,rfl,L,eq,r0⟩,?_⟩
  walk_at "go"
  cases hi:isW W w (onB w.nm ss) r.mo r.wa with
  | false=>
    rw[hi] at k
    walk_at "go"
    exact ⟨_,.refl _,k⟩
  | true=>
    rw[hi] at k
    walk_at "go"
    cases hn:r.no with
    | false=>
      rw[hn] at k
      walk_at "go"
      exact ⟨_,.refl _,k⟩
    | true=>
      rw[hn] at k
      walk_at "go"
      refine ⟨w,onB w.nm ss,W,tab,⟨⟨rfl,K⟩,rfl,L,eq,w0⟩,?_⟩
      walk_at "go"
      exact ⟨_,.refl _,k⟩
def bu:FSp:=fun ds μ Q=>match ds with
  | [d,e]=>∃ (g:D) (ws:List WB) (ss:List SB) (rs:List RB),((d=plB g ws ss∧PB ws ss)∧e=.tup (rs.map RB.toD)∧rs.map RB.nm=ws.map WB.nm∧∀ r∈rs,0≤r.mo∧0≤r.wa)∧Q (.bl (gK ss wz (ws.zip rs))) μ
  | _=>False
theorem qi {α:Type}(xs:List α)(P:α→Bool):(xs.map P).all id=xs.all P:=by
  rw[List.all_map];rfl
theorem jP:∀ ds μ Q,bu ds μ Q→ds.length=2:=by
  unfold bu
  walk_at "ln"
def fX:STr:=aF (cA (lg (TB (ao aW (af (ag 1) (af (ao dH (af (ak L3.rIx (ag 0) (TC (.int 1))) (aw))) (aw)))))) (aS (TC (.bl false))) (bh)) (aF (cA (lg (TB (ao Cs (af (bP (xk (af (ak L3.rIx (ag 0) (TC (.int 1))) (af (ag 1) (aw)))) (eG [0,1]) (fL) (ao b9 (af (ag 0) (af (ag 1) (aw)))) 2 []) (aw))))) (aS (TC (.bl false))) (bh)) (aF (aO (ao yk (af (bP (eM (ag 1)) (au 0) (fL) (dW (af (ak L3.rIx (ag 0) (TC (.int 0))) (af (ak L3.rIx (ag 0) (TC (.int 2))) (aw)))) 1 []) (aw))) (au 2)) (aS (ao Cs (af (bP (xk (af (ak L3.rIx (ag 0) (TC (.int 1))) (af (ag 1) (aw)))) (eG [0,1]) (fL) (ao br (af (ag 2) (af (ag 0) (af (ag 3) (af (ag 1) (aw)))))) 2 [0,2]) (aw))))))
theorem kZ:∀ ds μ Q,bu ds μ Q→fX { nx:=fun _ μ'=>RT Q .non μ',rt:=RT Q } (ini 3 ds) μ:=by
  intro ds μ Q h
  unfold bu at h
  split at h
  case h_2=>exact h.elim
  rename_i d e
  walk_at "ini"
  unfold fX
  walk_at "go"
  obtain ⟨g,ws,ss,rs,⟨⟨rfl,P⟩,rfl,en,h0⟩,k⟩:=h
  have wl:=P.wl
  have el:rs.length=ws.length:=by
    have:=congrArg List.length en
    simpa using this
  have nd:(rs.map RB.nm).Nodup:=by rw[en];exact P.wn
  have zl:(ws.zip rs).length≤6:=by rw[List.length_zip];omega
  have hz:∀ p∈ws.zip rs,p.1∈ws∧p.2∈rs:=fun p hp=>List.of_mem_zip hp
  walk_at "go"
  simp only[List.length_map]
  rw[Gf,List.length_map,el,decide_eq_true rfl]
  walk_at "go"
  rw[Mc]
  refine bW (ws.zip rs) (fun p:WB×RB=>D.tup [p.1.toD,p.2.toD]) (fun _=>D.bl true) rfl (by omega) (fun p hp μ' _ N m=>?_) ?_
  · walk_at "go"
    have:=h0 p.2 (hz p hp).2
    exact ⟨p.1,p.2,⟨⟨rfl,P.w _ (hz p hp).1⟩,rfl,Jy en p hp,this.1,this.2⟩,m⟩
  refine ⟨(ws.zip rs).map fun _=>true,by rw[List.map_map];rfl,?_⟩
  have et:((ws.zip rs).map fun _=>true).all id=true:=by
    rw[qi]
    exact List.all_eq_true.mpr fun _ _=>rfl
  rw[et]
  walk_at "go"
  refine bW rs RB.toD (fun r=>.tup [.str r.nm,.int r.wa]) rfl (by omega) (fun r hr μ' _ N m=>?_) ?_
  · walk_at "go"
    exact m
  walk_at "go"
  refine ⟨uW rs,by unfold uW;rw[List.map_map];rfl,by unfold uW;rw[List.length_map];omega,fun q hq=>?_⟩
  walk_at "go"
  have M:=GI rs nd
  rw[en] at M
  have W0':W0 (wOf rs):=G5 fun r hr=>(h0 r hr).2
  refine bW (ws.zip rs) (fun p:WB×RB=>D.tup [p.1.toD,p.2.toD]) (fun p=>D.bl (rgt (wOf rs) ss p.1 p.2)) rfl (by omega) (fun p hp μ' sb N m=>?_) ?_
  · walk_at "go"
    have hw:=(hz p hp).1
    obtain ⟨a,b,e⟩:=List.append_of_mem hw
    refine ⟨g,ws,ss,p.1,p.2,wOf rs,_,⟨⟨rfl,P⟩,⟨rfl,P.w _ hw⟩,⟨rfl,(h0 p.2 (hz p hp).2).2⟩,P.lb (dn:=a) (rs:=b) e.symm (fun n hn=>M n ?_),sb _ _ aN,W0'⟩,m⟩
    rw[e,List.map_append]
    exact List.mem_append_left _ hn
  refine ⟨(ws.zip rs).map fun p=>rgt (wOf rs) ss p.1 p.2,by rw[List.map_map];rfl,?_⟩
  rw[qi]
  have e:=xq P (wOf rs) (ws.zip rs) [] wz (by rw[List.nil_append,List.map_fst_zip];omega) (fun p hp=>by
    have:=BS nd p.2 (hz p hp).2
    rw[Jy en p hp] at this
    exact this) (fun _ h=>nomatch h)
  rw[← e]
  refine ⟨μ,fun a o h=>?_,k⟩
  rw[aV (fun z=>by subst z;rw[hq] at h;cases h)]
  exact h
theorem FL (ns:List Int):cutD (ns.map D.int) none (some 63)=(ns.take 63).map D.int:=by
  rw[show (63:Int)=((63:Nat):Int) from rfl,yj,List.map_take]
def cB:FSp:=fun ds μ Q=>match ds with
  | [.ls xs]=>(∃ ns:List Int,xs=ns.map .int)∧∀ b c μ',Bp μ' b c→(∀ a o,μ a=some o→a≠b∧a≠c∧μ' a=some o)→Q (.obj b) μ'
  | _=>False
theorem sv:∀ ds μ Q,cB ds μ Q→ds.length=1:=by
  unfold cB
  walk_at "ln"
def lT:STr:=aF (aO (TC (.int 11)) (au 1)) (aF (j4 (eM (TSl (ag 0) (ONo) (mP (TC (.int 63))))) (au 2) (aO (ak lC (ak aK (ak aK (ak cI (ag 1) (TC (.int 6364136223846793005))) (ak lC (ag 2) (ak AU (TC (.int 10)) (TC (.int 40))))) (TC (.int 7))) (TC (.int 2305843009213693951))) (au 1))) (aS (rA (af (qV (eM (TSl (ag 0) (ONo) (mP (TC (.int 63))))) (au 0) (TB (ak rGe (ao tS (af (ag 0) (aw))) (ak AU (TC (.int 10)) (TC (.int 18))))) (ao tS (af (ag 0) (aw))) 1 []) (af (ag 1) (aw))))))
theorem uB:∀ ds μ Q,cB ds μ Q→lT { nx:=fun _ μ'=>RT Q .non μ',rt:=RT Q } (ini 3 ds) μ:=by
  intro ds μ Q h
  unfold cB at h
  split at h
  case h_2=>exact h.elim
  rename_i xs
  walk_at "ini"
  unfold lT
  walk_at "go"
  obtain ⟨⟨ns,rfl⟩,k⟩:=h
  rw[FL]
  refine cF (fun r ρ μ'=>∃ (rs:List Int) (s:Int) (v2:Option D),r=rs.map .int∧ρ=[some (.ls (ns.map .int)),some (.int s),v2]∧μ'=μ) ?_ ?_ _ _ _ ⟨ns.take 63,11,_,rfl,rfl,rfl⟩
  · rintro ρ μ' ⟨rs,s,v2,er,rfl,rfl⟩
    walk_at "go"
    rw[FL]
    intro c hc
    refine gx (fun r μ2=>∃ (rs zs:List Int),r=rs.map .int∧μ2=up μ' c (.lst (zs.map .int))∧zs.length+rs.length≤63) ?_ ?_ _ _ ⟨ns.take 63,[],rfl,rfl,by rw[List.length_take];simp;omega⟩
    · rintro μ2 ⟨rs,zs,er,rfl,_⟩
      intro b hb
      have cb:c≠b:=fun z=>by subst z;rw[aN] at hb;cases hb
      refine ⟨_,.refl _,k b c _ ⟨Ne.symm cb,zs,s,aN,by rw[aV cb];exact aN⟩ fun a o e=>?_⟩
      have h1:a≠c:=fun z=>by subst z;rw[hc] at e;cases e
      have h2:a≠b:=fun z=>by subst z;rw[aV h1,e] at hb;cases hb
      exact ⟨h2,h1,by rw[aV h2,aV h1];exact e⟩
    · rintro d r μ2 N ⟨rs,zs,er,rfl,hz⟩ hN
      cases rs with
      | nil=>cases er
      | cons n rs=>
      cases er
      rw[List.length_cons] at hz
      walk_at "go"
      refine ⟨⟨by decide,by decide,by decide⟩,?_⟩
      refine kif (fun h=>?_) fun h=>?_
      · refine ⟨by rw[List.length_map];omega,hN _ ⟨rs,zs++[if n < 0 then -n else n],rfl,by rw[List.map_append];rfl,by rw[List.length_append];simp;omega⟩⟩
      · exact hN _ ⟨rs,zs,rfl,rfl,by omega⟩
  · rintro d r ρ μ' N ⟨rs,s,v2,er,rfl,rfl⟩ hN
    cases rs with
    | nil=>cases er
    | cons n rs=>
    cases er
    walk_at "go"
    refine ⟨.inl (.inr (by unfold S64;decide)),⟨by decide,by decide,by decide⟩,by decide,?_⟩
    exact ⟨by decide,hN _ _ ⟨rs,_,_,rfl,rfl,rfl⟩⟩
def ar:FSp:=fun ds μ Q=>match ds with
  | [.obj b,.int n]=>∃ c,(Bp μ b c∧0 < n∧cp n)∧∀ k μ',0≤k→k < n→da b c μ μ'→Q (.int k) μ'
  | _=>False
theorem tkB {μ:Mu}{b c:Addr}{n:Int}{Q:DK}(hB:Bp μ b c)(h0:0 < n)(h1:n < 1000000000000000000000000000000000000000000000000)(h:∀ k μ',0≤k→k < n→da b c μ μ'→Q (.int k) μ'):bX ar [.obj b,.int n] μ Q:=⟨c,⟨hB,h0,by unfold cp;omega⟩,h⟩
theorem oT:∀ ds μ Q,ar ds μ Q→ds.length=2:=by
  unfold ar
  walk_at "ln"
def gu:STr:=aS (ak lC (ak f7 (ak L3.rIx (ag 0) (TC (.int 1))) (TC (.int 131071))) (ag 1))
def kb:STr:=aF (cA (TB (ak rGt (ao dH (af (ak L3.rIx (ag 0) (TC (.int 0))) (aw))) (TC (.int 0)))) (aF (aO (ak lC (ak L3.rIx (ak L3.rIx (ag 0) (TC (.int 0))) (TC (.int 0))) (ag 1)) (au 2)) (aF (iu (ak L3.rIx (ag 0) (TC (.int 0))) (TC (.int 0)) (ak f7 (ak L3.rIx (ak L3.rIx (ag 0) (TC (.int 0))) (TC (.int 0))) (ag 1))) (aF (cA (TB (ak rEq (ak L3.rIx (ak L3.rIx (ag 0) (TC (.int 0))) (TC (.int 0))) (TC (.int 0)))) (iN (Il (ak L3.rIx (ag 0) (TC (.int 0))) (TC (.int 0)))) (bh)) (aS (ag 2))))) (bh)) (aF (iu (ag 0) (TC (.int 1)) (ak lC (ak aK (ak cI (ak L3.rIx (ag 0) (TC (.int 1))) (TC (.int 3935559000370003845))) (TC (.int 2691343689449507681))) (TC (.int 2305843009213693951)))) (gu))
theorem qH:∀ ds μ Q,ar ds μ Q→kb { nx:=fun _ μ'=>RT Q .non μ',rt:=RT Q } (ini 3 ds) μ:=by
  intro ds μ Q h
  unfold ar at h
  split at h
  case h_2=>exact h.elim
  rename_i b n
  walk_at "ini"
  unfold kb
  walk_at "go"
  obtain ⟨c,⟨hB,n0,n1⟩,k⟩:=h
  obtain ⟨ne,ns,s,e1,e2⟩:=hB
  have dv:eP n:=⟨by omega,n1⟩
  refine cH e1 ?_
  walk_at "go"
  refine cH e2 ?_
  rw[List.length_map]
  cases ns with
  | nil=>
    walk_at "go"
    refine (show kIf (decide ((0:Int) < 0)) _ _ from ?_)
    unfold gu
    walk_at "go"
    refine cH e1 ?_
    walk_at "go"
    refine ⟨.inl (.inr (by unfold S64;decide)),by decide,cH e1 ?_⟩
    refine (show kN (some 1) _ from ?_)
    walk_at "go"
    refine ⟨⟨by decide,by unfold cp;decide⟩,by omega,?_⟩
    exact ⟨_,.refl _,k _ _ (fm0 n0) (fm1 n0) ⟨⟨ne,[],_,aN,by rw[aV (Ne.symm ne)];exact e2⟩,fun a h1 _=>aV h1⟩⟩
  | cons m ns=>
    rw[decide_eq_true (show (0:Int) < ((m::ns).length:Nat) by simp)]
    have ix0:∀ x y:D,L2.ixN (x::ns.map D.int).length 0=some 0:=fun x y=>by
      rw[show (0:Int)=((0:Nat):Int) from rfl,xJ,if_pos (by simp)]
    rw[List.map_cons] at e2
    walk_at "go"
    refine cH e1 ?_
    walk_at "go"
    refine cH e2 ?_
    walk_at "go"
    refine ⟨by omega,cH e1 ?_⟩
    walk_at "go"
    refine cH e2 ?_
    walk_at "go"
    refine ⟨dv,cH e1 ?_⟩
    walk_at "go"
    refine cH e2 ?_
    rw[ix0 _ .non]
    refine (show kL (up μ c (.lst (D.int (m.fdiv n)::ns.map D.int))) b _ from ?_)
    refine cH (by rw[aV ne];exact e1) ?_
    simp only[List.set_cons_zero]
    walk_at "go"
    refine kif (fun h=>?_) fun h=>?_
    · refine cH (by rw[aV ne];exact e1) ?_
      walk_at "go"
      rw[ix0 _ .non]
      refine ⟨_,.refl _,k _ _ (fm0 n0) (fm1 n0) ⟨⟨ne,ns,s,by rw[aV ne];exact e1,aN⟩,fun a _ h2=>by rw[aV h2]⟩⟩
    · exact ⟨_,.refl _,k _ _ (fm0 n0) (fm1 n0) ⟨⟨ne,m.fdiv n::ns,s,by rw[aV ne];exact e1,aN⟩,fun a _ h2=>by rw[aV h2]⟩⟩
def aH:FSp:=fun ds μ Q=>match ds with
  | [.obj b,x]=>∃ c,Bp μ b c∧((∃ xs,(x=.ls xs∧xs≠[]∧xs.length≤1000000)∧∀ d∈xs,∀ μ',da b c μ μ'→Q d μ')∨∃ z:Str,(x=.str z∧0 < z.length∧z.length≤1000)∧∀ x∈z.cps.toList,∀ μ',da b c μ μ'→Q (.str ⟨#[x]⟩) μ')
  | _=>False
theorem ofL {μ:Mu}{b c:Addr}{xs:List D}{Q:DK}(P:D→Prop)(hB:Bp μ b c)(h0:xs≠[])(h1:xs.length≤1000000)(al:∀ d∈xs,P d)(h:∀ d μ',P d→da b c μ μ'→Q d μ'):bX aH [.obj b,.ls xs] μ Q:=⟨c,hB,.inl ⟨xs,⟨rfl,h0,h1⟩,fun d hd μ' B=>h d μ' (al d hd) B⟩⟩
theorem tK:∀ ds μ Q,aH ds μ Q→ds.length=2:=by
  unfold aH
  walk_at "ln"
def ql:STr:=aS (ak A7 (ag 1) (ao ar (af (ag 0) (af (ao dH (af (ag 1) (aw))) (aw)))))
theorem wC:∀ ds μ Q,aH ds μ Q→ql { nx:=fun _ μ'=>RT Q .non μ',rt:=RT Q } (ini 2 ds) μ:=by
  intro ds μ Q h
  unfold aH at h
  split at h
  case h_2=>exact h.elim
  rename_i b x
  walk_at "ini"
  unfold ql
  walk_at "go"
  obtain ⟨c,hB,⟨xs,⟨rfl,h0,h1⟩,k⟩ | ⟨z,⟨rfl,h0,h1⟩,k⟩⟩:=h
  · walk_at "go"
    have hl:0 < xs.length:=List.length_pos_iff.mpr h0
    refine tkB hB (by omega) (by omega) fun j μ' j0 j1 B=>?_
    walk_at "go"
    obtain ⟨d,ed,hd⟩:=AK (P:=fun d=>d∈xs) (xs:=xs) (fun d hd=>hd) j0 j1
    refine CV ed ?_
    exact ⟨_,.refl _,k d hd μ' B⟩
  · walk_at "go"
    refine ⟨by omega,?_⟩
    refine tkB hB (by omega) (by omega) fun j μ' j0 j1 B=>?_
    walk_at "go"
    refine ⟨by omega,?_⟩
    obtain ⟨n,rfl⟩:∃ n:Nat,j=(n:Int):=⟨j.toNat,by omega⟩
    have jl:n < z.cps.toList.length:=by
      have:z.length=z.cps.toList.length:=by simp[Str.length]
      omega
    have e:L2.atI z.cps.toList (n:Int)=some z.cps.toList[n]:=by
      unfold L2.atI
      rw[xJ,if_pos jl]
      simp
    rw[e]
    refine (show RT Q _ μ' from ?_)
    exact ⟨_,.refl _,k _ (List.getElem_mem jl) μ' B⟩
def aP:FSp:=fun ds μ Q=>match ds with
  | [.int a,.int b]=>(0≤a∧0 < b∧cp b)∧Q (fr (a.fdiv (Int.gcd a b)) (b.fdiv (Int.gcd a b))) μ
  | _=>False
theorem xH {a b:Int}(b0:0 < b)(b1:b≤10000002){lo hi:Int}(h0:lo*b≤a)(h1:a≤hi*b):FrB lo hi (a.fdiv (Int.gcd a b)) (b.fdiv (Int.gcd a b)):=by
  obtain ⟨g,p,q,g0,ea,eb,e1,e2,q0,qb,gg⟩:=zK (a:=a) b0
  rw[e1,e2]
  rw[ea,eb] at h0 h1
  refine ⟨q0,by omega,gg,?_,?_⟩
  · rw[Int.mul_left_comm] at h0
    exact Int.le_of_mul_le_mul_left h0 g0
  · rw[Int.mul_left_comm] at h1
    exact Int.le_of_mul_le_mul_left h1 g0
theorem kP:∀ ds μ Q,aP ds μ Q→ds.length=2:=by
  unfold aP
  walk_at "ln"
def gS:STr:=aF (wg 2 3 (af (ag 0) (af (ag 1) (aw)))) (aF (uS (TB (ak rNe (ag 3) (TC (.int 0)))) (wg 2 3 (af (ag 3) (af (ak lC (ag 2) (ag 3)) (aw))))) (aS (dW (af (ak f7 (ag 0) (ag 2)) (af (ak f7 (ag 1) (ag 2)) (aw))))))
theorem nz:∀ ds μ Q,aP ds μ Q→gS { nx:=fun _ μ'=>RT Q .non μ',rt:=RT Q } (ini 4 ds) μ:=by
  intro ds μ Q h
  unfold aP at h
  split at h
  case h_2=>exact h.elim
  rename_i a b
  walk_at "ini"
  unfold gS
  walk_at "go"
  obtain ⟨⟨a0,b0,b1⟩,k⟩:=h
  refine ⟨fun ρ μ'=>μ'=μ∧∃ x y:Int,ρ=[some (.int a),some (.int b),some (.int x),some (.int y)]∧0≤x∧0≤y∧Int.gcd x y=Int.gcd a b,mz 3,⟨rfl,a,b,rfl,a0,by omega,rfl⟩,?_⟩
  rintro ρ _ ⟨rfl,x,y,rfl,x0,y0,e⟩
  walk_at "go"
  refine Mg (fun hy=>?_) fun hy=>?_
  · walk_at "go"
    have hy':0 < y:=by omega
    refine ⟨by omega,⟨_,_,rfl,y0,fm0 hy',?_⟩,?_⟩
    · rw[sC];exact e
    · have:=fm1 (a:=x) hy'
      have:=fm0 (a:=x) hy'
      simp only[mz,lk]
      omega
  · have hy0:y=0:=hy
    subst hy0
    rw[Int.gcd_zero_right] at e
    have hx:x=(Int.gcd a b:Int):=by omega
    subst hx
    have gp:0 < Int.gcd a b:=Int.gcd_pos_of_ne_zero_right a (by omega)
    have gl:(Int.gcd a b:Int)≤b:=Int.gcd_le_right a b0
    have dv:eP (Int.gcd a b:Int):=⟨by omega,by unfold cp at *;omega⟩
    walk_at "go"
    exact ⟨dv,dv,_,.refl _,k⟩
def ltr:Str:=Str.ofString "abcdefghijklmnopqrstuvwxyz"
theorem Ja {j:Nat}(h:j < 26):L2.atI ltr.cps.toList (j:Int)=some (97+j):=by
  have:∀ i:Fin 26,L2.atI ltr.cps.toList ((i:Nat):Int)=some (97+(i:Nat)):=by decide +kernel
  exact this ⟨j,h⟩
theorem DE:ltr.cps.toList.all (fun c=>decide (c < 128))=true:=by decide +kernel
theorem AI {z:Str}{l u:Option Int}{c:Nat}(h:c∈(Txt.slice z l u).cps.toList):c∈z.cps.toList:=by
  unfold Txt.slice at h
  split at h
  · exact h
  · simp only[List.mem_filterMap] at h
    obtain ⟨i,_,e⟩:=h
    exact Array.mem_toList_iff.mpr (Array.mem_of_getElem? e)
theorem uf:∀ cs:List Nat,jz (cs.map fun x=>D.str ⟨#[x]⟩)=some (cs.map fun x=>⟨#[x]⟩)
  | []=>rfl
  | c::r=>by
    show (jz (r.map fun x=>D.str ⟨#[x]⟩)).map _=_
    rw[uf r];rfl
def uH (A B:Str)(f s k:Int):Str:=A ++ ⟨#[97+((f+s*k).fmod 26).toNat]⟩ ++ B
theorem wj (x y:Str):(x++y).cps.toList=x.cps.toList++y.cps.toList:=by
  show (x.cps++y.cps).toList=_
  simp
theorem Er (x y:Str):(x++y).length=x.length+y.length:=by
  show (x.cps++y.cps).size=_
  rw[Array.size_append];rfl
theorem yb {α β:Type}{g:α→β}:∀ {l:List α},(∀ x∈l,∀ y∈l,g x=g y→x=y)→l.Nodup→(l.map g).Nodup
  | [],_,_=>List.nodup_nil
  | x::r,h,nd=>by
    obtain ⟨h1,h2⟩:=List.nodup_cons.mp nd
    rw[List.map_cons]
    refine List.nodup_cons.mpr ⟨fun z=>?_,yb (fun a ha b hb=>h a (List.mem_cons_of_mem _ ha) b (List.mem_cons_of_mem _ hb)) h2⟩
    obtain ⟨y,hy,e⟩:=List.mem_map.mp z
    exact h1 (h y (List.mem_cons_of_mem _ hy) x List.mem_cons_self e ▸ hy)
theorem Ey {A B:Str}{f s k j:Int}(hs:s=1∨s=3∨s=5∨s=7∨s=9∨s=11)(k0:0≤k)(k1:k < 26)(j0:0≤j)(j1:j < 26)(e:uH A B f s k=uH A B f s j):k=j:=by
  have h:=congrArg (fun z:Str=>z.cps.toList) e
  unfold uH at h
  simp only[wj] at h
  have h2:=List.append_cancel_right h
  have h3:=List.append_cancel_left h2
  have h4:((f+s*k).fmod 26).toNat=((f+s*j).fmod 26).toNat:=by
    have:97+((f+s*k).fmod 26).toNat=97+((f+s*j).fmod 26).toNat:=by simpa using h3
    omega
  have a0:=fm0 (a:=f+s*k) (n:=26) (by decide)
  have b0:=fm0 (a:=f+s*j) (n:=26) (by decide)
  have h5:(f+s*k).fmod 26=(f+s*j).fmod 26:=by omega
  rw[Int.fmod_eq_emod_of_nonneg _ (by decide),Int.fmod_eq_emod_of_nonneg _ (by decide)] at h5
  rcases hs with rfl | rfl | rfl | rfl | rfl | rfl<;>omega
def bz:FSp:=fun ds μ Q=>match ds with
  | [.obj b,.int n]=>∃ c,(Bp μ b c∧0≤n∧n≤20)∧∀ (ns:List Str) μ',(ns.length:Int)=n→ns.Nodup→(∀ z∈ns,PyData.strOk z=true)→da b c μ μ'→Q (.ls (ns.map .str)) μ'
  | _=>False
theorem nk:∀ ds μ Q,bz ds μ Q→ds.length=2:=by
  unfold bz
  walk_at "ln"
def jn:STr:=aF (aO (TC (.str "abcdefghijklmnopqrstuvwxyz")) (au 2)) (aF (aO (yt (TC (.str "")) (bP (di (ao ar (af (ag 0) (af (TC (.int 8)) (aw))))) (au 0) (fL) (ao aH (af (ag 1) (af (ag 2) (aw)))) 1 [0,2])) (au 3)) (aF (aO (ao ar (af (ag 0) (af (ak aK (ao dH (af (ag 3) (aw))) (TC (.int 1))) (aw)))) (au 4)) (aF (aO (ao ar (af (ag 0) (af (TC (.int 26)) (aw)))) (au 5)) (aF (aO (ao aH (af (ag 0) (af (eO (af (TC (.int 1)) (af (TC (.int 3)) (af (TC (.int 5)) (af (TC (.int 7)) (af (TC (.int 9)) (af (TC (.int 11)) (aw)))))))) (aw)))) (au 6)) (aS (bP (di (ag 1)) (au 0) (fL) (ak aK (ak aK (Ca (ag 1) (ONo) (mP (ag 3))) (ak pO (ag 2) (ak lC (ak aK (ag 4) (ak cI (ag 5) (ag 0))) (TC (.int 26))))) (Ca (ag 1) (mP (ag 3)) (ONo))) 1 [3,2,4,5,6]))))))
theorem oN:∀ ds μ Q,bz ds μ Q→jn { nx:=fun _ μ'=>RT Q .non μ',rt:=RT Q } (ini 7 ds) μ:=by
  intro ds μ Q h
  unfold bz at h
  split at h
  case h_2=>exact h.elim
  rename_i b n
  walk_at "ini"
  unfold jn
  walk_at "go"
  obtain ⟨c,⟨hB,n0,n1⟩,k⟩:=h
  refine tkB hB (by decide) (by decide) fun j0 μ1 j00 j01 B1=>?_
  walk_at "go"
  refine ⟨⟨by omega,by omega⟩,?_⟩
  have rl:(dq 0 j0.toNat).length≤8:=by unfold dq;rw[List.length_map,List.length_range];omega
  refine rZ B1.p (fun r zs=>∃ cs:List Nat,zs=cs.map (fun x=>D.str ⟨#[x]⟩)∧(∀ x∈cs,x < 128)∧cs.length+r.length≤8) ⟨[],rfl,(fun _ h=>nomatch h),by simpa using rl⟩ (by omega) ?_ ?_
  · rintro d r zs μ2 hB2 _ ⟨cs,rfl,hc,hl⟩ N hN
    walk_at "go"
    rw[List.length_cons] at hl
    refine ⟨c,hB2,.inr ⟨_,⟨rfl,by decide +kernel,by decide +kernel⟩,fun x hx μ3 B3=>hN (some _) μ3 ⟨cs++[x],by rw[List.map_append];rfl,fun y hy=>?_,by rw[List.length_append];simp;omega⟩ B3⟩⟩
    rcases List.mem_append.mp hy with z | z
    · exact hc y z
    · rw[List.mem_singleton.mp z]
      exact of_decide_eq_true (List.all_eq_true.mp DE x hx)
  · rintro zs μ2 ⟨cs,rfl,hc,hl⟩ B2
    have hl:cs.length≤8:=by simpa using hl
    walk_at "go"
    refine ⟨_,uf cs,DU _ (fun z hz=>?_) (by rw[List.length_map];omega),?_⟩
    · obtain ⟨x,_,rfl⟩:=List.mem_map.mp hz
      rfl
    have el:=join_list cs
    generalize Txt.join (Str.ofString "") (cs.map fun x=>⟨#[x]⟩)=st at el
    have sl:st.length≤8:=by
      have:st.length=st.cps.toList.length:=by simp[Str.length]
      rw[this,el];exact hl
    have sa:∀ x∈st.cps.toList,x < 128:=by rw[el];exact hc
    refine ⟨by omega,?_⟩
    refine tkB B2.p (by omega) (by omega) fun at' μ3 a0 a1 B3=>?_
    walk_at "go"
    refine tkB B3.p (by decide) (by decide) fun f μ4 f0 f1 B4=>?_
    walk_at "go"
    refine ofL (fun d=>∃ s:Int,d=.int s∧(s=1∨s=3∨s=5∨s=7∨s=9∨s=11)) B4.p (by simp) (by simp) ?_ ?_
    · repeat' (first | exact cO | refine bY ⟨_,rfl,by decide⟩ ?_)
    rintro _ μ5 ⟨s,rfl,hs⟩ B5
    walk_at "go"
    refine ⟨⟨by omega,by omega⟩,?_⟩
    refine bW (List.range n.toNat) (fun i:Nat=>D.int (0+(i:Int))) (fun i:Nat=>D.str (uH (Txt.slice st none (some at')) (Txt.slice st (some at') none) f s i)) rfl (by simp;omega) (fun i hi μ' _ N m=>?_) ?_
    · have hi:=List.mem_range.mp hi
      walk_at "go"
      have g0:=fm0 (a:=f+s*(i:Int)) (n:=26) (by decide)
      have g1:=fm1 (a:=f+s*(i:Int)) (n:=26) (by decide)
      have s1:=Txt.slice_le st none (some at')
      have s2:=Txt.slice_le st (some at') none
      have ea:=Ja (j:=((f+s*(i:Int)).fmod 26).toNat) (by omega)
      rw[Int.toNat_of_nonneg g0] at ea
      rw[Int.zero_add]
      refine ⟨by omega,.inl (.inr (by unfold S64;omega)),by decide,by decide +kernel,?_⟩
      refine (show kN (L2.atI ltr.cps.toList ((f+s*(i:Int)).fmod 26)) _ from ?_)
      rw[ea]
      have al:=Er (Txt.slice st none (some at')) ⟨#[97+((f+s*(i:Int)).fmod 26).toNat]⟩
      have l1:(⟨#[97+((f+s*(i:Int)).fmod 26).toNat]⟩:Str).length=1:=rfl
      exact ⟨by omega,by omega,by omega,m⟩
    · have en:((List.range n.toNat).map fun i:Nat=>D.str (uH (Txt.slice st none (some at')) (Txt.slice st (some at') none) f s i))=((List.range n.toNat).map fun i:Nat=>uH (Txt.slice st none (some at')) (Txt.slice st (some at') none) f s i).map D.str:=by rw[List.map_map];rfl
      rw[en]
      refine ⟨_,.refl _,k _ _ (by simp;omega) ?_ (fun z hz=>?_) (B1.trans (B2.trans (B3.trans (B4.trans B5))))⟩
      · refine yb ?_ List.nodup_range
        intro i hi j hj e
        have hi:=List.mem_range.mp hi
        have hj:=List.mem_range.mp hj
        have:=Ey hs (Int.natCast_nonneg i) (by omega) (Int.natCast_nonneg j) (by omega) e
        omega
      · obtain ⟨i,_,rfl⟩:=List.mem_map.mp hz
        have g0:=fm0 (a:=f+s*(i:Int)) (n:=26) (by decide)
        have g1:=fm1 (a:=f+s*(i:Int)) (n:=26) (by decide)
        unfold PyData.strOk
        rw[Array.all_eq_true_iff_forall_mem]
        intro x hx
        have hx:x∈(uH (Txt.slice st none (some at')) (Txt.slice st (some at') none) f s i).cps.toList:=by simpa using hx
        unfold uH at hx
        rw[wj,wj] at hx
        refine decide_eq_true ?_
        rcases List.mem_append.mp hx with z | z
        · rcases List.mem_append.mp z with z | z
          · have:=sa x (AI z);omega
          · have:x=97+((f+s*(i:Int)).fmod 26).toNat:=by simpa using z
            omega
        · have:=sa x (AI z);omega
def bL:FSp:=fun ds μ Q=>match ds with
  | [.obj b,.int m]=>∃ c,(Bp μ b c∧0 < m∧m≤50)∧∀ (ru:List D) (r s:Int) μ',FrB 1 60 r s→da b c μ μ'→Q (.tup (ru++[fr r s])) μ'
  | _=>False
theorem Lr:∀ d∈([.str "still", .str "step", .str "swell", .str "heed", .str "calm"]:List D),d=.str "still" ∨ d=.str "step" ∨ d=.str "swell" ∨ d=.str "heed" ∨ d=.str "calm" := by
  intro d hd
  simpa using hd
theorem o8:∀ ds μ Q,bL ds μ Q→ds.length=2:=by
  unfold bL
  walk_at "ln"
def gs:STr:=aF (cA (TB (ak rEq (ag 2) (TC (.str "still")))) (aS (dW (af (ag 2) (af (ag 4) (aw))))) (bh)) (aF (aO (ao aP (af (ak aK (ak cI (TC (.int 12)) (ag 3)) (ao ar (af (ag 0) (af (TC (.int 12)) (aw))))) (af (TC (.int 12)) (aw)))) (au 5)) (aF (aO (ak aK (TC (.int 1)) (ao ar (af (ag 0) (af (TC (.int 6)) (aw))))) (au 6)) (aF (cA (TB (ak rEq (ag 2) (TC (.str "swell")))) (aS (dW (af (ag 2) (af (ag 4) (af (ao aP (af (ak aK (ak aK (ag 6) (TC (.int 1))) (ao ar (af (ag 0) (af (TC (.int 12)) (aw))))) (af (ag 6) (aw)))) (af (dW (af (TC (.int 1)) (af (ak aK (ak aK (TC (.int 1)) (TC (.int 1))) (ao ar (af (ag 0) (af (TC (.int 6)) (aw))))) (aw)))) (af (ag 5) (aw)))))))) (bh)) (aF (aO (ao aP (af (ak aK (TC (.int 1)) (ao ar (af (ag 0) (af (TC (.int 24)) (aw))))) (af (ag 6) (aw)))) (au 7)) (aF (cA (TB (ak rEq (ag 2) (TC (.str "step")))) (aS (dW (af (ag 2) (af (ag 4) (af (ag 7) (af (ao aP (af (ak aK (TC (.int 1)) (ao ar (af (ag 0) (af (TC (.int 7)) (aw))))) (af (TC (.int 8)) (aw)))) (af (ag 5) (aw)))))))) (bh)) (aF (cA (TB (ak rEq (ag 2) (TC (.str "heed")))) (aS (dW (af (ag 2) (af (ag 4) (af (ag 7) (af (ao aP (af (ak aK (TC (.int 1)) (ao ar (af (ag 0) (af (TC (.int 8)) (aw))))) (af (TC (.int 8)) (aw)))) (af (ag 5) (aw)))))))) (bh)) (aF (aO (ao ar (af (ag 0) (af (TC (.int 5)) (aw)))) (au 8)) (aS (dW (af (ag 2) (af (ag 4) (af (ag 7) (af (ag 8) (af (ak aK (ag 8) (ao ar (af (ag 0) (af (TC (.int 9)) (aw))))) (af (ag 5) (aw))))))))))))))))
def kf:STr:=aF (aO (ao aH (af (ag 0) (af (eO (af (TC (.str "still")) (af (TC (.str "step")) (af (TC (.str "swell")) (af (TC (.str "heed")) (af (TC (.str "calm")) (aw))))))) (aw)))) (au 2)) (aF (aO (ak aK (TC (.int 1)) (ao ar (af (ag 0) (af (ag 1) (aw))))) (au 3)) (aF (aO (ao aP (af (ak aK (TC (.int 6)) (ao ar (af (ag 0) (af (ak eK (ak cI (TC (.int 6)) (ag 3)) (TC (.int 5))) (aw))))) (af (TC (.int 6)) (aw)))) (au 4)) (gs)))
theorem rR:∀ ds μ Q,bL ds μ Q→kf { nx:=fun _ μ'=>RT Q .non μ',rt:=RT Q } (ini 9 ds) μ:=by
  intro ds μ Q h
  unfold bL at h
  split at h
  case h_2=>exact h.elim
  rename_i b m
  walk_at "ini"
  unfold kf
  walk_at "go"
  obtain ⟨c,⟨hB,m0,m1⟩,k⟩:=h
  refine ofL _ hB (by simp) (by simp) Lr fun d μ1 hd B1=>?_
  walk_at "go"
  refine tkB B1.p (by omega) (by omega) fun j μ2 j0 j1 B2=>?_
  walk_at "go"
  refine ⟨.inl (.inr (by unfold S64;omega)),?_⟩
  refine tkB B2.p (by omega) (by omega) fun i μ3 i0 i1 B3=>?_
  walk_at "go"
  refine ⟨⟨by omega,by decide,by unfold cp;decide⟩,?_⟩
  have F0:=xH (a:=6+i) (b:=6) (by decide) (by decide) (lo:=1) (hi:=60) (by omega) (by omega)
  generalize (6+i).fdiv (Int.gcd (6+i) 6)=w1 at F0
  generalize (6:Int).fdiv (Int.gcd (6+i) 6)=w2 at F0
  walk_at "go"
  unfold gs
  have Ab:=B1.trans (B2.trans B3)
  rcases hd with rfl | hd
  · walk_at "go"
    exact ⟨_,.refl _,k [_] w1 w2 _ F0 Ab⟩
  rcases hd with rfl | rfl | rfl | rfl
  all_goals
    walk_at "go"
    refine ⟨.inl (.inr (by unfold S64;omega)),?_⟩
    refine tkB B3.p (by decide) (by decide) fun e μ4 e0 e1 B4=>?_
    walk_at "go"
    refine ⟨⟨by omega,by decide,by unfold cp;decide⟩,?_⟩
    have F1:=xH (a:=12*(1+j)+e) (b:=12) (by decide) (by decide) (lo:=1) (hi:=60) (by omega) (by omega)
    generalize (12*(1+j)+e).fdiv (Int.gcd (12*(1+j)+e) 12)=t1 at F1
    generalize (12:Int).fdiv (Int.gcd (12*(1+j)+e) 12)=t2 at F1
    walk_at "go"
    refine tkB B4.p (by decide) (by decide) fun u μ5 u0 u1 B5=>?_
    walk_at "go"
  · refine tkB B5.p (by decide) (by decide) fun v μ6 v0 v1 B6=>?_
    walk_at "go"
    refine ⟨⟨by omega,by omega,by unfold cp;omega⟩,?_⟩
    walk_at "go"
    refine tkB B6.p (by decide) (by decide) fun x μ7 x0 x1 B7=>?_
    walk_at "go"
    refine ⟨⟨by omega,by omega,by unfold cp;omega⟩,?_⟩
    exact ⟨_,.refl _,k [_,_,_,_] t1 t2 _ F1 (Ab.trans (B4.trans (B5.trans (B6.trans B7))))⟩
  · refine tkB B5.p (by decide) (by decide) fun v μ6 v0 v1 B6=>?_
    walk_at "go"
    refine ⟨⟨by omega,by omega,by unfold cp;omega⟩,?_⟩
    walk_at "go"
    refine tkB B6.p (by decide) (by decide) fun x μ7 x0 x1 B7=>?_
    walk_at "go"
    exact ⟨_,.refl _,k [_,_,_,_] t1 t2 _ F1 (Ab.trans (B4.trans (B5.trans (B6.trans B7))))⟩
  · refine tkB B5.p (by decide) (by decide) fun v μ6 v0 v1 B6=>?_
    walk_at "go"
    refine ⟨⟨by omega,by omega,by unfold cp;omega⟩,?_⟩
    walk_at "go"
    refine tkB B6.p (by decide) (by decide) fun x μ7 x0 x1 B7=>?_
    walk_at "go"
    refine ⟨⟨by omega,by omega,by unfold cp;omega⟩,?_⟩
    exact ⟨_,.refl _,k [_,_,_,_] t1 t2 _ F1 (Ab.trans (B4.trans (B5.trans (B6.trans B7))))⟩
  · refine tkB B5.p (by decide) (by decide) fun v μ6 v0 v1 B6=>?_
    walk_at "go"
    refine ⟨⟨by omega,by omega,by unfold cp;omega⟩,?_⟩
    walk_at "go"
    refine tkB B6.p (by decide) (by decide) fun x μ7 x0 x1 B7=>?_
    walk_at "go"
    refine tkB B7.p (by decide) (by decide) fun y μ8 y0 y1 B8=>?_
    walk_at "go"
    exact ⟨_,.refl _,k [_,_,_,_,_] t1 t2 _ F1 (Ab.trans (B4.trans (B5.trans (B6.trans (B7.trans B8)))))⟩
def cD:FSp:=fun ds μ Q=>match ds with
  | [.obj b,.str n]=>∃ c,(Bp μ b c∧PyData.strOk n=true)∧∀ (w:WB) μ',w.nm=n→w.Ok→da b c μ μ'→Q w.toD μ'
  | _=>False
theorem rM:∀ ds μ Q,cD ds μ Q→ds.length=2:=by
  unfold cD
  walk_at "ln"
def mR:STr:=aF (aO (ak aK (TC (.int 1)) (ao ar (af (ag 0) (af (ao aH (af (ag 0) (af (eO (af (TC (.int 2)) (af (TC (.int 4)) (af (TC (.int 20)) (aw))))) (aw)))) (aw))))) (au 2)) (aF (aO (ak aK (TC (.int 1)) (ao ar (af (ag 0) (af (ao aH (af (ag 0) (af (eO (af (TC (.int 6)) (af (TC (.int 20)) (af (TC (.int 60)) (aw))))) (aw)))) (aw))))) (au 3)) (aF (aO (TC .non) (au 4)) (aF (cA (TB (ak rGt (ao ar (af (ag 0) (af (TC (.int 3)) (aw)))) (TC (.int 0)))) (aO (ao ar (af (ag 0) (af (ak aK (ag 3) (TC (.int 1))) (aw)))) (au 4)) (bh)) (aS (dW (af (ag 1) (af (ag 2) (af (ag 3) (af (ag 4) (af (ao aH (af (ag 0) (af (eO (af (TC (.str "line")) (af (TC (.str "turns")) (aw)))) (aw)))) (aw)))))))))))
theorem sH:∀ ds μ Q,cD ds μ Q→mR { nx:=fun _ μ'=>RT Q .non μ',rt:=RT Q } (ini 5 ds) μ:=by
  intro ds μ Q h
  unfold cD at h
  split at h
  case h_2=>exact h.elim
  rename_i b n
  walk_at "ini"
  unfold mR
  walk_at "go"
  obtain ⟨c,⟨hB,on⟩,k⟩:=h
  refine ofL (IsI 1 20) hB (by simp) (by simp) (by repeat' (first | exact cO | refine bY ⟨_,rfl,by decide,by decide⟩ ?_)) ?_
  rintro _ μ1 ⟨p,rfl,p0,p1⟩ B1
  walk_at "go"
  refine tkB B1.p (by omega) (by omega) fun pc μ2 pc0 pc1 B2=>?_
  walk_at "go"
  refine ofL (IsI 1 60) B2.p (by simp) (by simp) (by repeat' (first | exact cO | refine bY ⟨_,rfl,by decide,by decide⟩ ?_)) ?_
  rintro _ μ3 ⟨p',rfl,q0,q1⟩ B3
  walk_at "go"
  refine tkB B3.p (by omega) (by omega) fun rm μ4 r0 r1 B4=>?_
  walk_at "go"
  refine tkB B4.p (by omega) (by omega) fun x μ5 x0 x1 B5=>?_
  have T5:=B1.trans (B2.trans (B3.trans (B4.trans B5)))
  have fin:∀ (ma:D) (μ6:Mu),da b c μ μ6→bX aH [.obj b,.ls [.str "line", .str "turns"]] μ6 fun y μ7=>RT Q (.tup [.str n,.int (1+pc),.int (1+rm),ma,y]) μ7:=fun ma μ6 T6=>by
    refine ofL (fun d=>∃ s:Bool,d=.str (soS s)) T6.p (by simp) (by simp) ?_ ?_
    · exact bY ⟨false,rfl⟩ (bY ⟨true,rfl⟩ cO)
    rintro _ μ7 ⟨s,rfl⟩ B7
    exact ⟨_,.refl _,k ⟨n,1+pc,1+rm,ma,s⟩ _ rfl ⟨on,by show 1≤1+pc;omega,by show 1+pc≤20;omega,by show 1≤1+rm;omega,by show 1+rm≤60;omega⟩ (T6.trans B7)⟩
  walk_at "go"
  refine kif (fun h=>?_) fun h=>?_
  · walk_at "go"
    refine tkB B5.p (by omega) (by omega) fun y μ6 y0 y1 B6=>?_
    have f:=fin (.int y) μ6 (T5.trans B6)
    walk_at "go"
    exact f
  · have f:=fin .non μ5 T5
    walk_at "go"
    exact f
theorem Ff (ws:List WB):jE (ws.map WB.toD)=ws.zipIdx.map fun p=>.tup [.int (p.2:Nat),p.1.toD]:=by
  refine List.ext_getElem? fun i=>?_
  rw[qe,List.getElem?_map,List.getElem?_map,List.getElem?_zipIdx]
  cases ws[i]? <;> simp
def bH:FSp:=fun ds μ Q=>match ds with
  | [.obj b,.str n,.tup xs,.int m,.ls ys]=>∃ (c:Addr) (ws:List WB),(Bp μ b c∧xs=ws.map WB.toD∧(∀ w∈ws,w.Ok)∧(1≤ws.length∧ws.length≤6)∧(0 < m∧m≤50)∧ys≠[]∧ys.length≤10∧∀ d∈ys,IsI 1 10000000 d)∧∀ (x:SB) μ',x.nm=n→x.Ok→x.rd.Sublist (ws.map WB.nm)→da b c μ μ'→Q x.toD μ'
  | _=>False
theorem lE:∀ ds μ Q,bH ds μ Q→ds.length=5:=by
  unfold bH
  walk_at "ln"
def fc:STr:=aF (aO (TC .non) (au 7)) (aF (cA (TB (ak rEq (ao ar (af (ag 0) (af (TC (.int 2)) (aw)))) (TC (.int 0)))) (aO (ao ar (af (ag 0) (af (ao aH (af (ag 0) (af (eO (af (TC (.int 4)) (af (TC (.int 40)) (af (TC (.int 1000001)) (aw))))) (aw)))) (aw)))) (au 7)) (bh)) (aS (dW (af (ag 1) (af (ag 6) (af (ak aK (TC (.int 1)) (ao ar (af (ag 0) (af (TC (.int 8)) (aw))))) (af (ao ar (af (ag 0) (af (ao aH (af (ag 0) (af (ag 4) (aw)))) (aw)))) (af (ag 7) (af (ao bL (af (ag 0) (af (ag 3) (aw)))) (aw))))))))))
def h8:STr:=aF (aO (ak aK (TC (.int 1)) (ao ar (af (ag 0) (af (ak eK (ak Gh (TC (.int 1)) (ao dH (af (ag 2) (aw)))) (TC (.int 1))) (aw))))) (au 5)) (aF (aO (ao dm (af (bP (Bj (af (ag 2) (aw))) (eG [0,1]) (TB (ak rEq (ak AA (ak GF (ag 2) (ag 0)) (TC (.int 1))) (TC (.int 1)))) (ak L3.rIx (ag 1) (TC (.int 0))) 2 [5]) (aw))) (au 6)) (fc))
theorem mT:∀ ds μ Q,bH ds μ Q→h8 { nx:=fun _ μ'=>RT Q .non μ',rt:=RT Q } (ini 8 ds) μ:=by
  intro ds μ Q h
  unfold bH at h
  split at h
  case h_2=>exact h.elim
  rename_i b n xs m ys
  walk_at "ini"
  unfold h8
  walk_at "go"
  obtain ⟨c,ws,⟨hB,rfl,hw,⟨wl0,wl⟩,⟨m0,m1⟩,yn,yl,hy⟩,k⟩:=h
  rw[List.length_map]
  refine ⟨⟨by omega,by omega⟩,?_⟩
  have hp:0 < (1*2 ^ ((ws.length:Int)).toNat - 1:Int)∧(1*2 ^ ((ws.length:Int)).toNat - 1:Int)≤63:=by
    rw[Int.toNat_natCast]
    rcases (show ws.length=1∨ws.length=2∨ws.length=3∨ws.length=4∨ws.length=5∨ws.length=6 by omega) with e | e | e | e | e | e<;>rw[e]<;>decide
  refine tkB hB hp.1 (by omega) fun i μ1 i0 i1 B1=>?_
  walk_at "go"
  refine fZ ws.zipIdx (fun p:WB×Nat=>D.tup [.int (p.2:Nat),p.1.toD]) (fun p:WB×Nat=>if decide (Builtin.bitAnd ((1+i).fdiv (2 ^ ((p.2:Nat):Int).toNat)) 1=1) then some (.str p.1.nm) else none) (Ff ws) (by rw[List.length_zipIdx];omega) (fun p hp μ' _ N m=>?_) ?_
  · walk_at "go"
    refine ⟨by omega,?_⟩
    refine kif (fun h=>?_) fun h=>?_
    · rw[decide_eq_true h] at m;exact m
    · rw[decide_eq_false h] at m;exact m
  rw[yf]
  generalize hrd:(ws.zipIdx.filter fun p:WB×Nat=>decide (Builtin.bitAnd ((1+i).fdiv (2 ^ ((p.2:Nat):Int).toNat)) 1=1)).map (fun p=>p.1.nm)=rd
  have erd:(ws.zipIdx.filter fun p:WB×Nat=>decide (Builtin.bitAnd ((1+i).fdiv (2 ^ ((p.2:Nat):Int).toNat)) 1=1)).map (fun p=>D.str p.1.nm)=rd.map D.str:=by rw[← hrd,List.map_map];rfl
  have sb:rd.Sublist (ws.map WB.nm):=by
    rw[← hrd]
    have h1:=(List.filter_sublist (l:=ws.zipIdx) (p:=fun p:WB×Nat=>decide (Builtin.bitAnd ((1+i).fdiv (2 ^ ((p.2:Nat):Int).toNat)) 1=1))).map (fun p:WB×Nat=>p.1.nm)
    have h2:ws.zipIdx.map (fun p:WB×Nat=>p.1.nm)=ws.map WB.nm:=by
      rw[show (fun p:WB×Nat=>p.1.nm)=WB.nm ∘ Prod.fst from rfl,← List.map_map,List.zipIdx_map_fst]
    rw[h2] at h1
    exact h1
  rw[erd]
  have rl:rd.length≤6:=by have:=sb.length_le;rw[List.length_map] at this;omega
  have ro:∀ z∈rd,PyData.strOk z=true:=fun z hz=>by
    obtain ⟨w,hw',rfl⟩:=List.mem_map.mp (sb.subset hz)
    exact (hw w hw').n
  walk_at "go"
  unfold fc
  walk_at "go"
  refine tkB B1.p (by decide) (by decide) fun j μ2 j0 j1 B2=>?_
  have T2:=B1.trans B2
  have fin:∀ (mn:D) (μ3:Mu),da b c μ μ3→bX ar [.obj b,.int 8] μ3 fun x μ4=>L3.aK (.int 1) x μ4 fun bt μ5=>bX aH [.obj b,.ls ys] μ5 fun y μ6=>bX ar [.obj b,y] μ6 fun bg μ7=>bX bL [.obj b,.int m] μ7 fun ru μ8=>RT Q (.tup [.str n,.tup (rd.map .str),bt,bg,mn,ru]) μ8:=fun mn μ3 T3=>by
    refine tkB T3.p (by decide) (by decide) fun bt μ4 b0 b1 B4=>?_
    walk_at "go"
    refine ofL (IsI 1 10000000) B4.p yn (by omega) hy ?_
    rintro _ μ5 ⟨e,rfl,e0,e1⟩ B5
    refine tkB B5.p (by omega) (by omega) fun bg μ6 g0 g1 B6=>?_
    refine ⟨c,⟨B6.p,m0,m1⟩,fun ru r s μ7 F B7=>?_⟩
    exact ⟨_,.refl _,k ⟨n,rd,1+bt,.int bg,mn,ru,r,s⟩ _ rfl ⟨ro,by show 1≤1+bt;omega,by show 1+bt≤8;omega,F,by show rd.length≤100;omega⟩ sb (T3.trans (B4.trans (B5.trans (B6.trans B7))))⟩
  walk_at "go"
  refine kif (fun h=>?_) fun h=>?_
  · walk_at "go"
    refine ofL (IsI 1 10000000) B2.p (by simp) (by simp) (by repeat' (first | exact cO | refine bY ⟨_,rfl,by decide,by decide⟩ ?_)) ?_
    rintro _ μ3 ⟨e,rfl,e0,e1⟩ B3
    walk_at "go"
    refine tkB B3.p (by omega) (by omega) fun y μ4 y0 y1 B4=>?_
    have f:=fin (.int y) μ4 (T2.trans (B3.trans B4))
    walk_at "go"
    exact f
  · have f:=fin .non μ2 T2
    walk_at "go"
    exact f
def cg:FSp:=fun ds μ Q=>match ds with
  | [.obj b,.int m,.ls ys]=>∃ c,(Bp μ b c∧(0 < m∧m≤50)∧ys≠[]∧ys.length≤10∧∀ d∈ys,IsI 1 10000000 d)∧∀ (g:D) (ws:List WB) (ss:List SB) μ',PB ws ss→0 < ws.length→da b c μ μ'→Q (plB g ws ss) μ'
  | _=>False
theorem nZ:∀ ds μ Q,cg ds μ Q→ds.length=3:=by
  unfold cg
  walk_at "ln"
def ki:STr:=aF (aO (ak aK (TC (.int 1)) (ao ar (af (ag 0) (af (ao aH (af (ag 0) (af (eO (af (TC (.int 1)) (af (TC (.int 3)) (af (TC (.int 12)) (af (TC (.int 60)) (aw)))))) (aw)))) (aw))))) (au 3)) (aF (aO (ao dm (af (bP (eM (ao bz (af (ag 0) (af (ak aK (TC (.int 1)) (ao ar (af (ag 0) (af (ao aH (af (ag 0) (af (eO (af (TC (.int 2)) (af (TC (.int 3)) (af (TC (.int 6)) (aw))))) (aw)))) (aw))))) (aw))))) (au 0) (fL) (ao cD (af (ag 1) (af (ag 0) (aw)))) 1 [0]) (aw))) (au 4)) (aF (aO (ao wm (af (ao bz (af (ag 0) (af (ao ar (af (ag 0) (af (ao aH (af (ag 0) (af (eO (af (TC (.int 3)) (af (TC (.int 5)) (af (TC (.int 9)) (aw))))) (aw)))) (aw)))) (aw)))) (aw))) (au 5)) (aS (dW (af (ag 3) (af (ag 4) (af (ao dm (af (bP (eM (ag 5)) (au 0) (fL) (ao bH (af (ag 1) (af (ag 0) (af (ag 2) (af (ag 3) (af (ag 4) (aw))))))) 1 [0,4,1,2]) (aw))) (aw))))))))
theorem rj:∀ ds μ Q,cg ds μ Q→ki { nx:=fun _ μ'=>RT Q .non μ',rt:=RT Q } (ini 6 ds) μ:=by
  intro ds μ Q h
  unfold cg at h
  split at h
  case h_2=>exact h.elim
  rename_i b m ys
  walk_at "ini"
  unfold ki
  walk_at "go"
  obtain ⟨c,⟨hB,hm,yn,yl,hy⟩,k⟩:=h
  refine ofL (IsI 1 60) hB (by simp) (by simp) (by repeat' (first | exact cO | refine bY ⟨_,rfl,by decide,by decide⟩ ?_)) ?_
  rintro _ μ1 ⟨e,rfl,e0,e1⟩ B1
  walk_at "go"
  refine tkB B1.p (by omega) (by omega) fun g μ2 g0 g1 B2=>?_
  walk_at "go"
  refine ofL (IsI 1 6) B2.p (by simp) (by simp) (by repeat' (first | exact cO | refine bY ⟨_,rfl,by decide,by decide⟩ ?_)) ?_
  rintro _ μ3 ⟨e',rfl,q0,q1⟩ B3
  walk_at "go"
  refine tkB B3.p (by omega) (by omega) fun n1 μ4 n10 n11 B4=>?_
  walk_at "go"
  refine ⟨c,⟨B4.p,by omega,by omega⟩,fun ns μ5 nl nd no B5=>?_⟩
  walk_at "go"
  refine rZ B5.p (fun r zs=>∃ (ws:List WB) (rs:List Str),zs=ws.map WB.toD∧r=rs.map .str∧ws.map WB.nm++rs=ns∧∀ w∈ws,w.Ok) ⟨[],ns,rfl,rfl,rfl,fun _ h=>nomatch h⟩ (by rw[List.length_map];omega) ?_ ?_
  · rintro d r zs μ6 hB6 _ ⟨ws,rs,rfl,er,en,hw⟩ N hN
    cases rs with
    | nil=>cases er
    | cons z rs=>
    cases er
    have hz:z∈ns:=by rw[← en];simp
    walk_at "go"
    refine ⟨c,⟨hB6,no z hz⟩,fun w μ7 wn W B7=>hN (some _) μ7 ⟨ws++[w],rs,by rw[List.map_append];rfl,rfl,by rw[← en,List.map_append,← wn];simp,fun y hy=>?_⟩ B7⟩
    rcases List.mem_append.mp hy with h | h
    · exact hw y h
    · rw[List.mem_singleton.mp h];exact W
  rintro zs μ6 ⟨ws,rs,rfl,er,en,hw⟩ B6
  have:rs=[]:=by cases rs with | nil=>rfl | cons=>cases er
  subst this
  rw[List.append_nil] at en
  have wl:ws.length=ns.length:=by rw[← en,List.length_map]
  walk_at "go"
  refine ofL (IsI 1 9) B6.p (by simp) (by simp) (by repeat' (first | exact cO | refine bY ⟨_,rfl,by decide,by decide⟩ ?_)) ?_
  rintro _ μ7 ⟨e2,rfl,r0,r1⟩ B7
  walk_at "go"
  refine tkB B7.p (by omega) (by omega) fun n2 μ8 n20 n21 B8=>?_
  walk_at "go"
  refine ⟨c,⟨B8.p,by omega,by omega⟩,fun ms μ9 ml _ mo B9=>?_⟩
  refine ⟨ms,⟨rfl,by omega⟩,fun ss' hp _=>?_⟩
  have sl:ss'.length=ms.length:=hp.length_eq
  walk_at "go"
  have T9:=B1.trans (B2.trans (B3.trans (B4.trans (B5.trans (B6.trans (B7.trans (B8.trans B9)))))))
  refine rZ B9.p (fun r zs=>∃ (xs:List SB) (rs:List Str),zs=xs.map SB.toD∧r=rs.map .str∧xs.map SB.nm++rs=ss'∧∀ x∈xs,x.Ok∧x.rd.Sublist (ws.map WB.nm)) ⟨[],ss',rfl,rfl,rfl,fun _ h=>nomatch h⟩ (by rw[List.length_map];omega) ?_ ?_
  · rintro d r zs μ10 hB10 _ ⟨xs,rs,rfl,er,es,hx⟩ N hN
    cases rs with
    | nil=>cases er
    | cons z rs=>
    cases er
    walk_at "go"
    refine ⟨c,ws,⟨hB10,rfl,hw,⟨by omega,by omega⟩,hm,yn,yl,hy⟩,fun x μ11 xn X sb B11=>hN (some _) μ11 ⟨xs++[x],rs,by rw[List.map_append];rfl,rfl,by rw[← es,List.map_append,← xn];simp,fun y hy=>?_⟩ B11⟩
    rcases List.mem_append.mp hy with h | h
    · exact hx y h
    · rw[List.mem_singleton.mp h];exact ⟨X,sb⟩
  rintro zs μ10 ⟨xs,rs,rfl,er,es,hx⟩ B10
  have:rs=[]:=by cases rs with | nil=>rfl | cons=>cases er
  subst this
  rw[List.append_nil] at es
  have xl:xs.length=ss'.length:=by rw[← es,List.length_map]
  walk_at "go"
  exact ⟨_,.refl _,k (.int (1+g)) ws xs _ ⟨hw,fun x h=>(hx x h).1,fun x h=>(hx x h).2,by rw[en];exact nd,by omega,by omega⟩ (by omega) (T9.trans B10)⟩
def bj:FSp:=fun ds μ Q=>match ds with
  | [d,.str n,.obj q]=>∃ (g:D) (ws:List WB) (ss:List SB) (W:WF) (tab:List (L2.Key×D)),((d=plB g ws ss∧PB ws ss)∧μ q=some (.dct tab)∧LB n (onB n ss) W tab)∧Q (.ls ((onB n ss).map (iK W n))) μ
  | _=>False
theorem jV:∀ ds μ Q,bj ds μ Q→ds.length=3:=by
  unfold bj
  walk_at "ln"
def fV:STr:=aF (aO (rA (aw)) (au 3)) (aF (j4 (eM (ak L3.rIx (ag 0) (TC (.int 2)))) (eG [4,5,6,7,8,9]) (cA (TB (ak (Ce false) (ag 1) (ag 5))) (aF (aO (TSl (ag 5) (ONo) (mP (lJ (ag 5) (ag 1)))) (au 10)) (iN (uo (ag 3) (dW (af (ak f7 (ak L3.rIx (ak L3.rIx (ag 9) (TUn nH (TC (.int 1)))) (TC (.int 0))) (ak L3.rIx (ak L3.rIx (ag 9) (TUn nH (TC (.int 1)))) (TC (.int 1)))) (af (ag 6) (af (ao nQ (af (bP (eM (ag 10)) (au 0) (fL) (xF (ag 1) (ag 0)) 1 [2]) (aw))) (aw)))))))) (bh))) (aS (vV (ag 3))))
theorem lr:∀ ds μ Q,bj ds μ Q→fV { nx:=fun _ μ'=>RT Q .non μ',rt:=RT Q } (ini 11 ds) μ:=by
  intro ds μ Q h
  unfold bj at h
  split at h
  case h_2=>exact h.elim
  rename_i d n q
  walk_at "ini"
  unfold fV
  walk_at "go"
  obtain ⟨g,ws,ss,W,tab,⟨⟨rfl,P⟩,eq,L⟩,k⟩:=h
  have sl:=P.sl
  intro p hp
  have pq:p≠q:=fun z=>by subst z;rw[eq] at hp;cases hp
  walk_at "go"
  refine cF (fun r ρ μ'=>∃ (dn rs:List SB) (v4 v5 v6 v7 v8 v9 v10:Option D),r=rs.map SB.toD∧dn++rs=ss∧ρ=[some (plB g ws ss),some (.str n),some (.obj q),some (.obj p),v4,v5,v6,v7,v8,v9,v10]∧μ'=up μ p (.lst ((onB n dn).map (iK W n)))) ?_ ?_ _ _ _ ⟨[],ss,_,_,_,_,_,_,_,rfl,rfl,rfl,rfl⟩
  · rintro ρ μ' ⟨dn,rs,v4,v5,v6,v7,v8,v9,v10,er,es,rfl,rfl⟩
    cases rs with
    | cons _ _=>cases er
    | nil=>
    rw[List.append_nil] at es
    subst es
    walk_at "go"
    rw[CJ hp]
    exact ⟨_,.refl _,k⟩
  · rintro d r ρ μ' N ⟨dn,rs,v4,v5,v6,v7,v8,v9,v10,er,es,rfl,rfl⟩ hN
    cases rs with
    | nil=>cases er
    | cons x rs=>
    cases er
    have hx:x∈ss:=by rw[← es];simp
    have X:=P.s x hx
    have dl:dn.length+(rs.length+1)=ss.length:=by rw[← es];simp
    have ol:=xV n dn
    walk_at "go"
    rw[xU]
    refine ⟨⟨lM X.rd,L.n⟩,?_⟩
    refine kif (fun h=>?_) fun h=>?_
    · have xo:x∈onB n ss:=nE.mpr ⟨hx,h⟩
      have e2:onB n (dn++[x])=onB n dn++[x]:=by unfold onB;rw[List.filter_append];simp[h]
      walk_at "go"
      refine ⟨⟨lM X.rd,L.n⟩,?_⟩
      rw[tV h]
      walk_at "go"
      rw[sG]
      have q0:=X.f.q0
      have q1:=X.f.q1
      refine ⟨⟨by omega,by unfold cp;omega⟩,?_⟩
      rw[cw q0]
      have fl:=xh n x.rd
      have xl:=X.l
      refine bW (frn n x.rd) D.str (fun m=>.int (W m)) rfl (by omega) (fun m hm μ' s' N nn=>?_) ?_
      · walk_at "go"
        refine Bn (s' q _ (by rw[aV (Ne.symm pq)];exact eq)) ?_
        rw[L.t x xo m hm]
        exact nn
      walk_at "go"
      refine ⟨(frn n x.rd).map W,by rw[List.map_map];rfl,?_⟩
      walk_at "go"
      refine ⟨by rw[List.length_map];omega,hN _ _ ⟨dn++[x],rs,_,_,_,_,_,_,_,rfl,by rw[← es];simp,rfl,?_⟩⟩
      rw[e2,List.map_append]
      rfl
    · have e2:onB n (dn++[x])=onB n dn:=by unfold onB;rw[List.filter_append];simp[h]
      exact hN _ _ ⟨dn++[x],rs,_,_,_,_,_,_,_,rfl,by rw[← es];simp,rfl,by rw[e2]⟩
def aT:FSp:=fun ds μ Q=>match ds with
  | [.ls xs,.int j]=>∃ (W:WF) (n:Str) (l:List SB),(xs=l.map (iK W n)∧(∀ x∈l,x.Ok)∧l.length≤8)∧Q (.int (com W n l j)) μ
  | _=>False
theorem k9:∀ ds μ Q,aT ds μ Q→ds.length=2:=by
  unfold aT
  walk_at "ln"
def hU:STr:=aS (ao nQ (af (bP (eM (ag 0)) (eG [0,1,2]) (fL) (ak cI (ag 0) (ak f7 (ak eK (ak aK (ak aK (ag 3) (ag 2)) (ag 1)) (TC (.int 1))) (ag 1))) 3 [1]) (aw)))
theorem ny:∀ ds μ Q,aT ds μ Q→hU { nx:=fun _ μ'=>RT Q .non μ',rt:=RT Q } (ini 2 ds) μ:=by
  intro ds μ Q h
  unfold aT at h
  split at h
  case h_2=>exact h.elim
  rename_i xs j
  walk_at "ini"
  unfold hU
  walk_at "go"
  obtain ⟨W,n,l,⟨rfl,ho,hl⟩,k⟩:=h
  refine bW l (iK W n) (fun x=>.int (cmb W n j x)) rfl (by omega) (fun x hx μ' _ N m=>?_) ?_
  · have X:=ho x hx
    have b0:=X.b0
    have b1:=X.b1
    have lm:=X.lim
    walk_at "go"
    refine ⟨⟨by omega,by unfold cp;omega⟩,.inl (.inl (by unfold S64;omega)),?_⟩
    rw[cw (by omega)]
    exact m
  walk_at "go"
  exact ⟨l.map (cmb W n j),by rw[List.map_map];rfl,_,.refl _,k⟩
theorem all_true {α:Type}(xs:List α)(P:α→Bool):(xs.map P).all id=xs.all P:=by
  rw[List.all_map];rfl
theorem Cu {n:Nat}{b:Int}(b0:1≤b):(1+(n:Int)).fmod b=0↔b.toNat ∣ 1+n:=by
  rw[Int.fmod_eq_emod_of_nonneg _ (by omega),← Int.dvd_iff_emod_eq_zero,← Int.natCast_dvd_natCast]
  have e:((b.toNat:Nat):Int)=b:=by omega
  rw[e]
  show _↔b ∣ ((1+n:Nat):Int)
  rw[Int.natCast_add];rfl
def dvB (l:List SB)(i:Nat):Bool:=l.all fun x=>decide ((1+(i:Int)).fmod x.bt=0)
theorem De {l:List SB}(ho:∀ x∈l,x.Ok):∃ r,(List.range 840).filter (dvB l)=(rdN 1 l - 1)::r:=by
  obtain ⟨d1,d2,_,d4,d5⟩:=xc (l:=l) (R:=1) ho (Nat.one_dvd _) (by decide)
  have d3:=Nat.le_of_dvd (by decide) d1
  refine zr (by omega) ?_ fun i hi=>?_
  · refine List.all_eq_true.mpr fun x hx=>decide_eq_true ((Cu (ho x hx).b0).mpr ?_)
    rw[show 1+(rdN 1 l - 1)=rdN 1 l by omega]
    exact d4 x hx
  · cases h:dvB l i with
    | false=>rfl
    | true=>
      have:=d5 (1+i) (Nat.one_dvd _) fun x hx=>(Cu (ho x hx).b0).mp (of_decide_eq_true (List.all_eq_true.mp h x hx))
      have:=Nat.le_of_dvd (by omega) this
      omega
def bG:FSp:=fun ds μ Q=>match ds with
  | [.ls xs,d]=>∃ (W:WF) (l:List SB) (w:WB),((xs=l.map (iK W w.nm)∧(∀ x∈l,x.Ok)∧l.length≤8)∧(d=w.toD∧w.Ok)∧W0 W)∧Q (if inP w l then .int (pk W w l) else .non) μ
  | _=>False
theorem kR:∀ ds μ Q,bG ds μ Q→ds.length=2:=by
  unfold bG
  walk_at "ln"
def h9:STr:=aF (cA (TB (ak rGt (ao nQ (af (bP (eM (ag 0)) (eG [0,1,2]) (fL) (ak cI (ag 0) (ak f7 (TC (.int 840)) (ag 1))) 3 []) (aw))) (ak cI (TC (.int 840)) (ak L3.rIx (ag 1) (TC (.int 1)))))) (aS (TC .non)) (bh)) (aF (aO (ak L3.rIx (bP (jA (TC (.int 1)) (TC (.int 841))) (au 0) (TB (ao Cs (af (bP (eM (ag 1)) (eG [0,1,2]) (fL) (ak rEq (ak lC (ag 3) (ag 1)) (TC (.int 0))) 3 [0]) (aw)))) (ag 0) 1 [0]) (TC (.int 0))) (au 2)) (aS (ao sI (af (ak aK (eO (af (TC (.int 0)) (aw))) (bP (jA (TC (.int 1)) (ak aK (ag 2) (TC (.int 1)))) (au 0) (fL) (ak eK (ao aT (af (ag 1) (af (ag 0) (aw)))) (ak cI (ak L3.rIx (ag 2) (TC (.int 1))) (ak eK (ag 0) (TC (.int 1))))) 1 [0,1])) (aw)))))
theorem nr:∀ ds μ Q,bG ds μ Q→h9 { nx:=fun _ μ'=>RT Q .non μ',rt:=RT Q } (ini 3 ds) μ:=by
  intro ds μ Q h
  unfold bG at h
  split at h
  case h_2=>exact h.elim
  rename_i xs d
  walk_at "ini"
  unfold h9
  walk_at "go"
  obtain ⟨W,l,w,⟨⟨rfl,ho,hl⟩,⟨rfl,K⟩,w0⟩,k⟩:=h
  have p0:=K.p0
  have p1:=K.p1
  refine bW l (iK W w.nm) (fun x=>.int (x.lim*(840 / x.bt))) rfl (by omega) (fun x hx μ' _ N m=>?_) ?_
  · have X:=ho x hx
    have b0:=X.b0
    have b1:=X.b1
    have lm:=X.lim
    walk_at "go"
    refine ⟨⟨by omega,by unfold cp;omega⟩,.inl (.inl (by unfold S64;omega)),?_⟩
    rw[cw (by omega)]
    exact m
  walk_at "go"
  refine ⟨l.map fun x=>x.lim*(840 / x.bt),by rw[List.map_map];rfl,?_⟩
  refine ⟨.inl (.inl (by unfold S64;decide)),?_⟩
  have eld:(l.map fun x=>x.lim*(840 / x.bt)).sum=ld l:=rfl
  rw[eld]
  refine kif (fun h=>?_) fun h=>?_
  · have e:inP w l=false:=decide_eq_false (by omega)
    rw[e] at k
    walk_at "go"
    exact ⟨_,.refl _,k⟩
  have e:inP w l=true:=decide_eq_true (by omega)
  rw[e] at k
  have k:Q (.int (pk W w l)) μ:=k
  walk_at "go"
  refine fZ (List.range 840) (fun i:Nat=>D.int (1+(i:Int))) (fun i:Nat=>if dvB l i then some (D.int (1+(i:Int))) else none) rfl (by simp) (fun i hi μ' _ N m=>?_) ?_
  · walk_at "go"
    refine bW l (iK W w.nm) (fun x=>.bl (decide ((1+(i:Int)).fmod x.bt=0))) rfl (by omega) (fun x hx μ2 _ N m=>?_) ?_
    · have b0:=(ho x hx).b0
      walk_at "go"
      exact ⟨by omega,m⟩
    refine ⟨l.map fun x=>decide ((1+(i:Int)).fmod x.bt=0),by rw[List.map_map];rfl,?_⟩
    rw[all_true]
    refine (show kIf (dvB l i) _ _ from ?_)
    cases h:dvB l i with
    | true=>rw[h] at m;exact m
    | false=>rw[h] at m;exact m
  rw[yf]
  obtain ⟨d1,d2,_,d4,d5⟩:=xc (l:=l) (R:=1) ho (Nat.one_dvd _) (by decide)
  have d3:=Nat.le_of_dvd (by decide) d1
  obtain ⟨r,er⟩:=De ho
  rw[er]
  walk_at "go"
  have e1:1+((rdN 1 l - 1:Nat):Int)+1 - 1=((rdN 1 l:Nat):Int):=by omega
  refine ⟨⟨by omega,by omega⟩,?_⟩
  rw[e1,Int.toNat_natCast]
  refine bW (List.range (rdN 1 l)) (fun i:Nat=>D.int (1+(i:Int))) (fun i:Nat=>D.int (com W w.nm l (1+(i:Int)) - w.pc*(1+(i:Int) - 1))) rfl (by simp;omega) (fun i hi μ' _ N m=>?_) ?_
  · walk_at "go"
    refine ⟨W,w.nm,l,⟨rfl,ho,hl⟩,?_⟩
    walk_at "go"
    exact ⟨.inl (.inl (by unfold S64;omega)),m⟩
  have ek:((List.range (rdN 1 l)).map fun i:Nat=>D.int (com W w.nm l (1+(i:Int)) - w.pc*(1+(i:Int) - 1)))=(pkL W w l).map D.int:=by unfold pkL;rw[List.map_map];rfl
  rw[ek]
  have pl:(pkL W w l).length≤840:=by unfold pkL;simp;exact d3
  walk_at "go"
  refine ⟨by simp;omega,0::pkL W w l,⟨rfl,by simp⟩,fun M h1 h2=>?_⟩
  have e:=FY (List.mem_cons.mp h1) (h2 0 List.mem_cons_self) fun a ha=>h2 a (List.mem_cons_of_mem _ ha)
  rw[e]
  exact ⟨_,.refl _,k⟩
def aY:FSp:=fun ds μ Q=>match ds with
  | [.ls xs,d,.int m]=>∃ (l:List SB) (w:WB),((xs.length=l.length∧l.length≤8)∧(d=w.toD∧w.Ok))∧Q (.int (plc w l m)) μ
  | _=>False
theorem kY:∀ ds μ Q,aY ds μ Q→ds.length=3:=by
  unfold aY
  walk_at "ln"
def gY:STr:=aF (aO (ao ko (af (ak L3.rIx (ag 1) (TC (.int 2))) (af (ag 2) (aw)))) (au 3)) (aF (cA (TB (ak rEq (ak L3.rIx (ag 1) (TC (.int 4))) (TC (.str "turns")))) (aO (ak cI (ag 3) (ao dH (af (ag 0) (aw)))) (au 3)) (bh)) (aS (ao jj (af (TC (.int 0)) (af (ak eK (ak f7 (ak eK (ak aK (ag 3) (ak L3.rIx (ag 1) (TC (.int 1)))) (TC (.int 1))) (ak L3.rIx (ag 1) (TC (.int 1)))) (TC (.int 1))) (aw))))))
theorem mr:∀ ds μ Q,aY ds μ Q→gY { nx:=fun _ μ'=>RT Q .non μ',rt:=RT Q } (ini 4 ds) μ:=by
  intro ds μ Q h
  unfold aY at h
  split at h
  case h_2=>exact h.elim
  rename_i xs d m
  walk_at "ini"
  unfold gY
  walk_at "go"
  obtain ⟨l,w,⟨⟨el,hl⟩,rfl,K⟩,k⟩:=h
  have p0:=K.p0
  have p1:=K.p1
  walk_at "go"
  refine ⟨⟨Ge _,yu⟩,?_⟩
  rw[JX]
  have dv:eP w.pc:=⟨by omega,by unfold cp;omega⟩
  unfold plc kK at k
  cases hs:w.so with
  | true=>
    rw[hs] at k
    walk_at "go"
    rw[el]
    refine ⟨.inl (.inr (by unfold S64;omega)),dv,?_⟩
    rw[cw (by omega)]
    exact ⟨_,.refl _,k⟩
  | false=>
    rw[hs] at k
    walk_at "go"
    refine ⟨dv,?_⟩
    rw[cw (by omega)]
    exact ⟨_,.refl _,k⟩
def rgl (W:WF)(w:WB)(l:List SB)(r:RB):Bool:=!decide (r.mo < most W w l)&&(isW W w l r.mo r.wa&&(!r.no || eQ W w l))
def a9:FSp:=fun ds μ Q=>match ds with
  | [d,.ls xs,hh,e]=>∃ (W:WF) (l:List SB) (w:WB) (r:RB),((d=w.toD∧w.Ok)∧(xs=l.map (iK W w.nm)∧(∀ x∈l,x.Ok)∧l.length≤8)∧hh=(if inP w l then .int (pk W w l) else .non)∧e=r.toD)∧Q (.bl (rgl W w l r)) μ
  | _=>False
theorem j6:∀ ds μ Q,a9 ds μ Q→ds.length=4:=by
  unfold a9
  walk_at "ln"
def gn:STr:=aF (Ci 4 5 6 (af (ak L3.rIx (ag 3) (TC (.int 3))) (af (ak L3.rIx (ag 3) (TC (.int 1))) (af (ak L3.rIx (ag 3) (TC (.int 2))) (aw))))) (aF (cA (u4 (TB (ak rLt (ag 5) (ak L3.rIx (ag 0) (TC (.int 2))))) (TOr (TB (ak rIs (ag 2) (TC .non))) (TB (ak rLt (ag 5) (ag 2))))) (aS (TC (.bl false))) (bh)) (aF (cA (u4 (TB (ag 4)) (TOr (TB (ak rIs (ag 2) (TC .non))) (TB (ak rGt (ag 2) (ak L3.rIx (ag 0) (TC (.int 2))))))) (aS (TC (.bl false))) (bh)) (aF (cA (TOr (TB (ak rEq (ao dH (af (ag 1) (aw))) (TC (.int 0)))) (TB (ak rGe (ag 6) (ao aY (af (ag 1) (af (ag 0) (af (ag 5) (aw)))))))) (aS (TC (.bl true))) (bh)) (aS (ak rLe (ao aT (af (ag 1) (af (ak aK (ag 6) (TC (.int 1))) (aw)))) (ak cI (ak L3.rIx (ag 0) (TC (.int 1))) (ak aK (ag 6) (TC (.int 1)))))))))
theorem lD:∀ ds μ Q,a9 ds μ Q→gn { nx:=fun _ μ'=>RT Q .non μ',rt:=RT Q } (ini 7 ds) μ:=by
  intro ds μ Q h
  unfold a9 at h
  split at h
  case h_2=>exact h.elim
  rename_i d xs hh e
  walk_at "ini"
  unfold gn
  walk_at "go"
  obtain ⟨W,l,w,r,⟨⟨rfl,K⟩,⟨rfl,ho,ll⟩,rfl,rfl⟩,k⟩:=h
  have p0:=K.p0
  have p1:=K.p1
  have r0:=K.r0
  have fin:isW W w l r.mo r.wa=rgl W w l r→kIf (decide (((l.map (iK W w.nm)).length:Int)=0)) (RT Q (.bl true) μ) (bX aY [.ls (l.map (iK W w.nm)),w.toD,.int r.mo] μ fun y μ2=>rGe (.int r.wa) y μ2 fun x μ1=>kB x fun c=>kIf c (RT Q (.bl true) μ1) (bX aT [.ls (l.map (iK W w.nm)),.int (r.wa+1)] μ1 fun x μ1=>L3.MulOk w.pc (r.wa+1)∧rLe x (.int (w.pc*(r.wa+1))) μ1 (RT Q))):=fun e=>by
    rw[← e] at k
    rw[List.length_map]
    unfold isW at k
    refine kif (fun h=>?_) fun h=>?_
    · have:l=[]:=List.length_eq_zero_iff.mp (by omega)
      rw[decide_eq_true this] at k
      exact ⟨_,.refl _,k⟩
    · have:¬ l=[]:=fun z=>h (by rw[z];rfl)
      rw[decide_eq_false this] at k
      refine ⟨l,w,⟨⟨by rw[List.length_map],ll⟩,rfl,K⟩,?_⟩
      walk_at "go"
      refine kif (fun h=>?_) fun h=>?_
      · rw[decide_eq_true h] at k
        exact ⟨_,.refl _,k⟩
      · rw[decide_eq_false h] at k
        refine ⟨W,w.nm,l,⟨rfl,ho,ll⟩,?_⟩
        walk_at "go"
        refine ⟨.inl (.inl (by unfold S64;omega)),?_⟩
        exact ⟨_,.refl _,k⟩
  have k1:rgl W w l r=false→RT Q (.bl false) μ:=fun e=>⟨_,.refl _,by rw[← e];exact k⟩
  have lt1:r.mo < most W w l→rgl W w l r=false:=fun h=>by unfold rgl;rw[decide_eq_true h];rfl
  have no1:r.no=true→eQ W w l=false→rgl W w l r=false:=fun h1 h2=>by unfold rgl;rw[h1,h2];simp
  have ok1:¬ r.mo < most W w l→(r.no=false∨eQ W w l=true)→isW W w l r.mo r.wa=rgl W w l r:=fun h1 h2=>by
    unfold rgl
    rw[decide_eq_false h1]
    rcases h2 with h2 | h2<;>simp[h2]
  cases hI:inP w l with
  | true=>
    have em:most W w l=min w.rm (pk W w l):=by unfold most;rw[hI];rfl
    have en:eQ W w l=decide (pk W w l≤w.rm):=by unfold eQ;rw[hI];rfl
    walk_at "go"
    cases hn:r.no with
    | false=>
      walk_at "go"
      have f:=fun h=>fin (ok1 h (.inl hn))
      refine kif (fun h=>kif (fun h'=>k1 (lt1 (by omega))) fun h'=>f (by omega)) fun h=>f (by omega)
    | true=>
      walk_at "go"
      have f:=fun h h'=>fin (ok1 h (.inr (en.trans (decide_eq_true h'))))
      have g:=fun h'=>k1 (no1 hn (en.trans (decide_eq_false h')))
      refine kif (fun h=>kif (fun h'=>k1 (lt1 (by omega))) fun h'=>kif (fun h2=>g (by omega)) fun h2=>f (by omega) (by omega)) fun h=>kif (fun h2=>g (by omega)) fun h2=>f (by omega) (by omega)
  | false=>
    have em:most W w l=w.rm:=by unfold most;rw[hI];rfl
    have en:eQ W w l=false:=by unfold eQ;rw[hI];rfl
    walk_at "go"
    cases hn:r.no with
    | false=>
      walk_at "go"
      refine kif (fun h=>k1 (lt1 (by omega))) fun h=>fin (ok1 (by omega) (.inl hn))
    | true=>
      walk_at "go"
      refine kif (fun h=>k1 (lt1 (by omega))) fun h=>k1 (no1 hn en)
def bS:FSp:=fun ds μ Q=>match ds with
  | [.obj b,d]=>∃ (c:Addr) (g:D) (ws:List WB) (ss:List SB),(Bp μ b c∧d=plB g ws ss∧PB ws ss)∧∀ (rs:List RB) μ',rs.map RB.nm=ws.map WB.nm→(∀ r∈rs,0≤r.mo∧0≤r.wa)→da b c μ μ'→Q (.tup [.tup (rs.map RB.toD),.bl (gK ss wz (ws.zip rs))]) μ'
  | _=>False
theorem l5:∀ ds μ Q,bS ds μ Q→ds.length=2:=by
  unfold bS
  walk_at "ln"
def jo:STr:=aF (aO (BW) (au 2)) (aF (aO (rA (aw)) (au 3)) (aF (aO (TC (.bl true)) (au 4)) (aF (j4 (eM (ak L3.rIx (ag 1) (TC (.int 1)))) (au 5) (aF (aO (ao bj (af (ag 1) (af (ak L3.rIx (ag 5) (TC (.int 0))) (af (ag 2) (aw))))) (au 6)) (aF (aO (ao bG (af (ag 6) (af (ag 5) (aw)))) (au 7)) (aF (aO (ak L3.rIx (ag 5) (TC (.int 2))) (au 8)) (aF (cA (TB (ak eI (ag 7) (TC .non))) (aO (ao ko (af (ak L3.rIx (ag 5) (TC (.int 2))) (af (ag 7) (aw)))) (au 8)) (bh)) (aF (aO (ao jj (af (TC (.int 0)) (af (ak aK (ag 8) (ao aH (af (ag 0) (af (eO (af (TC (.int 0)) (af (TC (.int 0)) (af (TC (.int 0)) (af (TC (.int 1)) (af (TUn nH (TC (.int 1))) (af (ak eK (ao ar (af (ag 0) (af (TC (.int 7)) (aw)))) (TC (.int 3))) (aw)))))))) (aw))))) (aw)))) (au 9)) (aF (aO (ao aY (af (ag 6) (af (ag 5) (af (ag 9) (aw))))) (au 10)) (aF (aO (bP (di (ag 10)) (au 0) (TB (ak rLe (ao aT (af (ag 1) (af (ak aK (ag 0) (TC (.int 1))) (aw)))) (ak cI (ak L3.rIx (ag 2) (TC (.int 1))) (ak aK (ag 0) (TC (.int 1)))))) (ag 0) 1 [6,5]) (au 11)) (aF (aO (ao jj (af (TC (.int 0)) (af (ak aK (ak L3.rIx (ak aK (ag 11) (eO (af (ag 10) (aw)))) (TC (.int 0))) (ao aH (af (ag 0) (af (eO (af (TC (.int 0)) (af (TC (.int 0)) (af (TC (.int 0)) (af (TC (.int 1)) (af (TUn nH (TC (.int 1))) (af (ak eK (ao ar (af (ag 0) (af (TC (.int 9)) (aw)))) (TC (.int 4))) (aw)))))))) (aw))))) (aw)))) (au 12)) (aF (aO (eR (ak eI (ag 7) (TC .non)) (ak rLe (ag 7) (ak L3.rIx (ag 5) (TC (.int 2))))) (au 13)) (aF (aO (dW (af (ak L3.rIx (ag 5) (TC (.int 0))) (af (ag 9) (af (ag 12) (af (ak L3.rIx (eO (af (ag 13) (af (ag 13) (af (TC (.bl false)) (af (jF (ag 13)) (aw)))))) (ao ar (af (ag 0) (af (TC (.int 4)) (aw))))) (aw)))))) (au 14)) (aF (aO (eR (ag 4) (ao a9 (af (ag 5) (af (ag 6) (af (ag 7) (af (ag 14) (aw))))))) (au 4)) (aF (A1 (ag 2) (ak L3.rIx (ag 5) (TC (.int 0))) (ag 12)) (iN (uo (ag 3) (ag 14)))))))))))))))) (aS (dW (af (ao dm (af (ag 3) (aw))) (af (ag 4) (aw))))))))
theorem ou:∀ ds μ Q,bS ds μ Q→jo { nx:=fun _ μ'=>RT Q .non μ',rt:=RT Q } (ini 15 ds) μ:=by
  intro ds μ Q h
  unfold bS at h
  split at h
  case h_2=>exact h.elim
  rename_i b d
  walk_at "ini"
  unfold jo
  walk_at "go"
  obtain ⟨c,g,ws,ss,⟨hB,rfl,P⟩,k⟩:=h
  have wl:=P.wl
  intro q hq
  have nq:=hB.nb hq
  walk_at "go"
  intro p hp
  have pq:p≠q:=fun z=>by subst z;rw[aN] at hp;cases hp
  have np:=(hB.up nq).nb hp
  have hp':μ p=none:=by rw[aV pq] at hp;exact hp
  walk_at "go"
  refine cF (fun r ρ μ'=>∃ (ps:List (WB×RB)) (rs:List WB) (tab:List (L2.Key×D)) (v5 v6 v7 v8 v9 v10 v11 v12 v13 v14:Option D),r=rs.map WB.toD∧ps.map (·.1)++rs=ws∧ρ=[some (.obj b),some (plB g ws ss),some (.obj q),some (.obj p),some (.bl (gK ss wz ps)),v5,v6,v7,v8,v9,v10,v11,v12,v13,v14]∧Bp μ' b c∧(∀ a,a≠b→a≠c→a≠p→a≠q→μ' a=μ a)∧μ' q=some (.dct tab)∧μ' p=some (.lst (ps.map fun y=>y.2.toD))∧tab.length≤ps.length∧tI tab (kH wz ps) (ps.map fun y=>y.1.nm)∧W0 (kH wz ps)∧∀ y∈ps,y.2.nm=y.1.nm∧0≤y.2.mo∧0≤y.2.wa) ?_ ?_ _ _ _ ⟨[],ws,[],_,_,_,_,_,_,_,_,_,_,rfl,rfl,rfl,(hB.up nq).up np,fun a h1 h2 h3 h4=>by rw[aV h3,aV h4],by rw[aV (Ne.symm pq),aN],aN,Nat.le_refl _,(fun _ h=>nomatch h),wz0,fun _ h=>nomatch h⟩
  · rintro ρ μ' ⟨ps,rs,tab,v5,v6,v7,v8,v9,v10,v11,v12,v13,v14,er,es,rfl,B',fr,eq,ep,tl,T,w0,al⟩
    cases rs with
    | cons _ _=>cases er
    | nil=>
    rw[List.append_nil] at es
    walk_at "go"
    refine cH ep ?_
    have ez:ws.zip (ps.map fun y=>y.2)=ps:=by rw[← es];exact (List.zip_of_prod rfl rfl).symm
    refine ⟨fun a=>if a=p∨a=q then none else μ' a,fun a o h=>?_,?_⟩
    · dsimp only at h
      split at h
      · cases h
      · exact h
    · have er:(ps.map fun y=>y.2.toD)=(ps.map fun y=>y.2).map RB.toD:=by rw[List.map_map];rfl
      rw[er]
      have k:=k (ps.map fun y=>y.2) (fun a=>if a=p∨a=q then none else μ' a)
      rw[ez] at k
      refine k ?_ ?_ ⟨?_,fun a h1 h2=>?_⟩
      · rw[← es,List.map_map,List.map_map]
        exact List.map_congr_left fun y hy=>(al y hy).1
      · intro r hr
        obtain ⟨y,hy,rfl⟩:=List.mem_map.mp hr
        exact (al y hy).2
      · obtain ⟨ne,ns,s,e1,e2⟩:=B'
        exact ⟨ne,ns,s,by rw[if_neg (fun z=>z.elim (fun z=>np.1 z.symm) (fun z=>nq.1 z.symm))];exact e1,by rw[if_neg (fun z=>z.elim (fun z=>np.2 z.symm) (fun z=>nq.2 z.symm))];exact e2⟩
      · show (if a=p∨a=q then none else μ' a)=μ a
        split
        · rename_i z
          rcases z with rfl | rfl
          · exact hp'.symm
          · exact hq.symm
        · rename_i z
          exact fr a h1 h2 (fun e=>z (.inl e)) (fun e=>z (.inr e))
  · rintro d r ρ μ' N ⟨ps,rs,tab,v5,v6,v7,v8,v9,v10,v11,v12,v13,v14,er,es,rfl,B',fr,eq,ep,tl,T,w0,al⟩ hN
    cases rs with
    | nil=>cases er
    | cons w rs=>
    cases er
    have hw:w∈ws:=by rw[← es];simp
    have K:=P.w w hw
    have p0:=K.p0
    have p1:=K.p1
    have r0:=K.r0
    have r1:=K.r1
    have L:=P.lb es (by rw[List.map_map];exact T)
    have ll:=L.len
    have dl:ps.length+(rs.length+1)=ws.length:=by rw[← es];simp
    walk_at "go"
    refine ⟨g,ws,ss,kH wz ps,tab,⟨⟨rfl,P⟩,eq,L⟩,?_⟩
    walk_at "go"
    refine ⟨kH wz ps,onB w.nm ss,w,⟨⟨rfl,L.o,L.len⟩,⟨rfl,K⟩,w0⟩,?_⟩
    generalize hl:onB w.nm ss=l at *
    generalize hW:kH wz ps=W at *
    have fin:∀ (v6 v7 v8 v9 v10 v11 v12 v13:D) (m z:Int) (no rr:Bool) (μ1:Mu),da b c μ' μ1→rr=(gK ss wz ps&&rgt W ss w ⟨w.nm,m,z,no⟩)→0≤m→0≤z→kD μ1 q fun kvs=>kvs.length < 1000000∧kL (up μ1 q (.dct (putD kvs (.inr w.nm) (.int z)))) p fun _=>kL (up μ1 q (.dct (putD kvs (.inr w.nm) (.int z)))) p fun ds=>ds.length < 1000000∧
        N [some (.obj b),some (plB g ws ss),some (.obj q),some (.obj p),some (.bl rr),some w.toD,some v6,some v7,some v8,some v9,some v10,some v11,some v12,some v13,some (.tup [.str w.nm,.int m,.int z,.bl no])] (up (up μ1 q (.dct (putD kvs (.inr w.nm) (.int z)))) p (.lst (ds++[.tup [.str w.nm,.int m,.int z,.bl no]]))):=by
      intro v6 v7 v8 v9 v10 v11 v12 v13 m z no rr μ1 B1 hr m0 z0
      have eq1:μ1 q=some (.dct tab):=(B1.o q nq.1 nq.2).trans eq
      have ep1:μ1 p=some (.lst (ps.map fun y=>y.2.toD)):=(B1.o p np.1 np.2).trans ep
      have ep2:up μ1 q (.dct (putD tab (.inr w.nm) (.int z))) p=some (.lst (ps.map fun y=>y.2.toD)):=by rw[aV pq];exact ep1
      refine Bn eq1 ⟨by omega,cH ep2 (cH ep2 ⟨by rw[List.length_map];omega,?_⟩)⟩
      have tl':=z6 tab (.inr w.nm) (.int z)
      have er:rr=gK ss wz (ps++[(w,⟨w.nm,m,z,no⟩)]):=by rw[qf,hW];exact hr
      refine hN _ _ ⟨ps++[(w,⟨w.nm,m,z,no⟩)],rs,_,_,_,_,_,_,_,_,_,_,_,rfl,by rw[← es];simp,by rw[← er],(B1.p.up nq).up np,fun a h1 h2 h3 h4=>by rw[aV h3,aV h4,B1.o a h1 h2,fr a h1 h2 h3 h4],by rw[aV (Ne.symm pq),aN],by rw[List.map_append];exact aN,by rw[List.length_append];simp;omega,?_,?_,fun y hy=>?_⟩
      · rw[j5,hW,List.map_append]
        exact T.put w.nm z
      · rw[j5,hW]
        exact w0.set z0
      · rcases List.mem_append.mp hy with h | h
        · exact al y h
        · rw[List.mem_singleton.mp h];exact ⟨rfl,m0,z0⟩
    have mid:∀ (m0:Int) (su:Bool) (KK:D→D→D→D→D→Mu→Prop),(∀ m z no d1 d2 μ1,0≤m→0≤z→da b c μ' μ1→KK (.int m) d1 d2 (.int z) (.bl no) μ1)→
      bX ar [.obj b,.int 7] μ' fun x μ1=>
      eK x (.int 3) μ1 fun x μ1=>
      bX aH [.obj b,.ls [.int 0,.int 0,.int 0,.int 1,.int (-1),x]] μ1 fun y μ2=>
        aK (.int m0) y μ2 fun x μ1=>
          bX jj [.int 0,x] μ1 fun d μ1=>
            bX aY [.ls (l.map (iK W w.nm)),w.toD,d] μ1 fun d_1 μ1=>
              kI d_1 fun j=>
                (-4611686018427387904≤j∧j < 4611686018427387904)∧
                  y4 (au 0) (TB (ak rLe (ao aT (af (ag 1) (af (ak aK (ag 0) (TC (.int 1))) aw))) (ak cI (ak L3.rIx (ag 2) (TC (.int 1))) (ak aK (ag 0) (TC (.int 1))))))
                    (ag 0) [none,some (.ls (l.map (iK W w.nm))),some w.toD] (dq 0 j.toNat) μ1
                    fun d_2 μ1=>
                    aK d_2 (.ls [d_1]) μ1 fun x μ1=>
                      L3.rIx x (.int 0) μ1 fun x μ1=>
                        bX ar [.obj b,.int 9] μ1 fun x_1 μ1=>
                          eK x_1 (.int 4) μ1 fun x_2 μ1=>
                            bX aH [.obj b,.ls [.int 0,.int 0,.int 0,.int 1,.int (-1),x_2]] μ1 fun y μ2=>
                              aK x y μ2 fun x μ1=>
                                bX jj [.int 0,x] μ1 fun d_3 μ1=>
                                  bX ar [.obj b,.int 4] μ1 fun y μ2=>
                                    L3.rIx (.ls [.bl su,.bl su,.bl false,.bl !su]) y μ2 fun x μ1=>KK d d_1 d_2 d_3 x μ1:=by
      intro m0 su KK hk
      refine tkB B' (by decide) (by decide) fun a μ1 a0 a1 B1=>?_
      walk_at "go"
      refine ofL (fun d=>∃ i:Int,d=.int i) B1.p (by simp) (by simp) (by repeat' (first | exact cO | refine bY ⟨_,rfl⟩ ?_)) ?_
      rintro _ μ2 ⟨e,rfl⟩ B2
      walk_at "go"
      generalize hm:max 0 (m0+e)=m
      refine ⟨l,w,⟨⟨by rw[List.length_map],ll⟩,rfl,K⟩,?_⟩
      have pn:=GU w l m
      have pl:=Gn K ll m
      refine ⟨⟨by omega,by omega⟩,?_⟩
      refine fZ (List.range (plc w l m).toNat) (fun i:Nat=>D.int (0+(i:Int))) (fun i:Nat=>if uJ W w l i then some (D.int i) else none) rfl (by rw[List.length_range];omega) (fun i hi μ2 _ N m=>?_) ?_
      · walk_at "go"
        refine ⟨W,w.nm,l,⟨rfl,L.o,ll⟩,?_⟩
        rw[Int.zero_add]
        walk_at "go"
        refine ⟨.inl (.inl (by unfold S64;omega)),?_⟩
        refine (show kIf (uJ W w l i) _ _ from ?_)
        cases h:uJ W w l i with
        | true=>rw[h] at m;exact m
        | false=>rw[h] at m;exact m
      rw[yf]
      have fl:=List.length_filter_le (fun i:Nat=>uJ W w l i) (List.range (plc w l m).toNat)
      rw[List.length_range] at fl
      generalize ((List.range (plc w l m).toNat).filter fun i:Nat=>uJ W w l i)=sh at fl
      walk_at "go"
      refine ⟨by rw[List.length_map];simp;omega,?_⟩
      have hd:∃ (i:Int) (r:List D),(sh.map fun i:Nat=>D.int i)++[D.int (plc w l m)]=.int i::r:=by
        cases sh with
        | nil=>exact ⟨_,_,rfl⟩
        | cons i r=>exact ⟨_,_,rfl⟩
      obtain ⟨i,r,er⟩:=hd
      rw[er]
      walk_at "go"
      refine tkB B2.p (by decide) (by decide) fun a' μ3 a0' a1' B3=>?_
      walk_at "go"
      refine ofL (fun d=>∃ i:Int,d=.int i) B3.p (by simp) (by simp) (by repeat' (first | exact cO | refine bY ⟨_,rfl⟩ ?_)) ?_
      rintro _ μ4 ⟨e',rfl⟩ B4
      walk_at "go"
      refine tkB B4.p (by decide) (by decide) fun t μ5 t0 t1 B5=>?_
      walk_at "go"
      obtain ⟨x,ex,no,rfl⟩:=AK (P:=fun d=>∃ no,d=.bl no) (xs:=[.bl su,.bl su,.bl false,.bl !su]) (by repeat' (first | exact cO | refine bY ⟨_,rfl⟩ ?_)) t0 t1
      refine CV ex ?_
      exact hk _ _ _ _ _ _ (by omega) (by omega) (B1.trans (B2.trans (B3.trans (B4.trans B5))))
    have ver:∀ (H v6 v7 v8 v9 v10 v11 v12 v13:D) (m z:Int) (no:Bool) (μ1:Mu),H=(if inP w l then .int (pk W w l) else .non)→0≤m→0≤z→da b c μ' μ1→kIf (gK ss wz ps)
        (bX a9 [w.toD,.ls (l.map (iK W w.nm)),H,.tup [.str w.nm,.int m,.int z,.bl no]] μ1 fun d_4 μ1=>kD μ1 q fun kvs=>kvs.length < 1000000∧kL (up μ1 q (.dct (putD kvs (.inr w.nm) (.int z)))) p fun _=>kL (up μ1 q (.dct (putD kvs (.inr w.nm) (.int z)))) p fun ds=>ds.length < 1000000∧
          N [some (.obj b),some (plB g ws ss),some (.obj q),some (.obj p),some d_4,some w.toD,some v6,some v7,some v8,some v9,some v10,some v11,some v12,some v13,some (.tup [.str w.nm,.int m,.int z,.bl no])] (up (up μ1 q (.dct (putD kvs (.inr w.nm) (.int z)))) p (.lst (ds++[.tup [.str w.nm,.int m,.int z,.bl no]]))))
        (kD μ1 q fun kvs=>kvs.length < 1000000∧kL (up μ1 q (.dct (putD kvs (.inr w.nm) (.int z)))) p fun _=>kL (up μ1 q (.dct (putD kvs (.inr w.nm) (.int z)))) p fun ds=>ds.length < 1000000∧
          N [some (.obj b),some (plB g ws ss),some (.obj q),some (.obj p),some (.bl false),some w.toD,some v6,some v7,some v8,some v9,some v10,some v11,some v12,some v13,some (.tup [.str w.nm,.int m,.int z,.bl no])] (up (up μ1 q (.dct (putD kvs (.inr w.nm) (.int z)))) p (.lst (ds++[.tup [.str w.nm,.int m,.int z,.bl no]])))):=by
      intro H v6 v7 v8 v9 v10 v11 v12 v13 m z no μ1 eH h3 h4 B1
      have eg:rgl W w l ⟨w.nm,m,z,no⟩=rgt W ss w ⟨w.nm,m,z,no⟩:=by unfold rgt;rw[hl];rfl
      cases hr:gK ss wz ps with
      | true=>
        refine ⟨W,l,w,⟨w.nm,m,z,no⟩,⟨⟨rfl,K⟩,⟨rfl,L.o,ll⟩,eH,rfl⟩,?_⟩
        rw[eg]
        exact fin _ _ _ _ _ _ _ _ m z no _ μ1 B1 (by rw[hr,Bool.true_and]) h3 h4
      | false=>exact fin _ _ _ _ _ _ _ _ m z no _ μ1 B1 (by rw[hr,Bool.false_and]) h3 h4
    cases hI:inP w l with
    | true=>
      walk_at "go"
      exact mid _ _ _ fun m z no d1 d2 μ1 h3 h4 B1=>ver _ _ _ _ _ _ _ _ _ m z no μ1 (by rw[hI];rfl) h3 h4 B1
    | false=>
      walk_at "go"
      exact mid _ false _ fun m z no d1 d2 μ1 h3 h4 B1=>ver _ _ _ _ _ _ _ _ _ m z no μ1 (by rw[hI];rfl) h3 h4 B1
abbrev cJ:FSp:=L3.cJ
theorem qT:∀ ds μ Q,cJ ds μ Q→ds.length=1:=L3.qT
def z4:STr:=aF (aO (ao cB (af (ag 0) (aw))) (au 1)) (aF (aO (ao cg (af (ag 1) (af (TC (.int 40)) (af (eO (af (TC (.int 1)) (af (TC (.int 30)) (af (TC (.int 1000001)) (aw))))) (aw))))) (au 2)) (aF (j4 (di (TC (.int 5))) (au 3) (aF (aO (ao bS (af (ag 1) (af (ag 2) (aw)))) (eG [4,5])) (aF (aO (ao bu (af (ag 2) (af (ag 4) (aw)))) (au 6)) (cA (TOr (lg (TB (TUn (gf "bool") (ag 6)))) (TB (ak rNe (ag 6) (ag 5)))) (aS (TC (.bl false))) (bh))))) (aS (TC (.bl true)))))
theorem GY:∀ ds μ Q,cJ ds μ Q→z4 { nx:=fun _ μ'=>RT Q .non μ',rt:=RT Q } (ini 7 ds) μ:=by
  intro ds μ Q h
  unfold cJ L3.cJ at h
  split at h
  case h_2=>exact h.elim
  obtain ⟨⟨ns,rfl,hn⟩,k⟩:=h
  walk_at "ini"
  unfold z4
  walk_at "go"
  refine ⟨⟨ns,rfl⟩,fun b c μ1 hB _=>?_⟩
  walk_at "go"
  refine ⟨c,⟨hB,⟨by decide,by decide⟩,by simp,by simp,(by repeat' (first | exact cO | refine bY ⟨_,rfl,by decide,by decide⟩ ?_))⟩,fun g ws ss μ2 P _ B2=>?_⟩
  walk_at "go"
  refine cF (fun r ρ μ'=>∃ (v3 v4 v5 v6:Option D),ρ=[some (.ls (ns.map .int)),some (.obj b),some (plB g ws ss),v3,v4,v5,v6]∧Bp μ' b c) ?_ ?_ _ _ _ ⟨_,_,_,_,rfl,B2.p⟩
  · rintro ρ μ' ⟨v3,v4,v5,v6,rfl,_⟩
    walk_at "go"
    exact ⟨_,.refl _,k _⟩
  · rintro d r ρ μ' N ⟨v3,v4,v5,v6,rfl,B'⟩ hN
    walk_at "go"
    refine ⟨c,g,ws,ss,⟨B',rfl,P⟩,fun rs μ3 en h0 B3=>?_⟩
    walk_at "go"
    refine ⟨g,ws,ss,rs,⟨⟨rfl,P⟩,rfl,en,h0⟩,?_⟩
    generalize gK ss wz (ws.zip rs)=rr
    walk_at "go"
    cases rr
    · exact hN _ _ ⟨_,_,_,_,rfl,B3.p⟩
    · exact hN _ _ ⟨_,_,_,_,rfl,B3.p⟩
theorem j3 (ns:List Int)(h:ns.length≤63)(μ:Mu):cJ [.ls (ns.map .int)] μ (fun d _=>d=.bl true):=L3.j3 ns h μ
end Kk
namespace Kk
open PySem L2 L3
theorem KN {α:Type}{us:List α}(h:us.length=1):∃ x0,us=[x0]:=match us,h with | [x0],_=>⟨x0,rfl⟩
theorem Kz {α:Type}{us:List α}(h:us.length=2):∃ x0 x1,us=[x0,x1]:=match us,h with | [x0,x1],_=>⟨x0,x1,rfl⟩
theorem Kw {α:Type}{us:List α}(h:us.length=3):∃ x0 x1 x2,us=[x0,x1,x2]:=match us,h with | [x0,x1,x2],_=>⟨x0,x1,x2,rfl⟩
theorem JG {α:Type}{us:List α}(h:us.length=4):∃ x0 x1 x2 x3,us=[x0,x1,x2,x3]:=match us,h with | [x0,x1,x2,x3],_=>⟨x0,x1,x2,x3,rfl⟩
theorem JN {α:Type}{us:List α}(h:us.length=5):∃ x0 x1 x2 x3 x4,us=[x0,x1,x2,x3,x4]:=match us,h with | [x0,x1,x2,x3,x4],_=>⟨x0,x1,x2,x3,x4,rfl⟩
def top (i:Nat):Stmt:=PySem.Challenge.pw_swellways_k53_tables_judged.main.body.getD i (.Pass ⟨0,0,0,0⟩)
abbrev mh:Stmt:=top 1
abbrev hZ:Stmt:=top 2
abbrev kq:Stmt:=top 3
abbrev dJ:Stmt:=top 4
abbrev zW:Stmt:=top 5
abbrev CB:Stmt:=top 6
abbrev z7:Stmt:=top 7
abbrev nh:Stmt:=top 8
abbrev qp:Stmt:=top 9
abbrev sU:Stmt:=top 21
abbrev mE:Stmt:=top 22
abbrev gZ:Stmt:=top 27
abbrev fk:Stmt:=top 28
abbrev qy:Stmt:=top 29
abbrev eV:Stmt:=top 30
abbrev eF:Stmt:=top 31
abbrev gO:Stmt:=top 32
abbrev qh:Stmt:=top 33
abbrev iR:Stmt:=top 34
abbrev fH:Stmt:=top 35
abbrev pU:Stmt:=top 36
abbrev mC:Stmt:=top 37
abbrev kg:Stmt:=top 38
abbrev gv:Stmt:=top 39
abbrev b8:Stmt:=top 40
abbrev iI:Stmt:=top 42
abbrev kl:Stmt:=top 43
abbrev pV:Stmt:=top 44
abbrev ij:Stmt:=top 45
abbrev df:Stmt:=top 46
abbrev ky:Stmt:=top 47
abbrev m9:Stmt:=top 48
abbrev d8:Stmt:=top 49
abbrev dQ:Stmt:=top 50
abbrev dG:Stmt:=top 51
abbrev eC:Stmt:=top 52
abbrev cu:Stmt:=top 53
abbrev gR:Stmt:=top 54
abbrev fR:Stmt:=top 55
abbrev fA:Stmt:=top 56
abbrev Gb:Stmt:=top 57
set_option genInjectivity false in
set_option genSizeOfSpec false in
structure Adr where
  mK:Addr
  vU:FuncData
  iq:Addr
  pE:FuncData
  kC:Addr
  uk:FuncData
  dS:Addr
  ja:FuncData
  AM:Addr
  Hr:FuncData
  Cb:Addr
  GD:FuncData
  Ap:Addr
  Jg:FuncData
  mq:Addr
  wL:FuncData
  qt:Addr
  zE:FuncData
  tZ:Addr
  CP:FuncData
  lW:Addr
  va:FuncData
  ik:Addr
  pH:FuncData
  i8:Addr
  qJ:FuncData
  pW:Addr
  zT:FuncData
  eX:Addr
  jK:FuncData
  gU:Addr
  pD:FuncData
  ir:Addr
  ow:FuncData
  pJ:Addr
  zO:FuncData
  jf:Addr
  rE:FuncData
  fE:Addr
  lq:FuncData
  qr:Addr
  zD:FuncData
  lR:Addr
  wQ:FuncData
  kj:Addr
  t8:FuncData
  gm:Addr
  nP:FuncData
  gj:Addr
  mv:FuncData
  nF:Addr
  vF:FuncData
  kz:Addr
  tT:FuncData
  qA:Addr
  zc:FuncData
  ip:Addr
  oF:FuncData
  jC:Addr
  rH:FuncData
  kx:Addr
  ua:FuncData
  mS:Addr
  vP:FuncData
  ie:Addr
  oM:FuncData
  kA:Addr
  uC:FuncData
  fS:Addr
  lP:FuncData
  hX:Addr
  oK:FuncData
  gT:Addr
  oX:FuncData
  gX:Addr
  o5:FuncData
  fU:Addr
  mi:FuncData
  i7:Addr
  qG:FuncData
  An:Addr
  FG:FuncData
structure Txt (Pm:Params) (K:PySem.W.Frag) (mg:Str→Option Value) (t:Adr):Prop where
  uT:mg "is_whole" = some (.ref t.mK)
  vh:Fun K "is_whole" "is_whole" mh t.mK t.vU
  pw:mg "is_tuple_of" = some (.ref t.iq)
  oD:Fun K "is_tuple_of" "is_tuple_of" hZ t.iq t.pE
  ur:mg "common_of" = some (.ref t.kC)
  tL:Fun K "common_of" "common_of" kq t.kC t.uk
  jv:mg "common_multiple" = some (.ref t.dS)
  jD:Fun K "common_multiple" "common_multiple" dJ t.dS t.ja
  Gi:mg "part" = some (.ref t.AM)
  GH:Fun K "part" "part" zW t.AM t.Hr
  Ht:mg "plus" = some (.ref t.Cb)
  Hf:Fun K "plus" "plus" CB t.Cb t.GD
  IS:mg "less" = some (.ref t.Ap)
  IV:Fun K "less" "less" z7 t.Ap t.Jg
  wq:mg "floor_of" = some (.ref t.mq)
  uN:Fun K "floor_of" "floor_of" nh t.mq t.wL
  yX:mg "ceil_of" = some (.ref t.qt)
  yW:Fun K "ceil_of" "ceil_of" qp t.qt t.zE
  z3:mg "top_of" = some (.ref t.tZ)
  Ao:Fun K "top_of" "top_of" sU t.tZ t.CP
  uM:mg "limit_of" = some (.ref t.lW)
  u9:Fun K "limit_of" "limit_of" mE t.lW t.va
  oE:mg "limit_share" = some (.ref t.ik)
  oJ:Fun K "limit_share" "limit_share" gZ t.ik t.pH
  rh:mg "senders_on" = some (.ref t.i8)
  sy:Fun K "senders_on" "senders_on" fk t.i8 t.qJ
  zS:mg "load_on" = some (.ref t.pW)
  zk:Fun K "load_on" "load_on" qy t.pW t.zT
  ka:mg "is_within_pace" = some (.ref t.eX)
  j2:Fun K "is_within_pace" "is_within_pace" eV t.eX t.jK
  oU:mg "waits_ahead" = some (.ref t.gU)
  pB:Fun K "waits_ahead" "waits_ahead" eF t.gU t.pD
  pf:mg "most_coming" = some (.ref t.ir)
  o9:Fun K "most_coming" "most_coming" gO t.ir t.ow
  yN:mg "peak_of" = some (.ref t.pJ)
  za:Fun K "peak_of" "peak_of" qh t.pJ t.zO
  rJ:mg "least_most" = some (.ref t.jf)
  qP:Fun K "least_most" "least_most" iR t.jf t.rE
  kG:mg "may_lose_none" = some (.ref t.fE)
  lA:Fun K "may_lose_none" "may_lose_none" fH t.fE t.lq
  yD:mg "is_wait" = some (.ref t.qr)
  yH:Fun K "is_wait" "is_wait" pU t.qr t.zD
  vA:mg "is_count" = some (.ref t.lR)
  vZ:Fun K "is_count" "is_count" mC t.lR t.wQ
  uu:mg "is_row_of" = some (.ref t.kj)
  sR:Fun K "is_row_of" "is_row_of" kg t.kj t.t8
  ng:mg "is_right_row" = some (.ref t.gm)
  mF:Fun K "is_right_row" "is_right_row" gv t.gm t.nP
  mX:mg "shows_bounds" = some (.ref t.gj)
  ni:Fun K "shows_bounds" "shows_bounds" b8 t.gj t.mv
  uQ:mg "_law_pot" = some (.ref t.nF)
  vv:Fun K "_law_pot" "_law_pot" iI t.nF t.vF
  tE:mg "_law_take" = some (.ref t.kz)
  sN:Fun K "_law_take" "_law_take" kl t.kz t.tT
  yO:mg "_law_of" = some (.ref t.qA)
  y9:Fun K "_law_of" "_law_of" pV t.qA t.zc
  o7:mg "_law_lowest" = some (.ref t.ip)
  oQ:Fun K "_law_lowest" "_law_lowest" ij t.ip t.oF
  qE:mg "_law_names" = some (.ref t.jC)
  rL:Fun K "_law_names" "_law_names" df t.jC t.rH
  uc:mg "_law_rule" = some (.ref t.kx)
  uh:Fun K "_law_rule" "_law_rule" ky t.kx t.ua
  w6:mg "_law_way" = some (.ref t.mS)
  vX:Fun K "_law_way" "_law_way" m9 t.mS t.vP
  nW:mg "_law_sender" = some (.ref t.ie)
  oq:Fun K "_law_sender" "_law_sender" d8 t.ie t.oM
  ui:mg "_law_plan" = some (.ref t.kA)
  uI:Fun K "_law_plan" "_law_plan" dQ t.kA t.uC
  lY:mg "_law_streams" = some (.ref t.fS)
  nR:Fun K "_law_streams" "_law_streams" dG t.fS t.lP
  oj:mg "_law_coming" = some (.ref t.hX)
  oR:Fun K "_law_coming" "_law_coming" eC t.hX t.oK
  nX:mg "_law_height" = some (.ref t.gT)
  oS:Fun K "_law_height" "_law_height" cu t.gT t.oX
  oI:mg "_law_places" = some (.ref t.gX)
  oz:Fun K "_law_places" "_law_places" gR t.gX t.o5
  mf:mg "_law_verdict" = some (.ref t.fU)
  l8:Fun K "_law_verdict" "_law_verdict" fR t.fU t.mi
  qU:mg "_law_drawn" = some (.ref t.i7)
  qM:Fun K "_law_drawn" "_law_drawn" fA t.i7 t.qG
  KQ:mg "law" = some (.ref t.An)
  xg:Fun K "law" "law" Gb t.An t.FG
  xB:mg "abs" = none
  Cr:mg "all" = none
  vK:mg "bool" = none
  G2:mg "dict" = none
  uv:mg "enumerate" = none
  Kg:mg "int" = none
  cf:mg "isinstance" = none
  fY:mg "len" = none
  sQ:mg "max" = none
  xm:mg "min" = none
  fm:mg "range" = none
  Cf:mg "sorted" = none
  Ku:mg "str" = none
  xW:mg "sum" = none
  iX:mg "tuple" = none
  FO:mg "zip" = none
  wx:GV K mg "BEAT" (.int 2)
  dF:GV K mg "LONGEST_WAIT" (.int 2)
  fv:GV K mg "MOST_STAND" (.int 1)
  iC:GV K mg "NAME" (.int 0)
  ke:GV K mg "NONE_LOST" (.int 3)
  Bh:GV K mg "NOUGHT" (.tup [.int 0,.int 1])
  rT:GV K mg "PACE" (.int 1)
  Dg:GV K mg "ROAD" (.int 1)
  rq:GV K mg "ROOM" (.int 2)
  As:GV K mg "RULE" (.int 5)
  zA:GV K mg "SENDERS" (.int 2)
  HK:GV K mg "SORT" (.int 4)
  w4:GV K mg "WAYS" (.int 1)
local macro_rules | `(tactic| walk_at "sc")=>`(tactic| exact ⟨rfl,rfl,rfl,by decide +kernel,rfl,by decide +kernel,by decide +kernel⟩)
local macro_rules | `(tactic| walk_at "b1")=>`(tactic| (rename_i hl;obtain ⟨x0,e⟩:=KN hl;subst e;rfl))
local macro_rules | `(tactic| walk_at "b2")=>`(tactic| (rename_i hl;obtain ⟨x0,x1,e⟩:=Kz hl;subst e;rfl))
local macro_rules | `(tactic| walk_at "b3")=>`(tactic| (rename_i hl;obtain ⟨x0,x1,x2,e⟩:=Kw hl;subst e;rfl))
local macro_rules | `(tactic| walk_at "b4")=>`(tactic| (rename_i hl;obtain ⟨x0,x1,x2,x3,e⟩:=JG hl;subst e;rfl))
local macro_rules | `(tactic| walk_at "b5")=>`(tactic| (rename_i hl;obtain ⟨x0,x1,x2,x3,x4,e⟩:=JN hl;subst e;rfl))
section
variable {P:Program} {w:World} {K:PySem.W.Frag} {mg:Str→Option Value} {base:Heap} {t:Adr}
theorem tY:aC ["thing"] ["thing"] (aq mh):=by walk_at "sc"
theorem wb (T:Txt w.params K mg t):aL P w K mg base 1 "is_whole" ["thing"] cC:=aG T.uT T.vh tY rG uL (fun _ _ _ _ _ _ _ _=>by walk_at "b1") fun _ _ _ _ _ _ hr hu=>
  av (aB (f9 (jU rfl T.cf rfl (ae 0) rfl T.Kg rfl) (fT (r9 (jU rfl T.cf rfl (ae 0) rfl T.vK rfl)))))
theorem lS:aC ["thing", "many"] ["thing", "many"] (aq hZ):=by walk_at "sc"
theorem gW (T:Txt w.params K mg t):aL P w K mg base 1 "is_tuple_of" ["thing", "many"] aW:=aG T.pw T.oD lS kJ m8 (fun _ _ _ _ _ _ _ _=>by walk_at "b2") fun _ _ _ _ _ _ hr hu=>
  av (aB (f9 (jU rfl T.cf rfl (ae 0) rfl T.iX rfl) (fT (le_eq hu (aI bC cG rfl T.fY rfl (aa (ae 0) (ah))) (ae 1)))))
theorem cj:aC ["one", "other", "divisor", "rest", "behind"] ["one", "other"] (aq kq):=by walk_at "sc"
theorem km (T:Txt w.params K mg t):aL P w K mg base 1 "common_of" ["one", "other"] L3.bO:=aG T.ur T.tL cj L3.oZ L3.rX (fun _ _ _ _ _ _ _ _=>by walk_at "b2") fun _ _ _ _ _ _ hr hu=>
  aj (az 2 cj.nd (aI iS lL rfl T.xB rfl (aa (ae 0) (ah)))) (aj (az 3 cj.nd (aI iS lL rfl T.xB rfl (aa (ae 1) (ah)))) (aj (tH PassesOwn.never (sJ (ae 3) (le_int)) (aj (az 4 cj.nd (ft (ae 2) (ae 3))) (aj (az 2 cj.nd (ae 3)) (av (az 3 cj.nd (ae 4)))))) (av (aB (ae 2)))))
theorem iD:aC ["one", "other"] ["one", "other"] (aq dJ):=by walk_at "sc"
theorem iZ (T:Txt w.params K mg t):aL P w K mg base 2 "common_multiple" ["one", "other"] aZ:=aG T.jv T.jD iD gJ iF (fun _ _ _ _ _ _ _ _=>by walk_at "b2") fun _ _ _ _ _ _ hr hu=>
  av (aB (le_mul (cK (ae 0) (ai (km T) hr rfl (aa (ae 0) (aa (ae 1) (ah))))) (ae 1)))
theorem qF:aC ["top", "bottom", "divisor"] ["top", "bottom"] (aq zW):=by walk_at "sc"
theorem r6 (T:Txt w.params K mg t):aL P w K mg base 2 "part" ["top", "bottom"] L3.cU:=aG T.Gi T.GH qF L3.CT L3.ES (fun _ _ _ _ _ _ _ _=>by walk_at "b2") fun _ _ _ _ _ _ hr hu=>
  aj (az 2 qF.nd (ai (km T) hr rfl (aa (ae 0) (aa (ae 1) (ah))))) (aj (bK (xR (ae 1) (le_int)) (av (az 2 qF.nd (le_neg (ae 2)))) (aR)) (av (aB (cm (aa (cK (ae 0) (ae 2)) (aa (cK (ae 1) (ae 2)) (ah)))))))
theorem Ec:aC ["one", "other"] ["one", "other"] (aq CB):=by walk_at "sc"
theorem Gp (T:Txt w.params K mg t):aL P w K mg base 3 "plus" ["one", "other"] L3.gD:=aG T.Ht T.Hf Ec L3.CQ L3.Fs (fun _ _ _ _ _ _ _ _=>by walk_at "b2") fun _ _ _ _ _ _ hr hu=>
  av (aB (ai (r6 T) hr rfl (aa (aD (le_mul (ay (ae 0) (le_int)) (ay (ae 1) (le_int))) (le_mul (ay (ae 1) (le_int)) (ay (ae 0) (le_int)))) (aa (le_mul (ay (ae 0) (le_int)) (ay (ae 1) (le_int))) (ah)))))
theorem Dv:aC ["one", "other"] ["one", "other"] (aq z7):=by walk_at "sc"
theorem HN (T:Txt w.params K mg t):aL P w K mg base 1 "less" ["one", "other"] L3.gy:=aG T.IS T.IV Dv L3.BH L3.EJ (fun _ _ _ _ _ _ _ _=>by walk_at "b2") fun _ _ _ _ _ _ hr hu=>
  av (aB (KG (le_mul (ay (ae 0) (le_int)) (ay (ae 1) (le_int))) (le_mul (ay (ae 1) (le_int)) (ay (ae 0) (le_int)))))
theorem sF:aC ["one"] ["one"] (aq nh):=by walk_at "sc"
theorem vR (T:Txt w.params K mg t):aL P w K mg base 1 "floor_of" ["one"] L3.cE:=aG T.wq T.uN sF L3.rP L3.uq (fun _ _ _ _ _ _ _ _=>by walk_at "b1") fun _ _ _ _ _ _ hr hu=>
  av (aB (cK (ay (ae 0) (le_int)) (ay (ae 0) (le_int))))
theorem wR:aC ["one"] ["one"] (aq qp):=by walk_at "sc"
theorem qg (T:Txt w.params K mg t):aL P w K mg base 1 "ceil_of" ["one"] L3.b5:=aG T.yX T.yW wR L3.tf L3.vQ (fun _ _ _ _ _ _ _ _=>by walk_at "b1") fun _ _ _ _ _ _ hr hu=>
  av (aB (le_neg (cK (le_neg (ay (ae 0) (le_int))) (ay (ae 0) (le_int)))))
theorem zI:aC ["rule"] ["rule"] (aq sU):=by walk_at "sc"
theorem CU (T:Txt w.params K mg t):aL P w K mg base 1 "top_of" ["rule"] bF:=aG T.z3 T.Ao zI lX p9 (fun _ _ _ _ _ _ _ _=>by walk_at "b1") fun _ _ _ _ _ _ hr hu=>
  av (aB (ay (ae 0) (cQ (aI bC cG rfl T.fY rfl (aa (ae 0) (ah))) (le_int))))
theorem um:aC ["rule"] ["rule"] (aq mE):=by walk_at "sc"
theorem mO (T:Txt w.params K mg t):aL P w K mg base 2 "limit_of" ["rule"] bZ:=aG T.uM T.u9 um rz tJ (fun _ _ _ _ _ _ _ _=>by walk_at "b1") fun _ _ _ _ _ _ hr hu=>
  av (aB (ai (vR T) hr rfl (aa (ai (CU T) hr rfl (aa (ae 0) (ah))) (ah))))
theorem md:aC ["sender"] ["sender"] (aq gZ):=by walk_at "sc"
theorem oP (T:Txt w.params K mg t):aL P w K mg base 3 "limit_share" ["sender"] bD:=aG T.oE T.oJ md kW nc (fun _ _ _ _ _ _ _ _=>by walk_at "b1") fun _ _ _ _ _ _ hr hu=>
  av (aB (ai (r6 T) hr rfl (aa (ai (mO T) hr rfl (aa (ay (ae 0) (a6 rfl T.As)) (ah))) (aa (ay (ae 0) (a6 rfl T.wx)) (ah)))))
theorem oh:aC ["plan", "name"] ["plan", "name"] (aq fk):=by walk_at "sc"
theorem qC (T:Txt w.params K mg t):aL P w K mg base 1 "senders_on" ["plan", "name"] bV:=aG T.rh T.sy oh mQ nY (fun _ _ _ _ _ _ _ _=>by walk_at "b2") fun _ _ _ _ _ _ hr hu=>
  av (aB (bf (fsc:=aq fk) ["plan", "name"] ["sender", "name"] 1 [1] rfl rfl (cn (ay (ae 0) (a6 rfl T.zA))) (fun cl C s₀ H₀ ex=>⟨bQ 0 (show (["sender", "name"]:List Str).Nodup from by decide +kernel),iU (C8 hu (ae 1) (ay (ae 0) (a6 rfl T.Dg))),ae 0⟩) rfl rfl (by decide +kernel)))
theorem fq:aC ["senders", "load", "sender"] ["senders"] (aq qy):=by walk_at "sc"
theorem zx (T:Txt w.params K mg t):aL P w K mg base 4 "load_on" ["senders"] cP:=aG T.zS T.zk fq sM vN (fun _ _ _ _ _ _ _ _=>by walk_at "b1") fun _ _ _ _ _ _ hr hu=>
  aj (az 1 fq.nd (a6 rfl T.Bh)) (aj (fN PassesOwn.never rfl (cn (ae 0)) (fo 2 fq.nd) (av (az 1 fq.nd (ai (Gp T) hr rfl (aa (ae 1) (aa (ai (oP T) hr rfl (aa (ae 2) (ah))) (ah))))))) (av (aB (ae 1))))
theorem iW:aC ["way", "senders"] ["way", "senders"] (aq eV):=by walk_at "sc"
theorem e9 (T:Txt w.params K mg t):aL P w K mg base 5 "is_within_pace" ["way", "senders"] aX:=aG T.ka T.j2 iW iH js (fun _ _ _ _ _ _ _ _=>by walk_at "b2") fun _ _ _ _ _ _ hr hu=>
  av (aB (r9 (ai (HN T) hr rfl (aa (cm (aa (ay (ae 0) (a6 rfl T.rT)) (aa (le_int) (ah)))) (aa (ai (zx T) hr rfl (aa (ae 1) (ah))) (ah))))))
theorem fP:aC ["sender", "name", "waits", "road"] ["sender", "name", "waits"] (aq eF):=by walk_at "sc"
theorem oB (T:Txt w.params K mg t):aL P w K mg base 1 "waits_ahead" ["sender", "name", "waits"] bE:=aG T.oU T.pB fP lu mZ (fun _ _ _ _ _ _ _ _=>by walk_at "b3") fun _ _ _ _ _ _ hr hu=>
  aj (az 3 fP.nd (ay (ae 0) (a6 rfl T.Dg))) (av (aB (aI (gE rfl) iV rfl T.xW rfl (aa (bf (fsc:=aq eF) ["sender", "name", "waits", "road"] ["earlier", "waits"] 1 [2] rfl rfl (cn (xN (ae 3) (qu) (j7 (pQ hu (ae 3) (ae 1))))) (fun cl C s₀ H₀ ex=>⟨bQ 0 (show (["earlier", "waits"]:List Str).Nodup from by decide +kernel),cc,xC hu (ae 1) (ae 0)⟩) rfl rfl (by decide +kernel)) (ah)))))
theorem b6:aC ["name", "senders", "waits", "n", "count", "sender", "beats"] ["name", "senders", "waits", "n"] (aq gO):=by walk_at "sc"
theorem gM (T:Txt w.params K mg t):aL P w K mg base 3 "most_coming" ["name", "senders", "waits", "n"] a7:=aG T.pf T.o9 b6 ly mJ (fun _ _ _ _ _ _ _ _=>by walk_at "b4") fun _ _ _ _ _ _ hr hu=>
  aj (az 4 b6.nd (le_int)) (aj (fN PassesOwn.never rfl (cn (ae 1)) (fo 5 b6.nd) (aj (az 6 b6.nd (ai (qg T) hr rfl (aa (ai (r6 T) hr rfl (aa (aD (ae 3) (ai (oB T) hr rfl (aa (ae 5) (aa (ae 0) (aa (ae 2) (ah)))))) (aa (ay (ae 5) (a6 rfl T.wx)) (ah)))) (ah)))) (av (zH 4 b6.nd (le_mul (ai (mO T) hr rfl (aa (ay (ae 5) (a6 rfl T.As)) (ah))) (ae 6)))))) (av (aB (ae 4))))
theorem cN:aC ["way", "senders", "waits", "rounds", "sender", "peaks", "n"] ["way", "senders", "waits"] (aq qh):=by walk_at "sc"
theorem pR (T:Txt w.params K mg t):aL P w K mg base 4 "peak_of" ["way", "senders", "waits"] cx:=aG T.yN T.za cN uG vC (fun _ _ _ _ _ _ _ _=>by walk_at "b3") fun _ _ _ _ _ _ hr hu=>
  aj (az 3 cN.nd (le_int)) (aj (fN PassesOwn.never rfl (cn (ae 1)) (fo 4 cN.nd) (av (az 3 cN.nd (ai (iZ T) hr rfl (aa (ae 3) (aa (ay (ae 4) (a6 rfl T.wx)) (ah))))))) (aj (az 5 cN.nd (sd (ah))) (aj (fN PassesOwn.never rfl (jO rfl T.fm (le_int) (aD (ae 3) (le_int))) (fo 6 cN.nd) (av (lG (le_app (ae 5) (cQ (ai (gM T) hr rfl (aa (ay (ae 0) (a6 rfl T.iC)) (aa (ae 1) (aa (ae 2) (aa (ae 6) (ah)))))) (le_mul (ay (ae 0) (a6 rfl T.rT)) (cQ (ae 6) (le_int)))))))) (av (aB (aI (pP rfl) tm rfl T.sQ rfl (aa (zZ (ae 5)) (ah))))))))
theorem o6:aC ["way", "senders", "waits"] ["way", "senders", "waits"] (aq iR):=by walk_at "sc"
theorem rk (T:Txt w.params K mg t):aL P w K mg base 6 "least_most" ["way", "senders", "waits"] bU:=aG T.rJ T.qP o6 lQ pA (fun _ _ _ _ _ _ _ _=>by walk_at "b3") fun _ _ _ _ _ _ hr hu=>
  aj (bK (iJ (fi (ai (e9 T) hr rfl (aa (ae 0) (aa (ae 1) (ah)))))) (av (aB (ay (ae 0) (a6 rfl T.rq)))) (aR)) (av (aB (aI (gF rfl) i9 rfl T.xm rfl (aa (ay (ae 0) (a6 rfl T.rq)) (aa (ai (pR T) hr rfl (aa (ae 0) (aa (ae 1) (aa (ae 2) (ah))))) (ah))))))
theorem j9:aC ["way", "senders", "waits"] ["way", "senders", "waits"] (aq fH):=by walk_at "sc"
theorem kU (T:Txt w.params K mg t):aL P w K mg base 6 "may_lose_none" ["way", "senders", "waits"] bc:=aG T.kG T.lA j9 jb jY (fun _ _ _ _ _ _ _ _=>by walk_at "b3") fun _ _ _ _ _ _ hr hu=>
  av (aB (f9 (ai (e9 T) hr rfl (aa (ae 0) (aa (ae 1) (ah)))) (fT (yg (ai (pR T) hr rfl (aa (ae 0) (aa (ae 1) (aa (ae 2) (ah))))) (ay (ae 0) (a6 rfl T.rq))))))
theorem iB:aC ["way", "senders", "waits", "most", "wait", "stand"] ["way", "senders", "waits", "most", "wait"] (aq pU):=by walk_at "sc"
theorem zg (T:Txt w.params K mg t):aL P w K mg base 4 "is_wait" ["way", "senders", "waits", "most", "wait"] cM:=aG T.yD T.yH iB sX wJ (fun _ _ _ _ _ _ _ _=>by walk_at "b5") fun _ _ _ _ _ _ hr hu=>
  aj (bK (lt_eq hu (aI bC cG rfl T.fY rfl (aa (ae 1) (ah))) (le_int)) (av (aB (dM))) (aR)) (aj (az 5 iB.nd (aI (gF rfl) i9 rfl T.xm rfl (aa (ay (ae 0) (a6 rfl T.rq)) (aa (ae 3) (ah))))) (aj (bK (lt_eq hu (ay (ae 0) (a6 rfl T.HK)) (le_str)) (av (az 5 iB.nd (le_mul (ae 5) (aI bC cG rfl T.fY rfl (aa (ae 1) (ah)))))) (aR)) (aj (bK (BP (ae 4) (cQ (ai (qg T) hr rfl (aa (ai (r6 T) hr rfl (aa (ae 5) (aa (ay (ae 0) (a6 rfl T.rT)) (ah)))) (ah))) (le_int))) (av (aB (dM))) (aR)) (av (aB (yg (ai (gM T) hr rfl (aa (ay (ae 0) (a6 rfl T.iC)) (aa (ae 1) (aa (ae 2) (aa (aD (ae 4) (le_int)) (ah)))))) (le_mul (ay (ae 0) (a6 rfl T.rT)) (aD (ae 4) (le_int)))))))))
theorem sY:aC ["thing"] ["thing"] (aq mC):=by walk_at "sc"
theorem mH (T:Txt w.params K mg t):aL P w K mg base 2 "is_count" ["thing"] bJ:=aG T.vA T.vZ sY r8 ud (fun _ _ _ _ _ _ _ _=>by walk_at "b1") fun _ _ _ _ _ _ hr hu=>
  av (aB (f9 (ai (wb T) hr rfl (aa (ae 0) (ah))) (fT (KL (ae 0) (le_int)))))
theorem rK:aC ["way", "thing"] ["way", "thing"] (aq kg):=by walk_at "sc"
theorem sA (T:Txt w.params K mg t):aL P w K mg base 3 "is_row_of" ["way", "thing"] b9:=aG T.uu T.sR rK pF qK (fun _ _ _ _ _ _ _ _=>by walk_at "b2") fun _ _ _ _ _ _ hr hu=>
  aj (bK (LW.lt (qz (iJ (fi (ai (gW T) hr rfl (aa (ae 1) (aa (le_int) (ah)))))) (qz (iJ (fi (jU rfl T.cf rfl (ay (ae 1) (a6 rfl T.iC)) rfl T.Ku rfl))) (me (Df hu (ay (ae 1) (a6 rfl T.iC)) (ay (ae 0) (a6 rfl T.iC))))))) (av (aB (dM))) (aR)) (av (aB (f9 (ai (mH T) hr rfl (aa (ay (ae 1) (a6 rfl T.fv)) (ah))) (f9 (ai (mH T) hr rfl (aa (ay (ae 1) (a6 rfl T.dF)) (ah))) (fT (jU rfl T.cf rfl (ay (ae 1) (a6 rfl T.ke)) rfl T.vK rfl))))))
theorem fI:aC ["plan", "way", "waits", "row", "senders"] ["plan", "way", "waits", "row"] (aq gv):=by walk_at "sc"
theorem nI (T:Txt w.params K mg t):aL P w K mg base 7 "is_right_row" ["plan", "way", "waits", "row"] br:=aG T.ng T.mF fI jW kM (fun _ _ _ _ _ _ _ _=>by walk_at "b4") fun _ _ _ _ _ _ hr hu=>
  aj (az 4 fI.nd (ai (qC T) hr rfl (aa (ae 0) (aa (ay (ae 1) (a6 rfl T.iC)) (ah))))) (aj (bK (xR (ay (ae 3) (a6 rfl T.fv)) (ai (rk T) hr rfl (aa (ae 1) (aa (ae 4) (aa (ae 2) (ah)))))) (av (aB (dM))) (aR)) (aj (bK (iJ (fi (ai (zg T) hr rfl (aa (ae 1) (aa (ae 4) (aa (ae 2) (aa (ay (ae 3) (a6 rfl T.fv)) (aa (ay (ae 3) (a6 rfl T.dF)) (ah))))))))) (av (aB (dM))) (aR)) (av (aB (Kd (r9 (ay (ae 3) (a6 rfl T.ke))) (fT (ai (kU T) hr rfl (aa (ae 1) (aa (ae 4) (aa (ae 2) (ah)))))))))))
theorem fG:aC ["plan", "table", "waits"] ["plan", "table"] (aq b8):=by walk_at "sc"
theorem l9 (T:Txt w.params K mg t):aL P w K mg base 8 "shows_bounds" ["plan", "table"] bu:=aG T.mX T.ni fG jP kZ (fun _ _ _ _ _ _ _ _=>by walk_at "b2") fun _ _ _ _ _ _ hr hu=>
  aj (bK (iJ (fi (ai (gW T) hr rfl (aa (ae 1) (aa (aI bC cG rfl T.fY rfl (aa (ay (ae 0) (a6 rfl T.w4)) (ah))) (ah)))))) (av (aB (dM))) (aR)) (aj (bK (iJ (fi (aI (jZ rfl) qN rfl T.Cr rfl (aa (bf (fsc:=aq b8) ["plan", "table", "waits"] ["way", "row"] 2 [] rfl rfl (xQ rfl T.FO (aa (ay (ae 0) (a6 rfl T.w4)) (aa (ae 1) (ah)))) (fun cl C s₀ H₀ ex=>⟨gB rfl (a5 0 (show (["way", "row"]:List Str).Nodup from by decide +kernel) (a5 1 (show (["way", "row"]:List Str).Nodup from by decide +kernel) (eW))),cc,ai (sA T) hr rfl (aa (ae 0) (aa (ae 1) (ah)))⟩) rfl rfl (by decide +kernel)) (ah))))) (av (aB (dM))) (aR)) (aj (az 2 fG.nd (eU (u6 rfl) Bo rfl T.G2 rfl (aa (bf (fsc:=aq b8) ["plan", "table", "waits"] ["row"] 1 [] rfl rfl (cn (ae 1)) (fun cl C s₀ H₀ ex=>⟨bQ 0 (show (["row"]:List Str).Nodup from by decide +kernel),cc,cm (aa (ay (ae 0) (a6 rfl T.iC)) (aa (ay (ae 0) (a6 rfl T.dF)) (ah)))⟩) rfl rfl (by decide +kernel)) (ah)))) (av (aB (aI (jZ rfl) qN rfl T.Cr rfl (aa (bf (fsc:=aq b8) ["plan", "table", "waits"] ["way", "row", "plan", "waits"] 2 [0,2] rfl rfl (xQ rfl T.FO (aa (ay (ae 0) (a6 rfl T.w4)) (aa (ae 1) (ah)))) (fun cl C s₀ H₀ ex=>⟨gB rfl (a5 0 (show (["way", "row", "plan", "waits"]:List Str).Nodup from by decide +kernel) (a5 1 (show (["way", "row", "plan", "waits"]:List Str).Nodup from by decide +kernel) (eW))),cc,ai (nI T) hr rfl (aa (ae 2) (aa (ae 0) (aa (ae 3) (aa (ae 1) (ah)))))⟩) rfl rfl (by decide +kernel)) (ah)))))))
theorem dI:aC ["_law_script", "_law_seed", "_law_cell"] ["_law_script"] (aq iI):=by walk_at "sc"
theorem xa (T:Txt w.params K mg t):aL P w K mg base 1 "_law_pot" ["_law_script"] cB:=aG T.uQ T.vv dI sv uB (fun _ _ _ _ _ _ _ _=>by walk_at "b1") fun _ _ _ _ _ _ hr hu=>
  aj (az 1 dI.nd (le_int)) (aj (fN PassesOwn.never rfl (cn (xN (ae 0) (qu) (j7 (le_int)))) (fo 2 dI.nd) (av (az 1 dI.nd (ft (aD (aD (le_mul (ae 1) (le_int)) (ft (ae 2) (le_pow (le_int) (le_int)))) (le_int)) (le_int))))) (av (aB (sd (aa (AS (fsc:=aq iI) ["_law_script", "_law_seed", "_law_cell"] ["_law_cell"] 1 [] rfl rfl (cn (xN (ae 0) (qu) (j7 (le_int)))) (fun cl C s₀ H₀ ex=>⟨bQ 0 (show (["_law_cell"]:List Str).Nodup from by decide +kernel),iU (BP (aI iS lL rfl T.xB rfl (aa (ae 0) (ah))) (le_pow (le_int) (le_int))),aI iS lL rfl T.xB rfl (aa (ae 0) (ah))⟩) rfl rfl (by decide +kernel)) (aa (ae 1) (ah)))))))
theorem jH:aC ["_law_pot_here", "_law_many", "_law_digit"] ["_law_pot_here", "_law_many"] (aq kl):=by walk_at "sc"
theorem ax (T:Txt w.params K mg t):aL P w K mg base 1 "_law_take" ["_law_pot_here", "_law_many"] ar:=aG T.tE T.sN jH oT qH (fun _ _ _ _ _ _ _ _=>by walk_at "b2") fun _ _ _ _ _ _ hr hu=>
  aj (bK (sJ (aI bC cG rfl T.fY rfl (aa (ay (ae 0) (le_int)) (ah))) (le_int)) (aj (az 2 jH.nd (ft (ay (ay (ae 0) (le_int)) (le_int)) (ae 1))) (aj (sT (ay (ae 0) (le_int)) (le_int) (cK (ay (ay (ae 0) (le_int)) (le_int)) (ae 1))) (aj (bK (lt_eq hu (ay (ay (ae 0) (le_int)) (le_int)) (le_int)) (av (lG (Iq (ay (ae 0) (le_int)) (le_int)))) (aR)) (av (aB (ae 2)))))) (aR)) (aj (sT (ae 0) (le_int) (ft (aD (le_mul (ay (ae 0) (le_int)) (le_int)) (le_int)) (le_int))) (av (aB (ft (cK (ay (ae 0) (le_int)) (le_int)) (ae 1)))))
theorem vI:aC ["_law_pot_here", "_law_some"] ["_law_pot_here", "_law_some"] (aq pV):=by walk_at "sc"
theorem bb (T:Txt w.params K mg t):aL P w K mg base 2 "_law_of" ["_law_pot_here", "_law_some"] aH:=aG T.yO T.y9 vI tK wC (fun _ _ _ _ _ _ _ _=>by walk_at "b2") fun _ _ _ _ _ _ hr hu=>
  av (aB (Hn (ae 1) (ai (ax T) hr rfl (aa (ae 0) (aa (aI bC cG rfl T.fY rfl (aa (ae 1) (ah))) (ah))))))
theorem dr:aC ["_law_top", "_law_bottom", "_law_one", "_law_other"] ["_law_top", "_law_bottom"] (aq ij):=by walk_at "sc"
theorem bR (T:Txt w.params K mg t):aL P w K mg base 1 "_law_lowest" ["_law_top", "_law_bottom"] aP:=aG T.o7 T.oQ dr kP nz (fun _ _ _ _ _ _ _ _=>by walk_at "b2") fun _ _ _ _ _ _ hr hu=>
  aj (CA 2 3 rfl dr.nd (aa (ae 0) (aa (ae 1) (ah)))) (aj (tH PassesOwn.never (Df hu (ae 3) (le_int)) (av (CA 2 3 rfl dr.nd (aa (ae 3) (aa (ft (ae 2) (ae 3)) (ah)))))) (av (aB (cm (aa (cK (ae 0) (ae 2)) (aa (cK (ae 1) (ae 2)) (ah)))))))
theorem bT:aC ["_law_pot_here", "_law_many", "_law_letters", "_law_stem", "_law_at", "_law_first", "_law_step"] ["_law_pot_here", "_law_many"] (aq df):=by walk_at "sc"
theorem iP (T:Txt w.params K mg t):aL P w K mg base 3 "_law_names" ["_law_pot_here", "_law_many"] bz:=aG T.qE T.rL bT nk oN (fun _ _ _ _ _ _ _ _=>by walk_at "b2") fun _ _ _ _ _ _ hr hu=>
  aj (az 2 bT.nd (le_str)) (aj (az 3 bT.nd (Fl (le_str) (bf (fsc:=aq df) ["_law_pot_here", "_law_many", "_law_letters", "_law_stem", "_law_at", "_law_first", "_law_step"] ["_law_k", "_law_pot_here", "_law_letters"] 1 [0,2] rfl rfl (gA rfl T.fm (ai (ax T) hr rfl (aa (ae 0) (aa (le_int) (ah))))) (fun cl C s₀ H₀ ex=>⟨bQ 0 (show (["_law_k", "_law_pot_here", "_law_letters"]:List Str).Nodup from by decide +kernel),cc,ai (bb T) hr rfl (aa (ae 1) (aa (ae 2) (ah)))⟩) rfl rfl (by decide +kernel)))) (aj (az 4 bT.nd (ai (ax T) hr rfl (aa (ae 0) (aa (aD (aI bC cG rfl T.fY rfl (aa (ae 3) (ah))) (le_int)) (ah))))) (aj (az 5 bT.nd (ai (ax T) hr rfl (aa (ae 0) (aa (le_int) (ah))))) (aj (az 6 bT.nd (ai (bb T) hr rfl (aa (ae 0) (aa (cy (aa (le_int) (aa (le_int) (aa (le_int) (aa (le_int) (aa (le_int) (aa (le_int) (ah)))))))) (ah))))) (av (aB (bf (fsc:=aq df) ["_law_pot_here", "_law_many", "_law_letters", "_law_stem", "_law_at", "_law_first", "_law_step"] ["_law_k", "_law_stem", "_law_letters", "_law_at", "_law_first", "_law_step"] 1 [3,2,4,5,6] rfl rfl (gA rfl T.fm (ae 1)) (fun cl C s₀ H₀ ex=>⟨bQ 0 (show (["_law_k", "_law_stem", "_law_letters", "_law_at", "_law_first", "_law_step"]:List Str).Nodup from by decide +kernel),cc,aD (aD (Bx (ae 1) (qu) (j7 (ae 3))) (HC (ae 2) (ft (aD (ae 4) (le_mul (ae 5) (ae 0))) (le_int)))) (Bx (ae 1) (j7 (ae 3)) (qu))⟩) rfl rfl (by decide +kernel))))))))
theorem bw:aC ["_law_pot_here", "_law_most", "_law_word", "_law_whole", "_law_w", "_law_top", "_law_bottom", "_law_up", "_law_low"] ["_law_pot_here", "_law_most"] (aq ky):=by walk_at "sc"
theorem tj (T:Txt w.params K mg t):aL P w K mg base 3 "_law_rule" ["_law_pot_here", "_law_most"] bL:=aG T.uc T.uh bw o8 rR (fun _ _ _ _ _ _ _ _=>by walk_at "b2") fun _ _ _ _ _ _ hr hu=>
  aj (az 2 bw.nd (ai (bb T) hr rfl (aa (ae 0) (aa (cy (aa (le_str) (aa (le_str) (aa (le_str) (aa (le_str) (aa (le_str) (ah))))))) (ah))))) (aj (az 3 bw.nd (aD (le_int) (ai (ax T) hr rfl (aa (ae 0) (aa (ae 1) (ah)))))) (aj (az 4 bw.nd (ai (bR T) hr rfl (aa (aD (le_int) (ai (ax T) hr rfl (aa (ae 0) (aa (cQ (le_mul (le_int) (ae 3)) (le_int)) (ah))))) (aa (le_int) (ah))))) (aj (bK (lt_eq hu (ae 2) (le_str)) (av (aB (cm (aa (ae 2) (aa (ae 4) (ah)))))) (aR)) (aj (az 5 bw.nd (ai (bR T) hr rfl (aa (aD (le_mul (le_int) (ae 3)) (ai (ax T) hr rfl (aa (ae 0) (aa (le_int) (ah))))) (aa (le_int) (ah))))) (aj (az 6 bw.nd (aD (le_int) (ai (ax T) hr rfl (aa (ae 0) (aa (le_int) (ah)))))) (aj (bK (lt_eq hu (ae 2) (le_str)) (av (aB (cm (aa (ae 2) (aa (ae 4) (aa (ai (bR T) hr rfl (aa (aD (aD (ae 6) (le_int)) (ai (ax T) hr rfl (aa (ae 0) (aa (le_int) (ah))))) (aa (ae 6) (ah)))) (aa (cm (aa (le_int) (aa (aD (aD (le_int) (le_int)) (ai (ax T) hr rfl (aa (ae 0) (aa (le_int) (ah))))) (ah)))) (aa (ae 5) (ah))))))))) (aR)) (aj (az 7 bw.nd (ai (bR T) hr rfl (aa (aD (le_int) (ai (ax T) hr rfl (aa (ae 0) (aa (le_int) (ah))))) (aa (ae 6) (ah))))) (aj (bK (lt_eq hu (ae 2) (le_str)) (av (aB (cm (aa (ae 2) (aa (ae 4) (aa (ae 7) (aa (ai (bR T) hr rfl (aa (aD (le_int) (ai (ax T) hr rfl (aa (ae 0) (aa (le_int) (ah))))) (aa (le_int) (ah)))) (aa (ae 5) (ah))))))))) (aR)) (aj (bK (lt_eq hu (ae 2) (le_str)) (av (aB (cm (aa (ae 2) (aa (ae 4) (aa (ae 7) (aa (ai (bR T) hr rfl (aa (aD (le_int) (ai (ax T) hr rfl (aa (ae 0) (aa (le_int) (ah))))) (aa (le_int) (ah)))) (aa (ae 5) (ah))))))))) (aR)) (aj (az 8 bw.nd (ai (ax T) hr rfl (aa (ae 0) (aa (le_int) (ah))))) (av (aB (cm (aa (ae 2) (aa (ae 4) (aa (ae 7) (aa (ae 8) (aa (aD (ae 8) (ai (ax T) hr rfl (aa (ae 0) (aa (le_int) (ah))))) (aa (ae 5) (ah))))))))))))))))))))
theorem cW:aC ["_law_pot_here", "_law_name", "_law_pace", "_law_room", "_law_mark"] ["_law_pot_here", "_law_name"] (aq m9):=by walk_at "sc"
theorem wG (T:Txt w.params K mg t):aL P w K mg base 3 "_law_way" ["_law_pot_here", "_law_name"] cD:=aG T.w6 T.vX cW rM sH (fun _ _ _ _ _ _ _ _=>by walk_at "b2") fun _ _ _ _ _ _ hr hu=>
  aj (az 2 cW.nd (aD (le_int) (ai (ax T) hr rfl (aa (ae 0) (aa (ai (bb T) hr rfl (aa (ae 0) (aa (cy (aa (le_int) (aa (le_int) (aa (le_int) (ah))))) (ah)))) (ah)))))) (aj (az 3 cW.nd (aD (le_int) (ai (ax T) hr rfl (aa (ae 0) (aa (ai (bb T) hr rfl (aa (ae 0) (aa (cy (aa (le_int) (aa (le_int) (aa (le_int) (ah))))) (ah)))) (ah)))))) (aj (az 4 cW.nd (iM)) (aj (bK (sJ (ai (ax T) hr rfl (aa (ae 0) (aa (le_int) (ah)))) (le_int)) (av (az 4 cW.nd (ai (ax T) hr rfl (aa (ae 0) (aa (aD (ae 3) (le_int)) (ah)))))) (aR)) (av (aB (cm (aa (ae 1) (aa (ae 2) (aa (ae 3) (aa (ae 4) (aa (ai (bb T) hr rfl (aa (ae 0) (aa (cy (aa (le_str) (aa (le_str) (ah)))) (ah)))) (ah))))))))))))
theorem b7:aC ["_law_pot_here", "_law_name", "_law_ways", "_law_most", "_law_begins", "_law_mask", "_law_road", "_law_many"] ["_law_pot_here", "_law_name", "_law_ways", "_law_most", "_law_begins"] (aq d8):=by walk_at "sc"
theorem pG (T:Txt w.params K mg t):aL P w K mg base 4 "_law_sender" ["_law_pot_here", "_law_name", "_law_ways", "_law_most", "_law_begins"] bH:=aG T.nW T.oq b7 lE mT (fun _ _ _ _ _ _ _ _=>by walk_at "b5") fun _ _ _ _ _ _ hr hu=>
  aj (az 5 b7.nd (aD (le_int) (ai (ax T) hr rfl (aa (ae 0) (aa (cQ (GX (le_int) (aI bC cG rfl T.fY rfl (aa (ae 2) (ah)))) (le_int)) (ah)))))) (aj (az 6 b7.nd (eU cR gw rfl T.iX rfl (aa (bf (fsc:=aq d8) ["_law_pot_here", "_law_name", "_law_ways", "_law_most", "_law_begins", "_law_mask", "_law_road", "_law_many"] ["_law_k", "_law_way_here", "_law_mask"] 2 [5] rfl rfl (Fd rfl T.uv (aa (ae 2) (ah))) (fun cl C s₀ H₀ ex=>⟨gB rfl (a5 0 (show (["_law_k", "_law_way_here", "_law_mask"]:List Str).Nodup from by decide +kernel) (a5 1 (show (["_law_k", "_law_way_here", "_law_mask"]:List Str).Nodup from by decide +kernel) (eW))),iU (lt_eq hu (FA (Gv (ae 2) (ae 0)) (le_int)) (le_int)),ay (ae 1) (le_int)⟩) rfl rfl (by decide +kernel)) (ah)))) (aj (az 7 b7.nd (iM)) (aj (bK (lt_eq hu (ai (ax T) hr rfl (aa (ae 0) (aa (le_int) (ah)))) (le_int)) (av (az 7 b7.nd (ai (ax T) hr rfl (aa (ae 0) (aa (ai (bb T) hr rfl (aa (ae 0) (aa (cy (aa (le_int) (aa (le_int) (aa (le_int) (ah))))) (ah)))) (ah)))))) (aR)) (av (aB (cm (aa (ae 1) (aa (ae 6) (aa (aD (le_int) (ai (ax T) hr rfl (aa (ae 0) (aa (le_int) (ah))))) (aa (ai (ax T) hr rfl (aa (ae 0) (aa (ai (bb T) hr rfl (aa (ae 0) (aa (ae 4) (ah)))) (ah)))) (aa (ae 7) (aa (ai (tj T) hr rfl (aa (ae 0) (aa (ae 3) (ah)))) (ah)))))))))))))
theorem de:aC ["_law_pot_here", "_law_most", "_law_begins", "_law_grid", "_law_ways", "_law_names_here"] ["_law_pot_here", "_law_most", "_law_begins"] (aq dQ):=by walk_at "sc"
theorem uA (T:Txt w.params K mg t):aL P w K mg base 5 "_law_plan" ["_law_pot_here", "_law_most", "_law_begins"] cg:=aG T.ui T.uI de nZ rj (fun _ _ _ _ _ _ _ _=>by walk_at "b3") fun _ _ _ _ _ _ hr hu=>
  aj (az 3 de.nd (aD (le_int) (ai (ax T) hr rfl (aa (ae 0) (aa (ai (bb T) hr rfl (aa (ae 0) (aa (cy (aa (le_int) (aa (le_int) (aa (le_int) (aa (le_int) (ah)))))) (ah)))) (ah)))))) (aj (az 4 de.nd (eU cR gw rfl T.iX rfl (aa (bf (fsc:=aq dQ) ["_law_pot_here", "_law_most", "_law_begins", "_law_grid", "_law_ways", "_law_names_here"] ["_law_name", "_law_pot_here"] 1 [0] rfl rfl (cn (ai (iP T) hr rfl (aa (ae 0) (aa (aD (le_int) (ai (ax T) hr rfl (aa (ae 0) (aa (ai (bb T) hr rfl (aa (ae 0) (aa (cy (aa (le_int) (aa (le_int) (aa (le_int) (ah))))) (ah)))) (ah))))) (ah))))) (fun cl C s₀ H₀ ex=>⟨bQ 0 (show (["_law_name", "_law_pot_here"]:List Str).Nodup from by decide +kernel),cc,ai (wG T) hr rfl (aa (ae 1) (aa (ae 0) (ah)))⟩) rfl rfl (by decide +kernel)) (ah)))) (aj (az 5 de.nd (Cw rfl T.Cf rfl (aa (ai (iP T) hr rfl (aa (ae 0) (aa (ai (ax T) hr rfl (aa (ae 0) (aa (ai (bb T) hr rfl (aa (ae 0) (aa (cy (aa (le_int) (aa (le_int) (aa (le_int) (ah))))) (ah)))) (ah)))) (ah)))) (ah)))) (av (aB (cm (aa (ae 3) (aa (ae 4) (aa (eU cR gw rfl T.iX rfl (aa (bf (fsc:=aq dQ) ["_law_pot_here", "_law_most", "_law_begins", "_law_grid", "_law_ways", "_law_names_here"] ["_law_name", "_law_pot_here", "_law_ways", "_law_most", "_law_begins"] 1 [0,4,1,2] rfl rfl (cn (ae 5)) (fun cl C s₀ H₀ ex=>⟨bQ 0 (show (["_law_name", "_law_pot_here", "_law_ways", "_law_most", "_law_begins"]:List Str).Nodup from by decide +kernel),cc,ai (pG T) hr rfl (aa (ae 1) (aa (ae 0) (aa (ae 2) (aa (ae 3) (aa (ae 4) (ah))))))⟩) rfl rfl (by decide +kernel)) (ah))) (ah)))))))))
theorem aU:aC ["_law_plan_here", "_law_name", "_law_waits", "_law_found", "_law_own", "_law_road", "_law_beat", "_law_begin", "_law_many", "_law_rule_here", "_law_front"] ["_law_plan_here", "_law_name", "_law_waits"] (aq dG):=by walk_at "sc"
theorem nu (T:Txt w.params K mg t):aL P w K mg base 1 "_law_streams" ["_law_plan_here", "_law_name", "_law_waits"] bj:=aG T.lY T.nR aU jV lr (fun _ _ _ _ _ _ _ _=>by walk_at "b3") fun _ _ _ _ _ _ hr hu=>
  aj (az 3 aU.nd (sd (ah))) (aj (fN PassesOwn.never rfl (cn (ay (ae 0) (le_int))) (BL rfl (c5 4 aU.nd (c5 5 aU.nd (c5 6 aU.nd (c5 7 aU.nd (c5 8 aU.nd (c5 9 aU.nd (xX)))))))) (av (bK (C8 hu (ae 1) (ae 5)) (aj (az 10 aU.nd (xN (ae 5) (qu) (j7 (pQ hu (ae 5) (ae 1))))) (av (lG (le_app (ae 3) (cm (aa (cK (ay (ay (ae 9) (le_neg (le_int))) (le_int)) (ay (ay (ae 9) (le_neg (le_int))) (le_int))) (aa (ae 6) (aa (aI (gE rfl) iV rfl T.xW rfl (aa (bf (fsc:=aq dG) ["_law_plan_here", "_law_name", "_law_waits", "_law_found", "_law_own", "_law_road", "_law_beat", "_law_begin", "_law_many", "_law_rule_here", "_law_front"] ["_law_one", "_law_waits"] 1 [2] rfl rfl (cn (ae 10)) (fun cl C s₀ H₀ ex=>⟨bQ 0 (show (["_law_one", "_law_waits"]:List Str).Nodup from by decide +kernel),cc,xC hu (ae 1) (ae 0)⟩) rfl rfl (by decide +kernel)) (ah))) (ah))))))))) (aR)))) (av (aB (zZ (ae 3)))))
theorem nJ:aC ["_law_streams_here", "_law_many"] ["_law_streams_here", "_law_many"] (aq eC):=by walk_at "sc"
theorem d9 (T:Txt w.params K mg t):aL P w K mg base 1 "_law_coming" ["_law_streams_here", "_law_many"] aT:=aG T.oj T.oR nJ k9 ny (fun _ _ _ _ _ _ _ _=>by walk_at "b2") fun _ _ _ _ _ _ hr hu=>
  av (aB (aI (gE rfl) iV rfl T.xW rfl (aa (bf (fsc:=aq eC) ["_law_streams_here", "_law_many"] ["_law_limit", "_law_beat", "_law_behind", "_law_many"] 3 [1] rfl rfl (cn (ae 0)) (fun cl C s₀ H₀ ex=>⟨gB rfl (a5 0 (show (["_law_limit", "_law_beat", "_law_behind", "_law_many"]:List Str).Nodup from by decide +kernel) (a5 1 (show (["_law_limit", "_law_beat", "_law_behind", "_law_many"]:List Str).Nodup from by decide +kernel) (a5 2 (show (["_law_limit", "_law_beat", "_law_behind", "_law_many"]:List Str).Nodup from by decide +kernel) (eW)))),cc,le_mul (ae 0) (cK (cQ (aD (aD (ae 3) (ae 2)) (ae 1)) (le_int)) (ae 1))⟩) rfl rfl (by decide +kernel)) (ah))))
theorem gk:aC ["_law_streams_here", "_law_way_here", "_law_rounds"] ["_law_streams_here", "_law_way_here"] (aq cu):=by walk_at "sc"
theorem oH (T:Txt w.params K mg t):aL P w K mg base 2 "_law_height" ["_law_streams_here", "_law_way_here"] bG:=aG T.nX T.oS gk kR nr (fun _ _ _ _ _ _ _ _=>by walk_at "b2") fun _ _ _ _ _ _ hr hu=>
  aj (bK (sJ (aI (gE rfl) iV rfl T.xW rfl (aa (bf (fsc:=aq cu) ["_law_streams_here", "_law_way_here", "_law_rounds"] ["_law_limit", "_law_beat", "_law_behind"] 3 [] rfl rfl (cn (ae 0)) (fun cl C s₀ H₀ ex=>⟨gB rfl (a5 0 (show (["_law_limit", "_law_beat", "_law_behind"]:List Str).Nodup from by decide +kernel) (a5 1 (show (["_law_limit", "_law_beat", "_law_behind"]:List Str).Nodup from by decide +kernel) (a5 2 (show (["_law_limit", "_law_beat", "_law_behind"]:List Str).Nodup from by decide +kernel) (eW)))),cc,le_mul (ae 0) (cK (le_int) (ae 1))⟩) rfl rfl (by decide +kernel)) (ah))) (le_mul (le_int) (ay (ae 1) (le_int)))) (av (aB (iM))) (aR)) (aj (az 2 gk.nd (ay (Bm (fsc:=aq cu) ["_law_streams_here", "_law_way_here", "_law_rounds"] ["_law_many", "_law_streams_here"] 1 [0] rfl rfl (jO rfl T.fm (le_int) (le_int)) (fun cl C s₀ H₀ ex=>⟨bQ 0 (show (["_law_many", "_law_streams_here"]:List Str).Nodup from by decide +kernel),iU (fi (aI (jZ rfl) qN rfl T.Cr rfl (aa (bf (fsc:={ kind:=.function,names:=[(".0", .local),("_law_many", .cell),("all", .globalImplicit),("_law_streams_here", .cell)],isGenerator:=false,isCoroutine:=false }) ["_law_many", "_law_streams_here"] ["_law_limit", "_law_beat", "_law_behind", "_law_many"] 3 [0] rfl rfl (cn (ae 1)) (fun cl C s₀ H₀ ex=>⟨gB rfl (a5 0 (show (["_law_limit", "_law_beat", "_law_behind", "_law_many"]:List Str).Nodup from by decide +kernel) (a5 1 (show (["_law_limit", "_law_beat", "_law_behind", "_law_many"]:List Str).Nodup from by decide +kernel) (a5 2 (show (["_law_limit", "_law_beat", "_law_behind", "_law_many"]:List Str).Nodup from by decide +kernel) (eW)))),cc,le_eq hu (ft (ae 3) (ae 1)) (le_int)⟩) rfl rfl (by decide +kernel)) (ah)))),ae 0⟩) rfl rfl (by decide +kernel)) (le_int))) (av (aB (aI (pP rfl) tm rfl T.sQ rfl (aa (aD (cy (aa (le_int) (ah))) (bf (fsc:=aq cu) ["_law_streams_here", "_law_way_here", "_law_rounds"] ["_law_many", "_law_streams_here", "_law_way_here"] 1 [0,1] rfl rfl (jO rfl T.fm (le_int) (aD (ae 2) (le_int))) (fun cl C s₀ H₀ ex=>⟨bQ 0 (show (["_law_many", "_law_streams_here", "_law_way_here"]:List Str).Nodup from by decide +kernel),cc,cQ (ai (d9 T) hr rfl (aa (ae 1) (aa (ae 0) (ah)))) (le_mul (ay (ae 2) (le_int)) (cQ (ae 0) (le_int)))⟩) rfl rfl (by decide +kernel))) (ah))))))
theorem dA:aC ["_law_streams_here", "_law_way_here", "_law_most", "_law_places_here"] ["_law_streams_here", "_law_way_here", "_law_most"] (aq gR):=by walk_at "sc"
theorem gN (T:Txt w.params K mg t):aL P w K mg base 1 "_law_places" ["_law_streams_here", "_law_way_here", "_law_most"] aY:=aG T.oI T.oz dA kY mr (fun _ _ _ _ _ _ _ _=>by walk_at "b3") fun _ _ _ _ _ _ hr hu=>
  aj (az 3 dA.nd (aI (gF rfl) i9 rfl T.xm rfl (aa (ay (ae 1) (le_int)) (aa (ae 2) (ah))))) (aj (bK (lt_eq hu (ay (ae 1) (le_int)) (le_str)) (av (az 3 dA.nd (le_mul (ae 3) (aI bC cG rfl T.fY rfl (aa (ae 0) (ah)))))) (aR)) (av (aB (aI (jT rfl) nD rfl T.sQ rfl (aa (le_int) (aa (cQ (cK (cQ (aD (ae 3) (ay (ae 1) (le_int))) (le_int)) (ay (ae 1) (le_int))) (le_int)) (ah)))))))
theorem fF:aC ["_law_way_here", "_law_streams_here", "_law_height_here", "_law_row", "_law_none", "_law_most", "_law_wait"] ["_law_way_here", "_law_streams_here", "_law_height_here", "_law_row"] (aq fR):=by walk_at "sc"
theorem nv (T:Txt w.params K mg t):aL P w K mg base 2 "_law_verdict" ["_law_way_here", "_law_streams_here", "_law_height_here", "_law_row"] a9:=aG T.mf T.l8 fF j6 lD (fun _ _ _ _ _ _ _ _=>by walk_at "b4") fun _ _ _ _ _ _ hr hu=>
  aj (EE 4 5 6 rfl fF.nd (aa (ay (ae 3) (le_int)) (aa (ay (ae 3) (le_int)) (aa (ay (ae 3) (le_int)) (ah))))) (aj (bK (LW.lt (Bw (xR (ae 5) (ay (ae 0) (le_int))) (yh (LW.lt (qz (F3 (ae 2) (iM)) (me (xR (ae 5) (ae 2)))))))) (av (aB (dM))) (aR)) (aj (bK (LW.lt (Bw (fi (ae 4)) (yh (LW.lt (qz (F3 (ae 2) (iM)) (me (sJ (ae 2) (ay (ae 0) (le_int))))))))) (av (aB (dM))) (aR)) (aj (bK (LW.lt (qz (lt_eq hu (aI bC cG rfl T.fY rfl (aa (ae 1) (ah))) (le_int)) (me (BP (ae 6) (ai (gN T) hr rfl (aa (ae 1) (aa (ae 0) (aa (ae 5) (ah))))))))) (av (aB (dM))) (aR)) (av (aB (yg (ai (d9 T) hr rfl (aa (ae 1) (aa (aD (ae 6) (le_int)) (ah)))) (le_mul (ay (ae 0) (le_int)) (aD (ae 6) (le_int)))))))))
theorem aJ:aC ["_law_pot_here", "_law_plan_here", "_law_waits", "_law_table", "_law_right", "_law_way_here", "_law_streams_here", "_law_height_here", "_law_least", "_law_most", "_law_places_here", "_law_short", "_law_wait", "_law_sure", "_law_row"] ["_law_pot_here", "_law_plan_here"] (aq fA):=by walk_at "sc"
theorem sm (T:Txt w.params K mg t):aL P w K mg base 3 "_law_drawn" ["_law_pot_here", "_law_plan_here"] bS:=aG T.qU T.qM aJ l5 ou (fun _ _ _ _ _ _ _ _=>by walk_at "b2") fun _ _ _ _ _ _ hr hu=>
  aj (az 2 aJ.nd (Je)) (aj (az 3 aJ.nd (sd (ah))) (aj (az 4 aJ.nd (dM)) (aj (fN PassesOwn.never rfl (cn (ay (ae 1) (le_int))) (fo 5 aJ.nd) (aj (az 6 aJ.nd (ai (nu T) hr rfl (aa (ae 1) (aa (ay (ae 5) (le_int)) (aa (ae 2) (ah)))))) (aj (az 7 aJ.nd (ai (oH T) hr rfl (aa (ae 6) (aa (ae 5) (ah))))) (aj (az 8 aJ.nd (ay (ae 5) (le_int))) (aj (bK (Ai (ae 7) (iM)) (av (az 8 aJ.nd (aI (gF rfl) i9 rfl T.xm rfl (aa (ay (ae 5) (le_int)) (aa (ae 7) (ah)))))) (aR)) (aj (az 9 aJ.nd (aI (jT rfl) nD rfl T.sQ rfl (aa (le_int) (aa (aD (ae 8) (ai (bb T) hr rfl (aa (ae 0) (aa (cy (aa (le_int) (aa (le_int) (aa (le_int) (aa (le_int) (aa (le_neg (le_int)) (aa (cQ (ai (ax T) hr rfl (aa (ae 0) (aa (le_int) (ah)))) (le_int)) (ah)))))))) (ah))))) (ah))))) (aj (az 10 aJ.nd (ai (gN T) hr rfl (aa (ae 6) (aa (ae 5) (aa (ae 9) (ah)))))) (aj (AF (fsc:=aq fA) 11 aJ.nd ["_law_pot_here", "_law_plan_here", "_law_waits", "_law_table", "_law_right", "_law_way_here", "_law_streams_here", "_law_height_here", "_law_least", "_law_most", "_law_places_here", "_law_short", "_law_wait", "_law_sure", "_law_row"] ["_law_k", "_law_streams_here", "_law_way_here"] 1 [6,5] rfl rfl (gA rfl T.fm (ae 10)) (fun cl C s₀ H₀ ex=>⟨bQ 0 (show (["_law_k", "_law_streams_here", "_law_way_here"]:List Str).Nodup from by decide +kernel),iU (JR (ai (d9 T) hr rfl (aa (ae 1) (aa (aD (ae 0) (le_int)) (ah)))) (le_mul (ay (ae 2) (le_int)) (aD (ae 0) (le_int)))),ae 0⟩) rfl rfl (by decide +kernel)) (aj (az 12 aJ.nd (aI (jT rfl) nD rfl T.sQ rfl (aa (le_int) (aa (aD (ay (aD (ae 11) (cy (aa (ae 10) (ah)))) (le_int)) (ai (bb T) hr rfl (aa (ae 0) (aa (cy (aa (le_int) (aa (le_int) (aa (le_int) (aa (le_int) (aa (le_neg (le_int)) (aa (cQ (ai (ax T) hr rfl (aa (ae 0) (aa (le_int) (ah)))) (le_int)) (ah)))))))) (ah))))) (ah))))) (aj (az 13 aJ.nd (f9 (Ae (ae 7) (iM)) (fT (yg (ae 7) (ay (ae 5) (le_int)))))) (aj (az 14 aJ.nd (cm (aa (ay (ae 5) (le_int)) (aa (ae 9) (aa (ae 12) (aa (ay (cy (aa (ae 13) (aa (ae 13) (aa (dM) (aa (r9 (ae 13)) (ah)))))) (ai (ax T) hr rfl (aa (ae 0) (aa (le_int) (ah))))) (ah))))))) (aj (az 4 aJ.nd (f9 (ae 4) (fT (ai (nv T) hr rfl (aa (ae 5) (aa (ae 6) (aa (ae 7) (aa (ae 14) (ah))))))))) (aj (EK hu (ae 2) (ay (ae 5) (le_int)) (ae 12)) (av (lG (le_app (ae 3) (ae 14))))))))))))))))) (av (aB (cm (aa (eU cR gw rfl T.iX rfl (aa (ae 3) (ah))) (aa (ae 4) (ah)))))))))
theorem iA:aC ["_law_script", "_law_pot_here", "_law_plan_here", "_law_turn", "_law_table", "_law_right", "_law_found"] ["_law_script"] (aq Gb):=by walk_at "sc"
theorem xg (T:Txt w.params K mg t):fM P w K mg base CX0 9 t.An t.FG ["_law_script"] (lift K cJ):=by
  refine F5 (T:=z4) T.xg iA qT (fun cdv A outer s H E hr=>?_) GY
  have hu:=hr.units
  exact aj (az 1 iA.nd (ai (xa T) hr rfl (aa (ae 0) (ah)))) (aj (az 2 iA.nd (ai (uA T) hr rfl (aa (ae 1) (aa (le_int) (aa (cy (aa (le_int) (aa (le_int) (aa (le_int) (ah))))) (ah)))))) (aj (fN PassesOwn.never rfl (gA rfl T.fm (le_int)) (fo 3 iA.nd) (aj (Ie (ai (sm T) hr rfl (aa (ae 1) (aa (ae 2) (ah)))) (BL rfl (c5 4 iA.nd (c5 5 iA.nd (xX))))) (aj (az 6 iA.nd (ai (l9 T) hr rfl (aa (ae 2) (aa (ae 4) (ah))))) (av (bK (LW.lt (qz (iJ (fi (jU rfl T.cf rfl (ae 6) rfl T.vK rfl))) (me (Df hu (ae 6) (ae 5))))) (av (aB (dM))) (aR)))))) (av (aB (dM)))))
end
theorem all_mk {l:PySem.W.OpenLaw}{w:World}{K:PySem.W.Frag}{mg:Str→Option Value}{fa:Addr}{t:Adr}(hfa:mg "law" = some (.ref fa))(T:Txt w.params K mg t):∃ fd:FuncData,(∀ (s:Shared) (v:Value),BindsTo s fd ⟨[v],[]⟩ [("_law_script", v)])∧∀ base:Heap,K.In base→base.Ns mainGlobals mg→fM l.prog w K mg base CX0 9 fa fd ["_law_script"] (lift K cJ):=by
  have e:=hfa.symm.trans T.KQ
  injection e with e
  injection e with e
  subst e
  obtain ⟨oc,od,kV,dc,pm,an,cd,ct,sl,ed,_,_⟩:=T.xg.ex
  exact ⟨_,fun s v=>.of_eq (by rw[ed];rfl),fun base _ _=>xg T⟩
end Kk
namespace PySem.W.Fast
def tw8616945007457045303:=0
def tw5901055608681282560:=0
def tw18247535751965797728:=0
def tw6617439304269469248:=0
def tw4905593283576855136:=0
def tw3060665109599881920:=0
def tw17157073923974582337:=0
def tw319640337613335649:=0
def tw8727476088380707169:=0
def tw9570417804702212481:=0
def tw12553977157162576898:=0
def tw2214708745209478146:=0
def tw5068797358776060226:=0
def tw5322216891100423810:=0
def tw11819156376885181378:=0
def tw7712367097122598915:=0
def tw3326060073231617219:=0
def tw5533825257238307267:=0
def tw16858199886017478243:=0
def tw18410986822588542755:=0
def tw5278883245073850147:=0
def tw8845863642240543651:=0
def tw15624626137510970564:=0
def tw14482216724532488868:=0
def tw10540564774269336292:=0
def tw9088422893595905381:=0
def tw15214293302466752069:=0
def tw14740765619459498150:=0
def tw1137001972474003654:=0
def tw5683924673433923878:=0
def tw4822218315374222758:=0
def tw1558365586039676039:=0
def tw17341944054697264327:=0
def tw15236850273630796263:=0
def tw2310575065937772936:=0
def tw13501048941089313416:=0
def tw236141728663710472:=0
def tw4735488914021289321:=0
def tw16639863941511705802:=0
def tw3711274265229189386:=0
def tw14283980738746726730:=0
def tw2745155716724719050:=0
def tw17442978344126394122:=0
def tw11182995252942270507:=0
def tw3821412885925551275:=0
def tw12166859819502644683:=0
def tw15052799422061841003:=0
def tw16370442960340133228:=0
def tw17112060352431930188:=0
def tw11831496638386429997:=0
def tw2935511274521507533:=0
def tw6240685559133752205:=0
def tw5230707988188658702:=0
def tw9961146197091296334:=0
def tw11327279107018002543:=0
def tw14993040300602996335:=0
def tw9246116143303863983:=0
def tw13406900964183804623:=0
def tw3559162821079623792:=0
def tw5947350356434577648:=0
def tw10819423811676153168:=0
def tw7025172557938686928:=0
def tw16595403401239710353:=0
def tw11859553621779776305:=0
def tw14198605602182753169:=0
def tw1652307361065328114:=0
def tw106571510897737811:=0
def tw8665967597053388947:=0
def tw4213368117864450547:=0
def tw5798763889252145779:=0
def tw11443539975740327220:=0
def tw17700231476430283797:=0
def tw12145198703018316085:=0
def tw12698262907900239253:=0
def tw14904614107389308533:=0
def tw16389235544665992917:=0
def tw17028185268627371829:=0
def tw4608900125751996341:=0
def tw14654200908015944598:=0
def tw18153519378136177590:=0
def tw6806547677571280886:=0
def tw18306587133361566967:=0
def tw7219223618639686007:=0
def tw14790742611389372887:=0
def tw13562823403899242712:=0
def tw12989867276946086104:=0
def tw14415426060912555352:=0
def tw4621912064828184248:=0
def tw15043177164610826168:=0
def tw14248218548862957658:=0
def tw6719571183026578778:=0
def tw7223159361509057627:=0
def tw15024485095568758683:=0
def tw14170071193371578588:=0
def tw16131930616493752572:=0
def tw12129191890810089308:=0
def tw14517511960257159357:=0
def tw10148463024387963453:=0
def tw15987626330565779038:=0
def tw1591284391921308254:=0
def tw18120845342926854782:=0
def tw7497110463094645470:=0
def tw12465196417306291966:=0
def tw1026283540233394014:=0
def tw456960812405546846:=0
def tw365311062949602238:=0
def tw15260380278989767743:=0
def tw5875194212766380159:=0
def tw8496180338648305983:=0
def tw198735257701734783:=0
def tw418337501539169695:=0
end PySem.W.Fast
open PySem PySem.W PyProof.Rows L2 L3
set_option maxRecDepth 100000 in
set_option maxHeartbeats 0 in
theorem PySem.Challenge.cw_swellways_k53_tables_judged_holds : PySem.Challenge.rw_swellways_k53_tables_judged.Holds := by
  w_on;o_law;k_head;(case hw=>w_witness2)
  k_fill
  refine L3.KR (l:=PySem.Challenge.rw_swellways_k53_tables_judged) (k:=9) (sp:=Kk.cJ) (x := "_law_script") rfl rfl ⟨rfl,by decide,by decide⟩ (fun w h Y=>PySem.W.kIn_of Y) Kk.j3 ?F
  case F=>
    intro w mg fa h KX G hmg
    refine' Kk.all_mk (t:=⟨_,_,_,_,_,_,_,_,_,_,_,_,_,_,_,_,_,_,_,_,_,_,_,_,_,_,_,_,_,_,_,_,_,_,_,_,_,_,_,_,_,_,_,_,_,_,_,_,_,_,_,_,_,_,_,_,_,_,_,_,_,_,_,_,_,_,_,_,_,_,_,_,_,_,_,_,_,_,_,_,_,_⟩) hmg ⟨mg_of KX G ?_,aM ?_ ?_ ?_,mg_of KX G ?_,aM ?_ ?_ ?_,mg_of KX G ?_,aM ?_ ?_ ?_,mg_of KX G ?_,aM ?_ ?_ ?_,mg_of KX G ?_,aM ?_ ?_ ?_,mg_of KX G ?_,aM ?_ ?_ ?_,mg_of KX G ?_,aM ?_ ?_ ?_,mg_of KX G ?_,aM ?_ ?_ ?_,mg_of KX G ?_,aM ?_ ?_ ?_,mg_of KX G ?_,aM ?_ ?_ ?_,mg_of KX G ?_,aM ?_ ?_ ?_,mg_of KX G ?_,aM ?_ ?_ ?_,mg_of KX G ?_,aM ?_ ?_ ?_,mg_of KX G ?_,aM ?_ ?_ ?_,mg_of KX G ?_,aM ?_ ?_ ?_,mg_of KX G ?_,aM ?_ ?_ ?_,mg_of KX G ?_,aM ?_ ?_ ?_,mg_of KX G ?_,aM ?_ ?_ ?_,mg_of KX G ?_,aM ?_ ?_ ?_,mg_of KX G ?_,aM ?_ ?_ ?_,mg_of KX G ?_,aM ?_ ?_ ?_,mg_of KX G ?_,aM ?_ ?_ ?_,mg_of KX G ?_,aM ?_ ?_ ?_,mg_of KX G ?_,aM ?_ ?_ ?_,mg_of KX G ?_,aM ?_ ?_ ?_,mg_of KX G ?_,aM ?_ ?_ ?_,mg_of KX G ?_,aM ?_ ?_ ?_,mg_of KX G ?_,aM ?_ ?_ ?_,mg_of KX G ?_,aM ?_ ?_ ?_,mg_of KX G ?_,aM ?_ ?_ ?_,mg_of KX G ?_,aM ?_ ?_ ?_,mg_of KX G ?_,aM ?_ ?_ ?_,mg_of KX G ?_,aM ?_ ?_ ?_,mg_of KX G ?_,aM ?_ ?_ ?_,mg_of KX G ?_,aM ?_ ?_ ?_,mg_of KX G ?_,aM ?_ ?_ ?_,mg_of KX G ?_,aM ?_ ?_ ?_,mg_of KX G ?_,aM ?_ ?_ ?_,mg_of KX G ?_,aM ?_ ?_ ?_,mg_of KX G ?_,aM ?_ ?_ ?_,mg_of KX G ?_,aM ?_ ?_ ?_,mg_none_of KX G ?_,mg_none_of KX G ?_,mg_none_of KX G ?_,mg_none_of KX G ?_,mg_none_of KX G ?_,mg_none_of KX G ?_,mg_none_of KX G ?_,mg_none_of KX G ?_,mg_none_of KX G ?_,mg_none_of KX G ?_,mg_none_of KX G ?_,mg_none_of KX G ?_,mg_none_of KX G ?_,mg_none_of KX G ?_,mg_none_of KX G ?_,mg_none_of KX G ?_,c9 KX G ?_,c9 KX G ?_,c9 KX G ?_,c9 KX G ?_,c9 KX G ?_,Iz (its:=#[.int 0 _,.int 1 _]) (xs:=[V.int 0,V.int 1]) KX G ?_ ?_ ?_ ?_ ?_ (show 2≤sizeLine by decide) (.cons ⟨_,rfl⟩ (.cons ⟨_,rfl⟩ (.nil))) (fun _=>.cons (.int _) (.cons (.int _) (.nil))),c9 KX G ?_,c9 KX G ?_,c9 KX G ?_,c9 KX G ?_,c9 KX G ?_,c9 KX G ?_,c9 KX G ?_⟩
    all_goals try first | k_is | rfl
