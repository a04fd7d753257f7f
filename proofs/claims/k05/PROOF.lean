import PyProof.Rows.All
import Wide.All
import OpenK.AllK
import Wide.FinOn
import Lean
import PyProof.EqAt
import PyProof.EqKinds
import PyProof.TupleCall
import PyProof.P3Eq
import PyProof.NeKinds
import PyProof.NeData
import PyProof.ZipIter
import PyProof.EnumMake
import PyProof.EnumFor
import OpenK.KTop
import PyProof.IsRules
import PyProof.AttrMissHeap
import PyProof.DictUpdate
import KE.KDictOf
import PyProof.Rows.SortStr
import PyProof.FString5
import PyProof.StrOps
import PyProof.ListRange
import PyProof.TupleOfGen
import PyProof.Rows.SumAny
import PyProof.Rows.CallKwBuiltin
import PyProof.StrLoop
import PyProof.StrWalks
import PyProof.StrOps2
import PyProof.SliceStr2
import PyProof.StrBlockI
import PyProof.StrLaws
import PyProof.StrBlock
import PyProof.StrBlockL
import PyProof.StrCalls2
import KE.KStrOpen
import PySem.Challenge.RW_swellways_k05_fractions_and_names
set_option Elab.async false
set_option linter.all false
set_option maxRecDepth 100000
set_option maxHeartbeats 4000000
namespace L2
open PySem PySem.Spec PyProof.Rows
abbrev Key:=Sum Int Str
def iD:Key→Value→Bool
  | .inl k,v=>Value.isInt k v
  | .inr x,v=>Value.isStrOf x v
def zM (w:World):Key→Int
  | .inl k=>hashInt k
  | .inr x=>hashStr w x
theorem aJ:∀ {k:Key} {v:Value},iD k v=true→(∃ i t,k=Sum.inl i∧v=Value.int i t)∨(∃ x t,k=Sum.inr x∧v=Value.str x t)
  | .inl i,v,h=>by
    obtain ⟨t,e⟩:=Value.isInt_shape (k:=i) (v:=v) h
    exact .inl ⟨i,t,rfl,e⟩
  | .inr x,v,h=>by
    obtain ⟨t,e⟩:=Value.isStrOf_shape (x:=x) (v:=v) h
    exact .inr ⟨x,t,rfl,e⟩
theorem nk (i:Int)(t:Tok):iD (.inl i) (.int i t)=true:=by simp[iD,Value.isInt]
theorem oq (x:Str)(t:Tok):iD (.inr x) (.str x t)=true:=by simp[iD,Value.isStrOf]
theorem uX (a b:Int):decide ((Sum.inl a:Key)=Sum.inl b)=(a == b):=by
  by_cases e:a=b
  · subst e;simp
  · have h:¬ (Sum.inl a:Key)=Sum.inl b:=fun q=>e (Sum.inl.inj q)
    rw[decide_eq_false h]
    exact (beq_eq_false_iff_ne.mpr e).symm
theorem vf (a b:Str):decide ((Sum.inr a:Key)=Sum.inr b)=decide (a=b):=by
  by_cases e:a=b
  · subst e;simp
  · have h:¬ (Sum.inr a:Key)=Sum.inr b:=fun q=>e (Sum.inr.inj q)
    rw[decide_eq_false h,decide_eq_false e]
theorem vo (a:Int)(b:Str):decide ((Sum.inl a:Key)=Sum.inr b)=false:=decide_eq_false (fun q=>nomatch q)
theorem vB (a:Str)(b:Int):decide ((Sum.inr a:Key)=Sum.inl b)=false:=decide_eq_false (fun q=>nomatch q)
def bf (prog:Program)(w:World):PySem.KeyKind prog w Key where
  is:=iD
  hash:=zM w
  inj:=fun v a b ha hb=>by
    rcases aJ ha with ⟨i,t,rfl,rfl⟩ | ⟨x,t,rfl,rfl⟩
    · rcases aJ hb with ⟨j,u,rfl,e⟩ | ⟨y,u,rfl,e⟩
      · injection e with e1 _;rw[e1]
      · exact nomatch e
    · rcases aJ hb with ⟨j,u,rfl,e⟩ | ⟨y,u,rfl,e⟩
      · exact nomatch e
      · injection e with e1 _;rw[e1]
  byValue:=fun k v h=>by
    rcases aJ h with ⟨i,t,rfl,rfl⟩ | ⟨x,t,rfl,rfl⟩ <;> rfl
  pyHash:=fun hv h=>by
    rcases aJ hv with ⟨i,t,rfl,rfl⟩ | ⟨x,t,rfl,rfl⟩
    · exact wpAny_pyHash_int h
    · exact wpAny_pyHash_str h
  eqBool:=fun hu hv h=>by
    rcases aJ hu with ⟨i,t,rfl,rfl⟩ | ⟨x,t,rfl,rfl⟩
    · rcases aJ hv with ⟨j,u,rfl,rfl⟩ | ⟨y,u,rfl,rfl⟩
      · rw[uX] at h;exact wpAny_eqBool_int h
      · rw[vo] at h;exact SeqAt.EqAt.int_str i t y u _ _ _ _ h
    · rcases aJ hv with ⟨j,u,rfl,rfl⟩ | ⟨y,u,rfl,rfl⟩
      · rw[vB] at h;exact SeqAt.EqAt.str_int x t j u _ _ _ _ h
      · rw[vf] at h;exact wpAny_eqBool_str h
  «strs»:=fun k x t v h=>by
    rcases aJ h with ⟨i,u,rfl,e⟩ | ⟨y,u,rfl,e⟩
    · exact nomatch e
    · injection e with e1 _
      subst e1
      cases v<;>rfl
theorem jP (prog:Program)(w:World)(i:Int)(t:Tok):(bf prog w).is (.inl i) (.int i t)=true:=nk i t
theorem jO (prog:Program)(w:World)(x:Str)(t:Tok):(bf prog w).is (.inr x) (.str x t)=true:=oq x t
end L2
namespace L2
open PySem PySem.Spec PyProof.Rows
inductive V where
  | non | bl (b:Bool) | int (i:Int) | str (x:Str) | byt (b:Array UInt8) | flt (b:UInt64) | ref (a:Addr) | ty (n:String)
  deriving DecidableEq
def RelV:V→Value→Prop
  | .non,u=>u=Value.none
  | .bl b,u=>u=Value.bool b
  | .int i,u=>∃ t,u=Value.int i t
  | .str x,u=>∃ t,u=Value.str x t
  | .byt b,u=>∃ t,u=Value.bytes b t
  | .flt b,u=>∃ t,u=Value.float b t
  | .ref a,u=>u=Value.ref a
  | .ty n,u=>u=Value.type n
abbrev Vals:List V→List Value→Prop:=Paired RelV
theorem Vals.length {xs:List V}{us:List Value}(r:Vals xs us):xs.length=us.length:=Paired.length r
theorem Vals.get:∀ {xs:List V} {us:List Value} {i:Nat} {x:V},Vals xs us→xs[i]? = some x→∃ u,us[i]? = some u∧RelV x u
  | _,_,_,_,.nil,e=>by simp at e
  | _,_,0,_,.cons r _,e=>by simp at e;subst e;exact ⟨_,rfl,r⟩
  | _,_,i+1,x,.cons _ t,e=>by
    obtain ⟨u,h1,h2⟩:=Vals.get (i:=i) (x:=x) t (by simpa using e)
    exact ⟨u,by simpa using h1,h2⟩
theorem Vals.set {x:V}{u:Value}(r:RelV x u):∀ {xs:List V} {us:List Value} (i:Nat),Vals xs us→Vals (xs.set i x) (us.set i u)
  | _,_,_,.nil=>.nil
  | _,_,0,.cons _ t=>.cons r t
  | _,_,i+1,.cons q t=>.cons q (Vals.set r i t)
theorem Vals.append:∀ {xs ys:List V} {us ws:List Value},Vals xs us→Vals ys ws→Vals (xs++ys) (us++ws)
  | _,_,_,_,.nil,s=>s
  | _,_,_,_,.cons r t,s=>.cons r (Vals.append t s)
theorem Vals.take:∀ {xs:List V} {us:List Value} (n:Nat),Vals xs us→Vals (xs.take n) (us.take n)
  | _,_,0,_=>.nil
  | _,_,_+1,.nil=>.nil
  | _,_,n+1,.cons r t=>.cons r (Vals.take n t)
theorem Vals.drop:∀ {xs:List V} {us:List Value} (n:Nat),Vals xs us→Vals (xs.drop n) (us.drop n)
  | _,_,0,r=>r
  | _,_,_+1,.nil=>.nil
  | _,_,n+1,.cons _ t=>Vals.drop n t
def kb:Option V→Option Value→Prop
  | some v,some u=>RelV v u
  | none,none=>True
  | _,_=>False
def KV {κ:Type}:List (κ×V)→List (κ×Value)→Prop:=Paired fun (p:κ×V) (q:κ×Value)=>p.1=q.1∧RelV p.2 q.2
def kV:Key→V
  | .inl i=>.int i
  | .inr x=>.str x
inductive HO where
    | lst (xs:List V)
    | tup (xs:List V)
    | dK (kvs:List (Key×V)) | dT (kvs:List (List Key×V))
    | set (S:Int→Bool) (n:Nat)
    | ins (C dx:Addr) (fs:List (Str×V))
    | own (x:Addr)
    | xd (fs:List (Str×V))
    | met (f x:Addr)
    | rng (lo hi:Int)
    | frz (o:Obj) (u:HO)
    | tbl (ps:Array Value)
    | ext (φ:Heap→Prop)
abbrev Hp:=Addr→Option HO
def upd (H:Hp)(a:Addr)(o:HO):Hp:=fun b=>if b=a then some o else H b
theorem az {H:Hp}{a:Addr}{o:HO}:upd H a o a=some o:=by unfold upd;rw[if_pos rfl]
theorem au {H:Hp}{a b:Addr}{o:HO}(h:b≠a):upd H a o b=H b:=by unfold upd;rw[if_neg h]
theorem m7 {H:Hp}{a:Addr}{o u:HO}:upd (upd H a o) a u=upd H a u:=by
  funext b;unfold upd;split<;>rfl
theorem bh {H:Hp}{a b:Addr}{o:HO}(h:H a=some o)(h':H b=none):a≠b:=by
  intro e;subst e;rw[h] at h';cases h'
def lK (h:Heap)(a:Addr)(items:Array Value):Prop:=∃ n,h.get? a=some { cls:=.type "tuple", data:=.seq items n }
theorem lK.tup {h:Heap}{a:Addr}{items:Array Value}(p:lK h a items):IsTup h a items:=by obtain ⟨n,e⟩:=p;exact ⟨_,e,rfl,n,rfl⟩
theorem lK.new (h:Heap)(items:Array Value):lK (h.push { cls:=.type "tuple", data:=.seq items }) h.objs.size items:=⟨_,Heap.get?_push_size _ rfl⟩
section
variable (P:Program) (w:World)
def bg (H:Hp)(h:Heap)(a:Addr):HO→Prop
  | .lst xs=>xs.length≤sizeLine∧∃ (its:List Value) (n:Nat),Vals xs its∧h.get? a=some { cls:=.type "list", data:=.seq its.toArray n }
  | .tup xs=>xs.length≤sizeLine∧∃ its:List Value,Vals xs its∧lK h a its.toArray
  | .dK kvs=>kvs.length≤sizeLine∧(a == sysModules)=false∧∃ vs,KV kvs vs∧h.DictOf (bf P w) a vs
  | .dT kvs=>kvs.length≤sizeLine∧(a == sysModules)=false∧∃ xs:List (List Key×Addr×Value),
      Paired (fun (p:List Key×V) (q:List Key×Addr×Value)=>p.1=q.1∧H q.2.1=some (.tup (p.1.map kV))∧RelV p.2 q.2.2) kvs xs∧
      ∃ o es ep,h.get? a=some o∧o.ExactDict∧o.data=.dict es ep∧es.toList=xs.map (entryOfKey (tupleKind (bf P w)))∧(xs.map (·.1)).Nodup
  | .set S n=>h.SetOf (intKind P w) a S n
  | .ins C dx fs=>H dx=some (.own a)∧fs.length≤1000∧dx≠a∧h.get? a=some (PySem.W.instObj C dx)∧
      ∃ mA,h.Ns1 dx mA∧(∀ f,kb (fs.lookup f) (mA f))∧PySem.Within mA (fs.map (·.1))
  | .own _=>∃ o,h.get? a=some o
  | .xd fs=>∃ mA,h.Ns1 a mA∧∀ f,kb (fs.lookup f) (mA f)
  | .rng lo hi=>∃ t u v,h.get? a=some { cls:=.type "range", data:=.fields #[.int lo t,.int hi u,.int 1 v] }
  | .frz o u=>h.get? a=some o∧bg H h a u
  | .tbl ps=>h.get? a=some { cls:=.none,data:=.fields ps }
  | .met f x=>h.get? a=some (PySem.W.methodObj (.ref f) (.ref x))
  | .ext φ=>φ h∧(∃ o,h.get? a=some o)∧∀ h1 h2:Heap,φ h1→(∀ o,h1.get? a=some o→h2.get? a=some o)→φ h2
def HOk (H:Hp)(h:Heap):Prop:=∀ a o,H a=some o→bg P w H h a o
end
section
variable {P:Program} {w:World} {H H':Hp} {h h':Heap} {a:Addr} {o:HO}
theorem bg.lt (x:bg P w H h a o):a < h.objs.size:=by
  cases o with
  | lst xs=>obtain ⟨_,_,_,_,e⟩:=x;exact Heap.lt_size e
  | tup xs=>obtain ⟨_,_,_,p⟩:=x;exact p.tup.lt
  | dK kvs=>obtain ⟨_,_,_,_,o,_,_,e,_⟩:=x;exact Heap.lt_size e
  | dT kvs=>obtain ⟨_,_,_,_,o,_,_,e,_⟩:=x;exact Heap.lt_size e
  | set S n=>obtain ⟨o,_,_,_,e,_⟩:=x;exact Heap.lt_size e
  | ins C dx fs=>obtain ⟨_,_,_,e,_⟩:=x;exact Heap.lt_size e
  | own y=>obtain ⟨_,e⟩:=x;exact Heap.lt_size e
  | xd fs=>obtain ⟨_,⟨_,_,_,e,_⟩,_⟩:=x;exact Heap.lt_size e
  | rng lo hi=>obtain ⟨_,_,_,e⟩:=x;exact Heap.lt_size e
  | frz ob u=>obtain ⟨e,_⟩:=x;exact Heap.lt_size e
  | tbl ps=>exact Heap.lt_size (show h.get? a=some _ from x)
  | met f y=>exact Heap.lt_size (show h.get? a=some _ from x)
  | ext φ=>obtain ⟨_,⟨_,e⟩,_⟩:=x;exact Heap.lt_size e
theorem Paired.wV {α β:Type}{F G:α→β→Prop}:∀ {l₁:List α} {l₂:List β},Paired F l₁ l₂→(∀ a b,F a b→G a b)→Paired G l₁ l₂
  | _,_,.nil,_=>.nil
  | _,_,.cons r t,f=>.cons (f _ _ r) (Paired.wV t f)
theorem bg.jj (x:bg P w H h a o)(k:∀ b u,(b=a∨H b=some (.own a))→h.get? b=some u→h'.get? b=some u)
    (ho:∀ b,H b=some (.own a)→H' b=some (.own a)) (ht:∀ b xs,H b=some (.tup xs)→H' b=some (.tup xs)):bg P w H' h' a o:=by
  induction o with
  | lst xs=>obtain ⟨z,its,n,r,e⟩:=x;exact ⟨z,its,n,r,k _ _ (.inl rfl) e⟩
  | tup xs=>obtain ⟨z,its,r,m,e⟩:=x;exact ⟨z,its,r,m,k _ _ (.inl rfl) e⟩
  | dK kvs=>obtain ⟨z,y,vs,r,ob,es,ep,e,c⟩:=x;exact ⟨z,y,vs,r,ob,es,ep,k _ _ (.inl rfl) e,c⟩
  | dT kvs=>
    obtain ⟨z,y,xs,r,ob,es,ep,e,c⟩:=x
    exact ⟨z,y,xs,Paired.wV r fun p q z=>⟨z.1,ht _ _ z.2.1,z.2.2⟩,ob,es,ep,k _ _ (.inl rfl) e,c⟩
  | set S n=>obtain ⟨ob,es,ep,t,e,c⟩:=x;exact ⟨ob,es,ep,t,k _ _ (.inl rfl) e,c⟩
  | ins C dx fs=>
    obtain ⟨d,z,ne,e,mA,⟨od,es,ep,e2,c⟩,r⟩:=x
    exact ⟨ho _ d,z,ne,k _ _ (.inl rfl) e,mA,⟨od,es,ep,k _ _ (.inr d) e2,c⟩,r⟩
  | own y=>obtain ⟨ob,e⟩:=x;exact ⟨ob,k _ _ (.inl rfl) e⟩
  | xd fs=>obtain ⟨mA,⟨od,es,ep,e,c⟩,r⟩:=x;exact ⟨mA,⟨od,es,ep,k _ _ (.inl rfl) e,c⟩,r⟩
  | rng lo hi=>obtain ⟨t,u,v,e⟩:=x;exact ⟨t,u,v,k _ _ (.inl rfl) e⟩
  | frz ob u ih=>obtain ⟨e,q⟩:=x;exact ⟨k _ _ (.inl rfl) e,ih q⟩
  | tbl ps=>
    have e:h.get? a=some { cls:=.none,data:=.fields ps }:=x
    show h'.get? a=some { cls:=.none,data:=.fields ps }
    exact k a _ (.inl rfl) e
  | met f y=>
    have e:h.get? a=some (PySem.W.methodObj (.ref f) (.ref y)):=x
    show h'.get? a=some (PySem.W.methodObj (.ref f) (.ref y))
    exact k a _ (.inl rfl) e
  | ext φ=>obtain ⟨p,⟨o,e⟩,st⟩:=x;exact ⟨st _ _ p fun o q=>k _ _ (.inl rfl) q,⟨o,k _ _ (.inl rfl) e⟩,st⟩
theorem HOk.lt (x:HOk P w H h)(e:H a=some o):a < h.objs.size:=(x a o e).lt
theorem HOk.fresh (x:HOk P w H h)(e:h.objs.size≤a):H a=none:=by
  cases q:H a with
  | none=>rfl
  | some u=>exact absurd (Nat.lt_of_lt_of_le (x.lt q) e) (Nat.lt_irrefl _)
theorem HOk.kept (x:HOk P w H h)(k:∀ b u,h.get? b=some u→h'.get? b=some u):HOk P w H h':=fun a o e=>
  (x a o e).jj (fun b u _ q=>k b u q) (fun _ q=>q) fun _ _ q=>q
theorem HOk.laid (x:HOk P w H h)(k:∀ b u,h.get? b=some u→h'.get? b=some u)(hp:h.objs.size≤a)(new:bg P w (upd H a o) h' a o):HOk P w (upd H a o) h':=fun b u e=>by
  have hn:=x.fresh hp
  by_cases hb:b=a
  · subst hb;rw[az] at e;cases e;exact new
  · rw[au hb] at e
    exact (x b u e).jj (fun c v _ q=>k c v q) (fun c q=>by rw[au (bh q hn)];exact q) fun c xs q=>by rw[au (bh q hn)];exact q
end
def Rd (H:Hp)(a:Addr)(u:HO):Prop:=H a=some u∨∃ o,H a=some (.frz o u)
theorem Rd.of {H:Hp}{a:Addr}{u:HO}(h:H a=some u):Rd H a u:=.inl h
theorem Rd.ok {P:Program}{w:World}{H:Hp}{h:Heap}{a:Addr}{u:HO}(r:Rd H a u)(x:HOk P w H h):bg P w H h a u:=by
  rcases r with r | ⟨o,r⟩
  · exact x a u r
  · obtain ⟨_,q⟩:=x a _ r
    exact q
def Mut:Option HO→Prop
  | some (.lst _)=>True
  | some (.dK _)=>True
  | some (.dT _)=>True
  | some (.set _ _)=>True
  | some (.ins _ _ _)=>True
  | some (.ext _)=>True
  | _=>False
section
variable {P:Program} {w:World} {H:Hp} {h h':Heap} {x e:Addr} {o':HO}
theorem HOk.write (ok:HOk P w H h)(mu:Mut (H x))(he:e=x∨H e=some (.own x))(k:∀ b u,b≠e→h.get? b=some u→h'.get? b=some u)(heo:∃ u,h'.get? e=some u)
    (new:bg P w (upd H x o') h' x o'):HOk P w (upd H x o') h':=fun b u q=>by
  have xk:∀ c y,H c=some (.own y)→c≠x:=fun c y r z=>by subst z;rw[r] at mu;exact mu
  have ze:∀ c xs,H c=some (.tup xs)→c≠x:=fun c xs r z=>by subst z;rw[r] at mu;exact mu
  by_cases hb:b=x
  · subst hb;rw[az] at q;cases q;exact new
  · rw[au hb] at q
    by_cases hbe:b=e
    · have q':H b=some (.own x):=by
        rcases he with z | z
        · exact absurd (hbe.trans z) hb
        · rw[hbe];exact z
      rw[q] at q';cases q'
      obtain ⟨v,hv⟩:=heo
      exact ⟨v,by rw[hbe];exact hv⟩
    · refine (ok b u q).jj (fun c v hc r=>k c v ?_ r) (fun c r=>by rw[au (xk c b r)];exact r) fun c xs r=>by rw[au (ze c xs r)];exact r
      rcases hc with rfl | hc
      · exact hbe
      · rintro rfl
        rcases he with z | z
        · exact xk c b hc z
        · rw[hc] at z;cases z;exact hb rfl
end
structure Un (fs ex:List Addr) (H H':Hp) (h h':Heap):Prop where
  keep:∀ b o,h.get? b=some o→H b=none→b ∉ fs→b ∉ ex→h'.get? b=some o
  slot:∀ b o,h.get? b=some o→H b=none→b∈fs→b ∉ ex→∃ sl,h'.get? b=some { o with slots:=sl }
  free:∀ b o,h.get? b=some o→H b=none→b ∉ ex→H' b=none
  there:∀ b o,h.get? b=some o→b ∉ ex→∃ o',h'.get? b=some o'
  ei:∀ b xs,H b=some (.tup xs)→H' b=some (.tup xs)
  dQ:∀ b o u,H b=some (.frz o u)→H' b=some (.frz o u)
  ef:∀ b ps,H b=some (.tbl ps)→∃ more,H' b=some (.tbl (ps++more))
section
variable {fs fs' ex ex':List Addr} {H H1 H2:Hp} {h h1 h2 h':Heap} {a x e:Addr} {o:HO}
theorem Un.any (u:Un fs ex H H1 h h1){b:Addr}{ob:Obj}(q:h.get? b=some ob)(n:H b=none)(hx:b ∉ ex):∃ sl,h1.get? b=some { ob with slots:=sl }:=by
  by_cases hb:b∈fs
  · exact u.slot b ob q n hb hx
  · exact ⟨ob.slots,u.keep b ob q n hb hx⟩
theorem Un.trans (a:Un fs ex H H1 h h1)(b:Un fs ex H1 H2 h1 h2):Un fs ex H H2 h h2 where
  keep:=fun c ob q n hc hx=>b.keep c ob (a.keep c ob q n hc hx) (a.free c ob q n hx) hc hx
  slot:=fun c ob q n hc hx=>by
    obtain ⟨sl,e1⟩:=a.slot c ob q n hc hx
    obtain ⟨sl',e2⟩:=b.slot c _ e1 (a.free c ob q n hx) hc hx
    exact ⟨sl',e2⟩
  free:=fun c ob q n hx=>by
    obtain ⟨o',e1⟩:=a.there c ob q hx
    exact b.free c o' e1 (a.free c ob q n hx) hx
  there:=fun c ob q hx=>by
    obtain ⟨o',e1⟩:=a.there c ob q hx
    exact b.there c o' e1 hx
  ei:=fun c xs q=>b.ei c xs (a.ei c xs q)
  dQ:=fun c ob xs q=>b.dQ c ob xs (a.dQ c ob xs q)
  ef:=fun c ps q=>by
    obtain ⟨m1,e1⟩:=a.ef c ps q
    obtain ⟨m2,e2⟩:=b.ef c _ e1
    exact ⟨m1++m2,by rw[e2,Array.append_assoc]⟩
theorem Un.kept (k:∀ b u,h.get? b=some u→h'.get? b=some u):Un fs ex H H h h':=
  ⟨fun b ob q _ _ _=>k b ob q,fun b ob q _ _ _=>⟨ob.slots,k b ob q⟩,fun _ _ _ n _=>n,fun b ob q _=>⟨ob,k b ob q⟩,fun _ _ q=>q,fun _ _ _ q=>q,fun _ ps q=>⟨#[],by rw[q];simp⟩⟩
theorem Un.refl:Un fs ex H H h h:=Un.kept fun _ _ q=>q
theorem Un.laid (k:∀ b u,h.get? b=some u→h'.get? b=some u)(hp:h.objs.size≤a)(hn:H a=none):Un fs ex H (upd H a o) h h' where
  keep:=fun b u q _ _ _=>k b u q
  slot:=fun b u q _ _ _=>⟨u.slots,k b u q⟩
  free:=fun b u q n _=>by rw[au (Nat.ne_of_lt (Nat.lt_of_lt_of_le (Heap.lt_size q) hp))];exact n
  there:=fun b u q _=>⟨u,k b u q⟩
  ei:=fun b xs q=>by rw[au (bh q hn)];exact q
  dQ:=fun b u xs q=>by rw[au (bh q hn)];exact q
  ef:=fun b ps q=>⟨#[],by rw[au (bh q hn),q];simp⟩
theorem Un.write (mu:Mut (H x))(he:e=x∨H e=some (.own x))(k:∀ b u,b≠e→h.get? b=some u→h'.get? b=some u)(heo:∃ u,h'.get? e=some u):Un fs ex H (upd H x o) h h':=by
  have hx:∀ b,H b=none→b≠x:=fun b n z=>by subst z;rw[n] at mu;exact mu
  have hb:∀ b,H b=none→b≠e:=fun b n z=>by
    subst z
    rcases he with r | r
    · exact hx b n r
    · rw[n] at r;cases r
  have hm:∀ b u,H b=some u→¬ Mut (some u)→b≠x:=fun b u q nm z=>by subst z;rw[q] at mu;exact nm mu
  refine ⟨fun b u q n _ _=>k b u (hb b n) q,fun b u q n _ _=>⟨u.slots,k b u (hb b n) q⟩,fun b u q n _=>by rw[au (hx b n)];exact n,fun b u q _=>?_,
    fun b xs q=>by rw[au (hm b _ q fun z=>z)];exact q,fun b u xs q=>by rw[au (hm b _ q fun z=>z)];exact q,fun b ps q=>⟨#[],by rw[au (hm b _ q fun z=>z),q];simp⟩⟩
  by_cases hbe:b=e
  · subst hbe;exact heo
  · exact ⟨u,k b u hbe q⟩
theorem Un.mono (u:Un fs ex H H1 h h1)(hs:∀ b∈fs,b∈fs')(hx:∀ b∈ex,b∈ex'):Un fs' ex' H H1 h h1:=
  ⟨fun b ob q n hb he=>u.keep b ob q n (fun z=>hb (hs b z)) fun z=>he (hx b z),fun _ _ q n _ he=>u.any q n fun z=>he (hx _ z),fun b ob q n he=>u.free b ob q n fun z=>he (hx b z),fun b ob q he=>u.there b ob q fun z=>he (hx b z),u.ei,u.dQ,u.ef⟩
end
def trk (h:Heap)(H:Hp):List Addr:=(List.range h.objs.size).filter fun a=>(H a).isSome
def jf (h:Heap)(H:Hp):Heap:=PySem.W.hideAll h (trk h H)
theorem nS (h:Heap)(H:Hp):(jf h H).objs.size=h.objs.size:=PySem.W.hideAll_size _ _
theorem pF {h:Heap}{H:Hp}{b:Addr}{o:Obj}(e:h.get? b=some o)(n:H b=none):(jf h H).get? b=some o:=
  PySem.W.hideAll_get _ e fun hm=>by
    have q:(H b).isSome=true:=(List.mem_filter.mp hm).2
    rw[n] at q;simp at q
theorem tO {h:Heap}{H:Hp}{b:Addr}{o:Obj}(e:(jf h H).get? b=some o):h.get? b=some o∧H b=none:=by
  have e':h.get? b=some o:=PySem.W.of_hideAll (trk h H) e
  refine ⟨e',?_⟩
  cases q:H b with
  | none=>rfl
  | some x=>
    have hm:b∈trk h H:=List.mem_filter.mpr ⟨List.mem_range.mpr (Heap.lt_size e'),by simp[q]⟩
    have z:(jf h H).get? b=none:=PySem.W.hideAll_none (trk h H) hm
    rw[z] at e;cases e
def tZ (g h:Heap)(L:Addr):List (Addr×Obj):=(List.range h.objs.size).filterMap fun a=>if a=L∨(g.get? a).isSome=true then none else (h.get? a).map fun o=>(a,o)
def rest (g h:Heap)(L d:Addr):List (Addr×Obj):=(tZ g h L).filter fun p=>decide (p.1≠d)
end L2
namespace L2
open PySem PySem.Spec PyProof.Rows
structure Mod (K:PySem.W.Frag) (mg:Str→Option Value) (base:Heap):Prop where
  kin:K.In base
  glob:base.Ns mainGlobals mg
  blt:∃ mb,base.Ns builtinsNs mb∧∀ x:Str,x ≠ "__name__" → mb x=bootBuiltins x
  nolimit:base.NoLimit
structure Cx where
  prog:Program
  w:World
  K:PySem.W.Frag
  mg:Str→Option Value
  base:Heap
  A:Around
  N:List Str
  s₀:Shared
  H₀:Hp
  env:Env
  outer:List Env
  stack:List Env
  ex:List Addr
  fn:Str→Bool
  calm:Bool
  pn:List (Addr×Obj)
  xe:Value→Shared→Prop
def frs (l:List Env):List Addr:=l.filterMap (·.frame)
abbrev Cx.fs (X:Cx):List Addr:=frs X.outer
def Vis (sc:Scope)(x:Str):Prop:=sc.names.lookup x=some .local∨sc.names.lookup x=some .cell∨sc.names.lookup x=some .free
def Loc (sc:Scope)(x:Str):Prop:=sc.names.lookup x=some .local∨sc.names.lookup x=some .cell
def Look (env:Env)(h:Heap)(m:Str→Option Value)(x:Str)(u:Value):Prop:=
  (env.kindOf x=some .local∧m x=some u)∨((env.kindOf x=some .cell∨env.kindOf x=some .free)∧∃ c,env.cells.lookup x=some c∧h.IsCell c (some u))
structure Cx.Ok (X:Cx):Prop where
  mod:Mod X.K X.mg X.base
  kind:X.env.scope.kind=.function
  glob:X.env.globals=mainGlobals
  blt:X.env.builtins=builtinsNs
  above:X.s₀.heap.objs.size≤X.env.locals
  inj:∀ x y c,X.env.cells.lookup x=some c→X.env.cells.lookup y=some c→x=y
  has:∀ x,(X.env.kindOf x=some .cell∨X.env.kindOf x=some .free)→∃ c,X.env.cells.lookup x=some c
  cab:∀ x c,X.fn x=true→X.env.cells.lookup x=some c→X.s₀.heap.objs.size≤c
  hd:X.calm=true→X.A.handled=none
  frames:X.A.frames=some X.stack
  stk:X.stack=X.outer∨(X.stack=X.env::X.outer∧X.env.frame=some X.env.locals)
  exf:∀ b∈X.ex,b≠X.env.locals∧∀ x c,X.env.cells.lookup x=some c→c≠b
  bs:∀ b o,X.base.get? b=some o→X.s₀.heap.get? b=some o∧X.H₀ b=none
  bsz:X.base.objs.size≤X.s₀.heap.objs.size
  ql:∀ b o,X.base.get? b=some o→b ∉ X.ex
  oK:∀ b∈X.ex,b ∉ X.fs
  eN:X.s₀.heap.FunFrames X.base X.outer
  frf:∀ b∈X.fs,X.H₀ b=none
structure Inv (X:Cx) (pins:List (Addr×Obj)) (σ:List (Option V)) (H:Hp) (s:Shared):Prop where
  ok:X.Ok
  os:s.os=X.s₀.os
  bare:AllBare s.gens
  base:Un X.fs X.ex X.H₀ H X.s₀.heap s.heap
  loc:∃ m,s.heap.Ns X.env.locals m∧∀ (i:Nat) (x:Str) (v:V),X.N[i]? = some x→σ[i]? = some (some v)→Vis X.env.scope x→∃ u,RelV v u∧Look X.env s.heap m x u
  cell:∀ x c,X.env.cells.lookup x=some c→∃ v,s.heap.IsCell c v
  free:H X.env.locals=none
  cL:∀ x c,X.env.cells.lookup x=some c→H c=none
  pin:∀ p∈X.pn++pins,s.heap.get? p.1=some p.2∧H p.1=none∧p.1≠X.env.locals∧p.1 ∉ X.fs∧∀ v,p.2.data≠.cell v
  hok:HOk X.prog X.w H s.heap
  len:σ.length=X.N.length
section
variable {X:Cx} {pins:List (Addr×Obj)} {σ:List (Option V)} {H H':Hp} {s:Shared} {h':Heap}
theorem Cx.Ok.zG (ok:X.Ok){b:Addr}{o:Obj}(e:X.base.get? b=some o):b ∉ X.fs:=fun hb=>by
  have:=(ok.eN.mem hb).1
  rw[e] at this;cases this
theorem Inv.bs (I:Inv X pins σ H s):∀ b o,X.base.get? b=some o→s.heap.get? b=some o∧H b=none:=fun b o e=>
  ⟨I.base.keep b o (I.ok.bs b o e).1 (I.ok.bs b o e).2 (I.ok.zG e) (I.ok.ql b o e),I.base.free b o (I.ok.bs b o e).1 (I.ok.bs b o e).2 (I.ok.ql b o e)⟩
theorem Inv.bk (I:Inv X pins σ H s):∀ b o,X.base.get? b=some o→s.heap.get? b=some o:=fun b o e=>(I.bs b o e).1
theorem Inv.mod (I:Inv X pins σ H s):Mod X.K X.mg X.base:=I.ok.mod
theorem Inv.kIn (I:Inv X pins σ H s):X.K.In s.heap:=I.ok.mod.kin.keeps I.bk
theorem Inv.nolimit (I:Inv X pins σ H s):s.heap.NoLimit:=I.ok.mod.nolimit.keeps I.bk
theorem Inv.fr (I:Inv X pins σ H s):∃ m,Fr X.base X.env.locals s.heap m:=
  let ⟨m,hn,_⟩:=I.loc
  ⟨m,hn,I.bk,Nat.le_trans I.ok.bsz I.ok.above⟩
theorem Inv.lt (I:Inv X pins σ H s):X.env.locals < s.heap.objs.size:=let ⟨_,hn,_⟩:=I.loc;hn.lt
theorem Inv.sz (I:Inv X pins σ H s):X.s₀.heap.objs.size≤s.heap.objs.size:=Nat.le_trans I.ok.above (Nat.le_of_lt I.lt)
theorem Inv.zt (I:Inv X pins σ H s){a:Addr}(h:s.heap.objs.size≤a):a ∉ X.fs:=fun hb=>by
  obtain ⟨_,o,ho,_⟩:=I.ok.eN.mem hb
  exact absurd (Nat.lt_of_lt_of_le (Heap.lt_size ho) (Nat.le_trans I.sz h)) (Nat.lt_irrefl _)
theorem Inv.cne (I:Inv X pins σ H s):∀ x c,X.env.cells.lookup x=some c→c≠X.env.locals:=fun x c e z=>by
  obtain ⟨v,o,ho,hd⟩:=I.cell x c e
  obtain ⟨m,⟨o',es,ep,ho',hd',_⟩,_⟩:=I.loc
  rw[z,ho'] at ho;cases ho;rw[hd'] at hd;cases hd
theorem Inv.eN (I:Inv X pins σ H s):s.heap.FunFrames X.base X.outer:=by
  have all:∀ (l:List Env),(∀ b∈frs l,b∈X.fs)→X.s₀.heap.FunFrames X.base l→s.heap.FunFrames X.base l:=by
    intro l
    induction l with
    | nil=>intro _ _;trivial
    | cons env r ih=>
      intro hs hl
      obtain ⟨hk,⟨L,o,hf,hn,ho,hd⟩,hr⟩:=hl
      have hL:L∈X.fs:=hs L (by unfold frs;rw[List.filterMap_cons,hf];exact List.mem_cons_self)
      obtain ⟨sl,e⟩:=I.base.slot L o ho (I.ok.frf L hL) hL fun z=>I.ok.oK L z hL
      exact ⟨hk,⟨L,_,hf,hn,e,hd⟩,ih (fun b hb=>hs b (by unfold frs;rw[List.filterMap_cons,hf];exact List.mem_cons_of_mem _ hb)) hr⟩
  exact all X.outer (fun _ hb=>hb) I.ok.eN
theorem Inv.stack (I:Inv X pins σ H s):s.heap.FunFrames X.base X.stack:=by
  rcases I.ok.stk with e | ⟨e,hf⟩
  · rw[e];exact I.eN
  · rw[e]
    obtain ⟨m,hn,_⟩:=I.loc
    refine .cons (by rw[I.ok.kind];decide) hf hn ?_ I.eN
    exact Heap.get?_none_of_le (Nat.le_trans I.ok.bsz I.ok.above)
theorem Inv.kA (I:Inv X pins σ H s):∀ b∈frs X.stack,b∈X.env.locals::X.fs:=fun b hb=>by
  rcases I.ok.stk with e | ⟨e,hf⟩
  · rw[e] at hb;exact List.mem_cons_of_mem _ hb
  · rw[e] at hb
    unfold frs at hb
    rw[List.filterMap_cons,hf] at hb
    exact hb
theorem Inv.mZ (I:Inv X pins σ H s):∀ b∈frs X.stack,H b=none:=fun b hb=>by
  rcases List.mem_cons.mp (I.kA b hb) with e | hb
  · rw[e];exact I.free
  · obtain ⟨_,o,ho,_⟩:=I.ok.eN.mem hb
    exact I.base.free b o ho (I.ok.frf b hb) fun z=>I.ok.oK b z hb
theorem Inv.step {g':Array GenState}{t':Nat}{d':Drawn}{ch:List Addr}(I:Inv X pins σ H s)
    (hch:∀ b∈ch,(b∈X.ex∨X.s₀.heap.objs.size≤b)∧b≠X.env.locals∧(∀ x c,X.env.cells.lookup x=some c→c≠b)∧∀ p∈X.pn++pins,p.1≠b)
    (keep:∀ b o,b≠X.env.locals→b ∉ X.fs→b ∉ ch→s.heap.get? b=some o→H b=none→h'.get? b=some o)
    (slot:∀ b o,b≠X.env.locals→b∈X.fs→b ∉ ch→s.heap.get? b=some o→H b=none→∃ sl,h'.get? b=some { o with slots:=sl }) (free:∀ b o,b ∉ ch→s.heap.get? b=some o→H b=none→H' b=none)
    (there:∀ b o,b ∉ ch→s.heap.get? b=some o→∃ o',h'.get? b=some o')
    (ei:∀ b xs,H b=some (.tup xs)→H' b=some (.tup xs)) (dQ:∀ b o u,H b=some (.frz o u)→H' b=some (.frz o u)) (ef:∀ b ps,H b=some (.tbl ps)→∃ more,H' b=some (.tbl (ps++more)))
    (ns:∀ m,s.heap.Ns X.env.locals m→h'.Ns X.env.locals m) (hok:HOk X.prog X.w H' h') (hg:AllBare g') :
    Inv X pins σ H' { s with heap:=h',gens:=g',drawn:=d',toks:=t' }:=by
  have neL:∀ b o,X.s₀.heap.get? b=some o→b≠X.env.locals:=fun b o e=>Nat.ne_of_lt (Nat.lt_of_lt_of_le (Heap.lt_size e) I.ok.above)
  have neC:∀ b o,X.s₀.heap.get? b=some o→b ∉ X.ex→b ∉ ch:=fun b o e hx hb=>by
    rcases (hch b hb).1 with z | z
    · exact hx z
    · exact absurd (Nat.lt_of_lt_of_le (Heap.lt_size e) z) (Nat.lt_irrefl _)
  have cellK:∀ x c,X.env.cells.lookup x=some c→∀ v,s.heap.IsCell c v→h'.IsCell c v:=fun x c e v ⟨o,ho,hd⟩=>by
    have nch:c ∉ ch:=fun z=>(hch c z).2.2.1 x c e rfl
    by_cases hc:c∈X.fs
    · obtain ⟨sl,q⟩:=slot c o (I.cne x c e) hc nch ho (I.cL x c e)
      exact ⟨_,q,hd⟩
    · exact ⟨o,keep c o (I.cne x c e) hc nch ho (I.cL x c e),hd⟩
  refine ⟨I.ok,I.os,hg,⟨fun b o e n hb hx=>?_,fun b o e n hb hx=>?_,fun b o e n hx=>?_,fun b o e hx=>?_,fun b xs e=>ei b xs (I.base.ei b xs e),fun b o xs e=>dQ b o xs (I.base.dQ b o xs e),fun b ps e=>?_⟩,?_,fun x c e=>?_,?_,fun x c e=>?_,fun p hp=>?_,hok,I.len⟩
  · exact keep b o (neL b o e) hb (neC b o e hx) (I.base.keep b o e n hb hx) (I.base.free b o e n hx)
  · obtain ⟨sl,e1⟩:=I.base.slot b o e n hb hx
    obtain ⟨sl',e2⟩:=slot b _ (neL b o e) hb (neC b o e hx) e1 (I.base.free b o e n hx)
    exact ⟨sl',e2⟩
  · obtain ⟨o',e1⟩:=I.base.there b o e hx
    exact free b o' (neC b o e hx) e1 (I.base.free b o e n hx)
  · obtain ⟨o',e1⟩:=I.base.there b o e hx
    exact there b o' (neC b o e hx) e1
  · obtain ⟨m1,e1⟩:=I.base.ef b ps e
    obtain ⟨m2,e2⟩:=ef b _ e1
    exact ⟨m1++m2,by rw[e2,Array.append_assoc]⟩
  · obtain ⟨m,hn,hl⟩:=I.loc
    refine ⟨m,ns m hn,fun i x v e1 e2 e3=>?_⟩
    obtain ⟨u,r,l⟩:=hl i x v e1 e2 e3
    refine ⟨u,r,?_⟩
    rcases l with l | ⟨k,c,e,z⟩
    · exact .inl l
    · exact .inr ⟨k,c,e,cellK x c e _ z⟩
  · obtain ⟨v,z⟩:=I.cell x c e
    exact ⟨v,cellK x c e v z⟩
  · obtain ⟨m,⟨o,_,_,ho,_⟩,_⟩:=I.loc
    exact free _ o (fun z=>(hch _ z).2.1 rfl) ho I.free
  · obtain ⟨v,o,ho,hd⟩:=I.cell x c e
    exact free c o (fun z=>(hch c z).2.2.1 x c e rfl) ho (I.cL x c e)
  · obtain ⟨e,n,ne,nf,d⟩:=I.pin p hp
    have nch:p.1 ∉ ch:=fun z=>(hch p.1 z).2.2.2 p hp rfl
    exact ⟨keep p.1 p.2 ne nf nch e n,free p.1 p.2 nch e n,ne,nf,d⟩
theorem Inv.un {t':Nat}(I:Inv X pins σ H s)(u:Un X.fs [] H H' s.heap h')(hok:HOk X.prog X.w H' h'):Inv X pins σ H' { s with heap:=h',toks:=t' }:=by
  obtain ⟨m,⟨o,es,ep,ho,r⟩,_⟩:=id I.loc
  obtain ⟨sl,hL⟩:=u.any ho I.free (by simp)
  exact I.step (g':=s.gens) (d':=s.drawn) (ch:=[]) (fun _ z=>nomatch z) (fun b o _ hb _ e n=>u.keep b o e n hb (by simp)) (fun b o _ hb _ e n=>u.slot b o e n hb (by simp)) (fun b o _ e n=>u.free b o e n (by simp)) (fun b o _ e=>u.there b o e (by simp)) u.ei u.dQ u.ef (fun m' hm=>by
    obtain ⟨o',es',ep',ho',r'⟩:=hm
    rw[ho] at ho';cases ho'
    exact ⟨_,es',ep',hL,r'⟩) hok I.bare
theorem Inv.call {g':Array GenState}{t':Nat}{d':Drawn}{ch:List Addr}(I:Inv X pins σ H s)(u:Un (frs X.stack) ch H H' s.heap h')(hok:HOk X.prog X.w H' h')(hg:AllBare g')
    (hch:∀ b∈ch,(b∈X.ex∨X.s₀.heap.objs.size≤b)∧b≠X.env.locals∧(∀ x c,X.env.cells.lookup x=some c→c≠b)∧∀ p∈X.pn++pins,p.1≠b) :
    Inv X pins σ H' { s with heap:=h',gens:=g',drawn:=d',toks:=t' }:=by
  obtain ⟨m,⟨o,es,ep,ho,r⟩,_⟩:=id I.loc
  obtain ⟨sl,hL⟩:=u.any ho I.free fun z=>(hch _ z).2.1 rfl
  exact I.step (ch:=ch) hch (fun b o hL hb hc e n=>u.keep b o e n (fun z=>(List.mem_cons.mp (I.kA b z)).elim hL hb) hc) (fun b o _ _ hc e n=>u.any e n hc) (fun b o hc e n=>u.free b o e n hc) (fun b o hc e=>u.there b o e hc) u.ei u.dQ u.ef (fun m' hm=>by
    obtain ⟨o',es',ep',ho',r'⟩:=hm
    rw[ho] at ho';cases ho'
    exact ⟨_,es',ep',hL,r'⟩) hok hg
theorem Inv.turned {t':Nat}{it:Addr}(I:Inv X pins σ H s)(k:∀ b o,b≠it→s.heap.get? b=some o→h'.get? b=some o)(hn:H it=none)(hL:it≠X.env.locals)
    (h1:it∈X.ex∨X.s₀.heap.objs.size≤it) (h2:∀ x c,X.env.cells.lookup x=some c→c≠it) (h3:∀ p∈X.pn++pins,p.1≠it):Inv X pins σ H { s with heap:=h',toks:=t' }:=by
  have nit:∀ b u,H b=some u→b≠it:=fun b u e z=>by rw[z,hn] at e;cases e
  refine I.step (g':=s.gens) (d':=s.drawn) (ch:=[it]) (fun b hb=>?_) (fun b o _ _ hc e _=>k b o (fun z=>hc (by simp[z])) e) (fun b o _ _ hc e _=>⟨o.slots,k b o (fun z=>hc (by simp[z])) e⟩) (fun _ _ _ _ n=>n)
    (fun b o hc e=>⟨o,k b o (fun z=>hc (by simp[z])) e⟩) (fun _ _ e=>e) (fun _ _ _ e=>e) (fun b ps e=>⟨#[],by rw[e];simp⟩) (fun m hm=>?_) (fun b u e=>?_) I.bare
  · have e:b=it:=by simpa using hb
    subst e
    exact ⟨h1,hL,h2,h3⟩
  · obtain ⟨o,es,ep,ho,r⟩:=hm
    exact ⟨o,es,ep,k _ o (Ne.symm hL) ho,r⟩
  · refine (I.hok b u e).jj (fun c v hc q=>k c v ?_ q) (fun _ q=>q) fun _ _ q=>q
    rcases hc with z | z
    · rw[z];exact nit b u e
    · exact nit c _ z
theorem Inv.tok (I:Inv X pins σ H s)(t:Nat):Inv X pins σ H { s with toks:=t }:=I.un (h':=s.heap) (t':=t) Un.refl I.hok
theorem Inv.kept {t':Nat}(I:Inv X pins σ H s)(k:∀ b u,s.heap.get? b=some u→h'.get? b=some u):Inv X pins σ H { s with heap:=h',toks:=t' }:=I.un (Un.kept k) (I.hok.kept k)
theorem Inv.laid {a:Addr}{o:HO}{t':Nat}(I:Inv X pins σ H s)(k:∀ b u,s.heap.get? b=some u→h'.get? b=some u)(hp:s.heap.objs.size≤a)(new:bg X.prog X.w (upd H a o) h' a o) :
    Inv X pins σ (upd H a o) { s with heap:=h',toks:=t' }:=I.un (Un.laid k hp (I.hok.fresh hp)) (I.hok.laid k hp new)
theorem Inv.write {x e:Addr}{o:HO}{t':Nat}(I:Inv X pins σ H s)(mu:Mut (H x))(he:e=x∨H e=some (.own x))(k:∀ b u,b≠e→s.heap.get? b=some u→h'.get? b=some u)(heo:∃ u,h'.get? e=some u)
    (new:bg X.prog X.w (upd H x o) h' x o):Inv X pins σ (upd H x o) { s with heap:=h',toks:=t' }:=I.un (Un.write mu he k heo) (I.hok.write mu he k heo new)
theorem Inv.weak {σ':List (Option V)}(I:Inv X pins σ H s)(hl:σ'.length=σ.length)(w:∀ (i:Nat) v,σ'[i]? = some (some v)→σ[i]? = some (some v)):Inv X pins σ' H s:=
  ⟨I.ok,I.os,I.bare,I.base,let ⟨m,hn,hl'⟩:=I.loc;⟨m,hn,fun i x v e1 e2 e3=>hl' i x v e1 (w i v e2) e3⟩,I.cell,I.free,I.cL,I.pin,I.hok,hl.trans I.len⟩
theorem Inv.mX {pins':List (Addr×Obj)}(I:Inv X pins σ H s)(h:∀ p∈pins',s.heap.get? p.1=some p.2∧H p.1=none∧p.1≠X.env.locals∧p.1 ∉ X.fs∧∀ v,p.2.data≠.cell v):Inv X pins' σ H s:=
  ⟨I.ok,I.os,I.bare,I.base,I.loc,I.cell,I.free,I.cL,fun p hp=>(List.mem_append.mp hp).elim (fun z=>I.pin p (List.mem_append_left _ z)) (h p),I.hok,I.len⟩
theorem j7 {N:List Str}(hN:N.Nodup){i j:Nat}{x:Str}(a:N[i]? = some x)(b:N[j]? = some x):i=j:=by
  obtain ⟨h1,e1⟩:=List.getElem?_eq_some_iff.mp a
  obtain ⟨h2,e2⟩:=List.getElem?_eq_some_iff.mp b
  exact (List.getElem_inj hN).mp (e1.trans e2.symm)
theorem nq {M:Model}{A:Around}{E:Value→Shared→Prop}{i:Nat}{x:Str}{v:V}{u:Value}{Q:Unit→Shared→Prop}(I:Inv X pins σ H s)(hN:X.N.Nodup)(hi:X.N[i]? = some x)(hx:Loc X.env.scope x)(r:RelV v u)
    (h:∀ s',Inv X pins (σ.set i (some v)) H s'→(∃ a,Heap.SameBut a s.heap s'.heap∧(a=X.env.locals∨X.env.cells.lookup x=some a))→Q () s') (hf:X.fn x=true∨X.env.scope.names.lookup x=some .local:=by first | exact .inl rfl | exact .inr rfl | assumption):wpAny M A (storeName X.env x u) Q E s:=by
  obtain ⟨m,hn,hl⟩:=id I.loc
  have zf:(X.env.scope.kind == .class || (X.env.scope.kind == .module&&X.env.locals != X.env.globals))=false:=by rw[I.ok.kind];rfl
  have hiσ:i < σ.length:=by rw[I.len];exact (List.getElem?_eq_some_iff.mp hi).1
  have cne:=I.cne
  have tracked:∀ {a:Addr} {h':Heap},(∃ o,s.heap.get? a=some o∧H a=none)→Heap.SameBut a s.heap h'→HOk X.prog X.w H h':=fun {a h'} ha hs b ob e=>by
    obtain ⟨_,_,hfree⟩:=ha
    refine (I.hok b ob e).jj (fun c w' hc q=>(hs.2 c ?_).trans q) (fun _ q=>q) fun _ _ q=>q
    rintro rfl
    rcases hc with rfl | hc
    · rw[hfree] at e;cases e
    · rw[hfree] at hc;cases hc
  rcases hx with hk | hk
  · refine wpAny_storeName_local hk hn (fun h' hn' hs=>?_) zf
    obtain ⟨oL,_,_,hoL,_⟩:=id hn
    refine h _ ⟨I.ok,I.os,I.bare,⟨fun b o e n hb hx=>?_,fun b o e n hb hx=>?_,I.base.free,fun b o e hx=>?_,I.base.ei,I.base.dQ,I.base.ef⟩,⟨_,hn',fun j y v' e1 e2 e3=>?_⟩,fun y c e=>?_,I.free,I.cL,fun p hp=>?_,tracked ⟨oL,hoL,I.free⟩ hs,by simpa using I.len⟩ ⟨_,hs,.inl rfl⟩
    · exact (hs.2 b (Nat.ne_of_lt (Nat.lt_of_lt_of_le (Heap.lt_size e) I.ok.above))).trans (I.base.keep b o e n hb hx)
    · obtain ⟨sl,e1⟩:=I.base.slot b o e n hb hx
      exact ⟨sl,(hs.2 b (Nat.ne_of_lt (Nat.lt_of_lt_of_le (Heap.lt_size e) I.ok.above))).trans e1⟩
    · obtain ⟨o',e1⟩:=I.base.there b o e hx
      exact ⟨o',(hs.2 b (Nat.ne_of_lt (Nat.lt_of_lt_of_le (Heap.lt_size e) I.ok.above))).trans e1⟩
    · by_cases hj:j=i
      · subst hj
        rw[hi] at e1;cases e1
        rw[List.getElem?_set_self hiσ] at e2
        cases e2
        exact ⟨u,r,.inl ⟨hk,by simp⟩⟩
      · rw[List.getElem?_set_ne (Ne.symm hj)] at e2
        obtain ⟨u',r',q⟩:=hl j y v' e1 e2 e3
        refine ⟨u',r',?_⟩
        rcases q with ⟨k,e⟩ | ⟨k,c,e,z⟩
        · refine .inl ⟨k,?_⟩
          have:y≠x:=fun e=>hj (j7 hN e1 (e ▸ hi))
          simp[this,e]
        · exact .inr ⟨k,c,e,z.sameBut hs (cne y c e)⟩
    · obtain ⟨w',z⟩:=I.cell y c e
      exact ⟨w',z.sameBut hs (cne y c e)⟩
    · obtain ⟨e,n,ne,nf,d⟩:=I.pin p hp
      exact ⟨(hs.2 p.1 ne).trans e,n,ne,nf,d⟩
  · have hfn:X.fn x=true:=by
      rcases hf with z | z
      · exact z
      · rw[z] at hk;cases hk
    obtain ⟨c,hc⟩:=I.ok.has x (.inl hk)
    obtain ⟨w',z⟩:=I.cell x c hc
    refine wpAny_storeName_cell I.ok.kind hk hc z (fun h' hc' hs=>?_)
    obtain ⟨oc,hoc,hocd⟩:=id z
    refine h { s with heap:=h' } ⟨I.ok,I.os,I.bare,⟨fun b o e n hb hx=>?_,fun b o e n hb hx=>?_,I.base.free,fun b o e hx=>?_,I.base.ei,I.base.dQ,I.base.ef⟩,⟨m,hn.sameBut hs (Ne.symm (cne x c hc)),fun j y v' e1 e2 e3=>?_⟩,fun y c' e=>?_,I.free,I.cL,fun p hp=>?_,tracked ⟨oc,hoc,I.cL x c hc⟩ hs,by simpa using I.len⟩ ⟨c,hs,.inr hc⟩
    · exact (hs.2 b (Nat.ne_of_lt (Nat.lt_of_lt_of_le (Heap.lt_size e) (I.ok.cab x c hfn hc)))).trans (I.base.keep b o e n hb hx)
    · obtain ⟨sl,e1⟩:=I.base.slot b o e n hb hx
      exact ⟨sl,(hs.2 b (Nat.ne_of_lt (Nat.lt_of_lt_of_le (Heap.lt_size e) (I.ok.cab x c hfn hc)))).trans e1⟩
    · obtain ⟨o',e1⟩:=I.base.there b o e hx
      exact ⟨o',(hs.2 b (Nat.ne_of_lt (Nat.lt_of_lt_of_le (Heap.lt_size e) (I.ok.cab x c hfn hc)))).trans e1⟩
    · by_cases hj:j=i
      · subst hj
        rw[hi] at e1;cases e1
        rw[List.getElem?_set_self hiσ] at e2
        cases e2
        exact ⟨u,r,.inr ⟨.inl hk,c,hc,hc'⟩⟩
      · rw[List.getElem?_set_ne (Ne.symm hj)] at e2
        obtain ⟨u',r',q⟩:=hl j y v' e1 e2 e3
        refine ⟨u',r',?_⟩
        rcases q with q | ⟨k,c',e,z'⟩
        · exact .inl q
        · refine .inr ⟨k,c',e,z'.sameBut hs ?_⟩
          rintro rfl
          exact hj (j7 hN e1 (I.ok.inj _ _ _ e hc ▸ hi))
    · by_cases hcc:c'=c
      · subst hcc;exact ⟨_,hc'⟩
      · obtain ⟨w2,z2⟩:=I.cell y c' e
        exact ⟨w2,z2.sameBut hs hcc⟩
    · obtain ⟨e,n,ne,nf,d⟩:=I.pin p hp
      refine ⟨(hs.2 p.1 ?_).trans e,n,ne,nf,d⟩
      intro q
      rw[q,hoc] at e
      have q':oc=p.2:=Option.some.inj e
      exact d w' (by rw[← q'];exact hocd)
theorem dF {M:Model}{A:Around}{E:Value→Shared→Prop}{i:Nat}{x:Str}{v:V}{u:Value}{Q:Unit→Shared→Prop}(I:Inv X pins σ H s)(hN:X.N.Nodup)(hi:X.N[i]? = some x)(hx:Loc X.env.scope x)(r:RelV v u)
    (h:∀ s',Inv X pins (σ.set i (some v)) H s'→Q () s') (hf:X.fn x=true∨X.env.scope.names.lookup x=some .local:=by first | exact .inl rfl | exact .inr rfl | assumption):wpAny M A (storeName X.env x u) Q E s:=
  nq I hN hi hx r (fun s' I' _=>h s' I') hf
theorem Inv.yp {s':Shared}{ch:List Addr}(I:Inv X pins σ H s)(ho:s'.os=s.os)(u:Un (frs X.stack) ch H H' s.heap s'.heap)(hok:HOk X.prog X.w H' s'.heap)(hg:AllBare s'.gens)
    (hch:∀ b∈ch,(b∈X.ex∨X.s₀.heap.objs.size≤b)∧b≠X.env.locals∧(∀ x c,X.env.cells.lookup x=some c→c≠b)∧∀ p∈X.pn++pins,p.1≠b):Inv X pins σ H' s':=by
  obtain ⟨h',g',d',t',o'⟩:=s'
  have e:o'=s.os:=ho
  subst e
  exact I.call (g':=g') (t':=t') (d':=d') u hok hg hch
end
abbrev XK:=Value→Option Addr→Hp→Prop
abbrev St:=List (Option V)
abbrev VK:=V→Hp→Prop
abbrev TE:=St→Hp→VK→Prop
abbrev TT:=St→Hp→(Bool→Hp→Prop)→Prop
abbrev TA:=St→Hp→(List V→Hp→Prop)→Prop
structure Ends where
  nx:St→Hp→Prop
  rt:VK
  bk:St→Hp→Prop:=fun _ _=>False
  ct:St→Hp→Prop:=fun _ _=>False
abbrev TS:=Ends→St→Hp→Prop
def EP (X:Cx)(pins:List (Addr×Obj))(σ:St)(Q:VK)(u:Value)(s':Shared):Prop:=∃ v H',Inv X pins σ H' s'∧RelV v u∧Q v H'
def TP (X:Cx)(pins:List (Addr×Obj))(σ:St)(Q:Bool→Hp→Prop)(b:Bool)(s':Shared):Prop:=∃ H',Inv X pins σ H' s'∧Q b H'
def AP (X:Cx)(pins:List (Addr×Obj))(σ:St)(Q:List V→Hp→Prop)(us:List Value)(s':Shared):Prop:=∃ vs H',Inv X pins σ H' s'∧Vals vs us∧Q vs H'
def SP (X:Cx)(pins:List (Addr×Obj))(D:Ends)(f:Flow)(s':Shared):Prop:=
  match f with
  | .next=>∃ σ' H',Inv X pins σ' H' s'∧D.nx σ' H'
  | .brk=>∃ σ' H',Inv X pins σ' H' s'∧D.bk σ' H'
  | .cont=>∃ σ' H',Inv X pins σ' H' s'∧D.ct σ' H'
  | .ret u=>∃ v σ' H',Inv X pins σ' H' s'∧RelV v u∧D.rt v H'
def PE (X:Cx)(e:Expr)(t:TE):Prop:=
  ∀ (pins:List (Addr×Obj)) (s:Shared) (σ:St) (H:Hp) (Q:VK),Inv X pins σ H s→t σ H Q→wpAny (model X.prog X.w) X.A (eval e X.env) (EP X pins σ Q) X.xe s
def PT (X:Cx)(e:Expr)(t:TT):Prop:=
  ∀ (pins:List (Addr×Obj)) (s:Shared) (σ:St) (H:Hp) (Q:Bool→Hp→Prop),Inv X pins σ H s→t σ H Q→wpAny (model X.prog X.w) X.A (isTrue e X.env (eval e X.env)) (TP X pins σ Q) X.xe s
def PW (X:Cx)(e:Expr)(t:TT):Prop:=
  ∀ (whole:Sem Value) (pins:List (Addr×Obj)) (s:Shared) (σ:St) (H:Hp) (Q:Bool→Hp→Prop),Inv X pins σ H s→t σ H Q→wpAny (model X.prog X.w) X.A (isTrue e X.env whole) (TP X pins σ Q) X.xe s
theorem PW.pt {X:Cx}{e:Expr}{t:TT}(h:PW X e t):PT X e t:=h _
def PA (X:Cx)(es:List Expr)(t:TA):Prop:=
  ∀ (pos:Pos) (pins:List (Addr×Obj)) (s:Shared) (σ:St) (H:Hp) (Q:List V→Hp→Prop),Inv X pins σ H s→t σ H Q→wpAny (model X.prog X.w) X.A (spliced (backTo pos (starEach es X.env))) (AP X pins σ Q) X.xe s
def PS (X:Cx)(st:Stmt)(t:TS):Prop:=
  ∀ (pins:List (Addr×Obj)) (s:Shared) (σ:St) (H:Hp) (D:Ends),Inv X pins σ H s→t D σ H→wpAny (model X.prog X.w) X.A (exec st X.env) (SP X pins D) X.xe s
def PSs (X:Cx)(st:List Stmt)(t:TS):Prop:=
  ∀ (pins:List (Addr×Obj)) (s:Shared) (σ:St) (H:Hp) (D:Ends),Inv X pins σ H s→t D σ H→wpAny (model X.prog X.w) X.A (execs st X.env) (SP X pins D) X.xe s
theorem thn {α:Type}{t:Sem α}{Q Q':α→Shared→Prop}{M:Model}{A:Around}{E:Value→Shared→Prop}{s:Shared}(h:wpAny M A t Q E s)(hQ:∀ a s,Q a s→Q' a s):wpAny M A t Q' E s:=wpAny_mono h hQ fun _ _ x=>x
end L2
namespace L2
open PySem PySem.Spec PyProof.Rows
section
variable {X:Cx}
def xH (i:Nat):TE:=fun σ H Q=>∃ v,σ[i]? = some (some v)∧Q v H
def tC (v:V):TE:=fun _ H Q=>Q v H
theorem qH {i:Nat}{x:Str}{pos:Pos}(hN:X.N[i]? = some x)(hv:Vis X.env.scope x)(hd:(x == ("__debug__" : Str))=false:=by decide)(hcd:(x == ("__classdict__" : Str))=false:=by decide):PE X (.Name x pos) (xH i):=by
  intro pins s σ H Q I h
  obtain ⟨v,e,h⟩:=h
  obtain ⟨m,hn,hl⟩:=I.loc
  obtain ⟨u,r,l⟩:=hl i x v hN e hv
  have fin:EP X pins σ Q u s:=⟨v,H,I,r,h⟩
  rcases l with ⟨hk,hm⟩ | ⟨hk,c,hc,hcell⟩
  · exact wpAny_Name (wpAny_loadName_local I.ok.kind hk hn hm fin) hd
  · rcases hk with hk | hk
    · exact wpAny_Name (wpAny_loadName_cell I.ok.kind hk hc hcell fin) hd
    · exact wpAny_Name (wpAny_loadName_free I.ok.kind hk hc hcell fin hcd) hd
theorem wq {i j pos}:PE X (.Constant (.int i) j pos) (tC (.int i)):=fun _ _ _ H _ I h=>wpAny_Constant_int ⟨.int i,H,I.tok _,⟨_,rfl⟩,h⟩
theorem xc {b j pos}:PE X (.Constant (.bool b) j pos) (tC (.bl b)):=fun _ _ _ H _ I h=>Constant_bool ⟨.bl b,H,I,rfl,h⟩
theorem wC {j pos}:PE X (.Constant .none j pos) (tC .non):=fun _ _ _ H _ I h=>Constant_none ⟨.non,H,I,rfl,h⟩
theorem qL {x j pos}:PE X (.Constant (.str x) j pos) (tC (.str x)):=fun _ _ _ H _ I h=>Calls.Constant_str ⟨.str x,H,I.tok _,⟨_,rfl⟩,h⟩
def Gl (X:Cx)(x:Str):Prop:=X.env.kindOf x=some .globalImplicit
theorem nh {E:Value→Shared→Prop}{pins:List (Addr×Obj)}{s:Shared}{σ:St}{H:Hp}{x:Str}{u:Value}{pos:Pos}{Q:Value→Shared→Prop}(I:Inv X pins σ H s)(hg:Gl X x)(hm:X.mg x=some u)(h:Q u s)
    (hd:(x == ("__debug__" : Str))=false:=by decide):wpAny (model X.prog X.w) X.A (eval (.Name x pos) X.env) Q E s:=
  Calls.Name_function_global I.ok.kind hg (Calls.loadGlobal_global (by rw[I.ok.glob];exact I.mod.glob.keeps I.bk) hm h) hd
theorem ja {E:Value→Shared→Prop}{pins:List (Addr×Obj)}{s:Shared}{σ:St}{H:Hp}{x:Str}{u:Value}{pos:Pos}{Q:Value→Shared→Prop}(I:Inv X pins σ H s)(hg:Gl X x)(hm:X.mg x=none)(hv:bootBuiltins x=some u)(h:Q u s)
    (hn:x ≠ "__name__" := by decide) (hd:(x == ("__debug__" : Str))=false:=by decide):wpAny (model X.prog X.w) X.A (eval (.Name x pos) X.env) Q E s:=by
  obtain ⟨mb,h1,h2⟩:=I.mod.blt
  exact Calls.Name_function_global I.ok.kind hg (Calls.loadGlobal_builtin (by rw[I.ok.glob];exact I.mod.glob.keeps I.bk) hm (by rw[I.ok.blt];exact h1.keeps I.bk) ((h2 x hn).trans hv) h) hd
theorem tN {x:Str}{v:V}{u:Value}{pos:Pos}(hg:Gl X x)(hm:X.mg x=some u)(r:RelV v u)(hd:(x == ("__debug__" : Str))=false:=by decide):PE X (.Name x pos) (tC v):=
  fun _ _ _ H _ I h=>nh I hg hm ⟨v,H,I,r,h⟩ hd
theorem sH {x:Str}{v:V}{u:Value}{pos:Pos}(hg:Gl X x)(hm:X.mg x=none)(hv:bootBuiltins x=some u)(r:RelV v u)(hn:x ≠ "__name__" := by decide)(hd:(x == ("__debug__" : Str))=false:=by decide):PE X (.Name x pos) (tC v):=
  fun _ _ _ H _ I h=>ja I hg hm hv ⟨v,H,I,r,h⟩ hn hd
variable {a b:Expr} {ta tb:TE} {pos:Pos}
def tB (t:TE):TT:=fun σ H Q=>t σ H fun x H1=>∃ c,x=.bl c∧Q c H1
theorem wU {e:Expr}{t:TE}(h:PE X e t)(he:∀ whole,isTrue e X.env whole=(do let v ← whole;standAt e.pos;holding [v] (truthy v)):=by intro _;rfl):PT X e (tB t):=by
  intro pins s σ H Q I hw
  refine isTrue_plain (thn (h pins s σ H _ I hw) fun v s1 ⟨x,H1,I1,r1,q1⟩=>?_) (he _)
  obtain ⟨d,rfl,q⟩:=q1
  cases r1
  exact wpAny_truthy_bool ⟨H1,I1,q⟩
variable {tA tB':TT} {rest:List Expr}
def zx (t u:TT):TT:=fun σ H Q=>t σ H fun c H1=>if c=true then u σ H1 Q else Q false H1
def tOr (t u:TT):TT:=fun σ H Q=>t σ H fun c H1=>if c=true then Q true H1 else u σ H1 Q
def zr (t:TT):TT:=fun σ H Q=>t σ H fun c H1=>Q (!c) H1
theorem pw_and1 (ha:PT X a tA):PW X (.BoolOp .And [a] pos) tA:=by
  intro wh pins s σ H Q I h
  refine isTrue_and (thn (ha pins s σ H Q I h) fun c s1 e=>?_)
  cases c with
  | true=>exact isTrue_and_nil e
  | false=>exact e
theorem pw_or1 (ha:PT X a tA):PW X (.BoolOp .Or [a] pos) tA:=by
  intro wh pins s σ H Q I h
  refine isTrue_or (thn (ha pins s σ H Q I h) fun c s1 e=>?_)
  cases c with
  | false=>exact isTrue_or_nil e
  | true=>exact e
theorem pw_and (ha:PT X a tA)(hb:PW X (.BoolOp .And (b::rest) pos) tB'):PW X (.BoolOp .And (a::b::rest) pos) (zx tA tB'):=by
  intro wh pins s σ H Q I h
  refine isTrue_and (thn (ha pins s σ H _ I h) fun c s1 ⟨H1,I1,q1⟩=>?_)
  cases c with
  | true=>exact hb wh pins s1 σ H1 Q I1 q1
  | false=>exact ⟨H1,I1,q1⟩
theorem pw_or (ha:PT X a tA)(hb:PW X (.BoolOp .Or (b::rest) pos) tB'):PW X (.BoolOp .Or (a::b::rest) pos) (tOr tA tB'):=by
  intro wh pins s σ H Q I h
  refine isTrue_or (thn (ha pins s σ H _ I h) fun c s1 ⟨H1,I1,q1⟩=>?_)
  cases c with
  | true=>exact ⟨H1,I1,q1⟩
  | false=>exact hb wh pins s1 σ H1 Q I1 q1
theorem vI (ha:PT X a tA):PT X (.UnaryOp .Not a pos) (zr tA):=by
  intro pins s σ H Q I h
  exact isTrue_not (ha pins s σ H (fun c H1=>Q (!c) H1) I h)
def yR (ta tb:TE):TE:=fun σ H Q=>ta σ H fun x H1=>∃ c,x=.bl c∧if c=true then tb σ H1 Q else Q (.bl false) H1
def yu (ta:TE):TE:=fun σ H Q=>ta σ H fun x H1=>∃ c,x=.bl c∧Q (.bl (!c)) H1
theorem uY {op}{t:TE}(h:PE X a t):PE X (.BoolOp op [a] pos) t:=fun pins s σ H Q I hw=>BoolOp_one (h pins s σ H Q I hw)
theorem uN (ha:PE X a ta)(hb:PE X (.BoolOp .And (b::rest) pos) tb):PE X (.BoolOp .And (a::b::rest) pos) (yR ta tb):=by
  intro pins s σ H Q I h
  refine BoolOp_and (thn (ha pins s σ H _ I h) fun v s1 ⟨x,H1,I1,r1,q1⟩=>?_)
  obtain ⟨c,rfl,q1⟩:=q1
  cases r1
  refine wpAny_truthy_bool ?_
  cases c with
  | true=>exact hb pins s1 σ H1 Q I1 q1
  | false=>exact ⟨.bl false,H1,I1,rfl,q1⟩
theorem vZ (ha:PE X a ta):PE X (.UnaryOp .Not a pos) (yu ta):=by
  intro pins s σ H Q I h
  refine UnaryOp_ (thn (ha pins s σ H _ I h) fun v s1 ⟨x,H1,I1,r1,q1⟩=>?_)
  obtain ⟨c,rfl,q1⟩:=q1
  cases r1
  exact not_of (wpAny_truthy_bool ⟨.bl (!c),H1,I1,rfl,q1⟩)
def tIf (t:TT)(ta tb:TE):TE:=fun σ H Q=>t σ H fun c H1=>if c=true then ta σ H1 Q else tb σ H1 Q
theorem pR {c:Expr}(hc:PT X c tA)(ha:PE X a ta)(hb:PE X b tb):PE X (.IfExp c a b pos) (tIf tA ta tb):=by
  intro pins s σ H Q I h
  refine wpAny_IfExp (thn (hc pins s σ H _ I h) fun d s1 ⟨H1,I1,q1⟩=>?_)
  cases d with
  | true=>exact ha pins s1 σ H1 Q I1 q1
  | false=>exact hb pins s1 σ H1 Q I1 q1
end
end L2
namespace L2
open PySem PySem.Spec PyProof.Rows
def SqL (K:PySem.W.Frag)(H:Hp)(a:Addr)(xs:List V):Prop:=
  Rd H a (.lst xs)∨
    ∃ (o:Obj) (its:Array Value) (n:Nat),K.lookup a=some o∧o.cls=.type "list" ∧ o.dict=none∧o.data=.seq its n∧its.size≤sizeLine∧Vals xs its.toList
def SqT (K:PySem.W.Frag)(H:Hp)(a:Addr)(xs:List V):Prop:=
  Rd H a (.tup xs)∨
    ∃ (o:Obj) (its:Array Value) (n:Nat),K.lookup a=some o∧o.cls=.type "tuple" ∧ o.dict=none∧o.data=.seq its n∧its.size≤sizeLine∧Vals xs its.toList
def zv:Value→Option V
  | .none=>some .non
  | .bool b=>some (.bl b)
  | .int i _=>some (.int i)
  | .str x _=>some (.str x)
  | .bytes b _=>some (.byt b)
  | .float b _=>some (.flt b)
  | .ref a=>some (.ref a)
  | .type n=>some (.ty n)
  | _=>none
theorem RelV.abs {x:V}{u:Value}(r:RelV x u):zv u=some x:=by
  cases x with
  | non=>cases r;rfl
  | bl _=>cases r;rfl
  | int _=>obtain ⟨t,rfl⟩:=r;rfl
  | str _=>obtain ⟨t,rfl⟩:=r;rfl
  | byt _=>obtain ⟨t,rfl⟩:=r;rfl
  | flt _=>obtain ⟨t,rfl⟩:=r;rfl
  | ref _=>cases r;rfl
  | ty _=>cases r;rfl
theorem RelV.inj {x y:V}{u:Value}(r:RelV x u)(q:RelV y u):x=y:=Option.some.inj (r.abs.symm.trans q.abs)
theorem Vals.inj:∀ {xs ys:List V} {us:List Value},Vals xs us→Vals ys us→xs=ys
  | _,_,_,.nil,.nil=>rfl
  | _,_,_,.cons r t,.cons r' t'=>by rw[r.inj r',Vals.inj t t']
section
variable {X:Cx} {pins:List (Addr×Obj)} {σ:St} {H:Hp} {s:Shared} {a:Addr} {xs ys:List V}
theorem SqL.of {K:PySem.W.Frag}(h:H a=some (.lst xs)):SqL K H a xs:=.inl (.inl h)
theorem SqT.of {K:PySem.W.Frag}(h:H a=some (.tup xs)):SqT K H a xs:=.inl (.inl h)
theorem Inv.list (I:Inv X pins σ H s)(h:SqL X.K H a xs):∃ its:List Value,Vals xs its∧PlainL s.heap a its.toArray∧xs.length≤sizeLine:=by
  rcases h with h | ⟨o,its,n,hk,hc,hd,hs,hz,r⟩
  · obtain ⟨z,its,n,r,e⟩:=h.ok I.hok
    exact ⟨its,r,⟨_,n,e,rfl,rfl,rfl⟩,z⟩
  · refine ⟨its.toList,r,⟨o,n,I.kIn a o hk,hc,hd,by simpa using hs⟩,?_⟩
    have e:=r.length
    simp only[Array.length_toList] at e
    omega
theorem Inv.tuple (I:Inv X pins σ H s)(h:SqT X.K H a xs):∃ its:List Value,Vals xs its∧IsTup s.heap a its.toArray∧xs.length≤sizeLine:=by
  rcases h with h | ⟨o,its,n,hk,hc,hdn,hs,hz,r⟩
  · obtain ⟨z,its,r,p⟩:=h.ok I.hok
    exact ⟨its,r,p.tup,z⟩
  · refine ⟨its.toList,r,⟨o,I.kIn a o hk,hc,n,by simpa using hs⟩,?_⟩
    have e:=r.length
    simp only[Array.length_toList] at e
    omega
theorem Inv.qi (I:Inv X pins σ H s)(h:SqL X.K H a xs)(h':SqL X.K H a ys):xs=ys:=by
  obtain ⟨its,r,⟨o,n,e,_,_,d⟩,_⟩:=I.list h
  obtain ⟨its',r',⟨o',n',e',_,_,d'⟩,_⟩:=I.list h'
  rw[e] at e';cases e'
  rw[d] at d'
  injection d' with d1 _
  have:its=its':=by simpa using congrArg Array.toList d1
  subst this
  exact r.inj r'
theorem Inv.nL (I:Inv X pins σ H s)(h:SqT X.K H a xs)(h':SqT X.K H a ys):xs=ys:=by
  obtain ⟨its,r,⟨o,e,_,n,d⟩,_⟩:=I.tuple h
  obtain ⟨its',r',⟨o',e',_,n',d'⟩,_⟩:=I.tuple h'
  rw[e] at e';cases e'
  rw[d] at d'
  injection d' with d1 _
  have:its=its':=by simpa using congrArg Array.toList d1
  subst this
  exact r.inj r'
end
abbrev Cx.eZ (X:Cx)(E:Value→Shared→Prop):Cx:={ X with xe:=E }
abbrev Cx.nox (X:Cx):Cx:=X.eZ fun _ _=>False
theorem Cx.Ok.eZ {X:Cx}(ok:X.Ok)(E:Value→Shared→Prop):(X.eZ E).Ok:=
  ⟨ok.mod,ok.kind,ok.glob,ok.blt,ok.above,ok.inj,ok.has,ok.cab,ok.hd,ok.frames,ok.stk,ok.exf,ok.bs,ok.bsz,ok.ql,ok.oK,ok.eN,ok.frf⟩
theorem Cx.Ok.bU {X:Cx}{E:Value→Shared→Prop}(ok:(X.eZ E).Ok):X.Ok:=
  ⟨ok.mod,ok.kind,ok.glob,ok.blt,ok.above,ok.inj,ok.has,ok.cab,ok.hd,ok.frames,ok.stk,ok.exf,ok.bs,ok.bsz,ok.ql,ok.oK,ok.eN,ok.frf⟩
section
variable {X:Cx} {pins:List (Addr×Obj)} {σ:St} {H:Hp} {s:Shared} {E:Value→Shared→Prop}
theorem Inv.eZ (I:Inv X pins σ H s)(E:Value→Shared→Prop):Inv (X.eZ E) pins σ H s:=⟨I.ok.eZ E,I.os,I.bare,I.base,I.loc,I.cell,I.free,I.cL,I.pin,I.hok,I.len⟩
theorem Inv.bU (I:Inv (X.eZ E) pins σ H s):Inv X pins σ H s:=⟨I.ok.bU,I.os,I.bare,I.base,I.loc,I.cell,I.free,I.cL,I.pin,I.hok,I.len⟩
theorem SP.bU {D:Ends}{f:Flow}{s':Shared}(h:SP (X.eZ E) pins D f s'):SP X pins D f s':=by
  cases f with
  | next=>obtain ⟨σ',H',I,q⟩:=h;exact ⟨σ',H',I.bU,q⟩
  | brk=>obtain ⟨σ',H',I,q⟩:=h;exact ⟨σ',H',I.bU,q⟩
  | cont=>obtain ⟨σ',H',I,q⟩:=h;exact ⟨σ',H',I.bU,q⟩
  | ret u=>obtain ⟨v,σ',H',I,r,q⟩:=h;exact ⟨v,σ',H',I.bU,r,q⟩
theorem PE.nox {e:Expr}{t:TE}(h:PE X.nox e t):PE X e t:=fun pins s σ H Q I hw=>
  wpAny_mono (h pins s σ H Q (I.eZ _) hw) (fun _ _ ⟨v,H',I',r,q⟩=>⟨v,H',I'.bU,r,q⟩) fun _ _ z=>False.elim z
theorem PT.nox {e:Expr}{t:TT}(h:PT X.nox e t):PT X e t:=fun pins s σ H Q I hw=>
  wpAny_mono (h pins s σ H Q (I.eZ _) hw) (fun _ _ ⟨H',I',q⟩=>⟨H',I'.bU,q⟩) fun _ _ z=>False.elim z
theorem PSs.nox {st:List Stmt}{t:TS}(h:PSs X.nox st t):PSs X st t:=fun pins s σ H D I hw=>
  wpAny_mono (h pins s σ H D (I.eZ _) hw) (fun _ _ q=>q.bU) fun _ _ z=>False.elim z
end
section
variable {X:Cx} {st:Stmt} {rest:List Stmt} {t u:TS} {e:Expr} {te:TE} {pos:Pos}
def yW:TS:=fun D σ H=>D.nx σ H
def zj (t u:TS):TS:=fun D σ H=>t { D with nx:=u D } σ H
theorem tw:PSs X [] yW:=fun _ _ σ H _ I h=>wpAny_execs_nil ⟨σ,H,I,h⟩
theorem pK (h1:PS X st t)(h2:PSs X rest u):PSs X (st::rest) (zj t u):=by
  intro pins s σ H D I h
  refine wpAny_execs_cons (thn (h1 pins s σ H { D with nx:=u D } I h) fun f s1 q=>?_)
  cases f with
  | next=>
    obtain ⟨σ',H',I',q⟩:=q
    exact h2 pins s1 σ' H' D I' q
  | ret v=>exact q
  | brk=>exact q
  | cont=>exact q
theorem tQ (h1:PS X st t):PSs X [st] t:=by
  intro pins s σ H D I h
  refine wpAny_execs_cons (thn (h1 pins s σ H D I h) fun f s1 q=>?_)
  cases f with
  | next=>exact wpAny_execs_nil q
  | ret v=>exact q
  | brk=>exact q
  | cont=>exact q
def zw (te:TE):TS:=fun D σ H=>te σ H D.rt
theorem wX (he:PE X e te):PS X (.Return (some e) pos) (zw te):=by
  intro pins s σ H D I h
  exact wpAny_Return_some (thn (he pins s σ H _ I h) fun v s1 ⟨x,H1,I1,r1,q1⟩=>⟨x,σ,H1,I1,r1,q1⟩)
def zy (c:TT)(t u:TS):TS:=fun D σ H=>c σ H fun b H1=>if b=true then t D σ H1 else u D σ H1
theorem yl {c:Expr}{a b:List Stmt}{tc:TT}(hc:PT X c tc)(ha:PSs X a t)(hb:PSs X b u):PS X (.If c a b pos) (zy tc t u):=by
  intro pins s σ H D I h
  refine wpAny_If (thn (hc pins s σ H _ I h) fun d s1 ⟨H1,I1,q1⟩=>?_)
  cases d with
  | true=>exact ha pins s1 σ H1 D I1 q1
  | false=>exact hb pins s1 σ H1 D I1 q1
end
abbrev TG:=V→St→Hp→(St→Hp→Prop)→Prop
abbrev TGs:=List V→St→Hp→(St→Hp→Prop)→Prop
def PG (X:Cx)(target:Expr)(t:TG):Prop:=
  ∀ (pins:List (Addr×Obj)) (s:Shared) (σ:St) (H:Hp) (v:V) (u:Value) (Q:St→Hp→Prop),Inv X pins σ H s→RelV v u→t v σ H Q→
    wpAny (model X.prog X.w) X.A (assign target X.env u) (fun _ s'=>∃ σ' H',Inv X pins σ' H' s'∧Q σ' H') X.xe s
def PGs (X:Cx)(ts:List Expr)(t:TGs):Prop:=
  ∀ (pins:List (Addr×Obj)) (s:Shared) (σ:St) (H:Hp) (vs:List V) (us:List Value) (Q:St→Hp→Prop),Inv X pins σ H s→Vals vs us→t vs σ H Q→
    wpAny (model X.prog X.w) X.A (assignInOrder ((assignEach ts X.env).map (·.2)) us) (fun _ s'=>∃ σ' H',Inv X pins σ' H' s'∧Q σ' H') X.xe s
abbrev vi:=V→V→V→Hp→(Hp→Prop)→Prop
def xn (X:Cx)(t:vi):Prop:=
  ∀ (pins:List (Addr×Obj)) (s:Shared) (σ:St) (H:Hp) (o i v:V) (ov iv u:Value) (Q:Hp→Prop),Inv X pins σ H s→RelV o ov→RelV i iv→RelV v u→t o i v H Q→
    wpAny (model X.prog X.w) X.A (setItem ov iv u) (fun _ s'=>∃ H',Inv X pins σ H' s'∧Q H') X.xe s
section
variable {X:Cx} {pos:Pos}
def pV (i:Nat):TG:=fun v σ H Q=>Q (σ.set i (some v)) H
theorem i4 {i:Nat}{x:Str}(hN:X.N.Nodup)(hi:X.N[i]? = some x)(hx:Loc X.env.scope x)(hf:X.fn x=true∨X.env.scope.names.lookup x=some .local:=by first | exact .inl rfl | exact .inr rfl | assumption):PG X (.Name x pos) (pV i):=by
  intro pins s σ H v u Q I r h
  exact wpAny_assign_Name (dF I hN hi hx r (fun s' I'=>⟨_,H,I',h⟩) hf)
def zC:TGs:=fun vs σ H Q=>vs=[]∧Q σ H
def xg (t:TG)(u:TGs):TGs:=fun vs σ H Q=>∃ v r,vs=v::r∧t v σ H fun σ' H'=>u r σ' H' Q
theorem sT:PGs X [] zC:=by
  intro pins s σ H vs us Q I r h
  obtain ⟨e,h⟩:=h
  subst e
  cases r
  exact assignInOrder_nil ⟨σ,H,I,h⟩
theorem pf {e:Expr}{es:List Expr}{t:TG}{u:TGs}(h1:PG X e t)(h2:PGs X es u)
    (hs:(assignEach (e::es) X.env).map (·.2)=assign e X.env::(assignEach es X.env).map (·.2):=by rfl):PGs X (e::es) (xg t u):=by
  intro pins s σ H vs us Q I r h
  obtain ⟨v,vr,e1,h⟩:=h
  subst e1
  cases r with
  | cons r rr=>
    rw[hs]
    refine assignInOrder_cons (thn (h1 pins s σ H _ _ _ I r h) fun _ s1 ⟨σ1,H1,I1,q1⟩=>?_)
    exact h2 pins s1 σ1 H1 _ _ Q I1 rr q1
def zo (K:PySem.W.Frag)(n:Nat)(t:TGs):TG:=fun v σ H Q=>∃ a xs,v=.ref a∧SqT K H a xs∧xs.length=n∧t xs σ H Q
theorem u5 {es:List Expr}{k:Nat}{t:TGs}{n:Nat}(hc:X.calm=true)(h:PGs X es t)
    (hn:(assignEach es X.env).length=n:=by rfl) (hst:(assignEach es X.env).findIdx? (·.1)=none:=by rfl):PG X (.Tuple es k pos) (zo X.K n t):=by
  intro pins s σ H v u Q I r hw
  obtain ⟨a,xs,e1,hq,hl,hw⟩:=hw
  subst e1
  cases r
  obtain ⟨its,rv,ht,hz⟩:=I.tuple hq
  refine assign_Tuple_tuple (I.ok.hd hc) ht (by simp[hn,← hl,rv.length]) hst fun h' hx=>?_
  have I1:Inv X pins σ H { s with heap:=h' }:=I.kept (t':=s.toks) fun b o e=>hx b o (Nat.ne_of_lt (Heap.lt_size e)) e
  exact h pins _ σ H xs _ Q I1 (by simpa using rv) hw
def zl (to ti:TE)(t:vi):TG:=fun v σ H Q=>to σ H fun o H1=>ti σ H1 fun i H2=>t o i v H2 fun H3=>Q σ H3
theorem vd {o i:Expr}{to ti:TE}{t:vi}(ho:PE X o to)(hi:PE X i ti)(hs:xn X t)
    (ha:∀ v,assign (.Subscript o i pos) X.env v=(do
      let ov ← holding [v] (eval o X.env)
      let iv ← holding [v,ov] (eval i X.env)
      standAt pos
      holding [v,ov,iv] (setItem ov iv v)
      release [v,ov,iv] []):=by intro _;rfl):PG X (.Subscript o i pos) (zl to ti t):=by
  intro pins s σ H v u Q I r h
  rw[ha]
  refine wpAny_bind (wpAny_holding (thn (ho pins s σ H _ I h) fun ov s1 ⟨x,H1,I1,r1,q1⟩=>?_))
  refine wpAny_bind (wpAny_holding (thn (hi pins s1 σ H1 _ I1 q1) fun iv s2 ⟨y,H2,I2,r2,q2⟩=>?_))
  refine wpAny_bind (wpAny_standAt (wpAny_bind (wpAny_holding (thn (hs pins s2 σ H2 x y v ov iv u _ I2 r1 r2 r q2) fun _ s3 ⟨H3,I3,q3⟩=>?_))))
  exact wpAny_release ⟨σ,H3,I3,q3⟩
def yY (te:TE)(g:TG):TS:=fun D σ H=>te σ H fun x H1=>g x σ H1 D.nx
theorem vJ {tg e:Expr}{te:TE}{g:TG}(he:PE X e te)(hg:PG X tg g)(hs:swapsWithSole [tg] e pos.line X.env=pure false:=by rfl)(hw:swappedStores [tg] e X.env=pure none:=by rfl)
    (h1:(assignEach [tg] X.env).map (·.2)=[assign tg X.env]:=by rfl):PS X (.Assign [tg] e pos) (yY te g):=by
  intro pins s σ H D I h
  refine wpAny_Assign_stores (thn (he pins s σ H _ I h) fun v s1 ⟨x,H1,I1,r1,q1⟩=>?_) hs hw
  rw[h1]
  exact thn (hg pins s1 σ H1 x v _ I1 r1 q1) fun _ s2 q=>q
theorem vq {i:Nat}{x:Str}{e:Expr}{te:TE}{pos':Pos}(hN:X.N.Nodup)(hi:X.N[i]? = some x)(hx:Loc X.env.scope x)(he:PE X e te)(hs:swapsWith e (some (.Name x pos')) pos.line X.env=pure false:=by rfl)(hf:X.fn x=true∨X.env.scope.names.lookup x=some .local:=by first | exact .inl rfl | exact .inr rfl | assumption) :
    PS X (.Assign [.Name x pos'] e pos) (yY te (pV i)):=by
  intro pins s σ H D I h
  refine wpAny_Assign_Name (thn (he pins s σ H _ I h) fun v s1 ⟨y,H1,I1,r1,q1⟩=>?_) hs
  exact dF I1 hN hi hx r1 (fun s2 I2=>⟨_,H1,I2,q1⟩) hf
def zI (i j:Nat)(ta:TA):TS:=fun D σ H=>ta σ H fun vs H1=>∃ v w,vs=[v,w]∧D.nx ((σ.set i (some v)).set j (some w)) H1
theorem u3 {i j:Nat}{x y:Str}{a b:Expr}{ta:TA}{px py pt:Pos}{kt k2 pt2}(hc:X.calm=true)(hN:X.N.Nodup)(hi:X.N[i]? = some x)(hj:X.N[j]? = some y)(hij:i≠j)
    (hx:X.env.scope.names.lookup x=some .local) (hy:X.env.scope.names.lookup y=some .local) (ha:PA X [a,b] ta)
    (hw:swappedStores [.Tuple [.Name x px,.Name y py] kt pt] (.Tuple [a,b] k2 pt2) X.env=pure (some [x,y]))
    (hs:swapsWithSole [.Tuple [.Name x px,.Name y py] kt pt] (.Tuple [a,b] k2 pt2) pos.line X.env=pure false:=by rfl) :
    PS X (.Assign [.Tuple [.Name x px,.Name y py] kt pt] (.Tuple [a,b] k2 pt2) pos) (zI i j ta):=by
  intro pins s σ H D I h
  rw[exec_Assign_arm]
  refine wpAny_bind (wpAny_standAt ?_)
  rw[hs]
  refine wpAny_bind (wpAny_pure ?_)
  rw[if_neg (by decide)]
  refine wpAny_bind (Tuple_ (thn (ha _ pins s σ H _ I h) fun us s1 ⟨vs,H1,I1,r1,q1⟩=>?_))
  obtain ⟨v,w,e1,q1⟩:=q1
  subst e1
  obtain ⟨u1,u2,rfl,rv,rw'⟩:∃ u1 u2,us=[u1,u2]∧RelV v u1∧RelV w u2:=by
    cases r1 with
    | cons p q=>
      cases q with
      | cons p' q'=>
        cases q'
        exact ⟨_,_,rfl,p,p'⟩
  refine wpAny_newObj_type ?_ (by show 2≤sizeLine;decide)
  have I2:Inv X pins σ H1 { s1 with heap:=s1.heap.push { cls:=.type "tuple", data:=.seq [u1,u2].toArray } }:=I1.kept (t':=s1.toks) fun b o e=>Heap.get?_push_of_some _ e
  rw[hw]
  refine wpAny_bind (wpAny_pure ?_)
  show wpAny (model X.prog X.w) X.A (do rule "assign.swapped-stores";let items ← unpackItems (.ref s1.heap.objs.size) 2 none;assignInOrder [fun v=>bindName X.env y v,fun v=>bindName X.env x v] items.reverse;pure Flow.next) _ _ _
  refine wpAny_bind (wpAny_rule (wpAny_bind (unpackItems_tuple (items:=#[u1,u2]) (I.ok.hd hc) (IsTup.new s1.heap _) fun h' hx'=>?_)))
  have I3:=I2.kept (h':=h') (t':=s1.toks) fun b o e=>hx' b o (Nat.ne_of_lt (Heap.lt_size e)) e
  show wpAny _ _ (assignInOrder [fun v=>bindName X.env y v,fun v=>bindName X.env x v] [u2,u1] >>= fun _=>pure Flow.next) _ _ _
  refine wpAny_bind (assignInOrder_cons (wpAny_bindName (dF I3 hN hj (.inl hy) rw' (fun s2 I4=>?_) (.inr hy))))
  refine assignInOrder_cons (wpAny_bindName (dF I4 hN hi (.inl hx) rv (fun s3 I5=>assignInOrder_nil (wpAny_pure ?_)) (.inr hx)))
  rw[List.set_comm _ _ (Ne.symm hij)] at I5
  exact ⟨_,H1,I5,q1⟩
end
section
variable {X:Cx} {pos:Pos}
def wu (c:TT)(tb:TS):TS:=fun D σ H=>∃ W:Nat→St→Hp→Prop,(∃ m,W m σ H)∧∀ m σ H,W m σ H→
  c σ H fun b H1=>if b=true then ∃ N:St→Hp→Prop,(∀ σ' H',N σ' H'→∃ m',m' < m∧W m' σ' H')∧tb { D with nx:=N,ct:=N,bk:=D.nx } σ H1 else D.nx σ H1
theorem o7 {c:Expr}{body:List Stmt}{tc:TT}{tb:TS}(hp:PassesOwn (model X.prog X.w) X.A X.env X.xe)(hc:PT X c tc)(hb:PSs X body tb):PS X (.While c body [] pos) (wu tc tb):=by
  intro pins s σ H D I h
  obtain ⟨W,⟨m0,w0⟩,turn⟩:=h
  refine wpAny_While (codeAny_whileLoop (fun n s'=>∃ σ' H',Inv X pins σ' H' s'∧W n σ' H') ?_ m0 ⟨σ,H,I,w0⟩)
  rintro n s1 ⟨σ1,H1,I1,w1⟩
  refine wpAny_passesOwn hp (thn (hc pins s1 σ1 H1 _ I1 (turn n σ1 H1 w1)) fun b s2 ⟨H2,I2,q2⟩=>?_)
  cases b with
  | true=>
    obtain ⟨N,hN,q2⟩:=q2
    rw[if_pos rfl]
    refine wpAny_passesOwn hp (thn (hb pins s2 σ1 H2 _ I2 q2) fun f s3 q3=>?_)
    cases f with
    | next=>
      obtain ⟨σ3,H3,I3,n3⟩:=q3
      obtain ⟨m',hm,w3⟩:=hN σ3 H3 n3
      exact ⟨m',hm,σ3,H3,I3,w3⟩
    | cont=>
      obtain ⟨σ3,H3,I3,n3⟩:=q3
      obtain ⟨m',hm,w3⟩:=hN σ3 H3 n3
      exact ⟨m',hm,σ3,H3,I3,w3⟩
    | brk=>exact q3
    | ret v=>exact q3
  | false=>
    rw[if_neg Bool.false_ne_true]
    exact wpAny_execs_nil ⟨σ1,H2,I2,q2⟩
end
structure It where
  go:Nat→Hp→Prop
  yld:Nat→Hp→V→Hp→Prop
  stop:Nat→Hp→Prop
def kr (X:Cx)(pins:List (Addr×Obj))(H:Hp)(b:Addr):Prop:=
  H b=none∧b≠X.env.locals∧b ∉ X.fs∧(b∈X.ex∨X.s₀.heap.objs.size≤b)∧(∀ x c,X.env.cells.lookup x=some c→c≠b)∧∀ p∈X.pn++pins,p.1≠b
theorem Inv.u0 {X:Cx}{pins:List (Addr×Obj)}{σ:St}{H H':Hp}{s:Shared}{b:Addr}(I:Inv X pins σ H s)(hb:s.heap.objs.size≤b)(hn:H' b=none):kr X pins H' b:=by
  refine ⟨hn,Nat.ne_of_gt (Nat.lt_of_lt_of_le I.lt hb),I.zt hb,.inr (Nat.le_trans I.sz hb),fun x c e z=>?_,fun p hp z=>?_⟩
  · obtain ⟨v,q⟩:=I.cell x c e
    exact absurd (Nat.lt_of_lt_of_le q.lt (by rw[z];exact hb)) (Nat.lt_irrefl _)
  · exact absurd (Nat.lt_of_lt_of_le (Heap.lt_size (I.pin p hp).1) (by rw[z];exact hb)) (Nat.lt_irrefl _)
structure Turn (P:Program) (w:World) (K:PySem.W.Frag) (tg:Expr) (J:It) (fp:List Addr) (it:Addr) (tn:Nat→Heap→Prop):Prop where
  mem:it∈fp
  obj:∀ i h,tn i h→∀ b∈fp,∃ o,h.get? b=some o∧∀ v,o.data≠.cell v
  keep:∀ i h h',tn i h→(∀ b∈fp,∀ o,h.get? b=some o→h'.get? b=some o)→tn i h'
  item:∀ (X:Cx),X.prog=P→X.w=w→X.K=K→X.calm=true→∀ (i:Nat) (pins:List (Addr×Obj)) (s:Shared) (σ:St) (H:Hp) (E:Value→Shared→Prop),Inv X pins σ H s→(∀ b∈fp,kr X pins H b)→tn i s.heap→J.go i H→
    wpAny (model P w) X.A (pyNext (.ref it)) (fun r s1=>∃ u,r=some u∧
      wpAny (model P w) X.A (letOwnedTupleGo tg (.ref it) u) (fun _ s2=>∃ x H',Inv X pins σ H' s2∧RelV x u∧J.yld i H x H'∧tn (i+1) s2.heap∧∀ b∈fp,H' b=none) E s1) E s
  done:∀ (X:Cx),X.prog=P→X.w=w→X.K=K→X.calm=true→∀ (i:Nat) (pins:List (Addr×Obj)) (s:Shared) (σ:St) (H:Hp) (E:Value→Shared→Prop),Inv X pins σ H s→(∀ b∈fp,kr X pins H b)→tn i s.heap→J.stop i H→
    wpAny (model P w) X.A (pyNext (.ref it)) (fun r s1=>r=none∧Inv X pins σ H s1) E s
  self:∀ (A:Around) (i:Nat) (s:Shared) (Q:Value→Shared→Prop) (E:Value→Shared→Prop),tn i s.heap→Q (.ref it) s→wpAny (model P w) A (pyIter (.ref it)) Q E s
abbrev TI:=St→Hp→(It→Hp→Prop)→Prop
def PIE (X:Cx)(pins:List (Addr×Obj))(σ:St)(tg:Expr)(R:It→Hp→Prop)(itv:Value)(s2:Shared):Prop:=
  ∃ (it:Addr) (fp:List Addr) (tn:Nat→Heap→Prop) (J:It) (H':Hp),itv=.ref it∧Inv X pins σ H' s2∧Turn X.prog X.w X.K tg J fp it tn∧tn 0 s2.heap∧(∀ b∈fp,kr X pins H' b)∧R J H'
def PI (X:Cx)(tg iter:Expr)(wi:TI):Prop:=
  ∀ (pins:List (Addr×Obj)) (s:Shared) (σ:St) (H:Hp) (R:It→Hp→Prop),Inv X pins σ H s→wi σ H R→
    wpAny (model X.prog X.w) X.A (eval iter X.env) (fun v s1=>wpAny (model X.prog X.w) X.A (pyIter v) (PIE X pins σ tg R) X.xe s1) X.xe s
theorem mW {M:Model}{A:Around}{E:Value→Shared→Prop}{s:Shared}{tg:Expr}{it:Addr}{u:Value}{o:Obj}{n:String}{vs:Array Value}{Q:Unit→Shared→Prop}(ho:s.heap.get? it=some o)(hc:o.cls=.type n)(hd:o.data=.fields vs)
    (hn:["enumerate", "zip", "dict_itemiterator", "dict_reverseitemiterator", "odict_iterator", "itertools.zip_longest", "itertools.pairwise"].contains n=false) (hQ:Q () s):wpAny M A (letOwnedTupleGo tg (.ref it) u) Q E s:=by
  unfold letOwnedTupleGo
  cases tg<;>first
    | exact wpAny_pure hQ
    | (cases u<;>first
        | exact wpAny_pure hQ
        | (refine wpAny_bind (wpAny_load ho ?_)
           rw[hc,hd]
           show wpAny M A (if (["enumerate", "zip", "dict_itemiterator", "dict_reverseitemiterator", "odict_iterator", "itertools.zip_longest", "itertools.pairwise"].contains n&&vs[0]? == some (rawInt _))=true then _ else _) Q E s
           rw[if_neg (by intro h;rw[hn,Bool.false_and] at h;cases h)]
           exact wpAny_pure hQ))
def Itl (K:PySem.W.Frag)(a:Addr):It:=
  ⟨fun i H=>∃ xs x,SqL K H a xs∧xs[i]? = some x,fun i H x H'=>H'=H∧∀ xs,SqL K H a xs→xs[i]? = some x,fun i H=>∃ xs,SqL K H a xs∧xs.length≤i⟩
def Itt (K:PySem.W.Frag)(a:Addr):It:=
  ⟨fun i H=>∃ xs x,SqT K H a xs∧xs[i]? = some x,fun i H x H'=>H'=H∧∀ xs,SqT K H a xs→xs[i]? = some x,fun i H=>∃ xs,SqT K H a xs∧xs.length≤i⟩
def Itr (lo:Int)(n:Nat):It:=⟨fun i _=>i < n,fun i H x H'=>H'=H∧x=.int (lo+i),fun i _=>n≤i⟩
theorem ny {P:Program}{w:World}{K:PySem.W.Frag}{tg:Expr}(a it:Addr):Turn P w K tg (Itl K a) [it] it (fun i h=>h.IsListIter it a i) where
  mem:=by simp
  obj:=fun i h st b hb=>by
    have e:b=it:=by simpa using hb
    subst e
    obtain ⟨o,e,c,d⟩:=st
    exact ⟨o,e,fun v z=>by rw[d] at z;cases z⟩
  keep:=fun i h h' st k=>st.at fun o e=>k it (by simp) o e
  item:=by
    intro X hP hw hK hc i pins s σ H E I hf st hg
    subst hP hw hK
    obtain ⟨xs,x,hq,hx⟩:=hg
    obtain ⟨its,rv,p,hz⟩:=I.list hq
    obtain ⟨u,hu,ru⟩:=rv.get hx
    obtain ⟨f0,f1,f2,f3,f4,f5⟩:=hf it (by simp)
    refine wpAny_pyNext_list_item st p.isList (x:=u) (by simpa using hu) fun h' st' sb=>?_
    have I1:Inv X pins σ H { s with heap:=h' }:=I.turned (t':=s.toks) (fun b o hb e=>(sb.2 b hb).trans e) f0 f1 f3 f4 f5
    obtain ⟨o,e,c,d⟩:=id st'
    exact ⟨u,rfl,mW (s:={ s with heap:=h' }) e c d (by decide) ⟨x,H,I1,ru,⟨rfl,fun ys hy=>by rw[I.qi hy hq];exact hx⟩,st',fun b hb=>(hf b hb).1⟩⟩
  done:=by
    intro X hP hw hK hc i pins s σ H E I hf st hg
    subst hP hw hK
    obtain ⟨xs,hq,hx⟩:=hg
    obtain ⟨its,rv,p,hz⟩:=I.list hq
    obtain ⟨f0,f1,f2,f3,f4,f5⟩:=hf it (by simp)
    have hl:=rv.length
    exact wpAny_pyNext_list_end (I.ok.hd hc) st p.isList (by simp;omega) fun h' eb=>⟨rfl,I.turned (t':=s.toks) (fun b o hb e=>eb b o hb e) f0 f1 f3 f4 f5⟩
  self:=fun _ _ _ _ _ st h=>wpAny_pyIter_listiter st h
theorem kK {P:Program}{w:World}{K:PySem.W.Frag}{tg:Expr}(a it:Addr):Turn P w K tg (Itt K a) [it] it (fun i h=>h.IsTupleIter it a i) where
  mem:=by simp
  obj:=fun i h st b hb=>by
    have e:b=it:=by simpa using hb
    subst e
    obtain ⟨o,e,c,d⟩:=st
    exact ⟨o,e,fun v z=>by rw[d] at z;cases z⟩
  keep:=fun i h h' st k=>st.at fun o e=>k it (by simp) o e
  item:=by
    intro X hP hw hK hc i pins s σ H E I hf st hg
    subst hP hw hK
    obtain ⟨xs,x,hq,hx⟩:=hg
    obtain ⟨its,rv,p,hz⟩:=I.tuple hq
    obtain ⟨u,hu,ru⟩:=rv.get hx
    obtain ⟨f0,f1,f2,f3,f4,f5⟩:=hf it (by simp)
    refine wpAny_pyNext_tuple_item st (show s.heap.IsTuple a its.toArray from p) (x:=u) (by simpa using hu) fun h' st' sb=>?_
    have I1:Inv X pins σ H { s with heap:=h' }:=I.turned (t':=s.toks) (fun b o hb e=>(sb.2 b hb).trans e) f0 f1 f3 f4 f5
    obtain ⟨o,e,c,d⟩:=id st'
    exact ⟨u,rfl,mW (s:={ s with heap:=h' }) e c d (by decide) ⟨x,H,I1,ru,⟨rfl,fun ys hy=>by rw[I.nL hy hq];exact hx⟩,st',fun b hb=>(hf b hb).1⟩⟩
  done:=by
    intro X hP hw hK hc i pins s σ H E I hf st hg
    subst hP hw hK
    obtain ⟨xs,hq,hx⟩:=hg
    obtain ⟨its,rv,p,hz⟩:=I.tuple hq
    obtain ⟨f0,f1,f2,f3,f4,f5⟩:=hf it (by simp)
    have hl:=rv.length
    exact wpAny_pyNext_tuple_end (I.ok.hd hc) st (show s.heap.IsTuple a its.toArray from p) (by simp;omega) fun h' eb=>⟨rfl,I.turned (t':=s.toks) (fun b o hb e=>eb b o hb e) f0 f1 f3 f4 f5⟩
  self:=fun _ _ _ _ _ st h=>wpAny_pyIter_tupleiter st h
theorem lE {P:Program}{w:World}{K:PySem.W.Frag}{tg:Expr}(it:Addr)(lo:Int)(n:Nat):Turn P w K tg (Itr lo n) [it] it (fun i h=>IsRangeIter h it (lo+(i:Nat)*1) ((n:Int) - (i:Nat)) 1) where
  mem:=by simp
  obj:=fun i h st b hb=>by
    have e:b=it:=by simpa using hb
    subst e
    exact ⟨_,st,fun v z=>by
      have z':Data.fields _=Data.cell v:=z
      cases z'⟩
  keep:=fun i h h' st k=>k it (by simp) _ st
  item:=by
    intro X hP hw hK hc i pins s σ H E I hf st hg
    subst hP hw hK
    obtain ⟨f0,f1,f2,f3,f4,f5⟩:=hf it (by simp)
    have W:=Walks.range (prog:=X.prog) (w:=X.w) (I.ok.hd hc) it lo 1 n
    refine W.item i s _ _ hg st fun v h' tk hv st' kk=>?_
    obtain ⟨t,rfl⟩:=hv
    have I1:Inv X pins σ H { s with heap:=h',toks:=tk }:=I.turned (fun b o hb e=>kk b o (by simpa using hb) e) f0 f1 f3 f4 f5
    refine ⟨_,rfl,mW (s:={ s with heap:=h',toks:=tk }) (n := "range_iterator") st' rfl rfl (by decide) ⟨.int (lo+i),H,I1,⟨t,?_⟩,⟨rfl,rfl⟩,st',fun b hb=>(hf b hb).1⟩⟩
    rw[Int.mul_one]
  done:=by
    intro X hP hw hK hc i pins s σ H E I hf st hg
    subst hP hw hK
    obtain ⟨f0,f1,f2,f3,f4,f5⟩:=hf it (by simp)
    exact wpAny_pyNext_range_end (I.ok.hd hc) st (by have:n≤i:=hg;omega) fun h' eb=>⟨rfl,I.turned (t':=s.toks) (fun b o hb e=>eb b o hb e) f0 f1 f3 f4 f5⟩
  self:=fun _ _ _ _ _ st h=>wpAny_pyIter_rangeiter st h
end L2
namespace L2
open PySem PySem.Spec PyProof.Rows
section
variable {X:Cx} {tg:Expr}
theorem oS {pins:List (Addr×Obj)}{σ:St}{H:Hp}{s:Shared}{R:It→Hp→Prop}{E:Value→Shared→Prop}{lo hi:Int}{t u v:Tok}{tk:Nat}(I:Inv X pins σ H s)(h1:-(2 ^ 62)≤lo)(h2:lo < 2 ^ 62)(h3:-(2 ^ 62)≤hi)(h4:hi < 2 ^ 62)
    (q:R (Itr lo (hi - lo).toNat) H):wpAny (model X.prog X.w) X.A (pyIter (.ref s.heap.objs.size)) (PIE X pins σ tg R) E { s with heap:=s.heap.push { cls:=.type "range", data:=.fields #[.int lo t,.int hi u,.int 1 v] },toks:=tk }:=by
  refine wpAny_pyIter_range (IsRange.new ..) (small_one h1 h2 h3 h4) ?_
  have I1:Inv X pins σ H { s with heap:=s.heap.push { cls:=.type "range", data:=.fields #[.int lo t,.int hi u,.int 1 v] },toks:=tk }:=I.kept fun b o e=>Heap.get?_push_of_some _ e
  refine ⟨(s.heap.push { cls:=.type "range", data:=.fields #[.int lo t,.int hi u,.int 1 v] }).objs.size,[(s.heap.push { cls:=.type "range", data:=.fields #[.int lo t,.int hi u,.int 1 v] }).objs.size],_,_,H,rfl,
    I1.kept (t':=tk) fun b o e=>Heap.get?_push_of_some _ e,lE _ lo (hi - lo).toNat,?_,fun b hb=>?_,q⟩
  · have e1:lo+((0:Nat):Int)*1=lo:=by simp
    have e2:(((hi - lo).toNat:Nat):Int) - ((0:Nat):Int)=Builtin.Range.rangeSize lo hi 1:=by rw[rangeSize_one];split<;>omega
    show IsRangeIter _ _ (lo+((0:Nat):Int)*1) ((((hi - lo).toNat:Nat):Int) - ((0:Nat):Int)) 1
    rw[e1,e2]
    exact Heap.get?_push_size _ rfl
  · have e:b=(s.heap.push { cls:=.type "range", data:=.fields #[.int lo t,.int hi u,.int 1 v] }).objs.size:=by simpa using hb
    subst e
    exact I1.u0 (Nat.le_refl _) (I1.hok.fresh (Nat.le_refl _))
def yV (ta:TA):TI:=fun σ H R=>ta σ H fun vs H1=>∃ j:Int,vs=[.int j]∧-(2 ^ 62)≤j∧j < 2 ^ 62∧R (Itr 0 j.toNat) H1
theorem oi {a:Expr}{ta:TA}{p pos:Pos}(hg:Gl X "range")(hm:X.mg "range" = none)(ha:PA X [a] ta)(hs:starEach [a] X.env=[(false,eval a X.env)]:=by rfl):PI X tg (.Call (.Name "range" p) [a] [] pos) (yV ta):=by
  intro pins s σ H R I h
  refine Call_ (ja I hg hm boot_range (PyProof.Rows.callWith_type1 (thn (ha pos pins s σ H _ I h) fun us s1 ⟨vs,H1,I1,r1,q1⟩=>?_) hs rfl))
  obtain ⟨j,e,q1,q2,q⟩:=q1
  subst e
  cases r1 with
  | cons r rr=>
    cases rr
    obtain ⟨t,rfl⟩:=r
    exact call_range_1 (oS I1 (by omega) (by omega) q1 q2 (by simpa using q))
def zd (wi:TI)(g:TG)(tb:TS):TS:=fun D σ H=>wi σ H fun J H1=>∃ W:Nat→Nat→St→Hp→Prop,(∃ m,W 0 m σ H1)∧∀ i m σ H,W i m σ H→
  (J.stop i H∧D.nx σ H)∨(J.go i H∧∃ N:St→Hp→Prop,(∀ σ' H',N σ' H'→∃ m',m' < m∧W (i+1) m' σ' H')∧∀ x H',J.yld i H x H'→g x σ H' fun σ2 H2=>tb { D with nx:=N,ct:=N,bk:=D.nx } σ2 H2)
def fM (fp:List Addr)(h:Heap):List (Addr×Obj):=fp.filterMap fun b=>(h.get? b).map fun o=>(b,o)
theorem cq {fp:List Addr}{h:Heap}{b:Addr}{o:Obj}(hb:b∈fp)(e:h.get? b=some o):(b,o)∈fM fp h:=List.mem_filterMap.mpr ⟨b,hb,by rw[e];rfl⟩
theorem nV {fp:List Addr}{h:Heap}{p:Addr×Obj}(hp:p∈fM fp h):p.1∈fp∧h.get? p.1=some p.2:=by
  obtain ⟨b,hb,e⟩:=List.mem_filterMap.mp hp
  cases q:h.get? b with
  | none=>rw[q] at e;cases e
  | some o=>
    rw[q] at e
    have e':(b,o)=p:=Option.some.inj e
    subst e'
    exact ⟨hb,q⟩
theorem Inv.pinned {pins:List (Addr×Obj)}{σ:St}{H:Hp}{s:Shared}{fp:List Addr}(I:Inv X pins σ H s)(hf:∀ b∈fp,kr X pins H b)(ho:∀ b∈fp,∃ o,s.heap.get? b=some o∧∀ v,o.data≠.cell v):Inv X (pins++fM fp s.heap) σ H s:=
  I.mX fun p hp=>(List.mem_append.mp hp).elim (fun z=>I.pin p (List.mem_append_right _ z)) fun z=>by
    obtain ⟨hb,e⟩:=nV z
    obtain ⟨f0,f1,f2,_⟩:=hf p.1 hb
    obtain ⟨o,e',d⟩:=ho p.1 hb
    rw[e] at e';cases e'
    exact ⟨e,f0,f1,f2,d⟩
theorem Inv.dG {pins pl:List (Addr×Obj)}{σ:St}{H:Hp}{s:Shared}(I:Inv X (pins++pl) σ H s):Inv X pins σ H s:=I.mX fun p hp=>I.pin p (List.mem_append_right _ (List.mem_append_left _ hp))
theorem vS {iter:Expr}{body:List Stmt}{wi:TI}{g:TG}{tb:TS}{pos:Pos}(hp:PassesOwn (model X.prog X.w) X.A X.env X.xe)(hc:X.calm=true)(hi:PI X tg iter wi)(hg:PG X tg g)(hb:PSs X body tb)
    (hs:∀ x,foldedSetIterable iter X.env x=pure x:=by intro _;rfl):PS X (.For tg iter body [] pos) (zd wi g tb):=by
  intro pins s σ H D I h
  refine wpAny_For (thn (hi pins s σ H _ I h) fun v s1 h1=>thn h1 fun itv s2 h2=>?_) hs
  obtain ⟨it,fp,tn,J,H2,e,I2,T,st2,f2,W,⟨m0,w0⟩,turn⟩:=h2
  subst e
  -- what stays true of the iterator's objects through the loop
  have lY:∀ {H':Hp},(∀ b∈fp,H' b=none)→∀ b∈fp,kr X pins H' b:=fun hn b hb=>⟨hn b hb,(f2 b hb).2⟩
  refine codeAny_forLoop_any (fun n s'=>∃ i σ' H',Inv X pins σ' H' s'∧tn i s'.heap∧(∀ b∈fp,H' b=none)∧W i n σ' H') ?_ m0 ⟨0,σ,H2,I2,st2,fun b hb=>(f2 b hb).1,w0⟩
  rintro n s3 ⟨i,σ3,H3,I3,st3,fr3,w3⟩
  rcases turn i n σ3 H3 w3 with ⟨stop,qn⟩ | ⟨go,N,hN,step⟩
  · refine wpAny_passesOwn hp (thn (T.done X rfl rfl rfl hc i pins s3 σ3 H3 X.xe I3 (lY fr3) st3 stop) fun r s4 ⟨hr,I4⟩=>?_)
    subst hr
    exact wpAny_execs_nil ⟨σ3,H3,I4,qn⟩
  · refine wpAny_passesOwn hp (thn (T.item X rfl rfl rfl hc i pins s3 σ3 H3 X.xe I3 (lY fr3) st3 go) fun r s4 ⟨u,hr,h4⟩=>?_)
    subst hr
    refine wpAny_passesOwn hp (thn h4 fun _ s5 ⟨x,H5,I5,r5,y5,st5,fr5⟩=>?_)
    have I5':=I5.pinned (lY fr5) (T.obj _ _ st5)
    refine wpAny_passesOwn hp (thn (hg _ s5 σ3 H5 x u _ I5' r5 (step x H5 y5)) fun _ s6 ⟨σ6,H6,I6,q6⟩=>?_)
    refine wpAny_passesOwn hp (thn (hb _ s6 σ6 H6 _ I6 q6) fun f s7 q7=>?_)
    have again:∀ {σ7:St} {H7:Hp},Inv X (pins++fM fp s5.heap) σ7 H7 s7→N σ7 H7→∃ m,m < n∧∃ i σ' H',Inv X pins σ' H' s7∧tn i s7.heap∧(∀ b∈fp,H' b=none)∧W i m σ' H':=fun {σ7 H7} I7 n7=>by
      obtain ⟨m',hm,w7⟩:=hN σ7 H7 n7
      refine ⟨m',hm,i+1,σ7,H7,I7.dG,T.keep _ _ _ st5 fun b hb o e=>(I7.pin (b,o) (List.mem_append_right _ (List.mem_append_right _ (cq hb e)))).1,fun b hb=>?_,w7⟩
      obtain ⟨o,e,d⟩:=T.obj _ _ st5 b hb
      exact (I7.pin (b,o) (List.mem_append_right _ (List.mem_append_right _ (cq hb e)))).2.1
    cases f with
    | next=>obtain ⟨σ7,H7,I7,n7⟩:=q7;exact again I7 n7
    | cont=>obtain ⟨σ7,H7,I7,n7⟩:=q7;exact again I7 n7
    | brk=>obtain ⟨σ7,H7,I7,q7⟩:=q7;exact ⟨σ7,H7,I7.dG,q7⟩
    | ret v=>obtain ⟨x7,σ7,H7,I7,r7,q7⟩:=q7;exact ⟨x7,σ7,H7,I7.dG,r7,q7⟩
end
end L2
namespace L2
open PySem PySem.Spec PyProof.Rows
abbrev R2:=V→V→Hp→VK→Prop
def OpR (X:Cx)(f:Value→Value→Sem Value)(r:R2):Prop:=
  ∀ (pins:List (Addr×Obj)) (s:Shared) (σ:St) (H:Hp) (x y:V) (v u:Value) (Q:VK),Inv X pins σ H s→RelV x v→RelV y u→r x y H Q→
    wpAny (model X.prog X.w) X.A (f v u) (EP X pins σ Q) X.xe s
def UnR (X:Cx)(f:Value→Sem Value)(r:V→Hp→VK→Prop):Prop:=
  ∀ (pins:List (Addr×Obj)) (s:Shared) (σ:St) (H:Hp) (x:V) (v:Value) (Q:VK),Inv X pins σ H s→RelV x v→r x H Q→
    wpAny (model X.prog X.w) X.A (f v) (EP X pins σ Q) X.xe s
def aS (X:Cx)(f:Value)(r:List V→Hp→VK→Prop):Prop:=
  ∀ (pins:List (Addr×Obj)) (s:Shared) (σ:St) (H:Hp) (xs:List V) (us:List Value) (Q:VK),Inv X pins σ H s→Vals xs us→r xs H Q→
    wpAny (model X.prog X.w) X.A (call f us) (EP X pins σ Q) X.xe s
def tOp (r:R2)(ta tb:TE):TE:=fun σ H Q=>ta σ H fun x H1=>tb σ H1 fun y H2=>r x y H2 Q
def tUn (r:V→Hp→VK→Prop)(ta:TE):TE:=fun σ H Q=>ta σ H fun x H1=>r x H1 Q
def rI (C:Int→Int→Prop)(g:Int→Int→V):R2:=fun x y H Q=>∃ i j,x=.int i∧y=.int j∧C i j∧Q (g i j) H
def rI0 (g:Int→Int→V):R2:=fun x y H Q=>∃ i j,x=.int i∧y=.int j∧Q (g i j) H
def rU (g:Int→V):V→Hp→VK→Prop:=fun x H Q=>∃ i,x=.int i∧Q (g i) H
section
variable {X:Cx} {a b c:Expr} {ta tb tc:TE} {pos:Pos}
theorem vM (ha:PE X a ta)(hb:PE X b tb){pins:List (Addr×Obj)}{s:Shared}{σ:St}{H:Hp}{R:V→V→Hp→Prop}(I:Inv X pins σ H s)
    (h:ta σ H fun x H1=>tb σ H1 fun y H2=>R x y H2) {Q:Value→Shared→Prop} {f:Value→Value→Sem Value}
    (hf:∀ v u s2 x y H2,Inv X pins σ H2 s2→RelV x v→RelV y u→R x y H2→wpAny (model X.prog X.w) X.A (f v u) Q X.xe s2) :
    wpAny (model X.prog X.w) X.A (eval a X.env) (fun v s₁=>wpAny (model X.prog X.w) X.A (eval b X.env) (fun u s₂=>wpAny (model X.prog X.w) X.A (f v u) Q X.xe s₂) X.xe s₁) X.xe s:=by
  refine thn (ha pins s σ H _ I h) fun v s1 ⟨x,H1,I1,r1,q1⟩=>?_
  refine thn (hb pins s1 σ H1 _ I1 q1) fun u s2 ⟨y,H2,I2,r2,q2⟩=>?_
  exact hf v u s2 x y H2 I2 r1 r2 q2
theorem ux {op:Operator}{r:R2}(ho:OpR X (binaryOp op) r)(ha:PE X a ta)(hb:PE X b tb):PE X (.BinOp a op b pos) (tOp r ta tb):=by
  intro pins s σ H Q I h
  exact wpAny_BinOp (vM ha hb I h fun v u s2 x y H2 I2 rx ry q=>ho pins s2 σ H2 x y v u Q I2 rx ry q)
theorem xY {op:UnaryOp}{r:V→Hp→VK→Prop}(ho:UnR X (unaryOp op) r)(ha:PE X a ta):PE X (.UnaryOp op a pos) (tUn r ta):=by
  intro pins s σ H Q I h
  exact UnaryOp_ (thn (ha pins s σ H _ I h) fun v s1 ⟨x,H1,I1,r1,q1⟩=>ho pins s1 σ H1 x v Q I1 r1 q1)
theorem opI {f:Value→Value→Sem Value}{C:Int→Int→Prop}{g:Int→Int→Int}
    (rule:∀ (i j:Int) (t u:Tok) (s:Shared) (Q:Value→Shared→Prop) (E:Value→Shared→Prop),C i j→Q (.int (g i j) s.toks) { s with toks:=s.toks+1 }→wpAny (model X.prog X.w) X.A (f (.int i t) (.int j u)) Q E s) :
    OpR X f (rI C fun i j=>.int (g i j)):=by
  intro pins s σ H x y v u Q I rx ry h
  obtain ⟨i,j,rfl,rfl,hc,q⟩:=h
  obtain ⟨t,rfl⟩:=rx
  obtain ⟨t',rfl⟩:=ry
  exact rule i j t t' s _ _ hc ⟨.int (g i j),H,I.tok _,⟨_,rfl⟩,q⟩
theorem xD {f:Value→Value→Sem Value}{g:Int→Int→Int}
    (rule:∀ (i j:Int) (t u:Tok) (s:Shared) (Q:Value→Shared→Prop) (E:Value→Shared→Prop),Q (.int (g i j) s.toks) { s with toks:=s.toks+1 }→wpAny (model X.prog X.w) X.A (f (.int i t) (.int j u)) Q E s) :
    OpR X f (rI0 fun i j=>.int (g i j)):=by
  intro pins s σ H x y v u Q I rx ry h
  obtain ⟨i,j,rfl,rfl,q⟩:=h
  obtain ⟨t,rfl⟩:=rx
  obtain ⟨t',rfl⟩:=ry
  exact rule i j t t' s _ _ ⟨.int (g i j),H,I.tok _,⟨_,rfl⟩,q⟩
theorem rn {f:Value→Value→Sem Value}{g:Int→Int→Bool}
    (rule:∀ (i j:Int) (t u:Tok) (s:Shared) (Q:Value→Shared→Prop) (E:Value→Shared→Prop),Q (.bool (g i j)) s→wpAny (model X.prog X.w) X.A (f (.int i t) (.int j u)) Q E s) :
    OpR X f (rI0 fun i j=>.bl (g i j)):=by
  intro pins s σ H x y v u Q I rx ry h
  obtain ⟨i,j,rfl,rfl,q⟩:=h
  obtain ⟨t,rfl⟩:=rx
  obtain ⟨t',rfl⟩:=ry
  exact rule i j t t' s _ _ ⟨.bl (g i j),H,I,rfl,q⟩
def zc (i j:Int):Prop:=0≤j∧j≤1000000∧i.natAbs < 2 ^ 64
def yh (i j:Int):Prop:=(-(2 ^ 64) < i∧i < 2 ^ 64)∨(-(2 ^ 64) < j∧j < 2 ^ 64)
theorem yh.ok {i j:Int}(h:yh i j):IntMulOk i j:=by
  rcases h with ⟨h1,h2⟩ | ⟨h1,h2⟩
  · exact .of_left (intBits_le_64 h1 h2)
  · exact .of_right (intBits_le_64 h1 h2)
theorem vv:OpR X (binaryOp .Add) (rI0 fun i j=>.int (i+j)):=xD fun _ _ _ _ _ _ _ q=>add_int q
theorem wj:OpR X (binaryOp .Sub) (rI0 fun i j=>.int (i - j)):=xD fun _ _ _ _ _ _ _ q=>sub_int q
theorem sv:OpR X (binaryOp .Mod) (rI (fun _ j=>j≠0) fun i j=>.int (i.fmod j)):=opI fun _ _ _ _ _ _ _ hc q=>mod_int' hc q
theorem uU:OpR X (binaryOp .Pow) (rI zc fun i j=>.int (i ^ j.toNat)):=opI fun _ _ _ _ _ _ _ hc q=>pow_int_small hc.1 hc.2.1 hc.2.2 q
theorem unI {f:Value→Sem Value}{g:Int→Int}
    (rule:∀ (i:Int) (t:Tok) (s:Shared) (Q:Value→Shared→Prop) (E:Value→Shared→Prop),Q (.int (g i) s.toks) { s with toks:=s.toks+1 }→wpAny (model X.prog X.w) X.A (f (.int i t)) Q E s) :
    UnR X f (rU fun i=>.int (g i)):=by
  intro pins s σ H x v Q I rx h
  obtain ⟨i,rfl,q⟩:=h
  obtain ⟨t,rfl⟩:=rx
  exact rule i t s _ _ ⟨.int (g i),H,I.tok _,⟨_,rfl⟩,q⟩
theorem vc:UnR X (unaryOp .USub) (rU fun i=>.int (-i)):=unI fun _ _ _ _ _ q=>neg_int q
end
def xW:V→V→Bool
  | .non,.non=>true | .non,.int _=>true | .int _,.non=>true | .non,.bl _=>true | .bl _,.non=>true | .non,.str _=>true | .str _,.non=>true
  | .int _,.int _=>true | .bl _,.bl _=>true | .str _,.str _=>true | .byt _,.byt _=>true
  | .int _,.str _=>true | .str _,.int _=>true | .bl _,.str _=>true | .str _,.bl _=>true
  | _,_=>false
def rEq:R2:=fun x y H Q=>xW x y=true∧Q (.bl (decide (x=y))) H
def rNe:R2:=fun x y H Q=>xW x y=true∧Q (.bl (!decide (x=y))) H
section
variable {X:Cx} {a b c:Expr} {ta tb tc:TE} {pos:Pos}
theorem wH {pins:List (Addr×Obj)}{σ:St}{H:Hp}{s:Shared}{Q:VK}{k k':Bool}(I:Inv X pins σ H s)(q:Q (.bl k) H)(e:k=k'):EP X pins σ Q (.bool k') s:=by
  subst e
  exact ⟨.bl k,H,I,rfl,q⟩
theorem yt:OpR X (compareOp .Lt) (rI0 fun i j=>.bl (decide (i < j))):=rn fun _ _ _ _ _ _ _ q=>lt_int q
theorem pk:OpR X (compareOp .LtE) (rI0 fun i j=>.bl (decide (i≤j))):=rn fun _ _ _ _ _ _ _ q=>le_int q
theorem uc:OpR X (compareOp .Gt) (rI0 fun i j=>.bl (decide (j < i))):=rn fun _ _ _ _ _ _ _ q=>gt_int q
theorem xF:OpR X (compareOp .GtE) (rI0 fun i j=>.bl (decide (j≤i))):=rn fun _ _ _ _ _ _ _ q=>ge_int q
theorem oa:OpR X (compareOp .In) (fun x y H Q=>∃ i j,x=.str i∧y=.str j∧Q (.bl (!(Builtin.Str.occurrences j i 0 j.length 1).isEmpty)) H):=by
  intro pins s σ H x y v u Q I rx ry h
  obtain ⟨i,j,rfl,rfl,q⟩:=h
  obtain ⟨t,rfl⟩:=rx
  obtain ⟨t',rfl⟩:=ry
  exact in_str (wH I q rfl)
theorem OpR.or {f:Value→Value→Sem Value}{r r':R2}(h:OpR X f r)(h':OpR X f r'):OpR X f (fun x y H Q=>r x y H Q∨r' x y H Q):=by
  intro pins s σ H x y v u Q I rx ry q
  rcases q with q | q
  · exact h pins s σ H x y v u Q I rx ry q
  · exact h' pins s σ H x y v u Q I rx ry q
theorem dq (b:Expr){op:CmpOp}(h:op≠.In:=by decide)(h2:op≠.NotIn:=by decide):behindInMarks op b=false:=by
  have e1:(op == CmpOp.In)=false:=by cases op<;>first | rfl | exact absurd rfl h
  have e2:(op == CmpOp.NotIn)=false:=by cases op<;>first | rfl | exact absurd rfl h2
  cases b<;>simp[behindInMarks,e1,e2]
theorem rf {op:CmpOp}{r:R2}(ho:OpR X (compareOp op) r)(ha:PE X a ta)(hb:PE X b tb)(hm:behindInMarks op b=false):PE X (.Compare a [op] [b] pos) (tOp r ta tb):=by
  intro pins s σ H Q I h
  exact wpAny_Compare1 (vM ha hb I h fun v u s2 x y H2 I2 rx ry q=>ho pins s2 σ H2 x y v u Q I2 rx ry q) hm
def oE (t:TE):TT:=fun σ H Q=>t σ H fun x H'=>∃ k,x=.bl k∧Q k H'
theorem tR {op:CmpOp}{r:R2}(ho:OpR X (compareOp op) r)(ha:PE X a ta)(hb:PE X b tb)(hm:behindInMarks op b=false):PT X (.Compare a [op] [b] pos) (oE (tOp r ta tb)):=by
  intro pins s σ H Q I h
  refine wpAny_isTrue_Compare1 (thn (ha pins s σ H _ I h) fun v s1 ⟨x,H1,I1,r1,q1⟩=>thn (hb pins s1 σ H1 _ I1 q1) fun u s2 ⟨y,H2,I2,r2,q2⟩=>
    thn (ho pins s2 σ H2 x y v u _ I2 r1 r2 q2) fun c s3 ⟨z,H3,I3,r3,k,e,q3⟩=>?_) hm
  subst e
  cases r3
  exact wpAny_truthy_bool ⟨H3,I3,q3⟩
def pT (r r':R2)(ta tb tc:TE):TE:=fun σ H Q=>ta σ H fun x H1=>tb σ H1 fun y H2=>r x y H2 fun z H3=>∃ k,z=.bl k∧
  (if k=true then tc σ H3 fun w' H4=>r' y w' H4 Q else Q (.bl false) H3)
theorem p9 {op op':CmpOp}{r r':R2}(ho:OpR X (compareOp op) r)(ho':OpR X (compareOp op') r')(ha:PE X a ta)(hb:PE X b tb)(hc:PE X c tc)
    (hm:lastMarks [op,op'] [b,c]=false:=by with_unfolding_all rfl):PT X (.Compare a [op,op'] [b,c] pos) (oE (pT r r' ta tb tc)):=by
  intro pins s σ H Q I h
  refine isTrue_chain (thn (ha pins s σ H _ I h) fun v s1 ⟨x,H1,I1,r1,q1⟩=>test_link (thn (hb pins s1 σ H1 _ I1 q1) fun u s2 ⟨y,H2,I2,r2,q2⟩=>
    thn (ho pins s2 σ H2 x y v u _ I2 r1 r2 q2) fun d s3 ⟨z,H3,I3,r3,k,e,q3⟩=>?_)) hm
  subst e
  cases r3
  refine wpAny_truthy_bool ?_
  cases k with
  | false=>
    obtain ⟨k',e',q'⟩:=q3
    cases e'
    exact ite_ff ⟨H3,I3,q'⟩
  | true=>
    refine ite_tt (test_last (thn (hc pins s3 σ H3 _ I3 q3) fun w' s4 ⟨z',H4,I4,r4,q4⟩=>thn (ho' pins s4 σ H4 y z' u w' _ I4 r2 r4 q4) fun d' s5 ⟨z2,H5,I5,r5,k2,e2,q5⟩=>?_))
    subst e2
    cases r5
    exact wpAny_truthy_bool ⟨H5,I5,q5⟩
theorem dZ:(sizeLine:Nat) < 2 ^ 63:=by rw[sizeLine_eq];decide
theorem kT:OpR X (binaryOp .Add) (fun x y H Q=>∃ i j,x=.str i∧y=.str j∧i.length+j.length≤sizeLine∧Q (.str (i++j)) H):=by
  intro pins s σ H x y v u Q I rx ry h
  obtain ⟨i,j,rfl,rfl,hz,q⟩:=h
  obtain ⟨t,rfl⟩:=rx
  obtain ⟨t',rfl⟩:=ry
  exact add_str (fun t' tk=>⟨.str (i++j),H,I.tok _,⟨_,rfl⟩,q⟩) hz
theorem vals1 {x:V}{us:List Value}(r:Vals [x] us):∃ u,us=[u]∧RelV x u:=by
  cases r with
  | cons r1 r2=>cases r2;exact ⟨_,rfl,r1⟩
theorem vals2 {x y:V}{us:List Value}(r:Vals [x,y] us):∃ u w',us=[u,w']∧RelV x u∧RelV y w':=by
  cases r with
  | cons r1 r2=>
    cases r2 with
    | cons r3 r4=>cases r4;exact ⟨_,_,rfl,r1,r3⟩
theorem b9:aS X (.builtin "abs") (fun xs H Q=>∃ i,xs=[.int i]∧Q (.int (if i < 0 then -i else i)) H):=by
  intro pins s σ H xs us Q I r h
  obtain ⟨i,rfl,q⟩:=h
  obtain ⟨u,rfl,t,rfl⟩:=vals1 r
  exact call_abs_int fun u tk=>⟨.int (if i < 0 then -i else i),H,I.tok _,⟨_,rfl⟩,q⟩
theorem nD (hc:X.calm=true):aS X (.builtin "max") (fun xs H Q=>∃ i j,xs=[.int i,.int j]∧Q (.int (if j > i then j else i)) H):=by
  intro pins s σ H xs us Q I r h
  obtain ⟨i,j,rfl,q⟩:=h
  obtain ⟨u,w',rfl,⟨t,rfl⟩,⟨t',rfl⟩⟩:=vals2 r
  refine max_two_ints (I.ok.hd hc) fun h' tk k=>⟨_,H,I.kept k,?_,q⟩
  by_cases hj:j > i
  · rw[if_pos hj,if_pos hj];exact ⟨_,rfl⟩
  · rw[if_neg hj,if_neg hj];exact ⟨_,rfl⟩
theorem iA (hc:X.calm=true):aS X (.builtin "min") (fun xs H Q=>∃ i j,xs=[.int i,.int j]∧Q (.int (if j < i then j else i)) H):=by
  intro pins s σ H xs us Q I r h
  obtain ⟨i,j,rfl,q⟩:=h
  obtain ⟨u,w',rfl,⟨t,rfl⟩,⟨t',rfl⟩⟩:=vals2 r
  refine min_two_ints (I.ok.hd hc) fun h' tk k=>⟨_,H,I.kept k,?_,q⟩
  by_cases hj:j < i
  · rw[if_pos hj,if_pos hj];exact ⟨_,rfl⟩
  · rw[if_neg hj,if_neg hj];exact ⟨_,rfl⟩
theorem nK:aS X (.type "int") (fun xs H Q=>(∃ i,xs=[.int i]∧Q (.int i) H)∨∃ k,xs=[.bl k]∧Q (.int (if k then 1 else 0)) H):=by
  intro pins s σ H xs us Q I r h
  rcases h with ⟨i,rfl,q⟩ | ⟨k,rfl,q⟩
  · obtain ⟨u,rfl,t,rfl⟩:=vals1 r
    exact call_int_int ⟨.int i,H,I,⟨_,rfl⟩,q⟩
  · obtain ⟨u,rfl,r1⟩:=vals1 r
    cases r1
    exact call_int_bool ⟨.int (if k then 1 else 0),H,I.tok _,⟨_,rfl⟩,q⟩
theorem iG:aS X (.type "str") (fun xs H Q=>∃ i,xs=[.int i]∧i.natAbs.log2 < 1920∧Q (.str (toString i)) H):=by
  intro pins s σ H xs us Q I r h
  obtain ⟨i,rfl,hz,q⟩:=h
  obtain ⟨u,rfl,t,rfl⟩:=vals1 r
  exact PySem.P.str_of_int hz ⟨.str _,H,I.tok _,⟨_,rfl⟩,q⟩
end
end L2
namespace L2
open PySem PySem.Spec PyProof.Rows
section
variable {prog:Program} {w:World} {A:Around} {E:Value→Shared→Prop} {s:Shared} {K:PySem.W.Frag} {x dx C f:Addr} {mA:Str→Option Value} {name:Str} {v:Value}
end
section
variable {P:Program} {w:World} {H H':Hp} {h h':Heap} {a C dx:Addr} {fs fs':List (Str×V)}
end
structure Cls (K:PySem.W.Frag) (C:Addr):Prop where
  pg:PySem.W.plainGet K C Str.empty=true
  hd:PySem.W.hasDictIn K C=true
  po:PySem.W.plainOver K C=true
  sa:PySem.W.findIn K (.ref C) "__setattr__" = some (some (.builtin "object.__setattr__"))
theorem Cls.get {K:PySem.W.Frag}{C:Addr}(c:Cls K C)(f:Str):PySem.W.plainGet K C f=true:=c.pg
section
variable {X:Cx} {pins:List (Addr×Obj)} {σ:St} {H:Hp} {s:Shared} {a C dx:Addr} {fs:List (Str×V)} {f:Str} {v:V} {A:Around} {E:Value→Shared→Prop}
end
section
variable {X:Cx} {o e value:Expr} {f:Str} {pos pos' tpos:Pos} {ta tv:TE}
def kY:V→V→Hp→VK→Prop:=fun x y H Q=>∃ i j,x=.int i∧y=.int j∧Q (.int (i - j)) H
end
section
variable {X:Cx} {pins:List (Addr×Obj)} {σ:St} {H:Hp} {s:Shared} {A:Around} {E:Value→Shared→Prop} {Q:Value→Shared→Prop} {c:Value} {b:Bool}
end
end L2
namespace L2
open PySem PySem.Spec PyProof.Rows
structure bB (k:Nat) (A:Around):Prop where
  hd:A.handled=none
  dp:A.depth+3*k+5 < recursionLimit
  un:A.units+16*k+200 < cLine
theorem bB.mono {j k:Nat}{A:Around}(r:bB k A)(h:j≤k):bB j A:=⟨r.hd,by have:=r.dp;omega,by have:=r.un;omega⟩
theorem bB.deeper {k:Nat}{A:Around}(r:bB (k+1) A)(env:Env):bB k (A.deeper env):=
  ⟨r.hd,by have:=r.dp;show A.depth+1+3*k+5 < _;omega,by have:=r.un;show A.units+3+16*k+200 < _;omega⟩
theorem bB.in1 {k:Nat}{A:Around}(r:bB (k+1) A):bB k A.in1:=
  ⟨r.hd,by have:=r.dp;show A.depth+3*k+5 < _;omega,by have:=r.un;show A.units+1+16*k+200 < _;omega⟩
theorem bB.depth {k:Nat}{A:Around}(r:bB k A):A.depth < recursionLimit:=by have:=r.dp;omega
theorem bB.units {k:Nat}{A:Around}(r:bB k A):A.units+64 < cLine:=by have:=r.un;omega
def y9:TA:=fun _ H Q=>Q [] H
def yO (ta:TE)(tr:TA):TA:=fun σ H Q=>ta σ H fun x H1=>tr σ H1 fun xs H2=>Q (x::xs) H2
section
variable {X:Cx} {e:Expr} {es:List Expr} {te:TE} {t:TA} {pos:Pos}
theorem iN:PA X [] y9:=fun _ _ _ _ H Q I h=>Calls.spliced_nil ⟨[],H,I,.nil,h⟩
theorem dO (ha:PE X e te)(hr:PA X es t)(hs:starEach (e::es) X.env=(false,eval e X.env)::starEach es X.env:=by rfl):PA X (e::es) (yO te t):=by
  intro pos pins s σ H Q I h
  rw[hs]
  show wpAny _ _ (spliced ((false,eval e X.env)::backTo pos (starEach es X.env))) _ _ s
  refine Calls.spliced_cons (thn (ha pins s σ H _ I h) fun u s1 ⟨x,H1,I1,r1,q1⟩=>?_)
  exact thn (hr pos pins s1 σ H1 _ I1 q1) fun us s2 ⟨xs,H2,I2,r2,q2⟩=>⟨x::xs,H2,I2,.cons r1 r2,q2⟩
def zL (t:TA):TE:=fun σ H Q=>t σ H fun xs H1=>xs.length≤sizeLine∧∀ p,H1 p=none→Q (.ref p) (upd H1 p (.tup xs))
def zB (t:TA):TE:=fun σ H Q=>t σ H fun xs H1=>xs.length≤sizeLine∧∀ p,H1 p=none→Q (.ref p) (upd H1 p (.lst xs))
theorem uG {x1}(h:PA X es t):PE X (.Tuple es x1 pos) (zL t):=by
  intro pins s σ H Q I hq
  refine wpAny_Tuple_spliced (thn (h pos pins s σ H _ I hq) fun us s1 ⟨xs,H1,I1,r,z,q⟩=>⟨by rw[← r.length];exact z,?_⟩)
  have hf:H1 s1.heap.objs.size=none:=I1.hok.fresh (Nat.le_refl _)
  refine ⟨.ref s1.heap.objs.size,upd H1 s1.heap.objs.size (.tup xs),I1.laid (t':=s1.toks) (fun b u e=>Heap.get?_push_of_some _ e) (Nat.le_refl _) ?_,rfl,q _ hf⟩
  exact ⟨z,us,r,⟨_,Heap.get?_push_size _ rfl⟩⟩
theorem oV (h:PA X es t):PE X (.List es pos) (zB t):=by
  intro pins s σ H Q I hq
  refine wpAny_List_spliced (thn (h pos pins s σ H _ I hq) fun us s1 ⟨xs,H1,I1,r,z,q⟩=>⟨by rw[← r.length];exact z,?_⟩)
  have hf:H1 s1.heap.objs.size=none:=I1.hok.fresh (Nat.le_refl _)
  refine ⟨.ref s1.heap.objs.size,upd H1 s1.heap.objs.size (.lst xs),I1.laid (t':=s1.toks) (fun b u e=>Heap.get?_push_of_some _ e) (Nat.le_refl _) ?_,rfl,q _ hf⟩
  exact ⟨z,us,0,r,Heap.get?_push_size _ rfl⟩
end
abbrev Sp:=List V→Hp→VK→XK→Prop
abbrev CXT:=List Env→Hp→Shared→XK→Value→Shared→Prop
structure mw (P:Program) (w:World) (K:PySem.W.Frag) (mg:Str→Option Value) (base:Heap) (A:Around) (outer:List Env) (s:Shared) (H:Hp):Prop where
  frames:A.frames=some outer
  mod:Mod K mg base
  bs:∀ b o,base.get? b=some o→s.heap.get? b=some o∧H b=none
  bsz:base.objs.size≤s.heap.objs.size
  eN:s.heap.FunFrames base outer
  frf:∀ b∈frs outer,H b=none
  hok:HOk P w H s.heap
  bare:AllBare s.gens
def CE (outer:List Env)(P:Program)(w:World)(H:Hp)(s:Shared)(Q:VK)(u:Value)(s':Shared):Prop:=
  ∃ v H',s'.os=s.os∧AllBare s'.gens∧Un (frs outer) [] H H' s.heap s'.heap∧HOk P w H' s'.heap∧RelV v u∧Q v H'
def CR (CX:CXT)(outer:List Env)(P:Program)(w:World)(H:Hp)(s:Shared)(Q:VK)(E:XK)(r:Result)(s':Shared):Prop:=
  match r with
  | .ok (.ret u)=>CE outer P w H s Q u s'
  | .ok _=>False
  | .error e=>CX outer H s E e s'
structure dj (P:Program) (w:World) (K:PySem.W.Frag) (mg:Str→Option Value) (base:Heap) (CX:CXT) (k:Nat) (f:Addr) (fd:FuncData) (ps:List Str) (sp:Sp):Prop where
  len:∀ vs H Q E,sp vs H Q E→vs.length=ps.length
  run:∀ (A:Around) (outer:List Env) (s:Shared) (H:Hp) (args:Args) (us:List Value) (vs:List V) (Q:VK) (E:XK),bB k A→mw P w K mg base A outer s H→BindsTo s fd args (ps.zip us)→Vals vs us→sp vs H Q E→
    codeAny (model P w) A (.call (.ref f) args) (CR CX outer P w H s Q E) s
theorem dj.mono {P:Program}{w:World}{K:PySem.W.Frag}{mg:Str→Option Value}{base:Heap}{CX:CXT}{j k:Nat}{f:Addr}{fd:FuncData}{ps:List Str}{sp:Sp}(F:dj P w K mg base CX j f fd ps sp)(h:j≤k) :
    dj P w K mg base CX k f fd ps sp:=⟨F.len,fun A outer s H args us vs Q E hr=>F.run A outer s H args us vs Q E (hr.mono h)⟩
theorem mw.in1 {P:Program}{w:World}{K:PySem.W.Frag}{mg:Str→Option Value}{base:Heap}{A:Around}{outer:List Env}{s:Shared}{H:Hp}(e:mw P w K mg base A outer s H) :
    mw P w K mg base A.in1 outer s H:=⟨e.frames,e.mod,e.bs,e.bsz,e.eN,e.frf,e.hok,e.bare⟩
section
variable {X:Cx} {pins:List (Addr×Obj)} {σ:St} {H:Hp} {s s':Shared}
theorem Inv.zH (I:Inv X pins σ H s):mw X.prog X.w X.K X.mg X.base X.A X.stack s H:=
  ⟨I.ok.frames,I.ok.mod,I.bs,Nat.le_trans I.ok.bsz I.sz,I.stack,I.mZ,I.hok,I.bare⟩
theorem Inv.after {Q:VK}{u:Value}(I:Inv X pins σ H s)(h:CE X.stack X.prog X.w H s Q u s'):EP X pins σ Q u s':=by
  obtain ⟨v,H',os,bare,un,hok,r,q⟩:=h
  obtain ⟨hh,g,d,t,os'⟩:=s'
  obtain rfl:os'=s.os:=os
  exact ⟨v,H',I.call (h':=hh) (g':=g) (d':=d) (t':=t) (ch:=[]) un hok bare (fun b z=>absurd z (by simp)),r,q⟩
end
def xx (sp:Sp)(dvs:List V)(E:XK)(t:TA):TE:=fun σ H Q=>t σ H fun vs H1=>sp (vs++dvs) H1 Q E
def Binds (K:PySem.W.Frag)(fd:FuncData)(ps:List Str)(ds:List Value):Prop:=
  ∀ (s:Shared) (us:List Value),K.In s.heap→(us++ds).length=ps.length→BindsTo s fd ⟨us,[]⟩ (ps.zip (us++ds))
theorem Binds.all {K:PySem.W.Frag}{fd:FuncData}{ps:List Str}(h:∀ us:List Value,us.length=ps.length→bindArgs fd ⟨us,[]⟩=pure (ps.zip us)):Binds K fd ps []:=fun s us _ hl=>by
  rw[List.append_nil] at hl ⊢
  exact .of_eq (h us hl)
def Passes (CX:CXT)(X:Cx)(E:XK):Prop:=∀ (pins:List (Addr×Obj)) (σ:St) (H:Hp) (s:Shared) (e:Value) (s':Shared),Inv X pins σ H s→CX X.stack H s E e s'→X.xe e s'
section
variable {X:Cx} {CX:CXT} {k:Nat} {f C:Addr} {fd:FuncData} {ps:List Str} {sp:Sp} {dvs:List V} {ds:List Value} {E:XK} {x m:Str} {p pos apos:Pos} {e o:Expr} {es:List Expr} {ta:TE} {t:TA}
theorem vh {pins:List (Addr×Obj)}{σ:St}{H:Hp}{s:Shared}{Q:VK}{us:List Value}{vs:List V}(F:dj X.prog X.w X.K X.mg X.base CX k f fd ps sp)(hr:bB k X.A)(hb:Binds X.K fd ps ds)(hd:Vals dvs ds)(hx:Passes CX X E)
    (I:Inv X pins σ H s) (r:Vals vs us) (h:sp (vs++dvs) H Q E):wpAny (model X.prog X.w) X.A (call (.ref f) us) (EP X pins σ Q) X.xe s:=by
  have r2:Vals (vs++dvs) (us++ds):=r.append hd
  have hl:(us++ds).length=ps.length:=by rw[← r2.length];exact F.len _ _ _ _ h
  refine wpAny_call (codeAny_mono (F.run X.A X.stack s H ⟨us,[]⟩ (us++ds) (vs++dvs) Q E hr I.zH (hb s us I.kIn hl) r2 h) fun r s' hq=>?_)
  cases r with
  | error e=>exact hx pins σ H s e s' I hq
  | ok fl=>
    cases fl with
    | ret u=>exact I.after hq
    | next=>exact False.elim hq
    | brk=>exact False.elim hq
    | cont=>exact False.elim hq
theorem tu (F:dj X.prog X.w X.K X.mg X.base CX k f fd ps sp)(hr:bB k X.A)(hg:Gl X x)(hm:X.mg x=some (.ref f))(hk:PySem.W.keepIn X.K (.ref f)=true)(hb:Binds X.K fd ps ds)(hd:Vals dvs ds)(hx:Passes CX X E)
    (ha:PA X (e::es) t) (hdb:(x == ("__debug__" : Str))=false:=by decide) (he:starEach (e::es) X.env=(false,eval e X.env)::starEach es X.env:=by rfl) (hpl:(backTo pos (starEach es X.env)).any (·.1)=false:=by rfl) :
    PE X (.Call (.Name x p) (e::es) [] pos) (xx sp dvs E t):=by
  intro pins s σ H Q I h
  refine wpAny_Call_Name_kw (nh I hg hm ?_ hdb)
  refine PySem.W.callWith_K (h₀:=X.base) I.ok.mod.kin hk (thn (ha pos pins s σ H _ I h) fun us s1 ⟨vs,H1,I1,r,q⟩=>⟨I1.kIn,?_⟩) he hpl
  exact vh F hr hb hd hx I1 r q
end
section
variable {X:Cx} {CX:CXT} {k:Nat} {f C:Addr} {fd:FuncData} {ps ks:List Str} {sp:Sp} {E:XK} {x m:Str} {p pos apos kpos:Pos} {e o:Expr} {es:List Expr} {kws:List Keyword} {te ta:TE} {t tk:TA} {nm:Option Str}
variable {g:List Value→List Value→List Value} {gV:List V→List V→List V}
end
structure aB (N P:List Str) (sc:Scope):Prop where
  kind:sc.kind=.function
  co:sc.isCoroutine=false
  gen:sc.isGenerator=false
  nd:N.Nodup
  pre:N.take P.length=P
  par:∀ x∈P,sc.names.lookup x=some .local∨sc.names.lookup x=some .cell
  uL:∀ y∈sc.names,y.2≠.free
theorem iw {kindOf:Str→Option NameKind}{x:Str}:∀ {binds:List (Str×Value)} {m:Str→Option Value},(∀ v,(x,v) ∉ binds)→bindL kindOf binds m x=m x
  | [],_,_=>rfl
  | (n,v)::r,m,h=>by
    unfold bindL
    rw[iw fun w hw=>h w (List.mem_cons_of_mem _ hw)]
    split
    · have:x≠n:=by rintro rfl;exact h v List.mem_cons_self
      simp[this]
    · rfl
theorem iC {kindOf:Str→Option NameKind}{x:Str}:∀ {binds:List (Str×Value)} {m:Str→Option Value},(∀ v,(x,v) ∉ binds)→bindC kindOf binds m x=m x
  | [],_,_=>rfl
  | (n,v)::r,m,h=>by
    unfold bindC
    rw[iC fun w hw=>h w (List.mem_cons_of_mem _ hw)]
    split
    · rfl
    · have:x≠n:=by rintro rfl;exact h v List.mem_cons_self
      simp[this]
theorem ig {kindOf:Str→Option NameKind}{x:Str}{v:Value}:∀ {P:List Str} {vs:List Value} {i:Nat} {m:Str→Option Value},P.Nodup→P[i]? = some x→vs[i]? = some v→kindOf x=some .local→
    bindL kindOf (P.zip vs) m x=some v
  | [],_,_,_,_,h,_,_=>by simp at h
  | _::_,[],_,_,_,_,h,_=>by simp at h
  | p::P,w::vs,0,m,nd,h1,h2,hk=>by
    simp at h1 h2;subst h1;subst h2
    show bindL kindOf ((p,w)::P.zip vs) m p=_
    unfold bindL
    rw[iw fun v hv=>(List.nodup_cons.mp nd).1 (List.of_mem_zip hv).1,if_pos hk]
    simp
  | p::P,w::vs,i+1,m,nd,h1,h2,hk=>by
    show bindL kindOf ((p,w)::P.zip vs) m x=_
    unfold bindL
    exact ig (i:=i) (List.nodup_cons.mp nd).2 (by simpa using h1) (by simpa using h2) hk
theorem iy {kindOf:Str→Option NameKind}{x:Str}{v:Value}:∀ {P:List Str} {vs:List Value} {i:Nat} {m:Str→Option Value},P.Nodup→P[i]? = some x→vs[i]? = some v→kindOf x≠some .local→
    bindC kindOf (P.zip vs) m x=some v
  | [],_,_,_,_,h,_,_=>by simp at h
  | _::_,[],_,_,_,_,h,_=>by simp at h
  | p::P,w::vs,0,m,nd,h1,h2,hk=>by
    simp at h1 h2;subst h1;subst h2
    show bindC kindOf ((p,w)::P.zip vs) m p=_
    unfold bindC
    rw[iC fun v hv=>(List.nodup_cons.mp nd).1 (List.of_mem_zip hv).1,if_neg hk]
    simp
  | p::P,w::vs,i+1,m,nd,h1,h2,hk=>by
    show bindC kindOf ((p,w)::P.zip vs) m x=_
    unfold bindC
    exact iy (i:=i) (List.nodup_cons.mp nd).2 (by simpa using h1) (by simpa using h2) hk
def start (N:List Str)(vs:List V):St:=vs.map some++List.replicate (N.length - vs.length) none
def jD (CX:CXT)(P:Program)(w:World)(K:PySem.W.Frag)(mg:Str→Option Value)(base:Heap)(N:List Str)(qual:Str)(scope:Scope)(f:Addr)(cd:Value)(A:Around)(outer:List Env)(s:Shared)(H:Hp)(E:XK):Cx where
  prog:=P
  w:=w
  K:=K
  mg:=mg
  base:=base
  A:=A.deeper (envOfC qual scope s.heap.objs.size f cd)
  N:=N
  s₀:=s
  H₀:=H
  env:=envOfC qual scope s.heap.objs.size f cd
  outer:=outer
  stack:=envOfC qual scope s.heap.objs.size f cd::outer
  ex:=[]
  calm:=true
  fn:=fun _=>true
  pn:=[]
  xe:=fun e s'=>wpAny (model P w) (A.deeper (envOfC qual scope s.heap.objs.size f cd)) (leaving (envOfC qual scope s.heap.objs.size f cd) e) (fun _ s''=>CX outer H s E e s'') (fun e' s''=>CX outer H s E e' s'') s'
theorem kc {sc:Scope}{n:Nat}{x:Str}(h:sc.names.lookup x=some .cell):∃ c,(cellsFrom n sc.names []).lookup x=some c:=by
  have q:=PySem.W.cellsFrom_some sc.names n [] (.inl h)
  exact Option.isSome_iff_exists.mp q
theorem nr {CX:CXT}{P:Program}{w:World}{K:PySem.W.Frag}{mg:Str→Option Value}{base:Heap}{N ps:List Str}{qual:Str}{scope:Scope}{f:Addr}{cd:Value}{A:Around}{outer:List Env}{s s1:Shared}{H:Hp}{E:XK}{us:List Value}{vs:List V}
    (S:aB N ps scope) (hd:A.handled=none) (e0:mw P w K mg base A outer s H) (hl:vs.length=ps.length) (r:Vals vs us)
    (x:InCallC s s.heap.objs.size (bindL (envOfC qual scope s.heap.objs.size f cd).kindOf (ps.zip us) fun _=>none) (cellsFrom (s.heap.objs.size+1) scope.names []) (bindC (envOfC qual scope s.heap.objs.size f cd).kindOf (ps.zip us) fun _=>none) s1) :
    Inv (jD CX P w K mg base N qual scope f cd A outer s H E) [] (start N vs) H s1:=by
  have hpl:ps.length≤N.length:=by have:=congrArg List.length S.pre;rw[List.length_take] at this;omega
  obtain ⟨h1,tk,rfl,hk⟩:=x.done
  have noA:∀ b:Addr,b ∉ (jD CX P w K mg base N qual scope f cd A outer s H E).ex:=fun b z=>absurd (show b∈([]:List Addr) from z) (by simp)
  refine ⟨⟨e0.mod,S.kind,rfl,rfl,Nat.le_refl _,fun y z c h1 h2=>?_,fun y hy=>?_,fun y c _ h=>?_,fun _=>hd,Around.frames_deeper e0.frames,.inr ⟨rfl,rfl⟩,fun b z=>absurd z (noA b),e0.bs,e0.bsz,fun b _ _=>noA b,fun b z=>absurd z (noA b),e0.eN,e0.frf⟩,
    rfl,e0.bare,Un.kept hk,⟨_,x.toInCall.ns,fun i y v h1 h2 h3=>?_⟩,fun y c h=>⟨_,x.cell y c h⟩,e0.hok.fresh (Nat.le_refl _),fun y c h=>?_,fun p hp=>absurd (show p∈([]:List (Addr×Obj)) from hp) (by simp),e0.hok.kept hk,?_⟩
  · exact name_of_addr x.apart (PySem.mem_of_lookup h1) (PySem.mem_of_lookup h2)
  · have hy:scope.names.lookup y=some .cell∨scope.names.lookup y=some .free:=hy
    rcases hy with hy | hy
    · exact kc hy
    · exact absurd rfl (S.uL _ (PySem.mem_of_lookup hy))
  · exact Nat.le_of_lt (x.above y c (PySem.mem_of_lookup h))
  · have hi:i < vs.length:=by
      unfold start at h2
      by_cases hi:i < vs.length
      · exact hi
      · rw[List.getElem?_append_right (by simpa using hi)] at h2
        rw[List.getElem?_replicate] at h2
        split at h2<;>cases h2
    have ha:vs[i]? = some v:=by
      unfold start at h2
      rw[List.getElem?_append_left (by simpa using hi),List.getElem?_map] at h2
      cases e:vs[i]? with
      | none=>rw[e] at h2;cases h2
      | some a=>rw[e] at h2;cases h2;rfl
    obtain ⟨u,hu,rv⟩:=r.get ha
    have hp:ps[i]? = some y:=by
      rw[← S.pre,List.getElem?_take_of_lt (by omega)];exact h1
    have ndP:ps.Nodup:=by rw[← S.pre];exact S.nd.sublist (List.take_sublist _ _)
    refine ⟨u,rv,?_⟩
    rcases S.par y (List.mem_of_getElem? hp) with k | k
    · exact .inl ⟨k,ig ndP hp hu k⟩
    · obtain ⟨c,e⟩:=kc (n:=s.heap.objs.size+1) k
      refine .inr ⟨.inl k,c,e,?_⟩
      have q:=x.cell y c e
      rw[iy ndP hp hu (by show scope.names.lookup y≠_;rw[k];decide)] at q
      exact q
  · exact e0.hok.fresh (Nat.le_of_lt (x.above y c (PySem.mem_of_lookup h)))
  · unfold start
    show _=N.length
    rw[List.length_append,List.length_map,List.length_replicate]
    omega
theorem yo {CX:CXT}{P:Program}{w:World}{K:PySem.W.Frag}{mg:Str→Option Value}{base:Heap}{k:Nat}{f:Addr}{name qual:Str}{params:Arguments}{body:List Stmt}{scope:Scope}{dV kV doc pm cdv ct oc:Value}{an od:Option Addr}
    {osl:Array (Option Value)} {N ps:List Str} {sp:Sp} (lk:K.lookup f=some ⟨oc,od,.func (PySem.W.fnOf name qual params body scope dV kV doc pm an cdv ct),osl⟩) (hcd:PySem.W.codeIn K cdv qual=true) (S:aB N ps scope)
    (len:∀ vs H Q E,sp vs H Q E→vs.length=ps.length)
    (hbody:∀ (A:Around) (outer:List Env) (s:Shared) (H:Hp) (vs:List V) (Q:VK) (E:XK),bB k (A.deeper (envOfC qual scope s.heap.objs.size f cdv))→sp vs H Q E→
      ∃ t,PSs (jD CX P w K mg base N qual scope f cdv A outer s H E) body t∧t { nx:=fun _ H'=>Q .non H',rt:=Q } (start N vs) H) :
    dj P w K mg base CX (k+1) f (PySem.W.fnOf name qual params body scope dV kV doc pm an cdv ct) ps sp:=by
  refine ⟨len,fun A outer s H args us vs Q E hr e0 hb r hsp=>?_⟩
  have hl:=len _ _ _ _ hsp
  have KX:K.In s.heap:=e0.mod.kin.keeps fun b o e=>(e0.bs b o e).1
  have lim:s.heap.NoLimit:=e0.mod.nolimit.keeps fun b o e=>(e0.bs b o e).1
  have fL:∀ y∈ps.zip us,scope.names.lookup y.1=some .local∨(scope.names.lookup y.1=some .cell∧((cellsFrom (s.heap.objs.size+1) scope.names []).lookup y.1).isSome=true):=fun ⟨n,v⟩ hy=>by
    rcases S.par n (List.of_mem_zip hy).1 with q | q
    · exact .inl q
    · exact .inr ⟨q,PySem.W.cellsFrom_some _ _ _ (.inl q)⟩
  refine codeAny_call_function hr.depth (KX _ _ lk) rfl S.co S.gen rfl (PySem.W.codeRec_of KX hcd) (hb _ _ _ _ ?_)
  refine wpAny_newFunctionEnv_cells S.kind fL fun env he s1 x=>?_
  subst he
  refine ⟨lim.keeps x.toInCall.keep,codeAny_func ?_⟩
  obtain ⟨t,ht,hq⟩:=hbody A outer s H vs Q E (hr.deeper _) hsp
  have I:Inv (jD CX P w K mg base N qual scope f cdv A outer s H E) [] (start N vs) H s1:=nr S hr.hd e0 hl r x
  refine wpAny_mono (ht [] s1 (start N vs) H _ I hq) (fun fl s' hs=>?_) fun e s' hs=>hs
  have fin:∀ {σ':St} {H':Hp} {v:V} {u:Value},Inv (jD CX P w K mg base N qual scope f cdv A outer s H E) [] σ' H' s'→RelV v u→Q v H'→CE outer P w H s Q u s':=
    fun {σ' H' v u} J rv q=>⟨v,H',J.os,J.bare,J.base,J.hok,rv,q⟩
  cases fl with
  | ret u=>
    obtain ⟨v,σ',H',J,rv,q⟩:=hs
    exact fin J rv q
  | next=>
    obtain ⟨σ',H',J,q⟩:=hs
    exact fin (v:=V.non) (u:=Value.none) J rfl q
  | brk=>
    obtain ⟨_,_,_,q⟩:=hs
    exact False.elim q
  | cont=>
    obtain ⟨_,_,_,q⟩:=hs
    exact False.elim q
end L2
namespace L2
open PySem PySem.Spec PyProof.Rows
section
variable {X:Cx} {x:Str} {p pos:Pos} {e:Expr} {es:List Expr} {t:TA} {id T:String} {r:List V→Hp→VK→Prop}
def tCB (r:List V→Hp→VK→Prop)(t:TA):TE:=fun σ H Q=>t σ H fun vs H1=>r vs H1 Q
theorem jv (hc:aS X (.builtin id) r)(hg:Gl X x)(hm:X.mg x=none)(hv:bootBuiltins x=some (.builtin id))(ha:PA X (e::es) t)(hn:x ≠ "__name__" := by decide)(hdb:(x == ("__debug__" : Str))=false:=by decide)
    (he:starEach (e::es) X.env=(false,eval e X.env)::starEach es X.env:=by rfl) (hpl:(backTo pos (starEach es X.env)).any (·.1)=false:=by rfl):PE X (.Call (.Name x p) (e::es) [] pos) (tCB r t):=by
  intro pins s σ H Q I h
  refine wpAny_Call_Name_kw (ja I hg hm hv ?_ hn hdb)
  exact PyProof.Rows.callWith_builtin1 (thn (ha pos pins s σ H _ I h) fun us s1 ⟨vs,H1,I1,r1,q1⟩=>hc pins s1 σ H1 vs us Q I1 r1 q1) he hpl
theorem nI (hc:aS X (.type T) r)(hg:Gl X x)(hm:X.mg x=none)(hv:bootBuiltins x=some (.type T))(ha:PA X (e::es) t)(hn:x ≠ "__name__" := by decide)(hdb:(x == ("__debug__" : Str))=false:=by decide)
    (he:starEach (e::es) X.env=(false,eval e X.env)::starEach es X.env:=by rfl) (hpl:(backTo pos (starEach es X.env)).any (·.1)=false:=by rfl):PE X (.Call (.Name x p) (e::es) [] pos) (tCB r t):=by
  intro pins s σ H Q I h
  refine wpAny_Call_Name_kw (ja I hg hm hv ?_ hn hdb)
  exact PyProof.Rows.callWith_type1 (thn (ha pos pins s σ H _ I h) fun us s1 ⟨vs,H1,I1,r1,q1⟩=>hc pins s1 σ H1 vs us Q I1 r1 q1) he hpl
end
end L2
namespace HT
open PySem PyProof.Rows
section
open PySem.SeqAt
open PySem.AutoSeq1 (wpAny_loadPart')
open PySem.MeetsSeq PySem.MeetsSeq2 PySem.MeetsSeq3
end
section
variable {prog:Program} {w:World} {A:Around} {E:Value→Shared→Prop} {s:Shared}
theorem sd {t b:Addr}{vs ws:List Value}{Q:Value→Shared→Prop}(ht:IsTup s.heap t vs.toArray)(hb:IsTup s.heap b ws.toArray)(hv:vs≠[])
    (h1:ws=[]→Q (.ref t) s) (h2:ws≠[]→Q (.ref s.heap.objs.size) { s with heap:=s.heap.push { cls:=.type "tuple", data:=.seq (vs++ws).toArray } })
    (hsz:vs.length+ws.length≤sizeLine):wpAny (model prog w) A (binaryOp .Add (.ref t) (.ref b)) Q E s:=by
  obtain ⟨⟨cls,dd,data,sl⟩,ho,hc,n,hd⟩:=id ht
  obtain ⟨⟨cls2,dd2,data2,sl2⟩,ho2,hc2,n2,hd2⟩:=id hb
  simp only at hc hd hc2 hd2
  subst hc hd hc2 hd2
  have e:vs.toArray++ws.toArray=(vs++ws).toArray:=by simp
  by_cases hw:ws=[]
  · exact concat_meets ⟨_,ho,rfl⟩ ⟨_,ho2,rfl⟩ noFill_tuple_add seq_tuple_add PySem.F.slot_tuple_add PySem.F.entry_tuple_add (PySem.F.args_tuple_add_2 _ _)
      (tuple_addW1 t b vs.toArray ws.toArray n n2 dd dd2 sl sl2 (by simpa using hv) (by simp[hw])) ⟨ho,ho2,h1 hw⟩
  · refine concat_meets ⟨_,ho,rfl⟩ ⟨_,ho2,rfl⟩ noFill_tuple_add seq_tuple_add PySem.F.slot_tuple_add PySem.F.entry_tuple_add (PySem.F.args_tuple_add_2 _ _)
      (tuple_addW2 t b vs.toArray ws.toArray n n2 dd dd2 sl sl2 (by simpa using hv) (by simpa using hw) (by rw[List.size_toArray,List.size_toArray];exact hsz)) ⟨ho,ho2,?_⟩
    rw[e]
    exact h2 hw
def sIx (n d:Nat):Option Int→Nat
  | none=>d
  | some v=>if v < 0 then (v+(n:Int)).toNat else min v.toNat n
theorem wN (n d:Nat)(hd:d≤n)(o:Option Int):sIx n d o≤n:=by
  cases o with
  | none=>exact hd
  | some v=>
    show (if v < 0 then (v+(n:Int)).toNat else min v.toNat n)≤n
    by_cases hv:v < 0
    · rw[if_pos hv];omega
    · rw[if_neg hv];exact Nat.min_le_right _ _
theorem mQ (v:Int)(n d:Nat):(if v < 0 then max (v+(n:Int)) 0 else min v (n:Int))=((sIx n d (some v):Nat):Int):=by
  show (if v < 0 then max (v+(n:Int)) 0 else min v (n:Int))=(((if v < 0 then (v+(n:Int)).toNat else min v.toNat n):Nat):Int)
  by_cases hv:v < 0
  · simp only[if_pos hv];omega
  · simp only[if_neg hv];omega
theorem lO (lo hi:Option Int)(n:Nat):Builtin.Slice.sliceAdjust lo hi 1 (n:Int)=(((sIx n 0 lo:Nat):Int),((sIx n n hi:Nat):Int)):=by
  have h1:¬ ((1:Int) < 0):=by omega
  unfold Builtin.Slice.sliceAdjust
  simp only[h1,if_false]
  refine Prod.ext ?_ ?_
  · cases lo with
    | none=>rfl
    | some v=>exact mQ v n 0
  · cases hi with
    | none=>rfl
    | some v=>exact mQ v n n
theorem ky (i j:Nat):Builtin.Slice.slicePlaces (i:Int) (j:Int) 1=j - i:=by
  unfold Builtin.Slice.slicePlaces
  have h1:(1:Int) > 0:=by omega
  simp only[h1,if_true,Int.ediv_one]
  split<;>omega
theorem fj {v:Value}{o:Option Int}{Q:Option Int→Shared→Prop}(p:IsPart v o)(h:Q o s):wpAny (model prog w) A (Builtin.Slice.slicePartIndex v) Q E s:=by
  cases p with
  | none=>exact slicePart_none h
  | int i t=>exact slicePart_int h
theorem cb {sl:Addr}{vl vu:Value}{lo hi:Option Int}{n:Nat}{Q:Int×Int×Nat→Shared→Prop}(hs:s.heap.IsSliceOf sl vl vu .none)(pl:IsPart vl lo)(pu:IsPart vu hi)
    (h:Q (((sIx n 0 lo:Nat):Int),1,sIx n n hi - sIx n 0 lo) s):wpAny (model prog w) A (Builtin.Slice.sliceApplied (.ref sl) (pure (n:Int))) Q E s:=by
  obtain ⟨os,hos,hcs,hds⟩:=id hs
  unfold Builtin.Slice.sliceApplied Builtin.Slice.sliceFields
  refine wpAny_bind (wpAny_bind (wpAny_field hos hds (x:=vl) rfl (wpAny_bind (wpAny_field hos hds (x:=vu) rfl (wpAny_bind (wpAny_field hos hds (x:=.none) rfl (wpAny_pure ?_)))))))
  refine wpAny_bind (slicePart_none ?_)
  show wpAny _ _ (if ((1:Int) == 0)=true then _ else _) _ _ s
  rw[if_neg (by decide)]
  refine wpAny_bind (fj pl (wpAny_bind (fj pu (wpAny_bind (wpAny_pure ?_)))))
  show wpAny _ _ (match Builtin.Slice.sliceAdjust lo hi 1 (n:Int) with | (lo,hi)=>pure (lo,(1:Int),Builtin.Slice.slicePlaces lo hi 1)) _ _ s
  rw[lO lo hi n]
  show wpAny _ _ (pure (((sIx n 0 lo:Nat):Int),(1:Int),Builtin.Slice.slicePlaces ((sIx n 0 lo:Nat):Int) ((sIx n n hi:Nat):Int) 1)) _ _ s
  rw[ky]
  exact wpAny_pure h
theorem qF (xs:Array Value)(i k:Nat):((List.range k).filterMap fun (m:Nat)=>xs[((i:Int)+(m:Int)*1).toNat]?).toArray=((xs.toList.drop i).take k).toArray:=by
  have e:(fun (m:Nat)=>xs[((i:Int)+(m:Int)*1).toNat]?)=fun m=>xs[i+m]?:=by
    funext m
    have:((i:Int)+(m:Int)*1).toNat=i+m:=by omega
    rw[this]
  rw[e]
  have:=pick_run xs i k
  rw[List.filterMap_map] at this
  have e2:((fun x=>xs[x]?) ∘ fun x=>i+x)=fun m=>xs[i+m]?:=rfl
  rw[e2] at this
  rw[this]
theorem du {t sl:Addr}{items:Array Value}{vl vu:Value}{lo hi:Option Int}{Q:Value→Shared→Prop}(ht:IsTup s.heap t items)(hs:s.heap.IsSliceOf sl vl vu .none)(pl:IsPart vl lo)(pu:IsPart vu hi)
    (hw:¬ (sIx items.size 0 lo=0∧sIx items.size items.size hi=items.size))
    (h:Q (.ref s.heap.objs.size) { s with heap:=s.heap.push { cls:=.type "tuple", data:=.seq ((items.toList.drop (sIx items.size 0 lo)).take (sIx items.size items.size hi - sIx items.size 0 lo)).toArray } })
    (hsz:items.size≤sizeLine):wpAny (model prog w) A (getItem (.ref t) (.ref sl)) Q E s:=by
  have mM:sizeOk (.seq ((items.toList.drop (sIx items.size 0 lo)).take (sIx items.size items.size hi - sIx items.size 0 lo)).toArray):=by
    show ((items.toList.drop (sIx items.size 0 lo)).take (sIx items.size items.size hi - sIx items.size 0 lo)).toArray.size≤sizeLine
    rw[List.size_toArray,List.length_take,List.length_drop,Array.length_toList]
    omega
  have hj:sIx items.size items.size hi≤items.size:=wN _ _ (Nat.le_refl _) hi
  obtain ⟨os,hos,hcs,hds⟩:=id hs
  have hTs:s.TypeIs (.ref sl) "slice" := ⟨os,hos,hcs⟩
  unfold getItem
  try with_reducible refine wpAny_holding ?_
  first | refine wpAny_bind (wpAny_pure ?_) | skip
  refine wpAny_bind (wpAny_sequenceKey ht.typeIs (by decide) ?_)
  refine wpAny_bind (wpAny_callSpecial?_slot (name:=Str.ofString "__getitem__") ht.typeIs PyProof.Rows.slot_tuple_getitem
    (wpAny_call_entry PyProof.Rows.slot_tuple_getitem ht.typeIs entry_tuple_getitem ?_ (args_tuple_getitem _ _)))
  show wpAny _ _ (Builtin.Tuple.tupleItemsOf (.ref t) >>= _) _ _ s
  refine wpAny_bind (tupleItemsOf_ ht ?_)
  refine wpAny_bind (wpAny_typeOf hTs ?_)
  rw[if_pos (by decide)]
  refine wpAny_bind (cb hs pl pu ?_)
  have hno:¬ ((((sIx items.size 0 lo:Nat):Int) == 0&&(1:Int) == 1&&(sIx items.size items.size hi - sIx items.size 0 lo) == items.size)=true):=by
    intro q
    rw[Bool.and_eq_true,Bool.and_eq_true] at q
    have q1:((sIx items.size 0 lo:Nat):Int)=0:=eq_of_beq q.1.1
    have q2:sIx items.size items.size hi - sIx items.size 0 lo=items.size:=eq_of_beq q.2
    exact hw ⟨by omega,by omega⟩
  show wpAny _ _ (if (((sIx items.size 0 lo:Nat):Int) == 0&&(1:Int) == 1&&(sIx items.size items.size hi - sIx items.size 0 lo) == items.size)=true then _ else _) _ _ s
  rw[if_neg hno,qF]
  first
    | exact wpAny_bind (m:=Builtin.Tuple.tupleExact _) (wpAny_newObj_type (wpAny_pure ⟨_,rfl,wpAny_pure h⟩) mM)
    | exact wpAny_bind (m:=Builtin.Tuple.tupleExact _) (wpAny_newObj_type (wpAny_bind (wpAny_pure (wpAny_pure ⟨_,rfl,wpAny_pure h⟩))) mM)
    | exact wpAny_bind (wpAny_bind (m:=Builtin.Tuple.tupleExact _) (wpAny_newObj_type (wpAny_pure (wpAny_pure ⟨_,rfl,wpAny_pure h⟩)) mM))
    | exact wpAny_bind (wpAny_bind (m:=Builtin.Tuple.tupleExact _) (wpAny_newObj_type (wpAny_pure ⟨_,rfl,wpAny_pure h⟩) mM))
end
end HT
namespace L2
open PySem PySem.Spec PyProof.Rows
abbrev TO:=St→Hp→(Option Int→Hp→Prop)→Prop
def PO (X:Cx)(e:Option Expr)(t:TO):Prop:=
  ∀ (pins:List (Addr×Obj)) (s:Shared) (σ:St) (H:Hp) (Q:Option Int→Hp→Prop),Inv X pins σ H s→t σ H Q→
    wpAny (model X.prog X.w) X.A (evalPart e X.env) (fun u s'=>∃ o H',Inv X pins σ H' s'∧IsPart u o∧Q o H') X.xe s
def rM:TO:=fun _ H Q=>Q none H
def xP (t:TE):TO:=fun σ H Q=>t σ H fun x H1=>∃ i,x=.int i∧Q (some i) H1
section
variable {X:Cx} {e:Expr} {te:TE} {lo hi:Option Expr} {tl th:TO} {pos p2:Pos}
theorem tX:PO X none rM:=by
  intro pins s σ H Q I h
  rw[evalPart_none]
  exact wpAny_pure ⟨none,H,I,.none,h⟩
theorem rW (h:PE X e te):PO X (some e) (xP te):=by
  intro pins s σ H Q I hw
  rw[evalPart_some]
  refine thn (h pins s σ H _ I hw) fun u s1 ⟨x,H1,I1,r1,q1⟩=>?_
  obtain ⟨i,rfl,q⟩:=q1
  obtain ⟨t,rfl⟩:=r1
  exact ⟨some i,H1,I1,.int i t,q⟩
def SlR (X:Cx)(r:V→Option Int→Option Int→Hp→VK→Prop):Prop:=
  ∀ (pins:List (Addr×Obj)) (s:Shared) (σ:St) (H:Hp) (x:V) (v vl vu:Value) (lo hi:Option Int) (sl:Addr) (Q:VK),Inv X pins σ H s→RelV x v→s.heap.IsSliceOf sl vl vu .none→IsPart vl lo→IsPart vu hi→r x lo hi H Q→
    ∃ T id,typeLookup (.type T) "__getitem__" = pure (some (.builtin id))∧s.TypeIs v T∧wpAny (model X.prog X.w) X.A (getItem v (.ref sl)) (EP X pins σ Q) X.xe s
theorem SlR.or {r r':V→Option Int→Option Int→Hp→VK→Prop}(h:SlR X r)(h':SlR X r'):SlR X (fun x lo hi H Q=>r x lo hi H Q∨r' x lo hi H Q):=by
  intro pins s σ H x v vl vu lo hi sl Q I rx hs pl pu q
  rcases q with q | q
  · exact h pins s σ H x v vl vu lo hi sl Q I rx hs pl pu q
  · exact h' pins s σ H x v vl vu lo hi sl Q I rx hs pl pu q
def tSl (r:V→Option Int→Option Int→Hp→VK→Prop)(te:TE)(tl th:TO):TE:=fun σ H Q=>te σ H fun x H1=>tl σ H1 fun l H2=>th σ H2 fun u H3=>r x l u H3 Q
theorem jI {r:V→Option Int→Option Int→Hp→VK→Prop}(hr:SlR X r)(he:PE X e te)(hl:PO X lo tl)(hu:PO X hi th):PE X (.Subscript e (.Slice lo hi none p2) pos) (tSl r te tl th):=by
  intro pins s σ H Q I h
  refine Subscript_ (thn (he pins s σ H _ I h) fun v s1 ⟨x,H1,I1,r1,q1⟩=>?_)
  refine wpAny_Slice (thn (hl pins s1 σ H1 _ I1 q1) fun vl s2 ⟨l,H2,I2,pl,q2⟩=>thn (hu pins s2 σ H2 _ I2 q2) fun vu s3 ⟨u,H3,I3,pu,q3⟩=>?_)
  rw[evalPart_none]
  refine wpAny_pure ?_
  have I4:Inv X pins σ H3 { s3 with heap:=s3.heap.push { cls:=.type "slice", data:=.fields #[vl,vu,.none] } }:=I3.kept (t':=s3.toks) fun b ob q=>Heap.get?_push_of_some _ q
  obtain ⟨T,id,hT,ht,hg⟩:=hr pins { s3 with heap:=s3.heap.push { cls:=.type "slice", data:=.fields #[vl,vu,.none] } } σ H3 x v vl vu l u s3.heap.objs.size Q I4 r1 (Heap.IsSliceOf.new ..) pl pu q3
  show wpAny (model X.prog X.w) X.A (subscriptTail e (.Slice lo hi none p2) v (.ref s3.heap.objs.size)) (EP X pins σ Q) X.xe { s3 with heap:=s3.heap.push { cls:=.type "slice", data:=.fields #[vl,vu,.none] } }
  exact tail_any (ops:=[.ref s3.heap.objs.size,v]) ht hT hg (by with_unfolding_all rfl)
def ke (xs:List V)(lo hi:Option Int):List V:=(xs.drop (HT.sIx xs.length 0 lo)).take (HT.sIx xs.length xs.length hi - HT.sIx xs.length 0 lo)
theorem eF (xs:List V)(lo hi:Option Int):(ke xs lo hi).length≤xs.length:=by
  unfold ke
  rw[List.length_take,List.length_drop]
  omega
def zm (K:PySem.W.Frag):V→Option Int→Option Int→Hp→VK→Prop:=fun x lo hi H Q=>∃ a xs,x=.ref a∧SqT K H a xs∧
  ¬ (HT.sIx xs.length 0 lo=0∧HT.sIx xs.length xs.length hi=xs.length)∧∀ p,H p=none→Q (.ref p) (upd H p (.tup (ke xs lo hi)))
theorem wb:SlR X (zm X.K):=by
  intro pins s σ H x v vl vu lo hi sl Q I rx hs pl pu h
  obtain ⟨a,xs,rfl,hx,hw,q⟩:=h
  cases rx
  obtain ⟨its,r,ht,hz⟩:=I.tuple hx
  have hlen:its.toArray.size=xs.length:=by rw[List.size_toArray];exact r.length.symm
  refine ⟨"tuple", _,PyProof.Rows.slot_tuple_getitem.lookup,ht.typeIs,?_⟩
  refine HT.du ht hs pl pu (by rw[hlen];exact hw) ?_ (by rw[hlen];exact hz)
  rw[hlen]
  refine ⟨.ref s.heap.objs.size,_,I.laid (t':=s.toks) (o:=.tup (ke xs lo hi)) (fun b ob q=>Heap.get?_push_of_some _ q) (Nat.le_refl _) ?_,rfl,q _ (I.hok.fresh (Nat.le_refl _))⟩
  exact ⟨Nat.le_trans (eF xs lo hi) hz,_,(r.drop (HT.sIx xs.length 0 lo)).take (HT.sIx xs.length xs.length hi - HT.sIx xs.length 0 lo),lK.new _ _⟩
def uv (K:PySem.W.Frag):R2:=fun x y H Q=>∃ a b xs ys,x=.ref a∧y=.ref b∧SqT K H a xs∧SqT K H b ys∧xs≠[]∧xs.length+ys.length≤sizeLine∧
  (ys=[]→Q (.ref a) H)∧(ys≠[]→∀ p,H p=none→Q (.ref p) (upd H p (.tup (xs++ys))))
theorem Vals.jh {xs:List V}{us:List Value}(r:Vals xs us):us=[]↔xs=[]:=by
  cases r with
  | nil=>simp
  | cons _ _=>simp
theorem sI:OpR X (binaryOp .Add) (uv X.K):=by
  intro pins s σ H x y v u Q I rx ry h
  obtain ⟨a,b,xs,ys,rfl,rfl,ha,hb,hx,hz,q1,q2⟩:=h
  cases rx
  cases ry
  obtain ⟨its,r1,p1,_⟩:=I.tuple ha
  obtain ⟨its2,r2,p2,_⟩:=I.tuple hb
  refine HT.sd p1 p2 (fun z=>hx (r1.jh.mp z)) (fun z=>⟨.ref a,H,I,rfl,q1 (r2.jh.mp z)⟩) (fun z=>?_) (by rw[← r1.length,← r2.length];exact hz)
  refine ⟨.ref s.heap.objs.size,_,I.laid (t':=s.toks) (o:=.tup (xs++ys)) (fun b ob q=>Heap.get?_push_of_some _ q) (Nat.le_refl _) ?_,rfl,q2 (fun w=>z (r2.jh.mpr w)) _ (I.hok.fresh (Nat.le_refl _))⟩
  exact ⟨by rw[List.length_append];exact hz,_,r1.append r2,lK.new _ _⟩
end
end L2
namespace L2
open PySem PySem.Spec PyProof.Rows
def ixN (n:Nat)(i:Int):Option Nat:=if 0≤i then (if i < n then some i.toNat else none) else if -(n:Int)≤i then some (i+n).toNat else none
def atI {α:Type}(xs:List α)(i:Int):Option α:=(ixN xs.length i).bind fun j=>xs[j]?
theorem mY {n:Nat}{i:Int}{j:Nat}(h:ixN n i=some j):seqIndex? i n=some j∧j < n∧-(n:Int)≤i∧i < n:=by
  unfold ixN at h
  by_cases h0:0≤i
  · rw[if_pos h0] at h
    by_cases h1:i < n
    · rw[if_pos h1] at h
      have e:i.toNat=j:=Option.some.inj h
      exact ⟨by rw[seqIndex_of h0 h1,e],by omega,by omega,h1⟩
    · rw[if_neg h1] at h;cases h
  · rw[if_neg h0] at h
    by_cases h1:-(n:Int)≤i
    · rw[if_pos h1] at h
      have e:(i+n).toNat=j:=Option.some.inj h
      exact ⟨by rw[seqIndex_neg (by omega) h1,e],by omega,h1,by omega⟩
    · rw[if_neg h1] at h;cases h
theorem i5 {α:Type}{xs:List α}{i:Int}{v:α}(h:atI xs i=some v):∃ j,seqIndex? i xs.length=some j∧xs[j]? = some v∧j < xs.length∧-(xs.length:Int)≤i∧i < xs.length:=by
  unfold atI at h
  cases e:ixN xs.length i with
  | none=>rw[e] at h;cases h
  | some j=>
    rw[e] at h
    obtain ⟨h1,h2,h3,h4⟩:=mY e
    exact ⟨j,h1,h,h2,h3,h4⟩
def iU (b:Expr):Prop:=∀ o i,subscripted b false o i=operate [o,i] (getItem o i)
def IxR (X:Cx)(r:R2):Prop:=
  ∀ (value slice:Expr) (pins:List (Addr×Obj)) (s:Shared) (σ:St) (H:Hp) (x y:V) (v u:Value) (Q:VK),Inv X pins σ H s→RelV x v→RelV y u→r x y H Q→
    subscripted slice false v u=operate [v,u] (getItem v u)→wpAny (model X.prog X.w) X.A (subscriptTail value slice v u) (EP X pins σ Q) X.xe s
def MtR (X:Cx)(id:String)(r:V→List V→Hp→VK→Prop):Prop:=
  ∀ (pins:List (Addr×Obj)) (s:Shared) (σ:St) (H:Hp) (x:V) (xs:List V) (v:Value) (us:List Value) (Q:VK),Inv X pins σ H s→RelV x v→Vals xs us→r x xs H Q→
    wpAny (model X.prog X.w) X.A (call (.builtin id) (v::us)) (EP X pins σ Q) X.xe s
section
variable {X:Cx} {a b:Expr} {ta tb:TE} {pos:Pos}
theorem IxR.or {r r':R2}(h:IxR X r)(h':IxR X r'):IxR X (fun x y H Q=>r x y H Q∨r' x y H Q):=by
  intro value slice pins s σ H x y v u Q I rx ry q hs
  rcases q with q | q
  · exact h value slice pins s σ H x y v u Q I rx ry q hs
  · exact h' value slice pins s σ H x y v u Q I rx ry q hs
theorem MtR.or {id:String}{r r':V→List V→Hp→VK→Prop}(h:MtR X id r)(h':MtR X id r'):MtR X id (fun x xs H Q=>r x xs H Q∨r' x xs H Q):=by
  intro pins s σ H x xs v us Q I rx rs q
  rcases q with q | q
  · exact h pins s σ H x xs v us Q I rx rs q
  · exact h' pins s σ H x xs v us Q I rx rs q
theorem uD {r:R2}(hr:IxR X r)(ha:PE X a ta)(hb:PE X b tb)(hs:iU b):PE X (.Subscript a b pos) (tOp r ta tb):=by
  intro pins s σ H Q I h
  exact Subscript_ (vM ha hb I h fun v u s2 x y H2 I2 rx ry q=>hr a b pins s2 σ H2 x y v u Q I2 rx ry q (hs _ _))
def yg (K:PySem.W.Frag):R2:=fun x y H Q=>∃ p xs i v,x=.ref p∧y=.int i∧SqL K H p xs∧atI xs i=some v∧Q v H
def yd (K:PySem.W.Frag):R2:=fun x y H Q=>∃ p xs i v,x=.ref p∧y=.int i∧SqT K H p xs∧atI xs i=some v∧Q v H
def vg:R2:=fun x y H Q=>∃ z i c,x=.str z∧y=.int i∧z.length≤sizeLine∧atI z.cps.toList i=some c∧Q (.str ⟨#[c]⟩) H
theorem sL:IxR X (yg X.K):=by
  intro value slice pins s σ H x y v u Q I rx ry h hs
  obtain ⟨p,xs,i,z,rfl,rfl,hq,he,q⟩:=h
  cases rx
  obtain ⟨t,rfl⟩:=ry
  obtain ⟨its,r,pl,hz⟩:=I.list hq
  obtain ⟨j,h1,h2,h3,h4,h5⟩:=i5 he
  obtain ⟨w,ew,rw'⟩:=r.get h2
  have hl:=r.length
  have hn:=dZ
  have fin:EP X pins σ Q w s:=⟨z,H,I,rw',q⟩
  by_cases h0:0≤i
  · have hj:i.toNat=j:=by
      rw[seqIndex_of h0 h5] at h1
      exact Option.some.inj h1
    exact item_listR pl.isList h0 (by omega) (by rw[hj];simpa using ew) fin hs
  · have hj:(i+(its.toArray.size:Int)).toNat=j:=by
      rw[seqIndex_neg (by omega) h4] at h1
      rw[List.size_toArray,← hl]
      exact Option.some.inj h1
    exact subscriptTail_builtinR (x:=w) pl.isList.typeIs slot_list_getitem.lookup
      (wpAny_getItem_list_neg (Q:=fun r s'=>r=w∧EP X pins σ Q r s') pl.isList (by omega) (by rw[List.size_toArray]<;>omega) (by omega) (by rw[hj];simpa using ew) ⟨rfl,fin⟩) hs
theorem uS:IxR X (yd X.K):=by
  intro value slice pins s σ H x y v u Q I rx ry h hs
  obtain ⟨p,xs,i,z,rfl,rfl,hq,he,q⟩:=h
  cases rx
  obtain ⟨t,rfl⟩:=ry
  obtain ⟨its,r,pl,hz⟩:=I.tuple hq
  obtain ⟨j,h1,h2,h3,h4,h5⟩:=i5 he
  obtain ⟨w,ew,rw'⟩:=r.get h2
  have hl:=r.length
  have hn:=dZ
  have fin:EP X pins σ Q w s:=⟨z,H,I,rw',q⟩
  exact subscriptTail_builtinR (x:=w) pl.typeIs slot_tuple_getitem.lookup
    (getItem_tuple (j:=j) (Q:=fun r s'=>r=w∧EP X pins σ Q r s') pl (by omega) (by omega) (by rw[List.size_toArray,← hl];exact h1) (by simpa using ew) ⟨rfl,fin⟩) hs
theorem oZ:IxR X vg:=by
  intro value slice pins s σ H x y v u Q I rx ry h hs
  obtain ⟨z,i,c,rfl,rfl,hz,he,q⟩:=h
  obtain ⟨t,rfl⟩:=rx
  obtain ⟨t',rfl⟩:=ry
  obtain ⟨j,h1,h2,h3,h4,h5⟩:=i5 he
  have hl:z.cps.toList.length=z.length:=by simp[Str.length]
  rw[hl] at h1 h4 h5
  have hn:=dZ
  exact tail_any (typeIs_str s z t) slot_str_getitem.lookup (getItem_str (c:=c) (by
    have e1:decide (i < -(2 ^ 63:Int))=false:=decide_eq_false (by omega)
    have e2:decide (i ≥ 2 ^ 63)=false:=decide_eq_false (by omega)
    rw[e1,e2,Bool.or_false]) (by rw[h1];simpa using h2) ⟨.str ⟨#[c]⟩,H,I.tok _,⟨_,rfl⟩,q⟩) hs
def rIx (K:PySem.W.Frag):R2:=fun x y H Q=>yg K x y H Q∨yd K x y H Q∨vg x y H Q
theorem uI:IxR X (rIx X.K):=sL.or (uS.or oZ)
theorem l9 (its:List Value)(n j:Nat)(u:Value):Obj.mapSeq (·.setIfInBounds j u) { cls:=.type "list", data:=.seq its.toArray n }={ cls:=.type "list", data:=.seq (its.set j u).toArray n }:=by
  simp[Obj.mapSeq]
theorem Inv.lst {pins:List (Addr×Obj)}{σ:St}{H:Hp}{s:Shared}{p:Addr}{xs:List V}(I:Inv X pins σ H s)(h:H p=some (.lst xs)) :
    ∃ (its:List Value) (n:Nat),Vals xs its∧s.heap.get? p=some { cls:=.type "list", data:=.seq its.toArray n }∧xs.length≤sizeLine:=by
  obtain ⟨z,its,n,r,e⟩:=I.hok p _ h
  exact ⟨its,n,r,e,z⟩
theorem Inv.wg {pins:List (Addr×Obj)}{σ:St}{H:Hp}{s:Shared}{p:Addr}{xs ys:List V}{its its':List Value}{n n':Nat}{f:Obj→Obj}(I:Inv X pins σ H s)(h:H p=some (.lst xs))
    (ho:s.heap.get? p=some { cls:=.type "list", data:=.seq its.toArray n }) (hf:f { cls:=.type "list", data:=.seq its.toArray n }={ cls:=.type "list", data:=.seq its'.toArray n' }) (r:Vals ys its') (hz:ys.length≤sizeLine) (t:Nat) :
    Inv X pins σ (upd H p (.lst ys)) { s with heap:=s.heap.update p f,toks:=t }:=by
  have e:(s.heap.update p f).get? p=some { cls:=.type "list", data:=.seq its'.toArray n' }:=by
    rw[Heap.get?_update_self f ho (by rw[hf]<;>rfl),hf]
  refine I.write (x:=p) (e:=p) (by rw[h];trivial) (.inl rfl) (fun b u hb q=>(Heap.get?_update_other _ _ (Ne.symm hb)).trans q) ⟨_,e⟩ ?_
  exact ⟨hz,its',n',r,e⟩
def yZ:V→V→V→Hp→(Hp→Prop)→Prop:=fun o i v H Q=>∃ p xs k j,o=.ref p∧i=.int k∧H p=some (.lst xs)∧ixN xs.length k=some j∧Q (upd H p (.lst (xs.set j v)))
theorem set_list:xn X yZ:=by
  intro pins s σ H o i v ov iv u Q I ro ri rv h
  obtain ⟨p,xs,k,j,rfl,rfl,hp,hj,q⟩:=h
  cases ro
  obtain ⟨t,rfl⟩:=ri
  obtain ⟨its,n,r,ho,hz⟩:=I.lst hp
  obtain ⟨h1,h2,h3,h4⟩:=mY hj
  have hl:=r.length
  have hn:=dZ
  have I':Inv X pins σ (upd H p (.lst (xs.set j v))) { s with heap:=s.heap.update p (Obj.mapSeq (·.setIfInBounds j u)) }:=
    I.wg hp ho (l9 its n j u) (r.set rv j) (by rw[List.length_set];exact hz) s.toks
  by_cases h0:0≤k
  · have hk:k.toNat=j:=by
      rw[seqIndex_of h0 h4] at h1
      exact Option.some.inj h1
    exact PySem.W.ki_setAt ho h0 (by omega) (by rw[List.size_toArray,← hl];exact h4) (by rw[hk];exact ⟨_,I',q⟩)
  · have hk:(k+(its.toArray.size:Int)).toNat=j:=by
      rw[seqIndex_neg (by omega) h3] at h1
      rw[List.size_toArray,← hl]
      exact Option.some.inj h1
    exact PySem.W.ki_setBack ho (by omega) (by rw[List.size_toArray,← hl];exact h3) (by omega) (by rw[hk];exact ⟨_,I',q⟩)
theorem iM (lo hi:Option Int)(n:Nat):(sliceBounds lo hi none n).1=((HT.sIx n 0 lo:Nat):Int)∧(sliceBounds lo hi none n).2.1=((HT.sIx n n hi:Nat):Int)∧(sliceBounds lo hi none n).2.2=1:=by
  refine ⟨?_,?_,rfl⟩
  · cases lo with
    | none=>simp[sliceBounds,HT.sIx]
    | some i=>
      simp only[sliceBounds,HT.sIx,Option.getD_none,show (1:Int) > 0 by decide,if_true]
      by_cases h:i < 0
      · simp only[h,if_true]<;>omega
      · simp only[h,if_false]<;>omega
  · cases hi with
    | none=>simp[sliceBounds,HT.sIx]
    | some i=>
      simp only[sliceBounds,HT.sIx,Option.getD_none,show (1:Int) > 0 by decide,if_true]
      by_cases h:i < 0
      · simp only[h,if_true]<;>omega
      · simp only[h,if_false]<;>omega
theorem gJ (its:List Value)(lo hi:Option Int):slicePick its.toArray lo hi none=((its.drop (HT.sIx its.length 0 lo)).take (HT.sIx its.length its.length hi - HT.sIx its.length 0 lo)).toArray:=by
  obtain ⟨h1,h2,h3⟩:=iM lo hi its.toArray.size
  unfold slicePick
  rw[h1,h2,h3]
  simp only[sliceRange_one,pick_run,List.size_toArray]<;>rfl
def zJ (K:PySem.W.Frag):V→Option Int→Option Int→Hp→VK→Prop:=fun x lo hi H Q=>∃ a xs,x=.ref a∧SqL K H a xs∧∀ p,H p=none→Q (.ref p) (upd H p (.lst (ke xs lo hi)))
theorem rE:SlR X (zJ X.K):=by
  intro pins s σ H x v vl vu lo hi sl Q I rx hs pl pu h
  obtain ⟨a,xs,rfl,hx,q⟩:=h
  cases rx
  obtain ⟨its,r,ht,hz⟩:=I.list hx
  have hlen:=r.length
  refine ⟨"list", _,slot_list_getitem.lookup,ht.isList.typeIs,?_⟩
  refine wpAny_getItem_list_slice ht.isList hs pl pu .none (by simp) ?_ (by rw[List.size_toArray]<;>omega)
  rw[gJ,← hlen]
  refine ⟨.ref s.heap.objs.size,_,I.laid (t':=s.toks) (o:=.lst (ke xs lo hi)) (fun b ob q=>Heap.get?_push_of_some _ q) (Nat.le_refl _) ?_,rfl,q _ (I.hok.fresh (Nat.le_refl _))⟩
  exact ⟨Nat.le_trans (eF xs lo hi) hz,_,0,(r.drop (HT.sIx xs.length 0 lo)).take (HT.sIx xs.length xs.length hi - HT.sIx xs.length 0 lo),Heap.get?_push_size _ rfl⟩
def uF:V→Bool
  | .non=>true
  | .bl _=>true
  | .int _=>true
  | .str _=>true
  | _=>false
def eqV:V→V→Bool
  | .non,.non=>true
  | .bl a,.bl b=>a == b
  | .bl a,.int b=>(if a then 1 else 0) == b
  | .int a,.bl b=>a == (if b then 1 else 0)
  | .int a,.int b=>a == b
  | .str a,.str b=>a == b
  | _,_=>false
def inV (x:V)(xs:List V):Bool:=xs.any fun y=>eqV y x
def rIn (K:PySem.W.Frag)(neg:Bool):R2:=fun x y H Q=>∃ p xs,y=.ref p∧(SqL K H p xs∨SqT K H p xs)∧uF x=true∧xs.all uF=true∧Q (.bl (if neg then !inV x xs else inV x xs)) H
theorem iX:aS X (.builtin "len") (fun xs H Q=>∃ p ys,xs=[.ref p]∧(SqL X.K H p ys∨SqT X.K H p ys)∧Q (.int ys.length) H):=by
  intro pins s σ H xs us Q I r h
  obtain ⟨p,ys,rfl,hq,q⟩:=h
  obtain ⟨u,rfl,rx⟩:=vals1 r
  cases rx
  have hn:=dZ
  rcases hq with hq | hq
  · obtain ⟨its,r',pl,hz⟩:=I.list hq
    have hlen:=r'.length
    exact Calls.call_len_list pl.isList (by simp only[List.size_toArray]<;>omega) ⟨.int ys.length,H,I.tok _,⟨s.toks+1,by rw[List.size_toArray,hlen]⟩,q⟩
  · obtain ⟨its,r',pl,hz⟩:=I.tuple hq
    have hlen:=r'.length
    exact len_tuple pl (by simp only[List.size_toArray]<;>omega) ⟨.int ys.length,H,I.tok _,⟨s.toks+1,by rw[List.size_toArray,hlen]⟩,q⟩
theorem iS:aS X (.builtin "len") (fun xs H Q=>∃ z,xs=[.str z]∧z.length≤sizeLine∧Q (.int z.length) H):=by
  intro pins s σ H xs us Q I r h
  obtain ⟨z,rfl,hz,q⟩:=h
  obtain ⟨u,rfl,t,rfl⟩:=vals1 r
  have hn:=dZ
  exact len_str (by omega) ⟨.int z.length,H,I.tok _,⟨_,rfl⟩,q⟩
theorem aS.or {f:Value}{r r':List V→Hp→VK→Prop}(h:aS X f r)(h':aS X f r'):aS X f (fun xs H Q=>r xs H Q∨r' xs H Q):=by
  intro pins s σ H xs us Q I rs q
  rcases q with q | q
  · exact h pins s σ H xs us Q I rs q
  · exact h' pins s σ H xs us Q I rs q
variable {o e:Expr} {es:List Expr} {to:TE} {t:TA} {name:Str} {apos cpos:Pos} {T id:String} {r:V→List V→Hp→VK→Prop}
end
end L2
namespace L2
open PySem PySem.Spec PyProof.Rows
def MtM (X:Cx)(id:String)(r:V→List V→Hp→VK→Prop):Prop:=
  ∀ (pins:List (Addr×Obj)) (s:Shared) (σ:St) (H:Hp) (x:V) (xs:List V) (v:Value) (us:List Value) (Q:VK),Inv X pins σ H s→RelV x v→Vals xs us→r x xs H Q→
    wpAny (model X.prog X.w) X.A (call (.builtin id) (v::us)) (EP X pins σ Q) X.xe s
theorem Vals.one:∀ {x:V} {us:List Value},Vals [x] us→∃ u,us=[u]∧RelV x u
  | _,_,.cons r .nil=>⟨_,rfl,r⟩
theorem Vals.two:∀ {x y:V} {us:List Value},Vals [x,y] us→∃ u v,us=[u,v]∧RelV x u∧RelV y v
  | _,_,_,.cons r (.cons q .nil)=>⟨_,_,rfl,r,q⟩
theorem Vals.zero:∀ {us:List Value},Vals [] us→us=[]
  | _,.nil=>rfl
theorem Vals.reverse {xs:List V}{us:List Value}(h:Vals xs us):Vals xs.reverse us.reverse:=by
  induction h with
  | nil=>exact .nil
  | cons r t ih=>rw[List.reverse_cons,List.reverse_cons];exact Vals.append ih (.cons r .nil)
theorem Vals.rep {xs:List V}{us:List Value}(h:Vals xs us):∀ k:Nat,Vals (List.replicate k xs).flatten (List.replicate k us).flatten
  | 0=>.nil
  | k+1=>by
    rw[List.replicate_succ,List.replicate_succ,List.flatten_cons,List.flatten_cons]
    exact Vals.append h (Vals.rep h k)
section
variable {X:Cx} {pins:List (Addr×Obj)} {σ:St} {H:Hp} {s:Shared} {l b:Addr} {xs ys zs:List V}
theorem Inv.zp {its its':List Value}{n:Nat}{f:Array Value→Array Value}{t':Nat}(I:Inv X pins σ H s)(hH:H l=some (.lst xs))
    (e:s.heap.get? l=some { cls:=.type "list", data:=.seq its.toArray n }) (hf:f its.toArray=its'.toArray) (hv:Vals ys its') (hz:ys.length≤sizeLine) :
    Inv X pins σ (upd H l (.lst ys)) { s with heap:=s.heap.update l (Obj.mapSeq f),toks:=t' }:=by
  have q:=PySem.IsL.update e f
  rw[hf] at q
  refine I.write (x:=l) (e:=l) (by rw[hH];exact trivial) (.inl rfl) (fun b' u hb hu=>(Heap.get?_update_other s.heap (Obj.mapSeq f) (Ne.symm hb)).trans hu) ⟨_,q⟩ ?_
  exact ⟨hz,its',_,hv,q⟩
theorem Inv.zF {its:List Value}{t':Nat}(I:Inv X pins σ H s)(hv:Vals ys its)(hz:ys.length≤sizeLine) :
    Inv X pins σ (upd H s.heap.objs.size (.lst ys)) { s with heap:=s.heap.push { cls:=.type "list", data:=.seq its.toArray },toks:=t' }:=
  I.laid (fun _ _ q=>Heap.get?_push_of_some _ q) (Nat.le_refl _) ⟨hz,its,0,hv,Heap.get?_push_size _ rfl⟩
theorem Inv.fresh (I:Inv X pins σ H s):H s.heap.objs.size=none:=I.hok.fresh (Nat.le_refl _)
theorem Inv.y4 (I:Inv X pins σ H s)(hH:H l=some (.lst xs)):xs.length≤sizeLine∧∃ (its:List Value) (n:Nat),Vals xs its∧xs.length=its.length∧s.heap.get? l=some { cls:=.type "list", data:=.seq its.toArray n }:=by
  obtain ⟨z,its,n,r,e⟩:=I.hok l _ hH
  exact ⟨z,its,n,r,r.length,e⟩
end
section
variable {X:Cx}
def sU:V→List V→Hp→VK→Prop:=fun x vs H Q=>∃ l xs y,x=.ref l∧vs=[y]∧H l=some (.lst xs)∧xs.length < sizeLine∧Q .non (upd H l (.lst (xs++[y])))
theorem nB:MtM X "list.append" sU:=by
  intro pins s σ H x vs v us Q I rx rv h
  obtain ⟨l,xs,y,rfl,rfl,hH,hz,q⟩:=h
  cases rx
  obtain ⟨u,rfl,ru⟩:=rv.one
  obtain ⟨z,its,n,r,hl,e⟩:=I.y4 hH
  refine call_meets F.slot_list_append ⟨_,e,rfl⟩ F.entry_list_append (F.args_list_append_2 _ _) (PySem.list_append l its.toArray n u (by rw[List.size_toArray];omega)) ⟨e,?_⟩
  refine ⟨.non,_,I.zp (its':=its++[u]) hH e (by simp) (r.append (.cons ru .nil)) ?_,rfl,q⟩
  rw[List.length_append,List.length_singleton]
  omega
end
section
variable {prog:Program} {w:World} {A:Around} {E:Value→Shared→Prop} {s:Shared}
end
section
variable {X:Cx}
end
end L2
namespace Att
open PySem PySem.W PySem.Calls PyProof.Rows
theorem e5 {P:Params}{h:Heap}:∀ (ns:List Int) (vs:List Value),WellAll P h vs (ns.map WData.int)→IntsAre vs ns:=by
  intro ns
  induction ns with
  | nil=>
    intro vs w
    rw[List.map_nil] at w
    cases w
    exact .nil
  | cons n ns ih=>
    intro vs w
    rw[List.map_cons] at w
    cases w with
    | cons a b=>
      cases a
      exact .cons _ _ (ih _ b)
theorem nM {l:OpenLaw}{n:Nat}(hn:l.most=some n){P:Params}{h:Heap}{args:List WData}{vals:List Value}
    (hpre:l.row.toRowW.claim.pre args=true) (hwl:WellAll P h vals args) :
    ∃ a vs ns,vals=[Value.ref a]∧args=[WData.list (ns.map WData.int)]∧h.get? a=some { cls:=.type "list", data:=.seq vs.toArray }∧IntsAre vs ns∧ns.length≤n:=by
  have hsh:WShape.hasAll [] args [.list .int]=true:=(pre_splitW hpre).1
  have hc:l.pre.holds [] { args:=args }=true:=(pre_splitW hpre).2
  obtain ⟨d,r,rfl,h1,h2⟩:=hasAllW_cons hsh
  obtain rfl:=hasAllW_nil h2
  obtain ⟨xs,rfl,h3⟩:=hasW_list h1
  obtain ⟨ns,rfl⟩:=items_int h3
  have hlen:ns.length≤n:=by
    unfold OpenLaw.pre at hc
    have h4:(WTm.not (.lt (.lit (.int (n:Int))) (.len (.arg 0)))).holds [] { args:=[.list (ns.map .int)] }=true:=by
      have h4:=(holds_andW hc).1
      rw[hn] at h4
      exact h4
    have h5:=condW_of h4 (w_not (w_lt w_lit (w_len_list (w_arg rfl))))
    rw[List.length_map] at h5
    refine Nat.le_of_not_lt fun q=>?_
    have q':(n:Int) < ((ns.length:Nat):Int):=by omega
    first
      | (rw[decide_eq_true q'] at h5;exact absurd h5 (by decide))
      | (simp at h5;omega)
  cases hwl with
  | cons w1 w2=>
    cases w2
    cases w1 with
    | list ho hall=>exact ⟨_,_,ns,rfl,rfl,ho,e5 ns _ hall,hlen⟩
theorem n5 (l:OpenLaw)(args:List WData):l.row.toRowW.claim.post args (.bool true) args=true:=
  postW_of (r:=l.row.toRowW) (X:=(true == true))
    (show WShape.has [] (.bool true) .bool=true by first | rfl | decide | simp[WShape.has,WShape.arms,WShape.armsAll])
    (show (WTm.eq .res (.lit (.bool true))).value [] { args:=args,res:=some (.bool true),after:=args }=some (.bool (true == true)) from w_eq_bool (w_res rfl) w_lit) rfl
theorem jA {l:OpenLaw}{n:Nat}{q:Program}{loose:List Str}{XP:(Str→Option Value)→Heap→Prop}{YP:World→Heap→Prop}{d:DefRec}
    (hn:l.most=some n) (hdf:d.params.defaults=[])
    (call:∀ (w:World) (s₀ s₁:Shared) (mg mb:Str→Option Value) (fa:Addr) (o:Obj) (pm cd doc:Value) (a:Addr) (vs:List Value) (ns:List Int),
      Ground q loose [] XP w s₀ mg mb s₁.heap→YP w s₁.heap→
      s₁.heap.get? fa=some o→o.data=.func (docDef d.name d.params d.body d.scope pm cd doc)→s₁.heap.CodeRec cd d.name→mg d.name=some (.ref fa)→
      s₁.heap.get? a=some { cls:=.type "list", data:=.seq vs.toArray }→IntsAre vs ns→ns.length≤n→s₁.gens = #[]→
      codeAny (model l.prog w) callerA (.call (.ref fa) ⟨[.ref a],[]⟩) (fun r s'=>r=.ok (.ret (.bool true))∧OldK s₁.heap s'.heap∧s'.os=s₁.os∧AllBare s'.gens) s₁) :
    WalkO q loose XP YP l.row.toRowW d [] (fun f vs=>PySem.call f vs):=by
  intro w s₀ s₁ mg mb G Y fa o pm cd doc dV kV ho hd hcd hD hmg hg args vals as hpre hlay hrd hwl hlo
  obtain rfl:dV=.none:=Dflts.none hD hdf
  obtain rfl:kV=.none:=Dflts.noKw hD
  obtain ⟨a,vs,ns,rfl,rfl,hobj,hints,hlen⟩:=nM hn hpre hwl
  refine enter_call (codeAny_mono (call w s₀ s₁ mg mb fa o pm cd doc a vs ns G Y ho (fd_plain hd) hcd hmg hobj hints hlen hg) fun r s' hq=>?_)
  obtain ⟨rfl,h2,h3,h4⟩:=hq
  exact ⟨.inl ⟨.bool true,.bool true,[],rfl,fun _=>rfl,.bool true,n5 l _,fun _=>⟨List.Pairwise.nil,fun _ hm=>(nomatch hm)⟩⟩,h2,h3,h4⟩
section
variable {prog:Program} {w:World} {A:Around} {E:Value→Shared→Prop} {s:Shared} {K:Frag}
end
end Att
namespace L2
open PySem PySem.Spec PyProof.Rows
theorem iu:∀ {vs:List Value} {ns:List Int},IntsAre vs ns→Vals (ns.map V.int) vs
  | _,_,.nil=>.nil
  | _,_,.cons n t h=>.cons ⟨t,rfl⟩ (iu h)
def rK (H:Hp):Prop:=∀ b,H b=none∨∃ o xs,H b=some (.frz o (.lst xs))
theorem qh {P:Program}{w:World}{K:PySem.W.Frag}{mg mb:Str→Option Value}{CX:CXT}{k:Nat}{fa a:Addr}{fd:FuncData}{x:Str}{sp:Sp}{s₁:Shared}{vs:List Value}{ns:List Int}
    (KX:K.In s₁.heap) (hns:s₁.heap.Ns mainGlobals mg) (hb:s₁.heap.Ns builtinsNs mb) (hbb:∀ x:Str,x ≠ "__name__" → mb x=bootBuiltins x) (hlim:s₁.heap.NoLimit) (hg:s₁.gens = #[])
    (ha:s₁.heap.get? a=some { cls:=.type "list", data:=.seq vs.toArray }) (hi:IntsAre vs ns) (hl:ns.length≤sizeLine) (hr:bB k callerA)
    (F:∀ base:Heap,K.In base→base.Ns mainGlobals mg→dj P w K mg base CX k fa fd [x] sp) (hbind:∀ (s:Shared) (u:Value),BindsTo s fd ⟨[u],[]⟩ [(x,u)])
    (hsp:∀ H:Hp,rK H→SqL K H a (ns.map V.int)→sp [.ref a] H (fun v _=>v=.bl true) fun _ _ _=>False)
    (hCX:∀ H e s',CX [] H s₁ (fun _ _ _=>False) e s'→False) :
    codeAny (model P w) callerA (.call (.ref fa) ⟨[.ref a],[]⟩) (fun r s'=>r=.ok (.ret (.bool true))∧OldK s₁.heap s'.heap∧s'.os=s₁.os∧AllBare s'.gens) s₁:=by
  have rv:=iu hi
  have zE:=hi.length
  -- from an abstract heap in which nothing but the script may be tracked
  have core:∀ H:Hp,rK H→SqL K H a (ns.map V.int)→HOk P w H s₁.heap→(∀ b,H b≠none→b=a)→(H a≠none→K.lookup a=none)→
      codeAny (model P w) callerA (.call (.ref fa) ⟨[.ref a],[]⟩) (fun r s'=>r=.ok (.ret (.bool true))∧OldK s₁.heap s'.heap∧s'.os=s₁.os∧AllBare s'.gens) s₁:=by
    intro H hO hS hok hA hK
    have base_of:∀ {b:Addr} {o:Obj},s₁.heap.get? b=some o→H b=none→(jf s₁.heap H).get? b=some o:=fun e n=>pF e n
    have noA:∀ {b:Addr} {o:Obj} {es:Array DictEntry} {ep:Nat},s₁.heap.get? b=some o→o.data=.dict es ep→H b=none:=fun {b o es ep} e d=>by
      cases q:H b with
      | none=>rfl
      | some u=>
        have e':b=a:=hA b (by rw[q];simp)
        subst e'
        rw[ha] at e;cases e
        have d':Data.seq vs.toArray _=Data.dict es ep:=d
        cases d'
    have nsK:∀ {b:Addr} {m:Str→Option Value},s₁.heap.Ns b m→(jf s₁.heap H).Ns b m:=fun {b m} ⟨o,es,ep,e,d,r⟩=>⟨o,es,ep,base_of e (noA e d),d,r⟩
    have hKb:K.In (jf s₁.heap H):=fun b o e=>base_of (KX b o e) (by
      cases q:H b with
      | none=>rfl
      | some u=>
        have e':b=a:=hA b (by rw[q];simp)
        subst e'
        rw[hK (by rw[q];simp)] at e;cases e)
    have hM:Mod K mg (jf s₁.heap H):=⟨hKb,nsK hns,⟨mb,nsK hb,hbb⟩,let ⟨mc,h1,h2⟩:=hlim;⟨mc,nsK h1,h2⟩⟩
    have e0:mw P w K mg (jf s₁.heap H) callerA [] s₁ H:=⟨rfl,hM,fun b o e=>tO e,Nat.le_of_eq (nS _ _),trivial,fun b hb=>absurd (show b∈([]:List Addr) from hb) (by simp),hok,.of_eq hg⟩
    refine codeAny_mono ((F _ hKb (nsK hns)).run callerA [] s₁ H ⟨[.ref a],[]⟩ [.ref a] [.ref a] _ _ hr e0 (hbind s₁ (.ref a)) (.cons rfl .nil) (hsp H hO hS)) fun r s' h=>?_
    cases r with
    | error e=>exact (hCX H e s' h).elim
    | ok fl=>
      cases fl with
      | next=>exact False.elim h
      | brk=>exact False.elim h
      | cont=>exact False.elim h
      | ret u=>
        obtain ⟨v,H',os,bare,un,hok',r',q⟩:=h
        have q':v=.bl true:=q
        subst q'
        obtain rfl:u=Value.bool true:=r'
        refine ⟨rfl,OldK.of_keep fun b o e=>?_,os,bare⟩
        cases q:H b with
        | none=>exact un.keep b o e q (by intro z;exact absurd (show b∈([]:List Addr) from z) (by simp)) (by simp)
        | some u=>
          rcases hO b with z | ⟨ob,xs,z⟩
          · rw[q] at z;cases z
          · have z2:=un.dQ b ob _ z
            obtain ⟨e1,_⟩:=hok b _ z
            obtain ⟨e2,_⟩:=hok' b _ z2
            rw[e] at e1;cases e1
            exact e2
  cases hk:K.lookup a with
  | some o=>
    -- the script is one of the module's own objects
    have e:=KX a o hk
    rw[ha] at e
    cases e
    refine core (fun _=>none) (fun _=>.inl rfl) (.inr ⟨_,vs.toArray,_,hk,rfl,rfl,rfl,by rw[List.size_toArray,zE];exact hl,by simpa using rv⟩) (fun b u z=>by have z':(none:Option HO)=some u:=z;cases z') (fun b z=>absurd rfl z) fun z=>absurd rfl z
  | none=>
    refine core (fun b=>if b=a then some (.frz { cls:=.type "list", data:=.seq vs.toArray } (.lst (ns.map V.int))) else none) (fun b=>?_) (.inl (.inr ⟨{ cls:=.type "list", data:=.seq vs.toArray },if_pos rfl⟩)) (fun b u z=>?_) (fun b z=>?_) fun _=>hk
    · by_cases hb:b=a
      · exact .inr ⟨_,_,if_pos hb⟩
      · exact .inl (if_neg hb)
    · by_cases hb:b=a
      · have z':=(if_pos hb).symm.trans z
        cases z'
        subst hb
        exact ⟨ha,by rw[List.length_map];exact hl,vs,_,rv,ha⟩
      · have z':=(if_neg hb).symm.trans z
        cases z'
    · by_cases hb:b=a
      · exact hb
      · exact absurd (if_neg hb) z
end L2
namespace L2
open PySem PySem.Spec PyProof.Rows
theorem tS {l:PySem.W.OpenLaw}{n k:Nat}{q:Program}{loose:List Str}{XP:(Str→Option Value)→Heap→Prop}{YP:World→Heap→Prop}{d:DefRec}{K:Params→PySem.W.Frag}{CX:World→CXT}{sp:World→Sp}{x:Str}
    (hn:l.most=some n) (hn2:n≤sizeLine) (hdf:d.params.defaults=[]) (hr:bB k callerA)
    (hY:∀ (w:World) (h:Heap),YP w h→(K w.params).In h)
    (F:∀ (w:World) (mg:Str→Option Value) (fa:Addr) (h:Heap),(K w.params).In h→h.Ns mainGlobals mg→mg d.name=some (.ref fa)→
      ∃ fd:FuncData,(∀ (s:Shared) (u:Value),BindsTo s fd ⟨[u],[]⟩ [(x,u)])∧
        ∀ base:Heap,(K w.params).In base→base.Ns mainGlobals mg→dj l.prog w (K w.params) mg base (CX w) k fa fd [x] (sp w))
    (hsp:∀ (w:World) (H:Hp) (a:Addr) (ns:List Int),ns.length≤n→rK H→SqL (K w.params) H a (ns.map V.int)→sp w [.ref a] H (fun v _=>v=.bl true) fun _ _ _=>False)
    (hCX:∀ (w:World) (H:Hp) (s:Shared) (e:Value) (s':Shared),CX w [] H s (fun _ _ _=>False) e s'→False) :
    PySem.W.WalkO q loose XP YP l.row.toRowW d [] (fun f vs=>PySem.call f vs):=by
  refine Att.jA hn hdf fun w s₀ s₁ mg mb fa o pm cd doc a vs ns G Y ho hd hcd hmg hobj hints hlen hg=>?_
  have KX:=hY w _ Y
  obtain ⟨fd,hb,hF⟩:=F w mg fa _ KX G.T.g hmg
  exact qh KX G.T.g G.T.b G.T.builtins G.T.nolimit hg hobj hints (Nat.le_trans hlen hn2) hr hF hb (fun H hO hS=>hsp w H a ns hlen hO hS) fun H e s'=>hCX w H s₁ e s'
end L2
namespace L2
open PySem PySem.Spec PyProof.Rows
def dA (s:Stmt):Arguments:=match s with
  | .FunctionDef _ a _ _ _ _ _ _ _ _=>a
  | _=>{ posonlyargs:=[],args:=[],vararg:=none,kwonlyargs:=[],kw_defaults:=[],kwarg:=none,defaults:=[] }
def bP (s:Stmt):List Stmt:=match s with
  | .FunctionDef _ _ b _ _ _ _ _ _ _=>b
  | _=>[]
def aq (s:Stmt):Scope:=match s with
  | .FunctionDef _ _ _ _ _ _ sc _ _ _=>sc
  | _=>{ kind:=.function,names:=[],isGenerator:=false,isCoroutine:=false }
abbrev CX0:CXT:=fun _ _ _ _ _ _=>False
abbrev E0:XK:=fun _ _ _=>False
theorem yU {X:Cx}:Passes CX0 X E0:=fun _ _ _ _ _ _ _ h=>h.elim
structure Fun (K:PySem.W.Frag) (x qual:Str) (st:Stmt) (f:Addr) (fd:FuncData):Prop where
  ex:∃ (oc:Value) (od:Option Addr) (kV doc pm:Value) (an:Option Addr) (cdv ct:Value) (osl:Array (Option Value)),
    fd=PySem.W.fnOf x qual (dA st) (bP st) (aq st) .none kV doc pm an cdv ct∧K.lookup f=some ⟨oc,od,.func fd,osl⟩∧PySem.W.codeIn K cdv qual=true
  kp:PySem.W.keepIn K (.ref f)=true
section
variable {P:Program} {w:World} {K:PySem.W.Frag} {mg:Str→Option Value} {base:Heap}
theorem Fun.ok {x qual:Str}{st:Stmt}{f:Addr}{fd:FuncData}{N ps:List Str}{k:Nat}{sp:Sp}(F:Fun K x qual st f fd)(S:aB N ps (aq st))(len:∀ vs H Q E,sp vs H Q E→vs.length=ps.length)
    (hbody:∀ (cdv:Value) (A:Around) (outer:List Env) (s:Shared) (H:Hp) (vs:List V) (Q:VK) (E:XK),bB k (A.deeper (envOfC qual (aq st) s.heap.objs.size f cdv))→sp vs H Q E→
      ∃ t,PSs (jD CX0 P w K mg base N qual (aq st) f cdv A outer s H E).nox (bP st) t∧t { nx:=fun _ H'=>Q .non H',rt:=Q } (start N vs) H):dj P w K mg base CX0 (k+1) f fd ps sp:=by
  obtain ⟨oc,od,kV,doc,pm,an,cdv,ct,osl,rfl,lk,hcd⟩:=F.ex
  refine yo lk hcd S len fun A outer s H vs Q E hr hsp=>?_
  obtain ⟨t,h,q⟩:=hbody cdv A outer s H vs Q E hr hsp
  exact ⟨t,h.nox,q⟩
theorem Fun.binds {x qual:Str}{st:Stmt}{f:Addr}{fd:FuncData}{ps:List Str}(F:Fun K x qual st f fd)
    (h:∀ (kV doc pm:Value) (an:Option Addr) (cdv ct:Value) (us:List Value),us.length=ps.length→bindArgs (PySem.W.fnOf x qual (dA st) (bP st) (aq st) .none kV doc pm an cdv ct) ⟨us,[]⟩=pure (ps.zip us)):Binds K fd ps []:=by
  obtain ⟨oc,od,kV,doc,pm,an,cdv,ct,osl,rfl,lk,hcd⟩:=F.ex
  exact .all (h kV doc pm an cdv ct)
theorem a5 {x qual:Str}{st:Stmt}{f:Addr}{oc:Value}{od an:Option Addr}{osl:Array (Option Value)}{kV doc pm cdv ct:Value}(l:K.lookup f=some ⟨oc,od,.func (PySem.W.fnOf x qual (dA st) (bP st) (aq st) .none kV doc pm an cdv ct),osl⟩)
    (c:PySem.W.codeIn K cdv qual=true) (k:PySem.W.keepIn K (.ref f)=true):Fun K x qual st f (PySem.W.fnOf x qual (dA st) (bP st) (aq st) .none kV doc pm an cdv ct):=⟨⟨oc,od,kV,doc,pm,an,cdv,ct,osl,rfl,l,c⟩,k⟩
end
section
variable {X:Cx}
theorem pv (i:Nat){x:Str}{pos:Pos}(hN:X.N[i]? = some x:=by rfl)(hv:Vis X.env.scope x:=by first | exact Or.inl rfl | exact Or.inr (Or.inl rfl) | exact Or.inr (Or.inr rfl))(hd:(x == ("__debug__" : Str))=false:=by decide)
    (hcd:(x == ("__classdict__" : Str))=false:=by decide):PE X (.Name x pos) (xH i):=qH hN hv hd hcd
end
theorem jr {A B:Prop}(h:B):if false=true then A else B:=by
  rw[if_neg Bool.false_ne_true]
  exact h
theorem jV {A B:Prop}(h:A):if true=true then A else B:=by
  rw[if_pos rfl]
  exact h
def hC (H H':Hp):Prop:=∀ b o,H b=some o→H' b=some o
theorem hC.refl (H:Hp):hC H H:=fun _ _ h=>h
theorem hC.trans {H H1 H2:Hp}(a:hC H H1)(b:hC H1 H2):hC H H2:=fun c o h=>b c o (a c o h)
theorem hC.free {H H':Hp}(e:hC H H'){l:Addr}(h:H' l=Option.none):H l=Option.none:=by
  cases q:H l with
  | none=>rfl
  | some o=>
    rw[e l o q] at h
    cases h
theorem hC.seq {K:PySem.W.Frag}{H H':Hp}{a:Addr}{xs:List V}(e:hC H H')(h:SqL K H a xs):SqL K H' a xs:=by
  rcases h with (h | ⟨o,h⟩) | h
  · exact .inl (.inl (e _ _ h))
  · exact .inl (.inr ⟨o,e _ _ h⟩)
  · exact .inr h
end L2
namespace L2
open PySem PySem.Spec PyProof.Rows
section
variable {κ:Type} [DecidableEq κ]
def cO (kvs:List (κ×V))(k:κ):Option V:=(kvs.find? fun kv=>decide (kv.1=k)).map (·.2)
def putK (kvs:List (κ×V))(k:κ)(v:V):List (κ×V):=
  if (kvs.any fun kv=>decide (kv.1=k))=true then kvs.map (fun kv=>if kv.1=k then (kv.1,v) else kv) else kvs++[(k,v)]
def uk (kvs:List (κ×V))(k:κ):List (κ×V):=kvs.filter fun kv=>decide (kv.1≠k)
theorem fv {p:κ×V}{r:List (κ×V)}{k:κ}(e:p.1=k):cO (p::r) k=some p.2:=by simp[cO,List.find?_cons,e]
theorem fy {p:κ×V}{r:List (κ×V)}{k:κ}(e:¬ p.1=k):cO (p::r) k=cO r k:=by simp[cO,List.find?_cons,e]
theorem gf (k:κ):∀ kvs:List (κ×V),(kvs.any fun kv=>decide (kv.1=k))=(cO kvs k).isSome
  | []=>rfl
  | p::r=>by
    rw[List.any_cons]
    by_cases e:p.1=k
    · simp only[fv e,decide_eq_true e,Bool.true_or,Option.isSome_some]
    · rw[fy e,decide_eq_false e,Bool.false_or];exact gf k r
theorem ko (kvs:List (κ×V))(k:κ)(v:V):(putK kvs k v).length≤kvs.length+1:=by
  unfold putK
  split
  · rw[List.length_map];omega
  · rw[List.length_append,List.length_cons,List.length_nil];omega
theorem oX {kvs:List (κ×V)}{k:κ}(v:V)(h:cO kvs k=none):putK kvs k v=kvs++[(k,v)]:=by
  unfold putK
  rw[gf,h]
  exact if_neg (by decide)
theorem kb.nR {o:Option V}{u:Option Value}(r:kb o u):o.isSome=u.isSome:=by
  cases o with
  | none=>cases u with
    | none=>rfl
    | some _=>exact (show False from r).elim
  | some _=>cases u with
    | none=>exact (show False from r).elim
    | some _=>rfl
theorem kb.getD {o:Option V}{u:Option Value}{d:V}{d':Value}(r:kb o u)(rd:RelV d d'):RelV (o.getD d) (u.getD d'):=by
  cases o with
  | none=>cases u with
    | none=>exact rd
    | some _=>exact (show False from r).elim
  | some _=>cases u with
    | none=>exact (show False from r).elim
    | some _=>exact r
theorem KV.val {kvs:List (κ×V)}{vs:List (κ×Value)}(r:KV kvs vs)(k:κ):kb (cO kvs k) (valueAt vs k):=by
  unfold KV at r
  induction r with
  | nil=>exact True.intro
  | @cons p q ps qs h t ih=>
    obtain ⟨h1,h2⟩:=h
    by_cases e:p.1=k
    · have e':q.1=k:=h1.symm.trans e
      have b:valueAt (q::qs) k=some q.2:=by simp[valueAt,List.find?_cons,e']
      rw[fv e,b];exact h2
    · have e':¬ q.1=k:=fun z=>e (h1.trans z)
      have b:valueAt (q::qs) k=valueAt qs k:=by simp[valueAt,List.find?_cons,e']
      rw[fy e,b];exact ih
theorem KV.any {kvs:List (κ×V)}{vs:List (κ×Value)}(r:KV kvs vs)(k:κ):(kvs.any fun kv=>decide (kv.1=k))=vs.any fun kv=>decide (kv.1=k):=by
  unfold KV at r
  induction r with
  | nil=>rfl
  | cons h t ih=>rw[List.any_cons,List.any_cons,ih,h.1]
theorem KV.wc {kvs:List (κ×V)}{vs:List (κ×Value)}(r:KV kvs vs)(k:κ){y:V}{u:Value}(ry:RelV y u) :
    KV (kvs.map fun kv=>if kv.1=k then (kv.1,y) else kv) (vs.map fun kv=>if kv.1=k then (kv.1,u) else kv):=by
  unfold KV at r ⊢
  induction r with
  | nil=>exact .nil
  | @cons p q ps qs h t ih=>
    rw[List.map_cons,List.map_cons]
    refine .cons ?_ ih
    obtain ⟨h1,h2⟩:=h
    by_cases e:p.1=k
    · rw[if_pos e,if_pos (h1.symm.trans e)];exact ⟨h1,ry⟩
    · rw[if_neg e,if_neg (fun z=>e (h1.trans z))];exact ⟨h1,h2⟩
theorem KV.put {kvs:List (κ×V)}{vs:List (κ×Value)}(r:KV kvs vs)(k:κ){y:V}{u:Value}(ry:RelV y u):KV (putK kvs k y) (stored vs k u):=by
  unfold putK stored
  rw[r.any k]
  by_cases e:(vs.any fun kv=>decide (kv.1=k))=true
  · rw[if_pos e,if_pos e];exact r.wc k ry
  · rw[if_neg e,if_neg e];exact Paired.snoc r ⟨rfl,ry⟩
theorem KV.drop {kvs:List (κ×V)}{vs:List (κ×Value)}(r:KV kvs vs)(k:κ):KV (uk kvs k) (without vs k):=by
  unfold KV at r ⊢
  unfold uk without
  induction r with
  | nil=>exact .nil
  | @cons p q ps qs h t ih=>
    obtain ⟨h1,h2⟩:=h
    rw[List.filter_cons,List.filter_cons]
    by_cases e:p.1=k
    · have a:¬ decide (p.1≠k)=true:=by simp[e]
      have b:¬ decide (q.1≠k)=true:=by simp[h1.symm.trans e]
      rw[if_neg a,if_neg b];exact ih
    · have e':¬ q.1=k:=fun z=>e (h1.trans z)
      have a:decide (p.1≠k)=true:=by simp[e]
      have b:decide (q.1≠k)=true:=by simp[e']
      rw[if_pos a,if_pos b];exact .cons ⟨h1,h2⟩ ih
theorem KV.keys {kvs:List (κ×V)}{vs:List (κ×Value)}(r:KV kvs vs):kvs.map (·.1)=vs.map (·.1):=by
  unfold KV at r
  induction r with
  | nil=>rfl
  | cons h t ih=>rw[List.map_cons,List.map_cons,ih,h.1]
theorem KV.length {kvs:List (κ×V)}{vs:List (κ×Value)}(r:KV kvs vs):kvs.length=vs.length:=Paired.length r
end
theorem uo {P:Program}{w:World}{k:Key}{u:Value}(r:RelV (kV k) u):(bf P w).is k u=true:=by
  cases k with
  | inl i=>obtain ⟨t,e⟩:=(show ∃ t,u=Value.int i t from r);subst e;exact jP P w i t
  | inr x=>obtain ⟨t,e⟩:=(show ∃ t,u=Value.str x t from r);subst e;exact jO P w x t
abbrev KT (H:Hp):List (List Key×V)→List (List Key×Addr×Value)→Prop:=Paired fun p q=>p.1=q.1∧H q.2.1=some (.tup (p.1.map kV))∧RelV p.2 q.2.2
theorem KT.val {H:Hp}{kvs:List (List Key×V)}{xs:List (List Key×Addr×Value)}(r:KT H kvs xs)(k:List Key):kb (cO kvs k) ((atKey xs k).map (·.2)):=by
  induction r with
  | nil=>exact True.intro
  | @cons p q ps qs h t ih=>
    obtain ⟨h1,_,h2⟩:=h
    by_cases e:p.1=k
    · have e':q.1=k:=h1.symm.trans e
      have b:atKey (q::qs) k=some q.2:=by simp[atKey,List.find?_cons,e']
      rw[fv e,b];exact h2
    · have e':¬ q.1=k:=fun z=>e (h1.trans z)
      have b:atKey (q::qs) k=atKey qs k:=by simp[atKey,List.find?_cons,e']
      rw[fy e,b];exact ih
theorem KT.wc {H:Hp}{kvs:List (List Key×V)}{xs:List (List Key×Addr×Value)}(r:KT H kvs xs)(k:List Key){y:V}{u:Value}(ry:RelV y u) :
    KT H (kvs.map fun kv=>if kv.1=k then (kv.1,y) else kv) (xs.map (putAt k u)):=by
  induction r with
  | nil=>exact .nil
  | @cons p q ps qs h t ih=>
    rw[List.map_cons,List.map_cons]
    refine .cons ?_ ih
    obtain ⟨h1,h2,h3⟩:=h
    unfold putAt
    by_cases e:p.1=k
    · rw[if_pos e,if_pos (h1.symm.trans e)];exact ⟨h1,h2,ry⟩
    · rw[if_neg e,if_neg (fun z=>e (h1.trans z))];exact ⟨h1,h2,h3⟩
theorem KT.put {H:Hp}{kvs:List (List Key×V)}{xs:List (List Key×Addr×Value)}(r:KT H kvs xs)(k:List Key){b:Addr}{y:V}{u:Value}(hb:H b=some (.tup (k.map kV)))(ry:RelV y u) :
    KT H (putK kvs k y) (storedH xs k b u):=by
  have e:(kvs.any fun kv=>decide (kv.1=k))=(atKey xs k).isSome:=by
    rw[gf,(r.val k).nR,Option.isSome_map]
  unfold putK storedH
  rw[e]
  by_cases q:(atKey xs k).isSome=true
  · rw[if_pos q,if_pos q];exact r.wc k ry
  · rw[if_neg q,if_neg q];exact Paired.snoc r ⟨rfl,hb,ry⟩
theorem KT.keeps {H H':Hp}{kvs:List (List Key×V)}{xs:List (List Key×Addr×Value)}(r:KT H kvs xs)(ht:∀ b ys,H b=some (.tup ys)→H' b=some (.tup ys)):KT H' kvs xs:=
  Paired.wV r fun _ _ z=>⟨z.1,ht _ _ z.2.1,z.2.2⟩
section
variable {P:Program} {w:World} {H:Hp} {h:Heap} {a:Addr}
theorem xl {u:HO}(ok:HOk P w H h)(e:Rd H a u):bg P w H h a u:=e.ok ok
theorem yn {kvs:List (Key×V)}(ok:HOk P w H h)(e:Rd H a (.dK kvs)):kvs.length≤sizeLine∧(a == sysModules)=false∧∃ vs,KV kvs vs∧h.DictOf (bf P w) a vs:=
  show bg P w H h a (.dK kvs) from xl ok e
theorem y3 {kvs:List (Key×V)}(ok:HOk P w H h)(e:H a=some (.dK kvs)):kvs.length≤sizeLine∧(a == sysModules)=false∧∃ vs,KV kvs vs∧h.DictOf (bf P w) a vs:=yn ok (.inl e)
end
def rY (H:Hp)(a:Addr)(y:V)(r:Option V):Prop:=
  (∃ kvs k,Rd H a (.dK kvs)∧y=kV k∧r=cO kvs k)∨∃ kvs k b,Rd H a (.dT kvs)∧y=.ref b∧H b=some (.tup (k.map kV))∧r=cO kvs k
def sx (H:Hp)(a:Addr)(y v:V)(H':Hp):Prop:=
  (∃ kvs k,H a=some (.dK kvs)∧y=kV k∧kvs.length < sizeLine∧H'=upd H a (.dK (putK kvs k v)))∨
  ∃ kvs k b,H a=some (.dT kvs)∧y=.ref b∧H b=some (.tup (k.map kV))∧kvs.length < sizeLine∧H'=upd H a (.dT (putK kvs k v))
theorem rY.k {H:Hp}{a:Addr}{kvs:List (Key×V)}{k:Key}(e:H a=some (.dK kvs)):rY H a (kV k) (cO kvs k):=.inl ⟨kvs,k,.inl e,rfl,rfl⟩
theorem rY.t {H:Hp}{a b:Addr}{kvs:List (List Key×V)}{k:List Key}(e:H a=some (.dT kvs))(eb:H b=some (.tup (k.map kV))):rY H a (.ref b) (cO kvs k):=.inr ⟨kvs,k,b,.inl e,rfl,eb,rfl⟩
theorem sx.k {H:Hp}{a:Addr}{kvs:List (Key×V)}{k:Key}{v:V}(e:H a=some (.dK kvs))(hl:kvs.length < sizeLine):sx H a (kV k) v (upd H a (.dK (putK kvs k v))):=.inl ⟨kvs,k,e,rfl,hl,rfl⟩
theorem sx.t {H:Hp}{a b:Addr}{kvs:List (List Key×V)}{k:List Key}{v:V}(e:H a=some (.dT kvs))(eb:H b=some (.tup (k.map kV)))(hl:kvs.length < sizeLine) :
    sx H a (.ref b) v (upd H a (.dT (putK kvs k v))):=.inr ⟨kvs,k,b,e,rfl,eb,hl,rfl⟩
section
variable {X:Cx} {pins:List (Addr×Obj)} {σ:St} {H:Hp} {s:Shared} {a:Addr} {y v:V} {u r:Value} {o:Option V} {A:Around} {E:Value→Shared→Prop}
theorem Inv.big (I:Inv X pins σ H s):sysModules < s.heap.objs.size:=by
  have h:mainGlobals < s.heap.objs.size:=(I.mod.glob.keeps I.bk).lt
  exact Nat.lt_trans (by decide) h
theorem sD {h':Heap}{t':Nat}{ob:HO}(I:Inv X pins σ H s)(mu:Mut (H a))(hs:Heap.SameBut a s.heap h')(he:∃ q,h'.get? a=some q)(new:bg X.prog X.w (upd H a ob) h' a ob) :
    Inv X pins σ (upd H a ob) { s with heap:=h',toks:=t' }:=
  I.write (x:=a) (e:=a) mu (.inl rfl) (fun b q hb z=>(hs.2 b hb).trans z) he new
theorem vL {P:Program}{w:World}{H':Hp}{h':Heap}{kvs:List (Key×V)}{vs:List (Key×Value)}(z:kvs.length≤sizeLine)(hd:(a == sysModules)=false)(rel:KV kvs vs)(dd:h'.DictOf (bf P w) a vs) :
    bg P w H' h' a (.dK kvs):=⟨z,hd,vs,rel,dd⟩
end
section
variable {X:Cx} {pins:List (Addr×Obj)} {σ:St} {H:Hp} {s:Shared} {a:Addr} {kvs:List (Key×V)} {k:Key} {u:Value} {A:Around} {E:Value→Shared→Prop}
end
section
variable {X:Cx} {o i e value:Expr} {pos pos' tpos:Pos} {td ty tv:TE}
end
theorem jM {P:Program}{w:World}{H:Hp}(h:Heap)(hb:sysModules < h.objs.size):bg P w H (h.push { cls:=.type "dict", data:=.dict #[] }) h.objs.size (.dK []):=
  ⟨Nat.zero_le _,beq_eq_false_iff_ne.mpr (Ne.symm (Nat.ne_of_lt hb)),[],.nil,Heap.DictOf.new h⟩
def v7:TE:=fun _ H Q=>∀ p,H p=none→Q (.ref p) (upd H p (.dK []))
section
variable {X:Cx} {pos:Pos}
theorem pZ:PE X (.Dict [] [] pos) v7:=fun pins s σ H Q I h=>
  wpAny_Dict_empty ⟨.ref s.heap.objs.size,_,I.laid (a:=s.heap.objs.size) (o:=.dK []) (t':=s.toks) (fun _ _ q=>Heap.get?_push_of_some _ q) (Nat.le_refl _) (jM s.heap I.big),rfl,h _ (I.hok.fresh (Nat.le_refl _))⟩
end
def iY:List (TE×TE)→St→Hp→(List (V×V)→Hp→Prop)→Prop
  | [],_,H,Q=>Q [] H
  | (tk,tv)::r,σ,H,Q=>tk σ H fun x H1=>tv σ H1 fun y H2=>iY r σ H2 fun ps H3=>Q ((x,y)::ps) H3
abbrev VV:List (V×V)→List (Value×Value)→Prop:=Paired fun p q=>RelV p.1 q.1∧RelV p.2 q.2
def PPs (X:Cx)(pos:Pos)(keys:List (Option Expr))(values:List Expr)(trs:List (TE×TE)):Prop:=
  ∀ (pins:List (Addr×Obj)) (s:Shared) (σ:St) (H:Hp) (Q:List (V×V)→Hp→Prop),Inv X pins σ H s→iY trs σ H Q→
    wpAny (model X.prog X.w) X.A (evalPairs (pairTrees keys values X.env pos)) (fun vs s'=>∃ ps H',Inv X pins σ H' s'∧VV ps vs∧Q ps H') X.xe s
theorem sV {X:Cx}{pos:Pos}:PPs X pos [] [] []:=fun pins s σ H Q I h=>pairTrees_nil_walk ⟨[],H,I,.nil,h⟩
theorem qc {X:Cx}{pos:Pos}{k v:Expr}{ks:List (Option Expr)}{vs:List Expr}{tk tv:TE}{trs:List (TE×TE)}(hk:PE X k tk)(hv:PE X v tv)(hr:PPs X pos ks vs trs) :
    PPs X pos (some k::ks) (v::vs) ((tk,tv)::trs):=fun pins s σ H Q I h=>
  pairTrees_cons_walk (thn (hk pins s σ H _ I h) fun u s1 ⟨x,H1,I1,rx,q1⟩=>thn (hv pins s1 σ H1 _ I1 q1) fun w2 s2 ⟨y,H2,I2,ry,q2⟩=>
    thn (hr pins s2 σ H2 _ I2 q2) fun ws s3 ⟨ps,H3,I3,rel,q3⟩=>⟨(x,y)::ps,H3,I3,.cons ⟨rx,ry⟩ rel,q3⟩)
def bJ (kvs more:List (Key×V)):List (Key×V):=more.foldl (fun acc kv=>putK acc kv.1 kv.2) kvs
theorem KV.merge:∀ {more:List (Key×V)} {rs:List (Key×Value)} {kvs:List (Key×V)} {vs:List (Key×Value)},KV more rs→KV kvs vs→KV (bJ kvs more) (merged vs rs):=by
  intro more rs kvs vs r
  unfold KV at r
  induction r generalizing kvs vs with
  | nil=>intro q;exact q
  | @cons p q ps qs h t ih=>
    intro r0
    have e:KV (putK kvs p.1 p.2) (stored vs q.1 q.2):=by
      have:=r0.put p.1 h.2
      rw[← h.1];exact this
    exact ih e
theorem dg:∀ (more kvs:List (Key×V)),(bJ kvs more).length≤kvs.length+more.length
  | [],kvs=>by show kvs.length≤kvs.length+0;omega
  | p::r,kvs=>by
    have h1:=dg r (putK kvs p.1 p.2)
    have h2:=ko kvs p.1 p.2
    show (bJ (putK kvs p.1 p.2) r).length≤_
    rw[List.length_cons];omega
theorem fO {P:Program}{w:World}:∀ {kvs:List (Key×V)} {ws:List (Value×Value)},VV (kvs.map fun kv=>(kV kv.1,kv.2)) ws→∃ rs,Carries (bf P w) ws rs∧KV kvs rs
  | [],_,r=>by rw[List.map_nil] at r;cases r;exact ⟨[],True.intro,.nil⟩
  | p::kvs,_,r=>by
    rw[List.map_cons] at r
    cases r with
    | @cons a b as bs h t=>
      obtain ⟨rs,c,q⟩:=fO (P:=P) (w:=w) t
      obtain ⟨b1,b2⟩:=b
      exact ⟨(p.1,b2)::rs,⟨uo h.1,rfl,c⟩,.cons ⟨rfl,h.2⟩ q⟩
def xV (trs:List (TE×TE)):TE:=fun σ H Q=>∀ p,H p=none→iY trs σ (upd H p (.dK [])) fun ps H2=>H2 p=some (.dK [])∧∃ kvs:List (Key×V),ps=kvs.map (fun kv=>(kV kv.1,kv.2))∧kvs.length≤15∧Q (.ref p) (upd H2 p (.dK (bJ [] kvs)))
theorem rX {X:Cx}{pos:Pos}{keys:List (Option Expr)}{values:List Expr}{trs:List (TE×TE)}(h:PPs X pos keys values trs)(hall:keys.all (·.isSome)=true)(hl:keys.length=values.length)(h0:keys≠[])
    (h15:keys.length≤15):PE X (.Dict keys values pos) (xV trs):=by
  intro pins s σ H Q I q
  have hn:=I.hok.fresh (Nat.le_refl s.heap.objs.size)
  have I1:=I.laid (a:=s.heap.objs.size) (o:=.dK []) (h':=s.heap.push { cls:=.type "dict", data:=.dict #[] }) (t':=s.toks) (fun _ _ q=>Heap.get?_push_of_some _ q) (Nat.le_refl _) (jM s.heap I.big)
  refine wpAny_Dict_walk (knd:=bf X.prog X.w) hall hl h0 h15 (thn (h pins _ σ _ _ I1 (q _ hn)) fun ws s2 ⟨ps,H2,I2,rel,e,kvs,ep,lk,q2⟩=>?_)
  subst ep
  obtain ⟨rs,c,rk⟩:=fO (P:=X.prog) (w:=X.w) rel
  obtain ⟨z,hd,vs0,r0,dd⟩:=y3 I2.hok e
  cases r0
  refine ⟨rs,c,dd,fun h' dd' hs=>⟨.ref s.heap.objs.size,_,?_,rfl,q2⟩⟩
  have hz:(bJ [] kvs).length≤sizeLine:=by
    have h1:=dg kvs []
    rw[List.length_nil] at h1
    rw[sizeLine_eq];omega
  have he:∃ q,h'.get? s.heap.objs.size=some q:=let ⟨q,_,_,hq,_⟩:=dd';⟨q,hq⟩
  exact sD I2 (by rw[e];exact True.intro) hs he (vL hz hd (rk.merge .nil) dd')
section
variable {X:Cx} {pins:List (Addr×Obj)} {σ:St} {H:Hp} {s:Shared} {a:Addr} {y d:V} {u r:Value} {o:Option V} {A:Around} {E:Value→Shared→Prop}
end
section
variable {X:Cx} {o e f:Expr} {apos cpos:Pos} {td ty tx:TE}
end
section
variable {X:Cx} {pins:List (Addr×Obj)} {σ:St} {H:Hp} {s:Shared} {a:Addr} {kvs:List (Key×V)} {A:Around} {E:Value→Shared→Prop}
end
section
variable {X:Cx} {pins:List (Addr×Obj)} {σ:St} {H:Hp} {s:Shared} {a:Addr} {y:V} {u:Value} {A:Around} {E:Value→Shared→Prop}
end
end L2
namespace L3
open PySem
local macro_rules | `(tactic| walk_at "ln")=>`(tactic| (intro ds μ Q h;split at h;rfl;exact h.elim))
theorem Jn {p q:Prop}(a:p)(b:q):p∧q:=⟨a,b⟩
inductive D where
  | non | bl (b:Bool) | int (i:Int) | str (x:Str) | ty (n:String) | tup (ds:List D) | ls (ds:List D) | obj (a:Addr)
inductive MO where
  | lst (ds:List D)
  | dct (kvs:List (L2.Key×D))
abbrev Mu:=Addr→Option MO
def up (μ:Mu)(a:Addr)(o:MO):Mu:=fun b=>if b=a then some o else μ b
theorem aC {μ:Mu}{a:Addr}{o:MO}:up μ a o a=some o:=by unfold up;rw[if_pos rfl]
theorem bx {μ:Mu}{a b:Addr}{o:MO}(h:b≠a):up μ a o b=μ b:=by unfold up;rw[if_neg h]
theorem kf {μ:Mu}{a:Addr}{o u:MO}:up (up μ a o) a u=up μ a u:=by
  funext b;unfold up;split<;>rfl
abbrev ST:=List (Option D)
abbrev DK:=D→Mu→Prop
abbrev ETr:=ST→Mu→DK→Prop
abbrev TTr:=ST→Mu→(Bool→Mu→Prop)→Prop
abbrev ATr:=ST→Mu→(List D→Mu→Prop)→Prop
abbrev DR:=D→Mu→DK→Prop
abbrev DR2:=D→D→Mu→DK→Prop
abbrev FSp:=List D→Mu→DK→Prop
structure En where
  nx:ST→Mu→Prop
  rt:DK
  bk:ST→Mu→Prop:=fun _ _=>False
  ct:ST→Mu→Prop:=fun _ _=>False
abbrev STr:=En→ST→Mu→Prop
abbrev GTr:=D→ST→Mu→(ST→Mu→Prop)→Prop
def kIf (c:Bool)(A B:Prop):Prop:=match c with
  | true=>A
  | false=>B
def kB (x:D)(f:Bool→Prop):Prop:=match x with
  | .bl c=>f c
  | _=>False
def kI (x:D)(f:Int→Prop):Prop:=match x with
  | .int c=>f c
  | _=>False
def kO (x:Option D)(f:D→Prop):Prop:=match x with
  | some d=>f d
  | none=>False
def kS (x:D)(f:List D→Prop):Prop:=match x with
  | .tup ds=>f ds
  | .ls ds=>f ds
  | _=>False
def k2 (ds:List D)(f:D→D→Prop):Prop:=match ds with
  | [v,w]=>f v w
  | _=>False
def kL (μ:Mu)(a:Addr)(f:List D→Prop):Prop:=match μ a with
  | some (.lst ds)=>f ds
  | _=>False
def kD (μ:Mu)(a:Addr)(f:List (L2.Key×D)→Prop):Prop:=match μ a with
  | some (.dct ds)=>f ds
  | _=>False
def kN (x:Option Nat)(f:Nat→Prop):Prop:=match x with
  | some d=>f d
  | none=>False
def lk:ST→Nat→Option D
  | [],_=>none
  | o::_,0=>o
  | _::r,n+1=>lk r n
def ah (i:Nat):ETr:=fun ρ μ Q=>kO (lk ρ i) fun d=>Q d μ
def TC (d:D):ETr:=fun _ μ Q=>Q d μ
def ai (r:DR2)(a b:ETr):ETr:=fun ρ μ Q=>a ρ μ fun x μ1=>b ρ μ1 fun y μ2=>r x y μ2 Q
def TUn (r:DR)(a:ETr):ETr:=fun ρ μ Q=>a ρ μ fun x μ1=>r x μ1 Q
def S64 (i:Int):Prop:=-18446744073709551616 < i∧i < 18446744073709551616
def hZ (i:Int):Prop:=-115792089237316195423570985008687907853269984665640564039457584007913129639936 < i∧i < 115792089237316195423570985008687907853269984665640564039457584007913129639936
def MulOk (i j:Int):Prop:=(S64 i∨S64 j)∨(hZ i∧hZ j)
def c6 (j:Int):Prop:=j≠0∧hZ j
def fQ (i j:Int):Prop:=0≤j∧j≤1000000∧i.natAbs < 18446744073709551616
def kY:DR2:=fun x y μ Q=>match x,y with
  | .int i,.int j=>Q (.int (i - j)) μ
  | _,_=>False
def d9:DR2:=fun x y μ Q=>match x,y with
  | .int i,.int j=>MulOk i j∧Q (.int (i*j)) μ
  | _,_=>False
def nA:DR2:=fun x y μ Q=>match x,y with
  | .int i,.int j=>c6 j∧Q (.int (i.fdiv j)) μ
  | _,_=>False
def fz:DR2:=fun x y μ Q=>match x,y with
  | .int i,.int j=>j≠0∧Q (.int (i.fmod j)) μ
  | _,_=>False
def jd:DR2:=fun x y μ Q=>match x,y with
  | .int i,.int j=>fQ i j∧Q (.int (i ^ j.toNat)) μ
  | _,_=>False
def lI:DR:=fun x μ Q=>match x with
  | .int i=>Q (.int (-i)) μ
  | _=>False
def pq (p:Int→Int→Bool):DR2:=fun x y μ Q=>match x,y with
  | .int i,.int j=>Q (.bl (p i j)) μ
  | _,_=>False
def rLt:DR2:=pq fun i j=>decide (i < j)
def rLe:DR2:=pq fun i j=>decide (i≤j)
def rGt:DR2:=pq fun i j=>decide (j < i)
def rGe:DR2:=pq fun i j=>decide (j≤i)
mutual
def eqD:D→D→Bool
  | .non,.non=>true
  | .bl a,.bl b=>a == b
  | .int a,.int b=>decide (a=b)
  | .bl a,.int b=>decide ((if a then 1 else 0:Int)=b)
  | .int a,.bl b=>decide (a=(if b then 1 else 0:Int))
  | .str a,.str b=>decide (a=b)
  | .tup a,.tup b=>gZ a b
  | .ls a,.ls b=>gZ a b
  | _,_=>false
def gZ:List D→List D→Bool
  | [],[]=>true
  | a::r,b::s=>eqD a b&&gZ r s
  | _,_=>false
end
mutual
def okD:Nat→D→Bool
  | _,.non=>true
  | _,.bl _=>true
  | _,.int _=>true
  | _,.str x=>PyData.strOk x
  | n+1,.tup ds=>cF n ds
  | n+1,.ls ds=>cF n ds
  | _,_=>false
def cF:Nat→List D→Bool
  | _,[]=>true
  | n,d::ds=>okD n d&&cF n ds
end
def rEq:DR2:=fun x y μ Q=>(okD 40 x=true∧okD 40 y=true)∧Q (.bl (eqD x y)) μ
def rNe:DR2:=fun x y μ Q=>(okD 40 x=true∧okD 40 y=true)∧Q (.bl (!eqD x y)) μ
def rIs:DR2:=fun x y μ Q=>match y with
  | .non=>(match x with
    | .non=>Q (.bl true) μ
    | _=>Q (.bl false) μ)
  | _=>False
def lb:DR2:=fun x y μ Q=>match y with
  | .non=>(match x with
    | .non=>Q (.bl false) μ
    | _=>Q (.bl true) μ)
  | _=>False
def eK (a b:ETr):ETr:=fun ρ μ Q=>a ρ μ fun x μ1=>kB x fun c=>kIf c (b ρ μ1 Q) (Q (.bl false) μ1)
def uR (a b:ETr):ETr:=fun ρ μ Q=>a ρ μ fun x μ1=>kB x fun c=>kIf c (Q (.bl true) μ1) (b ρ μ1 Q)
def ix (a:ETr):ETr:=fun ρ μ Q=>a ρ μ fun x μ1=>kB x fun c=>Q (.bl (!c)) μ1
def TB (t:ETr):TTr:=fun ρ μ Q=>t ρ μ fun x μ1=>kB x fun c=>Q c μ1
def qB (t u:TTr):TTr:=fun ρ μ Q=>t ρ μ fun c μ1=>kIf c (u ρ μ1 Q) (Q false μ1)
def TOr (t u:TTr):TTr:=fun ρ μ Q=>t ρ μ fun c μ1=>kIf c (Q true μ1) (u ρ μ1 Q)
def cW (t:TTr):TTr:=fun ρ μ Q=>t ρ μ fun c μ1=>Q (!c) μ1
def qM (c:TTr)(a b:ETr):ETr:=fun ρ μ Q=>c ρ μ fun k μ1=>kIf k (a ρ μ1 Q) (b ρ μ1 Q)
def dm (r r':DR2)(a b c:ETr):ETr:=fun ρ μ Q=>a ρ μ fun x μ1=>b ρ μ1 fun y μ2=>r x y μ2 fun z μ3=>kB z fun k=>kIf k (c ρ μ3 fun y' μ4=>r' y y' μ4 Q) (Q (.bl false) μ3)
def aj:ATr:=fun _ μ Q=>Q [] μ
def ae (a:ETr)(r:ATr):ATr:=fun ρ μ Q=>a ρ μ fun x μ1=>r ρ μ1 fun xs μ2=>Q (x::xs) μ2
def bq (t:ATr):ETr:=fun ρ μ Q=>t ρ μ fun ds μ1=>ds.length≤1000000∧Q (.tup ds) μ1
def bO (t:ATr):ETr:=fun ρ μ Q=>t ρ μ fun ds μ1=>ds.length≤1000000∧Q (.ls ds) μ1
def pI (t:ATr):ETr:=fun ρ μ Q=>t ρ μ fun ds μ1=>ds.length≤1000000∧∀ p,μ1 p=none→Q (.obj p) (up μ1 p (.lst ds))
def ao (sp:FSp)(t:ATr):ETr:=fun ρ μ Q=>t ρ μ fun ds μ1=>sp ds μ1 Q
def atD (ds:List D)(i:Int):Option D:=L2.atI ds i
def rIx:DR2:=fun x y μ Q=>match x,y with
  | .tup ds,.int i=>kO (atD ds i) fun d=>Q d μ
  | .ls ds,.int i=>kO (atD ds i) fun d=>Q d μ
  | .obj a,.int i=>kL μ a fun ds=>kO (atD ds i) fun d=>Q d μ
  | _,_=>False
def gD:FSp:=fun ds μ Q=>match ds with
  | [.int i]=>Q (.int (if i < 0 then -i else i)) μ
  | _=>False
def jY:FSp:=fun ds μ Q=>match ds with
  | [.int i,.int j]=>Q (.int (if j > i then j else i)) μ
  | _=>False
def f9:FSp:=fun ds μ Q=>match ds with
  | [.int i,.int j]=>Q (.int (if j < i then j else i)) μ
  | _=>False
def oP:FSp:=fun ds μ Q=>match ds with
  | [.int i]=>Q (.int i) μ
  | [.bl k]=>Q (.int (if k then 1 else 0)) μ
  | _=>False
def dh:FSp:=fun ds μ Q=>match ds with
  | [.tup xs]=>Q (.int xs.length) μ
  | [.ls xs]=>Q (.int xs.length) μ
  | [.str x]=>x.length≤1000000∧Q (.int x.length) μ
  | [.obj a]=>kL μ a fun xs=>Q (.int xs.length) μ
  | _=>False
def tyD:D→Option String
  | .non=>some "NoneType"
  | .bl _=>some "bool"
  | .int _=>some "int"
  | .str _=>some "str"
  | .tup _=>some "tuple"
  | .ls _=>some "list"
  | _=>none
def aA (t c:String):Bool:=t == c || (t == "bool" && c == "int")
def nE (c:String):DR:=fun x μ Q=>match tyD x with
  | some t=>Q (.bl (aA t c)) μ
  | none=>False
def cD:STr:=fun E ρ μ=>E.nx ρ μ
def aK (t u:STr):STr:=fun E ρ μ=>t { E with nx:=u E } ρ μ
def l5:STr:=fun E ρ μ=>E.bk ρ μ
def p8:STr:=fun E ρ μ=>E.ct ρ μ
def qa (e:ETr):STr:=fun E ρ μ=>e ρ μ fun _ μ1=>E.nx ρ μ1
def a8 (e:ETr):STr:=fun E ρ μ=>e ρ μ E.rt
def qQ:STr:=fun E _ μ=>E.rt .non μ
def eM (c:TTr)(t u:STr):STr:=fun E ρ μ=>c ρ μ fun b μ1=>kIf b (t E ρ μ1) (u E ρ μ1)
def aw (i:Nat):GTr:=fun d ρ μ k=>k (ρ.set i (some d)) μ
def a9 (e:ETr)(g:GTr):STr:=fun E ρ μ=>e ρ μ fun d μ1=>g d ρ μ1 E.nx
def ka (i j:Nat)(a:ATr):STr:=fun E ρ μ=>a ρ μ fun ds μ1=>k2 ds fun v w=>E.nx ((ρ.set i (some v)).set j (some w)) μ1
def xG (x z y:D)(μ:Mu)(f:Mu→Prop):Prop:=match x,z with
  | .obj a,.int n=>kL μ a fun ds=>kN (L2.ixN ds.length n) fun j=>f (up μ a (.lst (ds.set j y)))
  | _,_=>False
def di (o k e:ETr):STr:=fun E ρ μ=>e ρ μ fun y μ1=>o ρ μ1 fun x μ2=>k ρ μ2 fun z μ3=>xG x z y μ3 fun μ4=>E.nx ρ μ4
def k5 (c:TTr)(b:STr):STr:=fun E ρ μ=>∃ (P:ST→Mu→Prop) (m:ST→Mu→Nat),P ρ μ∧∀ ρ μ,P ρ μ→
  c ρ μ fun k μ1=>kIf k (b { E with nx:=fun ρ' μ'=>P ρ' μ'∧m ρ' μ' < m ρ μ,ct:=fun ρ' μ'=>P ρ' μ'∧m ρ' μ' < m ρ μ,bk:=E.nx } ρ μ1) (E.nx ρ μ1)
def forR (g:GTr)(b:STr)(E:En):List D→ST→Mu→Prop
  | [],ρ,μ=>E.nx ρ μ
  | d::r,ρ,μ=>g d ρ μ fun ρ1 μ1=>b { E with nx:=forR g b E r,ct:=forR g b E r,bk:=E.nx } ρ1 μ1
def jT (it:ATr)(g:GTr)(b:STr):STr:=fun E ρ μ=>it ρ μ fun ds μ1=>forR g b E ds ρ μ1
def cJ (lo:Int)(n:Nat):List D:=(List.range n).map fun i=>.int (lo+(i:Nat))
def cu (a:ETr):ATr:=fun ρ μ Q=>a ρ μ fun x μ1=>kI x fun j=>(-4611686018427387904≤j∧j < 4611686018427387904)∧Q (cJ 0 j.toNat) μ1
def lP (a:ETr):ATr:=fun ρ μ Q=>a ρ μ fun x μ1=>kS x fun ds=>Q ds μ1
def dn (μ:Mu)(a:Addr):Mu:=fun b=>if b=a then none else μ b
theorem xu {μ:Mu}{a:Addr}{o:MO}(h:μ a=none):dn (up μ a o) a=μ:=by
  funext b
  unfold dn up
  by_cases hb:b=a
  · subst hb;simp[h]
  · simp[hb]
def gS (ρ:ST)(n:Nat)(caps:List Nat):ST:=List.replicate n none++caps.map (lk ρ)
def dS (p:Addr)(G:GTr)(tt:TTr)(te:ETr)(ρc:ST)(K:Mu→Prop):List D→Mu→Prop
  | [],μ=>K μ
  | d::r,μ=>G d ρc μ fun ρ1 μ1=>tt ρ1 μ1 fun b μ2=>kIf b (te ρ1 μ2 fun y μ3=>kL μ3 p fun zs=>zs.length < 1000000∧dS p G tt te ρc K r (up μ3 p (.lst (zs++[y])))) (dS p G tt te ρc K r μ2)
def gh (it:ATr)(G:GTr)(tt:TTr)(te:ETr)(n:Nat)(caps:List Nat):ETr:=fun ρ μ Q=>it ρ μ fun ds μ1=>∀ p,μ1 p=none→
  dS p G tt te (gS ρ n caps) (fun μ'=>kL μ' p fun zs=>Q (.ls zs) (dn μ' p)) ds (up μ1 p (.lst []))
def lF:TTr:=fun _ μ Q=>Q true μ
def uH:FSp:=fun ds μ Q=>match ds with
  | [.ls xs]=>∃ bs:List Bool,xs=bs.map .bl∧Q (.bl (bs.all id)) μ
  | _=>False
theorem dD {g:GTr}{b:STr}{E:En}(P:List D→ST→Mu→Prop)(hnil:∀ ρ μ,P [] ρ μ→E.nx ρ μ)
    (hcons:∀ d r ρ μ (N:ST→Mu→Prop),P (d::r) ρ μ→(∀ ρ' μ',P r ρ' μ'→N ρ' μ')→g d ρ μ fun ρ1 μ1=>b { E with nx:=N,ct:=N,bk:=E.nx } ρ1 μ1) :
    ∀ (ds:List D) (ρ:ST) (μ:Mu),P ds ρ μ→forR g b E ds ρ μ
  | [],ρ,μ,h=>hnil ρ μ h
  | d::r,ρ,μ,h=>hcons d r ρ μ _ h fun ρ' μ' q=>dD P hnil hcons r ρ' μ' q
section
open PySem PySem.Spec PyProof.Rows L2
def SqF (K:PySem.W.Frag)(H:Hp)(a:Addr)(xs:List V):Prop:=
  (∃ o,H a=some (.frz o (.lst xs)))∨
    ∃ (o:Obj) (its:Array Value) (n:Nat),K.lookup a=some o∧o.cls=.type "list" ∧ o.dict=none∧o.data=.seq its n∧its.size≤sizeLine∧Vals xs its.toList
theorem SqF.sq {K:PySem.W.Frag}{H:Hp}{a:Addr}{xs:List V}(h:SqF K H a xs):SqL K H a xs:=by
  rcases h with h | h
  · exact .inl (.inr h)
  · exact .inr h
mutual
inductive Dp (K:PySem.W.Frag) (H:Hp):V→D→Prop
  | non:Dp K H .non .non
  | bl (b:Bool):Dp K H (.bl b) (.bl b)
  | int (n:Int):Dp K H (.int n) (.int n)
  | str (z:Str):Dp K H (.str z) (.str z)
  | ty (n:String):Dp K H (.ty n) (.ty n)
  | tup {a:Addr} {xs:List V} {ds:List D}:SqT K H a xs→DpL K H xs ds→Dp K H (.ref a) (.tup ds)
  | ls {a:Addr} {xs:List V} {ds:List D}:SqF K H a xs→DpL K H xs ds→Dp K H (.ref a) (.ls ds)
  | obj (a:Addr):Dp K H (.ref a) (.obj a)
inductive DpL (K:PySem.W.Frag) (H:Hp):List V→List D→Prop
  | nil:DpL K H [] []
  | cons {v:V} {d:D} {vs:List V} {ds:List D}:Dp K H v d→DpL K H vs ds→DpL K H (v::vs) (d::ds)
end
structure Tk (H H':Hp):Prop where
  tup:∀ a xs,H a=some (.tup xs)→H' a=some (.tup xs)
  frz:∀ a o u,H a=some (.frz o u)→H' a=some (.frz o u)
theorem Tk.refl (H:Hp):Tk H H:=⟨fun _ _ h=>h,fun _ _ _ h=>h⟩
theorem Tk.trans {H H1 H2:Hp}(a:Tk H H1)(b:Tk H1 H2):Tk H H2:=⟨fun c xs h=>b.tup c xs (a.tup c xs h),fun c o u h=>b.frz c o u (a.frz c o u h)⟩
theorem Tk.upd {H:Hp}{a:Addr}{o:HO}(h1:∀ xs,H a≠some (.tup xs))(h2:∀ o u,H a≠some (.frz o u)):Tk H (L2.upd H a o):=
  ⟨fun b xs h=>by rw[au (fun z=>by subst z;exact h1 _ h)];exact h,fun b o u h=>by rw[au (fun z=>by subst z;exact h2 _ _ h)];exact h⟩
theorem Tk.new {H:Hp}{a:Addr}{o:HO}(h:H a=none):Tk H (L2.upd H a o):=.upd (fun _ e=>by rw[h] at e;cases e) fun _ _ e=>by rw[h] at e;cases e
theorem Tk.sqT {K:PySem.W.Frag}{H H':Hp}{a:Addr}{xs:List V}(t:Tk H H')(h:SqT K H a xs):SqT K H' a xs:=by
  rcases h with (h | ⟨o,h⟩) | h
  · exact .inl (.inl (t.tup _ _ h))
  · exact .inl (.inr ⟨o,t.frz _ _ _ h⟩)
  · exact .inr h
theorem Tk.sqF {K:PySem.W.Frag}{H H':Hp}{a:Addr}{xs:List V}(t:Tk H H')(h:SqF K H a xs):SqF K H' a xs:=by
  rcases h with ⟨o,h⟩ | h
  · exact .inl ⟨o,t.frz _ _ _ h⟩
  · exact .inr h
mutual
theorem Dp.mono {K:PySem.W.Frag}{H H':Hp}(t:Tk H H'):∀ {v:V} {d:D},Dp K H v d→Dp K H' v d
  | _,_,.non=>.non
  | _,_,.bl b=>.bl b
  | _,_,.int i=>.int i
  | _,_,.str x=>.str x
  | _,_,.ty n=>.ty n
  | _,_,.tup h l=>.tup (t.sqT h) (DpL.mono t l)
  | _,_,.ls h l=>.ls (t.sqF h) (DpL.mono t l)
  | _,_,.obj a=>.obj a
theorem DpL.mono {K:PySem.W.Frag}{H H':Hp}(t:Tk H H'):∀ {vs:List V} {ds:List D},DpL K H vs ds→DpL K H' vs ds
  | _,_,.nil=>.nil
  | _,_,.cons h l=>.cons (Dp.mono t h) (DpL.mono t l)
end
theorem DpL.length {K:PySem.W.Frag}{H:Hp}:∀ {vs:List V} {ds:List D},DpL K H vs ds→vs.length=ds.length
  | _,_,.nil=>rfl
  | _,_,.cons _ l=>by rw[List.length_cons,List.length_cons,DpL.length l]
theorem DpL.get {K:PySem.W.Frag}{H:Hp}:∀ {vs:List V} {ds:List D} {i:Nat} {d:D},DpL K H vs ds→ds[i]? = some d→∃ v,vs[i]? = some v∧Dp K H v d
  | _,_,_,_,.nil,e=>by simp at e
  | _,_,0,_,.cons h _,e=>by simp at e;subst e;exact ⟨_,rfl,h⟩
  | _,_,i+1,d,.cons _ l,e=>by
    obtain ⟨v,e1,h⟩:=DpL.get (i:=i) (d:=d) l (by simpa using e)
    exact ⟨v,by simpa using e1,h⟩
theorem DpL.get' {K:PySem.W.Frag}{H:Hp}:∀ {vs:List V} {ds:List D} {i:Nat} {v:V},DpL K H vs ds→vs[i]? = some v→∃ d,ds[i]? = some d∧Dp K H v d
  | _,_,_,_,.nil,e=>by simp at e
  | _,_,0,_,.cons h _,e=>by simp at e;subst e;exact ⟨_,rfl,h⟩
  | _,_,i+1,d,.cons _ l,e=>by
    obtain ⟨v,e1,h⟩:=DpL.get' (i:=i) (v:=d) l (by simpa using e)
    exact ⟨v,by simpa using e1,h⟩
theorem DpL.set {K:PySem.W.Frag}{H:Hp}{v:V}{d:D}(h:Dp K H v d):∀ {vs:List V} {ds:List D} (i:Nat),DpL K H vs ds→DpL K H (vs.set i v) (ds.set i d)
  | _,_,_,.nil=>.nil
  | _,_,0,.cons _ l=>.cons h l
  | _,_,i+1,.cons q l=>.cons q (DpL.set h i l)
theorem DpL.append {K:PySem.W.Frag}{H:Hp}:∀ {vs ws:List V} {ds es:List D},DpL K H vs ds→DpL K H ws es→DpL K H (vs++ws) (ds++es)
  | _,_,_,_,.nil,s=>s
  | _,_,_,_,.cons h l,s=>.cons h (DpL.append l s)
theorem DpL.at {K:PySem.W.Frag}{H:Hp}{vs:List V}{ds:List D}{i:Int}{d:D}(l:DpL K H vs ds)(e:atD ds i=some d):∃ v,atI vs i=some v∧Dp K H v d:=by
  unfold atD atI at e
  unfold atI
  rw[l.length]
  cases q:ixN ds.length i with
  | none=>rw[q] at e;cases e
  | some j=>
    rw[q] at e
    exact l.get e
def DpK (K:PySem.W.Frag)(H:Hp)(xs:List (Key×V))(kvs:List (Key×D)):Prop:=xs.map (·.1)=kvs.map (·.1)∧DpL K H (xs.map (·.2)) (kvs.map (·.2))
theorem DpK.mono {K:PySem.W.Frag}{H H':Hp}(t:Tk H H'){xs:List (Key×V)}{kvs:List (Key×D)}(h:DpK K H xs kvs):DpK K H' xs kvs:=⟨h.1,h.2.mono t⟩
def la (K:PySem.W.Frag)(H:Hp)(a:Addr):MO→Prop
  | .lst ds=>∃ xs,H a=some (.lst xs)∧DpL K H xs ds
  | .dct kvs=>∃ xs,H a=some (.dK xs)∧DpK K H xs kvs
theorem la.go {K:PySem.W.Frag}{H H':Hp}{a:Addr}{o:MO}(h:la K H a o)(t:Tk H H')(k:∀ u,H a=some u→H' a=some u):la K H' a o:=by
  cases o with
  | lst ds=>obtain ⟨xs,z,l⟩:=h;exact ⟨xs,k _ z,l.mono t⟩
  | dct kvs=>obtain ⟨xs,z,l⟩:=h;exact ⟨xs,k _ z,l.mono t⟩
theorem la.ne {K:PySem.W.Frag}{H:Hp}{a q:Addr}{o:MO}{u:HO}(h:la K H a o)(t:Tk H (L2.upd H q u))(k:a≠q):la K (L2.upd H q u) a o:=h.go t fun _ e=>by rw[au k];exact e
def aZ (K:PySem.W.Frag)(H:Hp)(μ:Mu):Prop:=∀ a o,μ a=some o→la K H a o
theorem aZ.free {K:PySem.W.Frag}{H:Hp}{μ:Mu}(h:aZ K H μ){a:Addr}(e:H a=none):μ a=none:=by
  cases q:μ a with
  | none=>rfl
  | some o=>
    cases o with
    | lst ds=>obtain ⟨xs,z,_⟩:=h a _ q;rw[e] at z;cases z
    | dct ds=>obtain ⟨xs,z,_⟩:=h a _ q;rw[e] at z;cases z
theorem aZ.keep {K:PySem.W.Frag}{H H':Hp}{μ:Mu}(h:aZ K H μ)(t:Tk H H')(k:∀ a u,μ a≠none→H a=some u→H' a=some u):aZ K H' μ:=fun a o e=>by
  exact (h a _ e).go t fun u z=>k a u (by rw[e];simp) z
def Sub (μ μ':Mu):Prop:=∀ a o,μ a=some o→μ' a=some o
theorem Sub.refl (μ:Mu):Sub μ μ:=fun _ _ h=>h
theorem Sub.new {μ:Mu}{p:Addr}{o:MO}(h:μ p=none):Sub μ (up μ p o):=fun a u e=>by
  rw[bx (fun z=>by subst z;rw[h] at e;cases e)];exact e
theorem Sub.trans {μ μ1 μ2:Mu}(a:Sub μ μ1)(b:Sub μ1 μ2):Sub μ μ2:=fun c o h=>b c o (a c o h)
theorem aZ.sub {K:PySem.W.Frag}{H:Hp}{μ μ':Mu}(h:aZ K H μ')(s:Sub μ μ'):aZ K H μ:=fun a o e=>h a o (s a o e)
structure Rl (K:PySem.W.Frag) (σ:L2.St) (H:Hp) (ρ:ST) (μ:Mu):Prop where
  len:ρ.length=σ.length
  loc:∀ i d,lk ρ i=some d→∃ v,σ[i]? = some (some v)∧Dp K H v d
  mu:aZ K H μ
theorem Rl.go {K:PySem.W.Frag}{σ:L2.St}{H H':Hp}{ρ:ST}{μ μ':Mu}(r:Rl K σ H ρ μ)(t:Tk H H')(m:aZ K H' μ'):Rl K σ H' ρ μ':=
  ⟨r.len,fun i d e=>let ⟨v,h1,h2⟩:=r.loc i d e;⟨v,h1,h2.mono t⟩,m⟩
theorem oC:∀ (ρ:ST) (i j:Nat) (d:D),lk (ρ.set i (some d)) j=if i=j∧i < ρ.length then some d else lk ρ j
  | [],i,j,d=>by simp[lk]
  | o::r,0,0,d=>by simp[lk]
  | o::r,0,j+1,d=>by simp[lk]
  | o::r,i+1,0,d=>by simp[lk]
  | o::r,i+1,j+1,d=>by
    show lk (r.set i (some d)) j=_
    rw[oC r i j d]
    simp[lk]
theorem Rl.set {K:PySem.W.Frag}{σ:L2.St}{H:Hp}{ρ:ST}{μ:Mu}(r:Rl K σ H ρ μ){v:V}{d:D}(h:Dp K H v d)(i:Nat):Rl K (σ.set i (some v)) H (ρ.set i (some d)) μ:=by
  refine ⟨by simp[r.len],fun j e q=>?_,r.mu⟩
  rw[oC] at q
  split at q
  · rename_i hc
    obtain ⟨rfl,hlt⟩:=hc
    cases q
    exact ⟨v,by rw[List.getElem?_set_self (by rw[← r.len];exact hlt)],h⟩
  · rename_i hc
    obtain ⟨u,h1,h2⟩:=r.loc j e q
    by_cases hij:i=j
    · subst hij
      have:¬ i < ρ.length:=fun z=>hc ⟨rfl,z⟩
      have hn:σ[i]? = none:=List.getElem?_eq_none_iff.mpr (by rw[← r.len];omega)
      rw[hn] at h1;cases h1
    · exact ⟨u,by rw[List.getElem?_set_ne hij];exact h1,h2⟩
abbrev cT (K:PySem.W.Frag)(H:Hp)(Q:DK)(Q':VK):Prop:=∀ v H' d μ',Tk H H'→aZ K H' μ'→Dp K H' v d→Q d μ'→Q' v H'
def Sim (K:PySem.W.Frag)(t:TE)(T:ETr):Prop:=∀ σ H ρ μ (Q:DK) (Q':VK),Rl K σ H ρ μ→T ρ μ Q→cT K H Q Q'→t σ H Q'
def t8 (K:PySem.W.Frag)(t:TT)(T:TTr):Prop:=∀ σ H ρ μ (Q:Bool→Mu→Prop) (Q':Bool→Hp→Prop),Rl K σ H ρ μ→T ρ μ Q→(∀ b H' μ',Tk H H'→aZ K H' μ'→Q b μ'→Q' b H')→t σ H Q'
def xS (K:PySem.W.Frag)(t:TA)(T:ATr):Prop:=∀ σ H ρ μ (Q:List D→Mu→Prop) (Q':List V→Hp→Prop),Rl K σ H ρ μ→T ρ μ Q→(∀ vs H' ds μ',Tk H H'→aZ K H' μ'→DpL K H' vs ds→Q ds μ'→Q' vs H')→t σ H Q'
abbrev kg (K:PySem.W.Frag)(H:Hp)(N:ST→Mu→Prop)(N':L2.St→Hp→Prop):Prop:=∀ σ' H' ρ' μ',Tk H H'→Rl K σ' H' ρ' μ'→N ρ' μ'→N' σ' H'
structure oW (K:PySem.W.Frag) (H:Hp) (E:En) (E':Ends):Prop where
  nx:kg K H E.nx E'.nx
  rt:cT K H E.rt E'.rt
  bk:kg K H E.bk E'.bk
  ct:kg K H E.ct E'.ct
theorem oW.go {K:PySem.W.Frag}{H H1:Hp}{E:En}{E':Ends}(e:oW K H E E')(t:Tk H H1):oW K H1 E E':=
  ⟨fun _ _ _ _ t'=>e.nx _ _ _ _ (t.trans t'),fun _ _ _ _ t'=>e.rt _ _ _ _ (t.trans t'),fun _ _ _ _ t'=>e.bk _ _ _ _ (t.trans t'),fun _ _ _ _ t'=>e.ct _ _ _ _ (t.trans t')⟩
def uM (K:PySem.W.Frag)(t:TS)(T:STr):Prop:=∀ σ H ρ μ (E:En) (E':Ends),Rl K σ H ρ μ→T E ρ μ→oW K H E E'→t E' σ H
def vG (K:PySem.W.Frag)(g:TG)(G:GTr):Prop:=∀ σ H ρ μ v d (k:ST→Mu→Prop) (k':L2.St→Hp→Prop),Rl K σ H ρ μ→Dp K H v d→G d ρ μ k→kg K H k k'→g v σ H k'
structure LE (X:Cx) (e:Expr) (T:ETr):Prop where
  ex:∃ t,PE X e t∧Sim X.K t T
structure LT (X:Cx) (e:Expr) (T:TTr):Prop where
  ex:∃ t,PT X e t∧t8 X.K t T
structure LW (X:Cx) (e:Expr) (T:TTr):Prop where
  ex:∃ t,PW X e t∧t8 X.K t T
structure LA (X:Cx) (es:List Expr) (T:ATr):Prop where
  ex:∃ t,PA X es t∧xS X.K t T
structure LS (X:Cx) (st:Stmt) (T:STr):Prop where
  ex:∃ t,PS X st t∧uM X.K t T
structure LSs (X:Cx) (sts:List Stmt) (T:STr):Prop where
  ex:∃ t,PSs X sts t∧uM X.K t T
structure LG (X:Cx) (tg:Expr) (G:GTr):Prop where
  ex:∃ g,PG X tg g∧vG X.K g G
section
variable {X:Cx} {a b c e:Expr} {Ta Tb Tc:ETr} {pos:Pos}
theorem af (i:Nat){x:Str}(hN:X.N[i]? = some x:=by rfl)(hv:Vis X.env.scope x:=by first | exact Or.inl rfl | exact Or.inr (Or.inl rfl) | exact Or.inr (Or.inr rfl))(hd:(x == ("__debug__" : Str))=false:=by decide)
    (hcd:(x == ("__classdict__" : Str))=false:=by decide):LE X (.Name x pos) (ah i):=
  ⟨_,qH hN hv hd hcd,fun σ H ρ μ Q Q' r h k=>by
    have h:kO (lk ρ i) fun d=>Q d μ:=h
    cases q:lk ρ i with
    | none=>rw[q] at h;exact False.elim h
    | some d=>
      rw[q] at h
      have h:Q d μ:=h
      obtain ⟨v,e1,p⟩:=r.loc i d q
      exact ⟨v,e1,k v H d μ (.refl H) r.mu p h⟩⟩
theorem le_int {i:Int}{j}:LE X (.Constant (.int i) j pos) (TC (.int i)):=⟨_,wq,fun σ H ρ μ Q Q' r h k=>k _ H _ μ (.refl H) r.mu (.int i) h⟩
theorem aU {b:Bool}{j}:LE X (.Constant (.bool b) j pos) (TC (.bl b)):=⟨_,xc,fun σ H ρ μ Q Q' r h k=>k _ H _ μ (.refl H) r.mu (.bl b) h⟩
theorem lJ {j}:LE X (.Constant .none j pos) (TC .non):=⟨_,wC,fun σ H ρ μ Q Q' r h k=>k _ H _ μ (.refl H) r.mu .non h⟩
theorem le_str {x:Str}{j}:LE X (.Constant (.str x) j pos) (TC (.str x)):=⟨_,qL,fun σ H ρ μ Q Q' r h k=>k _ H _ μ (.refl H) r.mu (.str x) h⟩
def bw (K:PySem.W.Frag)(r:R2)(R:DR2):Prop:=∀ H μ x y dx dy (Q:DK) (Q':VK),aZ K H μ→Dp K H x dx→Dp K H y dy→R dx dy μ Q→cT K H Q Q'→r x y H Q'
def xB (K:PySem.W.Frag)(r:V→Hp→VK→Prop)(R:DR):Prop:=∀ H μ x dx (Q:DK) (Q':VK),aZ K H μ→Dp K H x dx→R dx μ Q→cT K H Q Q'→r x H Q'
theorem cT.go {K:PySem.W.Frag}{H H1:Hp}{Q:DK}{Q':VK}(k:cT K H Q Q')(t:Tk H H1):cT K H1 Q Q':=fun v H' d μ' t'=>k v H' d μ' (t.trans t')
theorem dr {K:PySem.W.Frag}{r:R2}{R:DR2}{ta tb:TE}(hr:bw K r R)(ha:Sim K ta Ta)(hb:Sim K tb Tb):Sim K (tOp r ta tb) (ai R Ta Tb):=fun σ H ρ μ Q Q' rl h k=>
  ha σ H ρ μ _ _ rl h fun x H1 dx μ1 t1 m1 p1 h1=>hb σ H1 ρ μ1 _ _ (rl.go t1 m1) h1 fun y H2 dy μ2 t2 m2 p2 h2=>hr H2 μ2 x y dx dy Q Q' m2 (p1.mono t2) p2 h2 (k.go (t1.trans t2))
theorem eo {op:Operator}{r:R2}{R:DR2}(ho:OpR X (binaryOp op) r)(hr:bw X.K r R)(ha:LE X a Ta)(hb:LE X b Tb):LE X (.BinOp a op b pos) (ai R Ta Tb):=by
  obtain ⟨ta,pa,sa⟩:=ha.ex
  obtain ⟨tb,pb,sb⟩:=hb.ex
  exact ⟨_,ux ho pa pb,dr hr sa sb⟩
theorem e7 {op:CmpOp}{r:R2}{R:DR2}(ho:OpR X (compareOp op) r)(hr:bw X.K r R)(ha:LE X a Ta)(hb:LE X b Tb)(hm:behindInMarks op b=false):LE X (.Compare a [op] [b] pos) (ai R Ta Tb):=by
  obtain ⟨ta,pa,sa⟩:=ha.ex
  obtain ⟨tb,pb,sb⟩:=hb.ex
  exact ⟨_,rf ho pa pb hm,dr hr sa sb⟩
theorem oH {K:PySem.W.Frag}{t:TE}{T:ETr}(h:Sim K t T):t8 K (oE t) (TB T):=fun σ H ρ μ Q Q' rl hh k=>
  h σ H ρ μ _ _ rl hh fun v H' d μ' t' m' p' h'=>by
    cases p' with
    | bl c=>exact ⟨c,rfl,k c H' μ' t' m' h'⟩
    | _=>exact False.elim h'
theorem uQ {K:PySem.W.Frag}{t:TE}{T:ETr}(h:Sim K t T):t8 K (tB t) (TB T):=fun σ H ρ μ Q Q' rl hh k=>
  h σ H ρ μ _ _ rl hh fun v H' d μ' t' m' p' h'=>by
    cases p' with
    | bl c=>exact ⟨c,rfl,k c H' μ' t' m' h'⟩
    | _=>exact False.elim h'
theorem e6 {op:CmpOp}{r:R2}{R:DR2}(ho:OpR X (compareOp op) r)(hr:bw X.K r R)(ha:LE X a Ta)(hb:LE X b Tb)(hm:behindInMarks op b=false):LT X (.Compare a [op] [b] pos) (TB (ai R Ta Tb)):=by
  obtain ⟨ta,pa,sa⟩:=ha.ex
  obtain ⟨tb,pb,sb⟩:=hb.ex
  exact ⟨_,tR ho pa pb hm,oH (dr hr sa sb)⟩
theorem OpR.or {f:Value→Value→Sem Value}{r r':R2}(h:OpR X f r)(h':OpR X f r'):OpR X f (fun x y H Q=>r x y H Q∨r' x y H Q):=fun pins s σ H x y v u Q I rx ry q=>by
  rcases q with q | q
  · exact h pins s σ H x y v u Q I rx ry q
  · exact h' pins s σ H x y v u Q I rx ry q
theorem i9 {K:PySem.W.Frag}{C:Int→Int→Prop}{g:Int→Int→V}{R:DR2}(f:Int→Int→D)(hg:∀ H i j,Dp K H (g i j) (f i j))(hR:∀ i j μ Q,R (.int i) (.int j) μ Q→C i j∧Q (f i j) μ)
    (hn:∀ dx dy μ Q,R dx dy μ Q→(∃ i,dx=.int i)∧∃ j,dy=.int j):bw K (rI C g) R:=fun H μ x y dx dy Q Q' m px py h k=>by
  obtain ⟨⟨i,rfl⟩,j,rfl⟩:=hn _ _ _ _ h
  cases px;cases py
  obtain ⟨h1,h2⟩:=hR _ _ _ _ h
  exact ⟨i,j,rfl,rfl,h1,k _ H _ μ (.refl H) m (hg H i j) h2⟩
theorem mF {K:PySem.W.Frag}{g:Int→Int→V}{R:DR2}(f:Int→Int→D)(hg:∀ H i j,Dp K H (g i j) (f i j))(hR:∀ i j μ Q,R (.int i) (.int j) μ Q→Q (f i j) μ)
    (hn:∀ dx dy μ Q,R dx dy μ Q→(∃ i,dx=.int i)∧∃ j,dy=.int j):bw K (rI0 g) R:=fun H μ x y dx dy Q Q' m px py h k=>by
  obtain ⟨⟨i,rfl⟩,j,rfl⟩:=hn _ _ _ _ h
  cases px;cases py
  exact ⟨i,j,rfl,rfl,k _ H _ μ (.refl H) m (hg H i j) (hR _ _ _ _ h)⟩
theorem pG (ha:LE X a Ta)(hb:LE X b Tb):LE X (.BinOp a .Sub b pos) (ai kY Ta Tb):=eo wj (mF (fun i j=>.int (i - j)) (fun _ _ _=>.int _) (fun _ _ _ _ h=>h) (fun dx dy μ Q h=>by cases dx<;>cases dy<;>first | exact ⟨⟨_,rfl⟩,_,rfl⟩ | exact False.elim h)) ha hb
theorem hZ.abs {j:Int}(h:hZ j):j.natAbs < 2 ^ 256:=by
  have e:(2:Nat) ^ 256=115792089237316195423570985008687907853269984665640564039457584007913129639936:=by decide +kernel
  rw[e]
  obtain ⟨h1,h2⟩:=h
  omega
theorem MulOk.ok {i j:Int}(h:MulOk i j):IntMulOk i j:=by
  rcases h with (⟨h1,h2⟩ | ⟨h1,h2⟩) | ⟨h1,h2⟩
  · exact .of_left (intBits_le_64 h1 h2)
  · exact .of_right (intBits_le_64 h1 h2)
  · exact .of_le (PyProof.Rows.intBits_le h1.abs) (PyProof.Rows.intBits_le h2.abs) (by decide)
theorem tW:OpR X (binaryOp .Mult) (rI MulOk fun i j=>.int (i*j)):=opI fun _ _ _ _ _ _ _ hc q=>mul_int q hc.ok
theorem c6.np {i j:Int}(h:c6 j):Builtin.divisionGoesByPylong i j=false:=by
  refine PyProof.noPylong_of_log2 ?_
  have h0:j.natAbs≠0:=by have:=h.1;omega
  have:=(Nat.log2_lt h0).mpr h.2.abs
  omega
theorem sE:OpR X (binaryOp .FloorDiv) (rI (fun _ j=>c6 j) fun i j=>.int (i.fdiv j)):=opI fun _ _ _ _ _ _ _ hc q=>floordiv_int hc.1 q (.inl hc.np)
theorem i8 (ha:LE X a Ta)(hb:LE X b Tb):LE X (.BinOp a .FloorDiv b pos) (ai nA Ta Tb):=eo sE (i9 (fun i j=>.int (i.fdiv j)) (fun _ _ _=>.int _) (fun _ _ _ _ h=>⟨h.1,h.2⟩) (fun dx dy μ Q h=>by cases dx<;>cases dy<;>first | exact ⟨⟨_,rfl⟩,_,rfl⟩ | exact False.elim h)) ha hb
theorem le_mul (ha:LE X a Ta)(hb:LE X b Tb):LE X (.BinOp a .Mult b pos) (ai d9 Ta Tb):=eo tW (i9 (fun i j=>.int (i*j)) (fun _ _ _=>.int _) (fun _ _ _ _ h=>⟨h.1,h.2⟩) (fun dx dy μ Q h=>by cases dx<;>cases dy<;>first | exact ⟨⟨_,rfl⟩,_,rfl⟩ | exact False.elim h)) ha hb
theorem cz (ha:LE X a Ta)(hb:LE X b Tb):LE X (.BinOp a .Mod b pos) (ai fz Ta Tb):=eo sv (i9 (fun i j=>.int (i.fmod j)) (fun _ _ _=>.int _) (fun _ _ _ _ h=>⟨h.1,h.2⟩) (fun dx dy μ Q h=>by cases dx<;>cases dy<;>first | exact ⟨⟨_,rfl⟩,_,rfl⟩ | exact False.elim h)) ha hb
theorem le_pow (ha:LE X a Ta)(hb:LE X b Tb):LE X (.BinOp a .Pow b pos) (ai jd Ta Tb):=eo uU (i9 (fun i j=>.int (i ^ j.toNat)) (fun _ _ _=>.int _) (fun _ _ _ _ h=>⟨h.1,h.2⟩) (fun dx dy μ Q h=>by cases dx<;>cases dy<;>first | exact ⟨⟨_,rfl⟩,_,rfl⟩ | exact False.elim h)) ha hb
theorem cy {K:PySem.W.Frag}(p:Int→Int→Bool):bw K (rI0 fun i j=>.bl (p i j)) (pq p):=mF (fun i j=>.bl (p i j)) (fun _ _ _=>.bl _) (fun _ _ _ _ h=>h) (fun dx dy μ Q h=>by cases dx<;>cases dy<;>first | exact ⟨⟨_,rfl⟩,_,rfl⟩ | exact False.elim h)
theorem yT (ha:LE X a Ta)(hb:LE X b Tb):LE X (.Compare a [.Gt] [b] pos) (ai rGt Ta Tb):=e7 uc (cy _) ha hb (dq _)
theorem yj (ha:LE X a Ta)(hb:LE X b Tb):LE X (.Compare a [.GtE] [b] pos) (ai rGe Ta Tb):=e7 xF (cy _) ha hb (dq _)
theorem yN (ha:LE X a Ta)(hb:LE X b Tb):LT X (.Compare a [.Lt] [b] pos) (TB (ai rLt Ta Tb)):=e6 yt (cy _) ha hb (dq _)
theorem yE (ha:LE X a Ta)(hb:LE X b Tb):LT X (.Compare a [.LtE] [b] pos) (TB (ai rLe Ta Tb)):=e6 pk (cy _) ha hb (dq _)
theorem pP (ha:LE X a Ta)(hb:LE X b Tb):LT X (.Compare a [.Gt] [b] pos) (TB (ai rGt Ta Tb)):=e6 uc (cy _) ha hb (dq _)
theorem yH {op:UnaryOp}{r:V→Hp→VK→Prop}{R:DR}(ho:UnR X (unaryOp op) r)(hr:xB X.K r R)(ha:LE X a Ta):LE X (.UnaryOp op a pos) (TUn R Ta):=by
  obtain ⟨ta,pa,sa⟩:=ha.ex
  exact ⟨_,xY ho pa,fun σ H ρ μ Q Q' rl h k=>sa σ H ρ μ _ _ rl h fun x H1 dx μ1 t1 m1 p1 h1=>hr H1 μ1 x dx Q Q' m1 p1 h1 (k.go t1)⟩
theorem bY (ha:LE X a Ta)(he:∀ whole,isTrue a X.env whole=(do let v ← whole;standAt a.pos;holding [v] (truthy v)):=by intro _;rfl):LT X a (TB Ta):=by
  obtain ⟨ta,pa,sa⟩:=ha.ex
  exact ⟨_,wU pa he,uQ sa⟩
variable {tA tB' tC':TTr} {rest:List Expr}
theorem bM (ha:LT X a tA):LT X (.UnaryOp .Not a pos) (cW tA):=by
  obtain ⟨ta,pa,sa⟩:=ha.ex
  exact ⟨_,vI pa,fun σ H ρ μ Q Q' rl h k=>sa σ H ρ μ _ _ rl h fun c H1 μ1 t1 m1 h1=>k (!c) H1 μ1 t1 m1 h1⟩
theorem LW.lt (h:LW X a tA):LT X a tA:=by
  obtain ⟨ta,pa,sa⟩:=h.ex
  exact ⟨_,pa.pt,sa⟩
theorem tK (ha:LT X a tA):LW X (.BoolOp .And [a] pos) tA:=by
  obtain ⟨ta,pa,sa⟩:=ha.ex
  exact ⟨_,pw_and1 pa,sa⟩
theorem fP (ha:LT X a tA):LW X (.BoolOp .Or [a] pos) tA:=by
  obtain ⟨ta,pa,sa⟩:=ha.ex
  exact ⟨_,pw_or1 pa,sa⟩
theorem we (ha:LT X a tA)(hb:LW X (.BoolOp .And (b::rest) pos) tB'):LW X (.BoolOp .And (a::b::rest) pos) (qB tA tB'):=by
  obtain ⟨ta,pa,sa⟩:=ha.ex
  obtain ⟨tb,pb,sb⟩:=hb.ex
  refine ⟨_,pw_and pa pb,fun σ H ρ μ Q Q' rl h k=>sa σ H ρ μ _ _ rl h fun c H1 μ1 t1 m1 h1=>?_⟩
  cases c with
  | true=>exact jV (sb σ H1 ρ μ1 Q Q' (rl.go t1 m1) h1 fun b H2 μ2 t2=>k b H2 μ2 (t1.trans t2))
  | false=>exact jr (k false H1 μ1 t1 m1 h1)
theorem iz (ha:LT X a tA)(hb:LW X (.BoolOp .Or (b::rest) pos) tB'):LW X (.BoolOp .Or (a::b::rest) pos) (TOr tA tB'):=by
  obtain ⟨ta,pa,sa⟩:=ha.ex
  obtain ⟨tb,pb,sb⟩:=hb.ex
  refine ⟨_,pw_or pa pb,fun σ H ρ μ Q Q' rl h k=>sa σ H ρ μ _ _ rl h fun c H1 μ1 t1 m1 h1=>?_⟩
  cases c with
  | true=>exact jV (k true H1 μ1 t1 m1 h1)
  | false=>exact jr (sb σ H1 ρ μ1 Q Q' (rl.go t1 m1) h1 fun b H2 μ2 t2=>k b H2 μ2 (t1.trans t2))
theorem l4 {op}(h:LE X a Ta):LE X (.BoolOp op [a] pos) Ta:=by
  obtain ⟨ta,pa,sa⟩:=h.ex
  exact ⟨_,uY pa,sa⟩
theorem kU (ha:LE X a Ta)(hb:LE X (.BoolOp .And (b::rest) pos) Tb):LE X (.BoolOp .And (a::b::rest) pos) (eK Ta Tb):=by
  obtain ⟨ta,pa,sa⟩:=ha.ex
  obtain ⟨tb,pb,sb⟩:=hb.ex
  refine ⟨_,uN pa pb,fun σ H ρ μ Q Q' rl h k=>sa σ H ρ μ _ _ rl h fun x H1 dx μ1 t1 m1 p1 h1=>?_⟩
  cases p1 with
  | bl c=>
    refine ⟨c,rfl,?_⟩
    cases c with
    | true=>exact jV (sb σ H1 ρ μ1 Q Q' (rl.go t1 m1) h1 (k.go t1))
    | false=>exact jr (k _ H1 _ μ1 t1 m1 (.bl _) h1)
  | _=>exact False.elim h1
theorem vR (ha:LE X a Ta):LE X (.UnaryOp .Not a pos) (ix Ta):=by
  obtain ⟨ta,pa,sa⟩:=ha.ex
  refine ⟨_,vZ pa,fun σ H ρ μ Q Q' rl h k=>sa σ H ρ μ _ _ rl h fun x H1 dx μ1 t1 m1 p1 h1=>?_⟩
  cases p1 with
  | bl c=>exact ⟨c,rfl,k _ H1 _ μ1 t1 m1 (.bl _) h1⟩
  | _=>exact False.elim h1
theorem vV (hc:LT X c tC')(ha:LE X a Ta)(hb:LE X b Tb):LE X (.IfExp c a b pos) (qM tC' Ta Tb):=by
  obtain ⟨tc,pc,sc⟩:=hc.ex
  obtain ⟨ta,pa,sa⟩:=ha.ex
  obtain ⟨tb,pb,sb⟩:=hb.ex
  refine ⟨_,pR pc pa pb,fun σ H ρ μ Q Q' rl h k=>sc σ H ρ μ _ _ rl h fun q H1 μ1 t1 m1 h1=>?_⟩
  cases q with
  | true=>exact jV (sa σ H1 ρ μ1 Q Q' (rl.go t1 m1) h1 (k.go t1))
  | false=>exact jr (sb σ H1 ρ μ1 Q Q' (rl.go t1 m1) h1 (k.go t1))
variable {es:List Expr} {At:ATr}
theorem ag:LA X [] aj:=⟨_,iN,fun σ H ρ μ Q Q' rl h k=>k [] H [] μ (.refl H) rl.mu .nil h⟩
theorem aa (ha:LE X e Ta)(hr:LA X es At)(hs:starEach (e::es) X.env=(false,eval e X.env)::starEach es X.env:=by rfl):LA X (e::es) (ae Ta At):=by
  obtain ⟨ta,pa,sa⟩:=ha.ex
  obtain ⟨tr,pr,sr⟩:=hr.ex
  exact ⟨_,dO pa pr hs,fun σ H ρ μ Q Q' rl h k=>sa σ H ρ μ _ _ rl h fun x H1 dx μ1 t1 m1 p1 h1=>sr σ H1 ρ μ1 _ _ (rl.go t1 m1) h1 fun xs H2 ds μ2 t2 m2 p2 h2=>k _ H2 _ μ2 (t1.trans t2) m2 (.cons (p1.mono t2) p2) h2⟩
theorem cS {K:PySem.W.Frag}{H:Hp}{μ:Mu}{p:Addr}{o:HO}(m:aZ K H μ)(hp:H p=none):aZ K (L2.upd H p o) μ:=m.keep (.new hp) fun a' xs' _ e=>by rw[au (bh e hp)];exact e
theorem big {n:Nat}(h:n≤1000000):n≤sizeLine:=Nat.le_trans h (by decide)
theorem aH {x1}(h:LA X es At):LE X (.Tuple es x1 pos) (bq At):=by
  obtain ⟨ta,pa,sa⟩:=h.ex
  refine ⟨_,uG pa,fun σ H ρ μ Q Q' rl h k=>sa σ H ρ μ _ _ rl h fun xs H1 ds μ1 t1 m1 p1 h1=>⟨by rw[p1.length];exact big h1.1,fun p hp=>?_⟩⟩
  exact k _ _ _ μ1 (t1.trans (.new hp)) (cS m1 hp) (.tup (SqT.of az) (p1.mono (.new hp))) h1.2
theorem wy (h:LA X es At):LE X (.List es pos) (pI At):=by
  obtain ⟨ta,pa,sa⟩:=h.ex
  refine ⟨_,oV pa,fun σ H ρ μ Q Q' rl h k=>sa σ H ρ μ _ _ rl h fun xs H1 ds μ1 t1 m1 p1 h1=>⟨by rw[p1.length];exact big h1.1,fun p hp=>?_⟩⟩
  refine k _ _ _ (up μ1 p (.lst ds)) (t1.trans (.new hp)) (fun a o e=>?_) (.obj p) (h1.2 p (m1.free hp))
  by_cases ha:a=p
  · subst ha
    rw[aC] at e;cases e
    exact ⟨xs,az,p1.mono (.new hp)⟩
  · rw[bx ha] at e
    exact cS m1 hp a o e
def yS (t:TE):TE:=fun σ H Q=>t σ H fun v H1=>∃ a xs,v=.ref a∧H1 a=some (.lst xs)∧∀ o,Q v (L2.upd H1 a (.frz o (.lst xs)))
theorem mv {t:TE}(h:PE X e t):PE X e (yS t):=by
  intro pins s σ H Q I hh
  refine thn (h pins s σ H _ I hh) fun u s1 ⟨v,H1,I1,r,a,xs,ev,ea,q⟩=>?_
  obtain ⟨z,its,n,rv,hg⟩:=(show bg X.prog X.w H1 s1.heap a (.lst xs) from I1.hok a _ ea)
  have nl:∀ b o,H1 b=some o→(∀ ys,o≠.lst ys)→b≠a:=fun b o e1 e2 z=>by subst z;rw[ea] at e1;cases e1;exact e2 _ rfl
  refine ⟨v,_,I1.un (h':=s1.heap) (t':=s1.toks) (H':=L2.upd H1 a (.frz { cls:=.type "list", data:=.seq its.toArray n } (.lst xs))) ⟨fun b o e _ _ _=>e,fun b o e _ _ _=>⟨o.slots,e⟩,fun b o e n _=>?_,fun b o e _=>⟨o,e⟩,fun b ys e=>?_,fun b o u e=>?_,fun b ps e=>⟨#[],?_⟩⟩ (fun b u e=>?_),r,q _⟩
  · rw[au (fun z=>by subst z;rw[ea] at n;cases n)];exact n
  · rw[au (nl b _ e (fun _=>nofun))];exact e
  · rw[au (nl b _ e (fun _=>nofun))];exact e
  · rw[au (nl b _ e (fun _=>nofun)),e];simp
  · by_cases hb:b=a
    · subst hb
      rw[az] at e;cases e
      exact ⟨hg,z,its,n,rv,hg⟩
    · rw[au hb] at e
      refine (I1.hok b u e).jj (fun c w _ q=>q) (fun c q=>?_) fun c ys q=>?_
      · rw[au (nl c _ q (fun _=>nofun))];exact q
      · rw[au (nl c _ q (fun _=>nofun))];exact q
theorem bp (h:LA X es At):LE X (.List es pos) (bO At):=by
  obtain ⟨ta,pa,sa⟩:=h.ex
  refine ⟨_,mv (oV pa),fun σ H ρ μ Q Q' rl h k=>sa σ H ρ μ _ _ rl h fun xs H1 ds μ1 t1 m1 p1 h1=>⟨by rw[p1.length];exact big h1.1,fun p hp=>⟨p,xs,rfl,az,fun o=>?_⟩⟩⟩
  have e:L2.upd (L2.upd H1 p (.lst xs)) p (.frz o (.lst xs))=L2.upd H1 p (.frz o (.lst xs)):=m7
  rw[e]
  exact k _ _ _ μ1 (t1.trans (.new hp)) (cS m1 hp) (.ls (.inl ⟨o,az⟩) (p1.mono (.new hp))) h1.2
end
end
section
open PySem PySem.Spec PyProof.Rows L2
mutual
def toP:D→PyData
  | .non=>.none
  | .bl b=>.bool b
  | .int i=>.int i
  | .str x=>.str x
  | .tup ds=>.tuple (dB ds)
  | .ls ds=>.list (dB ds)
  | .ty _=>.none
  | .obj _=>.none
def dB:List D→List PyData
  | []=>[]
  | d::r=>toP d::dB r
end
mutual
theorem dH:∀ (n:Nat) (d:D),okD n d=true→(toP d).canLay0=true∧(toP d).depth≤n
  | n,.non,_=>⟨rfl,Nat.zero_le _⟩
  | n,.bl b,_=>⟨rfl,Nat.zero_le _⟩
  | n,.int i,_=>⟨rfl,Nat.zero_le _⟩
  | n,.str x,h=>⟨by cases n<;>exact h,Nat.zero_le _⟩
  | n+1,.tup ds,h=>by
    obtain ⟨h1,h2⟩:=fu n ds h
    exact ⟨h1,Nat.succ_le_succ h2⟩
  | n+1,.ls ds,h=>by
    obtain ⟨h1,h2⟩:=fu n ds h
    exact ⟨h1,Nat.succ_le_succ h2⟩
  | 0,.tup ds,h=>by cases h
  | 0,.ls ds,h=>by cases h
  | n,.ty _,h=>by cases n<;>cases h
  | n,.obj _,h=>by cases n<;>cases h
theorem fu:∀ (n:Nat) (ds:List D),cF n ds=true→PyData.canLayAll0 (dB ds)=true∧PyData.depthAll (dB ds)≤n
  | n,[],_=>⟨rfl,Nat.zero_le _⟩
  | n,d::r,h=>by
    have h':okD n d=true∧cF n r=true:=by simpa[cF] using h
    obtain ⟨a1,a2⟩:=dH n d h'.1
    obtain ⟨b1,b2⟩:=fu n r h'.2
    refine ⟨?_,?_⟩
    · show (PyData.canLay0 (toP d)&&PyData.canLayAll0 (dB r))=true
      rw[a1,b1];rfl
    · show max (PyData.depth (toP d)) (PyData.depthAll (dB r))≤n
      exact Nat.max_le.mpr ⟨a2,b2⟩
end
theorem str_beq (a b:Str):(a == b)=decide (a=b):=by
  by_cases h:a=b
  · subst h;simp
  · rw[decide_eq_false h];exact beq_eq_false_iff_ne.mpr h
mutual
theorem iP:∀ (n m:Nat) (a b:D),okD n a=true→okD m b=true→PyData.eqv (toP a) (toP b)=eqD a b
  | n,m,.non,b,_,hb=>by cases b<;>first | rfl | (cases m<;>cases hb)
  | n,m,.bl x,b,_,hb=>by
    cases b with
    | int y=>simp only[toP,PyData.eqv,eqD];rw[Bool.beq_eq_decide_eq]
    | ty _=>cases m<;>cases hb
    | obj _=>cases m<;>cases hb
    | _=>rfl
  | n,m,.int x,b,_,hb=>by
    cases b with
    | int y=>simp only[toP,PyData.eqv,eqD];rw[Bool.beq_eq_decide_eq]
    | bl y=>simp only[toP,PyData.eqv,eqD];rw[Bool.beq_eq_decide_eq]
    | ty _=>cases m<;>cases hb
    | obj _=>cases m<;>cases hb
    | _=>rfl
  | n,m,.str x,b,_,hb=>by
    cases b with
    | str y=>simp only[toP,PyData.eqv,eqD];exact str_beq x y
    | ty _=>cases m<;>cases hb
    | obj _=>cases m<;>cases hb
    | _=>rfl
  | n+1,m,.tup xs,b,ha,hb=>by
    cases b with
    | tup ys=>
      cases m with
      | zero=>cases hb
      | succ m=>simp only[toP,PyData.eqv,eqD];exact fW n m xs ys ha hb
    | ty _=>cases m<;>cases hb
    | obj _=>cases m<;>cases hb
    | _=>rfl
  | n+1,m,.ls xs,b,ha,hb=>by
    cases b with
    | ls ys=>
      cases m with
      | zero=>cases hb
      | succ m=>simp only[toP,PyData.eqv,eqD];exact fW n m xs ys ha hb
    | ty _=>cases m<;>cases hb
    | obj _=>cases m<;>cases hb
    | _=>rfl
  | 0,_,.tup ds,_,h,_=>by cases h
  | 0,_,.ls ds,_,h,_=>by cases h
  | n,_,.ty _,_,h,_=>by cases n<;>cases h
  | n,_,.obj _,_,h,_=>by cases n<;>cases h
theorem fW:∀ (n m:Nat) (a b:List D),cF n a=true→cF m b=true→PyData.eqvAll (dB a) (dB b)=gZ a b
  | _,_,[],[],_,_=>rfl
  | _,_,[],_::_,_,_=>by simp[dB,PyData.eqvAll,gZ]
  | _,_,_::_,[],_,_=>by simp[dB,PyData.eqvAll,gZ]
  | n,m,a::r,b::s,ha,hb=>by
    have ha':okD n a=true∧cF n r=true:=by simpa[cF] using ha
    have hb':okD m b=true∧cF m s=true:=by simpa[cF] using hb
    show (PyData.eqv (toP a) (toP b)&&PyData.eqvAll (dB r) (dB s))=(eqD a b&&gZ r s)
    rw[iP n m a b ha'.1 hb'.1,fW n m r s ha'.2 hb'.2]
end
section
variable {X:Cx} {pins:List (Addr×Obj)} {σ:L2.St} {H:Hp} {s:Shared}
mutual
theorem cQ (I:Inv X pins σ H s):∀ {n:Nat} {v:V} {d:D} {u:Value},Dp X.K H v d→okD n d=true→RelV v u→∃ as,Reads s.heap u (toP d) as
  | n,_,_,u,.non,_,r=>by cases (show u=Value.none from r);exact ⟨_,.none⟩
  | n,_,_,u,.bl b,_,r=>by cases (show u=Value.bool b from r);exact ⟨_,.bool b⟩
  | n,_,_,u,.int i,_,r=>by obtain ⟨t,e⟩:=(show ∃ t,u=Value.int i t from r);subst e;exact ⟨_,.int i t⟩
  | n,_,_,u,.str x,_,r=>by obtain ⟨t,e⟩:=(show ∃ t,u=Value.str x t from r);subst e;exact ⟨_,.str x t⟩
  | n,_,_,u,.ty _,h,_=>by cases n<;>cases h
  | n+1,_,_,u,@Dp.tup _ _ a xs ds q l,h,r=>by
    cases (show u=Value.ref a from r)
    obtain ⟨its,rv,⟨o,e1,e2,k,e3⟩,_⟩:=I.tuple q
    obtain ⟨as,ra⟩:=cP I (n:=n) l h rv
    exact ⟨_,.tuple e1 e2 e3 (by simpa using ra)⟩
  | n+1,_,_,u,@Dp.ls _ _ a xs ds q l,h,r=>by
    cases (show u=Value.ref a from r)
    obtain ⟨its,rv,⟨o,k,e1,e2,_,e3⟩,_⟩:=I.list q.sq
    obtain ⟨as,ra⟩:=cP I (n:=n) l h rv
    exact ⟨_,.list e1 e2 e3 (by simpa using ra)⟩
  | 0,_,_,u,@Dp.tup _ _ a xs ds q l,h,r=>by cases h
  | 0,_,_,u,@Dp.ls _ _ a xs ds q l,h,r=>by cases h
  | n,_,_,u,.obj _,h,_=>by cases n<;>cases h
theorem cP (I:Inv X pins σ H s):∀ {n:Nat} {vs:List V} {ds:List D} {us:List Value},DpL X.K H vs ds→cF n ds=true→Vals vs us→∃ as,ReadsAll s.heap us (dB ds) as
  | n,_,_,_,.nil,_,.nil=>⟨_,.nil⟩
  | n,_,_,_,@DpL.cons _ _ v d vs ds h l,ho,.cons r rs=>by
    have ho':okD n d=true∧cF n ds=true:=by simpa[cF] using ho
    obtain ⟨as,ra⟩:=cQ I h ho'.1 r
    obtain ⟨bs,rb⟩:=cP I l ho'.2 rs
    exact ⟨_,.cons ra rb⟩
end
end
def sY (K:PySem.W.Frag)(f:Bool→Bool):R2:=fun x y H Q=>∃ dx dy,Dp K H x dx∧Dp K H y dy∧okD 40 dx=true∧okD 40 dy=true∧Q (.bl (f (eqD dx dy))) H
section
variable {X:Cx} {a b c e:Expr} {Ta Tb Tc:ETr} {pos:Pos}
theorem vC (hu:X.A.units+64 < cLine):OpR X (compareOp .Eq) (sY X.K id):=fun pins s σ H x y v u Q I rx ry ⟨dx,dy,px,py,ox,oy,q⟩=>by
  obtain ⟨as,ra⟩:=cQ I px ox rx
  obtain ⟨bs,rb⟩:=cQ I py oy ry
  obtain ⟨l1,d1⟩:=dH 40 dx ox
  obtain ⟨l2,d2⟩:=dH 40 dy oy
  exact SeqAt.compareEq_reads ra rb l1 l2 (by have:=Nat.min_le_left (toP dx).depth (toP dy).depth;omega) ⟨.bl _,H,I,rfl,by rw[iP 40 40 dx dy ox oy];exact q⟩
theorem uP (hu:X.A.units+64 < cLine):OpR X (compareOp .NotEq) (sY X.K not):=fun pins s σ H x y v u Q I rx ry ⟨dx,dy,px,py,ox,oy,q⟩=>by
  obtain ⟨as,ra⟩:=cQ I px ox rx
  obtain ⟨bs,rb⟩:=cQ I py oy ry
  obtain ⟨l1,d1⟩:=dH 40 dx ox
  obtain ⟨l2,d2⟩:=dH 40 dy oy
  exact SeqAt.compareNe_reads ra rb l1 l2 (by have:=Nat.min_le_left (toP dx).depth (toP dy).depth;omega) ⟨.bl _,H,I,rfl,by rw[iP 40 40 dx dy ox oy];exact q⟩
theorem v9 {K:PySem.W.Frag}:bw K (sY K id) rEq:=fun H μ x y dx dy Q Q' m px py h k=>⟨dx,dy,px,py,h.1.1,h.1.2,k _ H _ μ (.refl H) m (.bl _) h.2⟩
theorem vj {K:PySem.W.Frag}:bw K (sY K not) rNe:=fun H μ x y dx dy Q Q' m px py h k=>⟨dx,dy,px,py,h.1.1,h.1.2,k _ H _ μ (.refl H) m (.bl _) h.2⟩
theorem le_eq (hu:X.A.units+64 < cLine)(ha:LE X a Ta)(hb:LE X b Tb):LE X (.Compare a [.Eq] [b] pos) (ai rEq Ta Tb):=e7 (vC hu) v9 ha hb (dq _)
theorem xi (hu:X.A.units+64 < cLine)(ha:LE X a Ta)(hb:LE X b Tb):LT X (.Compare a [.NotEq] [b] pos) (TB (ai rNe Ta Tb)):=e6 (uP hu) vj ha hb (dq _)
theorem n8 {K:PySem.W.Frag}{r r':R2}{R R':DR2}{ta tb tc:TE}(hr:bw K r R)(hr':bw K r' R')(ha:Sim K ta Ta)(hb:Sim K tb Tb)(hc:Sim K tc Tc):Sim K (pT r r' ta tb tc) (dm R R' Ta Tb Tc):=fun σ H ρ μ Q Q' rl h k=>
  ha σ H ρ μ _ _ rl h fun x H1 dx μ1 t1 m1 p1 h1=>hb σ H1 ρ μ1 _ _ (rl.go t1 m1) h1 fun y H2 dy μ2 t2 m2 p2 h2=>hr H2 μ2 x y dx dy _ _ m2 (p1.mono t2) p2 h2 fun z H3 dz μ3 t3 m3 p3 h3=>by
    cases p3 with
    | bl q=>
      refine ⟨q,rfl,?_⟩
      have t13:=t1.trans (t2.trans t3)
      cases q with
      | true=>exact jV (hc σ H3 ρ μ3 _ _ (rl.go t13 m3) h3 fun w H4 dw μ4 t4 m4 p4 h4=>hr' H4 μ4 y w dy dw Q Q' m4 (p2.mono (t3.trans t4)) p4 h4 (k.go (t13.trans t4)))
      | false=>exact jr (k _ H3 _ μ3 t13 m3 (.bl _) h3)
    | _=>exact False.elim h3
theorem rC {K:PySem.W.Frag}:xB K (rU fun i=>.int (-i)) lI:=fun H μ x dx Q Q' m px h k=>by
  cases px with
  | int i=>exact ⟨i,rfl,k _ H _ μ (.refl H) m (.int _) h⟩
  | _=>exact False.elim h
theorem le_neg (ha:LE X a Ta):LE X (.UnaryOp .USub a pos) (TUn lI Ta):=yH vc rC ha
theorem lX {o:Option D}{f:D→Prop}(h:kO o f):∃ d,o=some d∧f d:=by
  cases o with
  | none=>exact False.elim h
  | some d=>exact ⟨d,rfl,h⟩
theorem eh {μ:Mu}{a:Addr}{f:List D→Prop}(h:kL μ a f):∃ ds,μ a=some (.lst ds)∧f ds:=by
  unfold kL at h
  cases e:μ a with
  | none=>rw[e] at h;exact False.elim h
  | some o=>cases o with
    | lst ds=>rw[e] at h;exact ⟨ds,rfl,h⟩
    | dct ds=>rw[e] at h;exact False.elim h
theorem wW {μ:Mu}{a:Addr}{f:List (Key×D)→Prop}(h:kD μ a f):∃ ds,μ a=some (.dct ds)∧f ds:=by
  unfold kD at h
  cases e:μ a with
  | none=>rw[e] at h;exact False.elim h
  | some o=>cases o with
    | lst ds=>rw[e] at h;exact False.elim h
    | dct ds=>rw[e] at h;exact ⟨ds,rfl,h⟩
theorem qW {o:Option Nat}{f:Nat→Prop}(h:kN o f):∃ d,o=some d∧f d:=by
  cases o with
  | none=>exact False.elim h
  | some d=>exact ⟨d,rfl,h⟩
theorem vy {K:PySem.W.Frag}:bw K (L2.rIx K) L3.rIx:=fun H μ x y dx dy Q Q' m px py h k=>by
  cases px with
  | @tup a xs ds q l=>
    cases py with
    | int i=>
      obtain ⟨d,e,h'⟩:=lX h
      obtain ⟨v,e1,p⟩:=l.at e
      exact .inr (.inl ⟨a,xs,i,v,rfl,rfl,q,e1,k _ H _ μ (.refl H) m p h'⟩)
    | _=>exact False.elim h
  | @ls a xs ds q l=>
    cases py with
    | int i=>
      obtain ⟨d,e,h'⟩:=lX h
      obtain ⟨v,e1,p⟩:=l.at e
      exact .inl ⟨a,xs,i,v,rfl,rfl,q.sq,e1,k _ H _ μ (.refl H) m p h'⟩
    | _=>exact False.elim h
  | obj a=>
    cases py with
    | int i=>
      obtain ⟨ds,e0,h1⟩:=eh h
      obtain ⟨d,e,h'⟩:=lX h1
      obtain ⟨xs,ex,l⟩:=m a _ e0
      obtain ⟨v,e1,p⟩:=l.at e
      exact .inl ⟨a,xs,i,v,rfl,rfl,SqL.of ex,e1,k _ H _ μ (.refl H) m p h'⟩
    | _=>exact False.elim h
  | _=>cases py<;>exact False.elim h
theorem aE (ha:LE X a Ta)(hb:LE X b Tb)(hs:iU b:=by intro _ _;rfl):LE X (.Subscript a b pos) (ai L3.rIx Ta Tb):=by
  obtain ⟨ta,pa,sa⟩:=ha.ex
  obtain ⟨tb,pb,sb⟩:=hb.ex
  exact ⟨_,uD uI pa pb hs,dr vy sa sb⟩
variable {es:List Expr} {At:ATr} {x:Str} {p:Pos} {id T:String}
def h9 (K:PySem.W.Frag)(r:List V→Hp→VK→Prop)(R:FSp):Prop:=∀ H μ xs ds (Q:DK) (Q':VK),aZ K H μ→DpL K H xs ds→R ds μ Q→cT K H Q Q'→r xs H Q'
theorem ir {K:PySem.W.Frag}{r:List V→Hp→VK→Prop}{R:FSp}{ta:TA}(hr:h9 K r R)(ha:xS K ta At):Sim K (tCB r ta) (ao R At):=fun σ H ρ μ Q Q' rl h k=>
  ha σ H ρ μ _ _ rl h fun xs H1 ds μ1 t1 m1 p1 h1=>hr H1 μ1 xs ds Q Q' m1 p1 h1 (k.go t1)
theorem aG {r:List V→Hp→VK→Prop}{R:FSp}(hc:aS X (.builtin id) r)(hr:h9 X.K r R)(hg:Gl X x)(hm:X.mg x=none)(hv:bootBuiltins x=some (.builtin id))(ha:LA X (e::es) At)(hn:x ≠ "__name__" := by decide)(hdb:(x == ("__debug__" : Str))=false:=by decide)
    (h1:starEach (e::es) X.env=(false,eval e X.env)::starEach es X.env:=by rfl) (h2:(backTo pos (starEach es X.env)).any (·.1)=false:=by rfl):LE X (.Call (.Name x p) (e::es) [] pos) (ao R At):=by
  obtain ⟨ta,pa,sa⟩:=ha.ex
  exact ⟨_,jv hc hg hm hv pa hn hdb h1 h2,ir hr sa⟩
theorem iE {r:List V→Hp→VK→Prop}{R:FSp}(hc:aS X (.type T) r)(hr:h9 X.K r R)(hg:Gl X x)(hm:X.mg x=none)(hv:bootBuiltins x=some (.type T))(ha:LA X (e::es) At)(hn:x ≠ "__name__" := by decide)(hdb:(x == ("__debug__" : Str))=false:=by decide)
    (h1:starEach (e::es) X.env=(false,eval e X.env)::starEach es X.env:=by rfl) (h2:(backTo pos (starEach es X.env)).any (·.1)=false:=by rfl):LE X (.Call (.Name x p) (e::es) [] pos) (ao R At):=by
  obtain ⟨ta,pa,sa⟩:=ha.ex
  exact ⟨_,nI hc hg hm hv pa hn hdb h1 h2,ir hr sa⟩
theorem cU {K:PySem.W.Frag}:h9 K (fun xs H Q=>∃ i,xs=[.int i]∧Q (.int (if i < 0 then -i else i)) H) gD:=fun H μ xs ds Q Q' m p h k=>by
  unfold gD at h
  split at h
  · cases p with | cons p1 p2=>cases p2;cases p1;exact ⟨_,rfl,k _ H _ μ (.refl H) m (.int _) h⟩
  · exact False.elim h
theorem pW {K:PySem.W.Frag}:h9 K (fun xs H Q=>∃ i j,xs=[.int i,.int j]∧Q (.int (if j > i then j else i)) H) jY:=fun H μ xs ds Q Q' m p h k=>by
  unfold jY at h
  split at h
  · cases p with | cons p1 p2=>cases p2 with | cons p2 p3=>cases p3;cases p1;cases p2;exact ⟨_,_,rfl,k _ H _ μ (.refl H) m (.int _) h⟩
  · exact False.elim h
theorem jx {K:PySem.W.Frag}:h9 K (fun xs H Q=>∃ i j,xs=[.int i,.int j]∧Q (.int (if j < i then j else i)) H) f9:=fun H μ xs ds Q Q' m p h k=>by
  unfold f9 at h
  split at h
  · cases p with | cons p1 p2=>cases p2 with | cons p2 p3=>cases p3;cases p1;cases p2;exact ⟨_,_,rfl,k _ H _ μ (.refl H) m (.int _) h⟩
  · exact False.elim h
theorem sP {K:PySem.W.Frag}:h9 K (fun xs H Q=>(∃ i,xs=[.int i]∧Q (.int i) H)∨∃ k,xs=[.bl k]∧Q (.int (if k then 1 else 0)) H) oP:=fun H μ xs ds Q Q' m p h k=>by
  unfold oP at h
  split at h
  · cases p with | cons p1 p2=>cases p2;cases p1;exact .inl ⟨_,rfl,k _ H _ μ (.refl H) m (.int _) h⟩
  · cases p with | cons p1 p2=>cases p2;cases p1;exact .inr ⟨_,rfl,k _ H _ μ (.refl H) m (.int _) h⟩
  · exact False.elim h
theorem aS.or {f:Value}{r r':List V→Hp→VK→Prop}(h:aS X f r)(h':aS X f r'):aS X f (fun xs H Q=>r xs H Q∨r' xs H Q):=fun pins s σ H xs us Q I rx q=>by
  rcases q with q | q
  · exact h pins s σ H xs us Q I rx q
  · exact h' pins s σ H xs us Q I rx q
theorem dP {K:PySem.W.Frag}:h9 K (fun xs H Q=>(∃ p ys,xs=[.ref p]∧(SqL K H p ys∨SqT K H p ys)∧Q (.int ys.length) H)∨∃ z,xs=[.str z]∧z.length≤sizeLine∧Q (.int z.length) H) dh:=fun H μ xs ds Q Q' m p h k=>by
  unfold dh at h
  split at h
  · cases p with | cons p1 p2=>cases p2;cases p1 with | tup q l=>exact .inl ⟨_,_,rfl,.inr q,k _ H _ μ (.refl H) m (by rw[l.length];exact .int _) h⟩
  · cases p with | cons p1 p2=>cases p2;cases p1 with | ls q l=>exact .inl ⟨_,_,rfl,.inl q.sq,k _ H _ μ (.refl H) m (by rw[l.length];exact .int _) h⟩
  · cases p with | cons p1 p2=>cases p2;cases p1;exact .inr ⟨_,rfl,big h.1,k _ H _ μ (.refl H) m (.int _) h.2⟩
  · rename_i a
    cases p with | cons p1 p2=>
    cases p2;cases p1
    obtain ⟨ys,e0,h⟩:=eh h
    obtain ⟨xs,ex,l⟩:=m a _ e0
    exact .inl ⟨_,_,rfl,.inl (SqL.of ex),k _ H _ μ (.refl H) m (by rw[l.length];exact .int _) h⟩
  · exact False.elim h
theorem b8:aS X (.builtin "len") (fun xs H Q=>(∃ p ys,xs=[.ref p]∧(SqL X.K H p ys∨SqT X.K H p ys)∧Q (.int ys.length) H)∨∃ z,xs=[.str z]∧z.length≤sizeLine∧Q (.int z.length) H):=aS.or iX iS
end
end
section
open PySem PySem.Spec PyProof.Rows L2
def tys:List String:=["NoneType", "bool", "int", "str", "tuple", "list"]
def l7:List String:=["bool", "int", "str", "tuple", "list", "dict"]
theorem m9 (K:PySem.W.Frag):∀ t∈tys,∀ c∈l7,PySem.W.kitOne K (.type t) (.type c)=some (aA t c):=by
  intro t ht c hc
  simp only[tys,List.mem_cons,List.not_mem_nil,or_false] at ht
  simp only[l7,List.mem_cons,List.not_mem_nil,or_false] at hc
  rcases ht with rfl | rfl | rfl | rfl | rfl | rfl<;>rcases hc with rfl | rfl | rfl | rfl | rfl | rfl<;>with_unfolding_all rfl
theorem uZ {d:D}{t:String}(h:tyD d=some t):t∈tys:=by
  cases d<;>simp[tyD] at h<;>subst h<;>decide
def uh (K:PySem.W.Frag):List V→Hp→VK→Prop:=fun xs H Q=>∃ x d t c,xs=[x,.ty c]∧Dp K H x d∧tyD d=some t∧c∈l7∧Q (.bl (aA t c)) H
theorem oM {X:Cx}:aS X (.builtin "isinstance") (uh X.K):=fun pins s σ H xs us Q I rx ⟨x,d,t,c,ex,px,et,hc,q⟩=>by
  subst ex
  cases rx with | @cons _ u _ _ r1 r2=>cases r2 with | cons r2 r3=>
  cases r3
  cases (show _=Value.type c from r2)
  have e:=m9 X.K t (uZ et) c hc
  have fin:∀ tk,EP X pins σ Q (.bool (aA t c)) { s with toks:=tk }:=fun tk=>⟨.bl _,H,I.tok tk,rfl,q⟩
  cases px with
  | non=>cases et;cases (show u=Value.none from r1);exact PySem.W.kia_one PySem.W.kitx_none I.kIn True.intro e (fun z=>nomatch z) fin
  | bl y=>cases et;cases (show u=Value.bool y from r1);exact PySem.W.kia_one PySem.W.kitx_bool I.kIn True.intro e (fun z=>nomatch z) fin
  | int i=>cases et;obtain ⟨t,z⟩:=(show ∃ t,u=Value.int i t from r1);cases z;exact PySem.W.kia_one PySem.W.kitx_int I.kIn True.intro e (fun z=>nomatch z) fin
  | str y=>cases et;obtain ⟨t,z⟩:=(show ∃ t,u=Value.str y t from r1);cases z;exact PySem.W.kia_one PySem.W.kitx_str I.kIn True.intro e (fun z=>nomatch z) fin
  | ty _=>cases et
  | obj _=>cases et
  | @tup a xs ds sq l=>
    cases et
    cases (show u=Value.ref a from r1)
    obtain ⟨its,_,⟨o,h1,h2,_⟩,_⟩:=I.tuple sq
    exact PySem.W.kia_one PySem.W.kitx_tuple I.kIn ⟨o,h1,h2⟩ e (fun z=>nomatch z) fin
  | @ls a xs ds sq l=>
    cases et
    cases (show u=Value.ref a from r1)
    obtain ⟨its,_,⟨o,n,h1,h2,_⟩,_⟩:=I.list sq.sq
    exact PySem.W.kia_one PySem.W.kitx_list I.kIn ⟨o,h1,h2⟩ e (fun z=>nomatch z) fin
section
variable {X:Cx} {a b c e tg o:Expr} {Ta Tb Tc:ETr} {pos:Pos} {es:List Expr} {At:ATr} {x:Str} {p:Pos} {id T:String} {st:Stmt} {rest:List Stmt} {T1 T2:STr} {tA:TTr}
theorem cf:LSs X [] cD:=⟨_,tw,fun σ H ρ μ E E' rl h k=>k.nx _ _ _ _ (.refl H) rl h⟩
theorem ak (h1:LS X st T1)(h2:LSs X rest T2):LSs X (st::rest) (aK T1 T2):=by
  obtain ⟨t1,p1,s1⟩:=h1.ex
  obtain ⟨t2,p2,s2⟩:=h2.ex
  exact ⟨_,pK p1 p2,fun σ H ρ μ E E' rl h k=>s1 σ H ρ μ _ _ rl h ⟨fun σ' H' ρ' μ' t' r' q=>s2 σ' H' ρ' μ' E E' r' q (k.go t'),k.rt,k.bk,k.ct⟩⟩
theorem av (h1:LS X st T1):LSs X [st] T1:=by
  obtain ⟨t1,p1,s1⟩:=h1.ex
  exact ⟨_,tQ p1,s1⟩
theorem aF (he:LE X e Ta):LS X (.Return (some e) pos) (a8 Ta):=by
  obtain ⟨ta,pa,sa⟩:=he.ex
  exact ⟨_,wX pa,fun σ H ρ μ E E' rl h k=>sa σ H ρ μ _ _ rl h k.rt⟩
theorem gq {sa sb:List Stmt}(hc:LT X c tA)(ha:LSs X sa T1)(hb:LSs X sb T2):LS X (.If c sa sb pos) (eM tA T1 T2):=by
  obtain ⟨tc,pc,sc⟩:=hc.ex
  obtain ⟨t1,p1,s1⟩:=ha.ex
  obtain ⟨t2,p2,s2⟩:=hb.ex
  refine ⟨_,yl pc p1 p2,fun σ H ρ μ E E' rl h k=>sc σ H ρ μ _ _ rl h fun q H1 μ1 t1' m1 h1=>?_⟩
  cases q with
  | true=>exact jV (s1 σ H1 ρ μ1 E E' (rl.go t1' m1) h1 (k.go t1'))
  | false=>exact jr (s2 σ H1 ρ μ1 E E' (rl.go t1' m1) h1 (k.go t1'))
theorem il {K:PySem.W.Frag}(i:Nat):vG K (pV i) (aw i):=fun σ H ρ μ v d k k' rl p h q=>q _ _ _ _ (.refl H) (rl.set p i) h
theorem mP (i:Nat)(hN:X.N.Nodup)(hi:X.N[i]? = some x:=by rfl)(hx:Loc X.env.scope x:=by first | exact Or.inl rfl | exact Or.inr rfl)(hf:X.fn x=true∨X.env.scope.names.lookup x=some .local:=by first | exact .inl rfl | exact .inr rfl | assumption):LG X (.Name x pos) (aw i):=
  ⟨_,i4 hN hi hx hf,il i⟩
theorem aL (i:Nat){pos':Pos}(hN:X.N.Nodup)(he:LE X e Ta)(hi:X.N[i]? = some x:=by rfl)(hx:Loc X.env.scope x:=by first | exact Or.inl rfl | exact Or.inr rfl)(hs:swapsWith e (some (.Name x pos')) pos.line X.env=pure false:=by rfl)
    (hf:X.fn x=true∨X.env.scope.names.lookup x=some .local:=by first | exact .inl rfl | exact .inr rfl | assumption):LS X (.Assign [.Name x pos'] e pos) (a9 Ta (aw i)):=by
  obtain ⟨ta,pa,sa⟩:=he.ex
  exact ⟨_,vq hN hi hx pa hs hf,fun σ H ρ μ E E' rl h k=>sa σ H ρ μ _ _ rl h fun v H' d μ' t' m' p' h'=>il i σ H' ρ μ' v d _ _ (rl.go t' m') p' h' (k.go t').nx⟩
theorem lN (i j:Nat){y:Str}{px py pt:Pos}{kt k2 pt2}(hc:X.calm=true)(hN:X.N.Nodup)(ha:LA X [a,b] At)(hi:X.N[i]? = some x:=by rfl)(hj:X.N[j]? = some y:=by rfl)(hij:i≠j:=by decide)
    (hx:X.env.scope.names.lookup x=some .local:=by rfl) (hy:X.env.scope.names.lookup y=some .local:=by rfl)
    (hw:swappedStores [.Tuple [.Name x px,.Name y py] kt pt] (.Tuple [a,b] k2 pt2) X.env=pure (some [x,y]):=by rfl)
    (hs:swapsWithSole [.Tuple [.Name x px,.Name y py] kt pt] (.Tuple [a,b] k2 pt2) pos.line X.env=pure false:=by rfl) :
    LS X (.Assign [.Tuple [.Name x px,.Name y py] kt pt] (.Tuple [a,b] k2 pt2) pos) (ka i j At):=by
  obtain ⟨ta,pa,sa⟩:=ha.ex
  refine ⟨_,u3 hc hN hi hj hij hx hy pa hw hs,fun σ H ρ μ E E' rl h k=>sa σ H ρ μ _ _ rl h fun vs H' ds μ' t' m' p' h'=>?_⟩
  unfold L3.k2 at h'
  split at h'
  · rename_i dv dw
    cases p' with | cons p1 p2=>cases p2 with | cons p2 p3=>
    cases p3
    exact ⟨_,_,rfl,k.nx _ _ _ _ t' (((rl.go t' m').set p1 i).set p2 j) h'⟩
  · exact False.elim h'
theorem fA {Tk':ETr}{tpos:Pos}(ho:LE X o Ta)(hi:LE X b Tk')(he:LE X e Tb)
    (ha:∀ v,assign (.Subscript o b tpos) X.env v=(do
      let ov ← holding [v] (eval o X.env)
      let iv ← holding [v,ov] (eval b X.env)
      standAt tpos
      holding [v,ov,iv] (setItem ov iv v)
      release [v,ov,iv] []):=by intro _;rfl)
    (hs:swapsWithSole [.Subscript o b tpos] e pos.line X.env=pure false:=by rfl) (hw:swappedStores [.Subscript o b tpos] e X.env=pure none:=by rfl)
    (h1:(assignEach [.Subscript o b tpos] X.env).map (·.2)=[assign (.Subscript o b tpos) X.env]:=by rfl):LS X (.Assign [.Subscript o b tpos] e pos) (di Ta Tk' Tb):=by
  obtain ⟨to,po,so⟩:=ho.ex
  obtain ⟨ti,pi,si⟩:=hi.ex
  obtain ⟨te,pe,se⟩:=he.ex
  refine ⟨_,vJ pe (vd po pi set_list ha) hs hw h1,fun σ H ρ μ E E' rl h k=>se σ H ρ μ _ _ rl h fun y H1 dy μ1 t1 m1 p1 h1=>so σ H1 ρ μ1 _ _ (rl.go t1 m1) h1 fun ov H2 dov μ2 t2 m2 p2 h2=>
    si σ H2 ρ μ2 _ _ (rl.go (t1.trans t2) m2) h2 fun iv H3 div μ3 t3 m3 p3 h3=>?_⟩
  cases p2 with
  | obj q=>
    cases p3 with
    | int n=>
      obtain ⟨ds,e0,h3'⟩:=eh h3
      obtain ⟨j,e1,h4⟩:=qW h3'
      obtain ⟨xs,ex,l⟩:=m3 q _ e0
      refine ⟨q,xs,n,j,rfl,rfl,ex,by rw[l.length];exact e1,?_⟩
      have t4:Tk H3 (L2.upd H3 q (.lst (xs.set j y))):=.upd (fun ys z=>by rw[ex] at z;cases z) fun o' u z=>by rw[ex] at z;cases z
      have t14:=t1.trans (t2.trans (t3.trans t4))
      refine k.nx _ _ ρ _ t14 (rl.go t14 (fun a' o' e'=>?_)) h4
      by_cases haq:a'=q
      · subst haq
        rw[aC] at e';cases e'
        exact ⟨_,az,(l.set (p1.mono (t2.trans t3)) j).mono t4⟩
      · rw[bx haq] at e'
        exact (m3 a' _ e').ne t4 haq
    | _=>exact False.elim h3
  | _=>cases p3<;>exact False.elim h3
theorem jU {body:List Stmt}(hp:PassesOwn (model X.prog X.w) X.A X.env X.xe)(hc:LT X c tA)(hb:LSs X body T1):LS X (.While c body [] pos) (k5 tA T1):=by
  obtain ⟨tc,pc,sc⟩:=hc.ex
  obtain ⟨t1,p1,s1⟩:=hb.ex
  refine ⟨_,o7 hp pc p1,fun σ H ρ μ E E' rl h k=>?_⟩
  obtain ⟨P,m,h0,hs⟩:=h
  refine ⟨fun n σ' H'=>∃ ρ' μ',Tk H H'∧Rl X.K σ' H' ρ' μ'∧P ρ' μ'∧n=m ρ' μ',⟨_,ρ,μ,.refl H,rl,h0,rfl⟩,?_⟩
  rintro n σ1 H1 ⟨ρ1,μ1,t1',rl1,hP,rfl⟩
  refine sc σ1 H1 ρ1 μ1 _ _ rl1 (hs ρ1 μ1 hP) fun q H2 μ2 t2 m2 h2=>?_
  have t12:=t1'.trans t2
  cases q with
  | true=>
    refine jV ⟨fun σ' H'=>∃ ρ' μ',Tk H H'∧Rl X.K σ' H' ρ' μ'∧P ρ' μ'∧m ρ' μ' < m ρ1 μ1,fun σ' H' ⟨ρ',μ',a1,a2,a3,a4⟩=>⟨_,a4,ρ',μ',a1,a2,a3,rfl⟩,?_⟩
    have h2':=h2
    refine s1 σ1 H2 ρ1 μ2 _ _ (rl1.go t2 m2) h2' ⟨fun σ' H' ρ' μ' t' r' q=>⟨ρ',μ',t12.trans t',r',q.1,q.2⟩,(k.go t12).rt,(k.go t12).nx,fun σ' H' ρ' μ' t' r' q=>⟨ρ',μ',t12.trans t',r',q.1,q.2⟩⟩
  | false=>exact jr (k.nx _ _ _ _ t12 (rl1.go t2 m2) h2)
end
def lift (K:PySem.W.Frag)(sp:FSp):Sp:=fun vs H Q _=>∃ ds μ QQ,DpL K H vs ds∧aZ K H μ∧sp ds μ QQ∧cT K H QQ Q
def RT (Q:DK):DK:=fun d μ'=>∃ μ,Sub μ μ'∧Q d μ
def ini (n:Nat)(ds:List D):ST:=ds.map some++List.replicate (n - ds.length) none
theorem xa:∀ (ds:List D) (n i:Nat) (d:D),lk (ini n ds) i=some d→ds[i]? = some d:=by
  intro ds
  have rep:∀ m i (d:D),lk (List.replicate m none) i=some d→False:=by
    intro m
    induction m with
    | zero=>intro i d h;cases i<;>cases h
    | succ m ih=>intro i d h;cases i with
      | zero=>cases h
      | succ i=>exact ih i d h
  have gen:∀ (ds:List D) m i d,lk (ds.map some++List.replicate m none) i=some d→ds[i]? = some d:=by
    intro ds
    induction ds with
    | nil=>intro m i d h;exact (rep m i d h).elim
    | cons x r ih=>intro m i d h;cases i with
      | zero=>simpa[lk] using h
      | succ i=>simpa using ih m i d h
  exact fun n i d h=>gen ds _ i d h
section
variable {P:Program} {w:World} {K:PySem.W.Frag} {mg:Str→Option Value} {base:Heap}
theorem ug {x qual:Str}{st:Stmt}{f:Addr}{fd:FuncData}{N ps:List Str}{k:Nat}{sp:FSp}{T:STr}(F:Fun K x qual st f fd)(S:aB N ps (aq st))(len:∀ ds μ Q,sp ds μ Q→ds.length=ps.length)
    (hb:∀ (cdv:Value) (A:Around) (outer:List Env) (s:Shared) (H:Hp) (E:XK),bB k (A.deeper (envOfC qual (aq st) s.heap.objs.size f cdv))→
      LSs (jD CX0 P w K mg base N qual (aq st) f cdv A outer s H E).nox (bP st) T)
    (hr:∀ ds μ Q,sp ds μ Q→T { nx:=fun _ μ'=>RT Q .non μ',rt:=RT Q } (ini N.length ds) μ):dj P w K mg base CX0 (k+1) f fd ps (lift K sp):=by
  refine F.ok S (fun vs H Q E h=>?_) (fun cdv A outer s H vs Q E hroom h=>?_)
  · obtain ⟨ds,μ,QQ,l,m,h1,k⟩:=h
    rw[l.length];exact len ds μ QQ h1
  · obtain ⟨ds,μ,QQ,l,m,h1,k⟩:=h
    obtain ⟨t,pt,stt⟩:=(hb cdv A outer s H E hroom).ex
    have hl:vs.length=ds.length:=l.length
    refine ⟨t,pt,stt (L2.start N vs) H (ini N.length ds) μ _ _ ⟨?_,fun i d e=>?_,m⟩ (hr ds μ QQ h1) ⟨fun σ' H' ρ' μ' t' r' q=>?_,fun v H' d μ' t' m' p' q=>?_,fun _ _ _ _ _ _ q=>q,fun _ _ _ _ _ _ q=>q⟩⟩
    · unfold ini L2.start;simp[hl]
    · have e':=xa ds _ i d e
      obtain ⟨v,e1,p⟩:=l.get e'
      refine ⟨v,?_,p⟩
      unfold L2.start
      have hi:i < vs.length:=(List.getElem?_eq_some_iff.mp e1).1
      rw[List.getElem?_append_left (by simpa using hi),List.getElem?_map,e1]
      rfl
    · obtain ⟨μ2,s2,q2⟩:=q
      exact k _ _ _ μ2 t' (r'.mu.sub s2) .non q2
    · obtain ⟨μ2,s2,q2⟩:=q
      exact k _ _ _ μ2 t' (m'.sub s2) p' q2
end
section
variable {X:Cx} {k:Nat} {f:Addr} {fd:FuncData} {ps:List Str} {sp:FSp} {x:Str} {p pos:Pos} {e:Expr} {es:List Expr} {At:ATr}
theorem rG (F:dj X.prog X.w X.K X.mg X.base CX0 k f fd ps (lift X.K sp))(hr:bB k X.A)(hg:Gl X x)(hm:X.mg x=some (.ref f))(hk:PySem.W.keepIn X.K (.ref f)=true)(hb:Binds X.K fd ps [])
    (ha:LA X (e::es) At) (hdb:(x == ("__debug__" : Str))=false:=by decide) (he:starEach (e::es) X.env=(false,eval e X.env)::starEach es X.env:=by rfl) (hpl:(backTo pos (starEach es X.env)).any (·.1)=false:=by rfl) :
    LE X (.Call (.Name x p) (e::es) [] pos) (ao sp At):=by
  obtain ⟨ta,pa,sa⟩:=ha.ex
  refine ⟨_,tu F hr hg hm hk hb .nil yU pa hdb he hpl,fun σ H ρ μ Q Q' rl h k=>sa σ H ρ μ _ _ rl h fun xs H1 ds μ1 t1 m1 p1 h1=>?_⟩
  rw[List.append_nil]
  exact ⟨ds,μ1,Q,p1,m1,h1,k.go t1⟩
end
end
section
open PySem PySem.Spec PyProof.Rows L2
theorem DpL.ints {K:PySem.W.Frag}{H:Hp}:∀ ns:List Int,DpL K H (ns.map V.int) (ns.map D.int)
  | []=>.nil
  | n::r=>.cons (.int n) (DpL.ints r)
theorem SqF.only {K:PySem.W.Frag}{H:Hp}{a:Addr}{xs:List V}(hO:rK H)(h:SqL K H a xs):SqF K H a xs:=by
  rcases h with (h | h) | h
  · rcases hO a with z | ⟨o,ys,z⟩
    · rw[h] at z;cases z
    · rw[h] at z;cases z
  · exact .inl h
  · exact .inr h
theorem yk {l:PySem.W.OpenLaw}{k:Nat}{q:Program}{loose:List Str}{XP:(Str→Option Value)→Heap→Prop}{YP:World→Heap→Prop}{d:DefRec}{K:Params→PySem.W.Frag}{sp:FSp}{x:Str}
    (hn:l.most=some 63) (hdf:d.params.defaults=[]) (hr:bB k callerA) (hY:∀ (w:World) (h:Heap),YP w h→(K w.params).In h)
    (hl:∀ ns:List Int,ns.length≤63→∀ μ,sp [.ls (ns.map .int)] μ (fun d _=>d=.bl true))
    (F:∀ (w:World) (mg:Str→Option Value) (fa:Addr) (h:Heap),(K w.params).In h→h.Ns mainGlobals mg→mg d.name=some (.ref fa)→
      ∃ fd:FuncData,(∀ (s:Shared) (u:Value),BindsTo s fd ⟨[u],[]⟩ [(x,u)])∧∀ base:Heap,(K w.params).In base→base.Ns mainGlobals mg→dj l.prog w (K w.params) mg base CX0 k fa fd [x] (lift (K w.params) sp)) :
    PySem.W.WalkO q loose XP YP l.row.toRowW d [] (fun f vs=>PySem.call f vs):=
  L2.tS (n:=63) (k:=k) (x:=x) (CX:=fun _=>CX0) (sp:=fun w=>lift (K w.params) sp) hn (by decide) hdf hr hY F
    (fun w H a ns hl' hO hS=>⟨[.ls (ns.map .int)],fun _=>none,_,.cons (.ls (.only hO hS) (.ints ns)) .nil,(fun a o e=>by cases e),hl ns hl' _,fun v H' d μ' _ _ p e=>by
      have e':d=.bl true:=e
      subst e'
      cases p;rfl⟩) fun _ _ _ _ _ z=>z
end
section
open PySem PySem.Spec PyProof.Rows L2
structure aV (P:Program) (w:World) (K:PySem.W.Frag) (mg:Str→Option Value) (base:Heap) (k:Nat) (x:Str) (ps:List Str) (sp:FSp):Prop where
  ex:∃ f fd,dj P w K mg base CX0 k f fd ps (lift K sp)∧mg x=some (.ref f)∧PySem.W.keepIn K (.ref f)=true∧Binds K fd ps []
section
variable {P:Program} {w:World} {K:PySem.W.Frag} {mg:Str→Option Value} {base:Heap}
theorem aP {x qual:Str}{st:Stmt}{f:Addr}{fd:FuncData}{N ps:List Str}{k:Nat}{sp:FSp}{T:STr}(m:mg x=some (.ref f))(F:Fun K x qual st f fd)(S:aB N ps (aq st))(len:∀ ds μ Q,sp ds μ Q→ds.length=ps.length)
    (hr:∀ ds μ Q,sp ds μ Q→T { nx:=fun _ μ'=>RT Q .non μ',rt:=RT Q } (ini N.length ds) μ)
    (b:∀ (kV doc pm:Value) (an:Option Addr) (cdv ct:Value) (us:List Value),us.length=ps.length→bindArgs (PySem.W.fnOf x qual (dA st) (bP st) (aq st) .none kV doc pm an cdv ct) ⟨us,[]⟩=pure (ps.zip us))
    (hb:∀ (cdv:Value) (A:Around) (outer:List Env) (s:Shared) (H:Hp) (E:XK),bB k (A.deeper (envOfC qual (aq st) s.heap.objs.size f cdv))→(A.deeper (envOfC qual (aq st) s.heap.objs.size f cdv)).units+64 < cLine→
      LSs (jD CX0 P w K mg base N qual (aq st) f cdv A outer s H E).nox (bP st) T):aV P w K mg base (k+1) x ps sp:=
  ⟨f,fd,ug F S len (fun cdv A outer s H E h=>hb cdv A outer s H E h h.units) hr,m,F.kp,F.binds b⟩
end
theorem ar {X:Cx}{k n:Nat}{x:Str}{ps:List Str}{sp:FSp}{e:Expr}{es:List Expr}{At:ATr}{p pos:Pos}(C:aV X.prog X.w X.K X.mg X.base k x ps sp)(hr:bB n X.A)(hg:Gl X x)
    (ha:LA X (e::es) At) (hle:k≤n:=by decide) (hdb:(x == ("__debug__" : Str))=false:=by decide) (he:starEach (e::es) X.env=(false,eval e X.env)::starEach es X.env:=by rfl) (hpl:(backTo pos (starEach es X.env)).any (·.1)=false:=by rfl) :
    LE X (.Call (.Name x p) (e::es) [] pos) (ao sp At):=by
  obtain ⟨f,fd,F,m,kp,b⟩:=C.ex
  exact rG F (hr.mono hle) hg m kp b ha hdb he hpl
end
section
open PySem PySem.Spec PyProof.Rows L2
def bA (X:Cx)(scope:Scope)(Nc:List Str)(cl:List (Str×Addr))(C:Addr)(s₀:Shared)(H₀:Hp)(ex:List Addr):Cx:=
  { X with env:=compEnvC scope cl C X.env,N:=Nc,s₀:=s₀,H₀:=H₀,outer:=X.stack,ex:=ex,fn:=fun _=>false,pn:=[] }
theorem ma {scope:Scope}{env:Env}(h:∀ y∈scope.names,y.2=.free→∃ c,env.cells.lookup y.1=some c) :
    ∃ cl,closureFor scope env=pure cl∧(∀ x c,cl.lookup x=some c→env.cells.lookup x=some c)∧∀ y∈scope.names,y.2=.free→∃ c,cl.lookup y.1=some c:=by
  have gen:∀ (ns:List (Str×NameKind)) (cs:List (Str×Addr)),(∀ y∈ns,y.2=.free→∃ c,env.cells.lookup y.1=some c)→(∀ x c,cs.lookup x=some c→env.cells.lookup x=some c)→
      ∃ cl,(forIn ns cs fun x r=>if (x.2 == NameKind.free)=true then do let c ← cellOf env x.1;pure (ForInStep.yield ((x.1,c)::r)) else pure (ForInStep.yield r):Sem _)=pure cl∧(∀ x c,cl.lookup x=some c→env.cells.lookup x=some c)∧
        (∀ x,(cs.lookup x).isSome=true→(cl.lookup x).isSome=true)∧∀ y∈ns,y.2=.free→∃ c,cl.lookup y.1=some c:=by
    intro ns
    induction ns with
    | nil=>intro cs _ h2;exact ⟨cs,rfl,h2,fun _ z=>z,fun _ z=>nomatch z⟩
    | cons y r ih=>
      intro cs h1 h2
      obtain ⟨n,k⟩:=y
      by_cases hk:k=.free
      · subst hk
        obtain ⟨c,hc⟩:=h1 (n,.free) List.mem_cons_self rfl
        have h2':∀ x c',((n,c)::cs).lookup x=some c'→env.cells.lookup x=some c':=fun x c' e=>by
          rw[List.lookup_cons] at e
          split at e
          · rename_i hx
            cases e
            have:x=n:=by simpa using hx
            subst this;exact hc
          · exact h2 x c' e
        obtain ⟨cl,e1,e2,e3,e4⟩:=ih ((n,c)::cs) (fun y hy=>h1 y (List.mem_cons_of_mem _ hy)) h2'
        refine ⟨cl,?_,e2,fun x hx=>e3 x ?_,fun y hy hf=>?_⟩
        · rw[List.forIn_cons]
          have:cellOf env n=pure c:=by unfold cellOf;rw[hc]
          simp only[beq_self_eq_true,if_true,this,pure_bind]
          exact e1
        · rw[List.lookup_cons];split
          · rfl
          · exact hx
        · obtain rfl | hy:=List.mem_cons.mp hy
          · have:(cl.lookup n).isSome=true:=e3 n (by simp[List.lookup_cons])
            exact Option.isSome_iff_exists.mp this
          · exact e4 y hy hf
      · obtain ⟨cl,e1,e2,e3,e4⟩:=ih cs (fun y hy=>h1 y (List.mem_cons_of_mem _ hy)) h2
        refine ⟨cl,?_,e2,e3,fun y hy hf=>?_⟩
        · rw[List.forIn_cons]
          have:(k == NameKind.free)=false:=by simpa using hk
          simp only[this,Bool.false_eq_true,if_false,pure_bind]
          exact e1
        · obtain rfl | hy:=List.mem_cons.mp hy
          · exact absurd hf hk
          · exact e4 y hy hf
  obtain ⟨cl,e1,e2,_,e4⟩:=gen scope.names [] h fun x c e=>by cases e
  refine ⟨cl,?_,e2,e4⟩
  show ((forIn scope.names ([]:List (Str×Addr)) fun x r=>if (x.2 == NameKind.free)=true then do let c ← cellOf env x.1;pure (ForInStep.yield ((x.1,c)::r)) else pure (ForInStep.yield r):Sem _) >>= fun s=>pure s)=pure cl
  rw[e1]
  rfl
def vE (Y:Cx)(ifs:List Expr)(t:TT):Prop:=
  ∀ (pins:List (Addr×Obj)) (s:Shared) (σ:L2.St) (H:Hp) (Q:Bool→Hp→Prop),Inv Y pins σ H s→t σ H Q→
    wpAny (model Y.prog Y.w) Y.A (forIn ifs true fun c r=>if r=true then do let ok ← isTrue c Y.env (eval c Y.env);pure (ForInStep.yield ok) else pure (ForInStep.yield r)) (TP Y pins σ Q) Y.xe s
def zD:TT:=fun _ H Q=>Q true H
theorem sQ {Y:Cx}:vE Y [] zD:=fun pins s σ H Q I h=>wpAny_tests_nil ⟨H,I,h⟩
def ey (σ:L2.St)(n:Nat)(caps:List Nat):L2.St:=List.replicate n none++caps.map fun i=>(σ[i]?).join
def Wk (σ' σ:L2.St):Prop:=σ'.length=σ.length∧∀ (i:Nat) v,σ'[i]? = some (some v)→σ[i]? = some (some v)
def x9 (wi:TI)(g:TG)(tt:TT)(te:TE)(n:Nat)(caps:List Nat):TE:=fun σ H Q=>wi σ H fun J H1=>∀ D,H1 D=none→
  ∃ W:Nat→Nat→List V→Hp→Prop,(∃ m,W 0 m [] (L2.upd H1 D (.lst [])))∧∀ i m ys H2,W i m ys H2→
    (J.stop i H2∧Q (.ref D) H2)∨(J.go i H2∧∃ N:List V→Hp→Prop,(∀ ys' H',N ys' H'→∃ m',m' < m∧W (i+1) m' ys' H')∧
      ∀ x H3,J.yld i H2 x H3→g x (ey σ n caps) H3 fun σ4 H4=>Wk (ey σ n caps) σ4∧tt σ4 H4 fun b H5=>if b=true then te σ4 H5 fun y H6=>∃ zs,H6 D=some (.lst zs)∧zs.length < sizeLine∧N (zs++[y]) (L2.upd H6 D (.lst (zs++[y]))) else N ys H5)
theorem nF {prog:Program}{w:World}{A:Around}{R:Result→Shared→Prop}{s:Shared}{elt target iter:Expr}{ifs:List Expr}{scope:Scope}{pos:Pos}{it acc:Value}{env:Env}(J:Nat→Shared→Prop)
    (turn:∀ n s,J n s→wpAny (model prog w) A (pyNext it) (fun o t₁=>match o with
      | none=>R (.ok .next) t₁
      | some v=>wpAny (model prog w) A (letOwnedTupleGo target it v) (fun _ t₁=>wpAny (model prog w) A (assign target env v) (fun _ t₂=>
          wpAny (model prog w) A (forIn ifs true fun c r=>
            if r=true then do let ok ← isTrue c env (eval c env);pure (ForInStep.yield ok) else pure (ForInStep.yield r)) (fun ok t₃=>
            if ok=true then wpAny (model prog w) A (eval elt env) (fun x t₄=>
              wpAny (model prog w) A (call (.builtin "list.append") [acc,x]) (fun _ t₅=>∃ m,m < n∧J m t₅) (fun _ _=>False) t₄) (fun _ _=>False) t₃
            else ∃ m,m < n∧J m t₃) (fun _ _=>False) t₂) (fun _ _=>False) t₁) (fun _ _=>False) t₁) (fun _ _=>False) s)
    (n:Nat) (h:J n s):codeAny (model prog w) A (.compLoop (.ListComp elt [⟨target,iter,ifs,0⟩] scope pos) 0 it acc env) R s:=by
  refine codeAny_loop rfl J (fun n s hJ=>?_) n h
  show wpAny _ A ((compTurn (.ListComp elt [⟨target,iter,ifs,0⟩] scope pos) 0 it acc env).onRaise
    (fun x=>do noteFrame x env;theTreesLotGoes x)) _ _ s
  refine wpAny_noted ?_
  rw[compTurn_list]
  refine wpAny_bind (wpAny_standAt (wpAny_bind (wpAny_mono (turn n s hJ) (fun r t₁ g₁=>?_) fun _ _ h'=>h'.elim)))
  cases r with
  | none=>exact wpAny_pure g₁
  | some v=>
    refine wpAny_bind (wpAny_mono g₁ (fun _ t₁' g₁'=>?_) fun _ _ h'=>h'.elim)
    refine wpAny_bind (wpAny_mono g₁' (fun _ t₂ g₂=>wpAny_bind (wpAny_mono g₂ (fun ok t₃ g₃=>?_) fun _ _ h'=>h'.elim)) fun _ _ h'=>h'.elim)
    cases ok with
    | false=>exact wpAny_pure ⟨rfl,g₃⟩
    | true=>
      exact wpAny_bind (wpAny_bind (wpAny_mono g₃ (fun x t₄ g₄=>wpAny_bind (wpAny_mono g₄ (fun _ t₅ g₅=>wpAny_pure (wpAny_pure ⟨rfl,g₅⟩)) fun _ _ h'=>h'.elim)) fun _ _ h'=>h'.elim))
theorem js {σ:L2.St}{n:Nat}{caps:List Nat}{i:Nat}{v:V}(h:(ey σ n caps)[i]? = some (some v)):∃ j k,i=n+j∧caps[j]? = some k∧σ[k]? = some (some v):=by
  unfold ey at h
  by_cases hi:i < n
  · rw[List.getElem?_append_left (by simpa using hi),List.getElem?_replicate,if_pos hi] at h
    cases h
  · rw[List.getElem?_append_right (by simpa using hi)] at h
    rw[List.length_replicate,List.getElem?_map] at h
    cases e:caps[i - n]? with
    | none=>rw[e] at h;cases h
    | some k=>
      rw[e] at h
      have h':(σ[k]?).join=some v:=Option.some.inj h
      cases e2:σ[k]? with
      | none=>rw[e2] at h';cases h'
      | some o=>
        rw[e2] at h'
        have h'':o=some v:=h'
        subst h''
        exact ⟨i - n,k,by omega,e,e2⟩
theorem bD {env:Env}(hk:env.scope.kind=.function):∀ {names:List (Str×NameKind)} {x:Str},env.kindOf x=some .cell→names.lookup x=some .free→
    (names.map fun (n,k)=>if (k == NameKind.free&&env.scope.kind == .function&&env.kindOf n == some .cell) then (n,NameKind.cell) else (n,k)).lookup x=some .cell
  | [],_,_,h=>by simp at h
  | (n,k)::r,x,hc,h=>by
    have ih:=@bD env hk r x hc
    show List.lookup x ((if (k == NameKind.free&&env.scope.kind == .function&&env.kindOf n == some .cell)=true
      then (n,NameKind.cell) else (n,k))::_)=_
    cases hx:x == n with
    | true=>
      simp only[hx,List.lookup_cons] at h
      cases h
      have e:x=n:=by simpa using hx
      subst e
      simp[List.lookup_cons,hk,hc]
    | false=>
      simp only[hx,List.lookup_cons] at h
      by_cases hcc:(k == NameKind.free&&env.scope.kind == .function&&env.kindOf n == some .cell)=true
      · rw[if_pos hcc];simp only[List.lookup_cons,hx];exact ih h
      · rw[if_neg hcc];simp only[List.lookup_cons,hx];exact ih h
theorem eL {env:Env}:∀ {names:List (Str×NameKind)} {x:Str} {k':NameKind},(∀ y∈names,y.2≠.cell)→(k'=.cell∨k'=.free)→
    (x,k')∈(names.map fun (n,k)=>if (k == NameKind.free&&env.scope.kind == .function&&env.kindOf n == some .cell) then (n,NameKind.cell) else (n,k))→(x,NameKind.free)∈names:=by
  intro names x k' hn hk h
  obtain ⟨⟨n,k⟩,hm,e⟩:=List.mem_map.mp h
  dsimp only at e
  split at e
  · rename_i hc
    cases e
    have:k=.free:=by simp at hc;exact hc.1.1
    subst this;exact hm
  · cases e
    rcases hk with rfl | rfl
    · exact absurd rfl (hn _ hm)
    · exact hm
theorem rL {X:Cx}{tg iter elt:Expr}{ifs:List Expr}{scope:Scope}{pos:Pos}{wi:TI}{g:TG}{tt:TT}{te:TE}{Nc:List Str}{n:Nat}{caps:List Nat}
    (hxe:X.xe=fun _ _=>False) (hcalm:X.calm=true) (hi:PI X tg iter wi)
    (hbody:∀ (cl:List (Str×Addr)) (C:Addr) (s₀:Shared) (H₀:Hp) (ex:List Addr),PG (bA X scope Nc cl C s₀ H₀ ex) tg g∧vE (bA X scope Nc cl C s₀ H₀ ex) ifs tt∧PE (bA X scope Nc cl C s₀ H₀ ex) elt te)
    (hfree:∀ y∈scope.names,y.2=.free→X.env.kindOf y.1=some .cell) (hcell:∀ y∈scope.names,y.2≠.cell) (fL:scope.kind=.function)
    (hnames:∀ y∈scope.names,y.2=.local→scope.names.lookup y.1=some .local) (hlen:Nc.length=n+caps.length)
    (hcap:∀ (j k:Nat),caps[j]? = some k→∃ x,Nc[n+j]? = some x∧X.N[k]? = some x∧scope.names.lookup x=some .free)
    (hs:∀ x,foldedSetIterable iter X.env x=pure x:=by intro _;rfl) :
    PE X (.ListComp elt [⟨tg,iter,ifs,0⟩] scope pos) (x9 wi g tt te n caps):=by
  intro pins s σ H Q I h
  rw[hxe]
  obtain ⟨cl,hclos,clin,clfree⟩:=ma (scope:=scope) (env:=X.env) fun y hy hf=>I.ok.has y.1 (.inl (hfree y hy hf))
  rw[eval_ListComp]
  refine wpAny_comprehension_free (use:=none) rfl hs hclos fL hnames ?_
  have hi':=hi pins s σ H _ I h
  rw[hxe] at hi'
  refine wpAny_mono hi' (fun xv s1 h1=>wpAny_mono h1 (fun itv s2 h2=>?_) fun _ _ z=>z) fun _ _ z=>z
  obtain ⟨it,fp,tn,J,H1,rfl,I2,T,st2,f2,hh⟩:=h2
  -- the new list
  refine wpAny_newObj_type ?_
  have hD:H1 s2.heap.objs.size=none:=I2.hok.fresh (Nat.le_refl _)
  obtain ⟨W,⟨m0,w0⟩,turn⟩:=hh _ hD
  have I3:Inv X pins σ (L2.upd H1 s2.heap.objs.size (.lst [])) { s2 with heap:=s2.heap.push { cls:=.type "list", dict:=none,data:=.seq ([]:List Value).toArray } }:=
    I2.laid (t':=s2.toks) (fun b u e=>Heap.get?_push_of_some _ e) (Nat.le_refl _) ⟨Nat.zero_le _,[],0,.nil,Heap.get?_push_size _ rfl⟩
  have k3:∀ b u,s2.heap.get? b=some u→(s2.heap.push { cls:=.type "list", dict:=none,data:=.seq ([]:List Value).toArray }).get? b=some u:=fun b u e=>Heap.get?_push_of_some _ e
  have fne:∀ b∈fp,b≠s2.heap.objs.size:=fun b hb=>by
    obtain ⟨o,ho,_⟩:=T.obj 0 _ st2 b hb
    exact Nat.ne_of_lt (Heap.lt_size ho)
  generalize eD:s2.heap.objs.size=D at *
  generalize eh3:s2.heap.push { cls:=.type "list", dict:=none,data:=.seq ([]:List Value).toArray }=h3 at *
  generalize eH3:L2.upd H1 D (.lst [])=H3 at *
  have st3:tn 0 h3:=T.keep 0 _ _ st2 fun b hb o e=>k3 b o e
  have f3:∀ b∈fp,kr X pins H3 b:=fun b hb=>⟨by rw[← eH3,au (fne b hb)];exact (f2 b hb).1,(f2 b hb).2⟩
  have lt3:∀ b∈fp,b < h3.objs.size:=fun b hb=>by
    obtain ⟨o,ho,_⟩:=T.obj 0 _ st3 b hb
    exact Heap.lt_size ho
  generalize es3:({ s2 with heap:=h3 }:Shared)=s3 at *
  have hs3:s3.heap=h3:=by rw[← es3]
  refine wpAny_newFunctionEnv hcell (fun y hy=>(by cases hy)) (fun h4 hns hsb=>?_) fL
  show codeAny _ _ (.compStart _ 0 (.ref it) (.ref D) (compEnvC scope cl s3.heap.objs.size X.env)) (compPost _ _ _ none _ (.ref D) s3.heap.objs.size) _
  have k4:∀ b u,s3.heap.get? b=some u→h4.get? b=some u:=fun b u e=>hsb.extBut b u (Nat.ne_of_lt (Heap.lt_size e)) (Heap.get?_push_of_some _ e)
  have okY:(bA X scope Nc cl s3.heap.objs.size s3 H3 fp).Ok:=by
    refine ⟨I3.ok.mod,fL,I3.ok.glob,I3.ok.blt,Nat.le_refl _,fun x y c e1 e2=>I3.ok.inj x y c (clin _ _ e1) (clin _ _ e2),fun x hx=>?_,fun x c hf=>(by cases hf),I3.ok.hd,I3.ok.frames,.inl rfl,fun b hb=>⟨?_,fun x c e z=>?_⟩,I3.bs,Nat.le_trans I3.ok.bsz I3.sz,fun b o e hb=>?_,fun b hb hz=>?_,I3.stack,I3.mZ⟩
    · have hx':(relabel scope X.env).names.lookup x=some .cell∨(relabel scope X.env).names.lookup x=some .free:=hx
      have hm:(x,NameKind.free)∈scope.names:=by
        rcases hx' with q | q
        · exact eL hcell (.inl rfl) (PySem.mem_of_lookup q)
        · exact eL hcell (.inr rfl) (PySem.mem_of_lookup q)
      exact clfree _ hm rfl
    · show b≠s3.heap.objs.size
      rw[hs3];exact Nat.ne_of_lt (lt3 b hb)
    · exact (f3 b hb).2.2.2.2.1 x c (clin _ _ e) z
    · rcases (f3 b hb).2.2.2.1 with z | z
      · exact I3.ok.ql b o e z
      · exact absurd (Nat.lt_of_lt_of_le (Heap.lt_size e) (Nat.le_trans I3.ok.bsz z)) (Nat.lt_irrefl _)
    · rcases List.mem_cons.mp (I3.kA b hz) with z | z
      · exact (f3 b hb).2.1 z
      · exact (f3 b hb).2.2.1 z
  have xr:∀ c v,s3.heap.IsCell c v→h4.IsCell c v:=fun c v ⟨o,ho,hd⟩=>⟨o,k4 c o ho,hd⟩
  have J0:Inv (bA X scope Nc cl s3.heap.objs.size s3 H3 fp) [] (ey σ n caps) H3 { s3 with heap:=h4,toks:=s3.toks+([]:List (Str×Value)).length }:=by
    refine ⟨okY,rfl,I3.bare,Un.kept k4,⟨_,hns,fun i x v e1 e2 e3=>?_⟩,fun x c e=>?_,I3.hok.fresh (Nat.le_refl _),fun x c e=>I3.cL x c (clin _ _ e),(fun p hp=>(by cases hp)),I3.hok.kept k4,?_⟩
    · obtain ⟨j,k,rfl,ej,ek⟩:=js e2
      obtain ⟨x',n1,n2,n3⟩:=hcap j k ej
      have e1':Nc[n+j]? = some x:=e1
      rw[n1] at e1';cases e1'
      have hmem:(x,NameKind.free)∈scope.names:=PySem.mem_of_lookup n3
      have hcellx:X.env.kindOf x=some .cell:=hfree _ hmem rfl
      obtain ⟨m,hn,hl⟩:=I3.loc
      obtain ⟨u,ru,lk⟩:=hl k x v n2 ek (.inr (.inl hcellx))
      refine ⟨u,ru,.inr ⟨.inl (bD I3.ok.kind hcellx n3),?_⟩⟩
      rcases lk with ⟨q,_⟩ | ⟨_,c,ec,ic⟩
      · rw[hcellx] at q;cases q
      · obtain ⟨c',ec'⟩:=clfree _ hmem rfl
        have:=clin _ _ ec'
        rw[ec] at this;cases this
        exact ⟨c,ec',xr _ _ ic⟩
    · obtain ⟨v,q⟩:=I3.cell x c (clin _ _ e)
      exact ⟨v,xr _ _ q⟩
    · unfold ey
      show _=Nc.length
      rw[List.length_append,List.length_replicate,List.length_map,hlen]
  obtain ⟨pg,pifs,pelt⟩:=hbody cl s3.heap.objs.size s3 H3 fp
  generalize eY:bA X scope Nc cl s3.heap.objs.size s3 H3 fp=Y at *
  have yP:Y.prog=X.prog:=by rw[← eY];rfl
  have yw:Y.w=X.w:=by rw[← eY];rfl
  have yK:Y.K=X.K:=by rw[← eY];rfl
  have yA:Y.A=X.A:=by rw[← eY];rfl
  have yx:Y.xe=fun _ _=>False:=by rw[← eY];exact hxe
  have yc:Y.calm=true:=by rw[← eY];exact hcalm
  have ye:Y.env=compEnvC scope cl s3.heap.objs.size X.env:=by rw[← eY];rfl
  have yfs:Y.fs=frs X.stack:=by rw[← eY];rfl
  have yex:Y.ex=fp:=by rw[← eY];rfl
  have ys0:Y.s₀=s3:=by rw[← eY];rfl
  have yH0:Y.H₀=H3:=by rw[← eY];rfl
  have ypn:Y.pn=[]:=by rw[← eY];rfl
  have lY:∀ {H':Hp},(∀ b∈fp,H' b=none)→∀ b∈fp,kr Y [] H' b:=fun hn b hb=>⟨hn b hb,by rw[ye];show b≠s3.heap.objs.size;rw[hs3];exact Nat.ne_of_lt (lt3 b hb),okY.oK b (by rw[yex];exact hb),.inl (by rw[yex];exact hb),
    fun x c e=>by rw[ye] at e;exact (f3 b hb).2.2.2.2.1 x c (clin _ _ e),fun p hp=>by rw[ypn] at hp;exact nomatch hp⟩
  have tn4:∀ t,tn 0 ({ s3 with heap:=h4,toks:=t }:Shared).heap:=fun t=>T.keep 0 _ _ st3 fun b hb o e=>k4 b o (by rw[hs3];exact e)
  -- the end
  have fin:∀ (s5:Shared) (H5:Hp),Inv Y [] (ey σ n caps) H5 s5→Q (.ref D) H5→compPost (model X.prog X.w) X.A (fun _ _=>False) none (EP X pins σ Q) (.ref D) s3.heap.objs.size (.ok .next) s5:=fun s5 H5 I5 q5=>by
    obtain ⟨m,hn,_⟩:=I5.loc
    rw[ye] at hn
    refine ⟨m,hn,fun h6 hs6=>⟨.ref D,H5,?_,rfl,q5⟩⟩
    have nC:∀ b o,s3.heap.get? b=some o→b≠s3.heap.objs.size:=fun b o e=>Nat.ne_of_lt (Heap.lt_size e)
    have un:=I5.base
    rw[yfs,yex,yH0,ys0] at un
    have hfreeC0:=I5.free
    rw[ye] at hfreeC0
    have hfreeC:H5 s3.heap.objs.size=none:=hfreeC0
    refine I3.yp (ch:=fp) (s':={ s5 with heap:=h6 }) (by have:=I5.os;rw[ys0] at this;exact this) ⟨fun b o e n1 n2 n3=>(hs6.2 b (nC b o e)).trans (un.keep b o e n1 n2 n3),fun b o e n1 n2 n3=>?_,un.free,fun b o e n1=>?_,un.ei,un.dQ,un.ef⟩ (fun b u e=>?_) I5.bare fun b hb=>?_
    · obtain ⟨sl,q⟩:=un.slot b o e n1 n2 n3
      exact ⟨sl,(hs6.2 b (nC b o e)).trans q⟩
    · obtain ⟨o',q⟩:=un.there b o e n1
      exact ⟨o',(hs6.2 b (nC b o e)).trans q⟩
    · have hok5:=I5.hok
      rw[yP,yw] at hok5
      refine (hok5 b u e).jj (fun c w' hc q=>(hs6.2 c ?_).trans q) (fun _ q=>q) fun _ _ q=>q
      rintro rfl
      rcases hc with z | z
      · rw[← z,hfreeC] at e;cases e
      · rw[hfreeC] at z;cases z
    · exact ⟨(f3 b hb).2.2.2.1,(f3 b hb).2.1,(f3 b hb).2.2.2.2.1,(f3 b hb).2.2.2.2.2⟩
  have loop:codeAny (model X.prog X.w) X.A (.compLoop (.ListComp elt [⟨tg,iter,ifs,0⟩] scope pos) 0 (.ref it) (.ref D) (compEnvC scope cl s3.heap.objs.size X.env)) (compPost (model X.prog X.w) X.A (fun _ _=>False) none (EP X pins σ Q) (.ref D) s3.heap.objs.size)
      { s3 with heap:=h4,toks:=s3.toks+([]:List (Str×Value)).length }:=by
    refine nF (fun k s'=>∃ i ys H',Inv Y [] (ey σ n caps) H' s'∧tn i s'.heap∧(∀ b∈fp,H' b=none)∧W i k ys H') ?_ m0 ⟨0,[],H3,J0,tn4 _,fun b hb=>(f3 b hb).1,w0⟩
    rintro k s5 ⟨i,ys,H5,I5,st5,fr5,w5⟩
    rcases turn i k ys H5 w5 with ⟨stop,q⟩ | ⟨go,N,hN,step⟩
    · have d:=T.done Y yP yw yK yc i [] s5 _ H5 (fun _ _=>False) I5 (lY fr5) st5 stop
      rw[yA] at d
      refine thn d fun r s6 ⟨hr,I6⟩=>?_
      subst hr
      exact fin s6 H5 I6 q
    · have d:=T.item Y yP yw yK yc i [] s5 _ H5 (fun _ _=>False) I5 (lY fr5) st5 go
      rw[yA] at d
      refine thn d fun r s6 ⟨u,hr,h6⟩=>?_
      subst hr
      refine thn h6 fun _ s7 ⟨x,H7,I7,r7,y7,st7,fr7⟩=>?_
      have I7':=I7.pinned (lY fr7) (T.obj _ _ st7)
      have a:=pg _ s7 _ H7 x u _ I7' r7 (step x H7 y7)
      rw[yP,yw,yA,yx,ye] at a
      refine thn a fun _ s8 ⟨σ8,H8,I8,wk,q8⟩=>?_
      have b:=pifs _ s8 σ8 H8 _ I8 q8
      rw[yP,yw,yA,yx,ye] at b
      have again:∀ {s9:Shared} {ys9:List V} {H9:Hp},Inv Y ([]++fM fp s7.heap) σ8 H9 s9→N ys9 H9→∃ m,m < k∧∃ i ys H',Inv Y [] (ey σ n caps) H' s9∧tn i s9.heap∧(∀ b∈fp,H' b=none)∧W i m ys H':=fun {s9 ys9 H9} I9 n9=>by
        obtain ⟨m',hm,w9⟩:=hN ys9 H9 n9
        have hp:∀ b∈fp,∀ o,s7.heap.get? b=some o→s9.heap.get? b=some o∧H9 b=none:=fun b hb o e=>
          ⟨(I9.pin (b,o) (List.mem_append_right _ (List.mem_append_right _ (cq hb e)))).1,(I9.pin (b,o) (List.mem_append_right _ (List.mem_append_right _ (cq hb e)))).2.1⟩
        refine ⟨m',hm,i+1,ys9,H9,I9.dG.weak wk.1 wk.2,T.keep _ _ _ st7 fun b hb o e=>(hp b hb o e).1,fun b hb=>?_,w9⟩
        obtain ⟨o,e,_⟩:=T.obj _ _ st7 b hb
        exact (hp b hb o e).2
      refine thn b fun ok s9 ⟨H9,I9,q9⟩=>?_
      cases ok with
      | false=>
        rw[if_neg Bool.false_ne_true] at q9 ⊢
        exact again I9 q9
      | true=>
        rw[if_pos rfl] at q9 ⊢
        have c:=pelt _ s9 σ8 H9 _ I9 q9
        rw[yP,yw,yA,yx,ye] at c
        refine thn c fun v s10 ⟨y,H10,I10,r10,zs,ez,lz,n10⟩=>?_
        have d:=nB (X:=Y) _ s10 σ8 H10 (.ref D) [y] (.ref D) [v] (fun _ H'=>N (zs++[y]) H') I10 rfl (.cons r10 .nil) ⟨D,zs,y,rfl,rfl,ez,lz,n10⟩
        rw[yP,yw,yA,yx] at d
        exact thn d fun _ s11 ⟨_,H11,I11,_,q11⟩=>again I11 q11
  refine codeAny_compStart_list loop ?_
  exact T.self X.A 0 _ _ _ (tn4 _) loop
end
section
open PySem PySem.Spec PyProof.Rows L2
structure nY (K:PySem.W.Frag) (J:It) (H1:Hp) (ds:List D):Prop where
  go:∀ i H',Tk H1 H'→i < ds.length→J.go i H'
  yld:∀ i H' x H'',Tk H1 H'→i < ds.length→J.yld i H' x H''→Tk H' H''∧(∃ d,ds[i]? = some d∧Dp K H'' x d)∧∀ μ,aZ K H' μ→aZ K H'' μ
  stop:∀ i H',Tk H1 H'→ds.length≤i→J.stop i H'
def zi (K:PySem.W.Frag)(wi:TI)(It':ATr):Prop:=∀ σ H ρ μ (Q:List D→Mu→Prop) (R:It→Hp→Prop),Rl K σ H ρ μ→It' ρ μ Q→(∀ J H1 ds μ1,Tk H H1→aZ K H1 μ1→nY K J H1 ds→Q ds μ1→R J H1)→wi σ H R
structure LI (X:Cx) (tg iter:Expr) (It':ATr):Prop where
  ex:∃ wi,PI X tg iter wi∧zi X.K wi It'
section
variable {X:Cx} {tg a b c e elt iter:Expr} {Ta Tb Te:ETr} {Tt:TTr} {pos:Pos} {It':ATr} {G:GTr}
theorem qt {K:PySem.W.Frag}{H:Hp}{p:Addr}{xs:List V}{ds:List D}(q:SqT K H p xs)(l:DpL K H xs ds):nY K (Itt K p) H ds where
  go:=fun i H' t hi=>by
    have hl:=l.length
    exact ⟨xs,xs[i],t.sqT q,by simp[show i < xs.length by omega]⟩
  yld:=fun i H' x H'' t hi ⟨e,y⟩=>by
    subst e
    have ex:=y xs (t.sqT q)
    obtain ⟨d,ed,p⟩:=l.get' ex
    exact ⟨.refl _,⟨d,ed,p.mono t⟩,fun _ m=>m⟩
  stop:=fun i H' t hi=>⟨xs,t.sqT q,by rw[l.length];exact hi⟩
theorem rz {K:PySem.W.Frag}{H:Hp}{p:Addr}{xs:List V}{ds:List D}(q:SqF K H p xs)(l:DpL K H xs ds):nY K (Itl K p) H ds where
  go:=fun i H' t hi=>by
    have hl:=l.length
    exact ⟨xs,xs[i],(t.sqF q).sq,by simp[show i < xs.length by omega]⟩
  yld:=fun i H' x H'' t hi ⟨e,y⟩=>by
    subst e
    have ex:=y xs (t.sqF q).sq
    obtain ⟨d,ed,p⟩:=l.get' ex
    exact ⟨.refl _,⟨d,ed,p.mono t⟩,fun _ m=>m⟩
  stop:=fun i H' t hi=>⟨xs,(t.sqF q).sq,by rw[l.length];exact hi⟩
theorem ck (lo:Int)(n:Nat):(cJ lo n).length=n:=by unfold cJ;simp
theorem pz {K:PySem.W.Frag}{H:Hp}(lo:Int)(n:Nat):nY K (Itr lo n) H (cJ lo n) where
  go:=fun i H' t hi=>by rw[ck] at hi;exact hi
  yld:=fun i H' x H'' t hi ⟨e,y⟩=>by
    rw[ck] at hi
    subst e y
    exact ⟨.refl _,⟨.int (lo+i),by unfold cJ;simp[hi],.int _⟩,fun _ m=>m⟩
  stop:=fun i H' t hi=>by rw[ck] at hi;exact hi
def xt (a:ETr):ATr:=fun ρ μ Q=>a ρ μ fun x μ1=>match x with
  | .tup ds=>Q ds μ1
  | _=>False
def ILs (a:ETr):ATr:=fun ρ μ Q=>a ρ μ fun x μ1=>match x with
  | .ls ds=>Q ds μ1
  | _=>False
theorem iB {rp rpos:Pos}(hg:Gl X "range")(hm:X.mg "range" = none)(ha:LE X a Ta)(hs:starEach [a] X.env=[(false,eval a X.env)]:=by rfl):LI X tg (.Call (.Name "range" rp) [a] [] rpos) (cu Ta):=by
  obtain ⟨ta,pa,sa⟩:=ha.ex
  refine ⟨_,oi hg hm (dO pa iN hs) hs,fun σ H ρ μ Q R rl h k=>sa σ H ρ μ _ _ rl h fun x H1 d μ1 t1 m1 p1 h1=>?_⟩
  cases p1 with
  | int j=>
    obtain ⟨⟨h2,h3⟩,h4⟩:=h1
    exact ⟨j,rfl,by simpa using h2,by simpa using h3,k _ H1 _ μ1 t1 m1 (pz 0 _) h4⟩
  | _=>exact False.elim h1
theorem yr {t1:TS}{T1:STr}{g:TG}{E:En}{E':Ends}{K:PySem.W.Frag}{H0 H1:Hp}{J:It}{ds:List D}(sg:vG K g G)(s1:uM K t1 T1)(k:oW K H0 E E')(Y:nY K J H1 ds){σ:L2.St}{ρ:ST}{μ:Mu}(t0:Tk H0 H1)(rl:Rl K σ H1 ρ μ)(h:forR G T1 E ds ρ μ) :
    ∃ W:Nat→Nat→L2.St→Hp→Prop,(∃ m,W 0 m σ H1)∧∀ i m σ H,W i m σ H→
      (J.stop i H∧E'.nx σ H)∨(J.go i H∧∃ N:L2.St→Hp→Prop,(∀ σ' H',N σ' H'→∃ m',m' < m∧W (i+1) m' σ' H')∧∀ x H',J.yld i H x H'→g x σ H' fun σ2 H2=>t1 { E' with nx:=N,ct:=N,bk:=E'.nx } σ2 H2):=by
  refine ⟨fun i m σ' H'=>m=ds.length - i∧i≤ds.length∧Tk H1 H'∧∃ ρ' μ',Rl K σ' H' ρ' μ'∧forR G T1 E (ds.drop i) ρ' μ',⟨ds.length,by simp,Nat.zero_le _,.refl _,ρ,μ,rl,by simpa using h⟩,?_⟩
  rintro i m σ1 H2 ⟨rfl,hi,t12,ρ1,μ1,r1,h1⟩
  by_cases hlt:i < ds.length
  · refine .inr ⟨Y.go i H2 t12 hlt,fun σ' H'=>Tk H1 H'∧∃ ρ' μ',Rl K σ' H' ρ' μ'∧forR G T1 E (ds.drop (i+1)) ρ' μ',fun σ' H' ⟨t',ρ',μ',r',h'⟩=>⟨ds.length - (i+1),by omega,rfl,hlt,t',ρ',μ',r',h'⟩,fun x H3 y=>?_⟩
    obtain ⟨t23,⟨d,ed,pd⟩,mk⟩:=Y.yld i H2 x H3 t12 hlt y
    have e:ds.drop i=d::ds.drop (i+1):=by
      refine (List.drop_eq_getElem_cons hlt).trans ?_
      congr 1
      rw[List.getElem?_eq_getElem hlt] at ed
      exact Option.some.inj ed
    rw[e] at h1
    have t13:=t12.trans t23
    refine sg σ1 H3 ρ1 μ1 _ _ _ _ (r1.go t23 (mk _ r1.mu)) pd h1 fun σ4 H4 ρ4 μ4 t4 r4 h4=>?_
    have t14:=t13.trans t4
    have t04:=t0.trans t14
    exact s1 σ4 H4 ρ4 μ4 _ _ r4 h4 ⟨fun σ' H' ρ' μ' t' r' q=>⟨t14.trans t',ρ',μ',r',q⟩,(k.go t04).rt,(k.go t04).nx,fun σ' H' ρ' μ' t' r' q=>⟨t14.trans t',ρ',μ',r',q⟩⟩
  · have e:i=ds.length:=by omega
    subst e
    rw[List.drop_length] at h1
    exact .inl ⟨Y.stop _ H2 t12 (Nat.le_refl _),k.nx _ _ _ _ (t0.trans t12) r1 h1⟩
theorem kJ {body:List Stmt}{T1:STr}(hp:PassesOwn (model X.prog X.w) X.A X.env X.xe)(hc:X.calm=true)(hi:LI X tg iter It')(hG:LG X tg G)(hb:LSs X body T1)(hf:∀ x,foldedSetIterable iter X.env x=pure x:=by intro _;rfl) :
    LS X (.For tg iter body [] pos) (jT It' G T1):=by
  obtain ⟨wi,pi,si⟩:=hi.ex
  obtain ⟨g,pg,sg⟩:=hG.ex
  obtain ⟨t1,p1,s1⟩:=hb.ex
  exact ⟨_,vS hp hc pi pg p1 hf,fun σ H ρ μ E E' rl h k=>si σ H ρ μ _ _ rl h fun J H1 ds μ1 t1' m1 Y h1=>yr sg s1 k Y t1' (rl.go t1' m1) h1⟩
def um (K:PySem.W.Frag)(T:ETr):TE:=fun σ H Q'=>∃ ρ μ Q,Rl K σ H ρ μ∧T ρ μ Q∧cT K H Q Q'
def liftT (K:PySem.W.Frag)(T:TTr):TT:=fun σ H Q'=>∃ ρ μ Q,Rl K σ H ρ μ∧T ρ μ Q∧∀ b H' μ',Tk H H'→aZ K H' μ'→Q b μ'→Q' b H'
abbrev yz (K:PySem.W.Frag)(n:Nat)(σ:L2.St)(H:Hp)(k:ST→Mu→Prop)(k':L2.St→Hp→Prop):Prop:=∀ σ' H' ρ' μ',Tk H H'→Rl K σ' H' ρ' μ'→(σ'.length=σ.length∧∀ j,n≤j→σ'[j]? = σ[j]?)→k ρ' μ'→k' σ' H'
def ue (K:PySem.W.Frag)(n:Nat)(G:GTr):TG:=fun v σ H k'=>∃ ρ μ d k,Rl K σ H ρ μ∧Dp K H v d∧G d ρ μ k∧yz K n σ H k k'
theorem LE.pe (h:LE X e Te):PE X e (um X.K Te):=by
  obtain ⟨t,p,s⟩:=h.ex
  exact fun pins st σ H Q I ⟨ρ,μ,Q0,rl,hT,k⟩=>p pins st σ H Q I (s σ H ρ μ Q0 Q rl hT k)
structure vx (X:Cx) (ifs:List Expr) (Tt:TTr):Prop where
  pe:vE X ifs (liftT X.K Tt)
theorem mJ:vx X [] lF:=⟨fun pins s σ H Q I ⟨ρ,μ,Q0,rl,hT,k⟩=>sQ pins s σ H Q I (k true H μ (.refl H) rl.mu hT)⟩
structure LGc (X:Cx) (n:Nat) (tg:Expr) (G:GTr):Prop where
  pe:PG X tg (ue X.K n G)
theorem j8 {x:Str}{n:Nat}(i:Nat)(hN:X.N.Nodup)(hin:i < n:=by decide)(hi:X.N[i]? = some x:=by rfl)(hx:Loc X.env.scope x:=by first | exact Or.inl rfl | exact Or.inr rfl)(hf:X.fn x=true∨X.env.scope.names.lookup x=some .local:=by first | exact .inr rfl | exact .inl rfl | assumption):LGc X n (.Name x pos) (aw i):=
  ⟨fun pins s σ H v u k' I r ⟨ρ,μ,d,k,rl,p,h,post⟩=>i4 hN hi hx hf pins s σ H v u k' I r (post _ H _ μ (.refl H) (rl.set p i) ⟨by simp,fun j hj=>by rw[List.getElem?_set_ne (by omega)]⟩ h)⟩
theorem sy {K:PySem.W.Frag}{σ:L2.St}{H:Hp}{ρ:ST}{μ:Mu}(rl:Rl K σ H ρ μ)(n:Nat)(caps:List Nat):Rl K (ey σ n caps) H (gS ρ n caps) μ:=by
  refine ⟨by unfold ey gS;simp,fun i d e=>?_,rl.mu⟩
  have gen:∀ (n i:Nat),lk (List.replicate n none++caps.map (lk ρ)) i=some d→∃ j,i=n+j∧∃ k,caps[j]? = some k∧lk ρ k=some d:=by
    intro n
    induction n with
    | zero=>
      intro i h
      have h':lk (caps.map (lk ρ)) i=some d:=by simpa using h
      have g2:∀ (cs:List Nat) (i:Nat),lk (cs.map (lk ρ)) i=some d→∃ k,cs[i]? = some k∧lk ρ k=some d:=by
        intro cs
        induction cs with
        | nil=>intro i h;cases i<;>cases h
        | cons c r ih=>intro i h;cases i with
          | zero=>exact ⟨c,rfl,h⟩
          | succ i=>simpa using ih i h
      exact ⟨i,by omega,g2 caps i h'⟩
    | succ n ih=>
      intro i h
      cases i with
      | zero=>cases h
      | succ i=>
        obtain ⟨j,rfl,k,h1,h2⟩:=ih i h
        exact ⟨j,by omega,k,h1,h2⟩
  obtain ⟨j,rfl,k,h1,h2⟩:=gen n i e
  obtain ⟨v,h3,h4⟩:=rl.loc k d h2
  refine ⟨v,?_,h4⟩
  unfold ey
  rw[List.getElem?_append_right (by simp)]
  simp[h1,h3]
theorem rO {ifs:List Expr}{scope:Scope}{Nc:List Str}{n:Nat}{caps:List Nat}(hxe:X.xe=fun _ _=>False)(hcalm:X.calm=true)(hi:LI X tg iter It')
    (hbody:∀ (cl:List (Str×Addr)) (C:Addr) (s₀:Shared) (H₀:Hp) (ex:List Addr),LGc (bA X scope Nc cl C s₀ H₀ ex) n tg G∧vx (bA X scope Nc cl C s₀ H₀ ex) ifs Tt∧LE (bA X scope Nc cl C s₀ H₀ ex) elt Te)
    (hfree:∀ y∈scope.names,y.2=.free→X.env.kindOf y.1=some .cell) (hcell:∀ y∈scope.names,y.2≠.cell) (fL:scope.kind=.function)
    (hnames:∀ y∈scope.names,y.2=.local→scope.names.lookup y.1=some .local) (hlen:Nc.length=n+caps.length)
    (hcap:∀ (j k:Nat),caps[j]? = some k→∃ x,Nc[n+j]? = some x∧X.N[k]? = some x∧scope.names.lookup x=some .free)
    (hs:∀ x,foldedSetIterable iter X.env x=pure x:=by intro _;rfl) :
    LE X (.ListComp elt [⟨tg,iter,ifs,0⟩] scope pos) (gh It' G Tt Te n caps):=by
  obtain ⟨wi,pi,si⟩:=hi.ex
  refine ⟨_,mv (rL (g:=ue X.K n G) (tt:=liftT X.K Tt) (te:=um X.K Te) hxe hcalm pi (fun cl C s₀ H₀ ex=>let ⟨h1,h2,h3⟩:=hbody cl C s₀ H₀ ex;⟨h1.pe,h2.pe,h3.pe⟩) hfree hcell fL hnames hlen hcap hs),?_⟩
  intro σ H ρ μ Q Q' rl h k
  refine si σ H ρ μ _ _ rl h fun J H1 ds μ1 t1 m1 Y h1 D hD=>?_
  have hp:=h1 D (m1.free hD)
  have tD:Tk H1 (L2.upd H1 D (.lst [])):=.new hD
  have mD:aZ X.K (L2.upd H1 D (.lst [])) (up μ1 D (.lst [])):=fun a o e=>by
    by_cases ha:a=D
    · subst ha
      rw[aC] at e;cases e
      exact ⟨[],az,.nil⟩
    · rw[bx ha] at e
      exact cS m1 hD a o e
  refine ⟨fun i m ys H2=>m=ds.length - i∧i≤ds.length∧Tk H1 H2∧∃ μ2,aZ X.K H2 μ2∧dS D G Tt Te (gS ρ n caps) (fun μ'=>kL μ' D fun zs=>Q (.ls zs) (dn μ' D)) (ds.drop i) μ2,
    ⟨ds.length,by simp,Nat.zero_le _,tD,_,mD,by simpa using hp⟩,?_⟩
  rintro i m ys H2 ⟨rfl,hi,t12,μ2,m2,h2⟩
  by_cases hlt:i < ds.length
  · refine .inr ⟨Y.go i H2 t12 hlt,fun ys' H'=>Tk H1 H'∧∃ μ',aZ X.K H' μ'∧dS D G Tt Te (gS ρ n caps) (fun μ'=>kL μ' D fun zs=>Q (.ls zs) (dn μ' D)) (ds.drop (i+1)) μ',fun ys' H' ⟨t',μ',m',h'⟩=>⟨ds.length - (i+1),by omega,rfl,hlt,t',μ',m',h'⟩,fun x H3 y=>?_⟩
    obtain ⟨t23,⟨d,ed,pd⟩,mk⟩:=Y.yld i H2 x H3 t12 hlt y
    have e:ds.drop i=d::ds.drop (i+1):=by
      refine (List.drop_eq_getElem_cons hlt).trans ?_
      congr 1
      rw[List.getElem?_eq_getElem hlt] at ed
      exact Option.some.inj ed
    rw[e] at h2
    have t13:=t12.trans t23
    have r3:Rl X.K (ey σ n caps) H3 (gS ρ n caps) μ2:=sy (rl.go (t1.trans t13) (mk _ m2)) n caps
    refine ⟨_,_,d,_,r3,pd,h2,fun σ4 H4 ρ4 μ4 t4 r4 kp h4=>⟨⟨kp.1.symm,fun j v ej=>?_⟩,_,_,_,r4,h4,fun b H5 μ5 t5 m5 h5=>?_⟩⟩
    · by_cases hj:n≤j
      · rw[kp.2 j hj];exact ej
      · obtain ⟨j',k',e1,_⟩:=js ej
        omega
    · have t15:=t13.trans (t4.trans t5)
      cases b with
      | false=>exact jr ⟨t15,μ5,m5,h5⟩
      | true=>
        refine jV ⟨_,_,_,r4.go t5 m5,h5,fun v H6 d6 μ6 t6 m6 p6 h6=>?_⟩
        obtain ⟨zs,ez,lz,h7⟩:=eh h6
        obtain ⟨xs,ex,lx⟩:=m6 D _ ez
        have t67:Tk H6 (L2.upd H6 D (.lst (xs++[v]))):=.upd (fun ys z=>by rw[ex] at z;cases z) fun o' u z=>by rw[ex] at z;cases z
        refine ⟨xs,ex,by rw[lx.length];exact Nat.lt_of_lt_of_le lz (by decide),(t15.trans t6).trans t67,up μ6 D (.lst (zs++[d6])),fun a o ea=>?_,h7⟩
        by_cases ha:a=D
        · subst ha
          rw[aC] at ea;cases ea
          exact ⟨_,az,(lx.append (.cons p6 .nil)).mono t67⟩
        · rw[bx ha] at ea
          exact (m6 a _ ea).ne t67 ha
  · have e:i=ds.length:=by omega
    subst e
    rw[List.drop_length] at h2
    obtain ⟨zs,ez,hq⟩:=eh (show kL μ2 D fun zs=>Q (.ls zs) (dn μ2 D) from h2)
    obtain ⟨xs,ex,lx⟩:=m2 D _ ez
    refine .inl ⟨Y.stop _ H2 t12 (Nat.le_refl _),D,xs,rfl,ex,fun o=>?_⟩
    have t2f:Tk H2 (L2.upd H2 D (.frz o (.lst xs))):=.upd (fun ys z=>by rw[ex] at z;cases z) fun o' u z=>by rw[ex] at z;cases z
    refine k _ _ _ (dn μ2 D) ((t1.trans t12).trans t2f) (fun a o' ea=>?_) (.ls (.inl ⟨o,az⟩) (lx.mono t2f)) hq
    have ha:a≠D:=fun z=>by subst z;unfold dn at ea;rw[if_pos rfl] at ea;cases ea
    have ea':μ2 a=some o':=by unfold dn at ea;rw[if_neg ha] at ea;exact ea
    exact (m2 a _ ea').ne t2f ha
end
end
section
open PySem PySem.Spec PyProof.Rows L2
def qP (fn:List (Str×NameKind))(XN:List Str)(sc:Scope)(Nc:List Str)(n:Nat)(caps:List Nat):Bool:=
  sc.names.all (fun y=>(y.2 != .free || fn.lookup y.1 == some .cell)&&y.2 != .cell&&(y.2 != .local || sc.names.lookup y.1 == some .local))&&sc.kind == .function&&Nc.length == n+caps.length &&
  (List.range caps.length).all fun j=>match caps[j]? with
    | some k=>(match XN[k]? with
      | some x=>Nc[n+j]? == some x&&sc.names.lookup x == some .free
      | none=>false)
    | none=>false
section
variable {X:Cx} {tg a b c e elt iter:Expr} {Ta Tb Te:ETr} {Tt:TTr} {pos:Pos} {It':ATr} {G:GTr}
theorem jJ {ifs:List Expr}{scope fsc:Scope}(XN Nc:List Str)(n:Nat)(caps:List Nat)(hxe:X.xe=fun _ _=>False)(hcalm:X.calm=true)(hi:LI X tg iter It')
    (hbody:∀ (cl:List (Str×Addr)) (C:Addr) (s₀:Shared) (H₀:Hp) (ex:List Addr),LGc (bA X scope Nc cl C s₀ H₀ ex) n tg G∧vx (bA X scope Nc cl C s₀ H₀ ex) ifs Tt∧LE (bA X scope Nc cl C s₀ H₀ ex) elt Te)
    (hsc:X.env.scope=fsc) (hXN:X.N=XN) (hok:qP fsc.names XN scope Nc n caps=true)
    (hs:∀ x,foldedSetIterable iter X.env x=pure x:=by intro _;rfl) :
    LE X (.ListComp elt [⟨tg,iter,ifs,0⟩] scope pos) (gh It' G Tt Te n caps):=by
  unfold qP at hok
  simp only[Bool.and_eq_true,List.all_eq_true] at hok
  obtain ⟨⟨⟨h1,h2⟩,h3⟩,h4⟩:=hok
  refine rO hxe hcalm hi hbody (fun y hy hf=>?_) (fun y hy hf=>?_) (by simpa using h2) (fun y hy hf=>?_) (by simpa using h3) (fun j k hj=>?_) hs
  · have:=(h1 y hy).1.1
    show X.env.scope.names.lookup y.1=_
    rw[hsc]
    simpa[hf] using this
  · have:=(h1 y hy).1.2
    simp[hf] at this
  · have:=(h1 y hy).2
    simpa[hf] using this
  · have hl:j < caps.length:=(List.getElem?_eq_some_iff.mp hj).1
    have:=h4 j (List.mem_range.mpr hl)
    rw[hj] at this
    dsimp only at this
    rw[hXN]
    cases e:XN[k]? with
    | none=>rw[e] at this;cases this
    | some x=>
      rw[e] at this
      dsimp only at this
      rw[Bool.and_eq_true] at this
      exact ⟨x,by simpa using this.1,rfl,by simpa using this.2⟩
end
theorem eC:∀ {bs:List Bool} {us:List Value},Vals (bs.map V.bl) us→LSm.BoolsAre us bs
  | [],_,.nil=>.nil
  | b::r,_,.cons h t=>by
    cases (show _=Value.bool b from h)
    exact .cons b (eC t)
theorem nz {X:Cx}(hc:X.calm=true):aS X (.builtin "all") (fun xs H Q=>∃ (p:Addr) (ys:List V) (bs:List Bool),xs=[.ref p]∧SqL X.K H p ys∧ys=bs.map V.bl∧Q (.bl (bs.all id)) H):=fun pins s σ H xs us Q I rx ⟨p,ys,bs,e1,sq,e2,q⟩=>by
  subst e1 e2
  cases rx with | cons r1 r2=>
  cases r2
  cases (show _=Value.ref p from r1)
  obtain ⟨its,rv,pl,_⟩:=I.list sq
  have ils:s.heap.IsList p its.toArray:=by
    obtain ⟨o,n,h1,h2,_,h3⟩:=pl
    exact ⟨o,h1,h2,n,h3⟩
  have bls:=eC rv
  have hlt:p < s.heap.objs.size:=by obtain ⟨_,e,_⟩:=ils;exact Heap.lt_size e
  refine call_all_walk (wpAny_pyIter_list ils ?_)
  refine ⟨s.heap.objs.size,[s.heap.objs.size,p],[s.heap.objs.size],its.toArray.size,_,_,fun i=>(bs[i]?).getD true,rfl,Walks.list (A:=X.A.in1) (I.ok.hd hc) _ p (Nat.ne_of_lt hlt) its.toArray,
    ⟨⟨_,Heap.get?_push_size _ rfl,rfl,rfl⟩,ils.push _⟩,fun i v s' Q' E' gP gQ=>?_,fun h' tk hk=>?_⟩
  · obtain ⟨b,e,rfl⟩:=bls.get i v (by simpa using gP)
    simp only[e,Option.getD_some] at gQ
    exact wpAny_truthy_bool gQ
  · have e:((List.range its.toArray.size).all fun i=>(bs[i]?).getD true)=bs.all id:=by
      rw[List.size_toArray,bls.length];exact LSm.range_all bs
    rw[e]
    exact ⟨.bl _,H,I.kept (LSm.kept_iter hk),rfl,q⟩
theorem DpL.bools {K:PySem.W.Frag}{H:Hp}:∀ {xs:List V} {bs:List Bool},DpL K H xs (bs.map .bl)→xs=bs.map V.bl
  | _,[],.nil=>rfl
  | _,b::r,.cons h l=>by cases h;rw[DpL.bools l];rfl
theorem r6 {K:PySem.W.Frag}:h9 K (fun xs H Q=>∃ (p:Addr) (ys:List V) (bs:List Bool),xs=[.ref p]∧SqL K H p ys∧ys=bs.map V.bl∧Q (.bl (bs.all id)) H) uH:=fun H μ xs ds Q Q' m p h k=>by
  unfold uH at h
  split at h
  · obtain ⟨bs,rfl,h⟩:=h
    cases p with | cons p1 p2=>cases p2;cases p1 with | ls q l=>exact ⟨_,_,bs,rfl,q.sq,l.bools,k _ H _ μ (.refl H) m (.bl _) h⟩
  · exact h.elim
end
section
open PySem PySem.Spec PyProof.Rows L2
def GV (K:PySem.W.Frag)(mg:Str→Option Value)(x:Str)(d:D):Prop:=∃ u v,mg x=some u∧RelV v u∧∀ H,Dp K H v d
theorem ua {X:Cx}{x:Str}{pos:Pos}{d:D}(hg:Gl X x)(h:GV X.K X.mg x d)(hd:(x == ("__debug__" : Str))=false:=by decide):LE X (.Name x pos) (TC d):=by
  obtain ⟨u,v,hm,r,p⟩:=h
  exact ⟨_,tN hg hm r hd,fun σ H ρ μ Q Q' rl h k=>k v H d μ (.refl H) rl.mu (p H) h⟩
section
variable {K:PySem.W.Frag} {h:Heap} {mg:Str→Option Value} {x:Str}
theorem vb {i:Int}{t:Tok}(X:K.In h)(G:h.Ns mainGlobals mg)(a:PySem.W.nsIn K mainGlobals x=some (some (.int i t))):GV K mg x (.int i):=⟨_,.int i,PySem.W.mg_of X G a,⟨t,rfl⟩,fun _=>.int i⟩
theorem va {i:Str}{t:Tok}(X:K.In h)(G:h.Ns mainGlobals mg)(a:PySem.W.nsIn K mainGlobals x=some (some (.str i t))):GV K mg x (.str i):=⟨_,.str i,PySem.W.mg_of X G a,⟨t,rfl⟩,fun _=>.str i⟩
end
def gn:ST→List Nat→List D→ST
  | ρ,i::is,d::ds=>gn (ρ.set i (some d)) is ds
  | ρ,_,_=>ρ
def qp (is:List Nat):GTr:=fun d ρ μ k=>match d with
  | .tup ds=>ds.length=is.length∧k (gn ρ is ds) μ
  | _=>False
def xq (K:PySem.W.Frag)(t:TGs)(is:List Nat):Prop:=∀ σ H ρ μ vs ds (k:ST→Mu→Prop) (k':L2.St→Hp→Prop),Rl K σ H ρ μ→DpL K H vs ds→ds.length=is.length→k (gn ρ is ds) μ→kg K H k k'→t vs σ H k'
structure LGs (X:Cx) (es:List Expr) (is:List Nat):Prop where
  ex:∃ t,PGs X es t∧xq X.K t is
section
variable {X:Cx} {e tg:Expr} {es:List Expr} {is:List Nat} {pos:Pos} {x:Str} {Ta:ETr} {G:GTr}
theorem rq:LGs X [] []:=⟨_,sT,fun σ H ρ μ vs ds k k' rl l hl h q=>by
  cases ds with
  | nil=>cases l;exact ⟨rfl,q _ _ _ _ (.refl H) rl h⟩
  | cons=>cases hl⟩
theorem j6 (i:Nat)(hN:X.N.Nodup)(h2:LGs X es is)(hi:X.N[i]? = some x:=by rfl)(hx:Loc X.env.scope x:=by first | exact Or.inl rfl | exact Or.inr rfl)(hf:X.fn x=true∨X.env.scope.names.lookup x=some .local:=by first | exact .inl rfl | exact .inr rfl | assumption)
    (hs:(assignEach (.Name x pos::es) X.env).map (·.2)=assign (.Name x pos) X.env::(assignEach es X.env).map (·.2):=by rfl):LGs X (.Name x pos::es) (i::is):=by
  obtain ⟨t,pt,st⟩:=h2.ex
  refine ⟨_,pf (i4 hN hi hx hf) pt hs,fun σ H ρ μ vs ds k k' rl l hl h q=>?_⟩
  cases l with
  | nil=>cases hl
  | @cons v d vs ds p l=>exact ⟨v,vs,rfl,st _ H _ μ vs ds k k' (rl.set p i) l (by simpa using hl) h q⟩
theorem wB {k:Nat}(hc:X.calm=true)(h:LGs X es is)(hn:(assignEach es X.env).length=is.length:=by rfl)(hst:(assignEach es X.env).findIdx? (·.1)=none:=by rfl):LG X (.Tuple es k pos) (qp is):=by
  obtain ⟨t,pt,st⟩:=h.ex
  refine ⟨_,u5 hc pt hn hst,fun σ H ρ μ v d k k' rl p h q=>?_⟩
  cases p with
  | @tup a xs ds sq l=>exact ⟨a,xs,rfl,sq,by rw[l.length];exact h.1,st σ H ρ μ xs ds k k' rl l h.1 h.2 q⟩
  | _=>exact False.elim h
theorem lt_chain {a b c:Expr}{Ta Tb Tc:ETr}{op op':CmpOp}{r r':L2.R2}{R R':DR2}(ho:OpR X (compareOp op) r)(ho':OpR X (compareOp op') r')(hr:bw X.K r R)(hr':bw X.K r' R')(ha:LE X a Ta)(hb:LE X b Tb)(hc:LE X c Tc)
    (hm:lastMarks [op,op'] [b,c]=false:=by with_unfolding_all rfl):LT X (.Compare a [op,op'] [b,c] pos) (TB (dm R R' Ta Tb Tc)):=by
  obtain ⟨ta,pa,sa⟩:=ha.ex
  obtain ⟨tb,pb,sb⟩:=hb.ex
  obtain ⟨tc,pc,sc⟩:=hc.ex
  exact ⟨_,p9 ho ho' pa pb pc hm,oH (n8 hr hr' sa sb sc)⟩
end
end
section
open PySem PySem.Spec PyProof.Rows L2
def qG (tp:Bool)(h:Heap)(it a:Addr)(i:Nat):Prop:=match tp with
  | true=>h.IsTupleIter it a i
  | false=>h.IsListIter it a i
def su (tp:Bool)(h:Heap)(a:Addr)(xs:Array Value):Prop:=match tp with
  | true=>h.IsTuple a xs
  | false=>h.IsList a xs
theorem qG.at {tp:Bool}{h g:Heap}{it a:Addr}{i:Nat}(x:qG tp h it a i)(k:∀ o,h.get? it=some o→g.get? it=some o):qG tp g it a i:=by
  cases tp with
  | true=>obtain ⟨o,e,r⟩:=x;exact ⟨o,k o e,r⟩
  | false=>obtain ⟨o,e,r⟩:=x;exact ⟨o,k o e,r⟩
theorem su.at {tp:Bool}{h g:Heap}{a:Addr}{xs:Array Value}(x:su tp h a xs)(k:∀ o,h.get? a=some o→g.get? a=some o):su tp g a xs:=by
  cases tp with
  | true=>obtain ⟨o,e,r⟩:=x;exact ⟨o,k o e,r⟩
  | false=>obtain ⟨o,e,r⟩:=x;exact ⟨o,k o e,r⟩
theorem qG.ex {tp:Bool}{h:Heap}{it a:Addr}{i:Nat}(x:qG tp h it a i):∃ o,h.get? it=some o∧∃ vs,o.data=.fields vs:=by
  cases tp with
  | true=>obtain ⟨o,e,_,d⟩:=x;exact ⟨o,e,_,d⟩
  | false=>obtain ⟨o,e,_,d⟩:=x;exact ⟨o,e,_,d⟩
section
variable {prog:Program} {w:World} {A:Around} {E:Value→Shared→Prop} {s:Shared}
end
def Sq (tp:Bool)(K:PySem.W.Frag)(H:Hp)(a:Addr)(xs:List V):Prop:=match tp with
  | true=>SqT K H a xs
  | false=>SqF K H a xs
theorem Inv.sq {X:Cx}{pins:List (Addr×Obj)}{σ:L2.St}{H:Hp}{s:Shared}{tp:Bool}{a:Addr}{xs:List V}(I:Inv X pins σ H s)(h:Sq tp X.K H a xs):∃ its:List Value,Vals xs its∧su tp s.heap a its.toArray:=by
  cases tp with
  | true=>obtain ⟨its,r,p,_⟩:=I.tuple h;exact ⟨its,r,p⟩
  | false=>
    obtain ⟨its,r,⟨o,n,e1,e2,_,e3⟩,_⟩:=I.list (SqF.sq h)
    exact ⟨its,r,o,e1,e2,n,e3⟩
section
variable {X:Cx} {ea eb:Expr} {es:List Expr} {ek:Nat} {ep p pos:Pos}
theorem Tk.sq {K:PySem.W.Frag}{H H':Hp}{tp:Bool}{a:Addr}{xs:List V}(t:Tk H H')(h:Sq tp K H a xs):Sq tp K H' a xs:=by
  cases tp with
  | true=>exact t.sqT h
  | false=>exact t.sqF h
end
end
section
open PySem PySem.Spec PyProof.Rows L2
def kObj (x:D)(f:Addr→Prop):Prop:=match x with
  | .obj a=>f a
  | _=>False
theorem gs (a:Addr)(f):kObj (.obj a) f=f a:=rfl
section
variable {X:Cx} {o a b c e:Expr} {To Ta Tb Tc Te T T':ETr} {pos:Pos}
def w6 (T:ETr):ETr:=fun ρ μ Q=>T ρ μ fun x μ1=>kObj x fun a=>kL μ1 a fun ds=>Q (.ls ds) (dn μ1 a)
def wF (To Te:ETr):ETr:=fun ρ μ Q=>To ρ μ fun x μ1=>kObj x fun a=>kL μ1 a fun _=>Te ρ μ1 fun y μ2=>kL μ2 a fun ds=>ds.length < 1000000∧Q .non (up μ2 a (.lst (ds++[y])))
def lS:FSp:=fun ds μ Q=>match ds with
  | [.tup xs]=>Q (.tup xs) μ
  | [.ls xs]=>Q (.tup xs) μ
  | [.obj a]=>kL μ a fun xs=>Q (.tup xs) μ
  | _=>False
def lV:FSp:=fun ds μ Q=>match ds with
  | [.tup xs]=>∀ p,μ p=none→Q (.obj p) (up μ p (.lst xs))
  | [.ls xs]=>∀ p,μ p=none→Q (.obj p) (up μ p (.lst xs))
  | [.obj a]=>kL μ a fun xs=>∀ p,μ p=none→Q (.obj p) (up μ p (.lst xs))
  | _=>False
def kG:FSp:=fun ds μ Q=>match ds with
  | [.tup xs]=>Q (.ls xs) μ
  | [.ls xs]=>Q (.ls xs) μ
  | [.obj a]=>kL μ a fun xs=>Q (.ls xs) μ
  | _=>False
def xp (Q:VK):VK:=fun v H1=>∃ a xs,v=.ref a∧H1 a=some (.lst xs)∧∀ o,Q v (L2.upd H1 a (.frz o (.lst xs)))
theorem iJ {K:PySem.W.Frag}{H:Hp}{μ:Mu}{ys:List V}{ds:List D}{Q:DK}{Q':VK}{z:Addr}(m:aZ K H μ)(l:DpL K H ys ds)(h:Q (.ls ds) μ)(k:cT K H Q Q')(hz:H z=none):xp Q' (.ref z) (L2.upd H z (.lst ys)):=
  ⟨z,ys,rfl,az,fun o=>by
    have e:L2.upd (L2.upd H z (.lst ys)) z (.frz o (.lst ys))=L2.upd H z (.frz o (.lst ys)):=m7
    rw[e]
    exact k _ _ _ μ (.new hz) (cS m hz) (.ls (.inl ⟨o,az⟩) (l.mono (.new hz))) h⟩
def cA:D→Bool
  | .non=>true
  | .bl _=>true
  | .int _=>true
  | .str _=>true
  | _=>false
def inD (x:D)(xs:List D):Bool:=xs.any fun y=>eqD y x
def rIn (neg:Bool):DR2:=fun x y μ Q=>match y with
  | .tup xs=>(cA x=true∧xs.all cA=true)∧Q (.bl (if neg then !inD x xs else inD x xs)) μ
  | .ls xs=>(cA x=true∧xs.all cA=true)∧Q (.bl (if neg then !inD x xs else inD x xs)) μ
  | .obj a=>kL μ a fun xs=>(cA x=true∧xs.all cA=true)∧Q (.bl (if neg then !inD x xs else inD x xs)) μ
  | _=>False
end
end
section
open PySem PySem.Spec PyProof.Rows L2
section
variable {X:Cx} {a b e:Expr} {Ta Tb T:ETr} {pos:Pos}
def xN (t:TE):TE:=fun σ H Q=>t σ H fun v H1=>Q v H1∨xp Q v H1
theorem mT {t:TE}(h:PE X e t):PE X e (xN t):=by
  have g:PE X e (fun σ H Q=>∃ P:VK,yS t σ H P∧∀ v H',P v H'→Q v H'):=fun pins s σ H Q I ⟨P,hP,k⟩=>
    thn (mv h pins s σ H P I hP) fun u s1 ⟨v,H1,I1,r,q⟩=>⟨v,H1,I1,r,k _ _ q⟩
  intro pins s σ H Q I hh
  refine thn (h pins s σ H _ I hh) fun u s1 ⟨v,H1,I1,r,q⟩=>?_
  rcases q with q | ⟨c,xs,rfl,ec,q⟩
  · exact ⟨v,H1,I1,r,q⟩
  · have hz:=I1.hok c _ ec
    obtain ⟨z,its,n,rv,hg⟩:=hz
    have nl:∀ d o,H1 d=some o→(∀ ys,o≠.lst ys)→d≠c:=fun d o e1 e2 w=>by subst w;rw[ec] at e1;cases e1;exact e2 _ rfl
    refine ⟨.ref c,_,I1.un (h':=s1.heap) (t':=s1.toks) (H':=L2.upd H1 c (.frz { cls:=.type "list", data:=.seq its.toArray n } (.lst xs))) ⟨fun d o e _ _ _=>e,fun d o e _ _ _=>⟨o.slots,e⟩,fun d o e w _=>?_,fun d o e _=>⟨o,e⟩,fun d ys e=>?_,fun d o u e=>?_,fun d ps e=>⟨#[],?_⟩⟩ (fun d u e=>?_),r,q _⟩
    · rw[au (fun z=>by subst z;rw[ec] at w;cases w)];exact w
    · rw[au (nl d _ e (fun _=>nofun))];exact e
    · rw[au (nl d _ e (fun _=>nofun))];exact e
    · rw[au (nl d _ e (fun _=>nofun)),e];simp
    · by_cases hd:d=c
      · subst hd
        rw[az] at e;cases e
        exact ⟨hg,z,its,n,rv,hg⟩
      · rw[au hd] at e
        refine (I1.hok d u e).jj (fun k w _ q=>q) (fun k q=>?_) fun k ys q=>?_
        · rw[au (nl k _ q (fun _=>nofun))];exact q
        · rw[au (nl k _ q (fun _=>nofun))];exact q
def ur (K:PySem.W.Frag):R2:=fun x y H Q=>∃ p q ys,x=.ref p∧y=.ref q∧SqT K H p []∧SqT K H q ys∧Q (.ref q) H
theorem sf:OpR X (binaryOp .Add) (ur X.K):=fun pins s σ H x y v u Q I rx ry ⟨p,q,ys,e1,e2,hp,hq,h⟩=>by
  subst e1 e2
  cases rx
  cases ry
  obtain ⟨its,r1,p1,_⟩:=I.tuple hp
  obtain ⟨its2,r2,p2,_⟩:=I.tuple hq
  cases r1
  obtain ⟨⟨c1,d1,t1,l1⟩,ho,hc,n,hd⟩:=id p1
  obtain ⟨⟨c2,d2,t2,l2⟩,ho2,hc2,n2,hd2⟩:=id p2
  simp only at hc hd hc2 hd2
  subst hc hd hc2 hd2
  exact concat_meets ⟨_,ho,rfl⟩ ⟨_,ho2,rfl⟩ noFill_tuple_add seq_tuple_add PySem.F.slot_tuple_add PySem.F.entry_tuple_add (PySem.F.args_tuple_add_2 _ _)
    (tuple_addW0 p q #[] its2.toArray n n2 d1 d2 l1 l2 rfl) ⟨ho,ho2,⟨.ref q,H,I,rfl,h⟩⟩
def uq (K:PySem.W.Frag):R2:=fun x y H Q=>∃ p q xs ys,x=.ref p∧y=.ref q∧SqL K H p xs∧SqL K H q ys∧xs.length+ys.length≤sizeLine∧∀ z,H z=none→Q (.ref z) (L2.upd H z (.lst (xs++ys)))
theorem tI:OpR X (binaryOp .Add) (uq X.K):=fun pins s σ H x y v u Q I rx ry ⟨p,q,xs,ys,e1,e2,hp,hq,hz,h⟩=>by
  subst e1 e2
  cases rx
  cases ry
  obtain ⟨its,r1,p1,_⟩:=I.list hp
  obtain ⟨its2,r2,p2,_⟩:=I.list hq
  obtain ⟨⟨c1,d1,t1,l1⟩,n,ho,hc,hx,hd⟩:=id p1
  obtain ⟨⟨c2,d2,t2,l2⟩,n2,ho2,hc2,hx2,hd2⟩:=id p2
  simp only at hc hd hc2 hd2
  subst hc hd hc2 hd2
  have z1:=r1.length
  have z2:=r2.length
  refine concat_meets ⟨_,ho,rfl⟩ ⟨_,ho2,rfl⟩ PySem.noFill_list_add PySem.seq_list_add PySem.F.slot_list_add PySem.F.entry_list_add (PySem.F.args_list_add_2 _ _)
    (list_addW p q its.toArray its2.toArray n n2 d1 d2 l1 l2 (by rw[List.size_toArray,List.size_toArray];omega)) ⟨ho,ho2,?_⟩
  have ea:its.toArray++its2.toArray=(its++its2).toArray:=by simp
  rw[ea]
  exact ⟨.ref _,_,I.zF (t':=s.toks) (r1.append r2) (by rw[List.length_append];omega),rfl,h _ I.fresh⟩
def aR:DR2:=fun x y μ Q=>match x,y with
  | .int i,.int j=>Q (.int (i+j)) μ
  | .str i,.str j=>i.length+j.length≤1000000∧Q (.str (i++j)) μ
  | .tup a,.tup b=>a.length+b.length≤1000000∧Q (.tup (a++b)) μ
  | .ls a,.ls b=>a.length+b.length≤1000000∧Q (.ls (a++b)) μ
  | _,_=>False
def rPl (K:PySem.W.Frag):R2:=fun x y H Q=>(rI0 fun i j=>.int (i+j)) x y H Q∨(∃ i j,x=.str i∧y=.str j∧i.length+j.length≤sizeLine∧Q (.str (i++j)) H)∨uv K x y H Q∨ur K x y H Q∨uq K x y H Q
theorem rP:OpR X (binaryOp .Add) (rPl X.K):=fun pins s σ H x y v u Q I rx ry h=>by
  rcases h with h | h | h | h | h
  · exact vv pins s σ H x y v u Q I rx ry h
  · exact kT pins s σ H x y v u Q I rx ry h
  · exact sI pins s σ H x y v u Q I rx ry h
  · exact sf pins s σ H x y v u Q I rx ry h
  · exact tI pins s σ H x y v u Q I rx ry h
theorem aQ (ha:LE X a Ta)(hb:LE X b Tb):LE X (.BinOp a .Add b pos) (ai aR Ta Tb):=by
  obtain ⟨ta,pa,sa⟩:=ha.ex
  obtain ⟨tb,pb,sb⟩:=hb.ex
  refine ⟨_,mT (ux rP pa pb),fun σ H ρ μ Q Q' rl h k=>sa σ H ρ μ _ _ rl h fun x H1 dx μ1 t1 m1 p1 h1=>sb σ H1 ρ μ1 _ _ (rl.go t1 m1) h1 fun y H2 dy μ2 t2 m2 p2 h2=>?_⟩
  have p1:=p1.mono t2
  have k:=k.go (t1.trans t2)
  cases p1 with
  | int i=>
    cases p2 with
    | int j=>exact .inl ⟨i,j,rfl,rfl,.inl (k _ H2 _ μ2 (.refl H2) m2 (.int _) h2)⟩
    | _=>exact False.elim h2
  | str i=>
    cases p2 with
    | str j=>exact .inr (.inl ⟨i,j,rfl,rfl,big h2.1,.inl (k _ H2 _ μ2 (.refl H2) m2 (.str _) h2.2)⟩)
    | _=>exact False.elim h2
  | @tup q xs ds sq l=>
    cases p2 with
    | @tup q' ys es sq' l'=>
      obtain ⟨hz,h3⟩:=h2
      by_cases hx:xs=[]
      · subst hx
        cases l
        exact .inr (.inr (.inr (.inl ⟨q,q',ys,rfl,rfl,sq,sq',.inl (k _ H2 _ μ2 (.refl H2) m2 (.tup sq' l') h3)⟩)))
      · refine .inr (.inr (.inl ⟨q,q',xs,ys,rfl,rfl,sq,sq',hx,by rw[l.length,l'.length];exact big hz,fun hy=>?_,fun _ z hzn=>.inl ?_⟩))
        · subst hy
          cases l'
          rw[List.append_nil] at h3
          exact .inl (k _ H2 _ μ2 (.refl H2) m2 (.tup sq l) h3)
        · exact k _ _ _ μ2 (.new hzn) (cS m2 hzn) (.tup (SqT.of az) ((l.append l').mono (.new hzn))) h3
    | _=>exact False.elim h2
  | @ls q xs ds sq l=>
    cases p2 with
    | @ls q' ys es sq' l'=>exact .inr (.inr (.inr (.inr ⟨q,q',xs,ys,rfl,rfl,sq.sq,sq'.sq,by rw[l.length,l'.length];exact big h2.1,fun z hz=>.inr (iJ m2 (l.append l') h2.2 k hz)⟩)))
    | _=>exact False.elim h2
  | _=>cases p2<;>exact False.elim h2
abbrev OTr:=ST→Mu→(Option Int→Mu→Prop)→Prop
def ONo:OTr:=fun _ μ Q=>Q none μ
def iK (T:ETr):OTr:=fun ρ μ Q=>T ρ μ fun x μ1=>kI x fun i=>Q (some i) μ1
def zz (K:PySem.W.Frag)(t:TO)(T:OTr):Prop:=∀ σ H ρ μ (Q:Option Int→Mu→Prop) (Q':Option Int→Hp→Prop),Rl K σ H ρ μ→T ρ μ Q→(∀ i H' μ',Tk H H'→aZ K H' μ'→Q i μ'→Q' i H')→t σ H Q'
structure LO (X:Cx) (o:Option Expr) (T:OTr):Prop where
  ex:∃ t,PO X o t∧zz X.K t T
theorem mH:LO X none ONo:=⟨_,tX,fun σ H ρ μ Q Q' rl h k=>k none H μ (.refl H) rl.mu h⟩
theorem iI (h:LE X e T):LO X (some e) (iK T):=by
  obtain ⟨t,p,s⟩:=h.ex
  refine ⟨_,rW p,fun σ H ρ μ Q Q' rl h k=>s σ H ρ μ _ _ rl h fun v H1 d μ1 t1 m1 p1 h1=>?_⟩
  cases p1 with
  | int i=>exact ⟨i,rfl,k _ H1 μ1 t1 m1 h1⟩
  | _=>exact False.elim h1
def cutD {α:Type}(xs:List α)(lo hi:Option Int):List α:=(xs.drop (HT.sIx xs.length 0 lo)).take (HT.sIx xs.length xs.length hi - HT.sIx xs.length 0 lo)
theorem mx {α:Type}{xs:List α}{lo hi:Option Int}(h:HT.sIx xs.length 0 lo=0∧HT.sIx xs.length xs.length hi=xs.length):cutD xs lo hi=xs:=by
  unfold cutD;rw[h.1,h.2];simp
theorem DpL.take {K:PySem.W.Frag}{H:Hp}:∀ {vs:List V} {ds:List D} (n:Nat),DpL K H vs ds→DpL K H (vs.take n) (ds.take n)
  | _,_,0,_=>.nil
  | _,_,_+1,.nil=>.nil
  | _,_,n+1,.cons h l=>.cons h (DpL.take n l)
theorem DpL.drop {K:PySem.W.Frag}{H:Hp}:∀ {vs:List V} {ds:List D} (n:Nat),DpL K H vs ds→DpL K H (vs.drop n) (ds.drop n)
  | _,_,0,l=>l
  | _,_,_+1,.nil=>.nil
  | _,_,n+1,.cons _ l=>DpL.drop n l
theorem DpL.cut {K:PySem.W.Frag}{H:Hp}{vs:List V}{ds:List D}(lo hi:Option Int)(l:DpL K H vs ds):DpL K H (ke vs lo hi) (cutD ds lo hi):=by
  unfold ke cutD;rw[l.length];exact (l.drop _).take _
theorem jz {prog:Program}{w:World}{A:Around}{E:Value→Shared→Prop}{s:Shared}{t sl:Addr}{items:Array Value}{vl vu:Value}{lo hi:Option Int}{Q:Value→Shared→Prop}(ht:IsTup s.heap t items)(hs:s.heap.IsSliceOf sl vl vu .none)(pl:IsPart vl lo)(pu:IsPart vu hi)
    (hw:HT.sIx items.size 0 lo=0∧HT.sIx items.size items.size hi=items.size) (h:Q (.ref t) s):wpAny (model prog w) A (getItem (.ref t) (.ref sl)) Q E s:=by
  obtain ⟨os,hos,hcs,hds⟩:=id hs
  have hTs:s.TypeIs (.ref sl) "slice" := ⟨os,hos,hcs⟩
  unfold getItem
  try with_reducible refine wpAny_holding ?_
  first | refine wpAny_bind (wpAny_pure ?_) | skip
  refine wpAny_bind (wpAny_sequenceKey ht.typeIs (by decide) ?_)
  refine wpAny_bind (wpAny_callSpecial?_slot (name:=Str.ofString "__getitem__") ht.typeIs PyProof.Rows.slot_tuple_getitem (wpAny_call_entry PyProof.Rows.slot_tuple_getitem ht.typeIs entry_tuple_getitem ?_ (args_tuple_getitem _ _)))
  show wpAny _ _ (Builtin.Tuple.tupleItemsOf (.ref t) >>= _) _ _ s
  refine wpAny_bind (tupleItemsOf_ ht ?_)
  refine wpAny_bind <| wpAny_typeOf hTs ?_
  rw[if_pos (by decide)]
  refine wpAny_bind (HT.cb hs pl pu ?_)
  rw[hw.1,hw.2]
  refine (show wpAny _ _ (if (((0:Nat):Int) == 0&&(1:Int) == 1&&(items.size - 0) == items.size)=true then _ else _) _ _ s from ?_)
  rw[if_pos (by simp)]
  unfold Builtin.Tuple.tupleIsExact
  refine wpAny_bind (wpAny_bind (wpAny_typeOf ht.typeIs (wpAny_pure ?_)))
  rw[if_pos (by decide)]
  first
    | exact wpAny_bind (wpAny_rule (wpAny_bind (wpAny_pure (wpAny_pure ⟨_,rfl,wpAny_pure h⟩))))
    | exact wpAny_bind (wpAny_rule (wpAny_pure ⟨_,rfl,wpAny_pure h⟩))
    | exact wpAny_bind (wpAny_bind (wpAny_rule (wpAny_pure (wpAny_pure ⟨_,rfl,wpAny_pure h⟩))))
def zA (K:PySem.W.Frag):V→Option Int→Option Int→Hp→VK→Prop:=fun x lo hi H Q=>∃ a xs,x=.ref a∧SqT K H a xs∧(HT.sIx xs.length 0 lo=0∧HT.sIx xs.length xs.length hi=xs.length)∧Q (.ref a) H
theorem qT:SlR X (zA X.K):=fun pins s σ H x v vl vu lo hi sl Q I rx hs pl pu ⟨q,xs,e,hx,hw,h⟩=>by
  subst e
  cases rx
  obtain ⟨its,r,ht,_⟩:=I.tuple hx
  have hlen:its.toArray.size=xs.length:=by rw[List.size_toArray];exact r.length.symm
  exact ⟨"tuple", _,PyProof.Rows.slot_tuple_getitem.lookup,ht.typeIs,jz ht hs pl pu (by rw[hlen];exact hw) ⟨.ref q,H,I,rfl,h⟩⟩
def rSl:D→Option Int→Option Int→Mu→DK→Prop:=fun x lo hi μ Q=>match x with
  | .tup xs=>Q (.tup (cutD xs lo hi)) μ
  | .ls xs=>Q (.ls (cutD xs lo hi)) μ
  | .obj a=>kL μ a fun xs=>Q (.ls (cutD xs lo hi)) μ
  | _=>False
def TSl (a:ETr)(lo hi:OTr):ETr:=fun ρ μ Q=>a ρ μ fun x μ1=>lo ρ μ1 fun l μ2=>hi ρ μ2 fun h μ3=>rSl x l h μ3 Q
theorem xM {lo hi:Option Expr}{Tl Th:OTr}{p2:Pos}(ha:LE X a Ta)(hl:LO X lo Tl)(hh:LO X hi Th):LE X (.Subscript a (.Slice lo hi none p2) pos) (TSl Ta Tl Th):=by
  obtain ⟨ta,pa,sa⟩:=ha.ex
  obtain ⟨tl,pl,sl⟩:=hl.ex
  obtain ⟨th,ph,sh⟩:=hh.ex
  refine ⟨_,mT (jI (SlR.or qT (SlR.or wb rE)) pa pl ph),fun σ H ρ μ Q Q' rl h k=>sa σ H ρ μ _ _ rl h fun x H1 dx μ1 t1 m1 p1 h1=>sl σ H1 ρ μ1 _ _ (rl.go t1 m1) h1 fun i H2 μ2 t2 m2 h2=>sh σ H2 ρ μ2 _ _ (rl.go (t1.trans t2) m2) h2 fun j H3 μ3 t3 m3 h3=>?_⟩
  have p1:=p1.mono (t2.trans t3)
  have k:=k.go (t1.trans (t2.trans t3))
  cases p1 with
  | @tup q xs ds sq l=>
    by_cases hw:HT.sIx xs.length 0 i=0∧HT.sIx xs.length xs.length j=xs.length
    · refine .inl ⟨q,xs,rfl,sq,hw,.inl (k _ H3 _ μ3 (.refl H3) m3 (.tup sq l) ?_)⟩
      rw[l.length] at hw
      have h3:Q (.tup (cutD ds i j)) μ3:=h3
      rw[mx hw] at h3;exact h3
    · exact .inr (.inl ⟨q,xs,rfl,sq,hw,fun z hz=>.inl (k _ _ _ μ3 (.new hz) (cS m3 hz) (.tup (SqT.of az) ((l.cut i j).mono (.new hz))) h3)⟩)
  | @ls q xs ds sq l=>exact .inr (.inr ⟨q,xs,rfl,sq.sq,fun z hz=>.inr (iJ m3 (l.cut i j) h3 k hz)⟩)
  | obj q=>
    obtain ⟨ds,e0,h4⟩:=eh h3
    obtain ⟨xs,ex,l⟩:=m3 q _ e0
    exact .inr (.inr ⟨q,xs,rfl,SqL.of ex,fun z hz=>.inr (iJ m3 (l.cut i j) h4 k hz)⟩)
  | _=>exact False.elim h3
end
end
section
open PySem PySem.Spec PyProof.Rows L2
end
section
open PySem PySem.Spec PyProof.Rows L2
theorem _root_.L2.Inv.frz {X:Cx}{pins:List (Addr×Obj)}{σ:L2.St}{H:Hp}{s:Shared}{c:Addr}{xs:List V}(I1:Inv X pins σ H s)(ec:H c=some (.lst xs)):∃ o,Inv X pins σ (L2.upd H c (.frz o (.lst xs))) s:=by
  obtain ⟨z,its,n,rv,hg⟩:=I1.hok c _ ec
  have nl:∀ d o,H d=some o→(∀ ys,o≠.lst ys)→d≠c:=fun d o e1 e2 w=>by subst w;rw[ec] at e1;cases e1;exact e2 _ rfl
  refine ⟨_,I1.un (h':=s.heap) (t':=s.toks) (H':=L2.upd H c (.frz { cls:=.type "list", data:=.seq its.toArray n } (.lst xs))) ⟨fun d o e _ _ _=>e,fun d o e _ _ _=>⟨o.slots,e⟩,fun d o e w _=>?_,fun d o e _=>⟨o,e⟩,fun d ys e=>?_,fun d o u e=>?_,fun d ps e=>⟨#[],?_⟩⟩ (fun d u e=>?_)⟩
  · rw[au (fun z=>by subst z;rw[ec] at w;cases w)];exact w
  · rw[au (nl d _ e (fun _=>nofun))];exact e
  · rw[au (nl d _ e (fun _=>nofun))];exact e
  · rw[au (nl d _ e (fun _=>nofun)),e];simp
  · by_cases hd:d=c
    · subst hd
      rw[az] at e;cases e
      exact ⟨hg,z,its,n,rv,hg⟩
    · rw[au hd] at e
      refine (I1.hok d u e).jj (fun k w _ q=>q) (fun k q=>?_) fun k ys q=>?_
      · rw[au (nl k _ q (fun _=>nofun))];exact q
      · rw[au (nl k _ q (fun _=>nofun))];exact q
end
section
open PySem PySem.Spec PyProof.Rows L2
section
variable {X:Cx} {ea:Expr} {es:List Expr} {ek:Nat} {ep p pos:Pos}
def uB (ds:List D):List D:=(List.range ds.length).zipWith (fun i d=>.tup [.int (i:Nat),d]) ds
def xf (t:ATr):ATr:=fun ρ μ Q=>t ρ μ fun vs μ1=>match vs with
  | [.ls ds]=>Q (uB ds) μ1
  | _=>False
variable {eb:Expr} {tg:Expr} {Ta Tb:ETr}
end
end
section
open PySem PySem.Spec PyProof PyProof.Rows L2
section
variable {X:Cx} {a b:Expr} {Ta Tb:ETr} {pos:Pos}
end
end
theorem iR (i j:Int)(μ Q):aR (.int i) (.int j) μ Q=Q (.int (i+j)) μ:=rfl
theorem iH (i j:Str)(μ Q):aR (.str i) (.str j) μ Q=(i.length+j.length≤1000000∧Q (.str (i++j)) μ):=rfl
theorem jb (a b:List D)(μ Q):aR (.tup a) (.tup b) μ Q=(a.length+b.length≤1000000∧Q (.tup (a++b)) μ):=rfl
theorem iL (a b:List D)(μ Q):aR (.ls a) (.ls b) μ Q=(a.length+b.length≤1000000∧Q (.ls (a++b)) μ):=rfl
theorem fI (a:List D)(μ Q):lS [.tup a] μ Q=Q (.tup a) μ:=rfl
theorem fE (a:List D)(μ Q):lS [.ls a] μ Q=Q (.tup a) μ:=rfl
theorem gu (a:Addr)(μ Q):lS [.obj a] μ Q=kL μ a fun xs=>Q (.tup xs) μ:=rfl
theorem f6 (a:List D)(μ Q):kG [.tup a] μ Q=Q (.ls a) μ:=rfl
theorem fk (a:List D)(μ Q):kG [.ls a] μ Q=Q (.ls a) μ:=rfl
theorem fe (a:Addr)(μ Q):kG [.obj a] μ Q=kL μ a fun xs=>Q (.ls xs) μ:=rfl
theorem ft (a:List D)(μ Q):lV [.tup a] μ Q = ∀ p,μ p=none→Q (.obj p) (up μ p (.lst a)):=rfl
theorem fx (a:List D)(μ Q):lV [.ls a] μ Q = ∀ p,μ p=none→Q (.obj p) (up μ p (.lst a)):=rfl
theorem fH (a:Addr)(μ Q):lV [.obj a] μ Q=kL μ a fun xs=>∀ p,μ p=none→Q (.obj p) (up μ p (.lst xs)):=rfl
theorem o9 (a:List D)(lo hi)(μ Q):rSl (.tup a) lo hi μ Q=Q (.tup (cutD a lo hi)) μ:=rfl
theorem pA (a:List D)(lo hi)(μ Q):rSl (.ls a) lo hi μ Q=Q (.ls (cutD a lo hi)) μ:=rfl
theorem oY (a:Addr)(lo hi)(μ Q):rSl (.obj a) lo hi μ Q=kL μ a fun xs=>Q (.ls (cutD xs lo hi)) μ:=rfl
theorem qu (n:Bool)(x:D)(a:List D)(μ Q):L3.rIn n x (.tup a) μ Q=((cA x=true∧a.all cA=true)∧Q (.bl (if n then !inD x a else inD x a)) μ):=rfl
theorem pC (n:Bool)(x:D)(a:List D)(μ Q):L3.rIn n x (.ls a) μ Q=((cA x=true∧a.all cA=true)∧Q (.bl (if n then !inD x a else inD x a)) μ):=rfl
theorem oO (n:Bool)(x:D)(a:Addr)(μ Q):L3.rIn n x (.obj a) μ Q=kL μ a fun xs=>(cA x=true∧xs.all cA=true)∧Q (.bl (if n then !inD x xs else inD x xs)) μ:=rfl
theorem mr (a:Addr)(μ Q):dh [.obj a] μ Q=kL μ a fun xs=>Q (.int xs.length) μ:=rfl
theorem lU (x:Str)(μ Q):dh [.str x] μ Q=(x.length≤1000000∧Q (.int x.length) μ):=rfl
theorem pO (μ Q):rIs .non .non μ Q=Q (.bl true) μ:=rfl
theorem oA (i:Int)(μ Q):rIs (.int i) .non μ Q=Q (.bl false) μ:=rfl
theorem pU (i:List D)(μ Q):rIs (.tup i) .non μ Q=Q (.bl false) μ:=rfl
theorem gr (μ Q):lb .non .non μ Q=Q (.bl false) μ:=rfl
theorem fR (i:Int)(μ Q):lb (.int i) .non μ Q=Q (.bl true) μ:=rfl
theorem fK (i:List D)(μ Q):lb (.tup i) .non μ Q=Q (.bl true) μ:=rfl
theorem lj (c:String)(i:List D)(μ Q):nE c (.ls i) μ Q=Q (.bl (aA "list" c)) μ:=rfl
theorem lM (c:String)(i:Str)(μ Q):nE c (.str i) μ Q=Q (.bl (aA "str" c)) μ:=rfl
theorem md (c:String)(μ Q):nE c .non μ Q=Q (.bl (aA "NoneType" c)) μ:=rfl
theorem bu (k:Nat)(ds:List D):atD ds (k:Int)=ds[k]?:=by
  unfold atD L2.atI L2.ixN
  rw[if_pos (Int.natCast_nonneg k)]
  by_cases h:k < ds.length
  · rw[if_pos (by omega)];simp
  · rw[if_neg (by omega)];simp;omega
theorem fC (ds:List D):atD ds 0=ds[0]?:=bu 0 ds
theorem fZ (ds:List D):atD ds 1=ds[1]?:=bu 1 ds
theorem ie (ds:List D):atD ds 2=ds[2]?:=bu 2 ds
theorem kn (ds:List D):atD ds 3=ds[3]?:=bu 3 ds
theorem mR (ds:List D):atD ds 4=ds[4]?:=bu 4 ds
theorem ng (ds:List D):atD ds 5=ds[5]?:=bu 5 ds
theorem iT (n k:Nat):L2.ixN n (k:Int)=if k < n then some k else none:=by
  unfold L2.ixN
  rw[if_pos (Int.natCast_nonneg k)]
  by_cases h:k < n
  · rw[if_pos (by omega),if_pos h];simp
  · rw[if_neg (by omega),if_neg h]
theorem qv (n:Nat):L2.ixN n 0=if 0 < n then some 0 else none:=iT n 0
theorem pQ (n:Nat):L2.ixN n 1=if 1 < n then some 1 else none:=iT n 1
theorem pN (n:Nat):L2.ixN n 2=if 2 < n then some 2 else none:=iT n 2
theorem dX:aA "int" "int" = true:=by decide
theorem dC:aA "int" "bool" = false:=by decide
theorem dM:aA "bool" "bool" = true:=by decide
theorem dI:aA "bool" "int" = true:=by decide
theorem dR:aA "tuple" "tuple" = true:=by decide
theorem dN:aA "int" "tuple" = false:=by decide
theorem dt:aA "bool" "tuple" = false:=by decide
theorem fm0 {a n:Int}(h:0 < n):0≤a.fmod n:=Int.fmod_nonneg_of_pos a h
theorem fm1 {a n:Int}(h:0 < n):a.fmod n < n:=Int.fmod_lt_of_pos a h
theorem qE (A B:Prop):kIf true A B=A:=rfl
theorem qR (A B:Prop):kIf false A B=B:=rfl
theorem qN (p:Prop) [Decidable p] (A B:Prop):kIf (decide p) A B=if p then A else B:=by by_cases h:p<;>simp[h,kIf]
theorem o6 (c:Bool)(A B:Prop):kIf (!c) A B=kIf c B A:=by cases c<;>rfl
theorem qC (c:Bool)(f):kB (.bl c) f=f c:=rfl
theorem kZ (c:Int)(f):kI (.int c) f=f c:=rfl
theorem jl (c:D)(f):kO (some c) f=f c:=rfl
theorem k7 (c:List D)(f):kS (.tup c) f=f c:=rfl
theorem pY (c:List D)(f):kS (.ls c) f=f c:=rfl
theorem lA (a b:D)(f):k2 [a,b] f=f a b:=rfl
theorem iV (c:Nat)(f):kN (some c) f=f c:=rfl
theorem mV (μ:Mu)(a:Addr)(ds:List D)(f):kL (up μ a (.lst ds)) a f=f ds:=by unfold kL;rw[aC]
theorem uy {μ:Mu}{a:Addr}{ds:List D}(h:μ a=some (.lst ds))(f):kL μ a f=f ds:=by unfold kL;rw[h]
theorem gm (a:Addr)(n:Int)(y:D)(μ:Mu)(f):xG (.obj a) (.int n) y μ f=kL μ a fun ds=>kN (L2.ixN ds.length n) fun j=>f (up μ a (.lst (ds.set j y))):=rfl
theorem lD (i j:Int)(μ Q):kY (.int i) (.int j) μ Q=Q (.int (i - j)) μ:=rfl
theorem me (i j:Int)(μ Q):d9 (.int i) (.int j) μ Q=(MulOk i j∧Q (.int (i*j)) μ):=rfl
theorem k6 (i j:Int)(μ Q):nA (.int i) (.int j) μ Q=(c6 j∧Q (.int (i.fdiv j)) μ):=rfl
theorem ku (i j:Int)(μ Q):fz (.int i) (.int j) μ Q=(j≠0∧Q (.int (i.fmod j)) μ):=rfl
theorem lG (i j:Int)(μ Q):jd (.int i) (.int j) μ Q=(fQ i j∧Q (.int (i ^ j.toNat)) μ):=rfl
theorem lR (i:Int)(μ Q):lI (.int i) μ Q=Q (.int (-i)) μ:=rfl
theorem oQ (i j:Int)(μ Q):rLt (.int i) (.int j) μ Q=Q (.bl (decide (i < j))) μ:=rfl
theorem qS (i j:Int)(μ Q):rLe (.int i) (.int j) μ Q=Q (.bl (decide (i≤j))) μ:=rfl
theorem pX (i j:Int)(μ Q):rGt (.int i) (.int j) μ Q=Q (.bl (decide (j < i))) μ:=rfl
theorem qf (i j:Int)(μ Q):rGe (.int i) (.int j) μ Q=Q (.bl (decide (j≤i))) μ:=rfl
theorem oN (x y:D)(μ Q):L3.rEq x y μ Q=((okD 40 x=true∧okD 40 y=true)∧Q (.bl (eqD x y)) μ):=rfl
theorem qA (x y:D)(μ Q):L3.rNe x y μ Q=((okD 40 x=true∧okD 40 y=true)∧Q (.bl (!eqD x y)) μ):=rfl
theorem jy (ds:List D)(i:Int)(μ Q):L3.rIx (.tup ds) (.int i) μ Q=kO (atD ds i) fun d=>Q d μ:=rfl
theorem pM (ds:List D)(i:Int)(μ Q):L3.rIx (.ls ds) (.int i) μ Q=kO (atD ds i) fun d=>Q d μ:=rfl
theorem pE (a:Addr)(i:Int)(μ Q):L3.rIx (.obj a) (.int i) μ Q=kL μ a fun ds=>kO (atD ds i) fun d=>Q d μ:=rfl
theorem l8 (c:String)(i:Int)(μ Q):nE c (.int i) μ Q=Q (.bl (aA "int" c)) μ:=rfl
theorem mn (c:String)(i:Bool)(μ Q):nE c (.bl i) μ Q=Q (.bl (aA "bool" c)) μ:=rfl
theorem lg (c:String)(i:List D)(μ Q):nE c (.tup i) μ Q=Q (.bl (aA "tuple" c)) μ:=rfl
theorem lB (i:Int)(μ Q):gD [.int i] μ Q=Q (.int (if i < 0 then -i else i)) μ:=rfl
theorem mq (i j:Int)(μ Q):jY [.int i,.int j] μ Q=Q (.int (if j > i then j else i)) μ:=rfl
theorem kW (i j:Int)(μ Q):f9 [.int i,.int j] μ Q=Q (.int (if j < i then j else i)) μ:=rfl
theorem kF (i:Int)(μ Q):oP [.int i] μ Q=Q (.int i) μ:=rfl
theorem kP (i:Bool)(μ Q):oP [.bl i] μ Q=Q (.int (if i then 1 else 0)) μ:=rfl
theorem lq (i:List D)(μ Q):dh [.tup i] μ Q=Q (.int i.length) μ:=rfl
theorem kx (i:List D)(μ Q):dh [.ls i] μ Q=Q (.int i.length) μ:=rfl
local macro_rules | `(tactic| walk_at "rd")=>`(tactic| try simp only[ah,TC,ai,TUn,eK,uR,ix,TB,qB,TOr,cW,qM,dm,aj,ae,bq,bO,pI,ao,cD,aK,l5,p8,qa,a8,qQ,eM,aw,a9,ka,di,jT,cu,lP, 
  qE,qR,qN,o6,qC,kZ,jl,k7,pY,lA,iV,mV,gm,iR,iH,jb,iL,wF,gs,w6,fI,fE,gu,f6,fk,fe,ft,fx,fH,TSl,ONo,iK,o9,pA,oY,qu,pC,oO,mr,lU,pO,oA,pU,gr,fR,fK,lj,lM,md,lD,me,k6,ku,lG,lR,oQ,qS,pX,qf,oN,qA,jy,pM,pE,l8,mn,lg,lB,mq,kW,kF,kP,lq,kx,
  lk,ini,List.map,List.length,List.replicate,List.append,List.set,List.cons_append,List.nil_append,Nat.sub_self,Nat.reduceSub,Nat.reduceAdd,
  fC,fZ,ie,kn,mR,ng,qv,pQ,pN,List.getElem?_cons_zero,List.getElem?_cons_succ,aC,Nat.reduceLT,Nat.reduceLeDiff,if_true,if_false,true_and,and_true,Bool.not_true,Bool.not_false,Nat.lt_add_one,Nat.zero_lt_succ,Nat.succ_lt_succ_iff,Nat.zero_lt_one,
  decide_eq_true_eq,Bool.false_eq_true,ite_false,ite_true,ne_eq,not_false_eq_true,Int.reduceToNat,Int.reducePow,Int.reduceNeg,Int.reduceSub,Int.reduceAdd,Int.reduceMul,Int.reduceEq,okD,cF,eqD,gZ,Bool.and_self,Bool.and_true,Bool.true_and,dX,dC,dM,dI,dR,dN,dt])
local macro_rules | `(tactic| walk_at "ok")=>`(tactic| (simp only[L3.c6,L3.MulOk,L3.S64,L3.hZ,L3.fQ] at *;omega))
def Box (μ:Mu)(b:Addr):Prop:=∃ g s c:Int,μ b=some (.lst [.int g,.int s,.int c])∧0≤s∧s < 2147483647
structure bC (b:Addr) (μ μ':Mu):Prop where
  box:Box μ' b
  oth:∀ a,a≠b→μ' a=μ a
theorem bC.trans {b:Addr}{μ μ1 μ2:Mu}(x:bC b μ μ1)(y:bC b μ1 μ2):bC b μ μ2:=⟨y.box,fun a h=>(y.oth a h).trans (x.oth a h)⟩
def ax:FSp:=fun ds μ Q=>match ds with
  | [.obj b,.int n]=>(Box μ b∧0 < n∧n < 18446744073709551616)∧∀ k μ',0≤k→k < n→bC b μ μ'→Q (.int k) μ'
  | _=>False
def oJ:STr:=aK (di (ah 0) (TC (.int 2)) (ai aR (ai L3.rIx (ah 0) (TC (.int 2))) (TC (.int 1)))) (aK (eM (qB (TB (ai rGt (ai L3.rIx (ah 0) (TC (.int 0))) (TC (.int 0)))) (TB (ai rLe (ai L3.rIx (ah 0) (TC (.int 2))) (TC (.int 60))))) (aK (a9 (ai fz (ai L3.rIx (ah 0) (TC (.int 0))) (ah 1)) (aw 2)) (aK (di (ah 0) (TC (.int 0)) (ai nA (ai L3.rIx (ah 0) (TC (.int 0))) (ah 1))) (a8 (ah 2)))) (cD)) (aK (di (ah 0) (TC (.int 1)) (ai fz (ai aR (ai aR (ai d9 (ai L3.rIx (ah 0) (TC (.int 1))) (TC (.int 48271))) (TC (.int 12345))) (ai L3.rIx (ah 0) (TC (.int 2)))) (TC (.int 2147483647)))) (a8 (ai fz (ai nA (ai fz (ai d9 (ai L3.rIx (ah 0) (TC (.int 1))) (ai aR (ai fz (ai L3.rIx (ah 0) (TC (.int 1))) (TC (.int 40009))) (TC (.int 3)))) (TC (.int 2147483629))) (TC (.int 7))) (ah 1)))))
theorem sZ:∀ ds μ Q,ax ds μ Q→oJ { nx:=fun _ μ'=>RT Q .non μ',rt:=RT Q } (ini 3 ds) μ:=by
  intro ds μ Q h
  unfold ax at h
  split at h
  case h_2=>exact h.elim
  rename_i b n
  obtain ⟨⟨⟨g,s,c,hb,s0,s1⟩,n0,n1⟩,k⟩:=h
  unfold oJ
  walk_at "rd"
  repeat (simp only[uy hb];walk_at "rd")
  have dv:c6 n:=by walk_at "ok"
  have n2:n≠0:=by omega
  have fin:∀ g' s':Int,∀ d:Int,0≤s'→s' < 2147483647→0≤d→d < n→RT Q (.int d) (up (up μ b (.lst [.int g,.int s,.int (c+1)])) b (.lst [.int g',.int s',.int (c+1)])):=fun g' s' d h1 h2 h3 h4=>
    ⟨_,.refl _,k d _ h3 h4 ⟨⟨g',s',c+1,aC,h1,h2⟩,fun a ha=>by rw[bx ha,bx ha]⟩⟩
  have els:MulOk s 48271∧MulOk ((s*48271+12345+(c+1)).fmod 2147483647) (((s*48271+12345+(c+1)).fmod 2147483647).fmod 40009+3)∧c6 7:=by
    have h1:=fm0 (a:=s*48271+12345+(c+1)) (n:=2147483647) (by decide)
    have h2:=fm1 (a:=s*48271+12345+(c+1)) (n:=2147483647) (by decide)
    refine ⟨by walk_at "ok", ?_,by walk_at "ok"⟩
    generalize (s*48271+12345+(c+1)).fmod 2147483647=z at *
    walk_at "ok"
  obtain ⟨e1,e2,e3⟩:=els
  have w:=fun g'=>fin g' ((s*48271+12345+(c+1)).fmod 2147483647) _ (fm0 (by decide)) (fm1 (by decide)) (fm0 (a:=(((s*48271+12345+(c+1)).fmod 2147483647*(((s*48271+12345+(c+1)).fmod 2147483647).fmod 40009+3)).fmod 2147483629).fdiv 7) n0) (fm1 n0)
  split
  · split
    · exact ⟨n2,dv,fin _ _ _ s0 s1 (fm0 n0) (fm1 n0)⟩
    · exact ⟨e1,e2,e3,n2,w g⟩
  · exact ⟨e1,e2,e3,n2,w g⟩
theorem bt {μ:Mu}{b:Addr}{n:Int}{Q:DK}(hB:Box μ b)(h0:0 < n)(h1:n < 18446744073709551616)(h:∀ k μ',0≤k→k < n→bC b μ μ'→Q (.int k) μ'):ax [.obj b,.int n] μ Q:=⟨⟨hB,h0,h1⟩,h⟩
theorem qY:∀ ds μ Q,ax ds μ Q→ds.length=2:=by
  unfold ax
  walk_at "ln"
def d7:FSp:=fun ds μ Q=>match ds with
  | [.int a,.int b]=>(0 < b∧hZ b)∧Q (.tup [.int (a.fdiv (Int.gcd a b)),.int (b.fdiv (Int.gcd a b))]) μ
  | _=>False
theorem rh:∀ ds μ Q,d7 ds μ Q→ds.length=2:=by
  unfold d7
  walk_at "ln"
def uz:STr:=aK (ka 2 3 (ae (ao gD (ae (ah 0) (aj))) (ae (ah 1) (aj)))) (aK (k5 (TB (ai rGt (ah 3) (TC (.int 0)))) (ka 2 3 (ae (ah 3) (ae (ai fz (ah 2) (ah 3)) (aj))))) (a8 (bq (ae (ai nA (ah 0) (ah 2)) (ae (ai nA (ah 1) (ah 2)) (aj))))))
theorem jG (x y:Int):Int.gcd y (x.fmod y)=Int.gcd x y:=by
  rw[Int.fmod_def,Int.gcd_sub_mul_left_right,Int.gcd_comm]
theorem kH (a:Int):(if a < 0 then -a else a)=(a.natAbs:Int):=by
  split<;>omega
def mz (i:Nat):ST→Mu→Nat:=fun ρ _=>match lk ρ i with
  | some (.int z)=>z.toNat
  | _=>0
theorem wZ:∀ ds μ Q,d7 ds μ Q→uz { nx:=fun _ μ'=>RT Q .non μ',rt:=RT Q } (ini 4 ds) μ:=by
  intro ds μ Q h
  unfold d7 at h
  split at h
  case h_2=>exact h.elim
  rename_i a b
  obtain ⟨⟨b0,b1⟩,k⟩:=h
  unfold uz
  walk_at "rd"
  refine ⟨fun ρ μ'=>μ'=μ∧∃ x y:Int,ρ=[some (.int a),some (.int b),some (.int x),some (.int y)]∧0≤x∧0≤y∧Int.gcd x y=Int.gcd a b,mz 3,⟨rfl,_,b,rfl,?_,by omega,?_⟩,?_⟩
  · split<;>omega
  · rw[kH];unfold Int.gcd;rw[Int.natAbs_natCast]
  · rintro ρ _ ⟨rfl,x,y,rfl,x0,y0,e⟩
    walk_at "rd"
    split
    · rename_i hy
      refine ⟨by omega,⟨_,_,rfl,y0,fm0 hy,?_⟩,?_⟩
      · rw[jG];exact e
      · have:=fm1 (a:=x) hy
        have:=fm0 (a:=x) hy
        simp only[mz,lk]
        omega
    · rename_i hy
      have hy0:y=0:=by omega
      subst hy0
      rw[Int.gcd_zero_right] at e
      have hx:x=(Int.gcd a b:Int):=by omega
      subst hx
      have gp:0 < Int.gcd a b:=Int.gcd_pos_of_ne_zero_right a (by omega)
      have gl:(Int.gcd a b:Int)≤b:=Int.gcd_le_right a b0
      have dv:c6 (Int.gcd a b:Int):=by walk_at "ok"
      exact ⟨dv,dv,_,.refl _,k⟩
structure Fr (p q:Int):Prop where
  q0:0 < q
  q1:q < 100000000000
  p0:-100000000000 < p
  p1:p < 100000000000
  g:Int.gcd p q=1
theorem jL {a b:Int}(h:0 < b):a.fdiv b=a / b:=Int.fdiv_eq_ediv_of_nonneg a (Int.le_of_lt h)
theorem wL {a b:Int}(b0:0 < b)(b1:b < 100000000000)(a0:-100000000000 < a)(a1:a < 100000000000):Fr (a.fdiv (Int.gcd a b)) (b.fdiv (Int.gcd a b)):=by
  have gp:0 < Int.gcd a b:=Int.gcd_pos_of_ne_zero_right a (by omega)
  have gl:(Int.gcd a b:Int)≤b:=Int.gcd_le_right a b0
  have gz:0 < (Int.gcd a b:Int):=by omega
  rw[jL gz,jL gz]
  obtain ⟨c,hc⟩:=Int.gcd_dvd_left a b
  obtain ⟨d,hd⟩:=Int.gcd_dvd_right a b
  have e1:a / (Int.gcd a b:Int)=c:=Int.ediv_eq_of_eq_mul_right (by omega) hc
  have e2:b / (Int.gcd a b:Int)=d:=Int.ediv_eq_of_eq_mul_right (by omega) hd
  have g1:=Int.gcd_ediv_gcd_ediv_gcd gp
  rw[e1,e2] at g1 ⊢
  generalize (Int.gcd a b:Int)=g at *
  have d0:0 < d:=by
    rcases Int.lt_trichotomy d 0 with h | h | h
    · have:=Int.mul_neg_of_pos_of_neg gz h;omega
    · subst h;omega
    · exact h
  have d1:d≤b:=by
    have h:=Int.mul_le_mul_of_nonneg_right (show (1:Int)≤g by omega) (show (0:Int)≤d by omega)
    omega
  have c1:-(100000000000:Int) < c∧c < 100000000000:=by
    have:c.natAbs≤a.natAbs:=by
      rw[hc,Int.natAbs_mul]
      exact Nat.le_mul_of_pos_left _ (by omega)
    omega
  exact ⟨d0,by omega,c1.1,c1.2,g1⟩
def bE:FSp:=fun ds μ Q=>match ds with
  | [.obj b]=>Box μ b∧∀ z μ',-1000000000 < z→z < 1000000000→bC b μ μ'→Q (.int z) μ'
  | _=>False
theorem lZ:∀ ds μ Q,bE ds μ Q→ds.length=1:=by
  unfold bE
  walk_at "ln"
def j2 (e:Int):STr:=aK (a9 (bO (ae (TC (.int 3)) (ae (TC (.int 13)) (ae (TC (.int 1000)) (ae (ai jd (TC (.int 10)) (TC (.int e))) (aj)))))) (aw 1)) (aK (a9 (ao ax (ae (ah 0) (ae (ai L3.rIx (ah 1) (ao ax (ae (ah 0) (ae (TC (.int 4)) (aj))))) (aj)))) (aw 2)) (a8 (ai d9 (ah 2) (ai L3.rIx (bO (ae (TC (.int 1)) (ae (TUn lI (TC (.int 1))) (aj)))) (ao ax (ae (ah 0) (ae (TC (.int 2)) (aj))))))))
theorem at2 {a b:D}{k:Int}(h0:0≤k)(h1:k < 2):(k=0∧atD [a,b] k=some a)∨(k=1∧atD [a,b] k=some b):=by
  have:k=0∨k=1:=by omega
  rcases this with rfl | rfl
  · exact .inl ⟨rfl,by rw[fC];rfl⟩
  · exact .inr ⟨rfl,by rw[fZ];rfl⟩
theorem at3 {a b c:D}{k:Int}(h0:0≤k)(h1:k < 3):atD [a,b,c] k=some a∨atD [a,b,c] k=some b∨atD [a,b,c] k=some c:=by
  have:k=0∨k=1∨k=2:=by omega
  rcases this with rfl | rfl | rfl
  · exact .inl (by rw[fC];rfl)
  · exact .inr (.inl (by rw[fZ];rfl))
  · exact .inr (.inr (by rw[ie];rfl))
theorem at4 {a b c d:D}{k:Int}(h0:0≤k)(h1:k < 4):atD [a,b,c,d] k=some a∨atD [a,b,c,d] k=some b∨atD [a,b,c,d] k=some c∨atD [a,b,c,d] k=some d:=by
  have:k=0∨k=1∨k=2∨k=3:=by omega
  rcases this with rfl | rfl | rfl | rfl
  · exact .inl (by rw[fC];rfl)
  · exact .inr (.inl (by rw[fZ];rfl))
  · exact .inr (.inr (.inl (by rw[ie];rfl)))
  · exact .inr (.inr (.inr (by rw[kn];rfl)))
theorem xy {a b c d k M:Int}(h0:0≤k)(h1:k < 4)(ha:0 < a∧a≤M)(hb:0 < b∧b≤M)(hc:0 < c∧c≤M)(hd:0 < d∧d≤M):∃ n:Int,atD [.int a,.int b,.int c,.int d] k=some (.int n)∧0 < n∧n≤M:=by
  rcases at4 (a:=.int a) (b:=.int b) (c:=.int c) (d:=.int d) h0 h1 with e | e | e | e
  · exact ⟨a,e,ha⟩
  · exact ⟨b,e,hb⟩
  · exact ⟨c,e,hc⟩
  · exact ⟨d,e,hd⟩
theorem oo {e:Int}(he:e=7∨e=8∨e=9):∀ ds μ Q,bE ds μ Q→j2 e { nx:=fun _ μ'=>RT Q .non μ',rt:=RT Q } (ini 3 ds) μ:=by
  intro ds μ Q h
  unfold bE at h
  split at h
  case h_2=>exact h.elim
  rename_i b
  obtain ⟨hB,k⟩:=h
  have pw:fQ 10 e∧0 < (10:Int) ^ e.toNat∧(10:Int) ^ e.toNat≤1000000000:=by
    rcases he with rfl | rfl | rfl<;>exact ⟨⟨by decide,by decide,by decide⟩,by decide,by decide⟩
  unfold j2
  walk_at "rd"
  refine ⟨pw.1,bt hB (by decide) (by decide) fun k1 μ1 k10 k11 B1=>?_⟩
  obtain ⟨n,en,n0,n1⟩:=xy (M:=1000000000) k10 k11 (a:=3) (b:=13) (c:=1000) (d:=10 ^ e.toNat) (by decide) (by decide) (by decide) pw.2
  walk_at "rd"
  rw[en]
  walk_at "rd"
  refine bt B1.box n0 (by omega) fun k2 μ2 k20 k21 B2=>?_
  walk_at "rd"
  refine bt B2.box (by decide) (by decide) fun k3 μ3 k30 k31 B3=>?_
  walk_at "rd"
  have BB:=B1.trans (B2.trans B3)
  rcases at2 (a:=.int 1) (b:=.int (-1)) k30 k31 with ⟨_,e3⟩ | ⟨_,e3⟩
  · rw[e3]
    walk_at "rd"
    exact ⟨by walk_at "ok", _,.refl _,k _ _ (by omega) (by omega) BB⟩
  · rw[e3]
    walk_at "rd"
    exact ⟨by walk_at "ok", _,.refl _,k _ _ (by omega) (by omega) BB⟩
def bF:FSp:=fun ds μ Q=>match ds with
  | [.obj b,.int _]=>Box μ b∧∀ z μ',0 < z→z < 1000000001→bC b μ μ'→Q (.int z) μ'
  | _=>False
theorem lu:∀ ds μ Q,bF ds μ Q→ds.length=2:=by
  unfold bF
  walk_at "ln"
def ju (e:Int):STr:=aK (a9 (bO (ae (TC (.int 3)) (ae (TC (.int 13)) (ae (TC (.int 60)) (ae (ai kY (ai jd (TC (.int 10)) (TC (.int e))) (TC (.int 1))) (aj)))))) (aw 2)) (aK (a9 (ai aR (TC (.int 1)) (ao ax (ae (ah 0) (ae (ai L3.rIx (ah 2) (ao ax (ae (ah 0) (ae (TC (.int 4)) (aj))))) (aj))))) (aw 3)) (a8 (ai L3.rIx (bO (ae (ah 3) (ae (ao jY (ae (TC (.int 1)) (ae (ao f9 (ae (ao gD (ae (ah 1) (aj))) (ae (ai kY (ai jd (TC (.int 10)) (TC (.int e))) (TC (.int 1))) (aj)))) (aj)))) (ae (ah 3) (aj))))) (ao ax (ae (ah 0) (ae (TC (.int 3)) (aj)))))))
theorem oe {e:Int}(he:e=7∨e=8∨e=9):∀ ds μ Q,bF ds μ Q→ju e { nx:=fun _ μ'=>RT Q .non μ',rt:=RT Q } (ini 4 ds) μ:=by
  intro ds μ Q h
  unfold bF at h
  split at h
  case h_2=>exact h.elim
  rename_i b t
  obtain ⟨hB,k⟩:=h
  have pw:fQ 10 e∧0 < (10:Int) ^ e.toNat - 1∧(10:Int) ^ e.toNat - 1≤999999999:=by
    rcases he with rfl | rfl | rfl<;>exact ⟨⟨by decide,by decide,by decide⟩,by decide,by decide⟩
  unfold ju
  walk_at "rd"
  refine ⟨pw.1,bt hB (by decide) (by decide) fun k1 μ1 k10 k11 B1=>?_⟩
  obtain ⟨n,en,n0,n1⟩:=xy (M:=999999999) k10 k11 (a:=3) (b:=13) (c:=60) (d:=10 ^ e.toNat - 1) (by decide) (by decide) (by decide) pw.2
  walk_at "rd"
  rw[en]
  walk_at "rd"
  refine bt B1.box n0 (by omega) fun k2 μ2 k20 k21 B2=>?_
  walk_at "rd"
  refine ⟨pw.1,bt B2.box (by decide) (by decide) fun k3 μ3 k30 k31 B3=>?_⟩
  have BB:=B1.trans (B2.trans B3)
  walk_at "rd"
  generalize (10:Int) ^ e.toNat - 1=M at *
  rcases at3 (a:=.int (1+k2)) (b:=.int (if (if M < (if t < 0 then -t else t) then M else (if t < 0 then -t else t)) > 1 then (if M < (if t < 0 then -t else t) then M else (if t < 0 then -t else t)) else 1)) (c:=.int (1+k2)) k30 k31 with e3 | e3 | e3
  · rw[e3]
    exact ⟨_,.refl _,k _ _ (by omega) (by omega) BB⟩
  · rw[e3]
    exact ⟨_,.refl _,k _ _ (by split<;>omega) (by split<;>split<;>omega) BB⟩
  · rw[e3]
    exact ⟨_,.refl _,k _ _ (by omega) (by omega) BB⟩
def a7:FSp:=fun ds μ Q=>match ds with
  | [.obj b]=>Box μ b∧∀ p q μ',Fr p q→bC b μ μ'→Q (.tup [.int p,.int q]) μ'
  | _=>False
theorem jn:∀ ds μ Q,a7 ds μ Q→ds.length=1:=by
  unfold a7
  walk_at "ln"
def fw:STr:=aK (a9 (ao bE (ae (ah 0) (aj))) (aw 1)) (a8 (ao d7 (ae (ah 1) (ae (ao bF (ae (ah 0) (ae (ah 1) (aj)))) (aj)))))
theorem jK:∀ ds μ Q,a7 ds μ Q→fw { nx:=fun _ μ'=>RT Q .non μ',rt:=RT Q } (ini 2 ds) μ:=by
  intro ds μ Q h
  unfold a7 at h
  split at h
  case h_2=>exact h.elim
  rename_i b
  obtain ⟨hB,k⟩:=h
  unfold fw
  walk_at "rd"
  refine ⟨hB,fun z μ1 z0 z1 B1=>?_⟩
  refine ⟨B1.box,fun y μ2 y0 y1 B2=>?_⟩
  refine ⟨⟨y0,by walk_at "ok"⟩,_,.refl _,k _ _ _ (wL y0 (by omega) (by omega) (by omega)) (B1.trans B2)⟩
def eg:FSp:=fun ds μ Q=>match ds with
  | [.ls xs,.int k]=>(∃ ns:List Int,xs=ns.map .int∧0≤k∧k≤1000)∧∀ p μ',μ p=none→Box μ' p→(∀ a,a≠p→μ' a=μ a)→Q (.obj p) μ'
  | _=>False
theorem rN:∀ ds μ Q,eg ds μ Q→ds.length=2:=by
  unfold eg
  walk_at "ln"
def uE:STr:=aK (a9 (qM (TB (ai rLt (ah 1) (ao dh (ae (ah 0) (aj))))) (ai L3.rIx (ah 0) (ah 1)) (TC (.int 0))) (aw 2)) (aK (a9 (ai d9 (ao gD (ae (ah 2) (aj))) (ao oP (ae (ai rGe (ao gD (ae (ah 2) (aj))) (ai jd (TC (.int 10)) (TC (.int 18)))) (aj)))) (aw 3)) (a8 (pI (ae (ah 3) (ae (ai fz (ai d9 (ai aR (ai aR (ai fz (ah 2) (TC (.int 2147483629))) (ai d9 (ai d9 (TC (.int 7919)) (ah 1)) (ah 1))) (TC (.int 11))) (TC (.int 48271))) (TC (.int 2147483647))) (ae (TC (.int 0)) (aj)))))))
theorem qe {ns:List Int}{k:Int}(h0:0≤k)(h1:k < (ns.length:Int)):∃ z,atD (ns.map D.int) k=some (.int z):=by
  rcases Int.eq_ofNat_of_zero_le h0 with ⟨j,rfl⟩
  rw[bu]
  have hj:j < ns.length:=by omega
  exact ⟨ns[j],by simp[hj]⟩
theorem wm:∀ ds μ Q,eg ds μ Q→uE { nx:=fun _ μ'=>RT Q .non μ',rt:=RT Q } (ini 4 ds) μ:=by
  intro ds μ Q h
  unfold eg at h
  split at h
  case h_2=>exact h.elim
  rename_i xs k
  obtain ⟨⟨ns,rfl,k0,k1⟩,hk⟩:=h
  have fin:∀ c:Int,fQ 10 18∧MulOk (if c < 0 then -c else c) (if decide (1000000000000000000≤(if c < 0 then -c else c))=true then 1 else 0)∧MulOk 7919 k∧MulOk (7919*k) k∧MulOk (c.fmod 2147483629+7919*k*k+11) 48271:=fun c=>
    ⟨by walk_at "ok", by split<;>walk_at "ok", by walk_at "ok", by walk_at "ok", .inl (.inr (by unfold S64;omega))⟩
  unfold uE
  walk_at "rd"
  have go:∀ c:Int,RT Q=RT Q→∀ g s:Int,0≤s→s < 2147483647→∀ p,μ p=none→RT Q (.obj p) (up μ p (.lst [.int g,.int s,.int 0])):=fun c _ g s s0 s1 p hp=>
    ⟨_,.refl _,hk p _ hp ⟨g,s,0,aC,s0,s1⟩ fun a ha=>bx ha⟩
  split
  · rename_i hlt
    rw[List.length_map] at hlt
    obtain ⟨z,ez⟩:=qe k0 hlt
    rw[ez]
    walk_at "rd"
    obtain ⟨f1,f2,f3,f4,f5⟩:=fin z
    simp only[decide_eq_true_eq] at f2
    exact ⟨f1,f2,f3,f4,f5,fun p hp=>go z rfl _ _ (fm0 (by decide)) (fm1 (by decide)) p hp⟩
  · obtain ⟨f1,f2,f3,f4,f5⟩:=fin 0
    simp only[decide_eq_true_eq] at f2
    exact ⟨f1,f2,f3,f4,f5,fun p hp=>go 0 rfl _ _ (fm0 (by decide)) (fm1 (by decide)) p hp⟩
theorem kE {lo:Int}{n:Nat}{d:D}(h:d∈cJ lo n):∃ k:Int,d=.int k∧lo≤k∧k < lo+n:=by
  unfold cJ at h
  rcases List.mem_map.mp h with ⟨i,hi,rfl⟩
  have:=List.mem_range.mp hi
  exact ⟨_,rfl,by omega,by omega⟩
def bj:FSp:=fun ds μ Q=>match ds with
  | [.ls xs]=>(∃ ns:List Int,xs=ns.map .int∧ns.length≤63)∧∀ μ',Q (.bl true) μ'
  | _=>False
theorem je:∀ ds μ Q,bj ds μ Q→ds.length=1:=by
  unfold bj
  walk_at "ln"
theorem dY (ns:List Int)(h:ns.length≤63)(μ:Mu):bj [.ls (ns.map .int)] μ (fun d _=>d=.bl true):=⟨⟨ns,rfl,h⟩,fun _=>rfl⟩
local macro_rules | `(tactic| walk_at "rd")=>`(tactic| try simp only[ah,TC,ai,TUn,eK,uR,ix,TB,qB,TOr,cW,qM,dm,aj,ae,bq,bO,pI,ao,cD,aK,l5,p8,qa,a8,qQ,eM,aw,a9,ka,di,jT,cu,lP,gh,dS,gS,lF,xt,ILs,
  qE,qR,qN,o6,qC,kZ,jl,k7,pY,lA,iV,mV,gm,iR,iH,jb,iL,wF,gs,w6,fI,fE,gu,f6,fk,fe,ft,fx,fH,TSl,ONo,iK,o9,pA,oY,qu,pC,oO,mr,lU,pO,oA,pU,gr,fR,fK,lj,lM,md,lD,me,k6,ku,lG,lR,oQ,qS,pX,qf,oN,qA,jy,pM,pE,l8,mn,lg,lB,mq,kW,kF,kP,lq,kx,
  lk,ini,List.map,List.length,List.replicate,List.append,List.set,List.cons_append,List.nil_append,Nat.sub_self,Nat.reduceSub,Nat.reduceAdd,
  fC,fZ,ie,kn,mR,ng,qv,pQ,pN,List.getElem?_cons_zero,List.getElem?_cons_succ,aC,kf,Nat.reduceLT,Nat.reduceLeDiff,if_true,if_false,true_and,and_true,Bool.not_true,Bool.not_false,Nat.lt_add_one,Nat.zero_lt_succ,Nat.succ_lt_succ_iff,Nat.zero_lt_one,
  decide_eq_true_eq,Bool.false_eq_true,ite_false,ite_true,ne_eq,not_false_eq_true,Int.reduceToNat,Int.reducePow,Int.reduceNeg,Int.reduceSub,Int.reduceAdd,Int.reduceMul,Int.reduceEq,okD,cF,eqD,gZ,Bool.and_self,Bool.and_true,Bool.true_and,dX,dC,dM,dI,dR,dN,dt])
structure IsPart (a b p q:Int):Prop where
  q0:0 < q
  g:Int.gcd p q=1
  e:p*b=a*q
  pa:p.natAbs≤a.natAbs
  qb:q.natAbs≤b.natAbs
def aX:FSp:=fun ds μ Q=>match ds with
  | [.int a,.int b]=>Q (.int (Int.gcd a b)) μ
  | _=>False
theorem hI:∀ ds μ Q,aX ds μ Q→ds.length=2:=by
  unfold aX
  walk_at "ln"
def eE:STr:=aK (a9 (ao gD (ae (ah 0) (aj))) (aw 2)) (aK (a9 (ao gD (ae (ah 1) (aj))) (aw 3)) (aK (k5 (TB (ai rGt (ah 3) (TC (.int 0)))) (aK (a9 (ai fz (ah 2) (ah 3)) (aw 4)) (aK (a9 (ah 3) (aw 2)) (a9 (ah 4) (aw 3))))) (a8 (ah 2))))
theorem i7:∀ ds μ Q,aX ds μ Q→eE { nx:=fun _ μ'=>RT Q .non μ',rt:=RT Q } (ini 5 ds) μ:=by
  intro ds μ Q k
  unfold aX at k
  split at k
  case h_2=>exact k.elim
  rename_i a b
  unfold eE
  walk_at "rd"
  refine ⟨fun ρ μ'=>μ'=μ∧∃ (x y:Int) (z:Option D),ρ=[some (.int a),some (.int b),some (.int x),some (.int y),z]∧0≤x∧0≤y∧Int.gcd x y=Int.gcd a b,mz 3,⟨rfl,_,_,_,rfl,?_,?_,?_⟩,?_⟩
  · split<;>omega
  · split<;>omega
  · rw[kH,kH];unfold Int.gcd;rw[Int.natAbs_natCast,Int.natAbs_natCast]
  · rintro ρ _ ⟨rfl,x,y,z,rfl,x0,y0,e⟩
    walk_at "rd"
    split
    · rename_i hy
      refine ⟨by omega,⟨_,_,_,rfl,y0,fm0 hy,?_⟩,?_⟩
      · rw[jG];exact e
      · have:=fm1 (a:=x) hy
        have:=fm0 (a:=x) hy
        simp only[mz,lk]
        omega
    · rename_i hy
      have hy0:y=0:=by omega
      subst hy0
      rw[Int.gcd_zero_right] at e
      have hx:x=(Int.gcd a b:Int):=by omega
      subst hx
      exact ⟨_,.refl _,k⟩
structure FrB (lo hi p q:Int):Prop where
  q0:0 < q
  q1:q≤10000002
  g:Int.gcd p q=1
  ge:lo*q≤p
  le:p≤hi*q
structure FrA (lo hi p q:Int):Prop extends FrB lo hi p q where
  ab:lo*q < p
structure FrL (hi p q:Int):Prop extends FrB 0 hi p q where
  ab:0 < p
  be:p < hi*q
theorem g9:(Str.ofString "still" = Str.ofString "step")=False:=eq_false (by decide +kernel)
theorem fg:(Str.ofString "still" = Str.ofString "swell")=False:=eq_false (by decide +kernel)
theorem g8:(Str.ofString "still" = Str.ofString "heed")=False:=eq_false (by decide +kernel)
theorem gT:(Str.ofString "still" = Str.ofString "calm")=False:=eq_false (by decide +kernel)
theorem g7:(Str.ofString "step" = Str.ofString "still")=False:=eq_false (by decide +kernel)
theorem gN:(Str.ofString "step" = Str.ofString "swell")=False:=eq_false (by decide +kernel)
theorem iO:(Str.ofString "step" = Str.ofString "heed")=False:=eq_false (by decide +kernel)
theorem jo:(Str.ofString "step" = Str.ofString "calm")=False:=eq_false (by decide +kernel)
theorem fm:(Str.ofString "swell" = Str.ofString "still")=False:=eq_false (by decide +kernel)
theorem ib:(Str.ofString "swell" = Str.ofString "step")=False:=eq_false (by decide +kernel)
theorem gX:(Str.ofString "swell" = Str.ofString "heed")=False:=eq_false (by decide +kernel)
theorem hV:(Str.ofString "swell" = Str.ofString "calm")=False:=eq_false (by decide +kernel)
theorem gH:(Str.ofString "heed" = Str.ofString "still")=False:=eq_false (by decide +kernel)
theorem i2:(Str.ofString "heed" = Str.ofString "step")=False:=eq_false (by decide +kernel)
theorem gy:(Str.ofString "heed" = Str.ofString "swell")=False:=eq_false (by decide +kernel)
theorem jm:(Str.ofString "heed" = Str.ofString "calm")=False:=eq_false (by decide +kernel)
theorem gO:(Str.ofString "calm" = Str.ofString "still")=False:=eq_false (by decide +kernel)
theorem iZ:(Str.ofString "calm" = Str.ofString "step")=False:=eq_false (by decide +kernel)
theorem gB:(Str.ofString "calm" = Str.ofString "swell")=False:=eq_false (by decide +kernel)
theorem iQ:(Str.ofString "calm" = Str.ofString "heed")=False:=eq_false (by decide +kernel)
theorem nP:PyData.strOk (Str.ofString "still")=true:=by decide +kernel
theorem oU:PyData.strOk (Str.ofString "step")=true:=by decide +kernel
theorem nG:PyData.strOk (Str.ofString "swell")=true:=by decide +kernel
theorem oG:PyData.strOk (Str.ofString "heed")=true:=by decide +kernel
theorem pD:PyData.strOk (Str.ofString "calm")=true:=by decide +kernel
abbrev fr (p q:Int):D:=.tup [.int p,.int q]
theorem bZ (i:Decidable (Str.ofString "still" = Str.ofString "step")):@decide (Str.ofString "still" = Str.ofString "step") i=false:=by cases i with | isTrue h=>exact absurd h (by rw[g9];exact not_false) | isFalse _=>rfl
theorem bG (i:Decidable (Str.ofString "still" = Str.ofString "swell")):@decide (Str.ofString "still" = Str.ofString "swell") i=false:=by cases i with | isTrue h=>exact absurd h (by rw[fg];exact not_false) | isFalse _=>rfl
theorem bT (i:Decidable (Str.ofString "still" = Str.ofString "heed")):@decide (Str.ofString "still" = Str.ofString "heed") i=false:=by cases i with | isTrue h=>exact absurd h (by rw[g8];exact not_false) | isFalse _=>rfl
theorem bS (i:Decidable (Str.ofString "still" = Str.ofString "calm")):@decide (Str.ofString "still" = Str.ofString "calm") i=false:=by cases i with | isTrue h=>exact absurd h (by rw[gT];exact not_false) | isFalse _=>rfl
theorem bW (i:Decidable (Str.ofString "step" = Str.ofString "still")):@decide (Str.ofString "step" = Str.ofString "still") i=false:=by cases i with | isTrue h=>exact absurd h (by rw[g7];exact not_false) | isFalse _=>rfl
theorem bX (i:Decidable (Str.ofString "step" = Str.ofString "swell")):@decide (Str.ofString "step" = Str.ofString "swell") i=false:=by cases i with | isTrue h=>exact absurd h (by rw[gN];exact not_false) | isFalse _=>rfl
theorem cn (i:Decidable (Str.ofString "step" = Str.ofString "heed")):@decide (Str.ofString "step" = Str.ofString "heed") i=false:=by cases i with | isTrue h=>exact absurd h (by rw[iO];exact not_false) | isFalse _=>rfl
theorem cg (i:Decidable (Str.ofString "step" = Str.ofString "calm")):@decide (Str.ofString "step" = Str.ofString "calm") i=false:=by cases i with | isTrue h=>exact absurd h (by rw[jo];exact not_false) | isFalse _=>rfl
theorem bL (i:Decidable (Str.ofString "swell" = Str.ofString "still")):@decide (Str.ofString "swell" = Str.ofString "still") i=false:=by cases i with | isTrue h=>exact absurd h (by rw[fm];exact not_false) | isFalse _=>rfl
theorem bR (i:Decidable (Str.ofString "swell" = Str.ofString "step")):@decide (Str.ofString "swell" = Str.ofString "step") i=false:=by cases i with | isTrue h=>exact absurd h (by rw[ib];exact not_false) | isFalse _=>rfl
theorem b4 (i:Decidable (Str.ofString "swell" = Str.ofString "heed")):@decide (Str.ofString "swell" = Str.ofString "heed") i=false:=by cases i with | isTrue h=>exact absurd h (by rw[gX];exact not_false) | isFalse _=>rfl
theorem b7 (i:Decidable (Str.ofString "swell" = Str.ofString "calm")):@decide (Str.ofString "swell" = Str.ofString "calm") i=false:=by cases i with | isTrue h=>exact absurd h (by rw[hV];exact not_false) | isFalse _=>rfl
theorem b3 (i:Decidable (Str.ofString "heed" = Str.ofString "still")):@decide (Str.ofString "heed" = Str.ofString "still") i=false:=by cases i with | isTrue h=>exact absurd h (by rw[gH];exact not_false) | isFalse _=>rfl
theorem cw (i:Decidable (Str.ofString "heed" = Str.ofString "step")):@decide (Str.ofString "heed" = Str.ofString "step") i=false:=by cases i with | isTrue h=>exact absurd h (by rw[i2];exact not_false) | isFalse _=>rfl
theorem b6 (i:Decidable (Str.ofString "heed" = Str.ofString "swell")):@decide (Str.ofString "heed" = Str.ofString "swell") i=false:=by cases i with | isTrue h=>exact absurd h (by rw[gy];exact not_false) | isFalse _=>rfl
theorem cm (i:Decidable (Str.ofString "heed" = Str.ofString "calm")):@decide (Str.ofString "heed" = Str.ofString "calm") i=false:=by cases i with | isTrue h=>exact absurd h (by rw[jm];exact not_false) | isFalse _=>rfl
theorem bV (i:Decidable (Str.ofString "calm" = Str.ofString "still")):@decide (Str.ofString "calm" = Str.ofString "still") i=false:=by cases i with | isTrue h=>exact absurd h (by rw[gO];exact not_false) | isFalse _=>rfl
theorem cp (i:Decidable (Str.ofString "calm" = Str.ofString "step")):@decide (Str.ofString "calm" = Str.ofString "step") i=false:=by cases i with | isTrue h=>exact absurd h (by rw[iZ];exact not_false) | isFalse _=>rfl
theorem b5 (i:Decidable (Str.ofString "calm" = Str.ofString "swell")):@decide (Str.ofString "calm" = Str.ofString "swell") i=false:=by cases i with | isTrue h=>exact absurd h (by rw[gB];exact not_false) | isFalse _=>rfl
theorem cj (i:Decidable (Str.ofString "calm" = Str.ofString "heed")):@decide (Str.ofString "calm" = Str.ofString "heed") i=false:=by cases i with | isTrue h=>exact absurd h (by rw[iQ];exact not_false) | isFalse _=>rfl
theorem i3 (a:Str)(i:Decidable (a=a)):@decide (a=a) i=true:=by cases i with | isTrue _=>rfl | isFalse h=>exact absurd rfl h
theorem IsPart.of_eq {a b c d x y:Int}(h:IsPart a b x y)(hb:0 < b)(hd:0 < d)(e:a*d=c*b):IsPart c d x y:=by
  have xd:x*d=c*y:=by
    refine Int.eq_of_mul_eq_mul_right (a:=b) (by omega) ?_
    calc x*d*b=(x*b)*d:=by ac_rfl
      _=(a*y)*d:=by rw[h.e]
      _=(a*d)*y:=by ac_rfl
      _=(c*b)*y:=by rw[e]
      _=c*y*b:=by ac_rfl
  have y0:=h.q0
  have dx:x ∣ c:=by
    have:x ∣ y*c:=⟨d,by rw[Int.mul_comm y c];exact xd.symm⟩
    have h':=Int.dvd_gcd_mul_iff_dvd_mul.mpr this
    rw[h.g] at h'
    simpa using h'
  have dy:y ∣ d:=by
    have:y ∣ x*d:=⟨c,by rw[xd,Int.mul_comm]⟩
    have h':=Int.dvd_gcd_mul_iff_dvd_mul.mpr this
    rw[Int.gcd_comm,h.g] at h'
    simpa using h'
  refine ⟨h.q0,h.g,xd,?_,Nat.le_of_dvd (by omega) (Int.natAbs_dvd_natAbs.mpr dy)⟩
  by_cases hc:c=0
  · subst hc
    have:x=0:=by
      rcases Int.mul_eq_zero.mp (show x*d=0 by rw[xd,Int.zero_mul]) with z | z
      · exact z
      · omega
    rw[this];exact Nat.le_refl _
  · exact Nat.le_of_dvd (by omega) (Int.natAbs_dvd_natAbs.mpr dx)
structure Vl (d:D) (a b:Int):Prop where
  ex:∃ p q,d=fr p q∧IsPart a b p q
  b0:0 < b
theorem Vl.of_eq {d:D}{a b a' b':Int}(h:Vl d a b)(hb:0 < b')(e:a*b'=a'*b):Vl d a' b':=by
  obtain ⟨⟨p,q,rfl,P⟩,b0⟩:=h
  exact ⟨⟨p,q,rfl,P.of_eq b0 hb e⟩,hb⟩
def Le (a A:Int):Prop:=-A≤a∧a≤A
theorem Le.mono {a A B:Int}(h:Le a A)(hb:A≤B):Le a B:=⟨by have:=h.1;omega,by have:=h.2;omega⟩
theorem Le.of {a A:Int}(h0:0≤a)(h1:a≤A):Le a A:=⟨by omega,h1⟩
theorem Le.sub {a b A B:Int}(h:Le a A)(k:Le b B):Le (a - b) (A+B):=⟨by have:=h.1;have:=k.2;omega,by have:=h.2;have:=k.1;omega⟩
theorem Le.neg {a A:Int}(h:Le a A):Le (-a) A:=⟨by have:=h.2;omega,by have:=h.1;omega⟩
theorem Le.abs {a A:Int}(h:Le a A):(a.natAbs:Int)≤A:=by have:=h.1;have:=h.2;omega
abbrev Bd (a:Int):Prop:=Le a 1000000000000000000000000000000
theorem Bd.m {a:Int}(h:Bd a):hZ a:=by have:=h.1;have:=h.2;unfold hZ;omega
inductive Wd | still | step | swell | heed | calm
  deriving DecidableEq
structure RN where
  wd:Wd
  p:Int
  q:Int
  x:Int
  y:Int
  a:Int
  b:Int
  l:Int
  h:Int
  r:Int
  s:Int
def Wd.str:Wd→Str
  | .still=>Str.ofString "still"
  | .step=>Str.ofString "step"
  | .swell=>Str.ofString "swell"
  | .heed=>Str.ofString "heed"
  | .calm=>Str.ofString "calm"
def RN.toD (R:RN):D:=match R.wd with
  | .still=>.tup [.str "still", fr R.p R.q]
  | .step=>.tup [.str "step", fr R.p R.q,fr R.x R.y,fr R.a R.b,fr R.r R.s]
  | .swell=>.tup [.str "swell", fr R.p R.q,fr R.x R.y,fr R.a R.b,fr R.r R.s]
  | .heed=>.tup [.str "heed", fr R.p R.q,fr R.x R.y,fr R.a R.b,fr R.r R.s]
  | .calm=>.tup [.str "calm", fr R.p R.q,fr R.x R.y,.int R.l,.int R.h,fr R.r R.s]
structure RN.Ok (R:RN):Prop where
  w:FrB 1 60 R.p R.q
  t:FrB 1 60 R.r R.s
  wt:R.p*R.s≤R.r*R.q
  u:FrA 0 60 R.x R.y
  u1:R.wd=.swell→R.y < R.x
  g:FrA 0 1 R.a R.b
  d1:R.wd=.step∨R.wd=.swell→R.a < R.b
  l0:0≤R.l
  lh:R.l≤R.h
  h1:R.h≤60
  st:R.wd=.still→R.r=R.p∧R.s=R.q
structure Hd where
  good:Int
  mark:Int
  pB:Int
  wt:Int
structure Hd.Ok (h:Hd):Prop where
  g0:0≤h.good
  g1:h.good≤1000000
  m0:0≤h.mark
  m1:h.mark≤1000000
  l0:0≤h.pB
  l1:h.pB≤1000000
  w0:0≤h.wt
def Hd.toD (h:Hd):D:=.tup [.int h.good,.int h.mark,.int h.pB,.int h.wt]
def Hd.bad (h:Hd):Int:=h.mark+h.pB
def Hd.many (h:Hd):Int:=h.good+h.bad
def RN.idle (R:RN)(h:Hd):Prop:=R.wd=.still∨h.good+h.mark+h.pB=0
instance (R:RN) (h:Hd):Decidable (R.idle h):=by unfold RN.idle;infer_instance
theorem Le.div {a b A:Int}(h:Le a A)(hb:0 < b)(hA:0≤A):Le (a / b) A:=by
  constructor
  · rw[Int.le_ediv_iff_mul_le hb]
    have:=h.1
    have:A*1≤A*b:=Int.mul_le_mul_of_nonneg_left (by omega) hA
    rw[Int.neg_mul];omega
  · refine Int.ediv_le_of_le_mul hb ?_
    have:=h.2
    have:A*1≤A*b:=Int.mul_le_mul_of_nonneg_left (by omega) hA
    omega
local macro_rules | `(tactic| walk_at "rd")=>`(tactic| try simp only[ah,TC,ai,TUn,eK,uR,ix,TB,qB,TOr,cW,qM,dm,aj,ae,bq,bO,pI,ao,cD,aK,l5,p8,qa,a8,qQ,eM,aw,a9,ka,di,jT,cu,lP,gh,dS,gS,lF,xt,ILs,
  qE,qR,qN,o6,qC,kZ,jl,k7,pY,lA,iV,mV,gm,iR,iH,jb,iL,wF,gs,w6,fI,fE,gu,f6,fk,fe,ft,fx,fH,TSl,ONo,iK,o9,pA,oY,qu,pC,oO,mr,lU,pO,oA,pU,gr,fR,fK,lj,lM,md,lD,me,k6,ku,lG,lR,oQ,qS,pX,qf,oN,qA,jy,pM,pE,l8,mn,lg,lB,mq,kW,kF,kP,lq,kx,
  lk,ini,List.map,List.length,List.replicate,List.append,List.set,List.cons_append,List.nil_append,Nat.sub_self,Nat.reduceSub,Nat.reduceAdd,
  fC,fZ,ie,kn,mR,ng,qv,pQ,pN,List.getElem?_cons_zero,List.getElem?_cons_succ,aC,kf,Nat.reduceLT,Nat.reduceLeDiff,if_true,if_false,true_and,and_true,Bool.not_true,Bool.not_false,Nat.lt_add_one,Nat.zero_lt_succ,Nat.succ_lt_succ_iff,Nat.zero_lt_one,
  decide_eq_true_eq,Bool.false_eq_true,ite_false,ite_true,ne_eq,not_false_eq_true,Int.reduceToNat,Int.reducePow,Int.reduceNeg,Int.reduceSub,Int.reduceAdd,Int.reduceMul,Int.reduceEq,okD,cF,eqD,gZ,Bool.and_self,Bool.and_true,Bool.true_and,qp,gn,decide_true,decide_false,Bool.or_true,Bool.or_false,Bool.true_or,Bool.false_or,Bool.and_false,Bool.false_and,and_self,bZ,bG,bT,bS,bW,bX,cn,cg,bL,bR,b4,b7,b3,cw,b6,cm,bV,cp,b5,cj,i3,nP,oU,nG,oG,pD,dX,dC,dM,dI,dR,dN,dt])
theorem RN.tup (R:RN)(hst:R.wd=.still→R.r=R.p∧R.s=R.q):∃ xs,R.toD=.tup xs∧xs[0]? = some (.str R.wd.str)∧xs[1]? = some (fr R.p R.q)∧xs[xs.length - 1]? = some (fr R.r R.s)∧xs≠[]:=by
  obtain ⟨wd,p,q,x,y,a,b,l,h,r,s⟩:=R
  cases wd
  · obtain ⟨e1,e2⟩:=hst rfl
    dsimp only at e1 e2
    subst e1 e2
    exact ⟨_,rfl,rfl,rfl,rfl,nofun⟩
  all_goals exact ⟨_,rfl,rfl,rfl,rfl,nofun⟩
def kLs (x:D)(f:List D→Prop):Prop:=match x with
  | .ls ds=>f ds
  | _=>False
def jX (sp:FSp)(ds:List D)(μ:Mu)(Q:DK):Prop:=sp ds μ Q
def LEN (ds:List D)(P:Prop):Prop:=ds.length≤1000000∧P
theorem vp (d:D)(r:ST)(μ:Mu)(Q:DK):ah 0 (some d::r) μ Q=Q d μ:=propext Iff.rfl
theorem sJ (x0:Option D)(r:ST)(d:D)(μ:Mu)(k:ST→Mu→Prop):aw 0 d (x0::r) μ k=k (some d::r) μ:=propext Iff.rfl
theorem vF (x0:Option D)(d:D)(r:ST)(μ:Mu)(Q:DK):ah 1 (x0::some d::r) μ Q=Q d μ:=propext Iff.rfl
theorem sk (x0 x1:Option D)(r:ST)(d:D)(μ:Mu)(k:ST→Mu→Prop):aw 1 d (x0::x1::r) μ k=k (x0::some d::r) μ:=propext Iff.rfl
theorem vP (x0 x1:Option D)(d:D)(r:ST)(μ:Mu)(Q:DK):ah 2 (x0::x1::some d::r) μ Q=Q d μ:=propext Iff.rfl
theorem t7 (x0 x1 x2:Option D)(r:ST)(d:D)(μ:Mu)(k:ST→Mu→Prop):aw 2 d (x0::x1::x2::r) μ k=k (x0::x1::some d::r) μ:=propext Iff.rfl
theorem wa (x0 x1 x2:Option D)(d:D)(r:ST)(μ:Mu)(Q:DK):ah 3 (x0::x1::x2::some d::r) μ Q=Q d μ:=propext Iff.rfl
theorem tV (x0 x1 x2 x3:Option D)(r:ST)(d:D)(μ:Mu)(k:ST→Mu→Prop):aw 3 d (x0::x1::x2::x3::r) μ k=k (x0::x1::x2::some d::r) μ:=propext Iff.rfl
theorem vD (x0 x1 x2 x3:Option D)(d:D)(r:ST)(μ:Mu)(Q:DK):ah 4 (x0::x1::x2::x3::some d::r) μ Q=Q d μ:=propext Iff.rfl
theorem tE (x0 x1 x2 x3 x4:Option D)(r:ST)(d:D)(μ:Mu)(k:ST→Mu→Prop):aw 4 d (x0::x1::x2::x3::x4::r) μ k=k (x0::x1::x2::x3::some d::r) μ:=propext Iff.rfl
theorem uO (x0 x1 x2 x3 x4:Option D)(d:D)(r:ST)(μ:Mu)(Q:DK):ah 5 (x0::x1::x2::x3::x4::some d::r) μ Q=Q d μ:=propext Iff.rfl
theorem rg (x0 x1 x2 x3 x4 x5:Option D)(r:ST)(d:D)(μ:Mu)(k:ST→Mu→Prop):aw 5 d (x0::x1::x2::x3::x4::x5::r) μ k=k (x0::x1::x2::x3::x4::some d::r) μ:=propext Iff.rfl
theorem zh (d:D)(ρ:ST)(μ:Mu)(Q:DK):TC d ρ μ Q=Q d μ:=propext Iff.rfl
theorem uV (r:DR2)(a b:ETr)(ρ:ST)(μ:Mu)(Q:DK):ai r a b ρ μ Q=a ρ μ fun x μ1=>b ρ μ1 fun y μ2=>r x y μ2 Q:=propext Iff.rfl
theorem yy (r:DR)(a:ETr)(ρ:ST)(μ:Mu)(Q:DK):TUn r a ρ μ Q=a ρ μ fun x μ1=>r x μ1 Q:=propext Iff.rfl
theorem rT (a b:ETr)(ρ:ST)(μ:Mu)(Q:DK):eK a b ρ μ Q=a ρ μ fun x μ1=>kB x fun c=>kIf c (b ρ μ1 Q) (Q (.bl false) μ1):=propext Iff.rfl
theorem tY (a:ETr)(ρ:ST)(μ:Mu)(Q:DK):ix a ρ μ Q=a ρ μ fun x μ1=>kB x fun c=>Q (.bl (!c)) μ1:=propext Iff.rfl
theorem zg (t:ETr)(ρ:ST)(μ:Mu)(Q:Bool→Mu→Prop):TB t ρ μ Q=t ρ μ fun x μ1=>kB x fun c=>Q c μ1:=propext Iff.rfl
theorem yD (t u:TTr)(ρ:ST)(μ:Mu)(Q:Bool→Mu→Prop):TOr t u ρ μ Q=t ρ μ fun c μ1=>kIf c (Q true μ1) (u ρ μ1 Q):=propext Iff.rfl
theorem wK (t:TTr)(ρ:ST)(μ:Mu)(Q:Bool→Mu→Prop):cW t ρ μ Q=t ρ μ fun c μ1=>Q (!c) μ1:=propext Iff.rfl
theorem qJ (r r':DR2)(a b c:ETr)(ρ:ST)(μ:Mu)(Q:DK):dm r r' a b c ρ μ Q=a ρ μ fun x μ1=>b ρ μ1 fun y μ2=>r x y μ2 fun z μ3=>kB z fun k=>kIf k (c ρ μ3 fun y' μ4=>r' y y' μ4 Q) (Q (.bl false) μ3):=propext Iff.rfl
theorem u4 (ρ:ST)(μ:Mu)(Q:List D→Mu→Prop):aj ρ μ Q=Q [] μ:=propext Iff.rfl
theorem sj (a:ETr)(r:ATr)(ρ:ST)(μ:Mu)(Q:List D→Mu→Prop):ae a r ρ μ Q=a ρ μ fun x μ1=>r ρ μ1 fun xs μ2=>Q (x::xs) μ2:=propext Iff.rfl
theorem wx (t:ATr)(ρ:ST)(μ:Mu)(Q:DK):bq t ρ μ Q=t ρ μ fun ds μ1=>LEN ds (Q (.tup ds) μ1):=propext Iff.rfl
theorem vT (t:ATr)(ρ:ST)(μ:Mu)(Q:DK):bO t ρ μ Q=t ρ μ fun ds μ1=>LEN ds (Q (.ls ds) μ1):=propext Iff.rfl
theorem sO (sp:FSp)(t:ATr)(ρ:ST)(μ:Mu)(Q:DK):ao sp t ρ μ Q=t ρ μ fun ds μ1=>jX sp ds μ1 Q:=propext Iff.rfl
theorem sW (nx:ST→Mu→Prop)(rt:DK)(bk ct:ST→Mu→Prop)(ρ:ST)(μ:Mu):cD ⟨nx,rt,bk,ct⟩ ρ μ=nx ρ μ:=propext Iff.rfl
theorem uK (t u:STr)(nx:ST→Mu→Prop)(rt:DK)(bk ct:ST→Mu→Prop)(ρ:ST)(μ:Mu):aK t u ⟨nx,rt,bk,ct⟩ ρ μ=t ⟨u ⟨nx,rt,bk,ct⟩,rt,bk,ct⟩ ρ μ:=propext Iff.rfl
theorem uJ (e:ETr)(nx:ST→Mu→Prop)(rt:DK)(bk ct:ST→Mu→Prop)(ρ:ST)(μ:Mu):a8 e ⟨nx,rt,bk,ct⟩ ρ μ=e ρ μ rt:=propext Iff.rfl
theorem u6 (c:TTr)(t u:STr)(nx:ST→Mu→Prop)(rt:DK)(bk ct:ST→Mu→Prop)(ρ:ST)(μ:Mu):eM c t u ⟨nx,rt,bk,ct⟩ ρ μ=c ρ μ fun b μ1=>kIf b (t ⟨nx,rt,bk,ct⟩ ρ μ1) (u ⟨nx,rt,bk,ct⟩ ρ μ1):=propext Iff.rfl
theorem vX (e:ETr)(g:GTr)(nx:ST→Mu→Prop)(rt:DK)(bk ct:ST→Mu→Prop)(ρ:ST)(μ:Mu):a9 e g ⟨nx,rt,bk,ct⟩ ρ μ=e ρ μ fun d μ1=>g d ρ μ1 nx:=propext Iff.rfl
theorem vY (i j:Nat)(a:ATr)(nx:ST→Mu→Prop)(rt:DK)(bk ct:ST→Mu→Prop)(ρ:ST)(μ:Mu):ka i j a ⟨nx,rt,bk,ct⟩ ρ μ=a ρ μ fun ds μ1=>k2 ds fun v w=>aw i v ρ μ1 fun ρ2 μ2=>aw j w ρ2 μ2 nx:=propext Iff.rfl
theorem vH (it:ATr)(g:GTr)(b:STr)(nx:ST→Mu→Prop)(rt:DK)(bk ct:ST→Mu→Prop)(ρ:ST)(μ:Mu):jT it g b ⟨nx,rt,bk,ct⟩ ρ μ=it ρ μ fun ds μ1=>forR g b ⟨nx,rt,bk,ct⟩ ds ρ μ1:=propext Iff.rfl
theorem nv (a:ETr)(ρ:ST)(μ:Mu)(Q:List D→Mu→Prop):cu a ρ μ Q=a ρ μ fun x μ1=>kI x fun j=>(-4611686018427387904≤j∧j < 4611686018427387904)∧Q (cJ 0 j.toNat) μ1:=propext Iff.rfl
theorem mL (a:ETr)(ρ:ST)(μ:Mu)(Q:List D→Mu→Prop):xf (ae a aj) ρ μ Q=a ρ μ fun x μ1=>kLs x fun ds=>Q (uB ds) μ1:=propext (Iff.of_eq (congrArg (a ρ μ) (funext fun x=>funext fun μ1=>by cases x<;>rfl)))
theorem xo (a:ETr)(lo hi:OTr)(ρ:ST)(μ:Mu)(Q:DK):TSl a lo hi ρ μ Q=a ρ μ fun x μ1=>lo ρ μ1 fun l μ2=>hi ρ μ2 fun h μ3=>rSl x l h μ3 Q:=propext Iff.rfl
theorem xI (ρ:ST)(μ:Mu)(Q:Option Int→Mu→Prop):ONo ρ μ Q=Q none μ:=propext Iff.rfl
theorem vU (T:ETr)(ρ:ST)(μ:Mu)(Q:Option Int→Mu→Prop):iK T ρ μ Q=T ρ μ fun x μ1=>kI x fun i=>Q (some i) μ1:=propext Iff.rfl
theorem wO (i0 i1:Nat)(d0 d1:D)(ρ:ST)(μ:Mu)(k:ST→Mu→Prop):qp [i0,i1] (.tup [d0,d1]) ρ μ k=aw i0 d0 ρ μ fun ρ1 _=>aw i1 d1 ρ1 μ fun ρ2 _=>k ρ2 μ:=by simp[qp,gn,aw]
theorem yi (P:Prop):LEN [] P=P:=by simp[LEN]
theorem xK (x0:D)(P:Prop):LEN [x0] P=P:=by simp[LEN]
theorem yf (x0 x1:D)(P:Prop):LEN [x0,x1] P=P:=by simp[LEN]
theorem ya (x0 x1 x2 x3 x4 x5:D)(P:Prop):LEN [x0,x1,x2,x3,x4,x5] P=P:=by simp[LEN]
theorem yq (x0 x1 x2 x3 x4 x5 x6:D)(P:Prop):LEN [x0,x1,x2,x3,x4,x5,x6] P=P:=by simp[LEN]
theorem xj (x0 x1 x2 x3 x4 x5 x6 x7 x8:D)(P:Prop):LEN [x0,x1,x2,x3,x4,x5,x6,x7,x8] P=P:=by simp[LEN]
theorem wA (x0:D)(r:List D)(μ:Mu)(Q:DK):L3.rIx (.tup (x0::r)) (.int 0) μ Q=Q x0 μ:=by rw[jy];exact congrArg (fun o=>kO o fun d=>Q d μ) (bu 0 _)
theorem vN (x0 x1:D)(r:List D)(μ:Mu)(Q:DK):L3.rIx (.tup (x0::x1::r)) (.int 1) μ Q=Q x1 μ:=by rw[jy];exact congrArg (fun o=>kO o fun d=>Q d μ) (bu 1 _)
theorem v8 (i j:Bool)(μ:Mu)(Q:DK):L3.rNe (.bl i) (.bl j) μ Q=Q (.bl (!(i == j))) μ:=by simp[L3.rNe,okD,eqD]
theorem wI (i j:Int)(μ:Mu)(Q:DK):jX f9 [.int i,.int j] μ Q=Q (.int (min i j)) μ:=by show Q (.int (if j < i then j else i)) μ=_;congr 2;omega
theorem uT (a:Addr)(μ:Mu)(Q:DK):jX dh [.obj a] μ Q=kL μ a fun xs=>Q (.int xs.length) μ:=propext Iff.rfl
theorem wo (x:Str)(μ:Mu)(Q:DK):jX dh [.str x] μ Q=(x.length≤1000000∧Q (.int x.length) μ):=propext Iff.rfl
theorem oB (a:List D)(μ:Mu)(Q:DK):jX dh [.tup a] μ Q=Q (.int a.length) μ:=propext Iff.rfl
theorem oF (a:List D)(μ:Mu)(Q:DK):jX dh [.ls a] μ Q=Q (.int a.length) μ:=propext Iff.rfl
theorem yQ (n:Nat)(i:Int):okD n (.int i)=true:=by cases n<;>simp[okD]
theorem mG (i j:Int):eqD (.int i) (.int j)=decide (i=j):=by simp[eqD]
theorem uf (i j:Str):eqD (.str i) (.str j)=decide (i=j):=by simp[eqD]
theorem tF (A B:Prop):kIf true A B=A:=propext Iff.rfl
theorem sG (A B:Prop):kIf false A B=B:=propext Iff.rfl
theorem rD (c:Bool)(f):kB (.bl c) f=f c:=propext Iff.rfl
theorem qO (c:Int)(f):kI (.int c) f=f c:=propext Iff.rfl
theorem tP (c:List D)(f):kS (.ls c) f=f c:=propext Iff.rfl
theorem o5 (a b:D)(f):k2 [a,b] f=f a b:=propext Iff.rfl
theorem nZ (i j:Int)(μ Q):aR (.int i) (.int j) μ Q=Q (.int (i+j)) μ:=propext Iff.rfl
theorem nJ (i j:Str)(μ Q):aR (.str i) (.str j) μ Q=(i.length+j.length≤1000000∧Q (.str (i++j)) μ):=propext Iff.rfl
theorem nT (a b:List D)(μ Q):aR (.tup a) (.tup b) μ Q=(a.length+b.length≤1000000∧Q (.tup (a++b)) μ):=propext Iff.rfl
theorem nX (a b:List D)(μ Q):aR (.ls a) (.ls b) μ Q=(a.length+b.length≤1000000∧Q (.ls (a++b)) μ):=propext Iff.rfl
theorem pH (i j:Int)(μ Q):d9 (.int i) (.int j) μ Q=(MulOk i j∧Q (.int (i*j)) μ):=propext Iff.rfl
theorem qm (i:Int)(μ Q):lI (.int i) μ Q=Q (.int (-i)) μ:=propext Iff.rfl
theorem rZ (i j:Int)(μ Q):rLe (.int i) (.int j) μ Q=Q (.bl (decide (i≤j))) μ:=propext Iff.rfl
theorem tH (i j:Int)(μ Q):rGt (.int i) (.int j) μ Q=Q (.bl (decide (j < i))) μ:=propext Iff.rfl
theorem tG (a:List D)(lo hi)(μ Q):rSl (.tup a) lo hi μ Q=Q (.tup (cutD a lo hi)) μ:=propext Iff.rfl
theorem mC (ds:List D)(i:Int)(μ Q):L3.rIx (.ls ds) (.int i) μ Q=kO (atD ds i) fun d=>Q d μ:=propext Iff.rfl
theorem mI (x y:D)(μ Q):L3.rEq x y μ Q=((okD 40 x=true∧okD 40 y=true)∧Q (.bl (eqD x y)) μ):=propext Iff.rfl
theorem kif {p:Prop} [Decidable p] {A B:Prop}(h1:p→A)(h2:¬ p→B):kIf (decide p) A B:=by
  by_cases h:p
  · rw[decide_eq_true h];exact h1 h
  · rw[decide_eq_false h];exact h2 h
theorem yJ {c:Bool}{A B:Prop}(h1:c=true→A)(h2:c=false→B):kIf c A B:=by
  cases c
  · exact h2 rfl
  · exact h1 rfl
theorem xX {o:Option D}{d:D}{f:D→Prop}(e:o=some d)(h:f d):kO o f:=by rw[e];exact h
theorem mN {μ:Mu}{a:Addr}{ds:List D}{f:List D→Prop}(e:μ a=some (.lst ds))(h:f ds):kL μ a f:=by rw[uy e];exact h
def yX:=Jn @vp <| Jn @sJ <| Jn @vF <| Jn @sk <| Jn @vP <| Jn @t7 <| Jn @wa <| Jn @tV <| Jn @vD <| Jn @tE <| Jn @uO <| Jn @rg <| Jn @zh <| Jn @uV <| Jn @yy <| Jn @rT <| Jn @tY <| Jn @zg <| Jn @yD <| Jn @wK <| Jn @qJ <| Jn @u4 <| Jn @sj <| Jn @wx <| Jn @vT <| Jn @sO <| Jn @sW <| Jn @uK <| Jn @uJ <| Jn @u6 <| Jn @vX <| Jn @vY <| Jn @vH <| Jn @nv <| Jn @xo <| Jn @xI <| Jn @vU <| Jn @wO <| Jn @yi <| Jn @xK <| Jn @yf <| Jn @ya <| Jn @yq <| Jn @xj <| Jn @wA <| Jn @vN <| Jn @tF <| Jn @sG <| Jn @rD <| Jn @qO <| Jn @tP <| Jn @o5 <| Jn @mV <| Jn @nZ <| Jn @nJ <| Jn @nT <| Jn @nX <| Jn @pH <| Jn @qm <| Jn @rZ <| Jn @tH <| Jn @tG <| Jn @v8 <| Jn @wI <| Jn @uT <| @wo
local macro_rules | `(tactic| walk_at "go")=>`(tactic| try simp only[↓yX,↓mL,↓gs,bZ,bG,bT,bS,bW,bX,cn,cg,bL,bR,b4,b7,b3,cw,b6,cm,bV,cp,b5,cj,i3,yQ,mG,uf,oB,oF,mC,mI,true_and,and_true,and_self,Bool.not_true,Bool.not_false,decide_true,decide_false,Bool.or_true,Bool.or_false,Bool.true_or,Bool.false_or,Bool.and_false,Bool.false_and,Bool.and_true,Bool.true_and,Int.reduceToNat,Int.reducePow,Int.reduceNeg,Int.reduceSub,Int.reduceAdd,Int.reduceMul,Int.reduceEq,Int.reduceLT,Int.reduceLE,Int.reduceBEq,kf,dX,dC,dM,dI,dR,dN,dt,if_true,if_false,Bool.false_eq_true,reduceCtorEq,decide_eq_true_eq])
local macro_rules | `(tactic| walk_at "ini")=>`(tactic| simp only[ini,List.map,List.length,List.replicate,Nat.reduceSub,Nat.reduceAdd,Nat.sub_self,List.cons_append,List.nil_append,List.append_nil])
theorem u9 {xs:List D}{P:D→Prop}(h:∀ d∈xs,P d){k:Int}(k0:0≤k)(k1:k < xs.length):∃ d,atD xs k=some d∧P d:=by
  obtain ⟨j,rfl⟩:=Int.eq_ofNat_of_zero_le k0
  rw[bu]
  have hj:j < xs.length:=by omega
  exact ⟨xs[j],by simp[hj],h _ (List.getElem_mem hj)⟩
def IsL (hi:Int)(d:D):Prop:=∃ p q,d=fr p q∧FrL hi p q
theorem e8 {P:D→Prop}:∀ d∈([]:List D),P d:=fun _ h=>nomatch h
theorem cV {P:D→Prop}{a:D}{xs:List D}(h:P a)(k:∀ d∈xs,P d):∀ d∈a::xs,P d:=fun d hd=>by
  rcases List.mem_cons.mp hd with e | e
  · rw[e];exact h
  · exact k d e
local macro_rules | `(tactic| walk_at "all")=>`(tactic| repeat' (first | exact e8 | refine cV ?_ ?_))
structure gM (b p:Addr) (xs:List D) (μ μ':Mu):Prop where
  box:Box μ' b
  ne:p≠b
  new:μ p=none
  at':μ' p=some (.lst xs)
  oth:∀ a,a≠b→a≠p→μ' a=μ a
theorem gM.go {b p:Addr}{xs:List D}{μ μ1 μ2:Mu}(h:gM b p xs μ μ1)(B:bC b μ1 μ2):gM b p xs μ μ2:=
  ⟨B.box,h.ne,h.new,by rw[B.oth p h.ne];exact h.at',fun a h1 h2=>by rw[B.oth a h1];exact h.oth a h1 h2⟩
theorem gM.set {b p:Addr}{xs ys:List D}{μ μ1:Mu}(h:gM b p xs μ μ1):gM b p ys μ (up μ1 p (.lst ys)):=by
  obtain ⟨g,s,c,e,hh⟩:=h.box
  exact ⟨⟨g,s,c,by rw[bx h.ne.symm];exact e,hh⟩,h.ne,h.new,aC,fun a h1 h2=>by rw[bx h2];exact h.oth a h1 h2⟩
theorem vm (μ:Mu)(p:Addr):Sub (dn μ p) μ:=fun a o e=>by
  unfold dn at e
  split at e
  · cases e
  · exact e
theorem gM.fin {b p:Addr}{xs:List D}{μ μ1:Mu}(h:gM b p xs μ μ1):bC b μ (dn μ1 p):=by
  obtain ⟨g,s,c,e,hh⟩:=h.box
  refine ⟨⟨g,s,c,?_,hh⟩,fun a ha=>?_⟩
  · unfold dn;rw[if_neg h.ne.symm];exact e
  · unfold dn
    split
    · rename_i z;subst z;exact h.new.symm
    · rename_i z;exact h.oth a ha z
theorem gM.rt {b p:Addr}{xs:List D}{μ μ1:Mu}{Q:DK}{d:D}(h:gM b p xs μ μ1)(k:∀ μ',bC b μ μ'→Q d μ'):RT Q d μ1:=⟨_,vm μ1 p,k _ h.fin⟩
theorem d8 {p:Addr}{G:GTr}{tt:TTr}{te:ETr}{ρc:ST}{K:Mu→Prop}(P:List D→Mu→Prop)(hnil:∀ μ,P [] μ→K μ)
    (hcons:∀ d r μ (N:Mu→Prop),P (d::r) μ→(∀ μ',P r μ'→N μ')→G d ρc μ fun ρ1 μ1=>tt ρ1 μ1 fun b μ2=>kIf b (te ρ1 μ2 fun y μ3=>kL μ3 p fun zs=>zs.length < 1000000∧N (up μ3 p (.lst (zs++[y])))) (N μ2)) :
    ∀ (ds:List D) (μ:Mu),P ds μ→dS p G tt te ρc K ds μ
  | [],μ,h=>hnil μ h
  | d::r,μ,h=>hcons d r μ _ h fun μ' q=>d8 P hnil hcons r μ' q
section
open PySem PySem.Spec PyProof.Rows L2
def ui (kvs:List (Str×D))(s:Str):Option D:=(kvs.find? fun kv=>decide (kv.1=s)).map (·.2)
def m8 (K:PySem.W.Frag):List DictEntry→List (Str×D)→Prop
  | [],[]=>True
  | e::es,(x,d)::r=>(∃ t,e.key=.str x t)∧(∃ v,RelV v e.val∧∀ H,Dp K H v d)∧m8 K es r
  | _,_=>False
theorem j4 (s x:Str)(t:Tok):Value.isStrOf s (.str x t)=decide (x=s):=by
  by_cases h:x=s
  · subst h;simp[Value.isStrOf]
  · rw[decide_eq_false h];simp[Value.isStrOf];first | exact h | exact fun z=>h z.symm
theorem m8.find {K:PySem.W.Frag}(s:Str):∀ {es:List DictEntry} {kvs:List (Str×D)},m8 K es kvs→
    match ui kvs s with
    | none=>(es.find? fun e=>Value.isStrOf s e.key)=none
    | some d=>∃ e v,(es.find? fun e=>Value.isStrOf s e.key)=some e∧RelV v e.val∧∀ H,Dp K H v d
  | [],[],_=>rfl
  | e::es,(x,d)::r,h=>by
    obtain ⟨⟨t,ht⟩,⟨v,rv,pv⟩,hr⟩:=h
    have ih:=m8.find s hr
    unfold ui at ih ⊢
    rw[List.find?_cons,List.find?_cons,ht,j4]
    by_cases hx:x=s
    · simp only[decide_eq_true hx,Option.map_some]
      exact ⟨e,v,rfl,rv,pv⟩
    · simp only[decide_eq_false hx]
      exact ih
  | [],_::_,h=>False.elim h
  | _::_,[],h=>False.elim h
section
variable {X:Cx} {a b c e:Expr} {Ta Tb Te:ETr} {pos gpos:Pos} {x:Str} {kvs:List (Str×D)}
end
section
variable {X:Cx} {a b:Expr} {Ta Tb:ETr} {pos:Pos}
end
end
section
open PySem PySem.Spec PyProof.Rows L2
def putD (kvs:List (Key×D))(k:Key)(v:D):List (Key×D):=
  if (kvs.any fun kv=>decide (kv.1=k))=true then kvs.map (fun kv=>if kv.1=k then (kv.1,v) else kv) else kvs++[(k,v)]
theorem DpK.nil {K:PySem.W.Frag}{H:Hp}:DpK K H [] []:=⟨rfl,.nil⟩
theorem DpK.cons {K:PySem.W.Frag}{H:Hp}{k:Key}{v:V}{d:D}{xs:List (Key×V)}{kvs:List (Key×D)}(h:Dp K H v d)(r:DpK K H xs kvs):DpK K H ((k,v)::xs) ((k,d)::kvs):=
  ⟨by simp[r.1],.cons h r.2⟩
theorem DpK.ind {K:PySem.W.Frag}{H:Hp}{P:List (Key×V)→List (Key×D)→Prop}(h0:P [] [])(h1:∀ k v d xs kvs,Dp K H v d→DpK K H xs kvs→P xs kvs→P ((k,v)::xs) ((k,d)::kvs)) :
    ∀ {xs:List (Key×V)} {kvs:List (Key×D)},DpK K H xs kvs→P xs kvs
  | [],[],_=>h0
  | [],_::_,h=>by cases h.1
  | _::_,[],h=>by cases h.1
  | (k,v)::xs,(k',d)::kvs,h=>by
    obtain ⟨h2,h3⟩:=h
    simp only[List.map_cons,List.cons.injEq] at h2
    obtain ⟨rfl,h2⟩:=h2
    cases h3 with
    | cons p l=>exact h1 k v d xs kvs p ⟨h2,l⟩ (DpK.ind h0 h1 ⟨h2,l⟩)
theorem DpK.any {K:PySem.W.Frag}{H:Hp}{xs:List (Key×V)}{kvs:List (Key×D)}(h:DpK K H xs kvs)(k:Key):(xs.any fun kv=>decide (kv.1=k))=kvs.any fun kv=>decide (kv.1=k):=by
  refine DpK.ind (P:=fun xs kvs=>(xs.any fun kv=>decide (kv.1=k))=kvs.any fun kv=>decide (kv.1=k)) rfl (fun j v d xs kvs p _ ih=>?_) h
  rw[List.any_cons,List.any_cons,ih]
theorem DpK.put {K:PySem.W.Frag}{H:Hp}{xs:List (Key×V)}{kvs:List (Key×D)}(h:DpK K H xs kvs)(k:Key){v:V}{d:D}(p:Dp K H v d):DpK K H (putK xs k v) (putD kvs k d):=by
  unfold putK putD
  rw[h.any k]
  split
  · refine DpK.ind (P:=fun xs kvs=>DpK K H (xs.map fun kv=>if kv.1=k then (kv.1,v) else kv) (kvs.map fun kv=>if kv.1=k then (kv.1,d) else kv)) .nil (fun j v' d' xs kvs p' _ ih=>?_) h
    rw[List.map_cons,List.map_cons]
    by_cases e:j=k
    · rw[if_pos e,if_pos e];exact .cons p ih
    · rw[if_neg e,if_neg e];exact .cons p' ih
  · refine DpK.ind (P:=fun xs kvs=>DpK K H (xs++[(k,v)]) (kvs++[(k,d)])) (.cons p .nil) (fun j v' d' xs kvs p' _ ih=>?_) h
    exact .cons p' ih
theorem DpK.length {K:PySem.W.Frag}{H:Hp}{xs:List (Key×V)}{kvs:List (Key×D)}(h:DpK K H xs kvs):xs.length=kvs.length:=by
  have:=h.2.length
  simpa using this
theorem k9 {H:Hp}{q:Addr}{u:HO}{xs:List (Key×V)}(ex:H q=some (.dK xs)):Tk H (L2.upd H q u):=
  .upd (fun ys z=>by rw[ex] at z;cases z) fun o' w z=>by rw[ex] at z;cases z
theorem wz {K:PySem.W.Frag}{H:Hp}{μ:Mu}{q:Addr}{xs ys:List (Key×V)}{ds:List (Key×D)}(m:aZ K H μ)(ex:H q=some (.dK xs))(l:DpK K H ys ds):aZ K (L2.upd H q (.dK ys)) (up μ q (.dct ds)):=fun z y ez=>by
  by_cases zq:z=q
  · subst zq
    rw[aC] at ez;cases ez
    exact ⟨ys,az,l.mono (k9 ex)⟩
  · rw[bx zq] at ez
    exact (m z _ ez).ne (k9 ex) zq
theorem mS {K:PySem.W.Frag}{H:Hp}{μ:Mu}{q:Addr}{ys:List (Key×V)}{ds:List (Key×D)}(m:aZ K H μ)(hq:H q=none)(l:DpK K H ys ds):aZ K (L2.upd H q (.dK ys)) (up μ q (.dct ds)):=fun z y ez=>by
  by_cases zq:z=q
  · subst zq
    rw[aC] at ez;cases ez
    exact ⟨ys,az,l.mono (.new hq)⟩
  · rw[bx zq] at ez
    exact cS m hq z y ez
section
variable {X:Cx} {o i a b c e value:Expr} {To Ti Ta Tb Te:ETr} {pos tpos:Pos}
theorem rQ:LE X (.Dict [] [] pos) (fun ρ μ Q=>∀ p,μ p=none→Q (.obj p) (up μ p (.dct []))):=
  ⟨_,pZ,fun σ H ρ μ Q Q' rl h k p hp=>k _ _ _ _ (.new hp) (mS rl.mu hp .nil) (.obj p) (h p (rl.mu.free hp))⟩
def zk (K:PySem.W.Frag)(trs:List (TE×TE))(ks:List Key)(T:ATr):Prop:=∀ σ H ρ μ (Q:List D→Mu→Prop) (Q':List (V×V)→Hp→Prop),Rl K σ H ρ μ→T ρ μ Q→
  (∀ vs H' ds μ',Tk H H'→aZ K H' μ'→vs.length=ks.length→DpL K H' vs ds→Q ds μ'→Q' ((ks.map kV).zip vs) H')→iY trs σ H Q'
structure LPs (X:Cx) (pos:Pos) (keys:List (Option Expr)) (values:List Expr) (ks:List Key) (T:ATr):Prop where
  ex:∃ trs,PPs X pos keys values trs∧zk X.K trs ks T
theorem tU:LPs X pos [] [] [] aj:=⟨[],sV,fun σ H ρ μ Q Q' rl h k=>k [] H [] μ (.refl H) rl.mu rfl .nil h⟩
theorem sM {s:Str}{j}{p:Pos}{ks:List (Option Expr)}{vs:List Expr}{kk:List Key}{At:ATr}(hv:LE X value Te)(hr:LPs X pos ks vs kk At):LPs X pos (some (.Constant (.str s) j p)::ks) (value::vs) (.inr s::kk) (ae Te At):=by
  obtain ⟨te,pe,se⟩:=hv.ex
  obtain ⟨trs,pr,sr⟩:=hr.ex
  refine ⟨_,qc qL pe pr,fun σ H ρ μ Q Q' rl h k=>?_⟩
  refine se σ H ρ μ _ _ rl h fun y H1 dy μ1 t1 m1 p1 h1=>sr σ H1 ρ μ1 _ _ (rl.go t1 m1) h1 fun vs H2 ds μ2 t2 m2 hl p2 h2=>?_
  exact k (y::vs) H2 (dy::ds) μ2 (t1.trans t2) m2 (by simp[hl]) (.cons (p1.mono t2) p2) h2
def oI (ks:List Key)(At:ATr):ETr:=fun ρ μ Q=>∀ p,μ p=none→At ρ (up μ p (.dct [])) fun ds μ2=>kD μ2 p fun kvs=>kvs=[]∧Q (.obj p) (up μ2 p (.dct (ks.zip ds)))
theorem p5 {acc:List (Key×V)}{k:Key}{v:V}(h:cO acc k=some v):k∈acc.map (·.1):=by
  unfold cO at h
  obtain ⟨p,hp,_⟩:=Option.map_eq_some_iff.mp h
  have h1:=List.mem_of_find?_eq_some hp
  have h2:=List.find?_some hp
  exact List.mem_map.mpr ⟨p,h1,of_decide_eq_true h2⟩
theorem fc:∀ (kvs acc:List (Key×V)),((acc++kvs).map (·.1)).Nodup→bJ acc kvs=acc++kvs
  | [],acc,_=>by simp[bJ]
  | p::r,acc,h=>by
    have hn:cO acc p.1=none:=by
      cases e:cO acc p.1 with
      | none=>rfl
      | some v=>
        exfalso
        have:=p5 e
        rw[List.map_append,List.map_cons] at h
        exact (List.nodup_append.mp h).2.2 _ this _ List.mem_cons_self rfl
    show bJ (putK acc p.1 p.2) r=_
    rw[oX p.2 hn]
    rw[fc r (acc++[(p.1,p.2)]) (by simpa using h)]
    simp
theorem kl:∀ (ks:List Key) (vs:List V),(ks.map kV).zip vs=(ks.zip vs).map fun kv=>(kV kv.1,kv.2)
  | [],_=>by simp
  | _::_,[]=>by simp
  | k::ks,v::vs=>by simp[kl ks vs]
theorem DpK.zip {K:PySem.W.Frag}{H:Hp}:∀ {ks:List Key} {vs:List V} {ds:List D},DpL K H vs ds→DpK K H (ks.zip vs) (ks.zip ds)
  | [],_,_,_=>by simp;exact .nil
  | _::_,_,_,.nil=>by simp;exact .nil
  | k::ks,_,_,.cons p l=>.cons p (DpK.zip l)
theorem rS {keys:List (Option Expr)}{values:List Expr}{ks:List Key}{At:ATr}(h:LPs X pos keys values ks At)(hall:keys.all (·.isSome)=true:=by rfl)(hl:keys.length=values.length:=by rfl)(h0:keys≠[]:=by nofun)
    (h15:keys.length≤15:=by decide) (hk:keys.length=ks.length:=by rfl) (hn:ks.Nodup:=by decide):LE X (.Dict keys values pos) (oI ks At):=by
  obtain ⟨trs,pr,sr⟩:=h.ex
  refine ⟨_,rX pr hall hl h0 h15,fun σ H ρ μ Q Q' rl h k p hp=>?_⟩
  refine sr σ _ ρ _ _ _ (rl.go (.new hp) (mS rl.mu hp .nil)) (h p (rl.mu.free hp)) fun vs H2 ds μ2 t2 m2 hvl p2 h2=>?_
  obtain ⟨kvs,e0,rfl,h2⟩:=wW h2
  obtain ⟨xs,ex,l⟩:=m2 p _ e0
  have:xs=[]:=by have:=l.length;cases xs with | nil=>rfl | cons=>simp at this
  subst this
  refine ⟨ex,ks.zip vs,kl ks vs,by rw[List.length_zip];omega,?_⟩
  have e:bJ [] (ks.zip vs)=ks.zip vs:=by
    have:=fc (ks.zip vs) [] (by rw[List.nil_append,List.map_fst_zip (by omega)];exact hn)
    simpa using this
  rw[e]
  exact k _ _ _ _ ((Tk.new hp).trans (t2.trans (k9 ex))) (wz m2 ex (.zip p2)) (.obj p) h2
end
end
section
open PySem PySem.Spec PyProof.Rows L2
inductive cv {prog:Program} {w:World} {κ:Type} [DecidableEq κ] (knd:KeyKind prog w κ) (h:Heap):List Value→List (κ×Value)→Prop
  | nil:cv knd h [] []
  | cons {a:Addr} {u v:Value} {k:κ} {us:List Value} {r:List (κ×Value)}:IsTup h a #[u,v]→knd.is k u=true→cv knd h us r→cv knd h (.ref a::us) ((k,v)::r)
section
variable {prog:Program} {w:World} {κ:Type} [DecidableEq κ] {knd:KeyKind prog w κ}
theorem cv.keeps {h h':Heap}(kp:∀ b o,h.get? b=some o→o.cls=.type "tuple" → h'.get? b=some o):∀ {us:List Value} {r:List (κ×Value)},cv knd h us r→cv knd h' us r
  | _,_,.nil=>.nil
  | _,_,.cons t k r=>.cons (by obtain ⟨o,e,c,n,d⟩:=t;exact ⟨o,kp _ o e c,c,n,d⟩) k (r.keeps kp)
end
end
section
open PySem PySem.Spec PyProof.Rows L2
section
variable {prog:Program} {w:World} {κ:Type} [DecidableEq κ] {knd:KeyKind prog w κ}
end
def dK:Key→D
  | .inl i=>.int i
  | .inr s=>.str s
def w8 (kv:Key×D):D:=.tup [dK kv.1,kv.2]
def qk (kvs more:List (Key×D)):List (Key×D):=more.foldl (fun acc kv=>putD acc kv.1 kv.2) kvs
inductive cx (K:PySem.W.Frag) (H:Hp):List V→List (Key×V)→Prop
  | nil:cx K H [] []
  | cons {a:Addr} {k:Key} {v:V} {ys:List V} {r:List (Key×V)}:SqT K H a [kV k,v]→cx K H ys r→cx K H (.ref a::ys) ((k,v)::r)
theorem cx.at {X:Cx}{pins:List (Addr×Obj)}{σ:L2.St}{H:Hp}{s:Shared}(I:Inv X pins σ H s):∀ {ys:List V} {kvs:List (Key×V)} {us:List Value},cx X.K H ys kvs→Vals ys us→∃ r,cv (bf X.prog X.w) s.heap us r∧KV kvs r
  | _,_,_,.nil,.nil=>⟨[],.nil,.nil⟩
  | _,_,_,@cx.cons _ _ a k v ys r sq h,.cons ru rs=>by
    cases (show _=Value.ref a from ru)
    obtain ⟨r,p,q⟩:=h.at I rs
    obtain ⟨its,vs,it,_⟩:=I.tuple sq
    cases vs with | @cons _ u1 _ _ r1 vs=>cases vs with | @cons _ u2 _ _ r2 vs=>
    cases vs
    exact ⟨(k,u2)::r,.cons it (uo r1) p,.cons ⟨rfl,r2⟩ q⟩
theorem vk {K:PySem.W.Frag}{H:Hp}{v:V}{k:Key}(h:Dp K H v (dK k)):v=kV k:=by
  cases k with
  | inl i=>cases h;rfl
  | inr s=>cases h;rfl
theorem cx.of {K:PySem.W.Frag}{H:Hp}:∀ {kvs:List (Key×D)} {xs:List V},DpL K H xs (kvs.map w8)→∃ r,cx K H xs r∧DpK K H r kvs
  | [],_,h=>by cases h;exact ⟨[],.nil,.nil⟩
  | kv::kvs,_,h=>by
    obtain ⟨k,d⟩:=kv
    cases h with
    | cons p l=>
      obtain ⟨r,h1,h2⟩:=cx.of l
      cases p with
      | tup sq lp=>
        cases lp with | cons p1 lp=>cases lp with | cons p2 lp=>
        cases lp
        cases vk p1
        exact ⟨(k,_)::r,.cons sq h1,.cons p2 h2⟩
theorem DpK.merge {K:PySem.W.Frag}{H:Hp}{xs:List (Key×V)}{kvs:List (Key×D)}(h:DpK K H xs kvs):∀ {axs:List (Key×V)} {akvs:List (Key×D)},DpK K H axs akvs→DpK K H (bJ axs xs) (qk akvs kvs):=
  DpK.ind (P:=fun xs kvs=>∀ {axs:List (Key×V)} {akvs:List (Key×D)},DpK K H axs akvs→DpK K H (bJ axs xs) (qk akvs kvs)) (fun h=>h) (fun k v d xs kvs p _ ih axs akvs ha=>ih (ha.put k p)) h
end
section
open PySem PySem.Spec PyProof.Rows L2
section
variable {X:Cx} {o i a b c e value:Expr} {To Ti Ta Tb Te:ETr} {pos tpos apos cpos:Pos}
end
section
variable {X:Cx} {pins:List (Addr×Obj)} {σ:L2.St} {H:Hp} {s:Shared}
end
section
variable {X:Cx} {o i a b c e value:Expr} {To Ti Ta Tb Te:ETr} {pos tpos apos cpos:Pos}
end
end
section
open PySem PySem.Spec PyProof.Rows L2
section
variable {X:Cx} {e tg:Expr} {es:List Expr} {is:List Nat} {pos:Pos} {x:Str} {n:Nat}
end
section
variable {X:Cx} {o i a b c e value:Expr} {To Ti Ta Tb Te:ETr} {pos tpos apos cpos:Pos}
end
section
variable {P:Program} {w:World} {K:PySem.W.Frag} {mg:Str→Option Value} {base:Heap}
end
end
section
open PySem PySem.Spec PyProof.Rows L2
section
variable {X:Cx} {tg a ea eb:Expr} {Ta:ETr} {es:List Expr} {ek:Nat} {ep p pos:Pos}
def zu (K:PySem.W.Frag)(tl:TE):TI:=fun σ H R=>tl σ H fun x H1=>∃ q,x=.ref q∧(((∃ xs,SqL K H1 q xs)∧R (Itl K q) H1)∨((∃ xs,SqT K H1 q xs)∧R (Itt K q) H1))
theorem vw {tl:TE}(hl:PE X a tl):PI X tg a (zu X.K tl):=by
  intro pins s σ H R I h
  refine thn (hl pins s σ H _ I h) fun v s1 ⟨x,H1,I1,r1,q,ex,qq⟩=>?_
  subst ex
  cases (show v=Value.ref q from r1)
  have fp:∀ b∈[s1.heap.objs.size],_:=fun b hb=>by
    have e:b=s1.heap.objs.size:=by simpa using hb
    subst e
    exact I1.u0 (Nat.le_refl _) (I1.hok.fresh (Nat.le_refl _))
  rcases qq with ⟨⟨xs,sq⟩,qq⟩ | ⟨⟨xs,sq⟩,qq⟩
  · obtain ⟨its,rv,pl,hz⟩:=I1.list sq
    exact wpAny_pyIter_list pl.isList ⟨s1.heap.objs.size,[s1.heap.objs.size],_,_,H1,rfl,I1.kept (t':=s1.toks) (fun b o e=>Heap.get?_push_of_some _ e),ny q _,⟨_,Heap.get?_push_size _ rfl,rfl,rfl⟩,fp,qq⟩
  · obtain ⟨its,rv,pl,hz⟩:=I1.tuple sq
    exact wpAny_pyIter_tuple (show s1.heap.IsTuple q its.toArray from pl) ⟨s1.heap.objs.size,[s1.heap.objs.size],_,_,H1,rfl,I1.kept (t':=s1.toks) (fun b o e=>Heap.get?_push_of_some _ e),kK q _,⟨_,Heap.get?_push_size _ rfl,rfl,rfl⟩,fp,qq⟩
theorem qU (ha:LE X a Ta):LI X tg a (lP Ta):=by
  obtain ⟨ta,pa,sa⟩:=ha.ex
  refine ⟨_,vw pa,fun σ H ρ μ Q R rl h k=>sa σ H ρ μ _ _ rl h fun x H1 d μ1 t1 m1 p1 h1=>?_⟩
  cases p1 with
  | @tup p xs ds q l=>exact ⟨p,rfl,.inr ⟨⟨xs,q⟩,k _ H1 ds μ1 t1 m1 (qt q l) h1⟩⟩
  | @ls p xs ds q l=>exact ⟨p,rfl,.inl ⟨⟨xs,q.sq⟩,k _ H1 ds μ1 t1 m1 (rz q l) h1⟩⟩
  | _=>exact False.elim h1
variable {i o:Expr} {Ti To:ETr}
end
end
section
open PySem PySem.Spec PyProof.Rows L2
section
variable {X:Cx} {e a b:Expr} {x:Str} {p pos:Pos} {At:ATr} {Ta Tb:ETr}
end
end
section
open PySem PySem.Spec PyProof.Rows L2
end
theorem tL (ks:List L2.Key)(t:ATr)(ρ:ST)(μ:Mu)(Q:DK):oI ks t ρ μ Q = ∀ p,μ p=none→t ρ (up μ p (.dct [])) fun ds μ2=>kD μ2 p fun kvs=>kvs=[]∧Q (.obj p) (up μ2 p (.dct (ks.zip ds))):=propext Iff.rfl
theorem wJ (a:ETr)(ρ:ST)(μ:Mu)(Q:List D→Mu→Prop):lP a ρ μ Q=a ρ μ fun x μ1=>kS x fun ds=>Q ds μ1:=propext Iff.rfl
theorem yF {μ:Mu}{a:Addr}{ds:List (L2.Key×D)}(h:μ a=some (.dct ds))(f):kD μ a f=f ds:=by unfold kD;rw[h]
theorem xU (μ:Mu)(a:Addr)(ds:List (L2.Key×D))(f:List (L2.Key×D)→Prop):kD (up μ a (.dct ds)) a f=f ds:=yF aC f
theorem yv (d0:D)(r:List D)(f:D→Prop):kO (atD (d0::r) 0) f=f d0:=by rw[fC];rfl
theorem xm (d0 d1:D)(r:List D)(f:D→Prop):kO (atD (d0::d1::r) 1) f=f d1:=by rw[fZ];rfl
theorem xb (d0 d1 d2:D)(r:List D)(f:D→Prop):kO (atD (d0::d1::d2::r) 2) f=f d2:=by rw[ie];rfl
theorem ym (d0 d1 d2 d3:D)(r:List D)(f:D→Prop):kO (atD (d0::d1::d2::d3::r) 3) f=f d3:=by rw[kn];rfl
theorem y8 (d0 d1 d2 d3 d4:D)(r:List D)(f:D→Prop):kO (atD (d0::d1::d2::d3::d4::r) 4) f=f d4:=by rw[mR];rfl
theorem xO (d0 d1 d2 d3 d4 d5:D)(r:List D)(f:D→Prop):kO (atD (d0::d1::d2::d3::d4::d5::r) 5) f=f d5:=by rw[ng];rfl
def wQ (G:GTr)(tt:TTr)(te:ETr)(ρc:ST)(ds:List D)(μ:Mu)(Q:DK):Prop:=∀ p,μ p=none→dS p G tt te ρc (fun μ'=>kL μ' p fun zs=>Q (.ls zs) (dn μ' p)) ds (up μ p (.lst []))
theorem rB (it:ATr)(G:GTr)(tt:TTr)(te:ETr)(n:Nat)(caps:List Nat)(ρ:ST)(μ:Mu)(Q:DK):gh it G tt te n caps ρ μ Q=it ρ μ fun ds μ1=>wQ G tt te (gS ρ n caps) ds μ1 Q:=propext Iff.rfl
theorem wR (ρ:ST)(μ:Mu)(Q:Bool→Mu→Prop):lF ρ μ Q=Q true μ:=propext Iff.rfl
section
variable {G:GTr} {tt:TTr} {te:ETr} {ρc:ST} {ds:List D} {μ:Mu} {Q:DK}
theorem sR (f:D→Option D)(hl:ds.length≤999999)
    (step:∀ d∈ds,∀ μ',Sub μ μ'→∀ (N:Option D→Mu→Prop),N (f d) μ'→G d ρc μ' fun ρ1 μ1=>tt ρ1 μ1 fun b μ2=>kIf b (te ρ1 μ2 fun y μ3=>N (some y) μ3) (N none μ2))
    (k:Q (.ls (ds.filterMap f)) μ):wQ G tt te ρc ds μ Q:=by
  intro p hp
  refine d8 (fun r μ'=>∃ done,ds=done++r∧μ'=up μ p (.lst (done.filterMap f))) ?_ ?_ _ _ ⟨[],rfl,rfl⟩
  · rintro μ' ⟨done,e,rfl⟩
    rw[List.append_nil] at e
    subst e
    refine mN aC ?_
    rw[xu hp];exact k
  · rintro d r μ' N ⟨done,e,rfl⟩ hN
    have hd:d∈ds:=by rw[e];simp
    have e':ds=(done++[d])++r:=by rw[e];simp
    have lf:(done.filterMap f).length < 1000000:=by
      have h1:=List.length_filterMap_le f done
      have h2:ds.length=done.length+(d::r).length:=by rw[e,List.length_append]
      rw[List.length_cons] at h2;omega
    refine step d hd _ (Sub.new hp) (fun oy μ3=>match oy with
      | some y=>kL μ3 p fun zs=>zs.length < 1000000∧N (up μ3 p (.lst (zs++[y])))
      | none=>N μ3) ?_
    cases hf:f d with
    | none=>
      refine hN _ ⟨done++[d],e',?_⟩
      rw[List.filterMap_append];simp[hf]
    | some y=>
      refine mN aC ⟨lf,hN _ ⟨done++[d],e',?_⟩⟩
      rw[List.filterMap_append,kf];simp[hf]
theorem comp_map (f:D→D)(hl:ds.length≤999999)
    (step:∀ d∈ds,∀ μ',Sub μ μ'→∀ (N:DK),N (f d) μ'→G d ρc μ' fun ρ1 μ1=>te ρ1 μ1 N)
    (k:Q (.ls (ds.map f)) μ):wQ G lF te ρc ds μ Q:=by
  refine sR (fun d=>some (f d)) hl (fun d hd μ' s N n=>?_) (by rw[show (fun d=>some (f d))=some ∘ f from rfl,List.filterMap_eq_map];exact k)
  exact step d hd μ' s (fun y μ3=>N (some y) μ3) n
end
section
open PySem PySem.Spec PyProof.Rows L2
section
variable {prog:Program} {w:World} {A:Around} {E:Value→Shared→Prop} {s:Shared}
end
section
variable {X:Cx} {ea eb:Expr} {Ta Tb:ETr} {p p2 pos rpos:Pos}
end
end
section
open PySem PySem.Spec PyProof.Rows L2
section
variable {prog:Program} {w:World} {A:Around} {E:Value→Shared→Prop} {s:Shared}
end
end
section
open PySem PySem.Spec PyProof.Rows L2
section
variable {prog:Program} {w:World} {A:Around} {E:Value→Shared→Prop} {s:Shared}
end
section
variable {X:Cx} {ea:Expr} {es:List Expr} {ek:Nat} {ep p pos:Pos}
end
end
section
open PySem PySem.Spec PyProof PyProof.Rows L2
section
variable {w:World} {prog:Program} {A:Around} {E:Value→Shared→Prop}
section
variable {R:Result→Shared→Prop} {I:Addr} {fp wr:List Addr} {n:Nat} {P:Nat→Value→Prop} {St:Nat→Heap→Prop}
end
variable {s:Shared}
end
section
variable {X:Cx} {e d:Expr} {p pos kp:Pos} {Te Td:ETr}
end
end
section
open PySem PySem.Spec PyProof.Rows L2
section
variable {X:Cx} {o i:Expr} {To Ti:ETr} {apos cpos:Pos}
end
end
section
open PySem PySem.Spec PyProof.Rows L2
section
variable {X:Cx} {o i:Expr} {To Ti:ETr} {apos cpos:Pos}
end
end
section
open PySem PySem.Spec PyProof.Rows L2
end
section
open PySem PySem.Spec PyProof.Rows L2
section
variable {X:Cx} {a b c d:Expr} {ta tb tc td:TE} {Ta Tb Tc Td:ETr} {pos:Pos} {o1 o2 o3:CmpOp} {r1 r2 r3:L2.R2} {R1 R2 R3:DR2}
end
end
section
open PySem PySem.Spec PyProof.Rows L2
def vn (x:Str):It:=⟨fun i _=>i < x.cps.size,fun i H v H'=>H'=H∧∃ c,x.cps[i]? = some c∧v=.str ⟨#[c]⟩,fun i _=>x.cps.size≤i⟩
theorem o8 {P:Program}{w:World}{K:PySem.W.Frag}{tg:Expr}(x:Str)(t:Tok)(it:Addr):Turn P w K tg (vn x) [it] it (fun i h=>h.IsStrIter it "str_ascii_iterator" x t i) where
  mem:=List.mem_singleton.mpr rfl
  obj:=fun i h st b hb=>by
    obtain rfl:=List.mem_singleton.mp hb
    obtain ⟨o,e,c,d⟩:=st
    exact ⟨o,e,fun v z=>by rw[d] at z;cases z⟩
  keep:=fun i h h' st k=>let ⟨o,e,r⟩:=st;⟨o,k it (List.mem_singleton.mpr rfl) o e,r⟩
  item:=by
    intro X hP hw hK hc i pins s σ H E I hf st hg
    subst hP hw hK
    have hg:i < x.cps.size:=hg
    obtain ⟨f0,f1,f2,f3,f4,f5⟩:=hf it (List.mem_singleton.mpr rfl)
    refine wpAny_pyNext_ascii_item st (c:=x.cps[i]) (Array.getElem?_eq_getElem hg) fun h' st' sb=>?_
    have I1:Inv X pins σ H { s with heap:=h',toks:=s.toks+1 }:=I.turned (t':=s.toks+1) (fun b o hb e=>(sb.2 b hb).trans e) f0 f1 f3 f4 f5
    obtain ⟨o,e,c,d⟩:=id st'
    exact ⟨_,rfl,mW (s:={ s with heap:=h',toks:=s.toks+1 }) e c d (by decide) ⟨.str ⟨#[x.cps[i]]⟩,H,I1,⟨_,rfl⟩,⟨rfl,_,Array.getElem?_eq_getElem hg,rfl⟩,st',fun b hb=>(hf b hb).1⟩⟩
  done:=by
    intro X hP hw hK hc i pins s σ H E I hf st hg
    subst hP hw hK
    have hg:x.cps.size≤i:=hg
    obtain ⟨f0,f1,f2,f3,f4,f5⟩:=hf it (List.mem_singleton.mpr rfl)
    exact wpAny_pyNext_ascii_end (I.ok.hd hc) st (Array.getElem?_eq_none hg) fun h' eb=>⟨rfl,I.turned (t':=s.toks) (fun b o hb e=>eb b o hb e) f0 f1 f3 f4 f5⟩
  self:=fun _ _ _ _ _ st h=>wpAny_pyIter_striter_ascii st h
section
variable {X:Cx} {tg a b:Expr} {Ta Tb:ETr} {pos:Pos}
def zN (tl:TE):TI:=fun σ H R=>tl σ H fun v H1=>∃ x,v=.str x∧x.cps.all (· < 128)=true∧R (vn x) H1
theorem vA {l:Expr}{tl:TE}(hl:PE X l tl):PI X tg l (zN tl):=by
  intro pins s σ H R I h
  refine thn (hl pins s σ H _ I h) fun v s1 ⟨y,H1,I1,r1,x,e,hx,q⟩=>?_
  subst e
  obtain ⟨t,rfl⟩:=r1
  refine wpAny_pyIter_ascii hx ?_
  refine ⟨s1.heap.objs.size,[s1.heap.objs.size],_,_,H1,rfl,I1.kept (t':=s1.toks) fun b o e=>Heap.get?_push_of_some _ e,o8 x t _,⟨_,Heap.get?_push_size _ rfl,rfl,rfl⟩,fun b hb=>?_,q⟩
  obtain rfl:=List.mem_singleton.mp hb
  exact I1.u0 (Nat.le_refl _) (I1.hok.fresh (Nat.le_refl _))
def jB (x:Str):List D:=x.cps.toList.map fun c=>.str ⟨#[c]⟩
theorem jg (x:Str):(jB x).length=x.cps.size:=by simp[jB]
theorem qZ {K:PySem.W.Frag}{H:Hp}(x:Str):nY K (vn x) H (jB x) where
  go:=fun i H' t hi=>by rw[jg] at hi;exact hi
  yld:=fun i H' v H'' t hi ⟨e,c,hc,y⟩=>by
    subst e y
    refine ⟨.refl _,⟨.str ⟨#[c]⟩,?_,.str _⟩,fun _ m=>m⟩
    unfold jB
    rw[List.getElem?_map,Array.getElem?_toList,hc];rfl
  stop:=fun i H' t hi=>by rw[jg] at hi;exact hi
def rV (a:ETr):ATr:=fun ρ μ Q=>a ρ μ fun x μ1=>match x with
  | .str z=>z.cps.all (· < 128)=true∧Q (jB z) μ1
  | _=>False
theorem w4 (ha:LE X a Ta):LI X tg a (rV Ta):=by
  obtain ⟨ta,pa,sa⟩:=ha.ex
  refine ⟨_,vA pa,fun σ H ρ μ Q R rl h k=>sa σ H ρ μ _ _ rl h fun x H1 d μ1 t1 m1 p1 h1=>?_⟩
  cases p1 with
  | str z=>exact ⟨z,rfl,h1.1,k _ H1 _ μ1 t1 m1 (qZ z) h1.2⟩
  | _=>exact False.elim h1
def kj:DR2:=fun x y μ Q=>match x,y with
  | .str z,.int i=>z.length≤1000000∧kN (atI z.cps.toList i) fun c=>Q (.str ⟨#[c]⟩) μ
  | _,_=>False
theorem tq {K:PySem.W.Frag}:bw K L2.vg kj:=fun H μ x y dx dy Q Q' m px py h k=>by
  cases px with
  | str z=>
    cases py with
    | int i=>
      obtain ⟨h1,h2⟩:=h
      obtain ⟨c,ec,h3⟩:=qW h2
      exact ⟨z,i,c,rfl,rfl,Nat.le_trans h1 (by decide),ec,k _ H _ μ (.refl H) m (.str _) h3⟩
    | _=>exact False.elim h
  | _=>exact False.elim (by cases py<;>exact h)
theorem qd (ha:LE X a Ta)(hb:LE X b Tb)(hs:iU b:=by intro _ _;rfl):LE X (.Subscript a b pos) (ai kj Ta Tb):=by
  obtain ⟨ta,pa,sa⟩:=ha.ex
  obtain ⟨tb,pb,sb⟩:=hb.ex
  exact ⟨_,uD oZ pa pb hs,dr tq sa sb⟩
def oz (x y:Str):Bool:=!(Builtin.Str.occurrences x y 0 x.length 1).isEmpty
def sX:DR2:=fun x y μ Q=>match x,y with
  | .str i,.str j=>Q (.bl (oz j i)) μ
  | _,_=>False
theorem tj {K:PySem.W.Frag}:bw K (fun x y H Q=>∃ i j,x=.str i∧y=.str j∧Q (.bl (!(Builtin.Str.occurrences j i 0 j.length 1).isEmpty)) H) sX:=fun H μ x y dx dy Q Q' m px py h k=>by
  cases px with
  | str z=>
    cases py with
    | str i=>exact ⟨z,i,rfl,rfl,k _ H _ μ (.refl H) m (.bl _) h⟩
    | _=>exact False.elim h
  | _=>exact False.elim (by cases py<;>exact h)
theorem vz (ha:LE X a Ta)(hb:LE X b Tb)(hm:lastMarks [.In] [b]=false:=by with_unfolding_all rfl):LE X (.Compare a [.In] [b] pos) (ai sX Ta Tb):=e7 oa tj ha hb hm
def dk (x:Str)(n:Nat):Str:=⟨(List.replicate n x.cps).foldl (· ++ ·) #[]⟩
theorem jZ:∀ (n:Nat),(List.replicate n (#[]:Array Nat)).foldl (· ++ ·) #[] = #[]
  | 0=>rfl
  | n+1=>by
    rw[List.replicate_succ,List.foldl_cons]
    exact jZ n
theorem jW (xs:Array Nat):∀ (n:Nat) (a:Array Nat),((List.replicate n xs).foldl (· ++ ·) a).size=a.size+n*xs.size
  | 0,a=>by simp
  | n+1,a=>by
    rw[List.replicate_succ,List.foldl_cons,jW xs n,Array.size_append,Nat.succ_mul];omega
theorem fold_list (xs:Array Nat):∀ (n:Nat) (a:Array Nat),((List.replicate n xs).foldl (· ++ ·) a).toList=a.toList++(List.replicate n xs.toList).flatten
  | 0,a=>by simp
  | n+1,a=>by
    rw[List.replicate_succ,List.foldl_cons,fold_list xs n,List.replicate_succ,List.flatten_cons,Array.toList_append,List.append_assoc]
theorem iF (x:Str)(n:Nat):(dk x n).cps.toList=(List.replicate n x.cps.toList).flatten:=by
  unfold dk
  rw[fold_list];rfl
theorem mm:OpR X (binaryOp .Mult) (fun x y H Q=>∃ z n,x=.str z∧y=.int n∧(n≤1000∧-1000≤n∧z.length≤1000)∧Q (.str (dk z n.toNat)) H):=by
  intro pins s σ H x y v u Q I rx ry h
  obtain ⟨z,n,rfl,rfl,⟨n1,n0,hz⟩,q⟩:=h
  obtain ⟨t,rfl⟩:=rx
  obtain ⟨t',rfl⟩:=ry
  have big:∀ {m:Int},¬ m < 1→m≤1000→¬ ((z.length:Int) > (2 ^ 63 - 1) / m):=fun {m} h1 h2=>by
    have:(1000:Int)≤(2 ^ 63 - 1) / m:=by
      rw[Int.le_ediv_iff_mul_le (by omega)]
      omega
    omega
  have hlen:∀ {k:Nat},k≤1000→Builtin.Str.tooLong (z.length*k)=false:=fun {k} hk=>by
    have:z.length*k≤1000*1000:=Nat.mul_le_mul hz hk
    unfold Builtin.Str.tooLong
    exact decide_eq_false (by have:1000*1000≤sizeLine:=by decide
                              omega)
  refine PySem.P.mul_str (by
    rw[decide_eq_false (by omega),decide_eq_false (by omega)];rfl) (fun h1 _=>big h1 n1) (fun _ _=>hlen (by omega)) ?_
  split
  · rename_i h1
    have e:dk z n.toNat=Str.empty:=by rw[show n.toNat=0 by omega];rfl
    rw[e] at q
    exact ⟨by decide,.str Str.empty,H,I.tok _,⟨_,rfl⟩,q⟩
  · rename_i h1
    split
    · rename_i h2
      have e:dk z n.toNat=z:=by
        simp only[Bool.or_eq_true,beq_iff_eq] at h2
        obtain ⟨c⟩:=z
        unfold dk
        rcases h2 with h2 | h2
        · rw[show n.toNat=1 by omega];simp
        · have:c = #[]:=Array.eq_empty_of_size_eq_zero h2
          subst this
          rw[jZ]
      rw[e] at q
      exact ⟨.str z,H,I,⟨t,rfl⟩,q⟩
    · refine ⟨?_,.str _,H,I.tok _,⟨_,rfl⟩,q⟩
      show ((List.replicate n.toNat z.cps).foldl (· ++ ·) #[]).size≤sizeLine
      rw[jW]
      have hz':z.cps.size≤1000:=hz
      have:n.toNat*z.cps.size≤1000*1000:=Nat.mul_le_mul (by omega) hz'
      have:1000*1000≤sizeLine:=by decide
      simp
      omega
def mU:DR2:=fun x y μ Q=>match x,y with
  | .str z,.int n=>(n≤1000∧-1000≤n∧z.length≤1000)∧Q (.str (dk z n.toNat)) μ
  | _,_=>False
theorem ow {K:PySem.W.Frag}:bw K (fun x y H Q=>∃ z n,x=.str z∧y=.int n∧(n≤1000∧-1000≤n∧z.length≤1000)∧Q (.str (dk z n.toNat)) H) mU:=fun H μ x y dx dy Q Q' m px py h k=>by
  cases px with
  | str z=>
    cases py with
    | int i=>exact ⟨z,i,rfl,rfl,h.1,k _ H _ μ (.refl H) m (.str _) h.2⟩
    | _=>exact False.elim h
  | _=>exact False.elim (by cases py<;>exact h)
theorem rm (ha:LE X a Ta)(hb:LE X b Tb):LE X (.BinOp a .Mult b pos) (ai mU Ta Tb):=eo mm ow ha hb
def yM:V→Option Int→Option Int→Hp→VK→Prop:=fun x lo hi H Q=>∃ z,x=.str z∧z.length≤sizeLine∧Q (.str (Txt.slice z lo hi)) H
theorem part_of {v:Value}{o:Option Int}(h:PySem.IsPart v o):∃ p:Option (Int×Tok),v=partValue p∧p.map (·.1)=o:=by
  cases h with
  | none=>exact ⟨none,rfl,rfl⟩
  | int i t=>exact ⟨some (i,t),rfl,rfl⟩
theorem wM:SlR X yM:=by
  intro pins s σ H x v vl vu lo hi sl Q I rx hs pl pu h
  obtain ⟨z,rfl,hz,q⟩:=h
  obtain ⟨t,rfl⟩:=rx
  obtain ⟨pl',rfl,el⟩:=part_of pl
  obtain ⟨pu',rfl,eu⟩:=part_of pu
  refine ⟨"str", _,F.slot_str_getitem.lookup,typeIs_str _ _ _,wpAny_getItem_str_slice (l:=pl') (u:=pu') (st:=none) hs rfl ?_⟩
  have e:slicePicked z pl' pu' none=Builtin.Str.strSliceIndices lo hi 1 z.length:=by unfold slicePicked;rw[el,eu];rfl
  have le:=Txt.slice_le z lo hi
  unfold sliceMade
  rw[e]
  unfold Txt.slice at q le
  split
  · rename_i c
    rw[if_pos (by simpa using c)] at q
    exact ⟨.str z,H,I,⟨t,rfl⟩,q⟩
  · rename_i c
    rw[if_neg (by simpa using c)] at q le
    exact ⟨Nat.le_trans le hz,.str _,H,I.tok _,⟨_,rfl⟩,q⟩
def n4 (Ta:ETr)(Tl Th:OTr):ETr:=fun ρ μ Q=>Ta ρ μ fun x μ1=>Tl ρ μ1 fun i μ2=>Th ρ μ2 fun j μ3=>match x with
  | .str z=>z.length≤1000000∧Q (.str (Txt.slice z i j)) μ3
  | _=>False
theorem lr {lo hi:Option Expr}{Tl Th:OTr}{p2:Pos}(ha:LE X a Ta)(hl:LO X lo Tl)(hh:LO X hi Th):LE X (.Subscript a (.Slice lo hi none p2) pos) (n4 Ta Tl Th):=by
  obtain ⟨ta,pa,sa⟩:=ha.ex
  obtain ⟨tl,pl,sl⟩:=hl.ex
  obtain ⟨th,ph,sh⟩:=hh.ex
  refine ⟨_,jI wM pa pl ph,fun σ H ρ μ Q Q' rl h k=>sa σ H ρ μ _ _ rl h fun x H1 dx μ1 t1 m1 p1 h1=>sl σ H1 ρ μ1 _ _ (rl.go t1 m1) h1 fun i H2 μ2 t2 m2 h2=>sh σ H2 ρ μ2 _ _ (rl.go (t1.trans t2) m2) h2 fun j H3 μ3 t3 m3 h3=>?_⟩
  cases p1 with
  | str z=>exact ⟨z,rfl,Nat.le_trans h3.1 (by decide),k _ H3 _ μ3 (t1.trans (t2.trans t3)) m3 (.str _) h3.2⟩
  | _=>exact False.elim h3
end
end
section
open PySem PySem.Spec PyProof.Rows L2
def tyO (μ:Mu):D→Option String
  | .obj a=>(match μ a with
    | some (.dct _)=>some "dict"
    | some (.lst _)=>some "list"
    | none=>none)
  | d=>tyD d
theorem rR (K:PySem.W.Frag):∀ c∈l7,PySem.W.kitOne K (.type "dict") (.type c)=some (aA "dict" c):=by
  intro c hc
  simp only[l7,List.mem_cons,List.not_mem_nil,or_false] at hc
  rcases hc with rfl | rfl | rfl | rfl | rfl | rfl<;>with_unfolding_all rfl
def ve (K:PySem.W.Frag):List V→Hp→VK→Prop:=fun xs H Q=>uh K xs H Q∨∃ a t c,xs=[.ref a,.ty c]∧((∃ ys,H a=some (.lst ys))∧t = "list" ∨ (∃ ys,H a=some (.dK ys))∧t = "dict")∧c∈l7∧Q (.bl (aA t c)) H
theorem n6 {X:Cx}:aS X (.builtin "isinstance") (ve X.K):=fun pins s σ H xs us Q I rx h=>by
  rcases h with h | ⟨a,t,c,ex,ha,hc,q⟩
  · exact oM pins s σ H xs us Q I rx h
  subst ex
  cases rx with | @cons _ u _ _ r1 r2=>cases r2 with | cons r2 r3=>
  cases r3
  cases (show _=Value.type c from r2)
  cases (show u=Value.ref a from r1)
  have fin:∀ tk,EP X pins σ Q (.bool (aA t c)) { s with toks:=tk }:=fun tk=>⟨.bl _,H,I.tok tk,rfl,q⟩
  rcases ha with ⟨⟨ys,ea⟩,rfl⟩ | ⟨⟨ys,ea⟩,rfl⟩
  · obtain ⟨_,_,_,_,_,e⟩:=I.y4 ea
    exact PySem.W.kia_one PySem.W.kitx_list I.kIn ⟨_,e,rfl⟩ (m9 X.K "list" (by decide) c hc) (fun z=>nomatch z) fin
  · obtain ⟨_,_,_,_,o,es,ep,h1,h2,_⟩:=(show bg X.prog X.w H s.heap a (.dK ys) from I.hok a _ ea)
    exact PySem.W.kia_one PySem.W.kitx_dict I.kIn ⟨o,h1,h2.1⟩ (rR X.K c hc) (fun z=>nomatch z) fin
def bQ (c:String):DR:=fun x μ Q=>match tyO μ x with
  | some t=>Q (.bl (aA t c)) μ
  | none=>False
theorem dW {X:Cx}{x y:Str}{p p2 pos:Pos}{c:String}{e:Expr}{Ta:ETr}(hg:Gl X x)(hm:X.mg x=none)(hv:bootBuiltins x=some (.builtin "isinstance"))(ha:LE X e Ta)(hg2:Gl X y)(hm2:X.mg y=none)(hv2:bootBuiltins y=some (.type c))(hc:c∈l7:=by decide)
    (hn:x ≠ "__name__" := by decide) (hdb:(x == ("__debug__" : Str))=false:=by decide) (hn2:y ≠ "__name__" := by decide) (hdb2:(y == ("__debug__" : Str))=false:=by decide)
    (h0:starEach [.Name y p2] X.env=[(false,eval (.Name y p2) X.env)]:=by rfl) (h1:starEach (e::[.Name y p2]) X.env=(false,eval e X.env)::starEach [.Name y p2] X.env:=by rfl) (h2:(backTo pos (starEach [.Name y p2] X.env)).any (·.1)=false:=by rfl) :
    LE X (.Call (.Name x p) [e,.Name y p2] [] pos) (TUn (bQ c) Ta):=by
  obtain ⟨ta,pa,sa⟩:=ha.ex
  refine ⟨_,jv n6 hg hm hv (dO pa (dO (sH hg2 hm2 hv2 (v:=.ty c) rfl hn2 hdb2) iN h0) h1) hn hdb h1 h2,fun σ H ρ μ Q Q' rl h k=>sa σ H ρ μ _ _ rl h fun v H1 d μ1 t1 m1 p1 h1=>?_⟩
  have h1':(match tyO μ1 d with | some t=>Q (.bl (aA t c)) μ1 | none=>False):=h1
  cases p1 with
  | obj a=>
    cases e:μ1 a with
    | none=>simp only[tyO,e] at h1'
    | some o=>
      cases o with
      | lst ds=>
        simp only[tyO,e] at h1'
        obtain ⟨ys,ea,_⟩:=m1 a _ e
        exact .inr ⟨a,_,c,rfl,.inl ⟨⟨ys,ea⟩,rfl⟩,hc,k _ H1 _ μ1 t1 m1 (.bl _) h1'⟩
      | dct ds=>
        simp only[tyO,e] at h1'
        obtain ⟨ys,ea,_⟩:=m1 a _ e
        exact .inr ⟨a,_,c,rfl,.inr ⟨⟨ys,ea⟩,rfl⟩,hc,k _ H1 _ μ1 t1 m1 (.bl _) h1'⟩
  | non=>exact .inl ⟨_,_,_,c,rfl,.non,rfl,hc,k _ H1 _ μ1 t1 m1 (.bl _) h1'⟩
  | bl b=>exact .inl ⟨_,_,_,c,rfl,.bl b,rfl,hc,k _ H1 _ μ1 t1 m1 (.bl _) h1'⟩
  | int b=>exact .inl ⟨_,_,_,c,rfl,.int b,rfl,hc,k _ H1 _ μ1 t1 m1 (.bl _) h1'⟩
  | str b=>exact .inl ⟨_,_,_,c,rfl,.str b,rfl,hc,k _ H1 _ μ1 t1 m1 (.bl _) h1'⟩
  | ty b=>exact False.elim h1'
  | tup a l=>exact .inl ⟨_,_,_,c,rfl,.tup a l,rfl,hc,k _ H1 _ μ1 t1 m1 (.bl _) h1'⟩
  | ls a l=>exact .inl ⟨_,_,_,c,rfl,.ls a l,rfl,hc,k _ H1 _ μ1 t1 m1 (.bl _) h1'⟩
def qy:ETr:=fun ρ μ Q=>∀ p,μ p=none→Q (.obj p) (up μ p (.dct []))
theorem wD {X:Cx}{pos:Pos}:LE X (.Dict [] [] pos) qy:=rQ
end
section
open PySem PySem.Spec PyProof.Rows L2
def up1 (n:Nat):Nat:=if 97≤n∧n≤122 then n - 32 else n
section
variable {X:Cx} {o i:Expr} {apos cpos:Pos}
theorem qz {to:TE}(ho:PE X o to)
    (hbase:attributeBase o "upper" X.env (eval o X.env)=eval o X.env:=by rfl)
    (hfew:((backTo cpos (starEach [] X.env)).all (fun x=>!x.1)&&(backToKw cpos (keywordEach [] X.env)).all (fun x=>x.1.isSome)
      && decide (([]:List Expr).length+([]:List Keyword).length+(if ([]:List Keyword).isEmpty then 0 else 1) < 30))=true:=by rfl)
    (hline:(apos.endLine == cpos.line)=true:=by rfl) (hn:backTo cpos (starEach [] X.env)=[]:=by rfl) :
    PE X (.Call (.Attribute o "upper" apos) [] [] cpos) (fun σ H Q=>to σ H fun x H1=>∃ z,x=.str z∧(Txt.upper z).length≤1000000∧Q (.str (Txt.upper z)) H1):=by
  intro pins s σ H Q I h
  refine wpAny_Call_method_lateS hbase hfew hline (thn (ho pins s σ H _ I h) fun v s1 ⟨x,H1,I1,r1,z,ex,hl,q⟩=>?_)
  subst ex
  obtain ⟨t,rfl⟩:=r1
  rw[hn]
  exact SB.upper (decide_eq_false (Nat.not_lt.mpr (Nat.le_trans hl (by decide)))) ⟨.str _,H1,I1.tok _,⟨_,rfl⟩,q⟩
def jk (To:ETr):ETr:=fun ρ μ Q=>To ρ μ fun x μ1=>match x with
  | .str z=>(Txt.upper z).length≤1000000∧Q (.str (Txt.upper z)) μ1
  | _=>False
theorem le_upper {To:ETr}(ho:LE X o To)
    (hbase:attributeBase o "upper" X.env (eval o X.env)=eval o X.env:=by rfl)
    (hfew:((backTo cpos (starEach [] X.env)).all (fun x=>!x.1)&&(backToKw cpos (keywordEach [] X.env)).all (fun x=>x.1.isSome)
      && decide (([]:List Expr).length+([]:List Keyword).length+(if ([]:List Keyword).isEmpty then 0 else 1) < 30))=true:=by rfl)
    (hline:(apos.endLine == cpos.line)=true:=by rfl) (hn:backTo cpos (starEach [] X.env)=[]:=by rfl) :
    LE X (.Call (.Attribute o "upper" apos) [] [] cpos) (jk To):=by
  obtain ⟨to,po,so⟩:=ho.ex
  refine ⟨_,qz po hbase hfew hline hn,fun σ H ρ μ Q Q' rl h k=>so σ H ρ μ _ _ rl h fun x H1 dx μ1 t1 m1 p1 h1=>?_⟩
  cases p1 with
  | str z=>exact ⟨z,rfl,h1.1,k _ H1 _ μ1 t1 m1 (.str _) h1.2⟩
  | _=>exact False.elim h1
theorem kd:∀ {zs:List Str} {us:List Value},Vals (zs.map V.str) us→∃ l:List (Str×Tok),us=strValues l∧l.map (·.1)=zs
  | [],_,.nil=>⟨[],rfl,rfl⟩
  | z::zs,_,.cons ⟨t,e⟩ r=>by
    obtain ⟨l,h1,h2⟩:=kd r
    exact ⟨(z,t)::l,by rw[e,h1];rfl,by rw[← h2];rfl⟩
theorem tm:MtM X "str.join" (fun x vs H Q=>∃ sep p zs,x=.str sep∧vs=[.ref p]∧SqL X.K H p (zs.map V.str)∧JoinOk sep zs=true∧Q (.str (Txt.join sep zs)) H):=by
  intro pins s σ H x vs v us Q I rx rv h
  obtain ⟨sep,p,zs,rfl,rfl,sq,ok,q⟩:=h
  obtain ⟨t,rfl⟩:=rx
  obtain ⟨u,rfl,ru⟩:=rv.one
  cases (show u=Value.ref p from ru)
  obtain ⟨its,r,pl,_⟩:=I.list sq
  obtain ⟨l,rfl,e⟩:=kd r
  exact SC.join pl.isList e ok fun t' k=>⟨.str _,H,I.tok _,⟨_,rfl⟩,q⟩
theorem wG {e:Expr}{es:List Expr}{to:TE}{t:TA}{name:Str}{id:String}{r:V→List V→Hp→VK→Prop}(slot:Slot "str" name id)(hty:typeOf (.builtin id)=pure (.type "method_descriptor"))(hm:MtM X id r)(ho:PE X o to)(ha:PA X (e::es) t)
    (hbase:attributeBase o name X.env (eval o X.env)=eval o X.env:=by rfl)
    (hfew:((backTo cpos (starEach (e::es) X.env)).all (fun x=>!x.1)&&(backToKw cpos (keywordEach [] X.env)).all (fun x=>x.1.isSome)
      && decide ((e::es).length+([]:List Keyword).length+(if ([]:List Keyword).isEmpty then 0 else 1) < 30))=true:=by rfl)
    (hline:(apos.endLine == cpos.line)=true:=by rfl) (hs:starEach (e::es) X.env=(false,eval e X.env)::starEach es X.env:=by rfl) (hplain:(backTo cpos (starEach es X.env)).any (·.1)=false:=by rfl) :
    PE X (.Call (.Attribute o name apos) (e::es) [] cpos) (fun σ H Q=>to σ H fun x H1=>(∃ z,x=.str z)∧t σ H1 fun xs H2=>r x xs H2 Q):=by
  intro pins s σ H Q I h
  refine wpAny_Call_method_late hbase hfew hline rfl (thn (ho pins s σ H _ I h) fun v s1 ⟨x,H1,I1,r1,⟨z,ex⟩,q1⟩=>?_)
  subst ex
  obtain ⟨tk,rfl⟩:=r1
  refine ⟨"str", id,PySem.F.plainAttrs_str,slot,hty,typeIs_str _ _ _,(fun a e=>nomatch e),?_⟩
  have hA:=ha cpos pins s1 σ H1 _ I1 q1
  rw[hs] at hA ⊢
  refine Calls.callWith_builtin (by show (false || (backTo cpos (starEach es X.env)).any (·.1))=false;rw[hplain]<;>rfl) (Calls.evalArgs_plain ?_)
  exact thn hA fun us s2 ⟨vs,H2,I2,r2,q2⟩=>hm pins s2 σ H2 (.str z) vs _ us Q I2 ⟨tk,rfl⟩ r2 q2
def dU:List D→Option (List Str)
  | []=>some []
  | .str z::r=>(dU r).map (z::·)
  | _::_=>none
theorem mE {K:PySem.W.Frag}{H:Hp}:∀ {xs:List V} {ds:List D} {zs:List Str},DpL K H xs ds→dU ds=some zs→xs=zs.map V.str
  | _,_,_,.nil,e=>by simp only[dU,Option.some.injEq] at e;subst e;rfl
  | _,d::ds,zs,.cons h l,e=>by
    cases h with
    | str z=>
      simp only[dU] at e
      cases e1:dU ds with
      | none=>rw[e1] at e;cases e
      | some ys=>
        rw[e1] at e
        cases e
        rw[mE l e1];rfl
    | _=>cases e
def ni (To Ti:ETr):ETr:=fun ρ μ Q=>To ρ μ fun x μ1=>match x with
  | .str sep=>Ti ρ μ1 fun y μ2=>match y with
    | .ls ds=>∃ zs,dU ds=some zs∧JoinOk sep zs=true∧Q (.str (Txt.join sep zs)) μ2
    | _=>False
  | _=>False
theorem sF {To Ti:ETr}(ho:LE X o To)(hi:LE X i Ti)
    (hbase:attributeBase o "join" X.env (eval o X.env)=eval o X.env:=by rfl)
    (hfew:((backTo cpos (starEach [i] X.env)).all (fun x=>!x.1)&&(backToKw cpos (keywordEach [] X.env)).all (fun x=>x.1.isSome)
      && decide (([i]:List Expr).length+([]:List Keyword).length+(if ([]:List Keyword).isEmpty then 0 else 1) < 30))=true:=by rfl)
    (hline:(apos.endLine == cpos.line)=true:=by rfl) (hs:starEach [i] X.env=(false,eval i X.env)::starEach [] X.env:=by rfl) (hplain:(backTo cpos (starEach [] X.env)).any (·.1)=false:=by rfl) :
    LE X (.Call (.Attribute o "join" apos) [i] [] cpos) (ni To Ti):=by
  obtain ⟨to,po,so⟩:=ho.ex
  obtain ⟨ti,pi,si⟩:=hi.ex
  refine ⟨_,wG PySem.F.slot_str_join PySem.F.type_str_join tm po (dO pi iN hs) hbase hfew hline hs hplain,fun σ H ρ μ Q Q' rl h k=>so σ H ρ μ _ _ rl h fun x H1 dx μ1 t1 m1 p1 h1=>?_⟩
  cases p1 with
  | str z=>
    refine ⟨⟨z,rfl⟩,si σ H1 ρ μ1 _ _ (rl.go t1 m1) h1 fun y H2 dy μ2 t2 m2 p2 h2=>?_⟩
    cases p2 with
    | @ls a xs ds sq l=>
      obtain ⟨zs,e,ok,h2⟩:=h2
      have:=mE l e
      subst this
      exact ⟨z,a,zs,rfl,rfl,sq.sq,ok,k _ H2 _ μ2 (t1.trans t2) m2 (.str _) h2⟩
    | _=>exact False.elim h2
  | _=>exact False.elim h1
def tM:FSp:=fun ds μ Q=>match ds with
  | [.int i]=>i.natAbs.log2 < 1920∧Q (.str (toString i)) μ
  | _=>False
theorem sN {K:PySem.W.Frag}:h9 K (fun xs H Q=>∃ i,xs=[.int i]∧i.natAbs.log2 < 1920∧Q (.str (toString i)) H) tM:=fun H μ xs ds Q Q' m p h k=>by
  unfold tM at h
  split at h
  · cases p with | cons p1 p2=>cases p2;cases p1;exact ⟨_,rfl,h.1,k _ H _ μ (.refl H) m (.str _) h.2⟩
  · exact h.elim
end
theorem gj:∀ (l:List Nat),(∀ c∈l,c < 128)→Txt.upper ⟨l.toArray⟩=⟨(l.map up1).toArray⟩
  | [],_=>by decide +kernel
  | c::l,h=>by
    have e:(⟨(c::l).toArray⟩:Str)=⟨#[c]⟩ ++ ⟨l.toArray⟩:=by
      show _=(⟨#[c]++l.toArray⟩:Str)
      simp
    rw[e,PySem.W.KOpn.upper_app,PySem.W.KOpn.upper_one (h c List.mem_cons_self),gj l fun x hx=>h x (List.mem_cons_of_mem _ hx)]
    show (⟨#[_]++_⟩:Str)=_
    simp[up1]
theorem fF {z:Str}(h:∀ c∈z.cps.toList,c < 128):(Txt.upper z).cps.toList=z.cps.toList.map up1:=by
  have:=gj z.cps.toList h
  rw[show (⟨z.cps.toList.toArray⟩:Str)=z by simp] at this
  rw[this]
theorem join_list:∀ (cs:List Nat),(Txt.join (Str.ofString "") (cs.map fun c=>⟨#[c]⟩)).cps.toList=cs:=by
  intro cs
  show (Builtin.Str.glued (Str.ofString "") _).cps.toList=cs
  rw[StrLaws.glued_eq_join]
  have e0:(Str.ofString "").cps = #[]:=by decide +kernel
  induction cs with
  | nil=>rfl
  | cons c r ih=>
    cases r with
    | nil=>rfl
    | cons d r=>
      simp only[List.map_cons,Str.join] at ih ⊢
      show ((#[c]++(Str.ofString "").cps)++_).toList=_
      rw[Array.toList_append,ih,e0];simp
theorem r8 (zs:List Str)(h:∀ z∈zs,z.length=1)(hl:zs.length≤1000):JoinOk (Str.ofString "") zs=true:=by
  unfold JoinOk
  rw[StrLaws.joinTotal]
  have e0:(Str.ofString "").length=0:=by decide +kernel
  have es:(zs.map (·.length)).sum=zs.length:=by
    clear hl
    induction zs with
    | nil=>rfl
    | cons z r ih=>rw[List.map_cons,List.sum_cons,h z List.mem_cons_self,ih fun y hy=>h y (List.mem_cons_of_mem _ hy),List.length_cons];omega
  rw[es,e0]
  have:Builtin.Str.tooLong (zs.length+zs.length*0)=false:=decide_eq_false (Nat.not_lt.mpr (Nat.le_trans (show zs.length+zs.length*0≤1000 by omega) (by decide)))
  rw[this];rfl
end
end L3
namespace Kk
local macro_rules | `(tactic| walk_at "ln")=>`(tactic| (intro ds μ Q h;split at h;rfl;exact h.elim))
open PySem L3
theorem p7:aA "NoneType" "int" = false:=by decide +kernel
theorem nQ:aA "NoneType" "bool" = false:=by decide +kernel
theorem qr:aA "NoneType" "str" = false:=by decide +kernel
theorem lL:aA "NoneType" "tuple" = false:=by decide +kernel
theorem qI:aA "bool" "int" = true:=by decide +kernel
theorem om:aA "bool" "bool" = true:=by decide +kernel
theorem o4:aA "bool" "str" = false:=by decide +kernel
theorem kM:aA "bool" "tuple" = false:=by decide +kernel
theorem qw:aA "int" "int" = true:=by decide +kernel
theorem nO:aA "int" "bool" = false:=by decide +kernel
theorem qx:aA "int" "str" = false:=by decide +kernel
theorem lT:aA "int" "tuple" = false:=by decide +kernel
theorem ot:aA "str" "int" = false:=by decide +kernel
theorem nt:aA "str" "bool" = false:=by decide +kernel
theorem qV:aA "str" "str" = true:=by decide +kernel
theorem lQ:aA "str" "tuple" = false:=by decide +kernel
theorem pj:aA "tuple" "int" = false:=by decide +kernel
theorem og:aA "tuple" "bool" = false:=by decide +kernel
theorem oR:aA "tuple" "str" = false:=by decide +kernel
theorem kR:aA "tuple" "tuple" = true:=by decide +kernel
theorem ou:aA "list" "int" = false:=by decide +kernel
theorem nH:aA "list" "bool" = false:=by decide +kernel
theorem pJ:aA "list" "str" = false:=by decide +kernel
theorem mj:aA "list" "tuple" = false:=by decide +kernel
theorem pL:aA "dict" "int" = false:=by decide +kernel
theorem nu:aA "dict" "bool" = false:=by decide +kernel
theorem qj:aA "dict" "str" = false:=by decide +kernel
theorem lC:aA "dict" "tuple" = false:=by decide +kernel
def kTx (x:D)(f:Str→Prop):Prop:=match x with
  | .str z=>f z
  | _=>False
section
variable (c:String) (μ:Mu) (Q:DK)
theorem xh:bQ c .non μ Q=Q (.bl (aA "NoneType" c)) μ:=propext Iff.rfl
theorem xC (b:Bool):bQ c (.bl b) μ Q=Q (.bl (aA "bool" c)) μ:=propext Iff.rfl
theorem yG (b:Int):bQ c (.int b) μ Q=Q (.bl (aA "int" c)) μ:=propext Iff.rfl
theorem xw (b:Str):bQ c (.str b) μ Q=Q (.bl (aA "str" c)) μ:=propext Iff.rfl
theorem yL (b:List D):bQ c (.tup b) μ Q=Q (.bl (aA "tuple" c)) μ:=propext Iff.rfl
theorem xQ (b:List D):bQ c (.ls b) μ Q=Q (.bl (aA "list" c)) μ:=propext Iff.rfl
theorem oT {c μ Q}{a:Addr}{k:List (L2.Key×D)}(e:μ a=some (.dct k)):bQ c (.obj a) μ Q=Q (.bl (aA "dict" c)) μ:=by unfold bQ;simp only[tyO,e]
theorem wY (x y:Str):sX (.str x) (.str y) μ Q=Q (.bl (oz y x)) μ:=propext Iff.rfl
theorem sS (x:Str)(i:Int):kj (.str x) (.int i) μ Q=(x.length≤1000000∧kN (L2.atI x.cps.toList i) fun c=>Q (.str ⟨#[c]⟩) μ):=propext Iff.rfl
theorem rF (x:Str)(i:Int):mU (.str x) (.int i) μ Q=((i≤1000∧-1000≤i∧x.length≤1000)∧Q (.str (dk x i.toNat)) μ):=propext Iff.rfl
theorem vt (a:ETr)(ρ:ST)(Q:List D→Mu→Prop):rV a ρ μ Q=a ρ μ fun x μ1=>kTx x fun z=>z.cps.all (· < 128)=true∧Q (jB z) μ1:=by
  unfold rV kTx;rfl
theorem uW (a:ETr)(lo hi:OTr)(ρ:ST):n4 a lo hi ρ μ Q=a ρ μ fun x μ1=>lo ρ μ1 fun i μ2=>hi ρ μ2 fun j μ3=>kTx x fun z=>z.length≤1000000∧Q (.str (Txt.slice z i j)) μ3:=by
  unfold n4 kTx;rfl
theorem xT (z:Str)(f:Str→Prop):kTx (.str z) f=f z:=propext Iff.rfl
theorem rJ (ρ:ST):qy ρ μ Q = ∀ p,μ p=none→Q (.obj p) (up μ p (.dct [])):=propext Iff.rfl
end
theorem qK (a:ETr)(ρ:ST)(μ:Mu)(Q:DK):jk a ρ μ Q=a ρ μ fun x μ1=>kTx x fun z=>(Txt.upper z).length≤1000000∧Q (.str (Txt.upper z)) μ1:=by
  unfold jk kTx;rfl
def kLz (x:D)(f:List D→Prop):Prop:=match x with
  | .ls z=>f z
  | _=>False
theorem xR (z:List D)(f:List D→Prop):kLz (.ls z) f=f z:=propext Iff.rfl
theorem tT (a i:ETr)(ρ:ST)(μ:Mu)(Q:DK):ni a i ρ μ Q=a ρ μ fun x μ1=>kTx x fun sep=>i ρ μ1 fun y μ2=>kLz y fun ds=>∃ zs,dU ds=some zs∧JoinOk sep zs=true∧Q (.str (Txt.join sep zs)) μ2:=by
  unfold ni kTx kLz;rfl
theorem vW (i:Int)(μ:Mu)(Q:DK):jX tM [.int i] μ Q=(i.natAbs.log2 < 1920∧Q (.str (toString i)) μ):=propext Iff.rfl
def zK:=Jn @xh <| Jn @xC <| Jn @yG <| Jn @xw <| Jn @yL <| Jn @xQ <| Jn @wY <| Jn @sS <| Jn @rF <| Jn @xT <| Jn @rJ <| Jn @xR <| Jn @vW <| Jn @rB <| Jn @wR <| Jn @tL <| Jn @wJ <| Jn @xU <| @yX
local macro_rules | `(tactic| walk_at "go")=>`(tactic| try simp only[↓zK,↓vt,↓uW,↓qK,↓tT,↓yv,↓xm,↓xb,↓ym,↓y8,↓xO,↓mL,↓gs,bZ,bG,bT,bS,bW,bX,cn,cg,bL,bR,b4,b7,b3,cw,b6,cm,bV,cp,b5,cj,i3,p7,nQ,qr,lL,qI,om,o4,kM,qw,nO,qx,lT,ot,nt,qV,lQ,pj,og,oR,kR,ou,nH,pJ,mj,pL,nu,qj,lC,gS,List.map_cons,List.map_nil,List.replicate,List.cons_append,List.nil_append,lk,yQ,mG,uf,oB,oF,mC,mI,true_and,and_true,and_self,Bool.not_true,Bool.not_false,decide_true,decide_false,Bool.or_true,Bool.or_false,Bool.true_or,Bool.false_or,Bool.and_false,Bool.false_and,Bool.and_true,Bool.true_and,Int.reduceToNat,Int.reducePow,Int.reduceNeg,Int.reduceSub,Int.reduceAdd,Int.reduceMul,Int.reduceEq,Int.reduceLT,Int.reduceLE,Int.reduceBEq,kf,dX,dC,dM,dI,dR,dN,dt,if_true,if_false,Bool.false_eq_true,reduceCtorEq,decide_eq_true_eq])
local macro_rules | `(tactic| walk_at "ok")=>`(tactic| (simp only[L3.c6,L3.MulOk,L3.S64,L3.hZ,L3.fQ] at *;omega))
local macro_rules | `(tactic| walk_at "ini")=>`(tactic| simp only[ini,List.map,List.length,List.replicate,Nat.reduceSub,Nat.reduceAdd,Nat.sub_self,List.cons_append,List.nil_append,List.append_nil])
inductive Thg (μ:Mu):D→Prop
  | non:Thg μ .non
  | bl (b:Bool):Thg μ (.bl b)
  | int (i:Int):Thg μ (.int i)
  | str (z:Str):Thg μ (.str z)
  | tup (ds:List D):Thg μ (.tup ds)
  | ls (ds:List D):Thg μ (.ls ds)
  | dct {a:Addr} {k:List (L2.Key×D)} (e:μ a=some (.dct k)):Thg μ (.obj a)
def isI:D→Bool
  | .int _=>true
  | _=>false
def aT:FSp:=fun ds μ Q=>match ds with
  | [d]=>Thg μ d∧Q (.bl (isI d)) μ
  | _=>False
theorem ji:∀ ds μ Q,aT ds μ Q→ds.length=1:=by
  unfold aT
  walk_at "ln"
def f7:STr:=a8 (eK (TUn (bQ "int") (ah 0)) (ix (TUn (bQ "bool") (ah 0))))
theorem ki:∀ ds μ Q,aT ds μ Q→f7 { nx:=fun _ μ'=>RT Q .non μ',rt:=RT Q } (ini 1 ds) μ:=by
  intro ds μ Q h
  unfold aT at h
  split at h
  case h_2=>exact h.elim
  rename_i d
  walk_at "ini"
  unfold f7
  walk_at "go"
  obtain ⟨t,k⟩:=h
  cases t
  all_goals
    walk_at "go"
    try (rw[oT (by assumption)];walk_at "go")
    exact ⟨_,.refl _,k⟩
def jE:D→Bool
  | .tup ds=>decide (ds.length=2)
  | _=>false
def aN:FSp:=fun ds μ Q=>match ds with
  | [d,.int m]=>(Thg μ d∧m=2)∧Q (.bl (jE d)) μ
  | _=>False
theorem eS:∀ ds μ Q,aN ds μ Q→ds.length=2:=by
  unfold aN
  walk_at "ln"
def cY:STr:=a8 (eK (TUn (bQ "tuple") (ah 0)) (ai rEq (ao dh (ae (ah 0) (aj))) (ah 1)))
theorem fU:∀ ds μ Q,aN ds μ Q→cY { nx:=fun _ μ'=>RT Q .non μ',rt:=RT Q } (ini 2 ds) μ:=by
  intro ds μ Q h
  unfold aN at h
  split at h
  case h_2=>exact h.elim
  rename_i d m
  walk_at "ini"
  unfold cY
  walk_at "go"
  obtain ⟨⟨t,rfl⟩,k⟩:=h
  cases t with
  | tup ds=>
    walk_at "go"
    have e:eqD (.int (ds.length:Nat)) (.int 2)=decide (ds.length=2):=by
      rw[mG];exact decide_eq_decide.mpr (by omega)
    simp only[jE] at k
    rw[← e] at k
    exact ⟨_,.refl _,k⟩
  | _=>
    walk_at "go"
    try (rw[oT (by assumption)];walk_at "go")
    exact ⟨_,.refl _,k⟩
def sm (c:Nat):Bool:=decide (97≤c)&&decide (c≤122)
def nmS (z:Str):Bool:=(decide (1≤z.cps.toList.length)&&decide (z.cps.toList.length≤8))&&z.cps.toList.all sm
def nmB:D→Bool
  | .str z=>nmS z
  | _=>false
def LET:Str:=Str.ofString "abcdefghijklmnopqrstuvwxyz"
theorem rH:∀ c:Nat,c < 128→oz LET ⟨#[c]⟩=sm c:=by
  have:∀ c:Fin 128,oz LET ⟨#[c.val]⟩=sm c.val:=by decide +kernel
  exact fun c h=>this ⟨c,h⟩
theorem bz (z:Str):z.cps.toList.length=z.length:=Array.length_toList
theorem xA {p:Prop} [Decidable p] {A B:Prop}(h1:¬ p→A)(h2:p→B):kIf (!decide p) A B:=by
  by_cases h:p
  · rw[decide_eq_true h];exact h2 h
  · rw[decide_eq_false h];exact h1 h
def sgB:D→D
  | .str ⟨a⟩=>.bl (sm (a.getD 0 0))
  | d=>d
def ThA (μ:Mu)(d:D):Prop:=Thg μ d∧∀ z,d=.str z→z.cps.all (· < 128)=true∧z.length≤1000
def bo:FSp:=fun ds μ Q=>match ds with
  | [d]=>ThA μ d∧Q (.bl (nmB d)) μ
  | _=>False
theorem jt:∀ ds μ Q,bo ds μ Q→ds.length=1:=by
  unfold bo
  walk_at "ln"
def ip:STr:=aK (eM (TOr (cW (TB (TUn (bQ "str") (ah 0)))) (cW (TB (dm rLe rLe (TC (.int 1)) (ao dh (ae (ah 0) (aj))) (TC (.int 8)))))) (a8 (TC (.bl false))) (cD)) (a8 (ao uH (ae (gh (rV (ah 0)) (aw 0) (lF) (ai sX (ah 0) (TC (.str "abcdefghijklmnopqrstuvwxyz"))) 1 []) (aj))))
theorem kX:∀ ds μ Q,bo ds μ Q→ip { nx:=fun _ μ'=>RT Q .non μ',rt:=RT Q } (ini 1 ds) μ:=by
  intro ds μ Q h
  unfold bo at h
  split at h
  case h_2=>exact h.elim
  rename_i d
  walk_at "ini"
  unfold ip
  walk_at "go"
  obtain ⟨⟨t,tz⟩,k⟩:=h
  cases t with
  | str z=>
    obtain ⟨hz,hl⟩:=tz z rfl
    walk_at "go"
    refine ⟨by omega,?_⟩
    walk_at "go"
    have e1:((1:Int)≤(z.length:Nat))↔1≤z.cps.toList.length:=by rw[bz];omega
    have e2:(((z.length:Nat):Int)≤8)↔z.cps.toList.length≤8:=by rw[bz];omega
    have no:¬ (1≤z.cps.toList.length∧z.cps.toList.length≤8)→RT Q (.bl false) μ:=fun h=>by
      have:nmB (.str z)=false:=by
        show nmS z=false
        unfold nmS
        rw[← Bool.decide_and,decide_eq_false h,Bool.false_and]
      rw[this] at k
      exact ⟨_,.refl _,k⟩
    refine kif (fun h1=>?_) fun h1=>no fun h=>h1 (e1.mpr h.1)
    refine xA (fun h2=>no fun h=>h2 (e2.mpr h.2)) fun h2=>?_
    refine ⟨hz,?_⟩
    refine comp_map sgB (by rw[jg];have:z.cps.size=z.length:=rfl;omega) (fun d hd μ' _ N n=>?_) ?_
    · unfold jB at hd
      obtain ⟨c,hc,rfl⟩:=List.mem_map.mp hd
      have c1:c < 128:=by
        have:=Array.all_eq_true_iff_forall_mem.mp hz c (by simpa using hc)
        simpa using this
      walk_at "go"
      rw[show oz (Str.ofString "abcdefghijklmnopqrstuvwxyz") ⟨#[c]⟩=sm c from rH c c1]
      exact n
    · walk_at "go"
      refine ⟨z.cps.toList.map sm,?_,_,.refl _,?_⟩
      · unfold jB
        rw[List.map_map,List.map_map];rfl
      · have:nmB (.str z)=(z.cps.toList.map sm).all id:=by
          show nmS z=_
          unfold nmS
          rw[decide_eq_true (e1.mp h1),decide_eq_true (e2.mp h2),Bool.true_and,Bool.true_and,List.all_map];rfl
        rw[this] at k;exact k
  | _=>
    walk_at "go"
    try (rw[oT (by assumption)];walk_at "go")
    exact ⟨_,.refl _,k⟩
def isF:D→Bool
  | .tup [.int p,.int q]=>decide (0 < q)&&decide (Int.gcd p q=1)
  | _=>false
theorem vO {c:Bool}{A B:Prop}(h1:c=true→B)(h2:c=false→A):kIf (!c) A B:=by
  cases c with
  | true=>exact h1 rfl
  | false=>exact h2 rfl
theorem two {d:D}(h:jE d=true):∃ a b,d=.tup [a,b]:=by
  unfold jE at h
  split at h
  · rename_i ds
    match ds,of_decide_eq_true h with
    | [n,p],_=>exact ⟨n,p,rfl⟩
  · cases h
theorem qo {d:D}(h:isI d=true):∃ i,d=.int i:=by
  cases d with
  | int i=>exact ⟨i,rfl⟩
  | _=>cases h
theorem ud {d:D}(h:jE d=false):isF d=false:=by
  unfold isF
  split
  · simp[jE] at h
  · rfl
theorem yI {a b:D}(h:isI a=false):isF (.tup [a,b])=false:=by
  cases a with
  | int i=>cases h
  | _=>rfl
theorem xE {a b:D}(h:isI b=false):isF (.tup [a,b])=false:=by
  cases b with
  | int i=>cases h
  | _=>cases a<;>rfl
def ThF (μ:Mu)(d:D):Prop:=Thg μ d∧∀ a b,d=.tup [a,b]→Thg μ a∧Thg μ b
def aM:FSp:=fun ds μ Q=>match ds with
  | [d]=>ThF μ d∧Q (.bl (isF d)) μ
  | _=>False
theorem eQ:∀ ds μ Q,aM ds μ Q→ds.length=1:=by
  unfold aM
  walk_at "ln"
def c9:STr:=aK (eM (TOr (cW (TB (ao aN (ae (ah 0) (ae (TC (.int 2)) (aj)))))) (TOr (cW (TB (ao aT (ae (ai L3.rIx (ah 0) (TC (.int 0))) (aj))))) (cW (TB (ao aT (ae (ai L3.rIx (ah 0) (TC (.int 1))) (aj))))))) (a8 (TC (.bl false))) (cD)) (a8 (eK (ai rGt (ai L3.rIx (ah 0) (TC (.int 1))) (TC (.int 0))) (ai rEq (ao L3.aX (ae (ai L3.rIx (ah 0) (TC (.int 0))) (ae (ai L3.rIx (ah 0) (TC (.int 1))) (aj)))) (TC (.int 1)))))
theorem gi:∀ ds μ Q,aM ds μ Q→c9 { nx:=fun _ μ'=>RT Q .non μ',rt:=RT Q } (ini 1 ds) μ:=by
  intro ds μ Q h
  unfold aM at h
  split at h
  case h_2=>exact h.elim
  rename_i d
  walk_at "ini"
  unfold c9
  walk_at "go"
  obtain ⟨⟨t,tt⟩,k⟩:=h
  have fin:∀ {b},isF d=b→RT Q (.bl b) μ:=fun {b} e=>by rw[e] at k;exact ⟨_,.refl _,k⟩
  refine ⟨⟨t,rfl⟩,?_⟩
  walk_at "go"
  refine vO (fun h=>?_) fun h=>fin (ud h)
  obtain ⟨a,b,rfl⟩:=two h
  obtain ⟨ta,tb⟩:=tt _ _ rfl
  walk_at "go"
  refine ⟨ta,?_⟩
  walk_at "go"
  refine vO (fun h1=>?_) fun h1=>fin (yI h1)
  refine ⟨tb,?_⟩
  walk_at "go"
  refine vO (fun h2=>?_) fun h2=>fin (xE h2)
  obtain ⟨p,rfl⟩:=qo h1
  obtain ⟨q,rfl⟩:=qo h2
  walk_at "go"
  refine kif (fun h=>?_) fun h=>fin (by simp only[isF,decide_eq_false h,Bool.false_and])
  refine ⟨rfl,fin ?_⟩
  simp only[isF,decide_eq_true h,Bool.true_and,mG]
  exact decide_eq_decide.mpr (by omega)
abbrev bI:FSp:=L3.bE
def g4:STr:=aK (a9 (bO (ae (TC (.int 3)) (ae (TC (.int 13)) (ae (TC (.int 1000)) (ae (ai jd (TC (.int 10)) (TC (.int 9))) (aj)))))) (aw 1)) (aK (a9 (ao L3.ax (ae (ah 0) (ae (ai L3.rIx (ah 1) (ao L3.ax (ae (ah 0) (ae (TC (.int 4)) (aj))))) (aj)))) (aw 2)) (a8 (ai d9 (ah 2) (ai L3.rIx (bO (ae (TC (.int 1)) (ae (TUn lI (TC (.int 1))) (aj)))) (ao L3.ax (ae (ah 0) (ae (TC (.int 2)) (aj))))))))
theorem eV:∀ ds μ Q,bI ds μ Q→ds.length=1:=L3.lZ
theorem fo:∀ ds μ Q,bI ds μ Q→g4 { nx:=fun _ μ'=>RT Q .non μ',rt:=RT Q } (ini 3 ds) μ:=L3.oo (by decide)
abbrev bK:FSp:=L3.bF
def gU:STr:=aK (a9 (bO (ae (TC (.int 3)) (ae (TC (.int 13)) (ae (TC (.int 60)) (ae (ai kY (ai jd (TC (.int 10)) (TC (.int 9))) (TC (.int 1))) (aj)))))) (aw 2)) (aK (a9 (ai aR (TC (.int 1)) (ao L3.ax (ae (ah 0) (ae (ai L3.rIx (ah 2) (ao L3.ax (ae (ah 0) (ae (TC (.int 4)) (aj))))) (aj))))) (aw 3)) (a8 (ai L3.rIx (bO (ae (ah 3) (ae (ao jY (ae (TC (.int 1)) (ae (ao f9 (ae (ao gD (ae (ah 1) (aj))) (ae (ai kY (ai jd (TC (.int 10)) (TC (.int 9))) (TC (.int 1))) (aj)))) (aj)))) (ae (ah 3) (aj))))) (ao L3.ax (ae (ah 0) (ae (TC (.int 3)) (aj)))))))
theorem eO:∀ ds μ Q,bK ds μ Q→ds.length=2:=L3.lu
theorem fi:∀ ds μ Q,bK ds μ Q→gU { nx:=fun _ μ'=>RT Q .non μ',rt:=RT Q } (ini 4 ds) μ:=L3.oe (by decide)
theorem pick {xs:List D}{P:D→Prop}{i:Int}{f:D→Prop}(k0:0≤i)(k1:i < xs.length)(al:∀ d∈xs,P d)(h:∀ d,P d→f d):kO (atD xs i) f:=by
  obtain ⟨d,e,p⟩:=u9 al k0 k1
  exact xX e (h d p)
theorem tk {μ:Mu}{b:Addr}{n:Int}{Q:DK}(hB:Box μ b)(h0:0 < n)(h1:n < 18446744073709551616)(h:∀ k μ',0≤k→k < n→bC b μ μ'→Q (.int k) μ'):jX L3.ax [.obj b,.int n] μ Q:=⟨⟨hB,h0,h1⟩,h⟩
def Bad (μ:Mu)(d:D):Prop:=(ThA μ d∧ThF μ d)∧isF d=false∧nmB d=false
theorem cC {μ:Mu}{a b:D}(ha:Thg μ a)(hb:Thg μ b)(h:isF (.tup [a,b])=false):Bad μ (.tup [a,b]):=⟨⟨⟨.tup _,fun z e=>nomatch e⟩,.tup _,fun x y e=>by
  simp only[D.tup.injEq,List.cons.injEq,and_true] at e
  obtain ⟨rfl,rfl⟩:=e
  exact ⟨ha,hb⟩⟩,h,rfl⟩
theorem ba {μ:Mu}{d:D}(h:Thg μ d)(h1:∀ z,d≠.str z)(h2:jE d=false)(h3:nmB d=false):Bad μ d:=⟨⟨⟨h,fun z e=>(h1 z e).elim⟩,h,fun x y e=>by subst e;simp[jE] at h2⟩,ud h2,h3⟩
theorem iq {μ:Mu}{z:Str}(ha:z.cps.all (· < 128)=true)(hl:z.length≤1000)(h:nmS z=false):Bad μ (.str z):=⟨⟨⟨.str z,fun y e=>by cases e;exact ⟨ha,hl⟩⟩,.str z,fun x y e=>nomatch e⟩,rfl,h⟩
def aO:FSp:=fun ds μ Q=>match ds with
  | [.obj b,.tup [.int p,.int q]]=>(Box μ b∧Fr p q)∧∀ d μ',Bad μ' d→bC b μ μ'→Q d μ'
  | _=>False
theorem eR:∀ ds μ Q,aO ds μ Q→ds.length=2:=by
  unfold aO
  walk_at "ln"
def c5:STr:=aK (a9 (ai aR (TC (.int 2)) (ao L3.ax (ae (ah 0) (ae (TC (.int 5)) (aj))))) (aw 2)) (aK (a9 (bO (ae (bq (ae (ai d9 (ai L3.rIx (ah 1) (TC (.int 0))) (ah 2)) (ae (ai d9 (ai L3.rIx (ah 1) (TC (.int 1))) (ah 2)) (aj)))) (ae (bq (ae (ai L3.rIx (ah 1) (TC (.int 0))) (ae (TC (.int 0)) (aj)))) (ae (bq (ae (ai L3.rIx (ah 1) (TC (.int 0))) (ae (TUn lI (ai L3.rIx (ah 1) (TC (.int 1)))) (aj)))) (ae (bq (ae (TC (.int 0)) (ae (ah 2) (aj)))) (ae (bO (ae (ai L3.rIx (ah 1) (TC (.int 0))) (ae (ai L3.rIx (ah 1) (TC (.int 1))) (aj)))) (ae (TSl (ah 1) (ONo) (iK (TC (.int 1)))) (aj)))))))) (aw 3)) (aK (a9 (ai aR (ah 3) (bO (ae (ai aR (ah 1) (bq (ae (TC (.int 1)) (aj)))) (ae (bq (ae (TC (.bl true)) (ae (TC (.int 1)) (aj)))) (ae (bq (ae (TC (.int 0)) (ae (TC (.bl true)) (aj)))) (ae (bq (ae (ao tM (ae (ai L3.rIx (ah 1) (TC (.int 0))) (aj))) (ae (ai L3.rIx (ah 1) (TC (.int 1))) (aj)))) (ae (bq (ae (ai L3.rIx (ah 1) (TC (.int 0))) (ae (TC .non) (aj)))) (ae (bq (ae (ah 1) (ae (ai L3.rIx (ah 1) (TC (.int 1))) (aj)))) (ae (ai L3.rIx (ah 1) (TC (.int 0))) (aj)))))))))) (aw 3)) (a8 (ai L3.rIx (ah 3) (ao L3.ax (ae (ah 0) (ae (TC (.int 13)) (aj))))))))
theorem fB:∀ ds μ Q,aO ds μ Q→c5 { nx:=fun _ μ'=>RT Q .non μ',rt:=RT Q } (ini 4 ds) μ:=by
  intro ds μ Q h
  unfold aO at h
  split at h
  case h_2=>exact h.elim
  rename_i b p q
  walk_at "ini"
  unfold c5
  walk_at "go"
  obtain ⟨⟨hB,F⟩,k⟩:=h
  obtain ⟨q0,q1,p0,p1,g⟩:=F
  refine tk hB (by decide) (by decide) fun k1 μ1 k10 k11 B1=>?_
  walk_at "go"
  refine ⟨.inl (.inr (by unfold S64;omega)),.inl (.inr (by unfold S64;omega)),by simp,?_⟩
  refine ⟨?_,?_⟩
  · have:p.natAbs < 2 ^ 64:=by omega
    have h0:p.natAbs.log2≤64:=by
      by_cases z:p.natAbs=0
      · rw[z];decide
      · exact Nat.le_of_lt ((Nat.log2_lt z).mpr this)
    omega
  walk_at "go"
  refine ⟨by simp,?_⟩
  refine tk B1.box (by decide) (by decide) fun k2 μ2 k20 k21 B2=>?_
  walk_at "go"
  refine pick (P:=Bad μ2) k20 k21 ?_ fun d hd=>⟨_,.refl _,k d _ hd (B1.trans B2)⟩
  repeat' (first | exact e8 | refine cV ?_ ?_)
  · refine cC (.int _) (.int _) ?_
    simp only[isF]
    rw[Int.gcd_mul_right,g,decide_eq_false (show ¬ (1*(2+k1).natAbs=1) by omega),Bool.and_false]
  · exact cC (.int _) (.int _) (by simp[isF])
  · exact cC (.int _) (.int _) (by simp only[isF];rw[decide_eq_false (by omega),Bool.false_and])
  · refine cC (.int _) (.int _) ?_
    simp only[isF]
    rw[Int.gcd_zero_left,decide_eq_false (show ¬ ((2+k1).natAbs=1) by omega),Bool.and_false]
  · exact ba (.ls _) (fun z e=>nomatch e) rfl rfl
  · exact ba (.tup _) (fun z e=>nomatch e) rfl rfl
  · exact ba (.tup _) (fun z e=>nomatch e) rfl rfl
  · exact cC (.bl _) (.int _) rfl
  · exact cC (.int _) (.bl _) rfl
  · exact cC (.str _) (.int _) rfl
  · exact cC (.int _) .non rfl
  · exact cC (.tup _) (.int _) rfl
  · exact ba (.int _) (fun z e=>nomatch e) rfl rfl
theorem ub {o:Option Nat}{c:Nat}{f:Nat→Prop}(e:o=some c)(h:f c):kN o f:=by rw[e];exact h
theorem vQ {i:Int}(i0:0≤i)(i1:i < 26):∃ c,L2.atI (Str.ofString "abcdefghijklmnopqrstuvwxyz").cps.toList i=some c∧sm c=true:=by
  have:∀ j:Fin 26,(match L2.atI (Str.ofString "abcdefghijklmnopqrstuvwxyz").cps.toList (j.val:Int) with | some c=>sm c | none=>false)=true:=by decide +kernel
  obtain ⟨j,rfl⟩:=Int.eq_ofNat_of_zero_le i0
  have w:=this ⟨j,by omega⟩
  split at w
  · rename_i c e;exact ⟨c,e,w⟩
  · cases w
theorem tJ:(Str.ofString "abcdefghijklmnopqrstuvwxyz").length≤1000000:=by decide +kernel
theorem app_list (x y:Str):(x++y).cps.toList=x.cps.toList++y.cps.toList:=by
  show (x.cps++y.cps).toList=_
  exact Array.toList_append
theorem xJ {z:Str}{l:List Nat}(e:z.cps.toList=l)(h1:1≤l.length)(h8:l.length≤8)(ha:∀ c∈l,sm c=true):nmS z=true:=by
  unfold nmS
  rw[e,decide_eq_true h1,decide_eq_true h8,List.all_eq_true.mpr ha];rfl
theorem jQ:∀ cs:List Nat,dU (cs.map fun c=>.str ⟨#[c]⟩)=some (cs.map fun c=>⟨#[c]⟩)
  | []=>rfl
  | c::r=>by
    show (dU (r.map _)).map _=_
    rw[jQ r];rfl
def aW:FSp:=fun ds μ Q=>match ds with
  | [.obj b]=>Box μ b∧∀ z μ',nmS z=true→bC b μ μ'→Q (.str z) μ'
  | _=>False
theorem hW:∀ ds μ Q,aW ds μ Q→ds.length=1:=by
  unfold aW
  walk_at "ln"
def eG:STr:=aK (a9 (ai aR (TC (.int 1)) (ao L3.ax (ae (ah 0) (ae (TC (.int 8)) (aj))))) (aw 1)) (a8 (ni (TC (.str "")) (gh (cu (ah 1)) (aw 0) (lF) (ai kj (TC (.str "abcdefghijklmnopqrstuvwxyz")) (ao L3.ax (ae (ah 1) (ae (TC (.int 26)) (aj))))) 1 [0])))
theorem iW:∀ ds μ Q,aW ds μ Q→eG { nx:=fun _ μ'=>RT Q .non μ',rt:=RT Q } (ini 2 ds) μ:=by
  intro ds μ Q h
  unfold aW at h
  split at h
  case h_2=>exact h.elim
  rename_i b
  walk_at "ini"
  unfold eG
  walk_at "go"
  obtain ⟨hB,k⟩:=h
  refine tk hB (by decide) (by decide) fun k1 μ1 k10 k11 B1=>?_
  walk_at "go"
  refine ⟨⟨by omega,by omega⟩,?_⟩
  intro p hp
  have nb:b≠p:=fun z=>by obtain ⟨g,s,c,e,_⟩:=B1.box;rw[z,hp] at e;cases e
  refine d8 (fun r μ'=>∃ cs:List Nat,μ' p=some (.lst (cs.map fun c=>.str ⟨#[c]⟩))∧Box μ' b∧(∀ a,a≠b→a≠p→μ' a=μ a)∧(cs.length+r.length=(1+k1).toNat)∧∀ c∈cs,sm c=true) ?_ ?_ _ _ ⟨[],aC,?_,?_,?_,fun c h=>nomatch h⟩
  · rintro μ' ⟨cs,e,B,oth,l,al⟩
    refine mN e ?_
    walk_at "go"
    simp only[List.length_nil,Nat.add_zero] at l
    refine ⟨_,jQ cs,r8 _ (fun z hz=>?_) (by rw[List.length_map];omega),_,.refl _,k _ _ (xJ (join_list cs) (by omega) (by omega) al) ⟨?_,fun a ha=>?_⟩⟩
    · obtain ⟨c,_,rfl⟩:=List.mem_map.mp hz;rfl
    · obtain ⟨g,s,c,e,r⟩:=B
      exact ⟨g,s,c,by unfold dn;rw[if_neg nb];exact e,r⟩
    · unfold dn;split
      · rename_i z;subst z;rw[← B1.oth a ha];exact hp.symm
      · rename_i z;exact oth a ha z
  · rintro d r μ' N ⟨cs,e,B,oth,l,al⟩ hN
    walk_at "go"
    refine tk B (by decide) (by decide) fun k2 μ2 k20 k21 B2=>?_
    walk_at "go"
    obtain ⟨c,ec,hc⟩:=vQ k20 k21
    refine ⟨tJ,ub ec ?_⟩
    have e2:μ2 p=some (.lst (cs.map fun c=>.str ⟨#[c]⟩)):=by rw[B2.oth p (Ne.symm nb)];exact e
    refine mN e2 ⟨?_,hN _ ⟨cs++[c],?_,?_,fun a h1 h2=>?_,?_,fun x hx=>?_⟩⟩
    · rw[List.length_map];rw[List.length_cons] at l;omega
    · rw[aC,List.map_append];rfl
    · obtain ⟨g,s,c,e,r⟩:=B2.box
      exact ⟨g,s,c,by rw[bx nb];exact e,r⟩
    · rw[bx h2,B2.oth a h1,oth a h1 h2]
    · rw[List.length_cons] at l
      rw[show (cs++[c]).length=cs.length+1 by simp];omega
    · rcases List.mem_append.mp hx with h' | h'
      · exact al x h'
      · rw[List.mem_singleton.mp h'];exact hc
  · obtain ⟨g,s,c,e,r⟩:=B1.box
    exact ⟨g,s,c,by rw[bx nb];exact e,r⟩
  · intro a h1 h2
    rw[bx h2,B1.oth a h1]
  · rw[ck];simp
theorem l3 {z:Str}{l u:Option Int}{c:Nat}(h:c∈(Txt.slice z l u).cps.toList):c∈z.cps.toList:=by
  unfold Txt.slice at h
  split at h
  · exact h
  · simp only[List.mem_filterMap] at h
    obtain ⟨i,_,e⟩:=h
    exact Array.mem_toList_iff.mpr (Array.mem_of_getElem? e)
theorem uw {z:Str}{c:Nat}(h:c∈z.cps.toList)(hc:sm c=false):nmS z=false:=by
  cases e:nmS z with
  | false=>rfl
  | true=>
    unfold nmS at e
    simp only[Bool.and_eq_true,List.all_eq_true] at e
    rw[e.2 c h] at hc;cases hc
theorem jc {z:Str}(h:∀ c∈z.cps.toList,c < 128):z.cps.all (· < 128)=true:=by
  rw[Array.all_eq_true_iff_forall_mem]
  intro c hc
  exact decide_eq_true (h c (by simpa using hc))
theorem qD {z:Str}(h:nmS z=true):(1≤z.length∧z.length≤8)∧∀ c∈z.cps.toList,97≤c∧c≤122:=by
  unfold nmS at h
  simp only[Bool.and_eq_true,decide_eq_true_eq,List.all_eq_true,bz] at h
  refine ⟨h.1,fun c hc=>?_⟩
  have:=h.2 c hc
  simpa only[sm,Bool.and_eq_true,decide_eq_true_eq] using this
theorem rA {z:Str}(h:8 < z.length):nmS z=false:=by
  unfold nmS
  rw[bz,decide_eq_false (show ¬ z.length≤8 by omega),Bool.and_false,Bool.false_and]
theorem ix9 (n:Nat)(h:9≤n):Builtin.Str.strSliceIndices none (some 9) 1 n=Builtin.Str.strSliceIndices (some ((0:Nat):Int)) (some ((9:Nat):Int)) 1 n:=by
  have e1:max (0:Int) (min 0 (n:Int))=0:=by omega
  have e2:max (0:Int) (min 9 (n:Int))=9:=by omega
  unfold Builtin.Str.strSliceIndices PySem.sliceRange
  simp
  rw[e1,e2];rfl
theorem sl9 {x:Str}(h:9≤x.length):(Txt.slice x none (some 9)).length=9:=by
  unfold Txt.slice
  rw[ix9 _ h]
  split
  · rename_i e
    rw[StrLaws.strSliceIndices_plain (by decide) h] at e
    simp at e
    exact e.symm
  · rw[StrLaws.sliced_plain x (by decide) h]
    show ((List.take _ _).toArray).size=9
    rw[List.size_toArray,List.length_take,List.length_drop,bz];omega
theorem vK {i:Int}(i0:0≤i)(i1:i < 9):∃ c,L2.atI (Str.ofString " A1-_.\n0Z").cps.toList i=some c∧sm c=false∧c < 128:=by
  have:∀ j:Fin 9,(match L2.atI (Str.ofString " A1-_.\n0Z").cps.toList (j.val:Int) with | some c=>!sm c&&decide (c < 128) | none=>false)=true:=by decide +kernel
  obtain ⟨j,rfl⟩:=Int.eq_ofNat_of_zero_le i0
  have w:=this ⟨j,by omega⟩
  split at w
  · rename_i c e
    simp only[Bool.and_eq_true,Bool.not_eq_true',decide_eq_true_eq] at w
    exact ⟨c,e,w.1,w.2⟩
  · cases w
theorem nj (x y:Str):(x++y).length=x.length+y.length:=by rw[← bz,app_list,List.length_append,bz,bz]
theorem pS (z:Str):(dk z 9).length=9*z.length:=by
  rw[← bz,iF]
  simp[Str.length]
  omega
theorem sA {z:Str}{n c:Nat}(h:c∈(dk z n).cps.toList):c∈z.cps.toList:=by
  rw[iF] at h
  obtain ⟨l,h1,h2⟩:=List.mem_flatten.mp h
  rwa [(List.mem_replicate.mp h1).2] at h2
def aI:FSp:=fun ds μ Q=>match ds with
  | [.obj b,.str z]=>(Box μ b∧nmS z=true)∧∀ d μ',Bad μ' d→bC b μ μ'→Q d μ'
  | _=>False
theorem er:∀ ds μ Q,aI ds μ Q→ds.length=2:=by
  unfold aI
  walk_at "ln"
def cH:STr:=aK (a9 (ao L3.ax (ae (ah 0) (ae (ao dh (ae (ah 1) (aj))) (aj)))) (aw 2)) (aK (a9 (ai kj (TC (.str " A1-_.\n0Z")) (ao L3.ax (ae (ah 0) (ae (TC (.int 9)) (aj))))) (aw 3)) (aK (a9 (bO (ae (TC (.str "")) (ae (n4 (ai mU (ah 1) (TC (.int 9))) (ONo) (iK (TC (.int 9)))) (ae (ai aR (ai aR (n4 (ah 1) (ONo) (iK (ah 2))) (ah 3)) (n4 (ah 1) (iK (ai aR (ah 2) (TC (.int 1)))) (ONo))) (ae (jk (ah 1)) (ae (bq (ae (ah 1) (aj))) (ae (bO (ae (ah 1) (aj))) (ae (TC .non) (ae (TC (.int 5)) (ae (TC (.bl true)) (aj))))))))))) (aw 4)) (a8 (ai L3.rIx (ah 4) (ao L3.ax (ae (ah 0) (ae (TC (.int 9)) (aj))))))))
theorem eU:∀ ds μ Q,aI ds μ Q→cH { nx:=fun _ μ'=>RT Q .non μ',rt:=RT Q } (ini 5 ds) μ:=by
  intro ds μ Q h
  unfold aI at h
  split at h
  case h_2=>exact h.elim
  rename_i b z
  walk_at "ini"
  unfold cH
  walk_at "go"
  obtain ⟨⟨hB,hz⟩,k⟩:=h
  obtain ⟨⟨z1,z8⟩,za⟩:=qD hz
  have zb:∀ c∈z.cps.toList,c < 128:=fun c hc=>by have:=za c hc;omega
  refine ⟨by omega,?_⟩
  refine tk hB (by omega) (by omega) fun k1 μ1 k10 k11 B1=>?_
  walk_at "go"
  refine tk B1.box (by decide) (by decide) fun k2 μ2 k20 k21 B2=>?_
  walk_at "go"
  obtain ⟨c,ec,hc,c1⟩:=vK k20 k21
  refine ⟨by decide +kernel,ub ec ?_⟩
  walk_at "go"
  have s1:=Txt.slice_le z none (some k1)
  have s2:=Txt.slice_le z (some (k1+1)) none
  have r9:=pS z
  have lc:(⟨#[c]⟩:Str).length=1:=rfl
  have al:=nj (Txt.slice z none (some k1)) ⟨#[c]⟩
  have ul:(Txt.upper z).length=z.length:=by rw[← bz,fF zb,List.length_map,bz]
  refine ⟨by omega,?_,by omega,by omega,by omega,by omega,by omega,?_⟩
  · show (dk z 9).length≤1000000
    omega
  refine tk B2.box (by decide) (by decide) fun k3 μ3 k30 k31 B3=>?_
  refine pick (P:=Bad μ3) k30 k31 ?_ fun d hd=>⟨_,.refl _,k d _ hd ((B1.trans B2).trans B3)⟩
  repeat' (first | exact e8 | refine cV ?_ ?_)
  · exact iq (by decide +kernel) (by decide +kernel) (by decide +kernel)
  · have e9:(Txt.slice (dk z 9) none (some 9)).length=9:=sl9 (by omega)
    exact iq (jc fun x hx=>zb x (sA (l3 hx))) (by show (Txt.slice (dk z 9) none (some 9)).length≤1000;omega) (rA (by show 8 < (Txt.slice (dk z 9) none (some 9)).length;omega))
  · refine iq (jc fun x hx=>?_) (by rw[nj];omega) (uw (c:=c) (by rw[app_list,app_list];simp) hc)
    rw[app_list,app_list] at hx
    rcases List.mem_append.mp hx with h' | h'
    · rcases List.mem_append.mp h' with h' | h'
      · exact zb x (l3 h')
      · rw[List.mem_singleton.mp h'];exact c1
    · exact zb x (l3 h')
  · refine iq (jc fun x hx=>?_) (by omega) ?_
    · rw[fF zb] at hx
      obtain ⟨n,hm,rfl⟩:=List.mem_map.mp hx
      have:=zb n hm
      unfold up1;split<;>omega
    · have l0:0 < z.cps.toList.length:=by rw[bz];omega
      have m:=List.getElem_mem l0
      have r:=za _ m
      refine uw (c:=up1 z.cps.toList[0]) (by rw[fF zb];exact List.mem_map_of_mem m) ?_
      unfold up1 sm
      rw[if_pos r,decide_eq_false (by omega),Bool.false_and]
  · exact ba (.tup _) (fun z e=>nomatch e) rfl rfl
  · exact ba (.ls _) (fun z e=>nomatch e) rfl rfl
  · exact ba .non (fun z e=>nomatch e) rfl rfl
  · exact ba (.int _) (fun z e=>nomatch e) rfl rfl
  · exact ba (.bl _) (fun z e=>nomatch e) rfl rfl
theorem mK {μ:Mu}{p q:Int}(F:Fr p q):(ThA μ (.tup [.int p,.int q])∧ThF μ (.tup [.int p,.int q]))∧isF (.tup [.int p,.int q])=true∧nmB (.tup [.int p,.int q])=false:=⟨⟨⟨.tup _,fun z e=>nomatch e⟩,.tup _,fun x y e=>by
  simp only[D.tup.injEq,List.cons.injEq,and_true] at e
  obtain ⟨rfl,rfl⟩:=e
  exact ⟨.int _,.int _⟩⟩,by simp only[isF];rw[decide_eq_true F.q0,decide_eq_true F.g];rfl,rfl⟩
theorem sC {μ:Mu}{z:Str}(h:nmS z=true):(ThA μ (.str z)∧ThF μ (.str z))∧isF (.str z)=false∧nmB (.str z)=true:=⟨⟨⟨.str z,fun y e=>by
  cases e
  exact ⟨jc fun c hc=>by have:=(qD h).2 c hc;omega,by have:=(qD h).1;omega⟩⟩,.str z,fun x y e=>nomatch e⟩,rfl,h⟩
def aD:FSp:=fun ds μ Q=>match ds with
  | [d,.bl f,.bl n]=>((ThA μ d∧ThF μ d)∧isF d=f∧nmB d=n)∧Q (.bl true) μ
  | _=>False
theorem i6:∀ ds μ Q,aD ds μ Q→ds.length=3:=by
  unfold aD
  walk_at "ln"
def fN:STr:=aK (jT (lP (bO (ae (bq (ae (ao aM (ae (ah 0) (aj))) (ae (ah 1) (aj)))) (ae (bq (ae (ao bo (ae (ah 0) (aj))) (ae (ah 2) (aj)))) (aj))))) (qp [3,4]) (eM (TOr (cW (TB (TUn (bQ "bool") (ah 3)))) (TB (ai rNe (ah 3) (ah 4)))) (a8 (TC (.bl false))) (cD))) (a8 (TC (.bl true)))
theorem jC:∀ ds μ Q,aD ds μ Q→fN { nx:=fun _ μ'=>RT Q .non μ',rt:=RT Q } (ini 5 ds) μ:=by
  intro ds μ Q h
  unfold aD at h
  split at h
  case h_2=>exact h.elim
  rename_i d f n
  walk_at "ini"
  unfold fN
  walk_at "go"
  obtain ⟨⟨⟨ta,tf⟩,rfl,rfl⟩,k⟩:=h
  refine ⟨tf,?_⟩
  walk_at "go"
  refine ⟨ta,?_⟩
  walk_at "go"
  refine dD (fun r ρ μ'=>(∀ x∈r,∃ c,x=.tup [.bl c,.bl c])∧∃ v3 v4:Option D,ρ=[some d,some (.bl (isF d)),some (.bl (nmB d)),v3,v4]∧μ'=μ) ?_ ?_ _ _ _ ⟨cV ⟨_,rfl⟩ (cV ⟨_,rfl⟩ e8),_,_,rfl,rfl⟩
  · rintro ρ μ' ⟨_,v3,v4,rfl,rfl⟩
    exact ⟨_,.refl _,k⟩
  · rintro x r ρ μ' N ⟨hx,v3,v4,rfl,rfl⟩ hN
    obtain ⟨c,rfl⟩:=hx x List.mem_cons_self
    walk_at "go"
    refine yJ (fun z=>?_) fun _=>hN _ _ ⟨fun y hy=>hx y (List.mem_cons_of_mem _ hy),_,_,rfl,rfl⟩
    simp at z
abbrev bj:FSp:=L3.bj
theorem je:∀ ds μ Q,bj ds μ Q→ds.length=1:=L3.je
def oD:STr:=aK (jT (lP (bO (ae (TC .non) (ae (TC (.bl true)) (ae (TC (.int 0)) (ae (TC (.int 1)) (ae (TC (.str "")) (ae (bq (aj)) (ae (bO (aj)) (ae (qy) (ae (bq (ae (TC (.int 1)) (aj))) (ae (bq (ae (bq (aj)) (ae (bq (aj)) (aj)))) (ae (bq (ae (TC (.int 0)) (ae (TC (.int 0)) (aj)))) (ae (bq (ae (TC (.str "a")) (ae (TC (.str "b")) (aj)))) (ae (TC (.str "a b")) (ae (oI [.inr (Str.ofString "a")] (ae (TC (.int 1)) (aj))) (ae (bO (ae (TC (.int 1)) (ae (TC (.int 2)) (aj)))) (aj)))))))))))))))))) (aw 1) (eM (cW (TB (ao aD (ae (ah 1) (ae (TC (.bl false)) (ae (TC (.bl false)) (aj))))))) (a8 (TC (.bl false))) (cD))) (aK (jT (cu (ai aR (TC (.int 1)) (ao f9 (ae (TC (.int 30)) (ae (ao dh (ae (ah 0) (aj))) (aj)))))) (aw 2) (aK (a9 (ao L3.eg (ae (ah 0) (ae (ah 2) (aj)))) (aw 3)) (aK (ka 4 5 (ae (ao L3.a7 (ae (ah 3) (aj))) (ae (ao aW (ae (ah 3) (aj))) (aj)))) (aK (eM (TOr (cW (TB (ao aD (ae (ah 4) (ae (TC (.bl true)) (ae (TC (.bl false)) (aj))))))) (cW (TB (ao aD (ae (ah 5) (ae (TC (.bl false)) (ae (TC (.bl true)) (aj)))))))) (a8 (TC (.bl false))) (cD)) (eM (TOr (cW (TB (ao aD (ae (ao aO (ae (ah 3) (ae (ah 4) (aj)))) (ae (TC (.bl false)) (ae (TC (.bl false)) (aj))))))) (cW (TB (ao aD (ae (ao aI (ae (ah 3) (ae (ah 5) (aj)))) (ae (TC (.bl false)) (ae (TC (.bl false)) (aj)))))))) (a8 (TC (.bl false))) (cD)))))) (a8 (ao aD (ae (bq (ae (TC (.int 0)) (ae (TC (.int 1)) (aj)))) (ae (TC (.bl true)) (ae (TC (.bl false)) (aj)))))))
theorem u7:∀ ds μ Q,bj ds μ Q→oD { nx:=fun _ μ'=>RT Q .non μ',rt:=RT Q } (ini 6 ds) μ:=by
  intro ds μ Q h
  unfold bj L3.bj at h
  split at h
  case h_2=>exact h.elim
  obtain ⟨⟨ns,rfl,hn⟩,k⟩:=h
  walk_at "ini"
  unfold oD
  walk_at "go"
  intro q hq
  walk_at "go"
  intro q2 hq2
  walk_at "go"
  have ne:q≠q2:=fun z=>by rw[← z,aC] at hq2;cases hq2
  refine And.intro (by simp) ?_
  refine dD (fun r ρ μ'=>(∀ x∈r,Bad μ' x)∧∃ v1 v2 v3 v4 v5:Option D,ρ=[some (.ls (ns.map .int)),v1,v2,v3,v4,v5]) ?_ ?_ _ _ _ ⟨?_,_,_,_,_,_,rfl⟩
  · rintro ρ μ' ⟨_,v1,v2,v3,v4,v5,rfl⟩
    walk_at "go"
    rw[List.length_map]
    refine ⟨⟨by omega,by omega⟩,?_⟩
    refine dD (fun r ρ μ=>(∀ d∈r,∃ j:Int,d=.int j∧0≤j∧j≤1000)∧∃ v1 v2 v3 v4 v5:Option D,ρ=[some (.ls (ns.map .int)),v1,v2,v3,v4,v5]) ?_ ?_ _ _ _ ⟨fun d hd=>?_,_,_,_,_,_,rfl⟩
    · rintro ρ μ' ⟨_,v1,v2,v3,v4,v5,rfl⟩
      walk_at "go"
      exact ⟨mK ⟨by decide,by decide,by decide,by decide,by decide⟩,_,.refl _,k _⟩
    · rintro d r ρ μ' N ⟨hd,v1,v2,v3,v4,v5,rfl⟩ hN
      obtain ⟨j,rfl,j0,j1⟩:=hd d List.mem_cons_self
      walk_at "go"
      refine ⟨⟨ns,rfl,j0,j1⟩,fun b μ1 hp hB ho=>?_⟩
      walk_at "go"
      refine ⟨hB,fun p' q' μ2 F B2=>?_⟩
      walk_at "go"
      refine ⟨B2.box,fun z μ3 hz B3=>?_⟩
      walk_at "go"
      refine ⟨mK F,?_⟩
      walk_at "go"
      refine ⟨sC hz,?_⟩
      walk_at "go"
      refine ⟨⟨B3.box,F⟩,fun d4 μ4 hd4 B4=>?_⟩
      walk_at "go"
      refine ⟨hd4,?_⟩
      walk_at "go"
      refine ⟨⟨B4.box,hz⟩,fun d5 μ5 hd5 B5=>?_⟩
      walk_at "go"
      refine ⟨hd5,?_⟩
      walk_at "go"
      exact hN _ _ ⟨fun d h=>hd d (List.mem_cons_of_mem _ h),_,_,_,_,_,rfl⟩
    · obtain ⟨j,rfl,j0,j1⟩:=kE hd
      refine ⟨j,rfl,j0,?_⟩
      omega
  · rintro x r ρ μ' N ⟨hx,v1,v2,v3,v4,v5,rfl⟩ hN
    walk_at "go"
    refine ⟨hx x List.mem_cons_self,?_⟩
    walk_at "go"
    exact hN _ _ ⟨fun y hy=>hx y (List.mem_cons_of_mem _ hy),_,_,_,_,_,rfl⟩
  · repeat' (first | exact e8 | refine cV ?_ ?_)
    · exact ba .non (fun z e=>nomatch e) rfl rfl
    · exact ba (.bl _) (fun z e=>nomatch e) rfl rfl
    · exact ba (.int _) (fun z e=>nomatch e) rfl rfl
    · exact ba (.int _) (fun z e=>nomatch e) rfl rfl
    · exact iq (by decide +kernel) (by decide +kernel) (by decide +kernel)
    · exact ba (.tup _) (fun z e=>nomatch e) rfl rfl
    · exact ba (.ls _) (fun z e=>nomatch e) rfl rfl
    · exact ba (.dct (k:=[]) (by rw[bx ne,aC])) (fun z e=>nomatch e) rfl rfl
    · exact ba (.tup _) (fun z e=>nomatch e) rfl rfl
    · exact cC (.tup _) (.tup _) rfl
    · exact cC (.int _) (.int _) (by decide)
    · exact cC (.str _) (.str _) rfl
    · exact iq (by decide +kernel) (by decide +kernel) (by decide +kernel)
    · exact ba (.dct aC) (fun z e=>nomatch e) rfl rfl
    · exact ba (.ls _) (fun z e=>nomatch e) rfl rfl
theorem dY (ns:List Int)(h:ns.length≤63)(μ:Mu):bj [.ls (ns.map .int)] μ (fun d _=>d=.bl true):=L3.dY ns h μ
end Kk
namespace Kk
open PySem L2 L3
theorem yB {α:Type}{us:List α}(h:us.length=1):∃ x0,us=[x0]:=match us,h with | [x0],_=>⟨x0,rfl⟩
theorem y6 {α:Type}{us:List α}(h:us.length=2):∃ x0 x1,us=[x0,x1]:=match us,h with | [x0,x1],_=>⟨x0,x1,rfl⟩
theorem yC {α:Type}{us:List α}(h:us.length=3):∃ x0 x1 x2,us=[x0,x1,x2]:=match us,h with | [x0,x1,x2],_=>⟨x0,x1,x2,rfl⟩
def top (i:Nat):Stmt:=PySem.Challenge.pw_swellways_k05_fractions_and_names.main.body.getD i (.Pass ⟨0,0,0,0⟩)
abbrev fS:Stmt:=top 3
abbrev da:Stmt:=top 4
abbrev ee:Stmt:=top 5
abbrev eB:Stmt:=top 6
abbrev c3:Stmt:=top 7
abbrev fD:Stmt:=top 9
abbrev eI:Stmt:=top 10
abbrev fY:Stmt:=top 11
abbrev de:Stmt:=top 12
abbrev c4:Stmt:=top 13
abbrev cE:Stmt:=top 14
abbrev df:Stmt:=top 15
abbrev cM:Stmt:=top 16
abbrev cI:Stmt:=top 17
abbrev ff:Stmt:=top 18
abbrev uu:Stmt:=top 19
set_option genInjectivity false in
set_option genSizeOfSpec false in
structure Adr where
  gc:Addr
  k8:FuncData
  c0:Addr
  gx:FuncData
  ik:Addr
  nW:FuncData
  eH:Addr
  jS:FuncData
  c8:Addr
  gC:FuncData
  fb:Addr
  kz:FuncData
  eA:Addr
  j9:FuncData
  fT:Addr
  kQ:FuncData
  c7:Addr
  gA:FuncData
  cZ:Addr
  gW:FuncData
  cB:Addr
  eX:FuncData
  cX:Addr
  g5:FuncData
  eJ:Addr
  j3:FuncData
  cG:Addr
  gk:FuncData
  fq:Addr
  lH:FuncData
  qg:Addr
  uj:FuncData
structure Txt (Pm:Params) (K:PySem.W.Frag) (mg:Str→Option Value) (t:Adr):Prop where
  lW:mg "is_whole" = some (.ref t.gc)
  ll:Fun K "is_whole" "is_whole" fS t.gc t.k8
  hX:mg "is_tuple_of" = some (.ref t.c0)
  gR:Fun K "is_tuple_of" "is_tuple_of" da t.c0 t.gx
  nU:mg "is_name" = some (.ref t.ik)
  oh:Fun K "is_name" "is_name" ee t.ik t.nW
  jw:mg "common_of" = some (.ref t.eH)
  kh:Fun K "common_of" "common_of" eB t.eH t.jS
  ia:mg "is_fraction" = some (.ref t.c8)
  gL:Fun K "is_fraction" "is_fraction" c3 t.c8 t.gC
  ml:mg "_law_box" = some (.ref t.fb)
  mB:Fun K "_law_box" "_law_box" fD t.fb t.kz
  jR:mg "_law_take" = some (.ref t.eA)
  jq:Fun K "_law_take" "_law_take" eI t.eA t.j9
  kC:mg "_law_low" = some (.ref t.fT)
  mf:Fun K "_law_low" "_law_low" fY t.fT t.kQ
  g6:mg "_law_number" = some (.ref t.c7)
  gv:Fun K "_law_number" "_law_number" de t.c7 t.gA
  gE:mg "_law_bottom" = some (.ref t.cZ)
  gF:Fun K "_law_bottom" "_law_bottom" c4 t.cZ t.gW
  eP:mg "_law_fraction" = some (.ref t.cB)
  eT:Fun K "_law_fraction" "_law_fraction" cE t.cB t.eX
  gw:mg "_law_spoilt" = some (.ref t.cX)
  hU:Fun K "_law_spoilt" "_law_spoilt" df t.cX t.g5
  j5:mg "_law_name" = some (.ref t.eJ)
  jF:Fun K "_law_name" "_law_name" cM t.eJ t.j3
  gb:mg "_law_no_name" = some (.ref t.cG)
  fX:Fun K "_law_no_name" "_law_no_name" cI t.cG t.gk
  my:mg "_law_are" = some (.ref t.fq)
  ly:Fun K "_law_are" "_law_are" ff t.fq t.lH
  y2:mg "law" = some (.ref t.qg)
  nc:Fun K "law" "law" uu t.qg t.uj
  ij:mg "abs" = none
  xZ:mg "all" = none
  qX:mg "bool" = none
  uC:mg "int" = none
  bc:mg "isinstance" = none
  kq:mg "len" = none
  yb:mg "max" = none
  uA:mg "min" = none
  mO:mg "range" = none
  t9:mg "str" = none
  rj:mg "tuple" = none
  nN:GV K mg "LETTERS" (.str "abcdefghijklmnopqrstuvwxyz")
  gd:GV K mg "LONGEST_NAME" (.int 8)
local macro_rules | `(tactic| walk_at "sc")=>`(tactic| exact ⟨rfl,rfl,rfl,by decide +kernel,rfl,by decide +kernel,by decide +kernel⟩)
local macro_rules | `(tactic| walk_at "b1")=>`(tactic| (rename_i hl;obtain ⟨x0,e⟩:=yB hl;subst e;rfl))
local macro_rules | `(tactic| walk_at "b2")=>`(tactic| (rename_i hl;obtain ⟨x0,x1,e⟩:=y6 hl;subst e;rfl))
local macro_rules | `(tactic| walk_at "b3")=>`(tactic| (rename_i hl;obtain ⟨x0,x1,x2,e⟩:=yC hl;subst e;rfl))
section
variable {P:Program} {w:World} {K:PySem.W.Frag} {mg:Str→Option Value} {base:Heap} {t:Adr}
theorem km:aB ["thing"] ["thing"] (aq fS):=by walk_at "sc"
theorem gg (T:Txt w.params K mg t):aV P w K mg base 1 "is_whole" ["thing"] aT:=aP T.lW T.ll km ji ki (fun _ _ _ _ _ _ _ _=>by walk_at "b1") fun _ _ _ _ _ _ hr hu=>
  av (aF (kU (dW rfl T.bc rfl (af 0) rfl T.uC rfl) (l4 (vR (dW rfl T.bc rfl (af 0) rfl T.qX rfl)))))
theorem fG:aB ["thing", "many"] ["thing", "many"] (aq da):=by walk_at "sc"
theorem gI (T:Txt w.params K mg t):aV P w K mg base 1 "is_tuple_of" ["thing", "many"] aN:=aP T.hX T.gR fG eS fU (fun _ _ _ _ _ _ _ _=>by walk_at "b2") fun _ _ _ _ _ _ hr hu=>
  av (aF (kU (dW rfl T.bc rfl (af 0) rfl T.rj rfl) (l4 (le_eq hu (aG b8 dP rfl T.kq rfl (aa (af 0) (ag))) (af 1)))))
theorem mh:aB ["thing"] ["thing"] (aq ee):=by walk_at "sc"
theorem oj (T:Txt w.params K mg t):aV P w K mg base 1 "is_name" ["thing"] bo:=aP T.nU T.oh mh jt kX (fun _ _ _ _ _ _ _ _=>by walk_at "b1") fun _ _ _ _ _ _ hr hu=>
  ak (gq (LW.lt (iz (bM (bY (dW rfl T.bc rfl (af 0) rfl T.t9 rfl))) (fP (bM (lt_chain pk pk (cy _) (cy _) (le_int) (aG b8 dP rfl T.kq rfl (aa (af 0) (ag))) (ua rfl T.gd)))))) (av (aF (aU))) (cf)) (av (aF (aG (nz rfl) r6 rfl T.xZ rfl (aa (jJ (fsc:=aq ee) ["thing"] ["sign"] 1 [] rfl rfl (w4 (af 0)) (fun cl C s₀ H₀ ex=>⟨j8 0 (show (["sign"]:List Str).Nodup from by decide +kernel),mJ,vz (af 0) (ua rfl T.nN)⟩) rfl rfl (by decide +kernel)) (ag)))))
theorem aY:aB ["one", "other", "divisor", "rest", "behind"] ["one", "other"] (aq eB):=by walk_at "sc"
theorem jN (T:Txt w.params K mg t):aV P w K mg base 1 "common_of" ["one", "other"] L3.aX:=aP T.jw T.kh aY L3.hI L3.i7 (fun _ _ _ _ _ _ _ _=>by walk_at "b2") fun _ _ _ _ _ _ hr hu=>
  ak (aL 2 aY.nd (aG b9 cU rfl T.ij rfl (aa (af 0) (ag)))) (ak (aL 3 aY.nd (aG b9 cU rfl T.ij rfl (aa (af 1) (ag)))) (ak (jU PassesOwn.never (pP (af 3) (le_int)) (ak (aL 4 aY.nd (cz (af 2) (af 3))) (ak (aL 2 aY.nd (af 3)) (av (aL 3 aY.nd (af 4)))))) (av (aF (af 2)))))
theorem fV:aB ["thing"] ["thing"] (aq c3):=by walk_at "sc"
theorem hE (T:Txt w.params K mg t):aV P w K mg base 2 "is_fraction" ["thing"] aM:=aP T.ia T.gL fV eQ gi (fun _ _ _ _ _ _ _ _=>by walk_at "b1") fun _ _ _ _ _ _ hr hu=>
  ak (gq (LW.lt (iz (bM (bY (ar (gI T) hr rfl (aa (af 0) (aa (le_int) (ag)))))) (iz (bM (bY (ar (gg T) hr rfl (aa (aE (af 0) (le_int)) (ag))))) (fP (bM (bY (ar (gg T) hr rfl (aa (aE (af 0) (le_int)) (ag))))))))) (av (aF (aU))) (cf)) (av (aF (kU (yT (aE (af 0) (le_int)) (le_int)) (l4 (le_eq hu (ar (jN T) hr rfl (aa (aE (af 0) (le_int)) (aa (aE (af 0) (le_int)) (ag)))) (le_int))))))
theorem cK:aB ["_law_script", "_law_k", "_law_cell", "_law_great"] ["_law_script", "_law_k"] (aq fD):=by walk_at "sc"
theorem mi (T:Txt w.params K mg t):aV P w K mg base 1 "_law_box" ["_law_script", "_law_k"] L3.eg:=aP T.ml T.mB cK L3.rN L3.wm (fun _ _ _ _ _ _ _ _=>by walk_at "b2") fun _ _ _ _ _ _ hr hu=>
  ak (aL 2 cK.nd (vV (yN (af 1) (aG b8 dP rfl T.kq rfl (aa (af 0) (ag)))) (aE (af 0) (af 1)) (le_int))) (ak (aL 3 cK.nd (le_mul (aG b9 cU rfl T.ij rfl (aa (af 2) (ag))) (iE nK sP rfl T.uC rfl (aa (yj (aG b9 cU rfl T.ij rfl (aa (af 2) (ag))) (le_pow (le_int) (le_int))) (ag))))) (av (aF (wy (aa (af 3) (aa (cz (le_mul (aQ (aQ (cz (af 2) (le_int)) (le_mul (le_mul (le_int) (af 1)) (af 1))) (le_int)) (le_int)) (le_int)) (aa (le_int) (ag))))))))
theorem dE:aB ["_law_box_here", "_law_many", "_law_digit"] ["_law_box_here", "_law_many"] (aq eI):=by walk_at "sc"
theorem ay (T:Txt w.params K mg t):aV P w K mg base 1 "_law_take" ["_law_box_here", "_law_many"] L3.ax:=aP T.jR T.jq dE L3.qY L3.sZ (fun _ _ _ _ _ _ _ _=>by walk_at "b2") fun _ _ _ _ _ _ hr hu=>
  ak (fA (af 0) (le_int) (aQ (aE (af 0) (le_int)) (le_int))) (ak (gq (LW.lt (we (pP (aE (af 0) (le_int)) (le_int)) (tK (yE (aE (af 0) (le_int)) (le_int))))) (ak (aL 2 dE.nd (cz (aE (af 0) (le_int)) (af 1))) (ak (fA (af 0) (le_int) (i8 (aE (af 0) (le_int)) (af 1))) (av (aF (af 2))))) (cf)) (ak (fA (af 0) (le_int) (cz (aQ (aQ (le_mul (aE (af 0) (le_int)) (le_int)) (le_int)) (aE (af 0) (le_int))) (le_int))) (av (aF (cz (i8 (cz (le_mul (aE (af 0) (le_int)) (aQ (cz (aE (af 0) (le_int)) (le_int)) (le_int))) (le_int)) (le_int)) (af 1))))))
theorem cR:aB ["_law_top", "_law_bottom_here", "_law_one", "_law_other"] ["_law_top", "_law_bottom_here"] (aq fY):=by walk_at "sc"
theorem l6 (T:Txt w.params K mg t):aV P w K mg base 1 "_law_low" ["_law_top", "_law_bottom_here"] L3.d7:=aP T.kC T.mf cR L3.rh L3.wZ (fun _ _ _ _ _ _ _ _=>by walk_at "b2") fun _ _ _ _ _ _ hr hu=>
  ak (lN 2 3 rfl cR.nd (aa (aG b9 cU rfl T.ij rfl (aa (af 0) (ag))) (aa (af 1) (ag)))) (ak (jU PassesOwn.never (pP (af 3) (le_int)) (av (lN 2 3 rfl cR.nd (aa (af 3) (aa (cz (af 2) (af 3)) (ag)))))) (av (aF (aH (aa (i8 (af 0) (af 2)) (aa (i8 (af 1) (af 2)) (ag)))))))
theorem bN:aB ["_law_box_here", "_law_sizes", "_law_number_here"] ["_law_box_here"] (aq de):=by walk_at "sc"
theorem gY (T:Txt w.params K mg t):aV P w K mg base 2 "_law_number" ["_law_box_here"] bI:=aP T.g6 T.gv bN eV fo (fun _ _ _ _ _ _ _ _=>by walk_at "b1") fun _ _ _ _ _ _ hr hu=>
  ak (aL 1 bN.nd (bp (aa (le_int) (aa (le_int) (aa (le_int) (aa (le_pow (le_int) (le_int)) (ag))))))) (ak (aL 2 bN.nd (ar (ay T) hr rfl (aa (af 0) (aa (aE (af 1) (ar (ay T) hr rfl (aa (af 0) (aa (le_int) (ag))))) (ag))))) (av (aF (le_mul (af 2) (aE (bp (aa (le_int) (aa (le_neg (le_int)) (ag)))) (ar (ay T) hr rfl (aa (af 0) (aa (le_int) (ag)))))))))
theorem bH:aB ["_law_box_here", "_law_top", "_law_sizes", "_law_bottom_here"] ["_law_box_here", "_law_top"] (aq c4):=by walk_at "sc"
theorem gK (T:Txt w.params K mg t):aV P w K mg base 2 "_law_bottom" ["_law_box_here", "_law_top"] bK:=aP T.gE T.gF bH eO fi (fun _ _ _ _ _ _ _ _=>by walk_at "b2") fun _ _ _ _ _ _ hr hu=>
  ak (aL 2 bH.nd (bp (aa (le_int) (aa (le_int) (aa (le_int) (aa (pG (le_pow (le_int) (le_int)) (le_int)) (ag))))))) (ak (aL 3 bH.nd (aQ (le_int) (ar (ay T) hr rfl (aa (af 0) (aa (aE (af 2) (ar (ay T) hr rfl (aa (af 0) (aa (le_int) (ag))))) (ag)))))) (av (aF (aE (bp (aa (af 3) (aa (aG (nD rfl) pW rfl T.yb rfl (aa (le_int) (aa (aG (iA rfl) jx rfl T.uA rfl (aa (aG b9 cU rfl T.ij rfl (aa (af 1) (ag))) (aa (pG (le_pow (le_int) (le_int)) (le_int)) (ag)))) (ag)))) (aa (af 3) (ag))))) (ar (ay T) hr rfl (aa (af 0) (aa (le_int) (ag))))))))
theorem cc:aB ["_law_box_here", "_law_top"] ["_law_box_here"] (aq cE):=by walk_at "sc"
theorem eW (T:Txt w.params K mg t):aV P w K mg base 3 "_law_fraction" ["_law_box_here"] L3.a7:=aP T.eP T.eT cc L3.jn L3.jK (fun _ _ _ _ _ _ _ _=>by walk_at "b1") fun _ _ _ _ _ _ hr hu=>
  ak (aL 1 cc.nd (ar (gY T) hr rfl (aa (af 0) (ag)))) (av (aF (ar (l6 T) hr rfl (aa (af 1) (aa (ar (gK T) hr rfl (aa (af 0) (aa (af 1) (ag)))) (ag))))))
theorem bb:aB ["_law_box_here", "_law_one", "_law_many", "_law_some"] ["_law_box_here", "_law_one"] (aq df):=by walk_at "sc"
theorem gG (T:Txt w.params K mg t):aV P w K mg base 2 "_law_spoilt" ["_law_box_here", "_law_one"] aO:=aP T.gw T.hU bb eR fB (fun _ _ _ _ _ _ _ _=>by walk_at "b2") fun _ _ _ _ _ _ hr hu=>
  ak (aL 2 bb.nd (aQ (le_int) (ar (ay T) hr rfl (aa (af 0) (aa (le_int) (ag)))))) (ak (aL 3 bb.nd (bp (aa (aH (aa (le_mul (aE (af 1) (le_int)) (af 2)) (aa (le_mul (aE (af 1) (le_int)) (af 2)) (ag)))) (aa (aH (aa (aE (af 1) (le_int)) (aa (le_int) (ag)))) (aa (aH (aa (aE (af 1) (le_int)) (aa (le_neg (aE (af 1) (le_int))) (ag)))) (aa (aH (aa (le_int) (aa (af 2) (ag)))) (aa (bp (aa (aE (af 1) (le_int)) (aa (aE (af 1) (le_int)) (ag)))) (aa (xM (af 1) (mH) (iI (le_int))) (ag))))))))) (ak (aL 3 bb.nd (aQ (af 3) (bp (aa (aQ (af 1) (aH (aa (le_int) (ag)))) (aa (aH (aa (aU) (aa (le_int) (ag)))) (aa (aH (aa (le_int) (aa (aU) (ag)))) (aa (aH (aa (iE iG sN rfl T.t9 rfl (aa (aE (af 1) (le_int)) (ag))) (aa (aE (af 1) (le_int)) (ag)))) (aa (aH (aa (aE (af 1) (le_int)) (aa (lJ) (ag)))) (aa (aH (aa (af 1) (aa (aE (af 1) (le_int)) (ag)))) (aa (aE (af 1) (le_int)) (ag))))))))))) (av (aF (aE (af 3) (ar (ay T) hr rfl (aa (af 0) (aa (le_int) (ag)))))))))
theorem dJ:aB ["_law_box_here", "_law_size"] ["_law_box_here"] (aq cM):=by walk_at "sc"
theorem jH (T:Txt w.params K mg t):aV P w K mg base 2 "_law_name" ["_law_box_here"] aW:=aP T.j5 T.jF dJ hW iW (fun _ _ _ _ _ _ _ _=>by walk_at "b1") fun _ _ _ _ _ _ hr hu=>
  ak (aL 1 dJ.nd (aQ (le_int) (ar (ay T) hr rfl (aa (af 0) (aa (le_int) (ag)))))) (av (aF (sF (le_str) (jJ (fsc:=aq cM) ["_law_box_here", "_law_size"] ["_law_k", "_law_box_here"] 1 [0] rfl rfl (iB rfl T.mO (af 1)) (fun cl C s₀ H₀ ex=>⟨j8 0 (show (["_law_k", "_law_box_here"]:List Str).Nodup from by decide +kernel),mJ,qd (le_str) (ar (ay T) hr rfl (aa (af 1) (aa (le_int) (ag))))⟩) rfl rfl (by decide +kernel)))))
theorem a6:aB ["_law_box_here", "_law_name_here", "_law_at", "_law_sign", "_law_some"] ["_law_box_here", "_law_name_here"] (aq cI):=by walk_at "sc"
theorem fJ (T:Txt w.params K mg t):aV P w K mg base 2 "_law_no_name" ["_law_box_here", "_law_name_here"] aI:=aP T.gb T.fX a6 er eU (fun _ _ _ _ _ _ _ _=>by walk_at "b2") fun _ _ _ _ _ _ hr hu=>
  ak (aL 2 a6.nd (ar (ay T) hr rfl (aa (af 0) (aa (aG b8 dP rfl T.kq rfl (aa (af 1) (ag))) (ag))))) (ak (aL 3 a6.nd (qd (le_str) (ar (ay T) hr rfl (aa (af 0) (aa (le_int) (ag)))))) (ak (aL 4 a6.nd (bp (aa (le_str) (aa (lr (rm (af 1) (le_int)) (mH) (iI (le_int))) (aa (aQ (aQ (lr (af 1) (mH) (iI (af 2))) (af 3)) (lr (af 1) (iI (aQ (af 2) (le_int))) (mH))) (aa (le_upper (af 1)) (aa (aH (aa (af 1) (ag))) (aa (bp (aa (af 1) (ag))) (aa (lJ) (aa (le_int) (aa (aU) (ag)))))))))))) (av (aF (aE (af 4) (ar (ay T) hr rfl (aa (af 0) (aa (le_int) (ag)))))))))
theorem cN:aB ["_law_thing", "_law_fraction_here", "_law_name_here", "_law_found", "_law_due"] ["_law_thing", "_law_fraction_here", "_law_name_here"] (aq ff):=by walk_at "sc"
theorem br (T:Txt w.params K mg t):aV P w K mg base 3 "_law_are" ["_law_thing", "_law_fraction_here", "_law_name_here"] aD:=aP T.my T.ly cN i6 jC (fun _ _ _ _ _ _ _ _=>by walk_at "b3") fun _ _ _ _ _ _ hr hu=>
  ak (kJ PassesOwn.never rfl (qU (bp (aa (aH (aa (ar (hE T) hr rfl (aa (af 0) (ag))) (aa (af 1) (ag)))) (aa (aH (aa (ar (oj T) hr rfl (aa (af 0) (ag))) (aa (af 2) (ag)))) (ag))))) (wB rfl (j6 3 cN.nd (j6 4 cN.nd (rq)))) (av (gq (LW.lt (iz (bM (bY (dW rfl T.bc rfl (af 3) rfl T.qX rfl))) (fP (xi hu (af 3) (af 4))))) (av (aF (aU))) (cf)))) (av (aF (aU)))
theorem fh:aB ["_law_script", "_law_thing", "_law_k", "_law_box_here", "_law_one", "_law_name_here"] ["_law_script"] (aq uu):=by walk_at "sc"
theorem nc (T:Txt w.params K mg t):dj P w K mg base CX0 4 t.qg t.uj ["_law_script"] (lift K bj):=by
  refine ug (T:=oD) T.nc fh je (fun cdv A outer s H E hr=>?_) u7
  have hu:=hr.units
  exact ak (kJ PassesOwn.never rfl (qU (bp (aa (lJ) (aa (aU) (aa (le_int) (aa (le_int) (aa (le_str) (aa (aH (ag)) (aa (bp (ag)) (aa (wD) (aa (aH (aa (le_int) (ag))) (aa (aH (aa (aH (ag)) (aa (aH (ag)) (ag)))) (aa (aH (aa (le_int) (aa (le_int) (ag)))) (aa (aH (aa (le_str) (aa (le_str) (ag)))) (aa (le_str) (aa (rS (sM (le_int) (tU))) (aa (bp (aa (le_int) (aa (le_int) (ag)))) (ag)))))))))))))))))) (mP 1 fh.nd) (av (gq (bM (bY (ar (br T) hr rfl (aa (af 1) (aa (aU) (aa (aU) (ag))))))) (av (aF (aU))) (cf)))) (ak (kJ PassesOwn.never rfl (iB rfl T.mO (aQ (le_int) (aG (iA rfl) jx rfl T.uA rfl (aa (le_int) (aa (aG b8 dP rfl T.kq rfl (aa (af 0) (ag))) (ag)))))) (mP 2 fh.nd) (ak (aL 3 fh.nd (ar (mi T) hr rfl (aa (af 0) (aa (af 2) (ag))))) (ak (lN 4 5 rfl fh.nd (aa (ar (eW T) hr rfl (aa (af 3) (ag))) (aa (ar (jH T) hr rfl (aa (af 3) (ag))) (ag)))) (ak (gq (LW.lt (iz (bM (bY (ar (br T) hr rfl (aa (af 4) (aa (aU) (aa (aU) (ag))))))) (fP (bM (bY (ar (br T) hr rfl (aa (af 5) (aa (aU) (aa (aU) (ag)))))))))) (av (aF (aU))) (cf)) (av (gq (LW.lt (iz (bM (bY (ar (br T) hr rfl (aa (ar (gG T) hr rfl (aa (af 3) (aa (af 4) (ag)))) (aa (aU) (aa (aU) (ag))))))) (fP (bM (bY (ar (br T) hr rfl (aa (ar (fJ T) hr rfl (aa (af 3) (aa (af 5) (ag)))) (aa (aU) (aa (aU) (ag)))))))))) (av (aF (aU))) (cf))))))) (av (aF (ar (br T) hr rfl (aa (aH (aa (le_int) (aa (le_int) (ag)))) (aa (aU) (aa (aU) (ag))))))))
end
theorem all_mk {l:PySem.W.OpenLaw}{w:World}{K:PySem.W.Frag}{mg:Str→Option Value}{fa:Addr}{t:Adr}(hfa:mg "law" = some (.ref fa))(T:Txt w.params K mg t):∃ fd:FuncData,(∀ (s:Shared) (v:Value),BindsTo s fd ⟨[v],[]⟩ [("_law_script", v)])∧∀ base:Heap,K.In base→base.Ns mainGlobals mg→dj l.prog w K mg base CX0 4 fa fd ["_law_script"] (lift K bj):=by
  have e:=hfa.symm.trans T.y2
  injection e with e
  injection e with e
  subst e
  obtain ⟨oc,od,kV,dc,pm,an,cd,ct,sl,ed,_,_⟩:=T.nc.ex
  exact ⟨_,fun s v=>.of_eq (by rw[ed];rfl),fun base _ _=>nc T⟩
end Kk
namespace PySem.W.Fast
theorem tw961731485201130187:True:=⟨⟩
theorem tw16053625754813648192:True:=⟨⟩
theorem tw12678459382721762720:True:=⟨⟩
theorem tw14954822078558456256:True:=⟨⟩
theorem tw9952707096212573728:True:=⟨⟩
theorem tw6911723245649595104:True:=⟨⟩
theorem tw5605105256922977088:True:=⟨⟩
theorem tw5461831577895404448:True:=⟨⟩
theorem tw5114438978393824449:True:=⟨⟩
theorem tw13231216855006202305:True:=⟨⟩
theorem tw16593428268798721985:True:=⟨⟩
theorem tw11761103162458492994:True:=⟨⟩
theorem tw3103948998746120354:True:=⟨⟩
theorem tw13089973205640446531:True:=⟨⟩
theorem tw12434466856685841059:True:=⟨⟩
theorem tw4577628307992478020:True:=⟨⟩
theorem tw2925184543051079012:True:=⟨⟩
theorem tw14629468451710981508:True:=⟨⟩
theorem tw7396971814079171332:True:=⟨⟩
theorem tw13769599942391852037:True:=⟨⟩
theorem tw17884711355340645413:True:=⟨⟩
theorem tw17057487093385031077:True:=⟨⟩
theorem tw3166896978116948421:True:=⟨⟩
theorem tw2961159915709012581:True:=⟨⟩
theorem tw5684823422325545573:True:=⟨⟩
theorem tw9073225060475339653:True:=⟨⟩
theorem tw17636944699988136933:True:=⟨⟩
theorem tw9410434968212271302:True:=⟨⟩
theorem tw16540095632866789766:True:=⟨⟩
theorem tw7238272992488075078:True:=⟨⟩
theorem tw974152562076492710:True:=⟨⟩
theorem tw4444649043176532966:True:=⟨⟩
theorem tw17586619569097118728:True:=⟨⟩
theorem tw4791801406474655880:True:=⟨⟩
theorem tw17399443867873631496:True:=⟨⟩
theorem tw1365728104632874632:True:=⟨⟩
theorem tw6364899290228117192:True:=⟨⟩
theorem tw4087995300373637321:True:=⟨⟩
theorem tw13244702224828668489:True:=⟨⟩
theorem tw16202597298969536554:True:=⟨⟩
theorem tw12383366170199135434:True:=⟨⟩
theorem tw14712427406014748362:True:=⟨⟩
theorem tw2053935768448173866:True:=⟨⟩
theorem tw1419943353497995050:True:=⟨⟩
theorem tw16074713969311727787:True:=⟨⟩
theorem tw4503002249946572011:True:=⟨⟩
theorem tw11096373236777542955:True:=⟨⟩
theorem tw8941417928838496683:True:=⟨⟩
theorem tw13764824703388680811:True:=⟨⟩
theorem tw17598406385808852779:True:=⟨⟩
theorem tw7270862781500218219:True:=⟨⟩
theorem tw5740930977231868843:True:=⟨⟩
theorem tw13495222769759761292:True:=⟨⟩
theorem tw923394337144927148:True:=⟨⟩
theorem tw5390639670238905837:True:=⟨⟩
theorem tw12486081741835201389:True:=⟨⟩
theorem tw9313012609399534541:True:=⟨⟩
theorem tw6032662362618976205:True:=⟨⟩
theorem tw16377408991396778382:True:=⟨⟩
theorem tw3405907657526864494:True:=⟨⟩
theorem tw4681964454826945551:True:=⟨⟩
theorem tw7804111790851534063:True:=⟨⟩
theorem tw3562153215251041743:True:=⟨⟩
theorem tw12367529221441976783:True:=⟨⟩
theorem tw7120284733940942735:True:=⟨⟩
theorem tw8303761994954077552:True:=⟨⟩
theorem tw4041065840304176624:True:=⟨⟩
theorem tw1618963694701154832:True:=⟨⟩
theorem tw14123392004782167824:True:=⟨⟩
theorem tw14176823602043842416:True:=⟨⟩
theorem tw6614279676554760561:True:=⟨⟩
theorem tw9075313148017956369:True:=⟨⟩
theorem tw14157120674043378258:True:=⟨⟩
theorem tw12251078668489677619:True:=⟨⟩
theorem tw986413018447875124:True:=⟨⟩
theorem tw7214647121399032180:True:=⟨⟩
theorem tw15022091576401021460:True:=⟨⟩
theorem tw6557303162454300276:True:=⟨⟩
theorem tw3984455930156806836:True:=⟨⟩
theorem tw9944062424032469876:True:=⟨⟩
theorem tw2736874107438245109:True:=⟨⟩
theorem tw8431081203658844405:True:=⟨⟩
theorem tw13685157396119152949:True:=⟨⟩
theorem tw1451913642840821173:True:=⟨⟩
theorem tw13516543932445277621:True:=⟨⟩
theorem tw11195197708028492309:True:=⟨⟩
theorem tw552937050119556053:True:=⟨⟩
theorem tw4837787817276208342:True:=⟨⟩
theorem tw13090277020437130486:True:=⟨⟩
theorem tw6604321861397626518:True:=⟨⟩
theorem tw6610027438783092726:True:=⟨⟩
theorem tw7114529881516124471:True:=⟨⟩
theorem tw305427337332058519:True:=⟨⟩
theorem tw13447578819649750072:True:=⟨⟩
theorem tw12173081600772335832:True:=⟨⟩
theorem tw11101452019158752600:True:=⟨⟩
theorem tw10545521674401486264:True:=⟨⟩
theorem tw5403414451454895544:True:=⟨⟩
theorem tw11589764090021705464:True:=⟨⟩
theorem tw2767210971374288473:True:=⟨⟩
theorem tw12659223304823967449:True:=⟨⟩
theorem tw8722701451948175546:True:=⟨⟩
theorem tw2794441512821974842:True:=⟨⟩
theorem tw8442986767620473179:True:=⟨⟩
theorem tw1326961000783529659:True:=⟨⟩
theorem tw8642505887001812987:True:=⟨⟩
theorem tw7471505582223592540:True:=⟨⟩
theorem tw16160447694001650908:True:=⟨⟩
theorem tw8888251917172390140:True:=⟨⟩
theorem tw8128970244039287292:True:=⟨⟩
theorem tw14691382400658137628:True:=⟨⟩
theorem tw612783359509755516:True:=⟨⟩
theorem tw8435943972894240829:True:=⟨⟩
theorem tw2222938148076234941:True:=⟨⟩
theorem tw7143248565036097853:True:=⟨⟩
theorem tw1671734377431594301:True:=⟨⟩
theorem tw14107952400529734013:True:=⟨⟩
theorem tw3168954312428520221:True:=⟨⟩
theorem tw6778921183895546845:True:=⟨⟩
theorem tw3903578170310124541:True:=⟨⟩
theorem tw14937437916580800606:True:=⟨⟩
theorem tw11940185834096162046:True:=⟨⟩
theorem tw12405973972270979614:True:=⟨⟩
theorem tw8064422382701523934:True:=⟨⟩
theorem tw367506608506421567:True:=⟨⟩
theorem tw16912886918688901055:True:=⟨⟩
end PySem.W.Fast
open PySem PySem.W PyProof.Rows L2 L3
set_option maxRecDepth 100000 in
set_option maxHeartbeats 0 in
theorem PySem.Challenge.cw_swellways_k05_fractions_and_names_holds : PySem.Challenge.rw_swellways_k05_fractions_and_names.Holds := by
  w_on;o_law;k_head;(case hw=>w_witness2)
  k_fill
  refine L3.yk (l:=PySem.Challenge.rw_swellways_k05_fractions_and_names) (k:=4) (sp:=Kk.bj) (x := "_law_script") rfl rfl ⟨rfl,by decide,by decide⟩ (fun w h Y=>PySem.W.kIn_of Y) Kk.dY ?F
  case F=>
    intro w mg fa h KX G hmg
    refine' Kk.all_mk (t:=⟨_,_,_,_,_,_,_,_,_,_,_,_,_,_,_,_,_,_,_,_,_,_,_,_,_,_,_,_,_,_,_,_⟩) hmg ⟨mg_of KX G ?_,a5 ?_ ?_ ?_,mg_of KX G ?_,a5 ?_ ?_ ?_,mg_of KX G ?_,a5 ?_ ?_ ?_,mg_of KX G ?_,a5 ?_ ?_ ?_,mg_of KX G ?_,a5 ?_ ?_ ?_,mg_of KX G ?_,a5 ?_ ?_ ?_,mg_of KX G ?_,a5 ?_ ?_ ?_,mg_of KX G ?_,a5 ?_ ?_ ?_,mg_of KX G ?_,a5 ?_ ?_ ?_,mg_of KX G ?_,a5 ?_ ?_ ?_,mg_of KX G ?_,a5 ?_ ?_ ?_,mg_of KX G ?_,a5 ?_ ?_ ?_,mg_of KX G ?_,a5 ?_ ?_ ?_,mg_of KX G ?_,a5 ?_ ?_ ?_,mg_of KX G ?_,a5 ?_ ?_ ?_,mg_of KX G ?_,a5 ?_ ?_ ?_,mg_none_of KX G ?_,mg_none_of KX G ?_,mg_none_of KX G ?_,mg_none_of KX G ?_,mg_none_of KX G ?_,mg_none_of KX G ?_,mg_none_of KX G ?_,mg_none_of KX G ?_,mg_none_of KX G ?_,mg_none_of KX G ?_,mg_none_of KX G ?_,va KX G ?_,vb KX G ?_⟩
    all_goals try first | k_is | rfl
