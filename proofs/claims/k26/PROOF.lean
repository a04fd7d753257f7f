import PyProof.Rows.All
import Wide.All
import OpenK.AllK
import Wide.FinOn
import Lean
import PyProof.EqAt
import PyProof.EqKinds
import PyProof.TupleCall
import PyProof.P3Eq
import PyProof.NeKinds
import PyProof.NeData
import PyProof.ZipIter
import PyProof.EnumMake
import PyProof.EnumFor
import OpenK.KTop
import PyProof.IsRules
import PyProof.AttrMissHeap
import PyProof.DictUpdate
import KE.KDictOf
import PyProof.Rows.SortStr
import PyProof.FString5
import PyProof.StrOps
import PyProof.ListRange
import PyProof.TupleOfGen
import PyProof.Rows.SumAny
import PyProof.Rows.CallKwBuiltin
import PyProof.StrLoop
import PyProof.StrWalks
import PyProof.StrOps2
import PyProof.SliceStr2
import PyProof.StrBlockI
import PyProof.StrLaws
import PyProof.StrBlock
import PyProof.StrBlockL
import PyProof.StrCalls2
import KE.KStrOpen
import KE.KDictList
import PyProof.DictValues
import PySem.Challenge.RW_swellways_k26_whole_turns_fair
set_option Elab.async false
set_option linter.all false
set_option maxRecDepth 100000
set_option maxHeartbeats 4000000
namespace L2
open PySem PySem.Spec PyProof.Rows
abbrev Key:=Sum Int Str
def jD:Key→Value→Bool
  | .inl k,v=>Value.isInt k v
  | .inr x,v=>Value.isStrOf x v
def BV (w:World):Key→Int
  | .inl k=>hashInt k
  | .inr x=>hashStr w x
theorem aZ:∀ {k:Key} {v:Value},jD k v=true→(∃ i t,k=Sum.inl i∧v=Value.int i t)∨(∃ x t,k=Sum.inr x∧v=Value.str x t)
  | .inl i,v,h=>by
    obtain ⟨t,e⟩:=Value.isInt_shape (k:=i) (v:=v) h
    exact .inl ⟨i,t,rfl,e⟩
  | .inr x,v,h=>by
    obtain ⟨t,e⟩:=Value.isStrOf_shape (x:=x) (v:=v) h
    exact .inr ⟨x,t,rfl,e⟩
theorem pV (i:Int)(t:Tok):jD (.inl i) (.int i t)=true:=by simp[jD,Value.isInt]
theorem qo (x:Str)(t:Tok):jD (.inr x) (.str x t)=true:=by simp[jD,Value.isStrOf]
theorem yu (a b:Int):decide ((Sum.inl a:Key)=Sum.inl b)=(a == b):=by
  by_cases e:a=b
  · subst e;simp
  · have h:¬ (Sum.inl a:Key)=Sum.inl b:=fun q=>e (Sum.inl.inj q)
    rw[decide_eq_false h]
    exact (beq_eq_false_iff_ne.mpr e).symm
theorem zR (a b:Str):decide ((Sum.inr a:Key)=Sum.inr b)=decide (a=b):=by
  by_cases e:a=b
  · subst e;simp
  · have h:¬ (Sum.inr a:Key)=Sum.inr b:=fun q=>e (Sum.inr.inj q)
    rw[decide_eq_false h,decide_eq_false e]
theorem zZ (a:Int)(b:Str):decide ((Sum.inl a:Key)=Sum.inr b)=false:=decide_eq_false (fun q=>nomatch q)
theorem zD (a:Str)(b:Int):decide ((Sum.inr a:Key)=Sum.inl b)=false:=decide_eq_false (fun q=>nomatch q)
def aM (prog:Program)(w:World):PySem.KeyKind prog w Key where
  is:=jD
  hash:=BV w
  inj:=fun v a b ha hb=>by
    rcases aZ ha with ⟨i,t,rfl,rfl⟩ | ⟨x,t,rfl,rfl⟩
    · rcases aZ hb with ⟨j,u,rfl,e⟩ | ⟨y,u,rfl,e⟩
      · injection e with e1 _;rw[e1]
      · exact nomatch e
    · rcases aZ hb with ⟨j,u,rfl,e⟩ | ⟨y,u,rfl,e⟩
      · exact nomatch e
      · injection e with e1 _;rw[e1]
  byValue:=fun k v h=>by
    rcases aZ h with ⟨i,t,rfl,rfl⟩ | ⟨x,t,rfl,rfl⟩ <;> rfl
  pyHash:=fun hv h=>by
    rcases aZ hv with ⟨i,t,rfl,rfl⟩ | ⟨x,t,rfl,rfl⟩
    · exact wpAny_pyHash_int h
    · exact wpAny_pyHash_str h
  eqBool:=fun hu hv h=>by
    rcases aZ hu with ⟨i,t,rfl,rfl⟩ | ⟨x,t,rfl,rfl⟩
    · rcases aZ hv with ⟨j,u,rfl,rfl⟩ | ⟨y,u,rfl,rfl⟩
      · rw[yu] at h;exact wpAny_eqBool_int h
      · rw[zZ] at h;exact SeqAt.EqAt.int_str i t y u _ _ _ _ h
    · rcases aZ hv with ⟨j,u,rfl,rfl⟩ | ⟨y,u,rfl,rfl⟩
      · rw[zD] at h;exact SeqAt.EqAt.str_int x t j u _ _ _ _ h
      · rw[zR] at h;exact wpAny_eqBool_str h
  «strs»:=fun k x t v h=>by
    rcases aZ h with ⟨i,u,rfl,e⟩ | ⟨y,u,rfl,e⟩
    · exact nomatch e
    · injection e with e1 _
      subst e1
      cases v<;>rfl
theorem lZ (prog:Program)(w:World)(i:Int)(t:Tok):(aM prog w).is (.inl i) (.int i t)=true:=pV i t
theorem l8 (prog:Program)(w:World)(x:Str)(t:Tok):(aM prog w).is (.inr x) (.str x t)=true:=qo x t
end L2
namespace L2
open PySem PySem.Spec PyProof.Rows
inductive V where
  | non | bl (b:Bool) | int (i:Int) | str (x:Str) | byt (b:Array UInt8) | flt (b:UInt64) | ref (a:Addr) | ty (n:String)
  deriving DecidableEq
def RelV:V→Value→Prop
  | .non,u=>u=Value.none
  | .bl b,u=>u=Value.bool b
  | .int i,u=>∃ t,u=Value.int i t
  | .str x,u=>∃ t,u=Value.str x t
  | .byt b,u=>∃ t,u=Value.bytes b t
  | .flt b,u=>∃ t,u=Value.float b t
  | .ref a,u=>u=Value.ref a
  | .ty n,u=>u=Value.type n
abbrev Vals:List V→List Value→Prop:=Paired RelV
theorem Vals.length {xs:List V}{us:List Value}(r:Vals xs us):xs.length=us.length:=Paired.length r
theorem Vals.get:∀ {xs:List V} {us:List Value} {i:Nat} {x:V},Vals xs us→xs[i]? = some x→∃ u,us[i]? = some u∧RelV x u
  | _,_,_,_,.nil,e=>by simp at e
  | _,_,0,_,.cons r _,e=>by simp at e;subst e;exact ⟨_,rfl,r⟩
  | _,_,i+1,x,.cons _ t,e=>by
    obtain ⟨u,h1,h2⟩:=Vals.get (i:=i) (x:=x) t (by simpa using e)
    exact ⟨u,by simpa using h1,h2⟩
theorem Vals.set {x:V}{u:Value}(r:RelV x u):∀ {xs:List V} {us:List Value} (i:Nat),Vals xs us→Vals (xs.set i x) (us.set i u)
  | _,_,_,.nil=>.nil
  | _,_,0,.cons _ t=>.cons r t
  | _,_,i+1,.cons q t=>.cons q (Vals.set r i t)
theorem Vals.append:∀ {xs ys:List V} {us ws:List Value},Vals xs us→Vals ys ws→Vals (xs++ys) (us++ws)
  | _,_,_,_,.nil,s=>s
  | _,_,_,_,.cons r t,s=>.cons r (Vals.append t s)
theorem Vals.take:∀ {xs:List V} {us:List Value} (n:Nat),Vals xs us→Vals (xs.take n) (us.take n)
  | _,_,0,_=>.nil
  | _,_,_+1,.nil=>.nil
  | _,_,n+1,.cons r t=>.cons r (Vals.take n t)
theorem Vals.drop:∀ {xs:List V} {us:List Value} (n:Nat),Vals xs us→Vals (xs.drop n) (us.drop n)
  | _,_,0,r=>r
  | _,_,_+1,.nil=>.nil
  | _,_,n+1,.cons _ t=>Vals.drop n t
def gs:Option V→Option Value→Prop
  | some v,some u=>RelV v u
  | none,none=>True
  | _,_=>False
def KV {κ:Type}:List (κ×V)→List (κ×Value)→Prop:=Paired fun (p:κ×V) (q:κ×Value)=>p.1=q.1∧RelV p.2 q.2
def kV:Key→V
  | .inl i=>.int i
  | .inr x=>.str x
inductive HO where
    | lst (xs:List V)
    | tup (xs:List V)
    | dK (kvs:List (Key×V)) | dT (kvs:List (List Key×V))
    | set (S:Int→Bool) (n:Nat)
    | ins (C dx:Addr) (fs:List (Str×V))
    | own (x:Addr)
    | xd (fs:List (Str×V))
    | met (f x:Addr)
    | rng (lo hi:Int)
    | frz (o:Obj) (u:HO)
    | tbl (ps:Array Value)
    | ext (φ:Heap→Prop)
abbrev Hp:=Addr→Option HO
def upd (H:Hp)(a:Addr)(o:HO):Hp:=fun b=>if b=a then some o else H b
theorem az {H:Hp}{a:Addr}{o:HO}:upd H a o a=some o:=by unfold upd;rw[if_pos rfl]
theorem ay {H:Hp}{a b:Addr}{o:HO}(h:b≠a):upd H a o b=H b:=by unfold upd;rw[if_neg h]
theorem kz {H:Hp}{a:Addr}{o u:HO}:upd (upd H a o) a u=upd H a u:=by
  funext b;unfold upd;split<;>rfl
theorem BH {H:Hp}{a b:Addr}{o u:HO}(h:H a=some o)(h':H b=some u)(d:o≠u):a≠b:=by
  intro e;subst e;rw[h] at h';exact d (Option.some.inj h')
theorem aQ {H:Hp}{a b:Addr}{o:HO}(h:H a=some o)(h':H b=none):a≠b:=by
  intro e;subst e;rw[h] at h';cases h'
def mS (h:Heap)(a:Addr)(items:Array Value):Prop:=∃ n,h.get? a=some { cls:=.type "tuple", data:=.seq items n }
theorem mS.tup {h:Heap}{a:Addr}{items:Array Value}(p:mS h a items):IsTup h a items:=by obtain ⟨n,e⟩:=p;exact ⟨_,e,rfl,n,rfl⟩
theorem mS.new (h:Heap)(items:Array Value):mS (h.push { cls:=.type "tuple", data:=.seq items }) h.objs.size items:=⟨_,Heap.get?_push_size _ rfl⟩
section
variable (P:Program) (w:World)
def bu (H:Hp)(h:Heap)(a:Addr):HO→Prop
  | .lst xs=>xs.length≤sizeLine∧∃ (its:List Value) (n:Nat),Vals xs its∧h.get? a=some { cls:=.type "list", data:=.seq its.toArray n }
  | .tup xs=>xs.length≤sizeLine∧∃ its:List Value,Vals xs its∧mS h a its.toArray
  | .dK kvs=>kvs.length≤sizeLine∧(a == sysModules)=false∧∃ vs,KV kvs vs∧h.DictOf (aM P w) a vs
  | .dT kvs=>kvs.length≤sizeLine∧(a == sysModules)=false∧∃ xs:List (List Key×Addr×Value),
      Paired (fun (p:List Key×V) (q:List Key×Addr×Value)=>p.1=q.1∧H q.2.1=some (.tup (p.1.map kV))∧RelV p.2 q.2.2) kvs xs∧
      ∃ o es ep,h.get? a=some o∧o.ExactDict∧o.data=.dict es ep∧es.toList=xs.map (entryOfKey (tupleKind (aM P w)))∧(xs.map (·.1)).Nodup
  | .set S n=>h.SetOf (intKind P w) a S n
  | .ins C dx fs=>H dx=some (.own a)∧fs.length≤1000∧dx≠a∧h.get? a=some (PySem.W.instObj C dx)∧
      ∃ mA,h.Ns1 dx mA∧(∀ f,gs (fs.lookup f) (mA f))∧PySem.Within mA (fs.map (·.1))
  | .own _=>∃ o,h.get? a=some o
  | .xd fs=>∃ mA,h.Ns1 a mA∧∀ f,gs (fs.lookup f) (mA f)
  | .rng lo hi=>∃ t u v,h.get? a=some { cls:=.type "range", data:=.fields #[.int lo t,.int hi u,.int 1 v] }
  | .frz o u=>h.get? a=some o∧bu H h a u
  | .tbl ps=>h.get? a=some { cls:=.none,data:=.fields ps }
  | .met f x=>h.get? a=some (PySem.W.methodObj (.ref f) (.ref x))
  | .ext φ=>φ h∧(∃ o,h.get? a=some o)∧∀ h1 h2:Heap,φ h1→(∀ o,h1.get? a=some o→h2.get? a=some o)→φ h2
def HOk (H:Hp)(h:Heap):Prop:=∀ a o,H a=some o→bu P w H h a o
end
section
variable {P:Program} {w:World} {H H':Hp} {h h':Heap} {a:Addr} {o:HO}
theorem bu.lt (x:bu P w H h a o):a < h.objs.size:=by
  cases o with
  | lst xs=>obtain ⟨_,_,_,_,e⟩:=x;exact Heap.lt_size e
  | tup xs=>obtain ⟨_,_,_,p⟩:=x;exact p.tup.lt
  | dK kvs=>obtain ⟨_,_,_,_,o,_,_,e,_⟩:=x;exact Heap.lt_size e
  | dT kvs=>obtain ⟨_,_,_,_,o,_,_,e,_⟩:=x;exact Heap.lt_size e
  | set S n=>obtain ⟨o,_,_,_,e,_⟩:=x;exact Heap.lt_size e
  | ins C dx fs=>obtain ⟨_,_,_,e,_⟩:=x;exact Heap.lt_size e
  | own y=>obtain ⟨_,e⟩:=x;exact Heap.lt_size e
  | xd fs=>obtain ⟨_,⟨_,_,_,e,_⟩,_⟩:=x;exact Heap.lt_size e
  | rng lo hi=>obtain ⟨_,_,_,e⟩:=x;exact Heap.lt_size e
  | frz ob u=>obtain ⟨e,_⟩:=x;exact Heap.lt_size e
  | tbl ps=>exact Heap.lt_size (show h.get? a=some _ from x)
  | met f y=>exact Heap.lt_size (show h.get? a=some _ from x)
  | ext φ=>obtain ⟨_,⟨_,e⟩,_⟩:=x;exact Heap.lt_size e
theorem Paired.Ak {α β:Type}{F G:α→β→Prop}:∀ {l₁:List α} {l₂:List β},Paired F l₁ l₂→(∀ a b,F a b→G a b)→Paired G l₁ l₂
  | _,_,.nil,_=>.nil
  | _,_,.cons r t,f=>.cons (f _ _ r) (Paired.Ak t f)
theorem bu.ix (x:bu P w H h a o)(k:∀ b u,(b=a∨H b=some (.own a))→h.get? b=some u→h'.get? b=some u)
    (ho:∀ b,H b=some (.own a)→H' b=some (.own a)) (ht:∀ b xs,H b=some (.tup xs)→H' b=some (.tup xs)):bu P w H' h' a o:=by
  induction o with
  | lst xs=>obtain ⟨z,its,n,r,e⟩:=x;exact ⟨z,its,n,r,k _ _ (.inl rfl) e⟩
  | tup xs=>obtain ⟨z,its,r,m,e⟩:=x;exact ⟨z,its,r,m,k _ _ (.inl rfl) e⟩
  | dK kvs=>obtain ⟨z,y,vs,r,ob,es,ep,e,c⟩:=x;exact ⟨z,y,vs,r,ob,es,ep,k _ _ (.inl rfl) e,c⟩
  | dT kvs=>
    obtain ⟨z,y,xs,r,ob,es,ep,e,c⟩:=x
    exact ⟨z,y,xs,Paired.Ak r fun p q z=>⟨z.1,ht _ _ z.2.1,z.2.2⟩,ob,es,ep,k _ _ (.inl rfl) e,c⟩
  | set S n=>obtain ⟨ob,es,ep,t,e,c⟩:=x;exact ⟨ob,es,ep,t,k _ _ (.inl rfl) e,c⟩
  | ins C dx fs=>
    obtain ⟨d,z,ne,e,mA,⟨od,es,ep,e2,c⟩,r⟩:=x
    exact ⟨ho _ d,z,ne,k _ _ (.inl rfl) e,mA,⟨od,es,ep,k _ _ (.inr d) e2,c⟩,r⟩
  | own y=>obtain ⟨ob,e⟩:=x;exact ⟨ob,k _ _ (.inl rfl) e⟩
  | xd fs=>obtain ⟨mA,⟨od,es,ep,e,c⟩,r⟩:=x;exact ⟨mA,⟨od,es,ep,k _ _ (.inl rfl) e,c⟩,r⟩
  | rng lo hi=>obtain ⟨t,u,v,e⟩:=x;exact ⟨t,u,v,k _ _ (.inl rfl) e⟩
  | frz ob u ih=>obtain ⟨e,q⟩:=x;exact ⟨k _ _ (.inl rfl) e,ih q⟩
  | tbl ps=>
    have e:h.get? a=some { cls:=.none,data:=.fields ps }:=x
    show h'.get? a=some { cls:=.none,data:=.fields ps }
    exact k a _ (.inl rfl) e
  | met f y=>
    have e:h.get? a=some (PySem.W.methodObj (.ref f) (.ref y)):=x
    show h'.get? a=some (PySem.W.methodObj (.ref f) (.ref y))
    exact k a _ (.inl rfl) e
  | ext φ=>obtain ⟨p,⟨o,e⟩,st⟩:=x;exact ⟨st _ _ p fun o q=>k _ _ (.inl rfl) q,⟨o,k _ _ (.inl rfl) e⟩,st⟩
theorem HOk.lt (x:HOk P w H h)(e:H a=some o):a < h.objs.size:=(x a o e).lt
theorem HOk.fresh (x:HOk P w H h)(e:h.objs.size≤a):H a=none:=by
  cases q:H a with
  | none=>rfl
  | some u=>exact absurd (Nat.lt_of_lt_of_le (x.lt q) e) (Nat.lt_irrefl _)
theorem HOk.kept (x:HOk P w H h)(k:∀ b u,h.get? b=some u→h'.get? b=some u):HOk P w H h':=fun a o e=>
  (x a o e).ix (fun b u _ q=>k b u q) (fun _ q=>q) fun _ _ q=>q
theorem HOk.laid (x:HOk P w H h)(k:∀ b u,h.get? b=some u→h'.get? b=some u)(hp:h.objs.size≤a)(new:bu P w (upd H a o) h' a o):HOk P w (upd H a o) h':=fun b u e=>by
  have hn:=x.fresh hp
  by_cases hb:b=a
  · subst hb;rw[az] at e;cases e;exact new
  · rw[ay hb] at e
    exact (x b u e).ix (fun c v _ q=>k c v q) (fun c q=>by rw[ay (aQ q hn)];exact q) fun c xs q=>by rw[ay (aQ q hn)];exact q
end
def Rd (H:Hp)(a:Addr)(u:HO):Prop:=H a=some u∨∃ o,H a=some (.frz o u)
theorem Rd.of {H:Hp}{a:Addr}{u:HO}(h:H a=some u):Rd H a u:=.inl h
theorem Rd.ok {P:Program}{w:World}{H:Hp}{h:Heap}{a:Addr}{u:HO}(r:Rd H a u)(x:HOk P w H h):bu P w H h a u:=by
  rcases r with r | ⟨o,r⟩
  · exact x a u r
  · obtain ⟨_,q⟩:=x a _ r
    exact q
def Mut:Option HO→Prop
  | some (.lst _)=>True
  | some (.dK _)=>True
  | some (.dT _)=>True
  | some (.set _ _)=>True
  | some (.ins _ _ _)=>True
  | some (.ext _)=>True
  | _=>False
section
variable {P:Program} {w:World} {H:Hp} {h h':Heap} {x e:Addr} {o':HO}
theorem HOk.write (ok:HOk P w H h)(mu:Mut (H x))(he:e=x∨H e=some (.own x))(k:∀ b u,b≠e→h.get? b=some u→h'.get? b=some u)(heo:∃ u,h'.get? e=some u)
    (new:bu P w (upd H x o') h' x o'):HOk P w (upd H x o') h':=fun b u q=>by
  have AR:∀ c y,H c=some (.own y)→c≠x:=fun c y r z=>by subst z;rw[r] at mu;exact mu
  have Cm:∀ c xs,H c=some (.tup xs)→c≠x:=fun c xs r z=>by subst z;rw[r] at mu;exact mu
  by_cases hb:b=x
  · subst hb;rw[az] at q;cases q;exact new
  · rw[ay hb] at q
    by_cases hbe:b=e
    · have q':H b=some (.own x):=by
        rcases he with z | z
        · exact absurd (hbe.trans z) hb
        · rw[hbe];exact z
      rw[q] at q';cases q'
      obtain ⟨v,hv⟩:=heo
      exact ⟨v,by rw[hbe];exact hv⟩
    · refine (ok b u q).ix (fun c v hc r=>k c v ?_ r) (fun c r=>by rw[ay (AR c b r)];exact r) fun c xs r=>by rw[ay (Cm c xs r)];exact r
      rcases hc with rfl | hc
      · exact hbe
      · rintro rfl
        rcases he with z | z
        · exact AR c b hc z
        · rw[hc] at z;cases z;exact hb rfl
end
structure Un (fs ex:List Addr) (H H':Hp) (h h':Heap):Prop where
  keep:∀ b o,h.get? b=some o→H b=none→b ∉ fs→b ∉ ex→h'.get? b=some o
  slot:∀ b o,h.get? b=some o→H b=none→b∈fs→b ∉ ex→∃ sl,h'.get? b=some { o with slots:=sl }
  free:∀ b o,h.get? b=some o→H b=none→b ∉ ex→H' b=none
  there:∀ b o,h.get? b=some o→b ∉ ex→∃ o',h'.get? b=some o'
  fH:∀ b xs,H b=some (.tup xs)→H' b=some (.tup xs)
  eZ:∀ b o u,H b=some (.frz o u)→H' b=some (.frz o u)
  fT:∀ b ps,H b=some (.tbl ps)→∃ more,H' b=some (.tbl (ps++more))
section
variable {fs fs' ex ex':List Addr} {H H1 H2:Hp} {h h1 h2 h':Heap} {a x e:Addr} {o:HO}
theorem Un.any (u:Un fs ex H H1 h h1){b:Addr}{ob:Obj}(q:h.get? b=some ob)(n:H b=none)(hx:b ∉ ex):∃ sl,h1.get? b=some { ob with slots:=sl }:=by
  by_cases hb:b∈fs
  · exact u.slot b ob q n hb hx
  · exact ⟨ob.slots,u.keep b ob q n hb hx⟩
theorem Un.trans (a:Un fs ex H H1 h h1)(b:Un fs ex H1 H2 h1 h2):Un fs ex H H2 h h2 where
  keep:=fun c ob q n hc hx=>b.keep c ob (a.keep c ob q n hc hx) (a.free c ob q n hx) hc hx
  slot:=fun c ob q n hc hx=>by
    obtain ⟨sl,e1⟩:=a.slot c ob q n hc hx
    obtain ⟨sl',e2⟩:=b.slot c _ e1 (a.free c ob q n hx) hc hx
    exact ⟨sl',e2⟩
  free:=fun c ob q n hx=>by
    obtain ⟨o',e1⟩:=a.there c ob q hx
    exact b.free c o' e1 (a.free c ob q n hx) hx
  there:=fun c ob q hx=>by
    obtain ⟨o',e1⟩:=a.there c ob q hx
    exact b.there c o' e1 hx
  fH:=fun c xs q=>b.fH c xs (a.fH c xs q)
  eZ:=fun c ob xs q=>b.eZ c ob xs (a.eZ c ob xs q)
  fT:=fun c ps q=>by
    obtain ⟨m1,e1⟩:=a.fT c ps q
    obtain ⟨m2,e2⟩:=b.fT c _ e1
    exact ⟨m1++m2,by rw[e2,Array.append_assoc]⟩
theorem Un.kept (k:∀ b u,h.get? b=some u→h'.get? b=some u):Un fs ex H H h h':=
  ⟨fun b ob q _ _ _=>k b ob q,fun b ob q _ _ _=>⟨ob.slots,k b ob q⟩,fun _ _ _ n _=>n,fun b ob q _=>⟨ob,k b ob q⟩,fun _ _ q=>q,fun _ _ _ q=>q,fun _ ps q=>⟨#[],by rw[q];simp⟩⟩
theorem Un.refl:Un fs ex H H h h:=Un.kept fun _ _ q=>q
theorem Un.laid (k:∀ b u,h.get? b=some u→h'.get? b=some u)(hp:h.objs.size≤a)(hn:H a=none):Un fs ex H (upd H a o) h h' where
  keep:=fun b u q _ _ _=>k b u q
  slot:=fun b u q _ _ _=>⟨u.slots,k b u q⟩
  free:=fun b u q n _=>by rw[ay (Nat.ne_of_lt (Nat.lt_of_lt_of_le (Heap.lt_size q) hp))];exact n
  there:=fun b u q _=>⟨u,k b u q⟩
  fH:=fun b xs q=>by rw[ay (aQ q hn)];exact q
  eZ:=fun b u xs q=>by rw[ay (aQ q hn)];exact q
  fT:=fun b ps q=>⟨#[],by rw[ay (aQ q hn),q];simp⟩
theorem Un.write (mu:Mut (H x))(he:e=x∨H e=some (.own x))(k:∀ b u,b≠e→h.get? b=some u→h'.get? b=some u)(heo:∃ u,h'.get? e=some u):Un fs ex H (upd H x o) h h':=by
  have hx:∀ b,H b=none→b≠x:=fun b n z=>by subst z;rw[n] at mu;exact mu
  have hb:∀ b,H b=none→b≠e:=fun b n z=>by
    subst z
    rcases he with r | r
    · exact hx b n r
    · rw[n] at r;cases r
  have hm:∀ b u,H b=some u→¬ Mut (some u)→b≠x:=fun b u q nm z=>by subst z;rw[q] at mu;exact nm mu
  refine ⟨fun b u q n _ _=>k b u (hb b n) q,fun b u q n _ _=>⟨u.slots,k b u (hb b n) q⟩,fun b u q n _=>by rw[ay (hx b n)];exact n,fun b u q _=>?_,
    fun b xs q=>by rw[ay (hm b _ q fun z=>z)];exact q,fun b u xs q=>by rw[ay (hm b _ q fun z=>z)];exact q,fun b ps q=>⟨#[],by rw[ay (hm b _ q fun z=>z),q];simp⟩⟩
  by_cases hbe:b=e
  · subst hbe;exact heo
  · exact ⟨u,k b u hbe q⟩
theorem Un.mono (u:Un fs ex H H1 h h1)(hs:∀ b∈fs,b∈fs')(hx:∀ b∈ex,b∈ex'):Un fs' ex' H H1 h h1:=
  ⟨fun b ob q n hb he=>u.keep b ob q n (fun z=>hb (hs b z)) fun z=>he (hx b z),fun _ _ q n _ he=>u.any q n fun z=>he (hx _ z),fun b ob q n he=>u.free b ob q n fun z=>he (hx b z),fun b ob q he=>u.there b ob q fun z=>he (hx b z),u.fH,u.eZ,u.fT⟩
end
def trk (h:Heap)(H:Hp):List Addr:=(List.range h.objs.size).filter fun a=>(H a).isSome
def lL (h:Heap)(H:Hp):Heap:=PySem.W.hideAll h (trk h H)
theorem qH (h:Heap)(H:Hp):(lL h H).objs.size=h.objs.size:=PySem.W.hideAll_size _ _
theorem ur {h:Heap}{H:Hp}{b:Addr}{o:Obj}(e:h.get? b=some o)(n:H b=none):(lL h H).get? b=some o:=
  PySem.W.hideAll_get _ e fun hm=>by
    have q:(H b).isSome=true:=(List.mem_filter.mp hm).2
    rw[n] at q;simp at q
theorem w4 {h:Heap}{H:Hp}{b:Addr}{o:Obj}(e:(lL h H).get? b=some o):h.get? b=some o∧H b=none:=by
  have e':h.get? b=some o:=PySem.W.of_hideAll (trk h H) e
  refine ⟨e',?_⟩
  cases q:H b with
  | none=>rfl
  | some x=>
    have hm:b∈trk h H:=List.mem_filter.mpr ⟨List.mem_range.mpr (Heap.lt_size e'),by simp[q]⟩
    have z:(lL h H).get? b=none:=PySem.W.hideAll_none (trk h H) hm
    rw[z] at e;cases e
def xj (g h:Heap)(L:Addr):List (Addr×Obj):=(List.range h.objs.size).filterMap fun a=>if a=L∨(g.get? a).isSome=true then none else (h.get? a).map fun o=>(a,o)
def rest (g h:Heap)(L d:Addr):List (Addr×Obj):=(xj g h L).filter fun p=>decide (p.1≠d)
end L2
namespace L2
open PySem PySem.Spec PyProof.Rows
structure Mod (K:PySem.W.Frag) (mg:Str→Option Value) (base:Heap):Prop where
  kin:K.In base
  glob:base.Ns mainGlobals mg
  blt:∃ mb,base.Ns builtinsNs mb∧∀ x:Str,x ≠ "__name__" → mb x=bootBuiltins x
  nolimit:base.NoLimit
structure Cx where
  prog:Program
  w:World
  K:PySem.W.Frag
  mg:Str→Option Value
  base:Heap
  A:Around
  N:List Str
  s₀:Shared
  H₀:Hp
  env:Env
  outer:List Env
  stack:List Env
  ex:List Addr
  fn:Str→Bool
  calm:Bool
  pn:List (Addr×Obj)
  xe:Value→Shared→Prop
def frs (l:List Env):List Addr:=l.filterMap (·.frame)
abbrev Cx.fs (X:Cx):List Addr:=frs X.outer
def Vis (sc:Scope)(x:Str):Prop:=sc.names.lookup x=some .local∨sc.names.lookup x=some .cell∨sc.names.lookup x=some .free
def Loc (sc:Scope)(x:Str):Prop:=sc.names.lookup x=some .local∨sc.names.lookup x=some .cell
def Look (env:Env)(h:Heap)(m:Str→Option Value)(x:Str)(u:Value):Prop:=
  (env.kindOf x=some .local∧m x=some u)∨((env.kindOf x=some .cell∨env.kindOf x=some .free)∧∃ c,env.cells.lookup x=some c∧h.IsCell c (some u))
structure Cx.Ok (X:Cx):Prop where
  mod:Mod X.K X.mg X.base
  kind:X.env.scope.kind=.function
  glob:X.env.globals=mainGlobals
  blt:X.env.builtins=builtinsNs
  above:X.s₀.heap.objs.size≤X.env.locals
  inj:∀ x y c,X.env.cells.lookup x=some c→X.env.cells.lookup y=some c→x=y
  has:∀ x,(X.env.kindOf x=some .cell∨X.env.kindOf x=some .free)→∃ c,X.env.cells.lookup x=some c
  cab:∀ x c,X.fn x=true→X.env.cells.lookup x=some c→X.s₀.heap.objs.size≤c
  hd:X.calm=true→X.A.handled=none
  frames:X.A.frames=some X.stack
  stk:X.stack=X.outer∨(X.stack=X.env::X.outer∧X.env.frame=some X.env.locals)
  exf:∀ b∈X.ex,b≠X.env.locals∧∀ x c,X.env.cells.lookup x=some c→c≠b
  bs:∀ b o,X.base.get? b=some o→X.s₀.heap.get? b=some o∧X.H₀ b=none
  bsz:X.base.objs.size≤X.s₀.heap.objs.size
  qd:∀ b o,X.base.get? b=some o→b ∉ X.ex
  qA:∀ b∈X.ex,b ∉ X.fs
  gB:X.s₀.heap.FunFrames X.base X.outer
  frf:∀ b∈X.fs,X.H₀ b=none
structure Inv (X:Cx) (pins:List (Addr×Obj)) (σ:List (Option V)) (H:Hp) (s:Shared):Prop where
  ok:X.Ok
  os:s.os=X.s₀.os
  bare:AllBare s.gens
  base:Un X.fs X.ex X.H₀ H X.s₀.heap s.heap
  loc:∃ m,s.heap.Ns X.env.locals m∧∀ (i:Nat) (x:Str) (v:V),X.N[i]? = some x→σ[i]? = some (some v)→Vis X.env.scope x→∃ u,RelV v u∧Look X.env s.heap m x u
  cell:∀ x c,X.env.cells.lookup x=some c→∃ v,s.heap.IsCell c v
  free:H X.env.locals=none
  dO:∀ x c,X.env.cells.lookup x=some c→H c=none
  pin:∀ p∈X.pn++pins,s.heap.get? p.1=some p.2∧H p.1=none∧p.1≠X.env.locals∧p.1 ∉ X.fs∧∀ v,p.2.data≠.cell v
  hok:HOk X.prog X.w H s.heap
  len:σ.length=X.N.length
section
variable {X:Cx} {pins:List (Addr×Obj)} {σ:List (Option V)} {H H':Hp} {s:Shared} {h':Heap}
theorem Cx.Ok.B0 (ok:X.Ok){b:Addr}{o:Obj}(e:X.base.get? b=some o):b ∉ X.fs:=fun hb=>by
  have:=(ok.gB.mem hb).1
  rw[e] at this;cases this
theorem Inv.bs (I:Inv X pins σ H s):∀ b o,X.base.get? b=some o→s.heap.get? b=some o∧H b=none:=fun b o e=>
  ⟨I.base.keep b o (I.ok.bs b o e).1 (I.ok.bs b o e).2 (I.ok.B0 e) (I.ok.qd b o e),I.base.free b o (I.ok.bs b o e).1 (I.ok.bs b o e).2 (I.ok.qd b o e)⟩
theorem Inv.bk (I:Inv X pins σ H s):∀ b o,X.base.get? b=some o→s.heap.get? b=some o:=fun b o e=>(I.bs b o e).1
theorem Inv.mod (I:Inv X pins σ H s):Mod X.K X.mg X.base:=I.ok.mod
theorem Inv.kIn (I:Inv X pins σ H s):X.K.In s.heap:=I.ok.mod.kin.keeps I.bk
theorem Inv.nolimit (I:Inv X pins σ H s):s.heap.NoLimit:=I.ok.mod.nolimit.keeps I.bk
theorem Inv.fr (I:Inv X pins σ H s):∃ m,Fr X.base X.env.locals s.heap m:=
  let ⟨m,hn,_⟩:=I.loc
  ⟨m,hn,I.bk,Nat.le_trans I.ok.bsz I.ok.above⟩
theorem Inv.lt (I:Inv X pins σ H s):X.env.locals < s.heap.objs.size:=let ⟨_,hn,_⟩:=I.loc;hn.lt
theorem Inv.sz (I:Inv X pins σ H s):X.s₀.heap.objs.size≤s.heap.objs.size:=Nat.le_trans I.ok.above (Nat.le_of_lt I.lt)
theorem Inv.BS (I:Inv X pins σ H s){a:Addr}(h:s.heap.objs.size≤a):a ∉ X.fs:=fun hb=>by
  obtain ⟨_,o,ho,_⟩:=I.ok.gB.mem hb
  exact absurd (Nat.lt_of_lt_of_le (Heap.lt_size ho) (Nat.le_trans I.sz h)) (Nat.lt_irrefl _)
theorem Inv.cne (I:Inv X pins σ H s):∀ x c,X.env.cells.lookup x=some c→c≠X.env.locals:=fun x c e z=>by
  obtain ⟨v,o,ho,hd⟩:=I.cell x c e
  obtain ⟨m,⟨o',es,ep,ho',hd',_⟩,_⟩:=I.loc
  rw[z,ho'] at ho;cases ho;rw[hd'] at hd;cases hd
theorem Inv.gB (I:Inv X pins σ H s):s.heap.FunFrames X.base X.outer:=by
  have all:∀ (l:List Env),(∀ b∈frs l,b∈X.fs)→X.s₀.heap.FunFrames X.base l→s.heap.FunFrames X.base l:=by
    intro l
    induction l with
    | nil=>intro _ _;trivial
    | cons env r ih=>
      intro hs hl
      obtain ⟨hk,⟨L,o,hf,hn,ho,hd⟩,hr⟩:=hl
      have hL:L∈X.fs:=hs L (by unfold frs;rw[List.filterMap_cons,hf];exact List.mem_cons_self)
      obtain ⟨sl,e⟩:=I.base.slot L o ho (I.ok.frf L hL) hL fun z=>I.ok.qA L z hL
      exact ⟨hk,⟨L,_,hf,hn,e,hd⟩,ih (fun b hb=>hs b (by unfold frs;rw[List.filterMap_cons,hf];exact List.mem_cons_of_mem _ hb)) hr⟩
  exact all X.outer (fun _ hb=>hb) I.ok.gB
theorem Inv.stack (I:Inv X pins σ H s):s.heap.FunFrames X.base X.stack:=by
  rcases I.ok.stk with e | ⟨e,hf⟩
  · rw[e];exact I.gB
  · rw[e]
    obtain ⟨m,hn,_⟩:=I.loc
    refine .cons (by rw[I.ok.kind];decide) hf hn ?_ I.gB
    exact Heap.get?_none_of_le (Nat.le_trans I.ok.bsz I.ok.above)
theorem Inv.lF (I:Inv X pins σ H s):∀ b∈frs X.stack,b∈X.env.locals::X.fs:=fun b hb=>by
  rcases I.ok.stk with e | ⟨e,hf⟩
  · rw[e] at hb;exact List.mem_cons_of_mem _ hb
  · rw[e] at hb
    unfold frs at hb
    rw[List.filterMap_cons,hf] at hb
    exact hb
theorem Inv.kJ (I:Inv X pins σ H s):∀ b∈frs X.stack,H b=none:=fun b hb=>by
  rcases List.mem_cons.mp (I.lF b hb) with e | hb
  · rw[e];exact I.free
  · obtain ⟨_,o,ho,_⟩:=I.ok.gB.mem hb
    exact I.base.free b o ho (I.ok.frf b hb) fun z=>I.ok.qA b z hb
theorem Inv.step {g':Array GenState}{t':Nat}{d':Drawn}{ch:List Addr}(I:Inv X pins σ H s)
    (hch:∀ b∈ch,(b∈X.ex∨X.s₀.heap.objs.size≤b)∧b≠X.env.locals∧(∀ x c,X.env.cells.lookup x=some c→c≠b)∧∀ p∈X.pn++pins,p.1≠b)
    (keep:∀ b o,b≠X.env.locals→b ∉ X.fs→b ∉ ch→s.heap.get? b=some o→H b=none→h'.get? b=some o)
    (slot:∀ b o,b≠X.env.locals→b∈X.fs→b ∉ ch→s.heap.get? b=some o→H b=none→∃ sl,h'.get? b=some { o with slots:=sl }) (free:∀ b o,b ∉ ch→s.heap.get? b=some o→H b=none→H' b=none)
    (there:∀ b o,b ∉ ch→s.heap.get? b=some o→∃ o',h'.get? b=some o')
    (fH:∀ b xs,H b=some (.tup xs)→H' b=some (.tup xs)) (eZ:∀ b o u,H b=some (.frz o u)→H' b=some (.frz o u)) (fT:∀ b ps,H b=some (.tbl ps)→∃ more,H' b=some (.tbl (ps++more)))
    (ns:∀ m,s.heap.Ns X.env.locals m→h'.Ns X.env.locals m) (hok:HOk X.prog X.w H' h') (hg:AllBare g') :
    Inv X pins σ H' { s with heap:=h',gens:=g',drawn:=d',toks:=t' }:=by
  have neL:∀ b o,X.s₀.heap.get? b=some o→b≠X.env.locals:=fun b o e=>Nat.ne_of_lt (Nat.lt_of_lt_of_le (Heap.lt_size e) I.ok.above)
  have neC:∀ b o,X.s₀.heap.get? b=some o→b ∉ X.ex→b ∉ ch:=fun b o e hx hb=>by
    rcases (hch b hb).1 with z | z
    · exact hx z
    · exact absurd (Nat.lt_of_lt_of_le (Heap.lt_size e) z) (Nat.lt_irrefl _)
  have cellK:∀ x c,X.env.cells.lookup x=some c→∀ v,s.heap.IsCell c v→h'.IsCell c v:=fun x c e v ⟨o,ho,hd⟩=>by
    have nch:c ∉ ch:=fun z=>(hch c z).2.2.1 x c e rfl
    by_cases hc:c∈X.fs
    · obtain ⟨sl,q⟩:=slot c o (I.cne x c e) hc nch ho (I.dO x c e)
      exact ⟨_,q,hd⟩
    · exact ⟨o,keep c o (I.cne x c e) hc nch ho (I.dO x c e),hd⟩
  refine ⟨I.ok,I.os,hg,⟨fun b o e n hb hx=>?_,fun b o e n hb hx=>?_,fun b o e n hx=>?_,fun b o e hx=>?_,fun b xs e=>fH b xs (I.base.fH b xs e),fun b o xs e=>eZ b o xs (I.base.eZ b o xs e),fun b ps e=>?_⟩,?_,fun x c e=>?_,?_,fun x c e=>?_,fun p hp=>?_,hok,I.len⟩
  · exact keep b o (neL b o e) hb (neC b o e hx) (I.base.keep b o e n hb hx) (I.base.free b o e n hx)
  · obtain ⟨sl,e1⟩:=I.base.slot b o e n hb hx
    obtain ⟨sl',e2⟩:=slot b _ (neL b o e) hb (neC b o e hx) e1 (I.base.free b o e n hx)
    exact ⟨sl',e2⟩
  · obtain ⟨o',e1⟩:=I.base.there b o e hx
    exact free b o' (neC b o e hx) e1 (I.base.free b o e n hx)
  · obtain ⟨o',e1⟩:=I.base.there b o e hx
    exact there b o' (neC b o e hx) e1
  · obtain ⟨m1,e1⟩:=I.base.fT b ps e
    obtain ⟨m2,e2⟩:=fT b _ e1
    exact ⟨m1++m2,by rw[e2,Array.append_assoc]⟩
  · obtain ⟨m,hn,hl⟩:=I.loc
    refine ⟨m,ns m hn,fun i x v e1 e2 e3=>?_⟩
    obtain ⟨u,r,l⟩:=hl i x v e1 e2 e3
    refine ⟨u,r,?_⟩
    rcases l with l | ⟨k,c,e,z⟩
    · exact .inl l
    · exact .inr ⟨k,c,e,cellK x c e _ z⟩
  · obtain ⟨v,z⟩:=I.cell x c e
    exact ⟨v,cellK x c e v z⟩
  · obtain ⟨m,⟨o,_,_,ho,_⟩,_⟩:=I.loc
    exact free _ o (fun z=>(hch _ z).2.1 rfl) ho I.free
  · obtain ⟨v,o,ho,hd⟩:=I.cell x c e
    exact free c o (fun z=>(hch c z).2.2.1 x c e rfl) ho (I.dO x c e)
  · obtain ⟨e,n,ne,nf,d⟩:=I.pin p hp
    have nch:p.1 ∉ ch:=fun z=>(hch p.1 z).2.2.2 p hp rfl
    exact ⟨keep p.1 p.2 ne nf nch e n,free p.1 p.2 nch e n,ne,nf,d⟩
theorem Inv.un {t':Nat}(I:Inv X pins σ H s)(u:Un X.fs [] H H' s.heap h')(hok:HOk X.prog X.w H' h'):Inv X pins σ H' { s with heap:=h',toks:=t' }:=by
  obtain ⟨m,⟨o,es,ep,ho,r⟩,_⟩:=id I.loc
  obtain ⟨sl,hL⟩:=u.any ho I.free (by simp)
  exact I.step (g':=s.gens) (d':=s.drawn) (ch:=[]) (fun _ z=>nomatch z) (fun b o _ hb _ e n=>u.keep b o e n hb (by simp)) (fun b o _ hb _ e n=>u.slot b o e n hb (by simp)) (fun b o _ e n=>u.free b o e n (by simp)) (fun b o _ e=>u.there b o e (by simp)) u.fH u.eZ u.fT (fun m' hm=>by
    obtain ⟨o',es',ep',ho',r'⟩:=hm
    rw[ho] at ho';cases ho'
    exact ⟨_,es',ep',hL,r'⟩) hok I.bare
theorem Inv.call {g':Array GenState}{t':Nat}{d':Drawn}{ch:List Addr}(I:Inv X pins σ H s)(u:Un (frs X.stack) ch H H' s.heap h')(hok:HOk X.prog X.w H' h')(hg:AllBare g')
    (hch:∀ b∈ch,(b∈X.ex∨X.s₀.heap.objs.size≤b)∧b≠X.env.locals∧(∀ x c,X.env.cells.lookup x=some c→c≠b)∧∀ p∈X.pn++pins,p.1≠b) :
    Inv X pins σ H' { s with heap:=h',gens:=g',drawn:=d',toks:=t' }:=by
  obtain ⟨m,⟨o,es,ep,ho,r⟩,_⟩:=id I.loc
  obtain ⟨sl,hL⟩:=u.any ho I.free fun z=>(hch _ z).2.1 rfl
  exact I.step (ch:=ch) hch (fun b o hL hb hc e n=>u.keep b o e n (fun z=>(List.mem_cons.mp (I.lF b z)).elim hL hb) hc) (fun b o _ _ hc e n=>u.any e n hc) (fun b o hc e n=>u.free b o e n hc) (fun b o hc e=>u.there b o e hc) u.fH u.eZ u.fT (fun m' hm=>by
    obtain ⟨o',es',ep',ho',r'⟩:=hm
    rw[ho] at ho';cases ho'
    exact ⟨_,es',ep',hL,r'⟩) hok hg
theorem Inv.turned {t':Nat}{it:Addr}(I:Inv X pins σ H s)(k:∀ b o,b≠it→s.heap.get? b=some o→h'.get? b=some o)(hn:H it=none)(hL:it≠X.env.locals)
    (h1:it∈X.ex∨X.s₀.heap.objs.size≤it) (h2:∀ x c,X.env.cells.lookup x=some c→c≠it) (h3:∀ p∈X.pn++pins,p.1≠it):Inv X pins σ H { s with heap:=h',toks:=t' }:=by
  have nit:∀ b u,H b=some u→b≠it:=fun b u e z=>by rw[z,hn] at e;cases e
  refine I.step (g':=s.gens) (d':=s.drawn) (ch:=[it]) (fun b hb=>?_) (fun b o _ _ hc e _=>k b o (fun z=>hc (by simp[z])) e) (fun b o _ _ hc e _=>⟨o.slots,k b o (fun z=>hc (by simp[z])) e⟩) (fun _ _ _ _ n=>n)
    (fun b o hc e=>⟨o,k b o (fun z=>hc (by simp[z])) e⟩) (fun _ _ e=>e) (fun _ _ _ e=>e) (fun b ps e=>⟨#[],by rw[e];simp⟩) (fun m hm=>?_) (fun b u e=>?_) I.bare
  · have e:b=it:=by simpa using hb
    subst e
    exact ⟨h1,hL,h2,h3⟩
  · obtain ⟨o,es,ep,ho,r⟩:=hm
    exact ⟨o,es,ep,k _ o (Ne.symm hL) ho,r⟩
  · refine (I.hok b u e).ix (fun c v hc q=>k c v ?_ q) (fun _ q=>q) fun _ _ q=>q
    rcases hc with z | z
    · rw[z];exact nit b u e
    · exact nit c _ z
theorem Inv.tok (I:Inv X pins σ H s)(t:Nat):Inv X pins σ H { s with toks:=t }:=I.un (h':=s.heap) (t':=t) Un.refl I.hok
theorem Inv.kept {t':Nat}(I:Inv X pins σ H s)(k:∀ b u,s.heap.get? b=some u→h'.get? b=some u):Inv X pins σ H { s with heap:=h',toks:=t' }:=I.un (Un.kept k) (I.hok.kept k)
theorem Inv.laid {a:Addr}{o:HO}{t':Nat}(I:Inv X pins σ H s)(k:∀ b u,s.heap.get? b=some u→h'.get? b=some u)(hp:s.heap.objs.size≤a)(new:bu X.prog X.w (upd H a o) h' a o) :
    Inv X pins σ (upd H a o) { s with heap:=h',toks:=t' }:=I.un (Un.laid k hp (I.hok.fresh hp)) (I.hok.laid k hp new)
theorem Inv.write {x e:Addr}{o:HO}{t':Nat}(I:Inv X pins σ H s)(mu:Mut (H x))(he:e=x∨H e=some (.own x))(k:∀ b u,b≠e→s.heap.get? b=some u→h'.get? b=some u)(heo:∃ u,h'.get? e=some u)
    (new:bu X.prog X.w (upd H x o) h' x o):Inv X pins σ (upd H x o) { s with heap:=h',toks:=t' }:=I.un (Un.write mu he k heo) (I.hok.write mu he k heo new)
theorem Inv.weak {σ':List (Option V)}(I:Inv X pins σ H s)(hl:σ'.length=σ.length)(w:∀ (i:Nat) v,σ'[i]? = some (some v)→σ[i]? = some (some v)):Inv X pins σ' H s:=
  ⟨I.ok,I.os,I.bare,I.base,let ⟨m,hn,hl'⟩:=I.loc;⟨m,hn,fun i x v e1 e2 e3=>hl' i x v e1 (w i v e2) e3⟩,I.cell,I.free,I.dO,I.pin,I.hok,hl.trans I.len⟩
theorem Inv.pO {pins':List (Addr×Obj)}(I:Inv X pins σ H s)(h:∀ p∈pins',s.heap.get? p.1=some p.2∧H p.1=none∧p.1≠X.env.locals∧p.1 ∉ X.fs∧∀ v,p.2.data≠.cell v):Inv X pins' σ H s:=
  ⟨I.ok,I.os,I.bare,I.base,I.loc,I.cell,I.free,I.dO,fun p hp=>(List.mem_append.mp hp).elim (fun z=>I.pin p (List.mem_append_left _ z)) (h p),I.hok,I.len⟩
theorem mG {N:List Str}(hN:N.Nodup){i j:Nat}{x:Str}(a:N[i]? = some x)(b:N[j]? = some x):i=j:=by
  obtain ⟨h1,e1⟩:=List.getElem?_eq_some_iff.mp a
  obtain ⟨h2,e2⟩:=List.getElem?_eq_some_iff.mp b
  exact (List.getElem_inj hN).mp (e1.trans e2.symm)
theorem qD {M:Model}{A:Around}{E:Value→Shared→Prop}{i:Nat}{x:Str}{v:V}{u:Value}{Q:Unit→Shared→Prop}(I:Inv X pins σ H s)(hN:X.N.Nodup)(hi:X.N[i]? = some x)(hx:Loc X.env.scope x)(r:RelV v u)
    (h:∀ s',Inv X pins (σ.set i (some v)) H s'→(∃ a,Heap.SameBut a s.heap s'.heap∧(a=X.env.locals∨X.env.cells.lookup x=some a))→Q () s') (hf:X.fn x=true∨X.env.scope.names.lookup x=some .local:=by first | exact .inl rfl | exact .inr rfl | assumption):wpAny M A (storeName X.env x u) Q E s:=by
  obtain ⟨m,hn,hl⟩:=id I.loc
  have B6:(X.env.scope.kind == .class || (X.env.scope.kind == .module&&X.env.locals != X.env.globals))=false:=by rw[I.ok.kind];rfl
  have hiσ:i < σ.length:=by rw[I.len];exact (List.getElem?_eq_some_iff.mp hi).1
  have cne:=I.cne
  have tracked:∀ {a:Addr} {h':Heap},(∃ o,s.heap.get? a=some o∧H a=none)→Heap.SameBut a s.heap h'→HOk X.prog X.w H h':=fun {a h'} ha hs b ob e=>by
    obtain ⟨_,_,hfree⟩:=ha
    refine (I.hok b ob e).ix (fun c w' hc q=>(hs.2 c ?_).trans q) (fun _ q=>q) fun _ _ q=>q
    rintro rfl
    rcases hc with rfl | hc
    · rw[hfree] at e;cases e
    · rw[hfree] at hc;cases hc
  rcases hx with hk | hk
  · refine wpAny_storeName_local hk hn (fun h' hn' hs=>?_) B6
    obtain ⟨oL,_,_,hoL,_⟩:=id hn
    refine h _ ⟨I.ok,I.os,I.bare,⟨fun b o e n hb hx=>?_,fun b o e n hb hx=>?_,I.base.free,fun b o e hx=>?_,I.base.fH,I.base.eZ,I.base.fT⟩,⟨_,hn',fun j y v' e1 e2 e3=>?_⟩,fun y c e=>?_,I.free,I.dO,fun p hp=>?_,tracked ⟨oL,hoL,I.free⟩ hs,by simpa using I.len⟩ ⟨_,hs,.inl rfl⟩
    · exact (hs.2 b (Nat.ne_of_lt (Nat.lt_of_lt_of_le (Heap.lt_size e) I.ok.above))).trans (I.base.keep b o e n hb hx)
    · obtain ⟨sl,e1⟩:=I.base.slot b o e n hb hx
      exact ⟨sl,(hs.2 b (Nat.ne_of_lt (Nat.lt_of_lt_of_le (Heap.lt_size e) I.ok.above))).trans e1⟩
    · obtain ⟨o',e1⟩:=I.base.there b o e hx
      exact ⟨o',(hs.2 b (Nat.ne_of_lt (Nat.lt_of_lt_of_le (Heap.lt_size e) I.ok.above))).trans e1⟩
    · by_cases hj:j=i
      · subst hj
        rw[hi] at e1;cases e1
        rw[List.getElem?_set_self hiσ] at e2
        cases e2
        exact ⟨u,r,.inl ⟨hk,by simp⟩⟩
      · rw[List.getElem?_set_ne (Ne.symm hj)] at e2
        obtain ⟨u',r',q⟩:=hl j y v' e1 e2 e3
        refine ⟨u',r',?_⟩
        rcases q with ⟨k,e⟩ | ⟨k,c,e,z⟩
        · refine .inl ⟨k,?_⟩
          have:y≠x:=fun e=>hj (mG hN e1 (e ▸ hi))
          simp[this,e]
        · exact .inr ⟨k,c,e,z.sameBut hs (cne y c e)⟩
    · obtain ⟨w',z⟩:=I.cell y c e
      exact ⟨w',z.sameBut hs (cne y c e)⟩
    · obtain ⟨e,n,ne,nf,d⟩:=I.pin p hp
      exact ⟨(hs.2 p.1 ne).trans e,n,ne,nf,d⟩
  · have hfn:X.fn x=true:=by
      rcases hf with z | z
      · exact z
      · rw[z] at hk;cases hk
    obtain ⟨c,hc⟩:=I.ok.has x (.inl hk)
    obtain ⟨w',z⟩:=I.cell x c hc
    refine wpAny_storeName_cell I.ok.kind hk hc z (fun h' hc' hs=>?_)
    obtain ⟨oc,hoc,hocd⟩:=id z
    refine h { s with heap:=h' } ⟨I.ok,I.os,I.bare,⟨fun b o e n hb hx=>?_,fun b o e n hb hx=>?_,I.base.free,fun b o e hx=>?_,I.base.fH,I.base.eZ,I.base.fT⟩,⟨m,hn.sameBut hs (Ne.symm (cne x c hc)),fun j y v' e1 e2 e3=>?_⟩,fun y c' e=>?_,I.free,I.dO,fun p hp=>?_,tracked ⟨oc,hoc,I.dO x c hc⟩ hs,by simpa using I.len⟩ ⟨c,hs,.inr hc⟩
    · exact (hs.2 b (Nat.ne_of_lt (Nat.lt_of_lt_of_le (Heap.lt_size e) (I.ok.cab x c hfn hc)))).trans (I.base.keep b o e n hb hx)
    · obtain ⟨sl,e1⟩:=I.base.slot b o e n hb hx
      exact ⟨sl,(hs.2 b (Nat.ne_of_lt (Nat.lt_of_lt_of_le (Heap.lt_size e) (I.ok.cab x c hfn hc)))).trans e1⟩
    · obtain ⟨o',e1⟩:=I.base.there b o e hx
      exact ⟨o',(hs.2 b (Nat.ne_of_lt (Nat.lt_of_lt_of_le (Heap.lt_size e) (I.ok.cab x c hfn hc)))).trans e1⟩
    · by_cases hj:j=i
      · subst hj
        rw[hi] at e1;cases e1
        rw[List.getElem?_set_self hiσ] at e2
        cases e2
        exact ⟨u,r,.inr ⟨.inl hk,c,hc,hc'⟩⟩
      · rw[List.getElem?_set_ne (Ne.symm hj)] at e2
        obtain ⟨u',r',q⟩:=hl j y v' e1 e2 e3
        refine ⟨u',r',?_⟩
        rcases q with q | ⟨k,c',e,z'⟩
        · exact .inl q
        · refine .inr ⟨k,c',e,z'.sameBut hs ?_⟩
          rintro rfl
          exact hj (mG hN e1 (I.ok.inj _ _ _ e hc ▸ hi))
    · by_cases hcc:c'=c
      · subst hcc;exact ⟨_,hc'⟩
      · obtain ⟨w2,z2⟩:=I.cell y c' e
        exact ⟨w2,z2.sameBut hs hcc⟩
    · obtain ⟨e,n,ne,nf,d⟩:=I.pin p hp
      refine ⟨(hs.2 p.1 ?_).trans e,n,ne,nf,d⟩
      intro q
      rw[q,hoc] at e
      have q':oc=p.2:=Option.some.inj e
      exact d w' (by rw[← q'];exact hocd)
theorem fb {M:Model}{A:Around}{E:Value→Shared→Prop}{i:Nat}{x:Str}{v:V}{u:Value}{Q:Unit→Shared→Prop}(I:Inv X pins σ H s)(hN:X.N.Nodup)(hi:X.N[i]? = some x)(hx:Loc X.env.scope x)(r:RelV v u)
    (h:∀ s',Inv X pins (σ.set i (some v)) H s'→Q () s') (hf:X.fn x=true∨X.env.scope.names.lookup x=some .local:=by first | exact .inl rfl | exact .inr rfl | assumption):wpAny M A (storeName X.env x u) Q E s:=
  qD I hN hi hx r (fun s' I' _=>h s' I') hf
theorem Inv.qZ {s':Shared}{ch:List Addr}(I:Inv X pins σ H s)(ho:s'.os=s.os)(u:Un (frs X.stack) ch H H' s.heap s'.heap)(hok:HOk X.prog X.w H' s'.heap)(hg:AllBare s'.gens)
    (hch:∀ b∈ch,(b∈X.ex∨X.s₀.heap.objs.size≤b)∧b≠X.env.locals∧(∀ x c,X.env.cells.lookup x=some c→c≠b)∧∀ p∈X.pn++pins,p.1≠b):Inv X pins σ H' s':=by
  obtain ⟨h',g',d',t',o'⟩:=s'
  have e:o'=s.os:=ho
  subst e
  exact I.call (g':=g') (t':=t') (d':=d') u hok hg hch
end
abbrev XK:=Value→Option Addr→Hp→Prop
abbrev St:=List (Option V)
abbrev VK:=V→Hp→Prop
abbrev TE:=St→Hp→VK→Prop
abbrev TT:=St→Hp→(Bool→Hp→Prop)→Prop
abbrev TA:=St→Hp→(List V→Hp→Prop)→Prop
structure Ends where
  nx:St→Hp→Prop
  rt:VK
  bk:St→Hp→Prop:=fun _ _=>False
  ct:St→Hp→Prop:=fun _ _=>False
abbrev TS:=Ends→St→Hp→Prop
def EP (X:Cx)(pins:List (Addr×Obj))(σ:St)(Q:VK)(u:Value)(s':Shared):Prop:=∃ v H',Inv X pins σ H' s'∧RelV v u∧Q v H'
def TP (X:Cx)(pins:List (Addr×Obj))(σ:St)(Q:Bool→Hp→Prop)(b:Bool)(s':Shared):Prop:=∃ H',Inv X pins σ H' s'∧Q b H'
def AP (X:Cx)(pins:List (Addr×Obj))(σ:St)(Q:List V→Hp→Prop)(us:List Value)(s':Shared):Prop:=∃ vs H',Inv X pins σ H' s'∧Vals vs us∧Q vs H'
def SP (X:Cx)(pins:List (Addr×Obj))(D:Ends)(f:Flow)(s':Shared):Prop:=
  match f with
  | .next=>∃ σ' H',Inv X pins σ' H' s'∧D.nx σ' H'
  | .brk=>∃ σ' H',Inv X pins σ' H' s'∧D.bk σ' H'
  | .cont=>∃ σ' H',Inv X pins σ' H' s'∧D.ct σ' H'
  | .ret u=>∃ v σ' H',Inv X pins σ' H' s'∧RelV v u∧D.rt v H'
def PE (X:Cx)(e:Expr)(t:TE):Prop:=
  ∀ (pins:List (Addr×Obj)) (s:Shared) (σ:St) (H:Hp) (Q:VK),Inv X pins σ H s→t σ H Q→wpAny (model X.prog X.w) X.A (eval e X.env) (EP X pins σ Q) X.xe s
def PT (X:Cx)(e:Expr)(t:TT):Prop:=
  ∀ (pins:List (Addr×Obj)) (s:Shared) (σ:St) (H:Hp) (Q:Bool→Hp→Prop),Inv X pins σ H s→t σ H Q→wpAny (model X.prog X.w) X.A (isTrue e X.env (eval e X.env)) (TP X pins σ Q) X.xe s
def PW (X:Cx)(e:Expr)(t:TT):Prop:=
  ∀ (whole:Sem Value) (pins:List (Addr×Obj)) (s:Shared) (σ:St) (H:Hp) (Q:Bool→Hp→Prop),Inv X pins σ H s→t σ H Q→wpAny (model X.prog X.w) X.A (isTrue e X.env whole) (TP X pins σ Q) X.xe s
theorem PW.pt {X:Cx}{e:Expr}{t:TT}(h:PW X e t):PT X e t:=h _
def PA (X:Cx)(es:List Expr)(t:TA):Prop:=
  ∀ (pos:Pos) (pins:List (Addr×Obj)) (s:Shared) (σ:St) (H:Hp) (Q:List V→Hp→Prop),Inv X pins σ H s→t σ H Q→wpAny (model X.prog X.w) X.A (spliced (backTo pos (starEach es X.env))) (AP X pins σ Q) X.xe s
def PS (X:Cx)(st:Stmt)(t:TS):Prop:=
  ∀ (pins:List (Addr×Obj)) (s:Shared) (σ:St) (H:Hp) (D:Ends),Inv X pins σ H s→t D σ H→wpAny (model X.prog X.w) X.A (exec st X.env) (SP X pins D) X.xe s
def PSs (X:Cx)(st:List Stmt)(t:TS):Prop:=
  ∀ (pins:List (Addr×Obj)) (s:Shared) (σ:St) (H:Hp) (D:Ends),Inv X pins σ H s→t D σ H→wpAny (model X.prog X.w) X.A (execs st X.env) (SP X pins D) X.xe s
theorem thn {α:Type}{t:Sem α}{Q Q':α→Shared→Prop}{M:Model}{A:Around}{E:Value→Shared→Prop}{s:Shared}(h:wpAny M A t Q E s)(hQ:∀ a s,Q a s→Q' a s):wpAny M A t Q' E s:=wpAny_mono h hQ fun _ _ x=>x
end L2
namespace L2
open PySem PySem.Spec PyProof.Rows
section
variable {X:Cx}
def A0 (i:Nat):TE:=fun σ H Q=>∃ v,σ[i]? = some (some v)∧Q v H
def tC (v:V):TE:=fun _ H Q=>Q v H
theorem tR {i:Nat}{x:Str}{pos:Pos}(hN:X.N[i]? = some x)(hv:Vis X.env.scope x)(hd:(x == ("__debug__" : Str))=false:=by decide)(hcd:(x == ("__classdict__" : Str))=false:=by decide):PE X (.Name x pos) (A0 i):=by
  intro pins s σ H Q I h
  obtain ⟨v,e,h⟩:=h
  obtain ⟨m,hn,hl⟩:=I.loc
  obtain ⟨u,r,l⟩:=hl i x v hN e hv
  have fin:EP X pins σ Q u s:=⟨v,H,I,r,h⟩
  rcases l with ⟨hk,hm⟩ | ⟨hk,c,hc,hcell⟩
  · exact wpAny_Name (wpAny_loadName_local I.ok.kind hk hn hm fin) hd
  · rcases hk with hk | hk
    · exact wpAny_Name (wpAny_loadName_cell I.ok.kind hk hc hcell fin) hd
    · exact wpAny_Name (wpAny_loadName_free I.ok.kind hk hc hcell fin hcd) hd
theorem zv {i j pos}:PE X (.Constant (.int i) j pos) (tC (.int i)):=fun _ _ _ H _ I h=>wpAny_Constant_int ⟨.int i,H,I.tok _,⟨_,rfl⟩,h⟩
theorem Aq {b j pos}:PE X (.Constant (.bool b) j pos) (tC (.bl b)):=fun _ _ _ H _ I h=>Constant_bool ⟨.bl b,H,I,rfl,h⟩
theorem Al {j pos}:PE X (.Constant .none j pos) (tC .non):=fun _ _ _ H _ I h=>Constant_none ⟨.non,H,I,rfl,h⟩
theorem rh {x j pos}:PE X (.Constant (.str x) j pos) (tC (.str x)):=fun _ _ _ H _ I h=>Calls.Constant_str ⟨.str x,H,I.tok _,⟨_,rfl⟩,h⟩
def Gl (X:Cx)(x:Str):Prop:=X.env.kindOf x=some .globalImplicit
theorem pA {E:Value→Shared→Prop}{pins:List (Addr×Obj)}{s:Shared}{σ:St}{H:Hp}{x:Str}{u:Value}{pos:Pos}{Q:Value→Shared→Prop}(I:Inv X pins σ H s)(hg:Gl X x)(hm:X.mg x=some u)(h:Q u s)
    (hd:(x == ("__debug__" : Str))=false:=by decide):wpAny (model X.prog X.w) X.A (eval (.Name x pos) X.env) Q E s:=
  Calls.Name_function_global I.ok.kind hg (Calls.loadGlobal_global (by rw[I.ok.glob];exact I.mod.glob.keeps I.bk) hm h) hd
theorem iR {E:Value→Shared→Prop}{pins:List (Addr×Obj)}{s:Shared}{σ:St}{H:Hp}{x:Str}{u:Value}{pos:Pos}{Q:Value→Shared→Prop}(I:Inv X pins σ H s)(hg:Gl X x)(hm:X.mg x=none)(hv:bootBuiltins x=some u)(h:Q u s)
    (hn:x ≠ "__name__" := by decide) (hd:(x == ("__debug__" : Str))=false:=by decide):wpAny (model X.prog X.w) X.A (eval (.Name x pos) X.env) Q E s:=by
  obtain ⟨mb,h1,h2⟩:=I.mod.blt
  exact Calls.Name_function_global I.ok.kind hg (Calls.loadGlobal_builtin (by rw[I.ok.glob];exact I.mod.glob.keeps I.bk) hm (by rw[I.ok.blt];exact h1.keeps I.bk) ((h2 x hn).trans hv) h) hd
theorem xa {x:Str}{v:V}{u:Value}{pos:Pos}(hg:Gl X x)(hm:X.mg x=some u)(r:RelV v u)(hd:(x == ("__debug__" : Str))=false:=by decide):PE X (.Name x pos) (tC v):=
  fun _ _ _ H _ I h=>pA I hg hm ⟨v,H,I,r,h⟩ hd
variable {a b:Expr} {ta tb:TE} {pos:Pos}
def tB (t:TE):TT:=fun σ H Q=>t σ H fun x H1=>∃ c,x=.bl c∧Q c H1
theorem yL {e:Expr}{t:TE}(h:PE X e t)(he:∀ whole,isTrue e X.env whole=(do let v ← whole;standAt e.pos;holding [v] (truthy v)):=by intro _;rfl):PT X e (tB t):=by
  intro pins s σ H Q I hw
  refine isTrue_plain (thn (h pins s σ H _ I hw) fun v s1 ⟨x,H1,I1,r1,q1⟩=>?_) (he _)
  obtain ⟨d,rfl,q⟩:=q1
  cases r1
  exact wpAny_truthy_bool ⟨H1,I1,q⟩
variable {tA tB':TT} {rest:List Expr}
def BU (t u:TT):TT:=fun σ H Q=>t σ H fun c H1=>if c=true then u σ H1 Q else Q false H1
def tOr (t u:TT):TT:=fun σ H Q=>t σ H fun c H1=>if c=true then Q true H1 else u σ H1 Q
def Cb (t:TT):TT:=fun σ H Q=>t σ H fun c H1=>Q (!c) H1
theorem pw_and1 (ha:PT X a tA):PW X (.BoolOp .And [a] pos) tA:=by
  intro wh pins s σ H Q I h
  refine isTrue_and (thn (ha pins s σ H Q I h) fun c s1 e=>?_)
  cases c with
  | true=>exact isTrue_and_nil e
  | false=>exact e
theorem pw_or1 (ha:PT X a tA):PW X (.BoolOp .Or [a] pos) tA:=by
  intro wh pins s σ H Q I h
  refine isTrue_or (thn (ha pins s σ H Q I h) fun c s1 e=>?_)
  cases c with
  | false=>exact isTrue_or_nil e
  | true=>exact e
theorem pw_and (ha:PT X a tA)(hb:PW X (.BoolOp .And (b::rest) pos) tB'):PW X (.BoolOp .And (a::b::rest) pos) (BU tA tB'):=by
  intro wh pins s σ H Q I h
  refine isTrue_and (thn (ha pins s σ H _ I h) fun c s1 ⟨H1,I1,q1⟩=>?_)
  cases c with
  | true=>exact hb wh pins s1 σ H1 Q I1 q1
  | false=>exact ⟨H1,I1,q1⟩
theorem pw_or (ha:PT X a tA)(hb:PW X (.BoolOp .Or (b::rest) pos) tB'):PW X (.BoolOp .Or (a::b::rest) pos) (tOr tA tB'):=by
  intro wh pins s σ H Q I h
  refine isTrue_or (thn (ha pins s σ H _ I h) fun c s1 ⟨H1,I1,q1⟩=>?_)
  cases c with
  | true=>exact ⟨H1,I1,q1⟩
  | false=>exact hb wh pins s1 σ H1 Q I1 q1
theorem y4 (ha:PT X a tA):PT X (.UnaryOp .Not a pos) (Cb tA):=by
  intro pins s σ H Q I h
  exact isTrue_not (ha pins s σ H (fun c H1=>Q (!c) H1) I h)
def tIf (t:TT)(ta tb:TE):TE:=fun σ H Q=>t σ H fun c H1=>if c=true then ta σ H1 Q else tb σ H1 Q
theorem ue {c:Expr}(hc:PT X c tA)(ha:PE X a ta)(hb:PE X b tb):PE X (.IfExp c a b pos) (tIf tA ta tb):=by
  intro pins s σ H Q I h
  refine wpAny_IfExp (thn (hc pins s σ H _ I h) fun d s1 ⟨H1,I1,q1⟩=>?_)
  cases d with
  | true=>exact ha pins s1 σ H1 Q I1 q1
  | false=>exact hb pins s1 σ H1 Q I1 q1
end
end L2
namespace L2
open PySem PySem.Spec PyProof.Rows
def SqL (K:PySem.W.Frag)(H:Hp)(a:Addr)(xs:List V):Prop:=
  Rd H a (.lst xs)∨
    ∃ (o:Obj) (its:Array Value) (n:Nat),K.lookup a=some o∧o.cls=.type "list" ∧ o.dict=none∧o.data=.seq its n∧its.size≤sizeLine∧Vals xs its.toList
def SqT (K:PySem.W.Frag)(H:Hp)(a:Addr)(xs:List V):Prop:=
  Rd H a (.tup xs)∨
    ∃ (o:Obj) (its:Array Value) (n:Nat),K.lookup a=some o∧o.cls=.type "tuple" ∧ o.dict=none∧o.data=.seq its n∧its.size≤sizeLine∧Vals xs its.toList
def B4:Value→Option V
  | .none=>some .non
  | .bool b=>some (.bl b)
  | .int i _=>some (.int i)
  | .str x _=>some (.str x)
  | .bytes b _=>some (.byt b)
  | .float b _=>some (.flt b)
  | .ref a=>some (.ref a)
  | .type n=>some (.ty n)
  | _=>none
theorem RelV.abs {x:V}{u:Value}(r:RelV x u):B4 u=some x:=by
  cases x with
  | non=>cases r;rfl
  | bl _=>cases r;rfl
  | int _=>obtain ⟨t,rfl⟩:=r;rfl
  | str _=>obtain ⟨t,rfl⟩:=r;rfl
  | byt _=>obtain ⟨t,rfl⟩:=r;rfl
  | flt _=>obtain ⟨t,rfl⟩:=r;rfl
  | ref _=>cases r;rfl
  | ty _=>cases r;rfl
theorem RelV.inj {x y:V}{u:Value}(r:RelV x u)(q:RelV y u):x=y:=Option.some.inj (r.abs.symm.trans q.abs)
theorem Vals.inj:∀ {xs ys:List V} {us:List Value},Vals xs us→Vals ys us→xs=ys
  | _,_,_,.nil,.nil=>rfl
  | _,_,_,.cons r t,.cons r' t'=>by rw[r.inj r',Vals.inj t t']
section
variable {X:Cx} {pins:List (Addr×Obj)} {σ:St} {H:Hp} {s:Shared} {a:Addr} {xs ys:List V}
theorem SqL.of {K:PySem.W.Frag}(h:H a=some (.lst xs)):SqL K H a xs:=.inl (.inl h)
theorem SqT.of {K:PySem.W.Frag}(h:H a=some (.tup xs)):SqT K H a xs:=.inl (.inl h)
theorem Inv.list (I:Inv X pins σ H s)(h:SqL X.K H a xs):∃ its:List Value,Vals xs its∧PlainL s.heap a its.toArray∧xs.length≤sizeLine:=by
  rcases h with h | ⟨o,its,n,hk,hc,hd,hs,hz,r⟩
  · obtain ⟨z,its,n,r,e⟩:=h.ok I.hok
    exact ⟨its,r,⟨_,n,e,rfl,rfl,rfl⟩,z⟩
  · refine ⟨its.toList,r,⟨o,n,I.kIn a o hk,hc,hd,by simpa using hs⟩,?_⟩
    have e:=r.length
    simp only[Array.length_toList] at e
    omega
theorem Inv.tuple (I:Inv X pins σ H s)(h:SqT X.K H a xs):∃ its:List Value,Vals xs its∧IsTup s.heap a its.toArray∧xs.length≤sizeLine:=by
  rcases h with h | ⟨o,its,n,hk,hc,hdn,hs,hz,r⟩
  · obtain ⟨z,its,r,p⟩:=h.ok I.hok
    exact ⟨its,r,p.tup,z⟩
  · refine ⟨its.toList,r,⟨o,I.kIn a o hk,hc,n,by simpa using hs⟩,?_⟩
    have e:=r.length
    simp only[Array.length_toList] at e
    omega
theorem Inv.lW (I:Inv X pins σ H s)(h:SqL X.K H a xs)(h':SqL X.K H a ys):xs=ys:=by
  obtain ⟨its,r,⟨o,n,e,_,_,d⟩,_⟩:=I.list h
  obtain ⟨its',r',⟨o',n',e',_,_,d'⟩,_⟩:=I.list h'
  rw[e] at e';cases e'
  rw[d] at d'
  injection d' with d1 _
  have:its=its':=by simpa using congrArg Array.toList d1
  subst this
  exact r.inj r'
theorem Inv.jL (I:Inv X pins σ H s)(h:SqT X.K H a xs)(h':SqT X.K H a ys):xs=ys:=by
  obtain ⟨its,r,⟨o,e,_,n,d⟩,_⟩:=I.tuple h
  obtain ⟨its',r',⟨o',e',_,n',d'⟩,_⟩:=I.tuple h'
  rw[e] at e';cases e'
  rw[d] at d'
  injection d' with d1 _
  have:its=its':=by simpa using congrArg Array.toList d1
  subst this
  exact r.inj r'
end
abbrev Cx.gx (X:Cx)(E:Value→Shared→Prop):Cx:={ X with xe:=E }
abbrev Cx.nox (X:Cx):Cx:=X.gx fun _ _=>False
theorem Cx.Ok.gx {X:Cx}(ok:X.Ok)(E:Value→Shared→Prop):(X.gx E).Ok:=
  ⟨ok.mod,ok.kind,ok.glob,ok.blt,ok.above,ok.inj,ok.has,ok.cab,ok.hd,ok.frames,ok.stk,ok.exf,ok.bs,ok.bsz,ok.qd,ok.qA,ok.gB,ok.frf⟩
theorem Cx.Ok.cW {X:Cx}{E:Value→Shared→Prop}(ok:(X.gx E).Ok):X.Ok:=
  ⟨ok.mod,ok.kind,ok.glob,ok.blt,ok.above,ok.inj,ok.has,ok.cab,ok.hd,ok.frames,ok.stk,ok.exf,ok.bs,ok.bsz,ok.qd,ok.qA,ok.gB,ok.frf⟩
section
variable {X:Cx} {pins:List (Addr×Obj)} {σ:St} {H:Hp} {s:Shared} {E:Value→Shared→Prop}
theorem Inv.gx (I:Inv X pins σ H s)(E:Value→Shared→Prop):Inv (X.gx E) pins σ H s:=⟨I.ok.gx E,I.os,I.bare,I.base,I.loc,I.cell,I.free,I.dO,I.pin,I.hok,I.len⟩
theorem Inv.cW (I:Inv (X.gx E) pins σ H s):Inv X pins σ H s:=⟨I.ok.cW,I.os,I.bare,I.base,I.loc,I.cell,I.free,I.dO,I.pin,I.hok,I.len⟩
theorem SP.cW {D:Ends}{f:Flow}{s':Shared}(h:SP (X.gx E) pins D f s'):SP X pins D f s':=by
  cases f with
  | next=>obtain ⟨σ',H',I,q⟩:=h;exact ⟨σ',H',I.cW,q⟩
  | brk=>obtain ⟨σ',H',I,q⟩:=h;exact ⟨σ',H',I.cW,q⟩
  | cont=>obtain ⟨σ',H',I,q⟩:=h;exact ⟨σ',H',I.cW,q⟩
  | ret u=>obtain ⟨v,σ',H',I,r,q⟩:=h;exact ⟨v,σ',H',I.cW,r,q⟩
theorem PE.nox {e:Expr}{t:TE}(h:PE X.nox e t):PE X e t:=fun pins s σ H Q I hw=>
  wpAny_mono (h pins s σ H Q (I.gx _) hw) (fun _ _ ⟨v,H',I',r,q⟩=>⟨v,H',I'.cW,r,q⟩) fun _ _ z=>False.elim z
theorem PT.nox {e:Expr}{t:TT}(h:PT X.nox e t):PT X e t:=fun pins s σ H Q I hw=>
  wpAny_mono (h pins s σ H Q (I.gx _) hw) (fun _ _ ⟨H',I',q⟩=>⟨H',I'.cW,q⟩) fun _ _ z=>False.elim z
theorem PSs.nox {st:List Stmt}{t:TS}(h:PSs X.nox st t):PSs X st t:=fun pins s σ H D I hw=>
  wpAny_mono (h pins s σ H D (I.gx _) hw) (fun _ _ q=>q.cW) fun _ _ z=>False.elim z
end
section
variable {X:Cx} {st:Stmt} {rest:List Stmt} {t u:TS} {e:Expr} {te:TE} {pos:Pos}
def BF:TS:=fun D σ H=>D.nx σ H
def B2 (t u:TS):TS:=fun D σ H=>t { D with nx:=u D } σ H
theorem vT:PSs X [] BF:=fun _ _ σ H _ I h=>wpAny_execs_nil ⟨σ,H,I,h⟩
theorem rV (h1:PS X st t)(h2:PSs X rest u):PSs X (st::rest) (B2 t u):=by
  intro pins s σ H D I h
  refine wpAny_execs_cons (thn (h1 pins s σ H { D with nx:=u D } I h) fun f s1 q=>?_)
  cases f with
  | next=>
    obtain ⟨σ',H',I',q⟩:=q
    exact h2 pins s1 σ' H' D I' q
  | ret v=>exact q
  | brk=>exact q
  | cont=>exact q
theorem wm (h1:PS X st t):PSs X [st] t:=by
  intro pins s σ H D I h
  refine wpAny_execs_cons (thn (h1 pins s σ H D I h) fun f s1 q=>?_)
  cases f with
  | next=>exact wpAny_execs_nil q
  | ret v=>exact q
  | brk=>exact q
  | cont=>exact q
def Bl:TS:=fun D σ H=>D.ct σ H
theorem lP:PS X (.Continue pos) Bl:=fun _ _ σ H _ I h=>wpAny_Continue ⟨σ,H,I,h⟩
theorem Inv.quiet {pins:List (Addr×Obj)}{σ:St}{H:Hp}{s:Shared}(I:Inv X pins σ H s):interactive X.env=false:=by simp[interactive,I.ok.kind]
def A1 (te:TE):TS:=fun D σ H=>te σ H fun _ H1=>D.nx σ H1
theorem w6 (he:PE X e te)(hs:swapsWith e none pos.line X.env=pure false:=by rfl):PS X (.Expr e pos) (A1 te):=by
  intro pins s σ H D I h
  exact wpAny_Expr_any (thn (he pins s σ H _ I h) fun v s1 ⟨x,H1,I1,r1,q1⟩=>⟨σ,H1,I1,q1⟩) I.quiet hs
def Cd (te:TE):TS:=fun D σ H=>te σ H D.rt
theorem yN (he:PE X e te):PS X (.Return (some e) pos) (Cd te):=by
  intro pins s σ H D I h
  exact wpAny_Return_some (thn (he pins s σ H _ I h) fun v s1 ⟨x,H1,I1,r1,q1⟩=>⟨x,σ,H1,I1,r1,q1⟩)
def Cg (c:TT)(t u:TS):TS:=fun D σ H=>c σ H fun b H1=>if b=true then t D σ H1 else u D σ H1
theorem AB {c:Expr}{a b:List Stmt}{tc:TT}(hc:PT X c tc)(ha:PSs X a t)(hb:PSs X b u):PS X (.If c a b pos) (Cg tc t u):=by
  intro pins s σ H D I h
  refine wpAny_If (thn (hc pins s σ H _ I h) fun d s1 ⟨H1,I1,q1⟩=>?_)
  cases d with
  | true=>exact ha pins s1 σ H1 D I1 q1
  | false=>exact hb pins s1 σ H1 D I1 q1
end
abbrev TG:=V→St→Hp→(St→Hp→Prop)→Prop
abbrev TGs:=List V→St→Hp→(St→Hp→Prop)→Prop
def PG (X:Cx)(target:Expr)(t:TG):Prop:=
  ∀ (pins:List (Addr×Obj)) (s:Shared) (σ:St) (H:Hp) (v:V) (u:Value) (Q:St→Hp→Prop),Inv X pins σ H s→RelV v u→t v σ H Q→
    wpAny (model X.prog X.w) X.A (assign target X.env u) (fun _ s'=>∃ σ' H',Inv X pins σ' H' s'∧Q σ' H') X.xe s
def PGs (X:Cx)(ts:List Expr)(t:TGs):Prop:=
  ∀ (pins:List (Addr×Obj)) (s:Shared) (σ:St) (H:Hp) (vs:List V) (us:List Value) (Q:St→Hp→Prop),Inv X pins σ H s→Vals vs us→t vs σ H Q→
    wpAny (model X.prog X.w) X.A (assignInOrder ((assignEach ts X.env).map (·.2)) us) (fun _ s'=>∃ σ' H',Inv X pins σ' H' s'∧Q σ' H') X.xe s
section
variable {X:Cx} {pos:Pos}
def jR (i:Nat):TG:=fun v σ H Q=>Q (σ.set i (some v)) H
theorem fk {i:Nat}{x:Str}(hN:X.N.Nodup)(hi:X.N[i]? = some x)(hx:Loc X.env.scope x)(hf:X.fn x=true∨X.env.scope.names.lookup x=some .local:=by first | exact .inl rfl | exact .inr rfl | assumption):PG X (.Name x pos) (jR i):=by
  intro pins s σ H v u Q I r h
  exact wpAny_assign_Name (fb I hN hi hx r (fun s' I'=>⟨_,H,I',h⟩) hf)
def Co:TGs:=fun vs σ H Q=>vs=[]∧Q σ H
def Ay (t:TG)(u:TGs):TGs:=fun vs σ H Q=>∃ v r,vs=v::r∧t v σ H fun σ' H'=>u r σ' H' Q
theorem wI:PGs X [] Co:=by
  intro pins s σ H vs us Q I r h
  obtain ⟨e,h⟩:=h
  subst e
  cases r
  exact assignInOrder_nil ⟨σ,H,I,h⟩
theorem rM {e:Expr}{es:List Expr}{t:TG}{u:TGs}(h1:PG X e t)(h2:PGs X es u)
    (hs:(assignEach (e::es) X.env).map (·.2)=assign e X.env::(assignEach es X.env).map (·.2):=by rfl):PGs X (e::es) (Ay t u):=by
  intro pins s σ H vs us Q I r h
  obtain ⟨v,vr,e1,h⟩:=h
  subst e1
  cases r with
  | cons r rr=>
    rw[hs]
    refine assignInOrder_cons (thn (h1 pins s σ H _ _ _ I r h) fun _ s1 ⟨σ1,H1,I1,q1⟩=>?_)
    exact h2 pins s1 σ1 H1 _ _ Q I1 rr q1
def Ci (K:PySem.W.Frag)(n:Nat)(t:TGs):TG:=fun v σ H Q=>∃ a xs,v=.ref a∧SqT K H a xs∧xs.length=n∧t xs σ H Q
theorem z8 {es:List Expr}{k:Nat}{t:TGs}{n:Nat}(hc:X.calm=true)(h:PGs X es t)
    (hn:(assignEach es X.env).length=n:=by rfl) (hst:(assignEach es X.env).findIdx? (·.1)=none:=by rfl):PG X (.Tuple es k pos) (Ci X.K n t):=by
  intro pins s σ H v u Q I r hw
  obtain ⟨a,xs,e1,hq,hl,hw⟩:=hw
  subst e1
  cases r
  obtain ⟨its,rv,ht,hz⟩:=I.tuple hq
  refine assign_Tuple_tuple (I.ok.hd hc) ht (by simp[hn,← hl,rv.length]) hst fun h' hx=>?_
  have I1:Inv X pins σ H { s with heap:=h' }:=I.kept (t':=s.toks) fun b o e=>hx b o (Nat.ne_of_lt (Heap.lt_size e)) e
  exact h pins _ σ H xs _ Q I1 (by simpa using rv) hw
def y3 (te:TE)(g:TG):TS:=fun D σ H=>te σ H fun x H1=>g x σ H1 D.nx
theorem yU {tg e:Expr}{te:TE}{g:TG}(he:PE X e te)(hg:PG X tg g)(hs:swapsWithSole [tg] e pos.line X.env=pure false:=by rfl)(hw:swappedStores [tg] e X.env=pure none:=by rfl)
    (h1:(assignEach [tg] X.env).map (·.2)=[assign tg X.env]:=by rfl):PS X (.Assign [tg] e pos) (y3 te g):=by
  intro pins s σ H D I h
  refine wpAny_Assign_stores (thn (he pins s σ H _ I h) fun v s1 ⟨x,H1,I1,r1,q1⟩=>?_) hs hw
  rw[h1]
  exact thn (hg pins s1 σ H1 x v _ I1 r1 q1) fun _ s2 q=>q
theorem zM {i:Nat}{x:Str}{e:Expr}{te:TE}{pos':Pos}(hN:X.N.Nodup)(hi:X.N[i]? = some x)(hx:Loc X.env.scope x)(he:PE X e te)(hs:swapsWith e (some (.Name x pos')) pos.line X.env=pure false:=by rfl)(hf:X.fn x=true∨X.env.scope.names.lookup x=some .local:=by first | exact .inl rfl | exact .inr rfl | assumption) :
    PS X (.Assign [.Name x pos'] e pos) (y3 te (jR i)):=by
  intro pins s σ H D I h
  refine wpAny_Assign_Name (thn (he pins s σ H _ I h) fun v s1 ⟨y,H1,I1,r1,q1⟩=>?_) hs
  exact fb I1 hN hi hx r1 (fun s2 I2=>⟨_,H1,I2,q1⟩) hf
def B8 (i j:Nat)(ta:TA):TS:=fun D σ H=>ta σ H fun vs H1=>∃ v w,vs=[v,w]∧D.nx ((σ.set i (some v)).set j (some w)) H1
theorem xY {i j:Nat}{x y:Str}{a b:Expr}{ta:TA}{px py pt:Pos}{kt k2 pt2}(hc:X.calm=true)(hN:X.N.Nodup)(hi:X.N[i]? = some x)(hj:X.N[j]? = some y)(hij:i≠j)
    (hx:X.env.scope.names.lookup x=some .local) (hy:X.env.scope.names.lookup y=some .local) (ha:PA X [a,b] ta)
    (hw:swappedStores [.Tuple [.Name x px,.Name y py] kt pt] (.Tuple [a,b] k2 pt2) X.env=pure (some [x,y]))
    (hs:swapsWithSole [.Tuple [.Name x px,.Name y py] kt pt] (.Tuple [a,b] k2 pt2) pos.line X.env=pure false:=by rfl) :
    PS X (.Assign [.Tuple [.Name x px,.Name y py] kt pt] (.Tuple [a,b] k2 pt2) pos) (B8 i j ta):=by
  intro pins s σ H D I h
  rw[exec_Assign_arm]
  refine wpAny_bind (wpAny_standAt ?_)
  rw[hs]
  refine wpAny_bind (wpAny_pure ?_)
  rw[if_neg (by decide)]
  refine wpAny_bind (Tuple_ (thn (ha _ pins s σ H _ I h) fun us s1 ⟨vs,H1,I1,r1,q1⟩=>?_))
  obtain ⟨v,w,e1,q1⟩:=q1
  subst e1
  obtain ⟨u1,u2,rfl,rv,rw'⟩:∃ u1 u2,us=[u1,u2]∧RelV v u1∧RelV w u2:=by
    cases r1 with
    | cons p q=>
      cases q with
      | cons p' q'=>
        cases q'
        exact ⟨_,_,rfl,p,p'⟩
  refine wpAny_newObj_type ?_ (by show 2≤sizeLine;decide)
  have I2:Inv X pins σ H1 { s1 with heap:=s1.heap.push { cls:=.type "tuple", data:=.seq [u1,u2].toArray } }:=I1.kept (t':=s1.toks) fun b o e=>Heap.get?_push_of_some _ e
  rw[hw]
  refine wpAny_bind (wpAny_pure ?_)
  show wpAny (model X.prog X.w) X.A (do rule "assign.swapped-stores";let items ← unpackItems (.ref s1.heap.objs.size) 2 none;assignInOrder [fun v=>bindName X.env y v,fun v=>bindName X.env x v] items.reverse;pure Flow.next) _ _ _
  refine wpAny_bind (wpAny_rule (wpAny_bind (unpackItems_tuple (items:=#[u1,u2]) (I.ok.hd hc) (IsTup.new s1.heap _) fun h' hx'=>?_)))
  have I3:=I2.kept (h':=h') (t':=s1.toks) fun b o e=>hx' b o (Nat.ne_of_lt (Heap.lt_size e)) e
  show wpAny _ _ (assignInOrder [fun v=>bindName X.env y v,fun v=>bindName X.env x v] [u2,u1] >>= fun _=>pure Flow.next) _ _ _
  refine wpAny_bind (assignInOrder_cons (wpAny_bindName (fb I3 hN hj (.inl hy) rw' (fun s2 I4=>?_) (.inr hy))))
  refine assignInOrder_cons (wpAny_bindName (fb I4 hN hi (.inl hx) rv (fun s3 I5=>assignInOrder_nil (wpAny_pure ?_)) (.inr hx)))
  rw[List.set_comm _ _ (Ne.symm hij)] at I5
  exact ⟨_,H1,I5,q1⟩
end
section
variable {X:Cx} {pos:Pos}
def zY (c:TT)(tb:TS):TS:=fun D σ H=>∃ W:Nat→St→Hp→Prop,(∃ m,W m σ H)∧∀ m σ H,W m σ H→
  c σ H fun b H1=>if b=true then ∃ N:St→Hp→Prop,(∀ σ' H',N σ' H'→∃ m',m' < m∧W m' σ' H')∧tb { D with nx:=N,ct:=N,bk:=D.nx } σ H1 else D.nx σ H1
theorem sV {c:Expr}{body:List Stmt}{tc:TT}{tb:TS}(hp:PassesOwn (model X.prog X.w) X.A X.env X.xe)(hc:PT X c tc)(hb:PSs X body tb):PS X (.While c body [] pos) (zY tc tb):=by
  intro pins s σ H D I h
  obtain ⟨W,⟨m0,w0⟩,turn⟩:=h
  refine wpAny_While (codeAny_whileLoop (fun n s'=>∃ σ' H',Inv X pins σ' H' s'∧W n σ' H') ?_ m0 ⟨σ,H,I,w0⟩)
  rintro n s1 ⟨σ1,H1,I1,w1⟩
  refine wpAny_passesOwn hp (thn (hc pins s1 σ1 H1 _ I1 (turn n σ1 H1 w1)) fun b s2 ⟨H2,I2,q2⟩=>?_)
  cases b with
  | true=>
    obtain ⟨N,hN,q2⟩:=q2
    rw[if_pos rfl]
    refine wpAny_passesOwn hp (thn (hb pins s2 σ1 H2 _ I2 q2) fun f s3 q3=>?_)
    cases f with
    | next=>
      obtain ⟨σ3,H3,I3,n3⟩:=q3
      obtain ⟨m',hm,w3⟩:=hN σ3 H3 n3
      exact ⟨m',hm,σ3,H3,I3,w3⟩
    | cont=>
      obtain ⟨σ3,H3,I3,n3⟩:=q3
      obtain ⟨m',hm,w3⟩:=hN σ3 H3 n3
      exact ⟨m',hm,σ3,H3,I3,w3⟩
    | brk=>exact q3
    | ret v=>exact q3
  | false=>
    rw[if_neg Bool.false_ne_true]
    exact wpAny_execs_nil ⟨σ1,H2,I2,q2⟩
end
structure It where
  go:Nat→Hp→Prop
  yld:Nat→Hp→V→Hp→Prop
  stop:Nat→Hp→Prop
def iW (X:Cx)(pins:List (Addr×Obj))(H:Hp)(b:Addr):Prop:=
  H b=none∧b≠X.env.locals∧b ∉ X.fs∧(b∈X.ex∨X.s₀.heap.objs.size≤b)∧(∀ x c,X.env.cells.lookup x=some c→c≠b)∧∀ p∈X.pn++pins,p.1≠b
theorem Inv.rH {X:Cx}{pins:List (Addr×Obj)}{σ:St}{H H':Hp}{s:Shared}{b:Addr}(I:Inv X pins σ H s)(hb:s.heap.objs.size≤b)(hn:H' b=none):iW X pins H' b:=by
  refine ⟨hn,Nat.ne_of_gt (Nat.lt_of_lt_of_le I.lt hb),I.BS hb,.inr (Nat.le_trans I.sz hb),fun x c e z=>?_,fun p hp z=>?_⟩
  · obtain ⟨v,q⟩:=I.cell x c e
    exact absurd (Nat.lt_of_lt_of_le q.lt (by rw[z];exact hb)) (Nat.lt_irrefl _)
  · exact absurd (Nat.lt_of_lt_of_le (Heap.lt_size (I.pin p hp).1) (by rw[z];exact hb)) (Nat.lt_irrefl _)
structure Turn (P:Program) (w:World) (K:PySem.W.Frag) (tg:Expr) (J:It) (fp:List Addr) (it:Addr) (tn:Nat→Heap→Prop):Prop where
  mem:it∈fp
  obj:∀ i h,tn i h→∀ b∈fp,∃ o,h.get? b=some o∧∀ v,o.data≠.cell v
  keep:∀ i h h',tn i h→(∀ b∈fp,∀ o,h.get? b=some o→h'.get? b=some o)→tn i h'
  item:∀ (X:Cx),X.prog=P→X.w=w→X.K=K→X.calm=true→∀ (i:Nat) (pins:List (Addr×Obj)) (s:Shared) (σ:St) (H:Hp) (E:Value→Shared→Prop),Inv X pins σ H s→(∀ b∈fp,iW X pins H b)→tn i s.heap→J.go i H→
    wpAny (model P w) X.A (pyNext (.ref it)) (fun r s1=>∃ u,r=some u∧
      wpAny (model P w) X.A (letOwnedTupleGo tg (.ref it) u) (fun _ s2=>∃ x H',Inv X pins σ H' s2∧RelV x u∧J.yld i H x H'∧tn (i+1) s2.heap∧∀ b∈fp,H' b=none) E s1) E s
  done:∀ (X:Cx),X.prog=P→X.w=w→X.K=K→X.calm=true→∀ (i:Nat) (pins:List (Addr×Obj)) (s:Shared) (σ:St) (H:Hp) (E:Value→Shared→Prop),Inv X pins σ H s→(∀ b∈fp,iW X pins H b)→tn i s.heap→J.stop i H→
    wpAny (model P w) X.A (pyNext (.ref it)) (fun r s1=>r=none∧Inv X pins σ H s1) E s
  self:∀ (A:Around) (i:Nat) (s:Shared) (Q:Value→Shared→Prop) (E:Value→Shared→Prop),tn i s.heap→Q (.ref it) s→wpAny (model P w) A (pyIter (.ref it)) Q E s
abbrev TI:=St→Hp→(It→Hp→Prop)→Prop
def PIE (X:Cx)(pins:List (Addr×Obj))(σ:St)(tg:Expr)(R:It→Hp→Prop)(itv:Value)(s2:Shared):Prop:=
  ∃ (it:Addr) (fp:List Addr) (tn:Nat→Heap→Prop) (J:It) (H':Hp),itv=.ref it∧Inv X pins σ H' s2∧Turn X.prog X.w X.K tg J fp it tn∧tn 0 s2.heap∧(∀ b∈fp,iW X pins H' b)∧R J H'
def PI (X:Cx)(tg iter:Expr)(wi:TI):Prop:=
  ∀ (pins:List (Addr×Obj)) (s:Shared) (σ:St) (H:Hp) (R:It→Hp→Prop),Inv X pins σ H s→wi σ H R→
    wpAny (model X.prog X.w) X.A (eval iter X.env) (fun v s1=>wpAny (model X.prog X.w) X.A (pyIter v) (PIE X pins σ tg R) X.xe s1) X.xe s
theorem tI {M:Model}{A:Around}{E:Value→Shared→Prop}{s:Shared}{tg:Expr}{it:Addr}{u:Value}{o:Obj}{n:String}{vs:Array Value}{Q:Unit→Shared→Prop}(ho:s.heap.get? it=some o)(hc:o.cls=.type n)(hd:o.data=.fields vs)
    (hn:["enumerate", "zip", "dict_itemiterator", "dict_reverseitemiterator", "odict_iterator", "itertools.zip_longest", "itertools.pairwise"].contains n=false) (hQ:Q () s):wpAny M A (letOwnedTupleGo tg (.ref it) u) Q E s:=by
  unfold letOwnedTupleGo
  cases tg<;>first
    | exact wpAny_pure hQ
    | (cases u<;>first
        | exact wpAny_pure hQ
        | (refine wpAny_bind (wpAny_load ho ?_)
           rw[hc,hd]
           show wpAny M A (if (["enumerate", "zip", "dict_itemiterator", "dict_reverseitemiterator", "odict_iterator", "itertools.zip_longest", "itertools.pairwise"].contains n&&vs[0]? == some (rawInt _))=true then _ else _) Q E s
           rw[if_neg (by intro h;rw[hn,Bool.false_and] at h;cases h)]
           exact wpAny_pure hQ))
def Itl (K:PySem.W.Frag)(a:Addr):It:=
  ⟨fun i H=>∃ xs x,SqL K H a xs∧xs[i]? = some x,fun i H x H'=>H'=H∧∀ xs,SqL K H a xs→xs[i]? = some x,fun i H=>∃ xs,SqL K H a xs∧xs.length≤i⟩
def Itt (K:PySem.W.Frag)(a:Addr):It:=
  ⟨fun i H=>∃ xs x,SqT K H a xs∧xs[i]? = some x,fun i H x H'=>H'=H∧∀ xs,SqT K H a xs→xs[i]? = some x,fun i H=>∃ xs,SqT K H a xs∧xs.length≤i⟩
def Itr (lo:Int)(n:Nat):It:=⟨fun i _=>i < n,fun i H x H'=>H'=H∧x=.int (lo+i),fun i _=>n≤i⟩
theorem jO {P:Program}{w:World}{K:PySem.W.Frag}{tg:Expr}(a it:Addr):Turn P w K tg (Itl K a) [it] it (fun i h=>h.IsListIter it a i) where
  mem:=by simp
  obj:=fun i h st b hb=>by
    have e:b=it:=by simpa using hb
    subst e
    obtain ⟨o,e,c,d⟩:=st
    exact ⟨o,e,fun v z=>by rw[d] at z;cases z⟩
  keep:=fun i h h' st k=>st.at fun o e=>k it (by simp) o e
  item:=by
    intro X hP hw hK hc i pins s σ H E I hf st hg
    subst hP hw hK
    obtain ⟨xs,x,hq,hx⟩:=hg
    obtain ⟨its,rv,p,hz⟩:=I.list hq
    obtain ⟨u,hu,ru⟩:=rv.get hx
    obtain ⟨f0,f1,f2,f3,f4,f5⟩:=hf it (by simp)
    refine wpAny_pyNext_list_item st p.isList (x:=u) (by simpa using hu) fun h' st' sb=>?_
    have I1:Inv X pins σ H { s with heap:=h' }:=I.turned (t':=s.toks) (fun b o hb e=>(sb.2 b hb).trans e) f0 f1 f3 f4 f5
    obtain ⟨o,e,c,d⟩:=id st'
    exact ⟨u,rfl,tI (s:={ s with heap:=h' }) e c d (by decide) ⟨x,H,I1,ru,⟨rfl,fun ys hy=>by rw[I.lW hy hq];exact hx⟩,st',fun b hb=>(hf b hb).1⟩⟩
  done:=by
    intro X hP hw hK hc i pins s σ H E I hf st hg
    subst hP hw hK
    obtain ⟨xs,hq,hx⟩:=hg
    obtain ⟨its,rv,p,hz⟩:=I.list hq
    obtain ⟨f0,f1,f2,f3,f4,f5⟩:=hf it (by simp)
    have hl:=rv.length
    exact wpAny_pyNext_list_end (I.ok.hd hc) st p.isList (by simp;omega) fun h' eb=>⟨rfl,I.turned (t':=s.toks) (fun b o hb e=>eb b o hb e) f0 f1 f3 f4 f5⟩
  self:=fun _ _ _ _ _ st h=>wpAny_pyIter_listiter st h
theorem nF {P:Program}{w:World}{K:PySem.W.Frag}{tg:Expr}(a it:Addr):Turn P w K tg (Itt K a) [it] it (fun i h=>h.IsTupleIter it a i) where
  mem:=by simp
  obj:=fun i h st b hb=>by
    have e:b=it:=by simpa using hb
    subst e
    obtain ⟨o,e,c,d⟩:=st
    exact ⟨o,e,fun v z=>by rw[d] at z;cases z⟩
  keep:=fun i h h' st k=>st.at fun o e=>k it (by simp) o e
  item:=by
    intro X hP hw hK hc i pins s σ H E I hf st hg
    subst hP hw hK
    obtain ⟨xs,x,hq,hx⟩:=hg
    obtain ⟨its,rv,p,hz⟩:=I.tuple hq
    obtain ⟨u,hu,ru⟩:=rv.get hx
    obtain ⟨f0,f1,f2,f3,f4,f5⟩:=hf it (by simp)
    refine wpAny_pyNext_tuple_item st (show s.heap.IsTuple a its.toArray from p) (x:=u) (by simpa using hu) fun h' st' sb=>?_
    have I1:Inv X pins σ H { s with heap:=h' }:=I.turned (t':=s.toks) (fun b o hb e=>(sb.2 b hb).trans e) f0 f1 f3 f4 f5
    obtain ⟨o,e,c,d⟩:=id st'
    exact ⟨u,rfl,tI (s:={ s with heap:=h' }) e c d (by decide) ⟨x,H,I1,ru,⟨rfl,fun ys hy=>by rw[I.jL hy hq];exact hx⟩,st',fun b hb=>(hf b hb).1⟩⟩
  done:=by
    intro X hP hw hK hc i pins s σ H E I hf st hg
    subst hP hw hK
    obtain ⟨xs,hq,hx⟩:=hg
    obtain ⟨its,rv,p,hz⟩:=I.tuple hq
    obtain ⟨f0,f1,f2,f3,f4,f5⟩:=hf it (by simp)
    have hl:=rv.length
    exact wpAny_pyNext_tuple_end (I.ok.hd hc) st (show s.heap.IsTuple a its.toArray from p) (by simp;omega) fun h' eb=>⟨rfl,I.turned (t':=s.toks) (fun b o hb e=>eb b o hb e) f0 f1 f3 f4 f5⟩
  self:=fun _ _ _ _ _ st h=>wpAny_pyIter_tupleiter st h
theorem nR {P:Program}{w:World}{K:PySem.W.Frag}{tg:Expr}(it:Addr)(lo:Int)(n:Nat):Turn P w K tg (Itr lo n) [it] it (fun i h=>IsRangeIter h it (lo+(i:Nat)*1) ((n:Int) - (i:Nat)) 1) where
  mem:=by simp
  obj:=fun i h st b hb=>by
    have e:b=it:=by simpa using hb
    subst e
    exact ⟨_,st,fun v z=>by
      have z':Data.fields _=Data.cell v:=z
      cases z'⟩
  keep:=fun i h h' st k=>k it (by simp) _ st
  item:=by
    intro X hP hw hK hc i pins s σ H E I hf st hg
    subst hP hw hK
    obtain ⟨f0,f1,f2,f3,f4,f5⟩:=hf it (by simp)
    have W:=Walks.range (prog:=X.prog) (w:=X.w) (I.ok.hd hc) it lo 1 n
    refine W.item i s _ _ hg st fun v h' tk hv st' kk=>?_
    obtain ⟨t,rfl⟩:=hv
    have I1:Inv X pins σ H { s with heap:=h',toks:=tk }:=I.turned (fun b o hb e=>kk b o (by simpa using hb) e) f0 f1 f3 f4 f5
    refine ⟨_,rfl,tI (s:={ s with heap:=h',toks:=tk }) (n := "range_iterator") st' rfl rfl (by decide) ⟨.int (lo+i),H,I1,⟨t,?_⟩,⟨rfl,rfl⟩,st',fun b hb=>(hf b hb).1⟩⟩
    rw[Int.mul_one]
  done:=by
    intro X hP hw hK hc i pins s σ H E I hf st hg
    subst hP hw hK
    obtain ⟨f0,f1,f2,f3,f4,f5⟩:=hf it (by simp)
    exact wpAny_pyNext_range_end (I.ok.hd hc) st (by have:n≤i:=hg;omega) fun h' eb=>⟨rfl,I.turned (t':=s.toks) (fun b o hb e=>eb b o hb e) f0 f1 f3 f4 f5⟩
  self:=fun _ _ _ _ _ st h=>wpAny_pyIter_rangeiter st h
end L2
namespace L2
open PySem PySem.Spec PyProof.Rows
section
variable {X:Cx} {tg:Expr}
def xJ (K:PySem.W.Frag)(tl:TE):TI:=fun σ H R=>tl σ H fun x H1=>∃ a,x=.ref a∧(∃ xs,SqL K H1 a xs)∧R (Itl K a) H1
theorem vo {l:Expr}{tl:TE}(hl:PE X l tl):PI X tg l (xJ X.K tl):=by
  intro pins s σ H R I h
  refine thn (hl pins s σ H _ I h) fun v s1 ⟨x,H1,I1,r1,q1⟩=>?_
  obtain ⟨a,e,⟨xs,hq⟩,q⟩:=q1
  subst e
  cases r1
  obtain ⟨its,rv,p,hz⟩:=I1.list hq
  refine wpAny_pyIter_list p.isList ?_
  refine ⟨s1.heap.objs.size,[s1.heap.objs.size],_,_,H1,rfl,I1.kept (t':=s1.toks) fun b o e=>Heap.get?_push_of_some _ e,jO a _,⟨_,Heap.get?_push_size _ rfl,rfl,rfl⟩,fun b hb=>?_,q⟩
  have e:b=s1.heap.objs.size:=by simpa using hb
  subst e
  exact I1.rH (Nat.le_refl _) (I1.hok.fresh (Nat.le_refl _))
theorem sm {pins:List (Addr×Obj)}{σ:St}{H:Hp}{s:Shared}{R:It→Hp→Prop}{E:Value→Shared→Prop}{lo hi:Int}{t u v:Tok}{tk:Nat}(I:Inv X pins σ H s)(h1:-(2 ^ 62)≤lo)(h2:lo < 2 ^ 62)(h3:-(2 ^ 62)≤hi)(h4:hi < 2 ^ 62)
    (q:R (Itr lo (hi - lo).toNat) H):wpAny (model X.prog X.w) X.A (pyIter (.ref s.heap.objs.size)) (PIE X pins σ tg R) E { s with heap:=s.heap.push { cls:=.type "range", data:=.fields #[.int lo t,.int hi u,.int 1 v] },toks:=tk }:=by
  refine wpAny_pyIter_range (IsRange.new ..) (small_one h1 h2 h3 h4) ?_
  have I1:Inv X pins σ H { s with heap:=s.heap.push { cls:=.type "range", data:=.fields #[.int lo t,.int hi u,.int 1 v] },toks:=tk }:=I.kept fun b o e=>Heap.get?_push_of_some _ e
  refine ⟨(s.heap.push { cls:=.type "range", data:=.fields #[.int lo t,.int hi u,.int 1 v] }).objs.size,[(s.heap.push { cls:=.type "range", data:=.fields #[.int lo t,.int hi u,.int 1 v] }).objs.size],_,_,H,rfl,
    I1.kept (t':=tk) fun b o e=>Heap.get?_push_of_some _ e,nR _ lo (hi - lo).toNat,?_,fun b hb=>?_,q⟩
  · have e1:lo+((0:Nat):Int)*1=lo:=by simp
    have e2:(((hi - lo).toNat:Nat):Int) - ((0:Nat):Int)=Builtin.Range.rangeSize lo hi 1:=by rw[rangeSize_one];split<;>omega
    show IsRangeIter _ _ (lo+((0:Nat):Int)*1) ((((hi - lo).toNat:Nat):Int) - ((0:Nat):Int)) 1
    rw[e1,e2]
    exact Heap.get?_push_size _ rfl
  · have e:b=(s.heap.push { cls:=.type "range", data:=.fields #[.int lo t,.int hi u,.int 1 v] }).objs.size:=by simpa using hb
    subst e
    exact I1.rH (Nat.le_refl _) (I1.hok.fresh (Nat.le_refl _))
def Bm (ta:TA):TI:=fun σ H R=>ta σ H fun vs H1=>∃ j:Int,vs=[.int j]∧-(2 ^ 62)≤j∧j < 2 ^ 62∧R (Itr 0 j.toNat) H1
theorem qt {a:Expr}{ta:TA}{p pos:Pos}(hg:Gl X "range")(hm:X.mg "range" = none)(ha:PA X [a] ta)(hs:starEach [a] X.env=[(false,eval a X.env)]:=by rfl):PI X tg (.Call (.Name "range" p) [a] [] pos) (Bm ta):=by
  intro pins s σ H R I h
  refine Call_ (iR I hg hm boot_range (PyProof.Rows.callWith_type1 (thn (ha pos pins s σ H _ I h) fun us s1 ⟨vs,H1,I1,r1,q1⟩=>?_) hs rfl))
  obtain ⟨j,e,q1,q2,q⟩:=q1
  subst e
  cases r1 with
  | cons r rr=>
    cases rr
    obtain ⟨t,rfl⟩:=r
    exact call_range_1 (sm I1 (by omega) (by omega) q1 q2 (by simpa using q))
def BL (wi:TI)(g:TG)(tb:TS):TS:=fun D σ H=>wi σ H fun J H1=>∃ W:Nat→Nat→St→Hp→Prop,(∃ m,W 0 m σ H1)∧∀ i m σ H,W i m σ H→
  (J.stop i H∧D.nx σ H)∨(J.go i H∧∃ N:St→Hp→Prop,(∀ σ' H',N σ' H'→∃ m',m' < m∧W (i+1) m' σ' H')∧∀ x H',J.yld i H x H'→g x σ H' fun σ2 H2=>tb { D with nx:=N,ct:=N,bk:=D.nx } σ2 H2)
def fJ (fp:List Addr)(h:Heap):List (Addr×Obj):=fp.filterMap fun b=>(h.get? b).map fun o=>(b,o)
theorem bT {fp:List Addr}{h:Heap}{b:Addr}{o:Obj}(hb:b∈fp)(e:h.get? b=some o):(b,o)∈fJ fp h:=List.mem_filterMap.mpr ⟨b,hb,by rw[e];rfl⟩
theorem qh {fp:List Addr}{h:Heap}{p:Addr×Obj}(hp:p∈fJ fp h):p.1∈fp∧h.get? p.1=some p.2:=by
  obtain ⟨b,hb,e⟩:=List.mem_filterMap.mp hp
  cases q:h.get? b with
  | none=>rw[q] at e;cases e
  | some o=>
    rw[q] at e
    have e':(b,o)=p:=Option.some.inj e
    subst e'
    exact ⟨hb,q⟩
theorem Inv.pinned {pins:List (Addr×Obj)}{σ:St}{H:Hp}{s:Shared}{fp:List Addr}(I:Inv X pins σ H s)(hf:∀ b∈fp,iW X pins H b)(ho:∀ b∈fp,∃ o,s.heap.get? b=some o∧∀ v,o.data≠.cell v):Inv X (pins++fJ fp s.heap) σ H s:=
  I.pO fun p hp=>(List.mem_append.mp hp).elim (fun z=>I.pin p (List.mem_append_right _ z)) fun z=>by
    obtain ⟨hb,e⟩:=qh z
    obtain ⟨f0,f1,f2,_⟩:=hf p.1 hb
    obtain ⟨o,e',d⟩:=ho p.1 hb
    rw[e] at e';cases e'
    exact ⟨e,f0,f1,f2,d⟩
theorem Inv.dg {pins pl:List (Addr×Obj)}{σ:St}{H:Hp}{s:Shared}(I:Inv X (pins++pl) σ H s):Inv X pins σ H s:=I.pO fun p hp=>I.pin p (List.mem_append_right _ (List.mem_append_left _ hp))
theorem ze {iter:Expr}{body:List Stmt}{wi:TI}{g:TG}{tb:TS}{pos:Pos}(hp:PassesOwn (model X.prog X.w) X.A X.env X.xe)(hc:X.calm=true)(hi:PI X tg iter wi)(hg:PG X tg g)(hb:PSs X body tb)
    (hs:∀ x,foldedSetIterable iter X.env x=pure x:=by intro _;rfl):PS X (.For tg iter body [] pos) (BL wi g tb):=by
  intro pins s σ H D I h
  refine wpAny_For (thn (hi pins s σ H _ I h) fun v s1 h1=>thn h1 fun itv s2 h2=>?_) hs
  obtain ⟨it,fp,tn,J,H2,e,I2,T,st2,f2,W,⟨m0,w0⟩,turn⟩:=h2
  subst e
  -- what stays true of the iterator's objects through the loop
  have iE:∀ {H':Hp},(∀ b∈fp,H' b=none)→∀ b∈fp,iW X pins H' b:=fun hn b hb=>⟨hn b hb,(f2 b hb).2⟩
  refine codeAny_forLoop_any (fun n s'=>∃ i σ' H',Inv X pins σ' H' s'∧tn i s'.heap∧(∀ b∈fp,H' b=none)∧W i n σ' H') ?_ m0 ⟨0,σ,H2,I2,st2,fun b hb=>(f2 b hb).1,w0⟩
  rintro n s3 ⟨i,σ3,H3,I3,st3,fr3,w3⟩
  rcases turn i n σ3 H3 w3 with ⟨stop,qn⟩ | ⟨go,N,hN,step⟩
  · refine wpAny_passesOwn hp (thn (T.done X rfl rfl rfl hc i pins s3 σ3 H3 X.xe I3 (iE fr3) st3 stop) fun r s4 ⟨hr,I4⟩=>?_)
    subst hr
    exact wpAny_execs_nil ⟨σ3,H3,I4,qn⟩
  · refine wpAny_passesOwn hp (thn (T.item X rfl rfl rfl hc i pins s3 σ3 H3 X.xe I3 (iE fr3) st3 go) fun r s4 ⟨u,hr,h4⟩=>?_)
    subst hr
    refine wpAny_passesOwn hp (thn h4 fun _ s5 ⟨x,H5,I5,r5,y5,st5,fr5⟩=>?_)
    have I5':=I5.pinned (iE fr5) (T.obj _ _ st5)
    refine wpAny_passesOwn hp (thn (hg _ s5 σ3 H5 x u _ I5' r5 (step x H5 y5)) fun _ s6 ⟨σ6,H6,I6,q6⟩=>?_)
    refine wpAny_passesOwn hp (thn (hb _ s6 σ6 H6 _ I6 q6) fun f s7 q7=>?_)
    have again:∀ {σ7:St} {H7:Hp},Inv X (pins++fJ fp s5.heap) σ7 H7 s7→N σ7 H7→∃ m,m < n∧∃ i σ' H',Inv X pins σ' H' s7∧tn i s7.heap∧(∀ b∈fp,H' b=none)∧W i m σ' H':=fun {σ7 H7} I7 n7=>by
      obtain ⟨m',hm,w7⟩:=hN σ7 H7 n7
      refine ⟨m',hm,i+1,σ7,H7,I7.dg,T.keep _ _ _ st5 fun b hb o e=>(I7.pin (b,o) (List.mem_append_right _ (List.mem_append_right _ (bT hb e)))).1,fun b hb=>?_,w7⟩
      obtain ⟨o,e,d⟩:=T.obj _ _ st5 b hb
      exact (I7.pin (b,o) (List.mem_append_right _ (List.mem_append_right _ (bT hb e)))).2.1
    cases f with
    | next=>obtain ⟨σ7,H7,I7,n7⟩:=q7;exact again I7 n7
    | cont=>obtain ⟨σ7,H7,I7,n7⟩:=q7;exact again I7 n7
    | brk=>obtain ⟨σ7,H7,I7,q7⟩:=q7;exact ⟨σ7,H7,I7.dg,q7⟩
    | ret v=>obtain ⟨x7,σ7,H7,I7,r7,q7⟩:=q7;exact ⟨x7,σ7,H7,I7.dg,r7,q7⟩
end
end L2
namespace L2
open PySem PySem.Spec PyProof.Rows
abbrev R2:=V→V→Hp→VK→Prop
def OpR (X:Cx)(f:Value→Value→Sem Value)(r:R2):Prop:=
  ∀ (pins:List (Addr×Obj)) (s:Shared) (σ:St) (H:Hp) (x y:V) (v u:Value) (Q:VK),Inv X pins σ H s→RelV x v→RelV y u→r x y H Q→
    wpAny (model X.prog X.w) X.A (f v u) (EP X pins σ Q) X.xe s
def bb (X:Cx)(f:Value)(r:List V→Hp→VK→Prop):Prop:=
  ∀ (pins:List (Addr×Obj)) (s:Shared) (σ:St) (H:Hp) (xs:List V) (us:List Value) (Q:VK),Inv X pins σ H s→Vals xs us→r xs H Q→
    wpAny (model X.prog X.w) X.A (call f us) (EP X pins σ Q) X.xe s
def tOp (r:R2)(ta tb:TE):TE:=fun σ H Q=>ta σ H fun x H1=>tb σ H1 fun y H2=>r x y H2 Q
def rI (C:Int→Int→Prop)(g:Int→Int→V):R2:=fun x y H Q=>∃ i j,x=.int i∧y=.int j∧C i j∧Q (g i j) H
def rI0 (g:Int→Int→V):R2:=fun x y H Q=>∃ i j,x=.int i∧y=.int j∧Q (g i j) H
section
variable {X:Cx} {a b c:Expr} {ta tb tc:TE} {pos:Pos}
theorem zx (ha:PE X a ta)(hb:PE X b tb){pins:List (Addr×Obj)}{s:Shared}{σ:St}{H:Hp}{R:V→V→Hp→Prop}(I:Inv X pins σ H s)
    (h:ta σ H fun x H1=>tb σ H1 fun y H2=>R x y H2) {Q:Value→Shared→Prop} {f:Value→Value→Sem Value}
    (hf:∀ v u s2 x y H2,Inv X pins σ H2 s2→RelV x v→RelV y u→R x y H2→wpAny (model X.prog X.w) X.A (f v u) Q X.xe s2) :
    wpAny (model X.prog X.w) X.A (eval a X.env) (fun v s₁=>wpAny (model X.prog X.w) X.A (eval b X.env) (fun u s₂=>wpAny (model X.prog X.w) X.A (f v u) Q X.xe s₂) X.xe s₁) X.xe s:=by
  refine thn (ha pins s σ H _ I h) fun v s1 ⟨x,H1,I1,r1,q1⟩=>?_
  refine thn (hb pins s1 σ H1 _ I1 q1) fun u s2 ⟨y,H2,I2,r2,q2⟩=>?_
  exact hf v u s2 x y H2 I2 r1 r2 q2
theorem xP {op:Operator}{r:R2}(ho:OpR X (binaryOp op) r)(ha:PE X a ta)(hb:PE X b tb):PE X (.BinOp a op b pos) (tOp r ta tb):=by
  intro pins s σ H Q I h
  exact wpAny_BinOp (zx ha hb I h fun v u s2 x y H2 I2 rx ry q=>ho pins s2 σ H2 x y v u Q I2 rx ry q)
theorem opI {f:Value→Value→Sem Value}{C:Int→Int→Prop}{g:Int→Int→Int}
    (rule:∀ (i j:Int) (t u:Tok) (s:Shared) (Q:Value→Shared→Prop) (E:Value→Shared→Prop),C i j→Q (.int (g i j) s.toks) { s with toks:=s.toks+1 }→wpAny (model X.prog X.w) X.A (f (.int i t) (.int j u)) Q E s) :
    OpR X f (rI C fun i j=>.int (g i j)):=by
  intro pins s σ H x y v u Q I rx ry h
  obtain ⟨i,j,rfl,rfl,hc,q⟩:=h
  obtain ⟨t,rfl⟩:=rx
  obtain ⟨t',rfl⟩:=ry
  exact rule i j t t' s _ _ hc ⟨.int (g i j),H,I.tok _,⟨_,rfl⟩,q⟩
theorem AD {f:Value→Value→Sem Value}{g:Int→Int→Int}
    (rule:∀ (i j:Int) (t u:Tok) (s:Shared) (Q:Value→Shared→Prop) (E:Value→Shared→Prop),Q (.int (g i j) s.toks) { s with toks:=s.toks+1 }→wpAny (model X.prog X.w) X.A (f (.int i t) (.int j u)) Q E s) :
    OpR X f (rI0 fun i j=>.int (g i j)):=by
  intro pins s σ H x y v u Q I rx ry h
  obtain ⟨i,j,rfl,rfl,q⟩:=h
  obtain ⟨t,rfl⟩:=rx
  obtain ⟨t',rfl⟩:=ry
  exact rule i j t t' s _ _ ⟨.int (g i j),H,I.tok _,⟨_,rfl⟩,q⟩
theorem zJ {f:Value→Value→Sem Value}{g:Int→Int→Bool}
    (rule:∀ (i j:Int) (t u:Tok) (s:Shared) (Q:Value→Shared→Prop) (E:Value→Shared→Prop),Q (.bool (g i j)) s→wpAny (model X.prog X.w) X.A (f (.int i t) (.int j u)) Q E s) :
    OpR X f (rI0 fun i j=>.bl (g i j)):=by
  intro pins s σ H x y v u Q I rx ry h
  obtain ⟨i,j,rfl,rfl,q⟩:=h
  obtain ⟨t,rfl⟩:=rx
  obtain ⟨t',rfl⟩:=ry
  exact rule i j t t' s _ _ ⟨.bl (g i j),H,I,rfl,q⟩
def B9 (i j:Int):Prop:=0≤j∧j≤1000000∧i.natAbs < 2 ^ 64
def A6 (i j:Int):Prop:=(-(2 ^ 64) < i∧i < 2 ^ 64)∨(-(2 ^ 64) < j∧j < 2 ^ 64)
theorem A6.ok {i j:Int}(h:A6 i j):IntMulOk i j:=by
  rcases h with ⟨h1,h2⟩ | ⟨h1,h2⟩
  · exact .of_left (intBits_le_64 h1 h2)
  · exact .of_right (intBits_le_64 h1 h2)
theorem zV:OpR X (binaryOp .Add) (rI0 fun i j=>.int (i+j)):=AD fun _ _ _ _ _ _ _ q=>add_int q
theorem yF:OpR X (binaryOp .Sub) (rI0 fun i j=>.int (i - j)):=AD fun _ _ _ _ _ _ _ q=>sub_int q
theorem wL:OpR X (binaryOp .Mod) (rI (fun _ j=>j≠0) fun i j=>.int (i.fmod j)):=opI fun _ _ _ _ _ _ _ hc q=>mod_int' hc q
theorem yG:OpR X (binaryOp .Pow) (rI B9 fun i j=>.int (i ^ j.toNat)):=opI fun _ _ _ _ _ _ _ hc q=>pow_int_small hc.1 hc.2.1 hc.2.2 q
end
def Ar:V→V→Bool
  | .non,.non=>true | .non,.int _=>true | .int _,.non=>true | .non,.bl _=>true | .bl _,.non=>true | .non,.str _=>true | .str _,.non=>true
  | .int _,.int _=>true | .bl _,.bl _=>true | .str _,.str _=>true | .byt _,.byt _=>true
  | .int _,.str _=>true | .str _,.int _=>true | .bl _,.str _=>true | .str _,.bl _=>true
  | _,_=>false
def rEq:R2:=fun x y H Q=>Ar x y=true∧Q (.bl (decide (x=y))) H
def rNe:R2:=fun x y H Q=>Ar x y=true∧Q (.bl (!decide (x=y))) H
section
variable {X:Cx} {a b c:Expr} {ta tb tc:TE} {pos:Pos}
theorem z3 {pins:List (Addr×Obj)}{σ:St}{H:Hp}{s:Shared}{Q:VK}{k k':Bool}(I:Inv X pins σ H s)(q:Q (.bl k) H)(e:k=k'):EP X pins σ Q (.bool k') s:=by
  subst e
  exact ⟨.bl k,H,I,rfl,q⟩
theorem xR:OpR X (compareOp .Lt) (rI0 fun i j=>.bl (decide (i < j))):=zJ fun _ _ _ _ _ _ _ q=>lt_int q
theorem AM:OpR X (compareOp .Gt) (rI0 fun i j=>.bl (decide (j < i))):=zJ fun _ _ _ _ _ _ _ q=>gt_int q
theorem AE:OpR X (compareOp .GtE) (rI0 fun i j=>.bl (decide (j≤i))):=zJ fun _ _ _ _ _ _ _ q=>ge_int q
theorem yC:OpR X (compareOp .Is) (fun x y H Q=>y=.non∧Q (.bl (decide (x=.non))) H):=by
  intro pins s σ H x y v u Q I rx ry h
  obtain ⟨rfl,q⟩:=h
  cases ry
  refine is_none_gen (z3 I q ?_)
  cases x<;>first
    | (cases rx;rfl)
    | (obtain ⟨t,rfl⟩:=rx;rfl)
theorem OpR.or {f:Value→Value→Sem Value}{r r':R2}(h:OpR X f r)(h':OpR X f r'):OpR X f (fun x y H Q=>r x y H Q∨r' x y H Q):=by
  intro pins s σ H x y v u Q I rx ry q
  rcases q with q | q
  · exact h pins s σ H x y v u Q I rx ry q
  · exact h' pins s σ H x y v u Q I rx ry q
theorem dB (b:Expr){op:CmpOp}(h:op≠.In:=by decide)(h2:op≠.NotIn:=by decide):behindInMarks op b=false:=by
  have e1:(op == CmpOp.In)=false:=by cases op<;>first | rfl | exact absurd rfl h
  have e2:(op == CmpOp.NotIn)=false:=by cases op<;>first | rfl | exact absurd rfl h2
  cases b<;>simp[behindInMarks,e1,e2]
theorem wX {op:CmpOp}{r:R2}(ho:OpR X (compareOp op) r)(ha:PE X a ta)(hb:PE X b tb)(hm:behindInMarks op b=false):PE X (.Compare a [op] [b] pos) (tOp r ta tb):=by
  intro pins s σ H Q I h
  exact wpAny_Compare1 (zx ha hb I h fun v u s2 x y H2 I2 rx ry q=>ho pins s2 σ H2 x y v u Q I2 rx ry q) hm
def xM (t:TE):TT:=fun σ H Q=>t σ H fun x H'=>∃ k,x=.bl k∧Q k H'
theorem xh {op:CmpOp}{r:R2}(ho:OpR X (compareOp op) r)(ha:PE X a ta)(hb:PE X b tb)(hm:behindInMarks op b=false):PT X (.Compare a [op] [b] pos) (xM (tOp r ta tb)):=by
  intro pins s σ H Q I h
  refine wpAny_isTrue_Compare1 (thn (ha pins s σ H _ I h) fun v s1 ⟨x,H1,I1,r1,q1⟩=>thn (hb pins s1 σ H1 _ I1 q1) fun u s2 ⟨y,H2,I2,r2,q2⟩=>
    thn (ho pins s2 σ H2 x y v u _ I2 r1 r2 q2) fun c s3 ⟨z,H3,I3,r3,k,e,q3⟩=>?_) hm
  subst e
  cases r3
  exact wpAny_truthy_bool ⟨H3,I3,q3⟩
theorem iD:(sizeLine:Nat) < 2 ^ 63:=by rw[sizeLine_eq];decide
theorem n8:OpR X (binaryOp .Add) (fun x y H Q=>∃ i j,x=.str i∧y=.str j∧i.length+j.length≤sizeLine∧Q (.str (i++j)) H):=by
  intro pins s σ H x y v u Q I rx ry h
  obtain ⟨i,j,rfl,rfl,hz,q⟩:=h
  obtain ⟨t,rfl⟩:=rx
  obtain ⟨t',rfl⟩:=ry
  exact add_str (fun t' tk=>⟨.str (i++j),H,I.tok _,⟨_,rfl⟩,q⟩) hz
theorem vals1 {x:V}{us:List Value}(r:Vals [x] us):∃ u,us=[u]∧RelV x u:=by
  cases r with
  | cons r1 r2=>cases r2;exact ⟨_,rfl,r1⟩
theorem vals2 {x y:V}{us:List Value}(r:Vals [x,y] us):∃ u w',us=[u,w']∧RelV x u∧RelV y w':=by
  cases r with
  | cons r1 r2=>
    cases r2 with
    | cons r3 r4=>cases r4;exact ⟨_,_,rfl,r1,r3⟩
theorem uN:bb X (.builtin "abs") (fun xs H Q=>∃ i,xs=[.int i]∧Q (.int (if i < 0 then -i else i)) H):=by
  intro pins s σ H xs us Q I r h
  obtain ⟨i,rfl,q⟩:=h
  obtain ⟨u,rfl,t,rfl⟩:=vals1 r
  exact call_abs_int fun u tk=>⟨.int (if i < 0 then -i else i),H,I.tok _,⟨_,rfl⟩,q⟩
theorem j2 (hc:X.calm=true):bb X (.builtin "max") (fun xs H Q=>∃ i j,xs=[.int i,.int j]∧Q (.int (if j > i then j else i)) H):=by
  intro pins s σ H xs us Q I r h
  obtain ⟨i,j,rfl,q⟩:=h
  obtain ⟨u,w',rfl,⟨t,rfl⟩,⟨t',rfl⟩⟩:=vals2 r
  refine max_two_ints (I.ok.hd hc) fun h' tk k=>⟨_,H,I.kept k,?_,q⟩
  by_cases hj:j > i
  · rw[if_pos hj,if_pos hj];exact ⟨_,rfl⟩
  · rw[if_neg hj,if_neg hj];exact ⟨_,rfl⟩
theorem j7 (hc:X.calm=true):bb X (.builtin "min") (fun xs H Q=>∃ i j,xs=[.int i,.int j]∧Q (.int (if j < i then j else i)) H):=by
  intro pins s σ H xs us Q I r h
  obtain ⟨i,j,rfl,q⟩:=h
  obtain ⟨u,w',rfl,⟨t,rfl⟩,⟨t',rfl⟩⟩:=vals2 r
  refine min_two_ints (I.ok.hd hc) fun h' tk k=>⟨_,H,I.kept k,?_,q⟩
  by_cases hj:j < i
  · rw[if_pos hj,if_pos hj];exact ⟨_,rfl⟩
  · rw[if_neg hj,if_neg hj];exact ⟨_,rfl⟩
theorem fO:bb X (.type "int") (fun xs H Q=>(∃ i,xs=[.int i]∧Q (.int i) H)∨∃ k,xs=[.bl k]∧Q (.int (if k then 1 else 0)) H):=by
  intro pins s σ H xs us Q I r h
  rcases h with ⟨i,rfl,q⟩ | ⟨k,rfl,q⟩
  · obtain ⟨u,rfl,t,rfl⟩:=vals1 r
    exact call_int_int ⟨.int i,H,I,⟨_,rfl⟩,q⟩
  · obtain ⟨u,rfl,r1⟩:=vals1 r
    cases r1
    exact call_int_bool ⟨.int (if k then 1 else 0),H,I.tok _,⟨_,rfl⟩,q⟩
end
end L2
namespace L2
open PySem PySem.Spec PyProof.Rows
structure AN (h:Heap) (x dx C:Addr) (mA:Str→Option Value):Prop where
  obj:h.get? x=some (PySem.W.instObj C dx)
  ns:h.Ns1 dx mA
  ne:dx≠x
theorem qJ {h:Heap}{dx:Addr}{mA:Str→Option Value}(n:h.Ns1 dx mA):∃ od,h.get? dx=some od∧∀ name,PySem.W.lookIn name od=some (mA name):=by
  obtain ⟨o,es,ep,ho,hd,hk,_,hm⟩:=n
  refine ⟨o,ho,fun name=>?_⟩
  have e:=hm name
  unfold nsFind findBy at e
  rw[← Array.find?_toList] at e
  unfold PySem.W.lookIn
  rw[hd]
  dsimp only
  split
  · rename_i y q
    rw[q] at e
    exact congrArg some e
  · rename_i q
    rw[q] at e
    have a:es.toList.any (·.refKey)=false:=by
      rw[List.any_eq_false]
      intro y hy
      obtain ⟨z,t,hkey⟩:=hk y (Array.mem_toList_iff.mp hy)
      simp[DictEntry.refKey,hkey]
    have a':¬ es.toList.any (·.refKey)=true:=by rw[a];exact Bool.false_ne_true
    rw[if_neg a']
    exact congrArg some e
theorem AN.look {h:Heap}{x dx C:Addr}{mA:Str→Option Value}(I:AN h x dx C mA):∃ od,PySem.W.InstAt h x (PySem.W.instObj C dx) C (some od)∧∀ name,PySem.W.lookIn name od=some (mA name):=
  let ⟨od,ho,hl⟩:=qJ I.ns
  ⟨od,⟨I.obj,rfl,rfl,ho⟩,hl⟩
section
variable {prog:Program} {w:World} {A:Around} {E:Value→Shared→Prop} {s:Shared} {K:PySem.W.Frag} {x dx C f:Addr} {mA:Str→Option Value} {name:Str} {v:Value}
end
theorem gs.some_of {v:V}{o:Option Value}(r:gs (some v) o):∃ u,o=some u∧RelV v u:=by
  cases o with
  | none=>exact (show False from r).elim
  | some u=>exact ⟨u,rfl,r⟩
section
variable {P:Program} {w:World} {H H':Hp} {h h':Heap} {a C dx:Addr} {fs fs':List (Str×V)}
end
structure Cls (K:PySem.W.Frag) (C:Addr):Prop where
  pg:PySem.W.plainGet K C Str.empty=true
  hd:PySem.W.hasDictIn K C=true
  po:PySem.W.plainOver K C=true
  sa:PySem.W.findIn K (.ref C) "__setattr__" = some (some (.builtin "object.__setattr__"))
theorem Cls.get {K:PySem.W.Frag}{C:Addr}(c:Cls K C)(f:Str):PySem.W.plainGet K C f=true:=c.pg
section
variable {X:Cx} {pins:List (Addr×Obj)} {σ:St} {H:Hp} {s:Shared} {a C dx:Addr} {fs:List (Str×V)} {f:Str} {v:V} {A:Around} {E:Value→Shared→Prop}
end
def xW (X:Cx)(op:Operator)(rd:V→V→Hp→VK→Prop):Prop:=
  ∀ (pins:List (Addr×Obj)) (s:Shared) (σ:St) (H:Hp) (x y:V) (u v:Value) (Q:VK),Inv X pins σ H s→RelV x u→RelV y v→rd x y H Q→wpAny (model X.prog X.w) X.A (inplaceOp op u v) (EP X pins σ Q) X.xe s
section
variable {X:Cx} {o e value:Expr} {f:Str} {pos pos' tpos:Pos} {ta tv:TE}
def Bn:V→V→Hp→VK→Prop:=fun x y H Q=>∃ i j,x=.int i∧y=.int j∧Q (.int (i+j)) H
def mO:V→V→Hp→VK→Prop:=fun x y H Q=>∃ i j,x=.int i∧y=.int j∧Q (.int (i - j)) H
theorem yB:xW X .Add Bn:=by
  rintro pins s σ H x y u v Q I rx ry ⟨i,j,rfl,rfl,q⟩
  obtain ⟨t,rfl⟩:=(show ∃ t,u=Value.int i t from rx)
  obtain ⟨t',rfl⟩:=(show ∃ t',v=Value.int j t' from ry)
  exact PyProof.Rows.iadd_int ⟨.int (i+j),H,I.tok _,⟨_,rfl⟩,q⟩
theorem zS:xW X .Sub mO:=by
  rintro pins s σ H x y u v Q I rx ry ⟨i,j,rfl,rfl,q⟩
  obtain ⟨t,rfl⟩:=(show ∃ t,u=Value.int i t from rx)
  obtain ⟨t',rfl⟩:=(show ∃ t',v=Value.int j t' from ry)
  exact PyProof.Rows.isub_int ⟨.int (i - j),H,I.tok _,⟨_,rfl⟩,q⟩
end
section
variable {X:Cx} {pins:List (Addr×Obj)} {σ:St} {H:Hp} {s:Shared} {A:Around} {E:Value→Shared→Prop} {Q:Value→Shared→Prop} {c:Value} {b:Bool}
end
end L2
namespace L2
open PySem PySem.Spec PyProof.Rows
structure cz (k:Nat) (A:Around):Prop where
  hd:A.handled=none
  dp:A.depth+3*k+5 < recursionLimit
  un:A.units+16*k+200 < cLine
theorem cz.mono {j k:Nat}{A:Around}(r:cz k A)(h:j≤k):cz j A:=⟨r.hd,by have:=r.dp;omega,by have:=r.un;omega⟩
theorem cz.deeper {k:Nat}{A:Around}(r:cz (k+1) A)(env:Env):cz k (A.deeper env):=
  ⟨r.hd,by have:=r.dp;show A.depth+1+3*k+5 < _;omega,by have:=r.un;show A.units+3+16*k+200 < _;omega⟩
theorem cz.in1 {k:Nat}{A:Around}(r:cz (k+1) A):cz k A.in1:=
  ⟨r.hd,by have:=r.dp;show A.depth+3*k+5 < _;omega,by have:=r.un;show A.units+1+16*k+200 < _;omega⟩
theorem cz.depth {k:Nat}{A:Around}(r:cz k A):A.depth < recursionLimit:=by have:=r.dp;omega
theorem cz.units {k:Nat}{A:Around}(r:cz k A):A.units+64 < cLine:=by have:=r.un;omega
def Cn:TA:=fun _ H Q=>Q [] H
def A9 (ta:TE)(tr:TA):TA:=fun σ H Q=>ta σ H fun x H1=>tr σ H1 fun xs H2=>Q (x::xs) H2
section
variable {X:Cx} {e:Expr} {es:List Expr} {te:TE} {t:TA} {pos:Pos}
theorem iT:PA X [] Cn:=fun _ _ _ _ H Q I h=>Calls.spliced_nil ⟨[],H,I,.nil,h⟩
theorem fh (ha:PE X e te)(hr:PA X es t)(hs:starEach (e::es) X.env=(false,eval e X.env)::starEach es X.env:=by rfl):PA X (e::es) (A9 te t):=by
  intro pos pins s σ H Q I h
  rw[hs]
  show wpAny _ _ (spliced ((false,eval e X.env)::backTo pos (starEach es X.env))) _ _ s
  refine Calls.spliced_cons (thn (ha pins s σ H _ I h) fun u s1 ⟨x,H1,I1,r1,q1⟩=>?_)
  exact thn (hr pos pins s1 σ H1 _ I1 q1) fun us s2 ⟨xs,H2,I2,r2,q2⟩=>⟨x::xs,H2,I2,.cons r1 r2,q2⟩
def Cp (t:TA):TE:=fun σ H Q=>t σ H fun xs H1=>xs.length≤sizeLine∧∀ p,H1 p=none→Q (.ref p) (upd H1 p (.tup xs))
def B5 (t:TA):TE:=fun σ H Q=>t σ H fun xs H1=>xs.length≤sizeLine∧∀ p,H1 p=none→Q (.ref p) (upd H1 p (.lst xs))
theorem zW {x1}(h:PA X es t):PE X (.Tuple es x1 pos) (Cp t):=by
  intro pins s σ H Q I hq
  refine wpAny_Tuple_spliced (thn (h pos pins s σ H _ I hq) fun us s1 ⟨xs,H1,I1,r,z,q⟩=>⟨by rw[← r.length];exact z,?_⟩)
  have hf:H1 s1.heap.objs.size=none:=I1.hok.fresh (Nat.le_refl _)
  refine ⟨.ref s1.heap.objs.size,upd H1 s1.heap.objs.size (.tup xs),I1.laid (t':=s1.toks) (fun b u e=>Heap.get?_push_of_some _ e) (Nat.le_refl _) ?_,rfl,q _ hf⟩
  exact ⟨z,us,r,⟨_,Heap.get?_push_size _ rfl⟩⟩
theorem u4 (h:PA X es t):PE X (.List es pos) (B5 t):=by
  intro pins s σ H Q I hq
  refine wpAny_List_spliced (thn (h pos pins s σ H _ I hq) fun us s1 ⟨xs,H1,I1,r,z,q⟩=>⟨by rw[← r.length];exact z,?_⟩)
  have hf:H1 s1.heap.objs.size=none:=I1.hok.fresh (Nat.le_refl _)
  refine ⟨.ref s1.heap.objs.size,upd H1 s1.heap.objs.size (.lst xs),I1.laid (t':=s1.toks) (fun b u e=>Heap.get?_push_of_some _ e) (Nat.le_refl _) ?_,rfl,q _ hf⟩
  exact ⟨z,us,0,r,Heap.get?_push_size _ rfl⟩
end
abbrev Sp:=List V→Hp→VK→XK→Prop
abbrev CXT:=List Env→Hp→Shared→XK→Value→Shared→Prop
structure oD (P:Program) (w:World) (K:PySem.W.Frag) (mg:Str→Option Value) (base:Heap) (A:Around) (outer:List Env) (s:Shared) (H:Hp):Prop where
  frames:A.frames=some outer
  mod:Mod K mg base
  bs:∀ b o,base.get? b=some o→s.heap.get? b=some o∧H b=none
  bsz:base.objs.size≤s.heap.objs.size
  gB:s.heap.FunFrames base outer
  frf:∀ b∈frs outer,H b=none
  hok:HOk P w H s.heap
  bare:AllBare s.gens
def CE (outer:List Env)(P:Program)(w:World)(H:Hp)(s:Shared)(Q:VK)(u:Value)(s':Shared):Prop:=
  ∃ v H',s'.os=s.os∧AllBare s'.gens∧Un (frs outer) [] H H' s.heap s'.heap∧HOk P w H' s'.heap∧RelV v u∧Q v H'
def CR (CX:CXT)(outer:List Env)(P:Program)(w:World)(H:Hp)(s:Shared)(Q:VK)(E:XK)(r:Result)(s':Shared):Prop:=
  match r with
  | .ok (.ret u)=>CE outer P w H s Q u s'
  | .ok _=>False
  | .error e=>CX outer H s E e s'
structure dQ (P:Program) (w:World) (K:PySem.W.Frag) (mg:Str→Option Value) (base:Heap) (CX:CXT) (k:Nat) (f:Addr) (fd:FuncData) (ps:List Str) (sp:Sp):Prop where
  len:∀ vs H Q E,sp vs H Q E→vs.length=ps.length
  run:∀ (A:Around) (outer:List Env) (s:Shared) (H:Hp) (args:Args) (us:List Value) (vs:List V) (Q:VK) (E:XK),cz k A→oD P w K mg base A outer s H→BindsTo s fd args (ps.zip us)→Vals vs us→sp vs H Q E→
    codeAny (model P w) A (.call (.ref f) args) (CR CX outer P w H s Q E) s
theorem dQ.mono {P:Program}{w:World}{K:PySem.W.Frag}{mg:Str→Option Value}{base:Heap}{CX:CXT}{j k:Nat}{f:Addr}{fd:FuncData}{ps:List Str}{sp:Sp}(F:dQ P w K mg base CX j f fd ps sp)(h:j≤k) :
    dQ P w K mg base CX k f fd ps sp:=⟨F.len,fun A outer s H args us vs Q E hr=>F.run A outer s H args us vs Q E (hr.mono h)⟩
theorem dQ.imp {P:Program}{w:World}{K:PySem.W.Frag}{mg:Str→Option Value}{base:Heap}{CX:CXT}{k:Nat}{f:Addr}{fd:FuncData}{ps:List Str}{sp sp':Sp}(F:dQ P w K mg base CX k f fd ps sp)
    (h:∀ vs H Q E,sp' vs H Q E→sp vs H Q E):dQ P w K mg base CX k f fd ps sp':=
  ⟨fun vs H Q E q=>F.len vs H Q E (h _ _ _ _ q),fun A outer s H args us vs Q E hr he hb hv hs=>F.run A outer s H args us vs Q E hr he hb hv (h _ _ _ _ hs)⟩
theorem oD.in1 {P:Program}{w:World}{K:PySem.W.Frag}{mg:Str→Option Value}{base:Heap}{A:Around}{outer:List Env}{s:Shared}{H:Hp}(e:oD P w K mg base A outer s H) :
    oD P w K mg base A.in1 outer s H:=⟨e.frames,e.mod,e.bs,e.bsz,e.gB,e.frf,e.hok,e.bare⟩
section
variable {X:Cx} {pins:List (Addr×Obj)} {σ:St} {H:Hp} {s s':Shared}
theorem Inv.BK (I:Inv X pins σ H s):oD X.prog X.w X.K X.mg X.base X.A X.stack s H:=
  ⟨I.ok.frames,I.ok.mod,I.bs,Nat.le_trans I.ok.bsz I.sz,I.stack,I.kJ,I.hok,I.bare⟩
theorem Inv.after {Q:VK}{u:Value}(I:Inv X pins σ H s)(h:CE X.stack X.prog X.w H s Q u s'):EP X pins σ Q u s':=by
  obtain ⟨v,H',os,bare,un,hok,r,q⟩:=h
  obtain ⟨hh,g,d,t,os'⟩:=s'
  obtain rfl:os'=s.os:=os
  exact ⟨v,H',I.call (h':=hh) (g':=g) (d':=d) (t':=t) (ch:=[]) un hok bare (fun b z=>absurd z (by simp)),r,q⟩
end
def Bx (sp:Sp)(dvs:List V)(E:XK)(t:TA):TE:=fun σ H Q=>t σ H fun vs H1=>sp (vs++dvs) H1 Q E
def Binds (K:PySem.W.Frag)(fd:FuncData)(ps:List Str)(ds:List Value):Prop:=
  ∀ (s:Shared) (us:List Value),K.In s.heap→(us++ds).length=ps.length→BindsTo s fd ⟨us,[]⟩ (ps.zip (us++ds))
theorem Binds.all {K:PySem.W.Frag}{fd:FuncData}{ps:List Str}(h:∀ us:List Value,us.length=ps.length→bindArgs fd ⟨us,[]⟩=pure (ps.zip us)):Binds K fd ps []:=fun s us _ hl=>by
  rw[List.append_nil] at hl ⊢
  exact .of_eq (h us hl)
def Passes (CX:CXT)(X:Cx)(E:XK):Prop:=∀ (pins:List (Addr×Obj)) (σ:St) (H:Hp) (s:Shared) (e:Value) (s':Shared),Inv X pins σ H s→CX X.stack H s E e s'→X.xe e s'
section
variable {X:Cx} {CX:CXT} {k:Nat} {f C:Addr} {fd:FuncData} {ps:List Str} {sp:Sp} {dvs:List V} {ds:List Value} {E:XK} {x m:Str} {p pos apos:Pos} {e o:Expr} {es:List Expr} {ta:TE} {t:TA}
theorem y9 {pins:List (Addr×Obj)}{σ:St}{H:Hp}{s:Shared}{Q:VK}{us:List Value}{vs:List V}(F:dQ X.prog X.w X.K X.mg X.base CX k f fd ps sp)(hr:cz k X.A)(hb:Binds X.K fd ps ds)(hd:Vals dvs ds)(hx:Passes CX X E)
    (I:Inv X pins σ H s) (r:Vals vs us) (h:sp (vs++dvs) H Q E):wpAny (model X.prog X.w) X.A (call (.ref f) us) (EP X pins σ Q) X.xe s:=by
  have r2:Vals (vs++dvs) (us++ds):=r.append hd
  have hl:(us++ds).length=ps.length:=by rw[← r2.length];exact F.len _ _ _ _ h
  refine wpAny_call (codeAny_mono (F.run X.A X.stack s H ⟨us,[]⟩ (us++ds) (vs++dvs) Q E hr I.BK (hb s us I.kIn hl) r2 h) fun r s' hq=>?_)
  cases r with
  | error e=>exact hx pins σ H s e s' I hq
  | ok fl=>
    cases fl with
    | ret u=>exact I.after hq
    | next=>exact False.elim hq
    | brk=>exact False.elim hq
    | cont=>exact False.elim hq
theorem vN (F:dQ X.prog X.w X.K X.mg X.base CX k f fd ps sp)(hr:cz k X.A)(hg:Gl X x)(hm:X.mg x=some (.ref f))(hk:PySem.W.keepIn X.K (.ref f)=true)(hb:Binds X.K fd ps ds)(hd:Vals dvs ds)(hx:Passes CX X E)
    (ha:PA X (e::es) t) (hdb:(x == ("__debug__" : Str))=false:=by decide) (he:starEach (e::es) X.env=(false,eval e X.env)::starEach es X.env:=by rfl) (hpl:(backTo pos (starEach es X.env)).any (·.1)=false:=by rfl) :
    PE X (.Call (.Name x p) (e::es) [] pos) (Bx sp dvs E t):=by
  intro pins s σ H Q I h
  refine wpAny_Call_Name_kw (pA I hg hm ?_ hdb)
  refine PySem.W.callWith_K (h₀:=X.base) I.ok.mod.kin hk (thn (ha pos pins s σ H _ I h) fun us s1 ⟨vs,H1,I1,r,q⟩=>⟨I1.kIn,?_⟩) he hpl
  exact y9 F hr hb hd hx I1 r q
end
section
variable {X:Cx} {CX:CXT} {k:Nat} {f C:Addr} {fd:FuncData} {ps ks:List Str} {sp:Sp} {E:XK} {x m:Str} {p pos apos kpos:Pos} {e o:Expr} {es:List Expr} {kws:List Keyword} {te ta:TE} {t tk:TA} {nm:Option Str}
variable {g:List Value→List Value→List Value} {gV:List V→List V→List V}
end
structure a6 (N P:List Str) (sc:Scope):Prop where
  kind:sc.kind=.function
  co:sc.isCoroutine=false
  gen:sc.isGenerator=false
  nd:N.Nodup
  pre:N.take P.length=P
  par:∀ x∈P,sc.names.lookup x=some .local∨sc.names.lookup x=some .cell
  z4:∀ y∈sc.names,y.2≠.free
theorem jU {kindOf:Str→Option NameKind}{x:Str}:∀ {binds:List (Str×Value)} {m:Str→Option Value},(∀ v,(x,v) ∉ binds)→bindL kindOf binds m x=m x
  | [],_,_=>rfl
  | (n,v)::r,m,h=>by
    unfold bindL
    rw[jU fun w hw=>h w (List.mem_cons_of_mem _ hw)]
    split
    · have:x≠n:=by rintro rfl;exact h v List.mem_cons_self
      simp[this]
    · rfl
theorem jG {kindOf:Str→Option NameKind}{x:Str}:∀ {binds:List (Str×Value)} {m:Str→Option Value},(∀ v,(x,v) ∉ binds)→bindC kindOf binds m x=m x
  | [],_,_=>rfl
  | (n,v)::r,m,h=>by
    unfold bindC
    rw[jG fun w hw=>h w (List.mem_cons_of_mem _ hw)]
    split
    · rfl
    · have:x≠n:=by rintro rfl;exact h v List.mem_cons_self
      simp[this]
theorem j4 {kindOf:Str→Option NameKind}{x:Str}{v:Value}:∀ {P:List Str} {vs:List Value} {i:Nat} {m:Str→Option Value},P.Nodup→P[i]? = some x→vs[i]? = some v→kindOf x=some .local→
    bindL kindOf (P.zip vs) m x=some v
  | [],_,_,_,_,h,_,_=>by simp at h
  | _::_,[],_,_,_,_,h,_=>by simp at h
  | p::P,w::vs,0,m,nd,h1,h2,hk=>by
    simp at h1 h2;subst h1;subst h2
    show bindL kindOf ((p,w)::P.zip vs) m p=_
    unfold bindL
    rw[jU fun v hv=>(List.nodup_cons.mp nd).1 (List.of_mem_zip hv).1,if_pos hk]
    simp
  | p::P,w::vs,i+1,m,nd,h1,h2,hk=>by
    show bindL kindOf ((p,w)::P.zip vs) m x=_
    unfold bindL
    exact j4 (i:=i) (List.nodup_cons.mp nd).2 (by simpa using h1) (by simpa using h2) hk
theorem jF {kindOf:Str→Option NameKind}{x:Str}{v:Value}:∀ {P:List Str} {vs:List Value} {i:Nat} {m:Str→Option Value},P.Nodup→P[i]? = some x→vs[i]? = some v→kindOf x≠some .local→
    bindC kindOf (P.zip vs) m x=some v
  | [],_,_,_,_,h,_,_=>by simp at h
  | _::_,[],_,_,_,_,h,_=>by simp at h
  | p::P,w::vs,0,m,nd,h1,h2,hk=>by
    simp at h1 h2;subst h1;subst h2
    show bindC kindOf ((p,w)::P.zip vs) m p=_
    unfold bindC
    rw[jG fun v hv=>(List.nodup_cons.mp nd).1 (List.of_mem_zip hv).1,if_neg hk]
    simp
  | p::P,w::vs,i+1,m,nd,h1,h2,hk=>by
    show bindC kindOf ((p,w)::P.zip vs) m x=_
    unfold bindC
    exact jF (i:=i) (List.nodup_cons.mp nd).2 (by simpa using h1) (by simpa using h2) hk
def start (N:List Str)(vs:List V):St:=vs.map some++List.replicate (N.length - vs.length) none
def lO (CX:CXT)(P:Program)(w:World)(K:PySem.W.Frag)(mg:Str→Option Value)(base:Heap)(N:List Str)(qual:Str)(scope:Scope)(f:Addr)(cd:Value)(A:Around)(outer:List Env)(s:Shared)(H:Hp)(E:XK):Cx where
  prog:=P
  w:=w
  K:=K
  mg:=mg
  base:=base
  A:=A.deeper (envOfC qual scope s.heap.objs.size f cd)
  N:=N
  s₀:=s
  H₀:=H
  env:=envOfC qual scope s.heap.objs.size f cd
  outer:=outer
  stack:=envOfC qual scope s.heap.objs.size f cd::outer
  ex:=[]
  calm:=true
  fn:=fun _=>true
  pn:=[]
  xe:=fun e s'=>wpAny (model P w) (A.deeper (envOfC qual scope s.heap.objs.size f cd)) (leaving (envOfC qual scope s.heap.objs.size f cd) e) (fun _ s''=>CX outer H s E e s'') (fun e' s''=>CX outer H s E e' s'') s'
theorem mJ {sc:Scope}{n:Nat}{x:Str}(h:sc.names.lookup x=some .cell):∃ c,(cellsFrom n sc.names []).lookup x=some c:=by
  have q:=PySem.W.cellsFrom_some sc.names n [] (.inl h)
  exact Option.isSome_iff_exists.mp q
theorem ql {CX:CXT}{P:Program}{w:World}{K:PySem.W.Frag}{mg:Str→Option Value}{base:Heap}{N ps:List Str}{qual:Str}{scope:Scope}{f:Addr}{cd:Value}{A:Around}{outer:List Env}{s s1:Shared}{H:Hp}{E:XK}{us:List Value}{vs:List V}
    (S:a6 N ps scope) (hd:A.handled=none) (e0:oD P w K mg base A outer s H) (hl:vs.length=ps.length) (r:Vals vs us)
    (x:InCallC s s.heap.objs.size (bindL (envOfC qual scope s.heap.objs.size f cd).kindOf (ps.zip us) fun _=>none) (cellsFrom (s.heap.objs.size+1) scope.names []) (bindC (envOfC qual scope s.heap.objs.size f cd).kindOf (ps.zip us) fun _=>none) s1) :
    Inv (lO CX P w K mg base N qual scope f cd A outer s H E) [] (start N vs) H s1:=by
  have hpl:ps.length≤N.length:=by have:=congrArg List.length S.pre;rw[List.length_take] at this;omega
  obtain ⟨h1,tk,rfl,hk⟩:=x.done
  have noA:∀ b:Addr,b ∉ (lO CX P w K mg base N qual scope f cd A outer s H E).ex:=fun b z=>absurd (show b∈([]:List Addr) from z) (by simp)
  refine ⟨⟨e0.mod,S.kind,rfl,rfl,Nat.le_refl _,fun y z c h1 h2=>?_,fun y hy=>?_,fun y c _ h=>?_,fun _=>hd,Around.frames_deeper e0.frames,.inr ⟨rfl,rfl⟩,fun b z=>absurd z (noA b),e0.bs,e0.bsz,fun b _ _=>noA b,fun b z=>absurd z (noA b),e0.gB,e0.frf⟩,
    rfl,e0.bare,Un.kept hk,⟨_,x.toInCall.ns,fun i y v h1 h2 h3=>?_⟩,fun y c h=>⟨_,x.cell y c h⟩,e0.hok.fresh (Nat.le_refl _),fun y c h=>?_,fun p hp=>absurd (show p∈([]:List (Addr×Obj)) from hp) (by simp),e0.hok.kept hk,?_⟩
  · exact name_of_addr x.apart (PySem.mem_of_lookup h1) (PySem.mem_of_lookup h2)
  · have hy:scope.names.lookup y=some .cell∨scope.names.lookup y=some .free:=hy
    rcases hy with hy | hy
    · exact mJ hy
    · exact absurd rfl (S.z4 _ (PySem.mem_of_lookup hy))
  · exact Nat.le_of_lt (x.above y c (PySem.mem_of_lookup h))
  · have hi:i < vs.length:=by
      unfold start at h2
      by_cases hi:i < vs.length
      · exact hi
      · rw[List.getElem?_append_right (by simpa using hi)] at h2
        rw[List.getElem?_replicate] at h2
        split at h2<;>cases h2
    have ha:vs[i]? = some v:=by
      unfold start at h2
      rw[List.getElem?_append_left (by simpa using hi),List.getElem?_map] at h2
      cases e:vs[i]? with
      | none=>rw[e] at h2;cases h2
      | some a=>rw[e] at h2;cases h2;rfl
    obtain ⟨u,hu,rv⟩:=r.get ha
    have hp:ps[i]? = some y:=by
      rw[← S.pre,List.getElem?_take_of_lt (by omega)];exact h1
    have ndP:ps.Nodup:=by rw[← S.pre];exact S.nd.sublist (List.take_sublist _ _)
    refine ⟨u,rv,?_⟩
    rcases S.par y (List.mem_of_getElem? hp) with k | k
    · exact .inl ⟨k,j4 ndP hp hu k⟩
    · obtain ⟨c,e⟩:=mJ (n:=s.heap.objs.size+1) k
      refine .inr ⟨.inl k,c,e,?_⟩
      have q:=x.cell y c e
      rw[jF ndP hp hu (by show scope.names.lookup y≠_;rw[k];decide)] at q
      exact q
  · exact e0.hok.fresh (Nat.le_of_lt (x.above y c (PySem.mem_of_lookup h)))
  · unfold start
    show _=N.length
    rw[List.length_append,List.length_map,List.length_replicate]
    omega
theorem Bt {CX:CXT}{P:Program}{w:World}{K:PySem.W.Frag}{mg:Str→Option Value}{base:Heap}{k:Nat}{f:Addr}{name qual:Str}{params:Arguments}{body:List Stmt}{scope:Scope}{dV kV doc pm cdv ct oc:Value}{an od:Option Addr}
    {osl:Array (Option Value)} {N ps:List Str} {sp:Sp} (lk:K.lookup f=some ⟨oc,od,.func (PySem.W.fnOf name qual params body scope dV kV doc pm an cdv ct),osl⟩) (hcd:PySem.W.codeIn K cdv qual=true) (S:a6 N ps scope)
    (len:∀ vs H Q E,sp vs H Q E→vs.length=ps.length)
    (hbody:∀ (A:Around) (outer:List Env) (s:Shared) (H:Hp) (vs:List V) (Q:VK) (E:XK),cz k (A.deeper (envOfC qual scope s.heap.objs.size f cdv))→sp vs H Q E→
      ∃ t,PSs (lO CX P w K mg base N qual scope f cdv A outer s H E) body t∧t { nx:=fun _ H'=>Q .non H',rt:=Q } (start N vs) H) :
    dQ P w K mg base CX (k+1) f (PySem.W.fnOf name qual params body scope dV kV doc pm an cdv ct) ps sp:=by
  refine ⟨len,fun A outer s H args us vs Q E hr e0 hb r hsp=>?_⟩
  have hl:=len _ _ _ _ hsp
  have KX:K.In s.heap:=e0.mod.kin.keeps fun b o e=>(e0.bs b o e).1
  have lim:s.heap.NoLimit:=e0.mod.nolimit.keeps fun b o e=>(e0.bs b o e).1
  have dW:∀ y∈ps.zip us,scope.names.lookup y.1=some .local∨(scope.names.lookup y.1=some .cell∧((cellsFrom (s.heap.objs.size+1) scope.names []).lookup y.1).isSome=true):=fun ⟨n,v⟩ hy=>by
    rcases S.par n (List.of_mem_zip hy).1 with q | q
    · exact .inl q
    · exact .inr ⟨q,PySem.W.cellsFrom_some _ _ _ (.inl q)⟩
  refine codeAny_call_function hr.depth (KX _ _ lk) rfl S.co S.gen rfl (PySem.W.codeRec_of KX hcd) (hb _ _ _ _ ?_)
  refine wpAny_newFunctionEnv_cells S.kind dW fun env he s1 x=>?_
  subst he
  refine ⟨lim.keeps x.toInCall.keep,codeAny_func ?_⟩
  obtain ⟨t,ht,hq⟩:=hbody A outer s H vs Q E (hr.deeper _) hsp
  have I:Inv (lO CX P w K mg base N qual scope f cdv A outer s H E) [] (start N vs) H s1:=ql S hr.hd e0 hl r x
  refine wpAny_mono (ht [] s1 (start N vs) H _ I hq) (fun fl s' hs=>?_) fun e s' hs=>hs
  have fin:∀ {σ':St} {H':Hp} {v:V} {u:Value},Inv (lO CX P w K mg base N qual scope f cdv A outer s H E) [] σ' H' s'→RelV v u→Q v H'→CE outer P w H s Q u s':=
    fun {σ' H' v u} J rv q=>⟨v,H',J.os,J.bare,J.base,J.hok,rv,q⟩
  cases fl with
  | ret u=>
    obtain ⟨v,σ',H',J,rv,q⟩:=hs
    exact fin J rv q
  | next=>
    obtain ⟨σ',H',J,q⟩:=hs
    exact fin (v:=V.non) (u:=Value.none) J rfl q
  | brk=>
    obtain ⟨_,_,_,q⟩:=hs
    exact False.elim q
  | cont=>
    obtain ⟨_,_,_,q⟩:=hs
    exact False.elim q
end L2
namespace L2
open PySem PySem.Spec PyProof.Rows
section
variable {X:Cx} {x:Str} {p pos:Pos} {e:Expr} {es:List Expr} {t:TA} {id T:String} {r:List V→Hp→VK→Prop}
def tCB (r:List V→Hp→VK→Prop)(t:TA):TE:=fun σ H Q=>t σ H fun vs H1=>r vs H1 Q
theorem mI (hc:bb X (.builtin id) r)(hg:Gl X x)(hm:X.mg x=none)(hv:bootBuiltins x=some (.builtin id))(ha:PA X (e::es) t)(hn:x ≠ "__name__" := by decide)(hdb:(x == ("__debug__" : Str))=false:=by decide)
    (he:starEach (e::es) X.env=(false,eval e X.env)::starEach es X.env:=by rfl) (hpl:(backTo pos (starEach es X.env)).any (·.1)=false:=by rfl):PE X (.Call (.Name x p) (e::es) [] pos) (tCB r t):=by
  intro pins s σ H Q I h
  refine wpAny_Call_Name_kw (iR I hg hm hv ?_ hn hdb)
  exact PyProof.Rows.callWith_builtin1 (thn (ha pos pins s σ H _ I h) fun us s1 ⟨vs,H1,I1,r1,q1⟩=>hc pins s1 σ H1 vs us Q I1 r1 q1) he hpl
theorem jH (hc:bb X (.type T) r)(hg:Gl X x)(hm:X.mg x=none)(hv:bootBuiltins x=some (.type T))(ha:PA X (e::es) t)(hn:x ≠ "__name__" := by decide)(hdb:(x == ("__debug__" : Str))=false:=by decide)
    (he:starEach (e::es) X.env=(false,eval e X.env)::starEach es X.env:=by rfl) (hpl:(backTo pos (starEach es X.env)).any (·.1)=false:=by rfl):PE X (.Call (.Name x p) (e::es) [] pos) (tCB r t):=by
  intro pins s σ H Q I h
  refine wpAny_Call_Name_kw (iR I hg hm hv ?_ hn hdb)
  exact PyProof.Rows.callWith_type1 (thn (ha pos pins s σ H _ I h) fun us s1 ⟨vs,H1,I1,r1,q1⟩=>hc pins s1 σ H1 vs us Q I1 r1 q1) he hpl
end
end L2
namespace HT
open PySem PyProof.Rows
section
open PySem.SeqAt
open PySem.AutoSeq1 (wpAny_loadPart')
open PySem.MeetsSeq PySem.MeetsSeq2 PySem.MeetsSeq3
end
section
variable {prog:Program} {w:World} {A:Around} {E:Value→Shared→Prop} {s:Shared}
theorem wJ {t b:Addr}{vs ws:List Value}{Q:Value→Shared→Prop}(ht:IsTup s.heap t vs.toArray)(hb:IsTup s.heap b ws.toArray)(hv:vs≠[])
    (h1:ws=[]→Q (.ref t) s) (h2:ws≠[]→Q (.ref s.heap.objs.size) { s with heap:=s.heap.push { cls:=.type "tuple", data:=.seq (vs++ws).toArray } })
    (hsz:vs.length+ws.length≤sizeLine):wpAny (model prog w) A (binaryOp .Add (.ref t) (.ref b)) Q E s:=by
  obtain ⟨⟨cls,dd,data,sl⟩,ho,hc,n,hd⟩:=id ht
  obtain ⟨⟨cls2,dd2,data2,sl2⟩,ho2,hc2,n2,hd2⟩:=id hb
  simp only at hc hd hc2 hd2
  subst hc hd hc2 hd2
  have e:vs.toArray++ws.toArray=(vs++ws).toArray:=by simp
  by_cases hw:ws=[]
  · exact concat_meets ⟨_,ho,rfl⟩ ⟨_,ho2,rfl⟩ noFill_tuple_add seq_tuple_add PySem.F.slot_tuple_add PySem.F.entry_tuple_add (PySem.F.args_tuple_add_2 _ _)
      (tuple_addW1 t b vs.toArray ws.toArray n n2 dd dd2 sl sl2 (by simpa using hv) (by simp[hw])) ⟨ho,ho2,h1 hw⟩
  · refine concat_meets ⟨_,ho,rfl⟩ ⟨_,ho2,rfl⟩ noFill_tuple_add seq_tuple_add PySem.F.slot_tuple_add PySem.F.entry_tuple_add (PySem.F.args_tuple_add_2 _ _)
      (tuple_addW2 t b vs.toArray ws.toArray n n2 dd dd2 sl sl2 (by simpa using hv) (by simpa using hw) (by rw[List.size_toArray,List.size_toArray];exact hsz)) ⟨ho,ho2,?_⟩
    rw[e]
    exact h2 hw
def sIx (n d:Nat):Option Int→Nat
  | none=>d
  | some v=>if v < 0 then (v+(n:Int)).toNat else min v.toNat n
theorem ml (n d:Nat):sIx n d none=d:=rfl
theorem pN (n d k:Nat):sIx n d (some (k:Int))=min k n:=by
  show (if (k:Int) < 0 then ((k:Int)+(n:Int)).toNat else min (k:Int).toNat n)=min k n
  rw[if_neg (by omega),Int.toNat_natCast]
theorem yg (n d:Nat)(hd:d≤n)(o:Option Int):sIx n d o≤n:=by
  cases o with
  | none=>exact hd
  | some v=>
    show (if v < 0 then (v+(n:Int)).toNat else min v.toNat n)≤n
    by_cases hv:v < 0
    · rw[if_pos hv];omega
    · rw[if_neg hv];exact Nat.min_le_right _ _
theorem pD (v:Int)(n d:Nat):(if v < 0 then max (v+(n:Int)) 0 else min v (n:Int))=((sIx n d (some v):Nat):Int):=by
  show (if v < 0 then max (v+(n:Int)) 0 else min v (n:Int))=(((if v < 0 then (v+(n:Int)).toNat else min v.toNat n):Nat):Int)
  by_cases hv:v < 0
  · simp only[if_pos hv];omega
  · simp only[if_neg hv];omega
theorem oK (lo hi:Option Int)(n:Nat):Builtin.Slice.sliceAdjust lo hi 1 (n:Int)=(((sIx n 0 lo:Nat):Int),((sIx n n hi:Nat):Int)):=by
  have h1:¬ ((1:Int) < 0):=by omega
  unfold Builtin.Slice.sliceAdjust
  simp only[h1,if_false]
  refine Prod.ext ?_ ?_
  · cases lo with
    | none=>rfl
    | some v=>exact pD v n 0
  · cases hi with
    | none=>rfl
    | some v=>exact pD v n n
theorem n4 (i j:Nat):Builtin.Slice.slicePlaces (i:Int) (j:Int) 1=j - i:=by
  unfold Builtin.Slice.slicePlaces
  have h1:(1:Int) > 0:=by omega
  simp only[h1,if_true,Int.ediv_one]
  split<;>omega
theorem g9 {v:Value}{o:Option Int}{Q:Option Int→Shared→Prop}(p:IsPart v o)(h:Q o s):wpAny (model prog w) A (Builtin.Slice.slicePartIndex v) Q E s:=by
  cases p with
  | none=>exact slicePart_none h
  | int i t=>exact slicePart_int h
theorem c4 {sl:Addr}{vl vu:Value}{lo hi:Option Int}{n:Nat}{Q:Int×Int×Nat→Shared→Prop}(hs:s.heap.IsSliceOf sl vl vu .none)(pl:IsPart vl lo)(pu:IsPart vu hi)
    (h:Q (((sIx n 0 lo:Nat):Int),1,sIx n n hi - sIx n 0 lo) s):wpAny (model prog w) A (Builtin.Slice.sliceApplied (.ref sl) (pure (n:Int))) Q E s:=by
  obtain ⟨os,hos,hcs,hds⟩:=id hs
  unfold Builtin.Slice.sliceApplied Builtin.Slice.sliceFields
  refine wpAny_bind (wpAny_bind (wpAny_field hos hds (x:=vl) rfl (wpAny_bind (wpAny_field hos hds (x:=vu) rfl (wpAny_bind (wpAny_field hos hds (x:=.none) rfl (wpAny_pure ?_)))))))
  refine wpAny_bind (slicePart_none ?_)
  show wpAny _ _ (if ((1:Int) == 0)=true then _ else _) _ _ s
  rw[if_neg (by decide)]
  refine wpAny_bind (g9 pl (wpAny_bind (g9 pu (wpAny_bind (wpAny_pure ?_)))))
  show wpAny _ _ (match Builtin.Slice.sliceAdjust lo hi 1 (n:Int) with | (lo,hi)=>pure (lo,(1:Int),Builtin.Slice.slicePlaces lo hi 1)) _ _ s
  rw[oK lo hi n]
  show wpAny _ _ (pure (((sIx n 0 lo:Nat):Int),(1:Int),Builtin.Slice.slicePlaces ((sIx n 0 lo:Nat):Int) ((sIx n n hi:Nat):Int) 1)) _ _ s
  rw[n4]
  exact wpAny_pure h
theorem u5 (xs:Array Value)(i k:Nat):((List.range k).filterMap fun (m:Nat)=>xs[((i:Int)+(m:Int)*1).toNat]?).toArray=((xs.toList.drop i).take k).toArray:=by
  have e:(fun (m:Nat)=>xs[((i:Int)+(m:Int)*1).toNat]?)=fun m=>xs[i+m]?:=by
    funext m
    have:((i:Int)+(m:Int)*1).toNat=i+m:=by omega
    rw[this]
  rw[e]
  have:=pick_run xs i k
  rw[List.filterMap_map] at this
  have e2:((fun x=>xs[x]?) ∘ fun x=>i+x)=fun m=>xs[i+m]?:=rfl
  rw[e2] at this
  rw[this]
theorem e8 {t sl:Addr}{items:Array Value}{vl vu:Value}{lo hi:Option Int}{Q:Value→Shared→Prop}(ht:IsTup s.heap t items)(hs:s.heap.IsSliceOf sl vl vu .none)(pl:IsPart vl lo)(pu:IsPart vu hi)
    (hw:¬ (sIx items.size 0 lo=0∧sIx items.size items.size hi=items.size))
    (h:Q (.ref s.heap.objs.size) { s with heap:=s.heap.push { cls:=.type "tuple", data:=.seq ((items.toList.drop (sIx items.size 0 lo)).take (sIx items.size items.size hi - sIx items.size 0 lo)).toArray } })
    (hsz:items.size≤sizeLine):wpAny (model prog w) A (getItem (.ref t) (.ref sl)) Q E s:=by
  have pL:sizeOk (.seq ((items.toList.drop (sIx items.size 0 lo)).take (sIx items.size items.size hi - sIx items.size 0 lo)).toArray):=by
    show ((items.toList.drop (sIx items.size 0 lo)).take (sIx items.size items.size hi - sIx items.size 0 lo)).toArray.size≤sizeLine
    rw[List.size_toArray,List.length_take,List.length_drop,Array.length_toList]
    omega
  have hj:sIx items.size items.size hi≤items.size:=yg _ _ (Nat.le_refl _) hi
  obtain ⟨os,hos,hcs,hds⟩:=id hs
  have hTs:s.TypeIs (.ref sl) "slice" := ⟨os,hos,hcs⟩
  unfold getItem
  try with_reducible refine wpAny_holding ?_
  first | refine wpAny_bind (wpAny_pure ?_) | skip
  refine wpAny_bind (wpAny_sequenceKey ht.typeIs (by decide) ?_)
  refine wpAny_bind (wpAny_callSpecial?_slot (name:=Str.ofString "__getitem__") ht.typeIs PyProof.Rows.slot_tuple_getitem
    (wpAny_call_entry PyProof.Rows.slot_tuple_getitem ht.typeIs entry_tuple_getitem ?_ (args_tuple_getitem _ _)))
  show wpAny _ _ (Builtin.Tuple.tupleItemsOf (.ref t) >>= _) _ _ s
  refine wpAny_bind (tupleItemsOf_ ht ?_)
  refine wpAny_bind (wpAny_typeOf hTs ?_)
  rw[if_pos (by decide)]
  refine wpAny_bind (c4 hs pl pu ?_)
  have hno:¬ ((((sIx items.size 0 lo:Nat):Int) == 0&&(1:Int) == 1&&(sIx items.size items.size hi - sIx items.size 0 lo) == items.size)=true):=by
    intro q
    rw[Bool.and_eq_true,Bool.and_eq_true] at q
    have q1:((sIx items.size 0 lo:Nat):Int)=0:=eq_of_beq q.1.1
    have q2:sIx items.size items.size hi - sIx items.size 0 lo=items.size:=eq_of_beq q.2
    exact hw ⟨by omega,by omega⟩
  show wpAny _ _ (if (((sIx items.size 0 lo:Nat):Int) == 0&&(1:Int) == 1&&(sIx items.size items.size hi - sIx items.size 0 lo) == items.size)=true then _ else _) _ _ s
  rw[if_neg hno,u5]
  first
    | exact wpAny_bind (m:=Builtin.Tuple.tupleExact _) (wpAny_newObj_type (wpAny_pure ⟨_,rfl,wpAny_pure h⟩) pL)
    | exact wpAny_bind (m:=Builtin.Tuple.tupleExact _) (wpAny_newObj_type (wpAny_bind (wpAny_pure (wpAny_pure ⟨_,rfl,wpAny_pure h⟩))) pL)
    | exact wpAny_bind (wpAny_bind (m:=Builtin.Tuple.tupleExact _) (wpAny_newObj_type (wpAny_pure (wpAny_pure ⟨_,rfl,wpAny_pure h⟩)) pL))
    | exact wpAny_bind (wpAny_bind (m:=Builtin.Tuple.tupleExact _) (wpAny_newObj_type (wpAny_pure ⟨_,rfl,wpAny_pure h⟩) pL))
end
end HT
namespace L2
open PySem PySem.Spec PyProof.Rows
abbrev TO:=St→Hp→(Option Int→Hp→Prop)→Prop
def PO (X:Cx)(e:Option Expr)(t:TO):Prop:=
  ∀ (pins:List (Addr×Obj)) (s:Shared) (σ:St) (H:Hp) (Q:Option Int→Hp→Prop),Inv X pins σ H s→t σ H Q→
    wpAny (model X.prog X.w) X.A (evalPart e X.env) (fun u s'=>∃ o H',Inv X pins σ H' s'∧IsPart u o∧Q o H') X.xe s
def wK:TO:=fun _ H Q=>Q none H
def A4 (t:TE):TO:=fun σ H Q=>t σ H fun x H1=>∃ i,x=.int i∧Q (some i) H1
theorem intsAre_of {ns:List Int}:∀ {us:List Value},Vals (ns.map V.int) us→IntsAre us ns:=by
  induction ns with
  | nil=>intro us r;rw[List.map_nil] at r;cases r;exact .nil
  | cons n ns ih=>
    intro us r
    rw[List.map_cons] at r
    cases r with
    | cons r1 r2=>
      obtain ⟨t,e⟩:=r1
      subst e
      exact .cons n t (ih r2)
section
variable {X:Cx} {e:Expr} {te:TE} {lo hi:Option Expr} {tl th:TO} {pos p2:Pos}
theorem wY:PO X none wK:=by
  intro pins s σ H Q I h
  rw[evalPart_none]
  exact wpAny_pure ⟨none,H,I,.none,h⟩
theorem vy (h:PE X e te):PO X (some e) (A4 te):=by
  intro pins s σ H Q I hw
  rw[evalPart_some]
  refine thn (h pins s σ H _ I hw) fun u s1 ⟨x,H1,I1,r1,q1⟩=>?_
  obtain ⟨i,rfl,q⟩:=q1
  obtain ⟨t,rfl⟩:=r1
  exact ⟨some i,H1,I1,.int i t,q⟩
def SlR (X:Cx)(r:V→Option Int→Option Int→Hp→VK→Prop):Prop:=
  ∀ (pins:List (Addr×Obj)) (s:Shared) (σ:St) (H:Hp) (x:V) (v vl vu:Value) (lo hi:Option Int) (sl:Addr) (Q:VK),Inv X pins σ H s→RelV x v→s.heap.IsSliceOf sl vl vu .none→IsPart vl lo→IsPart vu hi→r x lo hi H Q→
    ∃ T id,typeLookup (.type T) "__getitem__" = pure (some (.builtin id))∧s.TypeIs v T∧wpAny (model X.prog X.w) X.A (getItem v (.ref sl)) (EP X pins σ Q) X.xe s
theorem SlR.or {r r':V→Option Int→Option Int→Hp→VK→Prop}(h:SlR X r)(h':SlR X r'):SlR X (fun x lo hi H Q=>r x lo hi H Q∨r' x lo hi H Q):=by
  intro pins s σ H x v vl vu lo hi sl Q I rx hs pl pu q
  rcases q with q | q
  · exact h pins s σ H x v vl vu lo hi sl Q I rx hs pl pu q
  · exact h' pins s σ H x v vl vu lo hi sl Q I rx hs pl pu q
def tSl (r:V→Option Int→Option Int→Hp→VK→Prop)(te:TE)(tl th:TO):TE:=fun σ H Q=>te σ H fun x H1=>tl σ H1 fun l H2=>th σ H2 fun u H3=>r x l u H3 Q
theorem r9 {r:V→Option Int→Option Int→Hp→VK→Prop}(hr:SlR X r)(he:PE X e te)(hl:PO X lo tl)(hu:PO X hi th):PE X (.Subscript e (.Slice lo hi none p2) pos) (tSl r te tl th):=by
  intro pins s σ H Q I h
  refine Subscript_ (thn (he pins s σ H _ I h) fun v s1 ⟨x,H1,I1,r1,q1⟩=>?_)
  refine wpAny_Slice (thn (hl pins s1 σ H1 _ I1 q1) fun vl s2 ⟨l,H2,I2,pl,q2⟩=>thn (hu pins s2 σ H2 _ I2 q2) fun vu s3 ⟨u,H3,I3,pu,q3⟩=>?_)
  rw[evalPart_none]
  refine wpAny_pure ?_
  have I4:Inv X pins σ H3 { s3 with heap:=s3.heap.push { cls:=.type "slice", data:=.fields #[vl,vu,.none] } }:=I3.kept (t':=s3.toks) fun b ob q=>Heap.get?_push_of_some _ q
  obtain ⟨T,id,hT,ht,hg⟩:=hr pins { s3 with heap:=s3.heap.push { cls:=.type "slice", data:=.fields #[vl,vu,.none] } } σ H3 x v vl vu l u s3.heap.objs.size Q I4 r1 (Heap.IsSliceOf.new ..) pl pu q3
  show wpAny (model X.prog X.w) X.A (subscriptTail e (.Slice lo hi none p2) v (.ref s3.heap.objs.size)) (EP X pins σ Q) X.xe { s3 with heap:=s3.heap.push { cls:=.type "slice", data:=.fields #[vl,vu,.none] } }
  exact tail_any (ops:=[.ref s3.heap.objs.size,v]) ht hT hg (by with_unfolding_all rfl)
def mT (xs:List V)(lo hi:Option Int):List V:=(xs.drop (HT.sIx xs.length 0 lo)).take (HT.sIx xs.length xs.length hi - HT.sIx xs.length 0 lo)
theorem f7 (xs:List V)(lo hi:Option Int):(mT xs lo hi).length≤xs.length:=by
  unfold mT
  rw[List.length_take,List.length_drop]
  omega
def BZ (K:PySem.W.Frag):V→Option Int→Option Int→Hp→VK→Prop:=fun x lo hi H Q=>∃ a xs,x=.ref a∧SqT K H a xs∧
  ¬ (HT.sIx xs.length 0 lo=0∧HT.sIx xs.length xs.length hi=xs.length)∧∀ p,H p=none→Q (.ref p) (upd H p (.tup (mT xs lo hi)))
theorem zT:SlR X (BZ X.K):=by
  intro pins s σ H x v vl vu lo hi sl Q I rx hs pl pu h
  obtain ⟨a,xs,rfl,hx,hw,q⟩:=h
  cases rx
  obtain ⟨its,r,ht,hz⟩:=I.tuple hx
  have hlen:its.toArray.size=xs.length:=by rw[List.size_toArray];exact r.length.symm
  refine ⟨"tuple", _,PyProof.Rows.slot_tuple_getitem.lookup,ht.typeIs,?_⟩
  refine HT.e8 ht hs pl pu (by rw[hlen];exact hw) ?_ (by rw[hlen];exact hz)
  rw[hlen]
  refine ⟨.ref s.heap.objs.size,_,I.laid (t':=s.toks) (o:=.tup (mT xs lo hi)) (fun b ob q=>Heap.get?_push_of_some _ q) (Nat.le_refl _) ?_,rfl,q _ (I.hok.fresh (Nat.le_refl _))⟩
  exact ⟨Nat.le_trans (f7 xs lo hi) hz,_,(r.drop (HT.sIx xs.length 0 lo)).take (HT.sIx xs.length xs.length hi - HT.sIx xs.length 0 lo),mS.new _ _⟩
def xV (K:PySem.W.Frag):R2:=fun x y H Q=>∃ a b xs ys,x=.ref a∧y=.ref b∧SqT K H a xs∧SqT K H b ys∧xs≠[]∧xs.length+ys.length≤sizeLine∧
  (ys=[]→Q (.ref a) H)∧(ys≠[]→∀ p,H p=none→Q (.ref p) (upd H p (.tup (xs++ys))))
theorem Vals.ly {xs:List V}{us:List Value}(r:Vals xs us):us=[]↔xs=[]:=by
  cases r with
  | nil=>simp
  | cons _ _=>simp
theorem vS:OpR X (binaryOp .Add) (xV X.K):=by
  intro pins s σ H x y v u Q I rx ry h
  obtain ⟨a,b,xs,ys,rfl,rfl,ha,hb,hx,hz,q1,q2⟩:=h
  cases rx
  cases ry
  obtain ⟨its,r1,p1,_⟩:=I.tuple ha
  obtain ⟨its2,r2,p2,_⟩:=I.tuple hb
  refine HT.wJ p1 p2 (fun z=>hx (r1.ly.mp z)) (fun z=>⟨.ref a,H,I,rfl,q1 (r2.ly.mp z)⟩) (fun z=>?_) (by rw[← r1.length,← r2.length];exact hz)
  refine ⟨.ref s.heap.objs.size,_,I.laid (t':=s.toks) (o:=.tup (xs++ys)) (fun b ob q=>Heap.get?_push_of_some _ q) (Nat.le_refl _) ?_,rfl,q2 (fun w=>z (r2.ly.mpr w)) _ (I.hok.fresh (Nat.le_refl _))⟩
  exact ⟨by rw[List.length_append];exact hz,_,r1.append r2,mS.new _ _⟩
end
end L2
namespace L2
open PySem PySem.Spec PyProof.Rows
def ixN (n:Nat)(i:Int):Option Nat:=if 0≤i then (if i < n then some i.toNat else none) else if -(n:Int)≤i then some (i+n).toNat else none
def atI {α:Type}(xs:List α)(i:Int):Option α:=(ixN xs.length i).bind fun j=>xs[j]?
theorem vE {n:Nat}{i:Int}{j:Nat}(h:ixN n i=some j):seqIndex? i n=some j∧j < n∧-(n:Int)≤i∧i < n:=by
  unfold ixN at h
  by_cases h0:0≤i
  · rw[if_pos h0] at h
    by_cases h1:i < n
    · rw[if_pos h1] at h
      have e:i.toNat=j:=Option.some.inj h
      exact ⟨by rw[seqIndex_of h0 h1,e],by omega,by omega,h1⟩
    · rw[if_neg h1] at h;cases h
  · rw[if_neg h0] at h
    by_cases h1:-(n:Int)≤i
    · rw[if_pos h1] at h
      have e:(i+n).toNat=j:=Option.some.inj h
      exact ⟨by rw[seqIndex_neg (by omega) h1,e],by omega,h1,by omega⟩
    · rw[if_neg h1] at h;cases h
theorem lE {α:Type}{xs:List α}{i:Int}{v:α}(h:atI xs i=some v):∃ j,seqIndex? i xs.length=some j∧xs[j]? = some v∧j < xs.length∧-(xs.length:Int)≤i∧i < xs.length:=by
  unfold atI at h
  cases e:ixN xs.length i with
  | none=>rw[e] at h;cases h
  | some j=>
    rw[e] at h
    obtain ⟨h1,h2,h3,h4⟩:=vE e
    exact ⟨j,h1,h,h2,h3,h4⟩
def oZ (b:Expr):Prop:=∀ o i,subscripted b false o i=operate [o,i] (getItem o i)
def IxR (X:Cx)(r:R2):Prop:=
  ∀ (value slice:Expr) (pins:List (Addr×Obj)) (s:Shared) (σ:St) (H:Hp) (x y:V) (v u:Value) (Q:VK),Inv X pins σ H s→RelV x v→RelV y u→r x y H Q→
    subscripted slice false v u=operate [v,u] (getItem v u)→wpAny (model X.prog X.w) X.A (subscriptTail value slice v u) (EP X pins σ Q) X.xe s
def MtR (X:Cx)(id:String)(r:V→List V→Hp→VK→Prop):Prop:=
  ∀ (pins:List (Addr×Obj)) (s:Shared) (σ:St) (H:Hp) (x:V) (xs:List V) (v:Value) (us:List Value) (Q:VK),Inv X pins σ H s→RelV x v→Vals xs us→r x xs H Q→
    wpAny (model X.prog X.w) X.A (call (.builtin id) (v::us)) (EP X pins σ Q) X.xe s
section
variable {X:Cx} {a b:Expr} {ta tb:TE} {pos:Pos}
theorem IxR.or {r r':R2}(h:IxR X r)(h':IxR X r'):IxR X (fun x y H Q=>r x y H Q∨r' x y H Q):=by
  intro value slice pins s σ H x y v u Q I rx ry q hs
  rcases q with q | q
  · exact h value slice pins s σ H x y v u Q I rx ry q hs
  · exact h' value slice pins s σ H x y v u Q I rx ry q hs
theorem MtR.or {id:String}{r r':V→List V→Hp→VK→Prop}(h:MtR X id r)(h':MtR X id r'):MtR X id (fun x xs H Q=>r x xs H Q∨r' x xs H Q):=by
  intro pins s σ H x xs v us Q I rx rs q
  rcases q with q | q
  · exact h pins s σ H x xs v us Q I rx rs q
  · exact h' pins s σ H x xs v us Q I rx rs q
theorem Bv {r:R2}(hr:IxR X r)(ha:PE X a ta)(hb:PE X b tb)(hs:oZ b):PE X (.Subscript a b pos) (tOp r ta tb):=by
  intro pins s σ H Q I h
  exact Subscript_ (zx ha hb I h fun v u s2 x y H2 I2 rx ry q=>hr a b pins s2 σ H2 x y v u Q I2 rx ry q (hs _ _))
def Bj (K:PySem.W.Frag):R2:=fun x y H Q=>∃ p xs i v,x=.ref p∧y=.int i∧SqL K H p xs∧atI xs i=some v∧Q v H
def Au (K:PySem.W.Frag):R2:=fun x y H Q=>∃ p xs i v,x=.ref p∧y=.int i∧SqT K H p xs∧atI xs i=some v∧Q v H
def AZ:R2:=fun x y H Q=>∃ z i c,x=.str z∧y=.int i∧z.length≤sizeLine∧atI z.cps.toList i=some c∧Q (.str ⟨#[c]⟩) H
theorem vY:IxR X (Bj X.K):=by
  intro value slice pins s σ H x y v u Q I rx ry h hs
  obtain ⟨p,xs,i,z,rfl,rfl,hq,he,q⟩:=h
  cases rx
  obtain ⟨t,rfl⟩:=ry
  obtain ⟨its,r,pl,hz⟩:=I.list hq
  obtain ⟨j,h1,h2,h3,h4,h5⟩:=lE he
  obtain ⟨w,ew,rw'⟩:=r.get h2
  have hl:=r.length
  have hn:=iD
  have fin:EP X pins σ Q w s:=⟨z,H,I,rw',q⟩
  by_cases h0:0≤i
  · have hj:i.toNat=j:=by
      rw[seqIndex_of h0 h5] at h1
      exact Option.some.inj h1
    exact item_listR pl.isList h0 (by omega) (by rw[hj];simpa using ew) fin hs
  · have hj:(i+(its.toArray.size:Int)).toNat=j:=by
      rw[seqIndex_neg (by omega) h4] at h1
      rw[List.size_toArray,← hl]
      exact Option.some.inj h1
    exact subscriptTail_builtinR (x:=w) pl.isList.typeIs slot_list_getitem.lookup
      (wpAny_getItem_list_neg (Q:=fun r s'=>r=w∧EP X pins σ Q r s') pl.isList (by omega) (by rw[List.size_toArray]<;>omega) (by omega) (by rw[hj];simpa using ew) ⟨rfl,fin⟩) hs
theorem yq:IxR X (Au X.K):=by
  intro value slice pins s σ H x y v u Q I rx ry h hs
  obtain ⟨p,xs,i,z,rfl,rfl,hq,he,q⟩:=h
  cases rx
  obtain ⟨t,rfl⟩:=ry
  obtain ⟨its,r,pl,hz⟩:=I.tuple hq
  obtain ⟨j,h1,h2,h3,h4,h5⟩:=lE he
  obtain ⟨w,ew,rw'⟩:=r.get h2
  have hl:=r.length
  have hn:=iD
  have fin:EP X pins σ Q w s:=⟨z,H,I,rw',q⟩
  exact subscriptTail_builtinR (x:=w) pl.typeIs slot_tuple_getitem.lookup
    (getItem_tuple (j:=j) (Q:=fun r s'=>r=w∧EP X pins σ Q r s') pl (by omega) (by omega) (by rw[List.size_toArray,← hl];exact h1) (by simpa using ew) ⟨rfl,fin⟩) hs
theorem zo:IxR X AZ:=by
  intro value slice pins s σ H x y v u Q I rx ry h hs
  obtain ⟨z,i,c,rfl,rfl,hz,he,q⟩:=h
  obtain ⟨t,rfl⟩:=rx
  obtain ⟨t',rfl⟩:=ry
  obtain ⟨j,h1,h2,h3,h4,h5⟩:=lE he
  have hl:z.cps.toList.length=z.length:=by simp[Str.length]
  rw[hl] at h1 h4 h5
  have hn:=iD
  exact tail_any (typeIs_str s z t) slot_str_getitem.lookup (getItem_str (c:=c) (by
    have e1:decide (i < -(2 ^ 63:Int))=false:=decide_eq_false (by omega)
    have e2:decide (i ≥ 2 ^ 63)=false:=decide_eq_false (by omega)
    rw[e1,e2,Bool.or_false]) (by rw[h1];simpa using h2) ⟨.str ⟨#[c]⟩,H,I.tok _,⟨_,rfl⟩,q⟩) hs
def rIx (K:PySem.W.Frag):R2:=fun x y H Q=>Bj K x y H Q∨Au K x y H Q∨AZ x y H Q
theorem Ad:IxR X (rIx X.K):=vY.or (yq.or zo)
theorem Inv.lst {pins:List (Addr×Obj)}{σ:St}{H:Hp}{s:Shared}{p:Addr}{xs:List V}(I:Inv X pins σ H s)(h:H p=some (.lst xs)) :
    ∃ (its:List Value) (n:Nat),Vals xs its∧s.heap.get? p=some { cls:=.type "list", data:=.seq its.toArray n }∧xs.length≤sizeLine:=by
  obtain ⟨z,its,n,r,e⟩:=I.hok p _ h
  exact ⟨its,n,r,e,z⟩
theorem lC (lo hi:Option Int)(n:Nat):(sliceBounds lo hi none n).1=((HT.sIx n 0 lo:Nat):Int)∧(sliceBounds lo hi none n).2.1=((HT.sIx n n hi:Nat):Int)∧(sliceBounds lo hi none n).2.2=1:=by
  refine ⟨?_,?_,rfl⟩
  · cases lo with
    | none=>simp[sliceBounds,HT.sIx]
    | some i=>
      simp only[sliceBounds,HT.sIx,Option.getD_none,show (1:Int) > 0 by decide,if_true]
      by_cases h:i < 0
      · simp only[h,if_true]<;>omega
      · simp only[h,if_false]<;>omega
  · cases hi with
    | none=>simp[sliceBounds,HT.sIx]
    | some i=>
      simp only[sliceBounds,HT.sIx,Option.getD_none,show (1:Int) > 0 by decide,if_true]
      by_cases h:i < 0
      · simp only[h,if_true]<;>omega
      · simp only[h,if_false]<;>omega
theorem jv (its:List Value)(lo hi:Option Int):slicePick its.toArray lo hi none=((its.drop (HT.sIx its.length 0 lo)).take (HT.sIx its.length its.length hi - HT.sIx its.length 0 lo)).toArray:=by
  obtain ⟨h1,h2,h3⟩:=lC lo hi its.toArray.size
  unfold slicePick
  rw[h1,h2,h3]
  simp only[sliceRange_one,pick_run,List.size_toArray]<;>rfl
def B1 (K:PySem.W.Frag):V→Option Int→Option Int→Hp→VK→Prop:=fun x lo hi H Q=>∃ a xs,x=.ref a∧SqL K H a xs∧∀ p,H p=none→Q (.ref p) (upd H p (.lst (mT xs lo hi)))
theorem vm:SlR X (B1 X.K):=by
  intro pins s σ H x v vl vu lo hi sl Q I rx hs pl pu h
  obtain ⟨a,xs,rfl,hx,q⟩:=h
  cases rx
  obtain ⟨its,r,ht,hz⟩:=I.list hx
  have hlen:=r.length
  refine ⟨"list", _,slot_list_getitem.lookup,ht.isList.typeIs,?_⟩
  refine wpAny_getItem_list_slice ht.isList hs pl pu .none (by simp) ?_ (by rw[List.size_toArray]<;>omega)
  rw[jv,← hlen]
  refine ⟨.ref s.heap.objs.size,_,I.laid (t':=s.toks) (o:=.lst (mT xs lo hi)) (fun b ob q=>Heap.get?_push_of_some _ q) (Nat.le_refl _) ?_,rfl,q _ (I.hok.fresh (Nat.le_refl _))⟩
  exact ⟨Nat.le_trans (f7 xs lo hi) hz,_,0,(r.drop (HT.sIx xs.length 0 lo)).take (HT.sIx xs.length xs.length hi - HT.sIx xs.length 0 lo),Heap.get?_push_size _ rfl⟩
def xB:V→Bool
  | .non=>true
  | .bl _=>true
  | .int _=>true
  | .str _=>true
  | _=>false
def eqV:V→V→Bool
  | .non,.non=>true
  | .bl a,.bl b=>a == b
  | .bl a,.int b=>(if a then 1 else 0) == b
  | .int a,.bl b=>a == (if b then 1 else 0)
  | .int a,.int b=>a == b
  | .str a,.str b=>a == b
  | _,_=>false
def inV (x:V)(xs:List V):Bool:=xs.any fun y=>eqV y x
def rIn (K:PySem.W.Frag)(neg:Bool):R2:=fun x y H Q=>∃ p xs,y=.ref p∧(SqL K H p xs∨SqT K H p xs)∧xB x=true∧xs.all xB=true∧Q (.bl (if neg then !inV x xs else inV x xs)) H
theorem kH:bb X (.builtin "len") (fun xs H Q=>∃ p ys,xs=[.ref p]∧(SqL X.K H p ys∨SqT X.K H p ys)∧Q (.int ys.length) H):=by
  intro pins s σ H xs us Q I r h
  obtain ⟨p,ys,rfl,hq,q⟩:=h
  obtain ⟨u,rfl,rx⟩:=vals1 r
  cases rx
  have hn:=iD
  rcases hq with hq | hq
  · obtain ⟨its,r',pl,hz⟩:=I.list hq
    have hlen:=r'.length
    exact Calls.call_len_list pl.isList (by simp only[List.size_toArray]<;>omega) ⟨.int ys.length,H,I.tok _,⟨s.toks+1,by rw[List.size_toArray,hlen]⟩,q⟩
  · obtain ⟨its,r',pl,hz⟩:=I.tuple hq
    have hlen:=r'.length
    exact len_tuple pl (by simp only[List.size_toArray]<;>omega) ⟨.int ys.length,H,I.tok _,⟨s.toks+1,by rw[List.size_toArray,hlen]⟩,q⟩
theorem lI:bb X (.builtin "len") (fun xs H Q=>∃ z,xs=[.str z]∧z.length≤sizeLine∧Q (.int z.length) H):=by
  intro pins s σ H xs us Q I r h
  obtain ⟨z,rfl,hz,q⟩:=h
  obtain ⟨u,rfl,t,rfl⟩:=vals1 r
  have hn:=iD
  exact len_str (by omega) ⟨.int z.length,H,I.tok _,⟨_,rfl⟩,q⟩
theorem bb.or {f:Value}{r r':List V→Hp→VK→Prop}(h:bb X f r)(h':bb X f r'):bb X f (fun xs H Q=>r xs H Q∨r' xs H Q):=by
  intro pins s σ H xs us Q I rs q
  rcases q with q | q
  · exact h pins s σ H xs us Q I rs q
  · exact h' pins s σ H xs us Q I rs q
theorem e6:bb X (.type "list") (fun xs H Q=>∃ p ys,xs=[.ref p]∧(SqL X.K H p ys∨SqT X.K H p ys)∧∀ l,H l=none→Q (.ref l) (upd H l (.lst ys))):=by
  intro pins s σ H xs us Q I r h
  obtain ⟨p,ys,rfl,hq,q⟩:=h
  obtain ⟨u,rfl,rx⟩:=vals1 r
  cases rx
  have fin:∀ (its:List Value),Vals ys its→ys.length≤sizeLine→∀ (h':Heap) (c':Nat),(∀ b o',s.heap.get? b=some o'→h'.get? b=some o')→
      h'.get? s.heap.objs.size=some { cls:=.type "list", dict:=none,data:=.seq its.toArray c',slots:=#[] }→EP X pins σ Q (.ref s.heap.objs.size) { s with heap:=h' }:=fun its r' hz h' c' kp e=>
    ⟨.ref s.heap.objs.size,_,I.laid (t':=s.toks) kp (Nat.le_refl _) (show bu X.prog X.w _ h' _ (.lst ys) from ⟨hz,its,c',r',e⟩),rfl,q _ (I.hok.fresh (Nat.le_refl _))⟩
  rcases hq with hq | hq
  · obtain ⟨its,r',pl,hz⟩:=I.list hq
    have hlen:=r'.length
    obtain ⟨o,ho,hc,n,hd⟩:=pl.isList
    exact call_list_seq p (.inl rfl) ho hc hd (fun h' c' kp e=>fin its r' hz h' c' kp e) (by simp only[List.size_toArray]<;>omega)
  · obtain ⟨its,r',pl,hz⟩:=I.tuple hq
    have hlen:=r'.length
    obtain ⟨o,ho,hc,n,hd⟩:=pl
    exact call_list_seq p (.inr rfl) ho hc hd (fun h' c' kp e=>fin its r' hz h' c' kp e) (by simp only[List.size_toArray]<;>omega)
theorem a8:bb X (.type "tuple") (fun xs H Q=>∃ p ys,xs=[.ref p]∧((SqL X.K H p ys∧∀ l,H l=none→Q (.ref l) (upd H l (.tup ys)))∨(SqT X.K H p ys∧Q (.ref p) H))):=by
  intro pins s σ H xs us Q I r h
  obtain ⟨p,ys,rfl,h⟩:=h
  obtain ⟨u,rfl,rx⟩:=vals1 r
  cases rx
  rcases h with ⟨hq,q⟩ | ⟨hq,q⟩
  · obtain ⟨its,r',pl,hz⟩:=I.list hq
    have hlen:=r'.length
    refine call_tuple_list pl.isList (fun h' kp=>?_) (by simp only[List.size_toArray]<;>omega)
    have I1:Inv X pins σ H { s with heap:=h' }:=I.kept (t':=s.toks) kp
    have I2:Inv X pins σ (upd H h'.objs.size (.tup ys)) { s with heap:=h'.push { cls:=.type "tuple", data:=.seq its.toArray } }:=
      I1.laid (t':=s.toks) (fun b o e=>Heap.get?_push_of_some _ e) (Nat.le_refl _) (show bu X.prog X.w _ _ _ (.tup ys) from ⟨hz,its,r',mS.new _ _⟩)
    exact ⟨.ref h'.objs.size,_,I2,rfl,q _ (I1.hok.fresh (Nat.le_refl _))⟩
  · obtain ⟨its,r',pl,hz⟩:=I.tuple hq
    exact call_tuple_same pl ⟨.ref p,H,I,rfl,q⟩
def tyV (K:PySem.W.Frag)(T:String)(x:V)(H:Hp):Prop:=match x with
  | .str _=>T = "str"
  | .int _=>T = "int"
  | .ref p=>(T = "list" ∧ ∃ xs,SqL K H p xs)∨(T = "tuple" ∧ ∃ o,K.lookup p=some o∧o.cls=.type "tuple" ∧ o.dict=none)∨
      (T = "dict" ∧ ((∃ kvs,H p=some (.dK kvs))∨∃ kvs,H p=some (.dT kvs)))∨(T = "set" ∧ ∃ S n,H p=some (.set S n))
  | _=>False
theorem tX {pins:List (Addr×Obj)}{σ:St}{H:Hp}{s:Shared}{T:String}{x:V}{v:Value}(I:Inv X pins σ H s)(r:RelV x v)(ty:tyV X.K T x H) :
    s.TypeIs v T∧∀ a,v=.ref a→∃ ob,s.heap.get? a=some ob∧ob.dict=none:=by
  cases x with
  | str z=>
    obtain ⟨t,rfl⟩:=r
    cases (show T = "str" from ty)
    exact ⟨typeIs_str s z t,fun _ e=>nomatch e⟩
  | int i=>
    obtain ⟨t,rfl⟩:=r
    cases (show T = "int" from ty)
    exact ⟨typeIs_int s i t,fun _ e=>nomatch e⟩
  | ref p=>
    cases r
    rcases ty with ⟨rfl,xs,hq⟩ | ⟨rfl,o,hk,hc,hd⟩ | ⟨rfl,hk⟩ | ⟨rfl,S,n,hk⟩
    · obtain ⟨its,_,pl,_⟩:=I.list hq
      refine ⟨pl.isList.typeIs,fun a e=>?_⟩
      cases e
      obtain ⟨o,n,e,c,hd,_⟩:=pl
      exact ⟨o,e,hd⟩
    · refine ⟨⟨o,I.kIn p o hk,hc⟩,fun a e=>?_⟩
      cases e
      exact ⟨o,I.kIn _ o hk,hd⟩
    · have z:∃ o,s.heap.get? p=some o∧o.ExactDict:=by
        rcases hk with ⟨kvs,hk⟩ | ⟨kvs,hk⟩
        · obtain ⟨_,_,_,_,o,_,_,e,ex,_⟩:=I.hok p _ hk
          exact ⟨o,e,ex⟩
        · obtain ⟨_,_,_,_,o,_,_,e,ex,_⟩:=I.hok p _ hk
          exact ⟨o,e,ex⟩
      obtain ⟨o,e,ex⟩:=z
      refine ⟨⟨o,e,ex.1⟩,fun a e2=>?_⟩
      cases e2
      exact ⟨o,e,ex.2.1⟩
    · obtain ⟨o,_,_,_,e,ex,_⟩:=I.hok p _ hk
      refine ⟨⟨o,e,ex.1⟩,fun a e2=>?_⟩
      cases e2
      exact ⟨o,e,ex.2.1⟩
  | _=>exact False.elim ty
def tBM (K:PySem.W.Frag)(T:String)(r:V→List V→Hp→VK→Prop)(to:TE)(t:TA):TE:=fun σ H Q=>to σ H fun x H1=>tyV K T x H1∧t σ H1 fun xs H2=>r x xs H2 Q
variable {o e:Expr} {es:List Expr} {to:TE} {t:TA} {name:Str} {apos cpos:Pos} {T id:String} {r:V→List V→Hp→VK→Prop}
theorem tN (pa:PlainAttrs T)(slot:Slot T name id)(hty:typeOf (.builtin id)=pure (.type "method_descriptor"))(hm:MtR X id r)(ho:PE X o to)(ha:PA X (e::es) t)
    (hbase:attributeBase o name X.env (eval o X.env)=eval o X.env:=by rfl)
    (hfew:((backTo cpos (starEach (e::es) X.env)).all (fun x=>!x.1)&&(backToKw cpos (keywordEach [] X.env)).all (fun x=>x.1.isSome)
      && decide ((e::es).length+([]:List Keyword).length+(if ([]:List Keyword).isEmpty then 0 else 1) < 30))=true:=by rfl)
    (hline:(apos.endLine == cpos.line)=true:=by rfl) (hs:starEach (e::es) X.env=(false,eval e X.env)::starEach es X.env:=by rfl) (hplain:(backTo cpos (starEach es X.env)).any (·.1)=false:=by rfl) :
    PE X (.Call (.Attribute o name apos) (e::es) [] cpos) (tBM X.K T r to t):=by
  intro pins s σ H Q I h
  refine wpAny_Call_method_late hbase hfew hline rfl (thn (ho pins s σ H _ I h) fun v s1 ⟨x,H1,I1,r1,ty,q1⟩=>?_)
  obtain ⟨h1,h2⟩:=tX I1 r1 ty
  refine ⟨T,id,pa,slot,hty,h1,h2,?_⟩
  have hA:=ha cpos pins s1 σ H1 _ I1 q1
  rw[hs] at hA ⊢
  refine Calls.callWith_builtin (by show (false || (backTo cpos (starEach es X.env)).any (·.1))=false;rw[hplain]<;>rfl) (Calls.evalArgs_plain ?_)
  exact thn hA fun us s2 ⟨vs,H2,I2,r2,q2⟩=>hm pins s2 σ H2 x vs v us Q I2 r1 r2 q2
end
end L2
namespace L2
open PySem PySem.Spec PyProof.Rows
def MtM (X:Cx)(id:String)(r:V→List V→Hp→VK→Prop):Prop:=
  ∀ (pins:List (Addr×Obj)) (s:Shared) (σ:St) (H:Hp) (x:V) (xs:List V) (v:Value) (us:List Value) (Q:VK),Inv X pins σ H s→RelV x v→Vals xs us→r x xs H Q→
    wpAny (model X.prog X.w) X.A (call (.builtin id) (v::us)) (EP X pins σ Q) X.xe s
theorem Vals.one:∀ {x:V} {us:List Value},Vals [x] us→∃ u,us=[u]∧RelV x u
  | _,_,.cons r .nil=>⟨_,rfl,r⟩
theorem Vals.zero:∀ {us:List Value},Vals [] us→us=[]
  | _,.nil=>rfl
theorem Vals.eraseIdx:∀ {xs:List V} {us:List Value} (i:Nat),Vals xs us→Vals (xs.eraseIdx i) (us.eraseIdx i)
  | _,_,_,.nil=>.nil
  | _,_,0,.cons _ t=>t
  | _,_,i+1,.cons r t=>.cons r (Vals.eraseIdx i t)
theorem Vals.reverse {xs:List V}{us:List Value}(h:Vals xs us):Vals xs.reverse us.reverse:=by
  induction h with
  | nil=>exact .nil
  | cons r t ih=>rw[List.reverse_cons,List.reverse_cons];exact Vals.append ih (.cons r .nil)
theorem Vals.rep {xs:List V}{us:List Value}(h:Vals xs us):∀ k:Nat,Vals (List.replicate k xs).flatten (List.replicate k us).flatten
  | 0=>.nil
  | k+1=>by
    rw[List.replicate_succ,List.replicate_succ,List.flatten_cons,List.flatten_cons]
    exact Vals.append h (Vals.rep h k)
theorem jQ {α:Type}:∀ (l:List α) (i:Nat),(l.eraseIdx i).length≤l.length
  | [],_=>Nat.le_refl _
  | _::_,0=>Nat.le_succ _
  | _::r,i+1=>Nat.succ_le_succ (jQ r i)
section
variable {X:Cx} {pins:List (Addr×Obj)} {σ:St} {H:Hp} {s:Shared} {l b:Addr} {xs ys zs:List V}
theorem Inv.Aw {its its':List Value}{n:Nat}{f:Array Value→Array Value}{t':Nat}(I:Inv X pins σ H s)(hH:H l=some (.lst xs))
    (e:s.heap.get? l=some { cls:=.type "list", data:=.seq its.toArray n }) (hf:f its.toArray=its'.toArray) (hv:Vals ys its') (hz:ys.length≤sizeLine) :
    Inv X pins σ (upd H l (.lst ys)) { s with heap:=s.heap.update l (Obj.mapSeq f),toks:=t' }:=by
  have q:=PySem.IsL.update e f
  rw[hf] at q
  refine I.write (x:=l) (e:=l) (by rw[hH];exact trivial) (.inl rfl) (fun b' u hb hu=>(Heap.get?_update_other s.heap (Obj.mapSeq f) (Ne.symm hb)).trans hu) ⟨_,q⟩ ?_
  exact ⟨hz,its',_,hv,q⟩
theorem Inv.Cf {its:List Value}{t':Nat}(I:Inv X pins σ H s)(hv:Vals ys its)(hz:ys.length≤sizeLine) :
    Inv X pins σ (upd H s.heap.objs.size (.lst ys)) { s with heap:=s.heap.push { cls:=.type "list", data:=.seq its.toArray },toks:=t' }:=
  I.laid (fun _ _ q=>Heap.get?_push_of_some _ q) (Nat.le_refl _) ⟨hz,its,0,hv,Heap.get?_push_size _ rfl⟩
theorem Inv.fresh (I:Inv X pins σ H s):H s.heap.objs.size=none:=I.hok.fresh (Nat.le_refl _)
theorem Inv.AW (I:Inv X pins σ H s)(hH:H l=some (.lst xs)):xs.length≤sizeLine∧∃ (its:List Value) (n:Nat),Vals xs its∧xs.length=its.length∧s.heap.get? l=some { cls:=.type "list", data:=.seq its.toArray n }:=by
  obtain ⟨z,its,n,r,e⟩:=I.hok l _ hH
  exact ⟨z,its,n,r,r.length,e⟩
end
section
variable {X:Cx}
def vc:V→List V→Hp→VK→Prop:=fun x vs H Q=>∃ l xs y,x=.ref l∧vs=[y]∧H l=some (.lst xs)∧xs.length < sizeLine∧Q .non (upd H l (.lst (xs++[y])))
theorem fP:MtM X "list.append" vc:=by
  intro pins s σ H x vs v us Q I rx rv h
  obtain ⟨l,xs,y,rfl,rfl,hH,hz,q⟩:=h
  cases rx
  obtain ⟨u,rfl,ru⟩:=rv.one
  obtain ⟨z,its,n,r,hl,e⟩:=I.AW hH
  refine call_meets F.slot_list_append ⟨_,e,rfl⟩ F.entry_list_append (F.args_list_append_2 _ _) (PySem.list_append l its.toArray n u (by rw[List.size_toArray];omega)) ⟨e,?_⟩
  refine ⟨.non,_,I.Aw (its':=its++[u]) hH e (by simp) (r.append (.cons ru .nil)) ?_,rfl,q⟩
  rw[List.length_append,List.length_singleton]
  omega
def zf:V→List V→Hp→VK→Prop:=fun x vs H Q=>∃ l xs i k y,x=.ref l∧vs=[.int i]∧H l=some (.lst xs)∧-(2 ^ 63)≤i∧i < 2 ^ 63∧seqIndex? i xs.length=some k∧xs[k]? = some y∧Q y (upd H l (.lst (xs.eraseIdx k)))
theorem uX:MtM X "list.pop" zf:=by
  intro pins s σ H x vs v us Q I rx rv h
  obtain ⟨l,xs,i,k,y,rfl,rfl,hH,h1,h2,hk,hy,q⟩:=h
  cases rx
  obtain ⟨u,rfl,ru⟩:=rv.one
  obtain ⟨t,rfl⟩:=ru
  obtain ⟨z,its,n,r,hl,e⟩:=I.AW hH
  obtain ⟨w,hw,rw'⟩:=r.get hy
  refine call_meets F.slot_list_pop ⟨_,e,rfl⟩ F.entry_list_pop (F.args_list_pop_2 _ _)
    (MeetsSeq.list_pop_at l its.toArray n i t k w (fitsIndex_both h1 h2) (by rw[List.size_toArray,← hl];exact hk) (by rw[← Array.getElem?_toList];exact hw) (by rw[List.size_toArray];omega)) ⟨e,?_⟩
  refine ⟨y,_,I.Aw (its':=its.eraseIdx k) hH e ?_ (r.eraseIdx k) ?_,rw',q⟩
  · show its.toArray.eraseIdxIfInBounds k=(its.eraseIdx k).toArray
    rw[List.eraseIdxIfInBounds_toArray]
  · have:=jQ xs k
    omega
end
section
variable {prog:Program} {w:World} {A:Around} {E:Value→Shared→Prop} {s:Shared}
end
section
variable {X:Cx}
end
end L2
namespace Att
open PySem PySem.W PySem.Calls PyProof.Rows
theorem gw {P:Params}{h:Heap}:∀ (ns:List Int) (vs:List Value),WellAll P h vs (ns.map WData.int)→IntsAre vs ns:=by
  intro ns
  induction ns with
  | nil=>
    intro vs w
    rw[List.map_nil] at w
    cases w
    exact .nil
  | cons n ns ih=>
    intro vs w
    rw[List.map_cons] at w
    cases w with
    | cons a b=>
      cases a
      exact .cons _ _ (ih _ b)
theorem qR {l:OpenLaw}{n:Nat}(hn:l.most=some n){P:Params}{h:Heap}{args:List WData}{vals:List Value}
    (hpre:l.row.toRowW.claim.pre args=true) (hwl:WellAll P h vals args) :
    ∃ a vs ns,vals=[Value.ref a]∧args=[WData.list (ns.map WData.int)]∧h.get? a=some { cls:=.type "list", data:=.seq vs.toArray }∧IntsAre vs ns∧ns.length≤n:=by
  have hsh:WShape.hasAll [] args [.list .int]=true:=(pre_splitW hpre).1
  have hc:l.pre.holds [] { args:=args }=true:=(pre_splitW hpre).2
  obtain ⟨d,r,rfl,h1,h2⟩:=hasAllW_cons hsh
  obtain rfl:=hasAllW_nil h2
  obtain ⟨xs,rfl,h3⟩:=hasW_list h1
  obtain ⟨ns,rfl⟩:=items_int h3
  have hlen:ns.length≤n:=by
    unfold OpenLaw.pre at hc
    have h4:(WTm.not (.lt (.lit (.int (n:Int))) (.len (.arg 0)))).holds [] { args:=[.list (ns.map .int)] }=true:=by
      have h4:=(holds_andW hc).1
      rw[hn] at h4
      exact h4
    have h5:=condW_of h4 (w_not (w_lt w_lit (w_len_list (w_arg rfl))))
    rw[List.length_map] at h5
    refine Nat.le_of_not_lt fun q=>?_
    have q':(n:Int) < ((ns.length:Nat):Int):=by omega
    first
      | (rw[decide_eq_true q'] at h5;exact absurd h5 (by decide))
      | (simp at h5;omega)
  cases hwl with
  | cons w1 w2=>
    cases w2
    cases w1 with
    | list ho hall=>exact ⟨_,_,ns,rfl,rfl,ho,gw ns _ hall,hlen⟩
theorem qe (l:OpenLaw)(args:List WData):l.row.toRowW.claim.post args (.bool true) args=true:=
  postW_of (r:=l.row.toRowW) (X:=(true == true))
    (show WShape.has [] (.bool true) .bool=true by first | rfl | decide | simp[WShape.has,WShape.arms,WShape.armsAll])
    (show (WTm.eq .res (.lit (.bool true))).value [] { args:=args,res:=some (.bool true),after:=args }=some (.bool (true == true)) from w_eq_bool (w_res rfl) w_lit) rfl
theorem mN {l:OpenLaw}{n:Nat}{q:Program}{loose:List Str}{XP:(Str→Option Value)→Heap→Prop}{YP:World→Heap→Prop}{d:DefRec}
    (hn:l.most=some n) (hdf:d.params.defaults=[])
    (call:∀ (w:World) (s₀ s₁:Shared) (mg mb:Str→Option Value) (fa:Addr) (o:Obj) (pm cd doc:Value) (a:Addr) (vs:List Value) (ns:List Int),
      Ground q loose [] XP w s₀ mg mb s₁.heap→YP w s₁.heap→
      s₁.heap.get? fa=some o→o.data=.func (docDef d.name d.params d.body d.scope pm cd doc)→s₁.heap.CodeRec cd d.name→mg d.name=some (.ref fa)→
      s₁.heap.get? a=some { cls:=.type "list", data:=.seq vs.toArray }→IntsAre vs ns→ns.length≤n→s₁.gens = #[]→
      codeAny (model l.prog w) callerA (.call (.ref fa) ⟨[.ref a],[]⟩) (fun r s'=>r=.ok (.ret (.bool true))∧OldK s₁.heap s'.heap∧s'.os=s₁.os∧AllBare s'.gens) s₁) :
    WalkO q loose XP YP l.row.toRowW d [] (fun f vs=>PySem.call f vs):=by
  intro w s₀ s₁ mg mb G Y fa o pm cd doc dV kV ho hd hcd hD hmg hg args vals as hpre hlay hrd hwl hlo
  obtain rfl:dV=.none:=Dflts.none hD hdf
  obtain rfl:kV=.none:=Dflts.noKw hD
  obtain ⟨a,vs,ns,rfl,rfl,hobj,hints,hlen⟩:=qR hn hpre hwl
  refine enter_call (codeAny_mono (call w s₀ s₁ mg mb fa o pm cd doc a vs ns G Y ho (fd_plain hd) hcd hmg hobj hints hlen hg) fun r s' hq=>?_)
  obtain ⟨rfl,h2,h3,h4⟩:=hq
  exact ⟨.inl ⟨.bool true,.bool true,[],rfl,fun _=>rfl,.bool true,qe l _,fun _=>⟨List.Pairwise.nil,fun _ hm=>(nomatch hm)⟩⟩,h2,h3,h4⟩
section
variable {prog:Program} {w:World} {A:Around} {E:Value→Shared→Prop} {s:Shared} {K:Frag}
end
end Att
namespace L2
open PySem PySem.Spec PyProof.Rows
theorem jE:∀ {vs:List Value} {ns:List Int},IntsAre vs ns→Vals (ns.map V.int) vs
  | _,_,.nil=>.nil
  | _,_,.cons n t h=>.cons ⟨t,rfl⟩ (jE h)
def we (H:Hp):Prop:=∀ b,H b=none∨∃ o xs,H b=some (.frz o (.lst xs))
theorem uO {P:Program}{w:World}{K:PySem.W.Frag}{mg mb:Str→Option Value}{CX:CXT}{k:Nat}{fa a:Addr}{fd:FuncData}{x:Str}{sp:Sp}{s₁:Shared}{vs:List Value}{ns:List Int}
    (KX:K.In s₁.heap) (hns:s₁.heap.Ns mainGlobals mg) (hb:s₁.heap.Ns builtinsNs mb) (hbb:∀ x:Str,x ≠ "__name__" → mb x=bootBuiltins x) (hlim:s₁.heap.NoLimit) (hg:s₁.gens = #[])
    (ha:s₁.heap.get? a=some { cls:=.type "list", data:=.seq vs.toArray }) (hi:IntsAre vs ns) (hl:ns.length≤sizeLine) (hr:cz k callerA)
    (F:∀ base:Heap,K.In base→base.Ns mainGlobals mg→dQ P w K mg base CX k fa fd [x] sp) (hbind:∀ (s:Shared) (u:Value),BindsTo s fd ⟨[u],[]⟩ [(x,u)])
    (hsp:∀ H:Hp,we H→SqL K H a (ns.map V.int)→sp [.ref a] H (fun v _=>v=.bl true) fun _ _ _=>False)
    (hCX:∀ H e s',CX [] H s₁ (fun _ _ _=>False) e s'→False) :
    codeAny (model P w) callerA (.call (.ref fa) ⟨[.ref a],[]⟩) (fun r s'=>r=.ok (.ret (.bool true))∧OldK s₁.heap s'.heap∧s'.os=s₁.os∧AllBare s'.gens) s₁:=by
  have rv:=jE hi
  have Cj:=hi.length
  -- from an abstract heap in which nothing but the script may be tracked
  have core:∀ H:Hp,we H→SqL K H a (ns.map V.int)→HOk P w H s₁.heap→(∀ b,H b≠none→b=a)→(H a≠none→K.lookup a=none)→
      codeAny (model P w) callerA (.call (.ref fa) ⟨[.ref a],[]⟩) (fun r s'=>r=.ok (.ret (.bool true))∧OldK s₁.heap s'.heap∧s'.os=s₁.os∧AllBare s'.gens) s₁:=by
    intro H hO hS hok hA hK
    have base_of:∀ {b:Addr} {o:Obj},s₁.heap.get? b=some o→H b=none→(lL s₁.heap H).get? b=some o:=fun e n=>ur e n
    have noA:∀ {b:Addr} {o:Obj} {es:Array DictEntry} {ep:Nat},s₁.heap.get? b=some o→o.data=.dict es ep→H b=none:=fun {b o es ep} e d=>by
      cases q:H b with
      | none=>rfl
      | some u=>
        have e':b=a:=hA b (by rw[q];simp)
        subst e'
        rw[ha] at e;cases e
        have d':Data.seq vs.toArray _=Data.dict es ep:=d
        cases d'
    have nsK:∀ {b:Addr} {m:Str→Option Value},s₁.heap.Ns b m→(lL s₁.heap H).Ns b m:=fun {b m} ⟨o,es,ep,e,d,r⟩=>⟨o,es,ep,base_of e (noA e d),d,r⟩
    have hKb:K.In (lL s₁.heap H):=fun b o e=>base_of (KX b o e) (by
      cases q:H b with
      | none=>rfl
      | some u=>
        have e':b=a:=hA b (by rw[q];simp)
        subst e'
        rw[hK (by rw[q];simp)] at e;cases e)
    have hM:Mod K mg (lL s₁.heap H):=⟨hKb,nsK hns,⟨mb,nsK hb,hbb⟩,let ⟨mc,h1,h2⟩:=hlim;⟨mc,nsK h1,h2⟩⟩
    have e0:oD P w K mg (lL s₁.heap H) callerA [] s₁ H:=⟨rfl,hM,fun b o e=>w4 e,Nat.le_of_eq (qH _ _),trivial,fun b hb=>absurd (show b∈([]:List Addr) from hb) (by simp),hok,.of_eq hg⟩
    refine codeAny_mono ((F _ hKb (nsK hns)).run callerA [] s₁ H ⟨[.ref a],[]⟩ [.ref a] [.ref a] _ _ hr e0 (hbind s₁ (.ref a)) (.cons rfl .nil) (hsp H hO hS)) fun r s' h=>?_
    cases r with
    | error e=>exact (hCX H e s' h).elim
    | ok fl=>
      cases fl with
      | next=>exact False.elim h
      | brk=>exact False.elim h
      | cont=>exact False.elim h
      | ret u=>
        obtain ⟨v,H',os,bare,un,hok',r',q⟩:=h
        have q':v=.bl true:=q
        subst q'
        obtain rfl:u=Value.bool true:=r'
        refine ⟨rfl,OldK.of_keep fun b o e=>?_,os,bare⟩
        cases q:H b with
        | none=>exact un.keep b o e q (by intro z;exact absurd (show b∈([]:List Addr) from z) (by simp)) (by simp)
        | some u=>
          rcases hO b with z | ⟨ob,xs,z⟩
          · rw[q] at z;cases z
          · have z2:=un.eZ b ob _ z
            obtain ⟨e1,_⟩:=hok b _ z
            obtain ⟨e2,_⟩:=hok' b _ z2
            rw[e] at e1;cases e1
            exact e2
  cases hk:K.lookup a with
  | some o=>
    -- the script is one of the module's own objects
    have e:=KX a o hk
    rw[ha] at e
    cases e
    refine core (fun _=>none) (fun _=>.inl rfl) (.inr ⟨_,vs.toArray,_,hk,rfl,rfl,rfl,by rw[List.size_toArray,Cj];exact hl,by simpa using rv⟩) (fun b u z=>by have z':(none:Option HO)=some u:=z;cases z') (fun b z=>absurd rfl z) fun z=>absurd rfl z
  | none=>
    refine core (fun b=>if b=a then some (.frz { cls:=.type "list", data:=.seq vs.toArray } (.lst (ns.map V.int))) else none) (fun b=>?_) (.inl (.inr ⟨{ cls:=.type "list", data:=.seq vs.toArray },if_pos rfl⟩)) (fun b u z=>?_) (fun b z=>?_) fun _=>hk
    · by_cases hb:b=a
      · exact .inr ⟨_,_,if_pos hb⟩
      · exact .inl (if_neg hb)
    · by_cases hb:b=a
      · have z':=(if_pos hb).symm.trans z
        cases z'
        subst hb
        exact ⟨ha,by rw[List.length_map];exact hl,vs,_,rv,ha⟩
      · have z':=(if_neg hb).symm.trans z
        cases z'
    · by_cases hb:b=a
      · exact hb
      · exact absurd (if_neg hb) z
end L2
namespace L2
open PySem PySem.Spec PyProof.Rows
theorem vA {l:PySem.W.OpenLaw}{n k:Nat}{q:Program}{loose:List Str}{XP:(Str→Option Value)→Heap→Prop}{YP:World→Heap→Prop}{d:DefRec}{K:Params→PySem.W.Frag}{CX:World→CXT}{sp:World→Sp}{x:Str}
    (hn:l.most=some n) (hn2:n≤sizeLine) (hdf:d.params.defaults=[]) (hr:cz k callerA)
    (hY:∀ (w:World) (h:Heap),YP w h→(K w.params).In h)
    (F:∀ (w:World) (mg:Str→Option Value) (fa:Addr) (h:Heap),(K w.params).In h→h.Ns mainGlobals mg→mg d.name=some (.ref fa)→
      ∃ fd:FuncData,(∀ (s:Shared) (u:Value),BindsTo s fd ⟨[u],[]⟩ [(x,u)])∧
        ∀ base:Heap,(K w.params).In base→base.Ns mainGlobals mg→dQ l.prog w (K w.params) mg base (CX w) k fa fd [x] (sp w))
    (hsp:∀ (w:World) (H:Hp) (a:Addr) (ns:List Int),ns.length≤n→we H→SqL (K w.params) H a (ns.map V.int)→sp w [.ref a] H (fun v _=>v=.bl true) fun _ _ _=>False)
    (hCX:∀ (w:World) (H:Hp) (s:Shared) (e:Value) (s':Shared),CX w [] H s (fun _ _ _=>False) e s'→False) :
    PySem.W.WalkO q loose XP YP l.row.toRowW d [] (fun f vs=>PySem.call f vs):=by
  refine Att.mN hn hdf fun w s₀ s₁ mg mb fa o pm cd doc a vs ns G Y ho hd hcd hmg hobj hints hlen hg=>?_
  have KX:=hY w _ Y
  obtain ⟨fd,hb,hF⟩:=F w mg fa _ KX G.T.g hmg
  exact uO KX G.T.g G.T.b G.T.builtins G.T.nolimit hg hobj hints (Nat.le_trans hlen hn2) hr hF hb (fun H hO hS=>hsp w H a ns hlen hO hS) fun H e s'=>hCX w H s₁ e s'
end L2
namespace L2
open PySem PySem.Spec PyProof.Rows
def fz (s:Stmt):Arguments:=match s with
  | .FunctionDef _ a _ _ _ _ _ _ _ _=>a
  | _=>{ posonlyargs:=[],args:=[],vararg:=none,kwonlyargs:=[],kw_defaults:=[],kwarg:=none,defaults:=[] }
def cT (s:Stmt):List Stmt:=match s with
  | .FunctionDef _ _ b _ _ _ _ _ _ _=>b
  | _=>[]
def ar (s:Stmt):Scope:=match s with
  | .FunctionDef _ _ _ _ _ _ sc _ _ _=>sc
  | _=>{ kind:=.function,names:=[],isGenerator:=false,isCoroutine:=false }
abbrev CX0:CXT:=fun _ _ _ _ _ _=>False
abbrev E0:XK:=fun _ _ _=>False
theorem BC {X:Cx}:Passes CX0 X E0:=fun _ _ _ _ _ _ _ h=>h.elim
structure Fun (K:PySem.W.Frag) (x qual:Str) (st:Stmt) (f:Addr) (fd:FuncData):Prop where
  ex:∃ (oc:Value) (od:Option Addr) (kV doc pm:Value) (an:Option Addr) (cdv ct:Value) (osl:Array (Option Value)),
    fd=PySem.W.fnOf x qual (fz st) (cT st) (ar st) .none kV doc pm an cdv ct∧K.lookup f=some ⟨oc,od,.func fd,osl⟩∧PySem.W.codeIn K cdv qual=true
  kp:PySem.W.keepIn K (.ref f)=true
section
variable {P:Program} {w:World} {K:PySem.W.Frag} {mg:Str→Option Value} {base:Heap}
theorem Fun.ok {x qual:Str}{st:Stmt}{f:Addr}{fd:FuncData}{N ps:List Str}{k:Nat}{sp:Sp}(F:Fun K x qual st f fd)(S:a6 N ps (ar st))(len:∀ vs H Q E,sp vs H Q E→vs.length=ps.length)
    (hbody:∀ (cdv:Value) (A:Around) (outer:List Env) (s:Shared) (H:Hp) (vs:List V) (Q:VK) (E:XK),cz k (A.deeper (envOfC qual (ar st) s.heap.objs.size f cdv))→sp vs H Q E→
      ∃ t,PSs (lO CX0 P w K mg base N qual (ar st) f cdv A outer s H E).nox (cT st) t∧t { nx:=fun _ H'=>Q .non H',rt:=Q } (start N vs) H):dQ P w K mg base CX0 (k+1) f fd ps sp:=by
  obtain ⟨oc,od,kV,doc,pm,an,cdv,ct,osl,rfl,lk,hcd⟩:=F.ex
  refine Bt lk hcd S len fun A outer s H vs Q E hr hsp=>?_
  obtain ⟨t,h,q⟩:=hbody cdv A outer s H vs Q E hr hsp
  exact ⟨t,h.nox,q⟩
theorem Fun.binds {x qual:Str}{st:Stmt}{f:Addr}{fd:FuncData}{ps:List Str}(F:Fun K x qual st f fd)
    (h:∀ (kV doc pm:Value) (an:Option Addr) (cdv ct:Value) (us:List Value),us.length=ps.length→bindArgs (PySem.W.fnOf x qual (fz st) (cT st) (ar st) .none kV doc pm an cdv ct) ⟨us,[]⟩=pure (ps.zip us)):Binds K fd ps []:=by
  obtain ⟨oc,od,kV,doc,pm,an,cdv,ct,osl,rfl,lk,hcd⟩:=F.ex
  exact .all (h kV doc pm an cdv ct)
theorem cC {x qual:Str}{st:Stmt}{f:Addr}{oc:Value}{od an:Option Addr}{osl:Array (Option Value)}{kV doc pm cdv ct:Value}(l:K.lookup f=some ⟨oc,od,.func (PySem.W.fnOf x qual (fz st) (cT st) (ar st) .none kV doc pm an cdv ct),osl⟩)
    (c:PySem.W.codeIn K cdv qual=true) (k:PySem.W.keepIn K (.ref f)=true):Fun K x qual st f (PySem.W.fnOf x qual (fz st) (cT st) (ar st) .none kV doc pm an cdv ct):=⟨⟨oc,od,kV,doc,pm,an,cdv,ct,osl,rfl,l,c⟩,k⟩
end
section
variable {X:Cx}
theorem pv (i:Nat){x:Str}{pos:Pos}(hN:X.N[i]? = some x:=by rfl)(hv:Vis X.env.scope x:=by first | exact Or.inl rfl | exact Or.inr (Or.inl rfl) | exact Or.inr (Or.inr rfl))(hd:(x == ("__debug__" : Str))=false:=by decide)
    (hcd:(x == ("__classdict__" : Str))=false:=by decide):PE X (.Name x pos) (A0 i):=tR hN hv hd hcd
end
theorem mw {A B:Prop}(h:B):if false=true then A else B:=by
  rw[if_neg Bool.false_ne_true]
  exact h
theorem l6 {A B:Prop}(h:A):if true=true then A else B:=by
  rw[if_pos rfl]
  exact h
def jy (H H':Hp):Prop:=∀ b o,H b=some o→H' b=some o
theorem jy.refl (H:Hp):jy H H:=fun _ _ h=>h
theorem jy.trans {H H1 H2:Hp}(a:jy H H1)(b:jy H1 H2):jy H H2:=fun c o h=>b c o (a c o h)
theorem jy.free {H H':Hp}(e:jy H H'){l:Addr}(h:H' l=Option.none):H l=Option.none:=by
  cases q:H l with
  | none=>rfl
  | some o=>
    rw[e l o q] at h
    cases h
theorem jy.seq {K:PySem.W.Frag}{H H':Hp}{a:Addr}{xs:List V}(e:jy H H')(h:SqL K H a xs):SqL K H' a xs:=by
  rcases h with (h | ⟨o,h⟩) | h
  · exact .inl (.inl (e _ _ h))
  · exact .inl (.inr ⟨o,e _ _ h⟩)
  · exact .inr h
end L2
namespace L2
open PySem PySem.Spec PyProof.Rows
section
variable {κ:Type} [DecidableEq κ]
def cX (kvs:List (κ×V))(k:κ):Option V:=(kvs.find? fun kv=>decide (kv.1=k)).map (·.2)
def putK (kvs:List (κ×V))(k:κ)(v:V):List (κ×V):=
  if (kvs.any fun kv=>decide (kv.1=k))=true then kvs.map (fun kv=>if kv.1=k then (kv.1,v) else kv) else kvs++[(k,v)]
def xG (kvs:List (κ×V))(k:κ):List (κ×V):=kvs.filter fun kv=>decide (kv.1≠k)
theorem e7 {p:κ×V}{r:List (κ×V)}{k:κ}(e:p.1=k):cX (p::r) k=some p.2:=by simp[cX,List.find?_cons,e]
theorem fu {p:κ×V}{r:List (κ×V)}{k:κ}(e:¬ p.1=k):cX (p::r) k=cX r k:=by simp[cX,List.find?_cons,e]
theorem ib (k:κ):∀ kvs:List (κ×V),(kvs.any fun kv=>decide (kv.1=k))=(cX kvs k).isSome
  | []=>rfl
  | p::r=>by
    rw[List.any_cons]
    by_cases e:p.1=k
    · simp only[e7 e,decide_eq_true e,Bool.true_or,Option.isSome_some]
    · rw[fu e,decide_eq_false e,Bool.false_or];exact ib k r
theorem dY (kvs:List (κ×V))(k:κ)(v:V):(putK kvs k v).length≤kvs.length+1:=by
  unfold putK
  split
  · rw[List.length_map];omega
  · rw[List.length_append,List.length_cons,List.length_nil];omega
theorem uk {kvs:List (κ×V)}{k:κ}(v:V)(h:cX kvs k=none):putK kvs k v=kvs++[(k,v)]:=by
  unfold putK
  rw[ib,h]
  exact if_neg (by decide)
theorem gs.qN {o:Option V}{u:Option Value}(r:gs o u):o.isSome=u.isSome:=by
  cases o with
  | none=>cases u with
    | none=>rfl
    | some _=>exact (show False from r).elim
  | some _=>cases u with
    | none=>exact (show False from r).elim
    | some _=>rfl
theorem gs.getD {o:Option V}{u:Option Value}{d:V}{d':Value}(r:gs o u)(rd:RelV d d'):RelV (o.getD d) (u.getD d'):=by
  cases o with
  | none=>cases u with
    | none=>exact rd
    | some _=>exact (show False from r).elim
  | some _=>cases u with
    | none=>exact (show False from r).elim
    | some _=>exact r
theorem KV.val {kvs:List (κ×V)}{vs:List (κ×Value)}(r:KV kvs vs)(k:κ):gs (cX kvs k) (valueAt vs k):=by
  unfold KV at r
  induction r with
  | nil=>exact True.intro
  | @cons p q ps qs h t ih=>
    obtain ⟨h1,h2⟩:=h
    by_cases e:p.1=k
    · have e':q.1=k:=h1.symm.trans e
      have b:valueAt (q::qs) k=some q.2:=by simp[valueAt,List.find?_cons,e']
      rw[e7 e,b];exact h2
    · have e':¬ q.1=k:=fun z=>e (h1.trans z)
      have b:valueAt (q::qs) k=valueAt qs k:=by simp[valueAt,List.find?_cons,e']
      rw[fu e,b];exact ih
theorem KV.any {kvs:List (κ×V)}{vs:List (κ×Value)}(r:KV kvs vs)(k:κ):(kvs.any fun kv=>decide (kv.1=k))=vs.any fun kv=>decide (kv.1=k):=by
  unfold KV at r
  induction r with
  | nil=>rfl
  | cons h t ih=>rw[List.any_cons,List.any_cons,ih,h.1]
theorem KV.z0 {kvs:List (κ×V)}{vs:List (κ×Value)}(r:KV kvs vs)(k:κ){y:V}{u:Value}(ry:RelV y u) :
    KV (kvs.map fun kv=>if kv.1=k then (kv.1,y) else kv) (vs.map fun kv=>if kv.1=k then (kv.1,u) else kv):=by
  unfold KV at r ⊢
  induction r with
  | nil=>exact .nil
  | @cons p q ps qs h t ih=>
    rw[List.map_cons,List.map_cons]
    refine .cons ?_ ih
    obtain ⟨h1,h2⟩:=h
    by_cases e:p.1=k
    · rw[if_pos e,if_pos (h1.symm.trans e)];exact ⟨h1,ry⟩
    · rw[if_neg e,if_neg (fun z=>e (h1.trans z))];exact ⟨h1,h2⟩
theorem KV.put {kvs:List (κ×V)}{vs:List (κ×Value)}(r:KV kvs vs)(k:κ){y:V}{u:Value}(ry:RelV y u):KV (putK kvs k y) (stored vs k u):=by
  unfold putK stored
  rw[r.any k]
  by_cases e:(vs.any fun kv=>decide (kv.1=k))=true
  · rw[if_pos e,if_pos e];exact r.z0 k ry
  · rw[if_neg e,if_neg e];exact Paired.snoc r ⟨rfl,ry⟩
theorem KV.drop {kvs:List (κ×V)}{vs:List (κ×Value)}(r:KV kvs vs)(k:κ):KV (xG kvs k) (without vs k):=by
  unfold KV at r ⊢
  unfold xG without
  induction r with
  | nil=>exact .nil
  | @cons p q ps qs h t ih=>
    obtain ⟨h1,h2⟩:=h
    rw[List.filter_cons,List.filter_cons]
    by_cases e:p.1=k
    · have a:¬ decide (p.1≠k)=true:=by simp[e]
      have b:¬ decide (q.1≠k)=true:=by simp[h1.symm.trans e]
      rw[if_neg a,if_neg b];exact ih
    · have e':¬ q.1=k:=fun z=>e (h1.trans z)
      have a:decide (p.1≠k)=true:=by simp[e]
      have b:decide (q.1≠k)=true:=by simp[e']
      rw[if_pos a,if_pos b];exact .cons ⟨h1,h2⟩ ih
theorem KV.keys {kvs:List (κ×V)}{vs:List (κ×Value)}(r:KV kvs vs):kvs.map (·.1)=vs.map (·.1):=by
  unfold KV at r
  induction r with
  | nil=>rfl
  | cons h t ih=>rw[List.map_cons,List.map_cons,ih,h.1]
theorem KV.length {kvs:List (κ×V)}{vs:List (κ×Value)}(r:KV kvs vs):kvs.length=vs.length:=Paired.length r
end
theorem mv {P:Program}{w:World}{k:Key}{u:Value}(r:RelV (kV k) u):(aM P w).is k u=true:=by
  cases k with
  | inl i=>obtain ⟨t,e⟩:=(show ∃ t,u=Value.int i t from r);subst e;exact lZ P w i t
  | inr x=>obtain ⟨t,e⟩:=(show ∃ t,u=Value.str x t from r);subst e;exact l8 P w x t
theorem ka {P:Program}{w:World}:∀ {ks:List Key} {us:List Value},Vals (ks.map kV) us→ItemsAre (aM P w) ks us
  | [],_,r=>by rw[List.map_nil] at r;cases r;exact .nil
  | k::ks,_,r=>by
    rw[List.map_cons] at r
    cases r with
    | cons h t=>exact .cons (mv h) (ka t)
abbrev KT (H:Hp):List (List Key×V)→List (List Key×Addr×Value)→Prop:=Paired fun p q=>p.1=q.1∧H q.2.1=some (.tup (p.1.map kV))∧RelV p.2 q.2.2
theorem KT.val {H:Hp}{kvs:List (List Key×V)}{xs:List (List Key×Addr×Value)}(r:KT H kvs xs)(k:List Key):gs (cX kvs k) ((atKey xs k).map (·.2)):=by
  induction r with
  | nil=>exact True.intro
  | @cons p q ps qs h t ih=>
    obtain ⟨h1,_,h2⟩:=h
    by_cases e:p.1=k
    · have e':q.1=k:=h1.symm.trans e
      have b:atKey (q::qs) k=some q.2:=by simp[atKey,List.find?_cons,e']
      rw[e7 e,b];exact h2
    · have e':¬ q.1=k:=fun z=>e (h1.trans z)
      have b:atKey (q::qs) k=atKey qs k:=by simp[atKey,List.find?_cons,e']
      rw[fu e,b];exact ih
theorem KT.z0 {H:Hp}{kvs:List (List Key×V)}{xs:List (List Key×Addr×Value)}(r:KT H kvs xs)(k:List Key){y:V}{u:Value}(ry:RelV y u) :
    KT H (kvs.map fun kv=>if kv.1=k then (kv.1,y) else kv) (xs.map (putAt k u)):=by
  induction r with
  | nil=>exact .nil
  | @cons p q ps qs h t ih=>
    rw[List.map_cons,List.map_cons]
    refine .cons ?_ ih
    obtain ⟨h1,h2,h3⟩:=h
    unfold putAt
    by_cases e:p.1=k
    · rw[if_pos e,if_pos (h1.symm.trans e)];exact ⟨h1,h2,ry⟩
    · rw[if_neg e,if_neg (fun z=>e (h1.trans z))];exact ⟨h1,h2,h3⟩
theorem KT.put {H:Hp}{kvs:List (List Key×V)}{xs:List (List Key×Addr×Value)}(r:KT H kvs xs)(k:List Key){b:Addr}{y:V}{u:Value}(hb:H b=some (.tup (k.map kV)))(ry:RelV y u) :
    KT H (putK kvs k y) (storedH xs k b u):=by
  have e:(kvs.any fun kv=>decide (kv.1=k))=(atKey xs k).isSome:=by
    rw[ib,(r.val k).qN,Option.isSome_map]
  unfold putK storedH
  rw[e]
  by_cases q:(atKey xs k).isSome=true
  · rw[if_pos q,if_pos q];exact r.z0 k ry
  · rw[if_neg q,if_neg q];exact Paired.snoc r ⟨rfl,hb,ry⟩
theorem KT.keeps {H H':Hp}{kvs:List (List Key×V)}{xs:List (List Key×Addr×Value)}(r:KT H kvs xs)(ht:∀ b ys,H b=some (.tup ys)→H' b=some (.tup ys)):KT H' kvs xs:=
  Paired.Ak r fun _ _ z=>⟨z.1,ht _ _ z.2.1,z.2.2⟩
section
variable {P:Program} {w:World} {H:Hp} {h:Heap} {a:Addr}
theorem xU {u:HO}(ok:HOk P w H h)(e:Rd H a u):bu P w H h a u:=e.ok ok
theorem tJ {kvs:List (Key×V)}(ok:HOk P w H h)(e:Rd H a (.dK kvs)):kvs.length≤sizeLine∧(a == sysModules)=false∧∃ vs,KV kvs vs∧h.DictOf (aM P w) a vs:=
  show bu P w H h a (.dK kvs) from xU ok e
theorem xN {kvs:List (Key×V)}(ok:HOk P w H h)(e:H a=some (.dK kvs)):kvs.length≤sizeLine∧(a == sysModules)=false∧∃ vs,KV kvs vs∧h.DictOf (aM P w) a vs:=tJ ok (.inl e)
theorem ny {ks:List Key}(ok:HOk P w H h)(e:H a=some (.tup (ks.map kV))):(tupleKind (aM P w)).is h ks a:=by
  obtain ⟨_,its,r,n,h1⟩:=(show bu P w H h a (.tup (ks.map kV)) from ok a _ e)
  exact ⟨_,its.toArray,n,h1,rfl,rfl,by simpa using ka r⟩
theorem sL {kvs:List (List Key×V)}(ok:HOk P w H h)(e:Rd H a (.dT kvs)):kvs.length≤sizeLine∧(a == sysModules)=false∧
    ∃ xs,KT H kvs xs∧h.DictOfH (tupleKind (aM P w)) a xs:=by
  obtain ⟨z,y,xs,r,o,es,ep,h1,h2,h3,h4,h5⟩:=(show bu P w H h a (.dT kvs) from xU ok e)
  refine ⟨z,y,xs,r,o,es,ep,h1,h2,h3,h4,fun x hx=>?_,h5⟩
  have all:∀ {l:List (List Key×V)} {m:List (List Key×Addr×Value)},KT H l m→∀ x∈m,(tupleKind (aM P w)).is h x.1 x.2.1:=by
    intro l m q
    induction q with
    | nil=>intro x hx;exact nomatch hx
    | @cons p q ps qs hq t ih=>
      intro x hx
      rcases List.mem_cons.mp hx with e | hx
      · subst e
        exact ny ok (by rw[← hq.1];exact hq.2.1)
      · exact ih x hx
  exact all r x hx
theorem AO {kvs:List (List Key×V)}(ok:HOk P w H h)(e:H a=some (.dT kvs)):kvs.length≤sizeLine∧(a == sysModules)=false∧
    ∃ xs,KT H kvs xs∧h.DictOfH (tupleKind (aM P w)) a xs:=sL ok (.inl e)
end
def ji (H:Hp)(a:Addr)(y:V)(r:Option V):Prop:=
  (∃ kvs k,Rd H a (.dK kvs)∧y=kV k∧r=cX kvs k)∨∃ kvs k b,Rd H a (.dT kvs)∧y=.ref b∧H b=some (.tup (k.map kV))∧r=cX kvs k
def kF (H:Hp)(a:Addr)(y v:V)(H':Hp):Prop:=
  (∃ kvs k,H a=some (.dK kvs)∧y=kV k∧kvs.length < sizeLine∧H'=upd H a (.dK (putK kvs k v)))∨
  ∃ kvs k b,H a=some (.dT kvs)∧y=.ref b∧H b=some (.tup (k.map kV))∧kvs.length < sizeLine∧H'=upd H a (.dT (putK kvs k v))
theorem ji.k {H:Hp}{a:Addr}{kvs:List (Key×V)}{k:Key}(e:H a=some (.dK kvs)):ji H a (kV k) (cX kvs k):=.inl ⟨kvs,k,.inl e,rfl,rfl⟩
theorem ji.t {H:Hp}{a b:Addr}{kvs:List (List Key×V)}{k:List Key}(e:H a=some (.dT kvs))(eb:H b=some (.tup (k.map kV))):ji H a (.ref b) (cX kvs k):=.inr ⟨kvs,k,b,.inl e,rfl,eb,rfl⟩
theorem kF.k {H:Hp}{a:Addr}{kvs:List (Key×V)}{k:Key}{v:V}(e:H a=some (.dK kvs))(hl:kvs.length < sizeLine):kF H a (kV k) v (upd H a (.dK (putK kvs k v))):=.inl ⟨kvs,k,e,rfl,hl,rfl⟩
theorem kF.t {H:Hp}{a b:Addr}{kvs:List (List Key×V)}{k:List Key}{v:V}(e:H a=some (.dT kvs))(eb:H b=some (.tup (k.map kV)))(hl:kvs.length < sizeLine) :
    kF H a (.ref b) v (upd H a (.dT (putK kvs k v))):=.inr ⟨kvs,k,b,e,rfl,eb,hl,rfl⟩
section
variable {X:Cx} {pins:List (Addr×Obj)} {σ:St} {H:Hp} {s:Shared} {a:Addr} {y v:V} {u r:Value} {o:Option V} {A:Around} {E:Value→Shared→Prop}
theorem Inv.big (I:Inv X pins σ H s):sysModules < s.heap.objs.size:=by
  have h:mainGlobals < s.heap.objs.size:=(I.mod.glob.keeps I.bk).lt
  exact Nat.lt_trans (by decide) h
theorem j9 {Q:Value→Shared→Prop}(hu:A.units+1 < cLine)(I:Inv X pins σ H s)(g:ji H a y (some v))(ry:RelV y u)(h:∀ w' s',Inv X pins σ H s'→RelV v w'→Q w' s') :
    wpAny (model X.prog X.w) A (getItem (.ref a) u) Q E s:=by
  rcases g with ⟨kvs,k,e,ey,l⟩ | ⟨kvs,k,b,e,ey,eb,l⟩
  · subst ey
    obtain ⟨z,hd,vs,rel,dd⟩:=tJ I.hok e
    obtain ⟨w',hw,rw'⟩:=gs.some_of (v:=v) (o:=valueAt vs k) (by rw[l];exact rel.val k)
    exact wpAny_getItem_of (mv ry) dd.mapOf hw (h w' _ (I.tok _) rw')
  · subst ey
    cases (show u=Value.ref b from ry)
    obtain ⟨z,hd,xs,rel,dd⟩:=sL I.hok e
    obtain ⟨w',hw,rw'⟩:=gs.some_of (v:=v) (o:=(atKey xs k).map (·.2)) (by rw[l];exact rel.val k)
    obtain ⟨p,hp,hp2⟩:=Option.map_eq_some_iff.mp hw
    refine wpAny_getItem_heap (tupleKind_room_in1 hu) (ny I.hok eb) dd hp ?_
    rw[hp2]
    exact h w' _ (I.tok _) rw'
theorem lM {h':Heap}{t':Nat}{ob:HO}(I:Inv X pins σ H s)(mu:Mut (H a))(hs:Heap.SameBut a s.heap h')(he:∃ q,h'.get? a=some q)(new:bu X.prog X.w (upd H a ob) h' a ob) :
    Inv X pins σ (upd H a ob) { s with heap:=h',toks:=t' }:=
  I.write (x:=a) (e:=a) mu (.inl rfl) (fun b q hb z=>(hs.2 b hb).trans z) he new
theorem m4 {P:Program}{w:World}{H':Hp}{h':Heap}{kvs:List (Key×V)}{vs:List (Key×Value)}(z:kvs.length≤sizeLine)(hd:(a == sysModules)=false)(rel:KV kvs vs)(dd:h'.DictOf (aM P w) a vs) :
    bu P w H' h' a (.dK kvs):=⟨z,hd,vs,rel,dd⟩
theorem jX {H':Hp}{Q:Unit→Shared→Prop}(hu:A.units+1 < cLine)(I:Inv X pins σ H s)(g:kF H a y v H')(ry:RelV y u)(rv:RelV v r)(h:∀ s',Inv X pins σ H' s'→Q () s') :
    wpAny (model X.prog X.w) A (setItem (.ref a) u r) Q E s:=by
  rcases g with ⟨kvs,k,e,ey,l,eH⟩ | ⟨kvs,k,b,e,ey,eb,l,eH⟩
  · subst ey eH
    obtain ⟨z,hd,vs,rel,dd⟩:=xN I.hok e
    have hz:vs.length≤sizeLine:=by rw[← rel.length];exact z
    have hl:(putK kvs k v).length≤sizeLine:=by have:=dY kvs k v;omega
    refine wpAny_setItem_pairs (hsz:=hz) (mv ry) dd fun h' dd' hs=>h _ ?_
    have he:∃ q,h'.get? a=some q:=let ⟨q,_,_,hq,_⟩:=dd';⟨q,hq⟩
    exact lM I (by rw[e];exact True.intro) hs he (m4 hl hd (rel.put k rv) dd')
  · subst ey eH
    cases (show u=Value.ref b from ry)
    obtain ⟨z,hd,xs,rel,dd⟩:=AO I.hok e
    have hz:xs.length≤sizeLine:=by rw[← Paired.length rel];exact z
    have hl:(putK kvs k v).length≤sizeLine:=by have:=dY kvs k v;omega
    refine wpAny_setItem_heap (hsz:=hz) (tupleKind_room_in1 hu) (ny I.hok eb) dd fun h' dd' hs=>h _ ?_
    obtain ⟨q,es,ep,hq,h2,h3,h4,_,h5⟩:=dd'
    refine lM I (by rw[e];exact True.intro) hs ⟨q,hq⟩ ⟨hl,hd,_,(rel.put k eb rv).keeps fun c ys ec=>?_,q,es,ep,hq,h2,h3,h4,h5⟩
    rw[ay (BH ec e (fun z=>nomatch z))]
    exact ec
end
section
variable {X:Cx} {pins:List (Addr×Obj)} {σ:St} {H:Hp} {s:Shared} {a:Addr} {kvs:List (Key×V)} {k:Key} {u:Value} {A:Around} {E:Value→Shared→Prop}
end
def zc (i:Expr):Prop:=∀ ov iv,subscripted i false ov iv=operate [ov,iv] (getItem ov iv)
theorem vD {prog:Program}{w:World}{A:Around}{E:Value→Shared→Prop}{s:Shared}{env:Env}{value slice:Expr}{pos:Pos}{T id:String}{Q:Value→Shared→Prop}
    (hl:typeLookup (.type T) "__getitem__" = pure (some (.builtin id))) (hs:zc slice)
    (h:wpAny (model prog w) A (eval value env) (fun o s₁=>wpAny (model prog w) A (eval slice env) (fun i s₂=>s₂.TypeIs o T∧wpAny (model prog w) A (getItem o i) Q E s₂) E s₁) E s) :
    wpAny (model prog w) A (eval (.Subscript value slice pos) env) Q E s:=by
  refine Subscript_ (wpAny_mono h (fun o s₁ h₁=>wpAny_mono h₁ (fun i s₂ h₂=>?_) fun _ _ x=>x) fun _ _ x=>x)
  obtain ⟨hT,h₂⟩:=h₂
  unfold subscriptTail
  refine wpAny_bind ?_
  rw[getitemInPython_of_ne hT.not_modules]
  refine wpAny_bind (wpAny_specialOf hT hl ?_)
  have fin:wpAny (model prog w) A (subscripted slice false o i) (fun r s₃=>wpAny (model prog w) A (letTemporaryGo value o r >>= fun _=>pure r) Q E s₃) E s₂:=by
    rw[hs o i]
    exact wpAny_operating (wpAny_mono h₂ (fun r s₃ h₃=>wpAny_bind (wpAny_letTemporaryGo (wpAny_pure h₃))) fun _ _ x=>x)
  first
    | exact wpAny_pure (wpAny_bind fin)
    | exact wpAny_bind (wpAny_pure (wpAny_bind fin))
    | exact wpAny_bind fin
theorem lQ {X:Cx}{pins:List (Addr×Obj)}{σ:St}{H:Hp}{s:Shared}{a:Addr}{y:V}{o:Option V}(I:Inv X pins σ H s)(g:ji H a y o):s.TypeIs (.ref a) "dict" := by
  rcases g with ⟨kvs,k,e,_,_⟩ | ⟨kvs,k,b,e,_,_,_⟩
  · obtain ⟨_,_,vs,_,dd⟩:=tJ I.hok e
    exact dd.typeIs
  · obtain ⟨_,_,xs,_,dd⟩:=sL I.hok e
    exact dd.typeIs
def BI (td ty:TE):TE:=fun σ H Q=>td σ H fun x H1=>ty σ H1 fun y H2=>∃ a v,x=.ref a∧ji H2 a y (some v)∧Q v H2
def Bs (td ty tv:TE):TS:=fun D σ H=>tv σ H fun v H1=>td σ H1 fun x H2=>ty σ H2 fun y H3=>∃ a H4,x=.ref a∧kF H3 a y v H4∧D.nx σ H4
def xS (td ty tv:TE)(rd:V→V→Hp→VK→Prop):TS:=fun D σ H=>td σ H fun x H1=>ty σ H1 fun y H2=>∃ a v,x=.ref a∧ji H2 a y (some v)∧
  tv σ H2 fun y2 H3=>rd v y2 H3 fun z H4=>∃ H5,kF H4 a y z H5∧D.nx σ H5
section
variable {X:Cx} {o i e value:Expr} {pos pos' tpos:Pos} {td ty tv:TE}
theorem vp (hu:X.A.units+1 < cLine)(ho:PE X o td)(hi:PE X i ty)(hs:zc i):PE X (.Subscript o i pos) (BI td ty):=by
  intro pins s σ H Q I h
  refine vD PySem.F.slot_dict_getitem.lookup hs (thn (ho pins s σ H _ I h) fun u s1 ⟨x,H1,I1,rx,q1⟩=>thn (hi pins s1 σ H1 _ I1 q1) fun iv s2 ⟨y,H2,I2,ry,a,v,ex,g,q2⟩=>?_)
  subst ex
  obtain rfl:u=Value.ref a:=rx
  exact ⟨lQ I2 g,j9 hu I2 g ry fun w' s3 I3 rw'=>⟨v,H2,I3,rw',q2⟩⟩
theorem xp (hu:X.A.units+1 < cLine)(ho:PE X o td)(hi:PE X i ty)(hv:PE X value tv)(hs:swapsWith value (some (.Subscript o i pos')) pos.line X.env=pure false) :
    PS X (.Assign [.Subscript o i pos'] value pos) (Bs td ty tv):=by
  intro pins s σ H D I h
  refine wpAny_Assign_Subscript (thn (hv pins s σ H _ I h) fun r s1 ⟨v,H1,I1,rv,q1⟩=>thn (ho pins s1 σ H1 _ I1 q1) fun u s2 ⟨x,H2,I2,rx,q2⟩=>thn (hi pins s2 σ H2 _ I2 q2) fun iv s3 ⟨y,H3,I3,ry,a,H4,ex,g,q3⟩=>?_) hs
  subst ex
  obtain rfl:u=Value.ref a:=rx
  exact jX hu I3 g ry rv fun s4 I4=>⟨σ,H4,I4,q3⟩
theorem o5 {op:Operator}{rd:V→V→Hp→VK→Prop}(hu:X.A.units+1 < cLine)(ho:PE X o td)(hi:PE X i ty)(hv:PE X value tv)(hop:xW X op rd)
    (ha:∀ ov iv new,augStore i ov iv new=(do holding [new,ov,iv] (setItem ov iv new);release [new,ov,iv] [];pure .next)):PS X (.AugAssign (.Subscript o i tpos) op value pos) (xS td ty tv rd):=by
  intro pins s σ H D I h
  refine wpAny_AugAssign_SubscriptAny (thn (ho pins s σ H _ I h) fun u s1 ⟨x,H1,I1,rx,q1⟩=>thn (hi pins s1 σ H1 _ I1 q1) fun iv s2 ⟨y,H2,I2,ry,a,v,ex,g,q2⟩=>?_) ha
  subst ex
  obtain rfl:u=Value.ref a:=rx
  refine j9 hu I2 g ry fun w' s3 I3 rw'=>thn (hv pins s3 σ H2 _ I3 q2) fun w2 s4 ⟨y2,H3,I4,ry2,q3⟩=>thn (hop pins s4 σ H3 v y2 w' w2 _ I4 rw' ry2 q3) fun w3 s5 ⟨z,H4,I5,rz,H5,g5,q4⟩=>?_
  exact jX hu I5 g5 ry rz fun s6 I6=>⟨σ,H5,I6,q4⟩
end
theorem qV {P:Program}{w:World}{H:Hp}(h:Heap)(hb:sysModules < h.objs.size):bu P w H (h.push { cls:=.type "dict", data:=.dict #[] }) h.objs.size (.dK []):=
  ⟨Nat.zero_le _,beq_eq_false_iff_ne.mpr (Ne.symm (Nat.ne_of_lt hb)),[],.nil,Heap.DictOf.new h⟩
section
variable {X:Cx} {pos:Pos}
end
def ki:List (TE×TE)→St→Hp→(List (V×V)→Hp→Prop)→Prop
  | [],_,H,Q=>Q [] H
  | (tk,tv)::r,σ,H,Q=>tk σ H fun x H1=>tv σ H1 fun y H2=>ki r σ H2 fun ps H3=>Q ((x,y)::ps) H3
abbrev VV:List (V×V)→List (Value×Value)→Prop:=Paired fun p q=>RelV p.1 q.1∧RelV p.2 q.2
def PPs (X:Cx)(pos:Pos)(keys:List (Option Expr))(values:List Expr)(trs:List (TE×TE)):Prop:=
  ∀ (pins:List (Addr×Obj)) (s:Shared) (σ:St) (H:Hp) (Q:List (V×V)→Hp→Prop),Inv X pins σ H s→ki trs σ H Q→
    wpAny (model X.prog X.w) X.A (evalPairs (pairTrees keys values X.env pos)) (fun vs s'=>∃ ps H',Inv X pins σ H' s'∧VV ps vs∧Q ps H') X.xe s
theorem vL {X:Cx}{pos:Pos}:PPs X pos [] [] []:=fun pins s σ H Q I h=>pairTrees_nil_walk ⟨[],H,I,.nil,h⟩
theorem sD {X:Cx}{pos:Pos}{k v:Expr}{ks:List (Option Expr)}{vs:List Expr}{tk tv:TE}{trs:List (TE×TE)}(hk:PE X k tk)(hv:PE X v tv)(hr:PPs X pos ks vs trs) :
    PPs X pos (some k::ks) (v::vs) ((tk,tv)::trs):=fun pins s σ H Q I h=>
  pairTrees_cons_walk (thn (hk pins s σ H _ I h) fun u s1 ⟨x,H1,I1,rx,q1⟩=>thn (hv pins s1 σ H1 _ I1 q1) fun w2 s2 ⟨y,H2,I2,ry,q2⟩=>
    thn (hr pins s2 σ H2 _ I2 q2) fun ws s3 ⟨ps,H3,I3,rel,q3⟩=>⟨(x,y)::ps,H3,I3,.cons ⟨rx,ry⟩ rel,q3⟩)
def bV (kvs more:List (Key×V)):List (Key×V):=more.foldl (fun acc kv=>putK acc kv.1 kv.2) kvs
theorem KV.merge:∀ {more:List (Key×V)} {rs:List (Key×Value)} {kvs:List (Key×V)} {vs:List (Key×Value)},KV more rs→KV kvs vs→KV (bV kvs more) (merged vs rs):=by
  intro more rs kvs vs r
  unfold KV at r
  induction r generalizing kvs vs with
  | nil=>intro q;exact q
  | @cons p q ps qs h t ih=>
    intro r0
    have e:KV (putK kvs p.1 p.2) (stored vs q.1 q.2):=by
      have:=r0.put p.1 h.2
      rw[← h.1];exact this
    exact ih e
theorem cV:∀ (more kvs:List (Key×V)),(bV kvs more).length≤kvs.length+more.length
  | [],kvs=>by show kvs.length≤kvs.length+0;omega
  | p::r,kvs=>by
    have h1:=cV r (putK kvs p.1 p.2)
    have h2:=dY kvs p.1 p.2
    show (bV (putK kvs p.1 p.2) r).length≤_
    rw[List.length_cons];omega
theorem h9 {P:Program}{w:World}:∀ {kvs:List (Key×V)} {ws:List (Value×Value)},VV (kvs.map fun kv=>(kV kv.1,kv.2)) ws→∃ rs,Carries (aM P w) ws rs∧KV kvs rs
  | [],_,r=>by rw[List.map_nil] at r;cases r;exact ⟨[],True.intro,.nil⟩
  | p::kvs,_,r=>by
    rw[List.map_cons] at r
    cases r with
    | @cons a b as bs h t=>
      obtain ⟨rs,c,q⟩:=h9 (P:=P) (w:=w) t
      obtain ⟨b1,b2⟩:=b
      exact ⟨(p.1,b2)::rs,⟨mv h.1,rfl,c⟩,.cons ⟨rfl,h.2⟩ q⟩
def Ao (trs:List (TE×TE)):TE:=fun σ H Q=>∀ p,H p=none→ki trs σ (upd H p (.dK [])) fun ps H2=>H2 p=some (.dK [])∧∃ kvs:List (Key×V),ps=kvs.map (fun kv=>(kV kv.1,kv.2))∧kvs.length≤15∧Q (.ref p) (upd H2 p (.dK (bV [] kvs)))
theorem vR {X:Cx}{pos:Pos}{keys:List (Option Expr)}{values:List Expr}{trs:List (TE×TE)}(h:PPs X pos keys values trs)(hall:keys.all (·.isSome)=true)(hl:keys.length=values.length)(h0:keys≠[])
    (h15:keys.length≤15):PE X (.Dict keys values pos) (Ao trs):=by
  intro pins s σ H Q I q
  have hn:=I.hok.fresh (Nat.le_refl s.heap.objs.size)
  have I1:=I.laid (a:=s.heap.objs.size) (o:=.dK []) (h':=s.heap.push { cls:=.type "dict", data:=.dict #[] }) (t':=s.toks) (fun _ _ q=>Heap.get?_push_of_some _ q) (Nat.le_refl _) (qV s.heap I.big)
  refine wpAny_Dict_walk (knd:=aM X.prog X.w) hall hl h0 h15 (thn (h pins _ σ _ _ I1 (q _ hn)) fun ws s2 ⟨ps,H2,I2,rel,e,kvs,ep,lk,q2⟩=>?_)
  subst ep
  obtain ⟨rs,c,rk⟩:=h9 (P:=X.prog) (w:=X.w) rel
  obtain ⟨z,hd,vs0,r0,dd⟩:=xN I2.hok e
  cases r0
  refine ⟨rs,c,dd,fun h' dd' hs=>⟨.ref s.heap.objs.size,_,?_,rfl,q2⟩⟩
  have hz:(bV [] kvs).length≤sizeLine:=by
    have h1:=cV kvs []
    rw[List.length_nil] at h1
    rw[sizeLine_eq];omega
  have he:∃ q,h'.get? s.heap.objs.size=some q:=let ⟨q,_,_,hq,_⟩:=dd';⟨q,hq⟩
  exact lM I2 (by rw[e];exact True.intro) hs he (m4 hz hd (rk.merge .nil) dd')
section
variable {X:Cx} {pins:List (Addr×Obj)} {σ:St} {H:Hp} {s:Shared} {a:Addr} {y d:V} {u r:Value} {o:Option V} {A:Around} {E:Value→Shared→Prop}
end
section
variable {X:Cx} {o e f:Expr} {apos cpos:Pos} {td ty tx:TE}
end
section
variable {X:Cx} {pins:List (Addr×Obj)} {σ:St} {H:Hp} {s:Shared} {a:Addr} {kvs:List (Key×V)} {A:Around} {E:Value→Shared→Prop}
end
section
variable {X:Cx} {pins:List (Addr×Obj)} {σ:St} {H:Hp} {s:Shared} {a:Addr} {y:V} {u:Value} {A:Around} {E:Value→Shared→Prop}
end
end L2
namespace L3
open PySem
local macro_rules | `(tactic| walk_at "ln")=>`(tactic| (intro ds μ Q h;split at h;rfl;exact h.elim))
theorem Jn {p q:Prop}(a:p)(b:q):p∧q:=⟨a,b⟩
inductive D where
  | non | bl (b:Bool) | int (i:Int) | str (x:Str) | ty (n:String) | tup (ds:List D) | ls (ds:List D) | obj (a:Addr)
inductive MO where
  | lst (ds:List D)
  | dct (kvs:List (L2.Key×D))
abbrev Mu:=Addr→Option MO
def up (μ:Mu)(a:Addr)(o:MO):Mu:=fun b=>if b=a then some o else μ b
theorem ax {μ:Mu}{a:Addr}{o:MO}:up μ a o a=some o:=by unfold up;rw[if_pos rfl]
theorem aJ {μ:Mu}{a b:Addr}{o:MO}(h:b≠a):up μ a o b=μ b:=by unfold up;rw[if_neg h]
theorem ff {μ:Mu}{a:Addr}{o u:MO}:up (up μ a o) a u=up μ a u:=by
  funext b;unfold up;split<;>rfl
abbrev ST:=List (Option D)
abbrev DK:=D→Mu→Prop
abbrev ETr:=ST→Mu→DK→Prop
abbrev TTr:=ST→Mu→(Bool→Mu→Prop)→Prop
abbrev ATr:=ST→Mu→(List D→Mu→Prop)→Prop
abbrev DR:=D→Mu→DK→Prop
abbrev DR2:=D→D→Mu→DK→Prop
abbrev FSp:=List D→Mu→DK→Prop
structure En where
  nx:ST→Mu→Prop
  rt:DK
  bk:ST→Mu→Prop:=fun _ _=>False
  ct:ST→Mu→Prop:=fun _ _=>False
abbrev STr:=En→ST→Mu→Prop
abbrev GTr:=D→ST→Mu→(ST→Mu→Prop)→Prop
def kIf (c:Bool)(A B:Prop):Prop:=match c with
  | true=>A
  | false=>B
def kB (x:D)(f:Bool→Prop):Prop:=match x with
  | .bl c=>f c
  | _=>False
def kI (x:D)(f:Int→Prop):Prop:=match x with
  | .int c=>f c
  | _=>False
def kO (x:Option D)(f:D→Prop):Prop:=match x with
  | some d=>f d
  | none=>False
def kS (x:D)(f:List D→Prop):Prop:=match x with
  | .tup ds=>f ds
  | .ls ds=>f ds
  | _=>False
def k2 (ds:List D)(f:D→D→Prop):Prop:=match ds with
  | [v,w]=>f v w
  | _=>False
def kL (μ:Mu)(a:Addr)(f:List D→Prop):Prop:=match μ a with
  | some (.lst ds)=>f ds
  | _=>False
def kD (μ:Mu)(a:Addr)(f:List (L2.Key×D)→Prop):Prop:=match μ a with
  | some (.dct ds)=>f ds
  | _=>False
def kN (x:Option Nat)(f:Nat→Prop):Prop:=match x with
  | some d=>f d
  | none=>False
def lk:ST→Nat→Option D
  | [],_=>none
  | o::_,0=>o
  | _::r,n+1=>lk r n
def ah (i:Nat):ETr:=fun ρ μ Q=>kO (lk ρ i) fun d=>Q d μ
def TC (d:D):ETr:=fun _ μ Q=>Q d μ
def ak (r:DR2)(a b:ETr):ETr:=fun ρ μ Q=>a ρ μ fun x μ1=>b ρ μ1 fun y μ2=>r x y μ2 Q
def TUn (r:DR)(a:ETr):ETr:=fun ρ μ Q=>a ρ μ fun x μ1=>r x μ1 Q
def S64 (i:Int):Prop:=-18446744073709551616 < i∧i < 18446744073709551616
def eJ (i:Int):Prop:=-115792089237316195423570985008687907853269984665640564039457584007913129639936 < i∧i < 115792089237316195423570985008687907853269984665640564039457584007913129639936
def MulOk (i j:Int):Prop:=(S64 i∨S64 j)∨(eJ i∧eJ j)
def gk (j:Int):Prop:=j≠0∧eJ j
def gX (i j:Int):Prop:=0≤j∧j≤1000000∧i.natAbs < 18446744073709551616
def Bn:DR2:=fun x y μ Q=>match x,y with
  | .int i,.int j=>Q (.int (i+j)) μ
  | .tup a,.tup b=>(a≠[]∧a.length+b.length≤1000000)∧Q (.tup (a++b)) μ
  | _,_=>False
def mO:DR2:=fun x y μ Q=>match x,y with
  | .int i,.int j=>Q (.int (i - j)) μ
  | _,_=>False
def fL:DR2:=fun x y μ Q=>match x,y with
  | .int i,.int j=>MulOk i j∧Q (.int (i*j)) μ
  | _,_=>False
def kd:DR2:=fun x y μ Q=>match x,y with
  | .int i,.int j=>gk j∧Q (.int (i.fdiv j)) μ
  | _,_=>False
def fG:DR2:=fun x y μ Q=>match x,y with
  | .int i,.int j=>j≠0∧Q (.int (i.fmod j)) μ
  | _,_=>False
def uv:DR2:=fun x y μ Q=>match x,y with
  | .int i,.int j=>gX i j∧Q (.int (i ^ j.toNat)) μ
  | _,_=>False
def BO:DR:=fun x μ Q=>match x with
  | .int i=>Q (.int (-i)) μ
  | _=>False
def qY (p:Int→Int→Bool):DR2:=fun x y μ Q=>match x,y with
  | .int i,.int j=>Q (.bl (p i j)) μ
  | _,_=>False
def rLt:DR2:=qY fun i j=>decide (i < j)
def rLe:DR2:=qY fun i j=>decide (i≤j)
def rGt:DR2:=qY fun i j=>decide (j < i)
def rGe:DR2:=qY fun i j=>decide (j≤i)
mutual
def eqD:D→D→Bool
  | .non,.non=>true
  | .bl a,.bl b=>a == b
  | .int a,.int b=>decide (a=b)
  | .bl a,.int b=>decide ((if a then 1 else 0:Int)=b)
  | .int a,.bl b=>decide (a=(if b then 1 else 0:Int))
  | .str a,.str b=>decide (a=b)
  | .tup a,.tup b=>jz a b
  | .ls a,.ls b=>jz a b
  | _,_=>false
def jz:List D→List D→Bool
  | [],[]=>true
  | a::r,b::s=>eqD a b&&jz r s
  | _,_=>false
end
mutual
def okD:Nat→D→Bool
  | _,.non=>true
  | _,.bl _=>true
  | _,.int _=>true
  | _,.str x=>PyData.strOk x
  | n+1,.tup ds=>bB n ds
  | n+1,.ls ds=>bB n ds
  | _,_=>false
def bB:Nat→List D→Bool
  | _,[]=>true
  | n,d::ds=>okD n d&&bB n ds
end
def rEq:DR2:=fun x y μ Q=>(okD 40 x=true∧okD 40 y=true)∧Q (.bl (eqD x y)) μ
def rNe:DR2:=fun x y μ Q=>(okD 40 x=true∧okD 40 y=true)∧Q (.bl (!eqD x y)) μ
def rIs:DR2:=fun x y μ Q=>match y with
  | .non=>(match x with
    | .non=>Q (.bl true) μ
    | _=>Q (.bl false) μ)
  | _=>False
def nh:DR2:=fun x y μ Q=>match y with
  | .non=>(match x with
    | .non=>Q (.bl false) μ
    | _=>Q (.bl true) μ)
  | _=>False
def u3 (a b:ETr):ETr:=fun ρ μ Q=>a ρ μ fun x μ1=>kB x fun c=>kIf c (b ρ μ1 Q) (Q (.bl false) μ1)
def za (a b:ETr):ETr:=fun ρ μ Q=>a ρ μ fun x μ1=>kB x fun c=>kIf c (Q (.bl true) μ1) (b ρ μ1 Q)
def rK (a:ETr):ETr:=fun ρ μ Q=>a ρ μ fun x μ1=>kB x fun c=>Q (.bl (!c)) μ1
def TB (t:ETr):TTr:=fun ρ μ Q=>t ρ μ fun x μ1=>kB x fun c=>Q c μ1
def ja (t u:TTr):TTr:=fun ρ μ Q=>t ρ μ fun c μ1=>kIf c (u ρ μ1 Q) (Q false μ1)
def TOr (t u:TTr):TTr:=fun ρ μ Q=>t ρ μ fun c μ1=>kIf c (Q true μ1) (u ρ μ1 Q)
def qS (t:TTr):TTr:=fun ρ μ Q=>t ρ μ fun c μ1=>Q (!c) μ1
def qz (c:TTr)(a b:ETr):ETr:=fun ρ μ Q=>c ρ μ fun k μ1=>kIf k (a ρ μ1 Q) (b ρ μ1 Q)
def nV (r r':DR2)(a b c:ETr):ETr:=fun ρ μ Q=>a ρ μ fun x μ1=>b ρ μ1 fun y μ2=>r x y μ2 fun z μ3=>kB z fun k=>kIf k (c ρ μ3 fun y' μ4=>r' y y' μ4 Q) (Q (.bl false) μ3)
def au:ATr:=fun _ μ Q=>Q [] μ
def af (a:ETr)(r:ATr):ATr:=fun ρ μ Q=>a ρ μ fun x μ1=>r ρ μ1 fun xs μ2=>Q (x::xs) μ2
def dF (t:ATr):ETr:=fun ρ μ Q=>t ρ μ fun ds μ1=>ds.length≤1000000∧Q (.tup ds) μ1
def gq (t:ATr):ETr:=fun ρ μ Q=>t ρ μ fun ds μ1=>ds.length≤1000000∧Q (.ls ds) μ1
def mL (t:ATr):ETr:=fun ρ μ Q=>t ρ μ fun ds μ1=>ds.length≤1000000∧∀ p,μ1 p=none→Q (.obj p) (up μ1 p (.lst ds))
def ao (sp:FSp)(t:ATr):ETr:=fun ρ μ Q=>t ρ μ fun ds μ1=>sp ds μ1 Q
def atD (ds:List D)(i:Int):Option D:=L2.atI ds i
def rIx:DR2:=fun x y μ Q=>match x,y with
  | .tup ds,.int i=>kO (atD ds i) fun d=>Q d μ
  | .ls ds,.int i=>kO (atD ds i) fun d=>Q d μ
  | .obj a,.int i=>kL μ a fun ds=>kO (atD ds i) fun d=>Q d μ
  | _,_=>False
def p9:FSp:=fun ds μ Q=>match ds with
  | [.int i]=>Q (.int (if i < 0 then -i else i)) μ
  | _=>False
def jW:FSp:=fun ds μ Q=>match ds with
  | [.int i,.int j]=>Q (.int (if j > i then j else i)) μ
  | _=>False
def j5:FSp:=fun ds μ Q=>match ds with
  | [.int i,.int j]=>Q (.int (if j < i then j else i)) μ
  | _=>False
def kK:FSp:=fun ds μ Q=>match ds with
  | [.int i]=>Q (.int i) μ
  | [.bl k]=>Q (.int (if k then 1 else 0)) μ
  | _=>False
def cN:FSp:=fun ds μ Q=>match ds with
  | [.tup xs]=>Q (.int xs.length) μ
  | [.ls xs]=>Q (.int xs.length) μ
  | [.str x]=>x.length≤1000000∧Q (.int x.length) μ
  | [.obj a]=>kL μ a fun xs=>Q (.int xs.length) μ
  | _=>False
def tyD:D→Option String
  | .non=>some "NoneType"
  | .bl _=>some "bool"
  | .int _=>some "int"
  | .str _=>some "str"
  | .tup _=>some "tuple"
  | .ls _=>some "list"
  | _=>none
def e9 (t c:String):Bool:=t == c || (t == "bool" && c == "int")
def p5 (c:String):DR:=fun x μ Q=>match tyD x with
  | some t=>Q (.bl (e9 t c)) μ
  | none=>False
def cI:STr:=fun E ρ μ=>E.nx ρ μ
def aD (t u:STr):STr:=fun E ρ μ=>t { E with nx:=u E } ρ μ
def oN:STr:=fun E ρ μ=>E.bk ρ μ
def jJ:STr:=fun E ρ μ=>E.ct ρ μ
def gn (e:ETr):STr:=fun E ρ μ=>e ρ μ fun _ μ1=>E.nx ρ μ1
def cy (e:ETr):STr:=fun E ρ μ=>e ρ μ E.rt
def tm:STr:=fun E _ μ=>E.rt .non μ
def eS (c:TTr)(t u:STr):STr:=fun E ρ μ=>c ρ μ fun b μ1=>kIf b (t E ρ μ1) (u E ρ μ1)
def aq (i:Nat):GTr:=fun d ρ μ k=>k (ρ.set i (some d)) μ
def aU (e:ETr)(g:GTr):STr:=fun E ρ μ=>e ρ μ fun d μ1=>g d ρ μ1 E.nx
def qr (i j:Nat)(a:ATr):STr:=fun E ρ μ=>a ρ μ fun ds μ1=>k2 ds fun v w=>E.nx ((ρ.set i (some v)).set j (some w)) μ1
def Av (x z y:D)(μ:Mu)(f:Mu→Prop):Prop:=match x,z with
  | .obj a,.int n=>kL μ a fun ds=>kN (L2.ixN ds.length n) fun j=>f (up μ a (.lst (ds.set j y)))
  | _,_=>False
def oh (o k e:ETr):STr:=fun E ρ μ=>e ρ μ fun y μ1=>o ρ μ1 fun x μ2=>k ρ μ2 fun z μ3=>Av x z y μ3 fun μ4=>E.nx ρ μ4
def tE (c:TTr)(b:STr):STr:=fun E ρ μ=>∃ (P:ST→Mu→Prop) (m:ST→Mu→Nat),P ρ μ∧∀ ρ μ,P ρ μ→
  c ρ μ fun k μ1=>kIf k (b { E with nx:=fun ρ' μ'=>P ρ' μ'∧m ρ' μ' < m ρ μ,ct:=fun ρ' μ'=>P ρ' μ'∧m ρ' μ' < m ρ μ,bk:=E.nx } ρ μ1) (E.nx ρ μ1)
def forR (g:GTr)(b:STr)(E:En):List D→ST→Mu→Prop
  | [],ρ,μ=>E.nx ρ μ
  | d::r,ρ,μ=>g d ρ μ fun ρ1 μ1=>b { E with nx:=forR g b E r,ct:=forR g b E r,bk:=E.nx } ρ1 μ1
def gv (it:ATr)(g:GTr)(b:STr):STr:=fun E ρ μ=>it ρ μ fun ds μ1=>forR g b E ds ρ μ1
def cD (lo:Int)(n:Nat):List D:=(List.range n).map fun i=>.int (lo+(i:Nat))
def cH (a:ETr):ATr:=fun ρ μ Q=>a ρ μ fun x μ1=>kI x fun j=>(-4611686018427387904≤j∧j < 4611686018427387904)∧Q (cD 0 j.toNat) μ1
def eW (a:ETr):ATr:=fun ρ μ Q=>a ρ μ fun x μ1=>kS x fun ds=>Q ds μ1
def dn (μ:Mu)(a:Addr):Mu:=fun b=>if b=a then none else μ b
theorem tT {μ:Mu}{a:Addr}{o:MO}(h:μ a=none):dn (up μ a o) a=μ:=by
  funext b
  unfold dn up
  by_cases hb:b=a
  · subst hb;simp[h]
  · simp[hb]
def c9 (ρ:ST)(n:Nat)(caps:List Nat):ST:=List.replicate n none++caps.map (lk ρ)
def d7 (p:Addr)(G:GTr)(tt:TTr)(te:ETr)(ρc:ST)(K:Mu→Prop):List D→Mu→Prop
  | [],μ=>K μ
  | d::r,μ=>G d ρc μ fun ρ1 μ1=>tt ρ1 μ1 fun b μ2=>kIf b (te ρ1 μ2 fun y μ3=>kL μ3 p fun zs=>zs.length < 1000000∧d7 p G tt te ρc K r (up μ3 p (.lst (zs++[y])))) (d7 p G tt te ρc K r μ2)
def cJ (it:ATr)(G:GTr)(tt:TTr)(te:ETr)(n:Nat)(caps:List Nat):ETr:=fun ρ μ Q=>it ρ μ fun ds μ1=>∀ p,μ1 p=none→
  d7 p G tt te (c9 ρ n caps) (fun μ'=>kL μ' p fun zs=>Q (.ls zs) (dn μ' p)) ds (up μ1 p (.lst []))
def fN:TTr:=fun _ μ Q=>Q true μ
def Ac:FSp:=fun ds μ Q=>match ds with
  | [.ls xs]=>∃ bs:List Bool,xs=bs.map .bl∧Q (.bl (bs.all id)) μ
  | _=>False
theorem cw {g:GTr}{b:STr}{E:En}(P:List D→ST→Mu→Prop)(hnil:∀ ρ μ,P [] ρ μ→E.nx ρ μ)
    (hcons:∀ d r ρ μ (N:ST→Mu→Prop),P (d::r) ρ μ→(∀ ρ' μ',P r ρ' μ'→N ρ' μ')→g d ρ μ fun ρ1 μ1=>b { E with nx:=N,ct:=N,bk:=E.nx } ρ1 μ1) :
    ∀ (ds:List D) (ρ:ST) (μ:Mu),P ds ρ μ→forR g b E ds ρ μ
  | [],ρ,μ,h=>hnil ρ μ h
  | d::r,ρ,μ,h=>hcons d r ρ μ _ h fun ρ' μ' q=>cw P hnil hcons r ρ' μ' q
section
open PySem PySem.Spec PyProof.Rows L2
def SqF (K:PySem.W.Frag)(H:Hp)(a:Addr)(xs:List V):Prop:=
  (∃ o,H a=some (.frz o (.lst xs)))∨
    ∃ (o:Obj) (its:Array Value) (n:Nat),K.lookup a=some o∧o.cls=.type "list" ∧ o.dict=none∧o.data=.seq its n∧its.size≤sizeLine∧Vals xs its.toList
theorem SqF.sq {K:PySem.W.Frag}{H:Hp}{a:Addr}{xs:List V}(h:SqF K H a xs):SqL K H a xs:=by
  rcases h with h | h
  · exact .inl (.inr h)
  · exact .inr h
mutual
inductive Dp (K:PySem.W.Frag) (H:Hp):V→D→Prop
  | non:Dp K H .non .non
  | bl (b:Bool):Dp K H (.bl b) (.bl b)
  | int (n:Int):Dp K H (.int n) (.int n)
  | str (z:Str):Dp K H (.str z) (.str z)
  | ty (n:String):Dp K H (.ty n) (.ty n)
  | tup {a:Addr} {xs:List V} {ds:List D}:SqT K H a xs→DpL K H xs ds→Dp K H (.ref a) (.tup ds)
  | ls {a:Addr} {xs:List V} {ds:List D}:SqF K H a xs→DpL K H xs ds→Dp K H (.ref a) (.ls ds)
  | obj (a:Addr):Dp K H (.ref a) (.obj a)
inductive DpL (K:PySem.W.Frag) (H:Hp):List V→List D→Prop
  | nil:DpL K H [] []
  | cons {v:V} {d:D} {vs:List V} {ds:List D}:Dp K H v d→DpL K H vs ds→DpL K H (v::vs) (d::ds)
end
structure Tk (H H':Hp):Prop where
  tup:∀ a xs,H a=some (.tup xs)→H' a=some (.tup xs)
  frz:∀ a o u,H a=some (.frz o u)→H' a=some (.frz o u)
theorem Tk.refl (H:Hp):Tk H H:=⟨fun _ _ h=>h,fun _ _ _ h=>h⟩
theorem Tk.trans {H H1 H2:Hp}(a:Tk H H1)(b:Tk H1 H2):Tk H H2:=⟨fun c xs h=>b.tup c xs (a.tup c xs h),fun c o u h=>b.frz c o u (a.frz c o u h)⟩
theorem Tk.upd {H:Hp}{a:Addr}{o:HO}(h1:∀ xs,H a≠some (.tup xs))(h2:∀ o u,H a≠some (.frz o u)):Tk H (L2.upd H a o):=
  ⟨fun b xs h=>by rw[ay (fun z=>by subst z;exact h1 _ h)];exact h,fun b o u h=>by rw[ay (fun z=>by subst z;exact h2 _ _ h)];exact h⟩
theorem Tk.new {H:Hp}{a:Addr}{o:HO}(h:H a=none):Tk H (L2.upd H a o):=.upd (fun _ e=>by rw[h] at e;cases e) fun _ _ e=>by rw[h] at e;cases e
theorem Tk.sqT {K:PySem.W.Frag}{H H':Hp}{a:Addr}{xs:List V}(t:Tk H H')(h:SqT K H a xs):SqT K H' a xs:=by
  rcases h with (h | ⟨o,h⟩) | h
  · exact .inl (.inl (t.tup _ _ h))
  · exact .inl (.inr ⟨o,t.frz _ _ _ h⟩)
  · exact .inr h
theorem Tk.sqF {K:PySem.W.Frag}{H H':Hp}{a:Addr}{xs:List V}(t:Tk H H')(h:SqF K H a xs):SqF K H' a xs:=by
  rcases h with ⟨o,h⟩ | h
  · exact .inl ⟨o,t.frz _ _ _ h⟩
  · exact .inr h
mutual
theorem Dp.mono {K:PySem.W.Frag}{H H':Hp}(t:Tk H H'):∀ {v:V} {d:D},Dp K H v d→Dp K H' v d
  | _,_,.non=>.non
  | _,_,.bl b=>.bl b
  | _,_,.int i=>.int i
  | _,_,.str x=>.str x
  | _,_,.ty n=>.ty n
  | _,_,.tup h l=>.tup (t.sqT h) (DpL.mono t l)
  | _,_,.ls h l=>.ls (t.sqF h) (DpL.mono t l)
  | _,_,.obj a=>.obj a
theorem DpL.mono {K:PySem.W.Frag}{H H':Hp}(t:Tk H H'):∀ {vs:List V} {ds:List D},DpL K H vs ds→DpL K H' vs ds
  | _,_,.nil=>.nil
  | _,_,.cons h l=>.cons (Dp.mono t h) (DpL.mono t l)
end
theorem DpL.length {K:PySem.W.Frag}{H:Hp}:∀ {vs:List V} {ds:List D},DpL K H vs ds→vs.length=ds.length
  | _,_,.nil=>rfl
  | _,_,.cons _ l=>by rw[List.length_cons,List.length_cons,DpL.length l]
theorem DpL.get {K:PySem.W.Frag}{H:Hp}:∀ {vs:List V} {ds:List D} {i:Nat} {d:D},DpL K H vs ds→ds[i]? = some d→∃ v,vs[i]? = some v∧Dp K H v d
  | _,_,_,_,.nil,e=>by simp at e
  | _,_,0,_,.cons h _,e=>by simp at e;subst e;exact ⟨_,rfl,h⟩
  | _,_,i+1,d,.cons _ l,e=>by
    obtain ⟨v,e1,h⟩:=DpL.get (i:=i) (d:=d) l (by simpa using e)
    exact ⟨v,by simpa using e1,h⟩
theorem DpL.get' {K:PySem.W.Frag}{H:Hp}:∀ {vs:List V} {ds:List D} {i:Nat} {v:V},DpL K H vs ds→vs[i]? = some v→∃ d,ds[i]? = some d∧Dp K H v d
  | _,_,_,_,.nil,e=>by simp at e
  | _,_,0,_,.cons h _,e=>by simp at e;subst e;exact ⟨_,rfl,h⟩
  | _,_,i+1,d,.cons _ l,e=>by
    obtain ⟨v,e1,h⟩:=DpL.get' (i:=i) (v:=d) l (by simpa using e)
    exact ⟨v,by simpa using e1,h⟩
theorem DpL.set {K:PySem.W.Frag}{H:Hp}{v:V}{d:D}(h:Dp K H v d):∀ {vs:List V} {ds:List D} (i:Nat),DpL K H vs ds→DpL K H (vs.set i v) (ds.set i d)
  | _,_,_,.nil=>.nil
  | _,_,0,.cons _ l=>.cons h l
  | _,_,i+1,.cons q l=>.cons q (DpL.set h i l)
theorem DpL.append {K:PySem.W.Frag}{H:Hp}:∀ {vs ws:List V} {ds es:List D},DpL K H vs ds→DpL K H ws es→DpL K H (vs++ws) (ds++es)
  | _,_,_,_,.nil,s=>s
  | _,_,_,_,.cons h l,s=>.cons h (DpL.append l s)
theorem DpL.at {K:PySem.W.Frag}{H:Hp}{vs:List V}{ds:List D}{i:Int}{d:D}(l:DpL K H vs ds)(e:atD ds i=some d):∃ v,atI vs i=some v∧Dp K H v d:=by
  unfold atD atI at e
  unfold atI
  rw[l.length]
  cases q:ixN ds.length i with
  | none=>rw[q] at e;cases e
  | some j=>
    rw[q] at e
    exact l.get e
def DpK (K:PySem.W.Frag)(H:Hp)(xs:List (Key×V))(kvs:List (Key×D)):Prop:=xs.map (·.1)=kvs.map (·.1)∧DpL K H (xs.map (·.2)) (kvs.map (·.2))
theorem DpK.mono {K:PySem.W.Frag}{H H':Hp}(t:Tk H H'){xs:List (Key×V)}{kvs:List (Key×D)}(h:DpK K H xs kvs):DpK K H' xs kvs:=⟨h.1,h.2.mono t⟩
def oq (K:PySem.W.Frag)(H:Hp)(a:Addr):MO→Prop
  | .lst ds=>∃ xs,H a=some (.lst xs)∧DpL K H xs ds
  | .dct kvs=>∃ xs,H a=some (.dK xs)∧DpK K H xs kvs
theorem oq.go {K:PySem.W.Frag}{H H':Hp}{a:Addr}{o:MO}(h:oq K H a o)(t:Tk H H')(k:∀ u,H a=some u→H' a=some u):oq K H' a o:=by
  cases o with
  | lst ds=>obtain ⟨xs,z,l⟩:=h;exact ⟨xs,k _ z,l.mono t⟩
  | dct kvs=>obtain ⟨xs,z,l⟩:=h;exact ⟨xs,k _ z,l.mono t⟩
theorem oq.ne {K:PySem.W.Frag}{H:Hp}{a q:Addr}{o:MO}{u:HO}(h:oq K H a o)(t:Tk H (L2.upd H q u))(k:a≠q):oq K (L2.upd H q u) a o:=h.go t fun _ e=>by rw[ay k];exact e
def aV (K:PySem.W.Frag)(H:Hp)(μ:Mu):Prop:=∀ a o,μ a=some o→oq K H a o
theorem aV.free {K:PySem.W.Frag}{H:Hp}{μ:Mu}(h:aV K H μ){a:Addr}(e:H a=none):μ a=none:=by
  cases q:μ a with
  | none=>rfl
  | some o=>
    cases o with
    | lst ds=>obtain ⟨xs,z,_⟩:=h a _ q;rw[e] at z;cases z
    | dct ds=>obtain ⟨xs,z,_⟩:=h a _ q;rw[e] at z;cases z
theorem aV.keep {K:PySem.W.Frag}{H H':Hp}{μ:Mu}(h:aV K H μ)(t:Tk H H')(k:∀ a u,μ a≠none→H a=some u→H' a=some u):aV K H' μ:=fun a o e=>by
  exact (h a _ e).go t fun u z=>k a u (by rw[e];simp) z
def Sub (μ μ':Mu):Prop:=∀ a o,μ a=some o→μ' a=some o
theorem Sub.refl (μ:Mu):Sub μ μ:=fun _ _ h=>h
theorem Sub.new {μ:Mu}{p:Addr}{o:MO}(h:μ p=none):Sub μ (up μ p o):=fun a u e=>by
  rw[aJ (fun z=>by subst z;rw[h] at e;cases e)];exact e
theorem Sub.trans {μ μ1 μ2:Mu}(a:Sub μ μ1)(b:Sub μ1 μ2):Sub μ μ2:=fun c o h=>b c o (a c o h)
theorem aV.sub {K:PySem.W.Frag}{H:Hp}{μ μ':Mu}(h:aV K H μ')(s:Sub μ μ'):aV K H μ:=fun a o e=>h a o (s a o e)
structure Rl (K:PySem.W.Frag) (σ:L2.St) (H:Hp) (ρ:ST) (μ:Mu):Prop where
  len:ρ.length=σ.length
  loc:∀ i d,lk ρ i=some d→∃ v,σ[i]? = some (some v)∧Dp K H v d
  mu:aV K H μ
theorem Rl.go {K:PySem.W.Frag}{σ:L2.St}{H H':Hp}{ρ:ST}{μ μ':Mu}(r:Rl K σ H ρ μ)(t:Tk H H')(m:aV K H' μ'):Rl K σ H' ρ μ':=
  ⟨r.len,fun i d e=>let ⟨v,h1,h2⟩:=r.loc i d e;⟨v,h1,h2.mono t⟩,m⟩
theorem uV:∀ (ρ:ST) (i j:Nat) (d:D),lk (ρ.set i (some d)) j=if i=j∧i < ρ.length then some d else lk ρ j
  | [],i,j,d=>by simp[lk]
  | o::r,0,0,d=>by simp[lk]
  | o::r,0,j+1,d=>by simp[lk]
  | o::r,i+1,0,d=>by simp[lk]
  | o::r,i+1,j+1,d=>by
    show lk (r.set i (some d)) j=_
    rw[uV r i j d]
    simp[lk]
theorem Rl.set {K:PySem.W.Frag}{σ:L2.St}{H:Hp}{ρ:ST}{μ:Mu}(r:Rl K σ H ρ μ){v:V}{d:D}(h:Dp K H v d)(i:Nat):Rl K (σ.set i (some v)) H (ρ.set i (some d)) μ:=by
  refine ⟨by simp[r.len],fun j e q=>?_,r.mu⟩
  rw[uV] at q
  split at q
  · rename_i hc
    obtain ⟨rfl,hlt⟩:=hc
    cases q
    exact ⟨v,by rw[List.getElem?_set_self (by rw[← r.len];exact hlt)],h⟩
  · rename_i hc
    obtain ⟨u,h1,h2⟩:=r.loc j e q
    by_cases hij:i=j
    · subst hij
      have:¬ i < ρ.length:=fun z=>hc ⟨rfl,z⟩
      have hn:σ[i]? = none:=List.getElem?_eq_none_iff.mpr (by rw[← r.len];omega)
      rw[hn] at h1;cases h1
    · exact ⟨u,by rw[List.getElem?_set_ne hij];exact h1,h2⟩
abbrev eM (K:PySem.W.Frag)(H:Hp)(Q:DK)(Q':VK):Prop:=∀ v H' d μ',Tk H H'→aV K H' μ'→Dp K H' v d→Q d μ'→Q' v H'
def Sim (K:PySem.W.Frag)(t:TE)(T:ETr):Prop:=∀ σ H ρ μ (Q:DK) (Q':VK),Rl K σ H ρ μ→T ρ μ Q→eM K H Q Q'→t σ H Q'
def ve (K:PySem.W.Frag)(t:TT)(T:TTr):Prop:=∀ σ H ρ μ (Q:Bool→Mu→Prop) (Q':Bool→Hp→Prop),Rl K σ H ρ μ→T ρ μ Q→(∀ b H' μ',Tk H H'→aV K H' μ'→Q b μ'→Q' b H')→t σ H Q'
def A7 (K:PySem.W.Frag)(t:TA)(T:ATr):Prop:=∀ σ H ρ μ (Q:List D→Mu→Prop) (Q':List V→Hp→Prop),Rl K σ H ρ μ→T ρ μ Q→(∀ vs H' ds μ',Tk H H'→aV K H' μ'→DpL K H' vs ds→Q ds μ'→Q' vs H')→t σ H Q'
abbrev lT (K:PySem.W.Frag)(H:Hp)(N:ST→Mu→Prop)(N':L2.St→Hp→Prop):Prop:=∀ σ' H' ρ' μ',Tk H H'→Rl K σ' H' ρ' μ'→N ρ' μ'→N' σ' H'
structure sW (K:PySem.W.Frag) (H:Hp) (E:En) (E':Ends):Prop where
  nx:lT K H E.nx E'.nx
  rt:eM K H E.rt E'.rt
  bk:lT K H E.bk E'.bk
  ct:lT K H E.ct E'.ct
theorem sW.go {K:PySem.W.Frag}{H H1:Hp}{E:En}{E':Ends}(e:sW K H E E')(t:Tk H H1):sW K H1 E E':=
  ⟨fun _ _ _ _ t'=>e.nx _ _ _ _ (t.trans t'),fun _ _ _ _ t'=>e.rt _ _ _ _ (t.trans t'),fun _ _ _ _ t'=>e.bk _ _ _ _ (t.trans t'),fun _ _ _ _ t'=>e.ct _ _ _ _ (t.trans t')⟩
def xc (K:PySem.W.Frag)(t:TS)(T:STr):Prop:=∀ σ H ρ μ (E:En) (E':Ends),Rl K σ H ρ μ→T E ρ μ→sW K H E E'→t E' σ H
def zk (K:PySem.W.Frag)(g:TG)(G:GTr):Prop:=∀ σ H ρ μ v d (k:ST→Mu→Prop) (k':L2.St→Hp→Prop),Rl K σ H ρ μ→Dp K H v d→G d ρ μ k→lT K H k k'→g v σ H k'
structure LE (X:Cx) (e:Expr) (T:ETr):Prop where
  ex:∃ t,PE X e t∧Sim X.K t T
structure LT (X:Cx) (e:Expr) (T:TTr):Prop where
  ex:∃ t,PT X e t∧ve X.K t T
structure LW (X:Cx) (e:Expr) (T:TTr):Prop where
  ex:∃ t,PW X e t∧ve X.K t T
structure LA (X:Cx) (es:List Expr) (T:ATr):Prop where
  ex:∃ t,PA X es t∧A7 X.K t T
structure LS (X:Cx) (st:Stmt) (T:STr):Prop where
  ex:∃ t,PS X st t∧xc X.K t T
structure LSs (X:Cx) (sts:List Stmt) (T:STr):Prop where
  ex:∃ t,PSs X sts t∧xc X.K t T
structure LG (X:Cx) (tg:Expr) (G:GTr):Prop where
  ex:∃ g,PG X tg g∧zk X.K g G
section
variable {X:Cx} {a b c e:Expr} {Ta Tb Tc:ETr} {pos:Pos}
theorem ae (i:Nat){x:Str}(hN:X.N[i]? = some x:=by rfl)(hv:Vis X.env.scope x:=by first | exact Or.inl rfl | exact Or.inr (Or.inl rfl) | exact Or.inr (Or.inr rfl))(hd:(x == ("__debug__" : Str))=false:=by decide)
    (hcd:(x == ("__classdict__" : Str))=false:=by decide):LE X (.Name x pos) (ah i):=
  ⟨_,tR hN hv hd hcd,fun σ H ρ μ Q Q' r h k=>by
    have h:kO (lk ρ i) fun d=>Q d μ:=h
    cases q:lk ρ i with
    | none=>rw[q] at h;exact False.elim h
    | some d=>
      rw[q] at h
      have h:Q d μ:=h
      obtain ⟨v,e1,p⟩:=r.loc i d q
      exact ⟨v,e1,k v H d μ (.refl H) r.mu p h⟩⟩
theorem le_int {i:Int}{j}:LE X (.Constant (.int i) j pos) (TC (.int i)):=⟨_,zv,fun σ H ρ μ Q Q' r h k=>k _ H _ μ (.refl H) r.mu (.int i) h⟩
theorem rP {b:Bool}{j}:LE X (.Constant (.bool b) j pos) (TC (.bl b)):=⟨_,Aq,fun σ H ρ μ Q Q' r h k=>k _ H _ μ (.refl H) r.mu (.bl b) h⟩
theorem lr {j}:LE X (.Constant .none j pos) (TC .non):=⟨_,Al,fun σ H ρ μ Q Q' r h k=>k _ H _ μ (.refl H) r.mu .non h⟩
theorem le_str {x:Str}{j}:LE X (.Constant (.str x) j pos) (TC (.str x)):=⟨_,rh,fun σ H ρ μ Q Q' r h k=>k _ H _ μ (.refl H) r.mu (.str x) h⟩
def cY (K:PySem.W.Frag)(r:R2)(R:DR2):Prop:=∀ H μ x y dx dy (Q:DK) (Q':VK),aV K H μ→Dp K H x dx→Dp K H y dy→R dx dy μ Q→eM K H Q Q'→r x y H Q'
theorem eM.go {K:PySem.W.Frag}{H H1:Hp}{Q:DK}{Q':VK}(k:eM K H Q Q')(t:Tk H H1):eM K H1 Q Q':=fun v H' d μ' t'=>k v H' d μ' (t.trans t')
theorem gD {K:PySem.W.Frag}{r:R2}{R:DR2}{ta tb:TE}(hr:cY K r R)(ha:Sim K ta Ta)(hb:Sim K tb Tb):Sim K (tOp r ta tb) (ak R Ta Tb):=fun σ H ρ μ Q Q' rl h k=>
  ha σ H ρ μ _ _ rl h fun x H1 dx μ1 t1 m1 p1 h1=>hb σ H1 ρ μ1 _ _ (rl.go t1 m1) h1 fun y H2 dy μ2 t2 m2 p2 h2=>hr H2 μ2 x y dx dy Q Q' m2 (p1.mono t2) p2 h2 (k.go (t1.trans t2))
theorem gT {op:Operator}{r:R2}{R:DR2}(ho:OpR X (binaryOp op) r)(hr:cY X.K r R)(ha:LE X a Ta)(hb:LE X b Tb):LE X (.BinOp a op b pos) (ak R Ta Tb):=by
  obtain ⟨ta,pa,sa⟩:=ha.ex
  obtain ⟨tb,pb,sb⟩:=hb.ex
  exact ⟨_,xP ho pa pb,gD hr sa sb⟩
theorem kP {op:CmpOp}{r:R2}{R:DR2}(ho:OpR X (compareOp op) r)(hr:cY X.K r R)(ha:LE X a Ta)(hb:LE X b Tb)(hm:behindInMarks op b=false):LE X (.Compare a [op] [b] pos) (ak R Ta Tb):=by
  obtain ⟨ta,pa,sa⟩:=ha.ex
  obtain ⟨tb,pb,sb⟩:=hb.ex
  exact ⟨_,wX ho pa pb hm,gD hr sa sb⟩
theorem zN {K:PySem.W.Frag}{t:TE}{T:ETr}(h:Sim K t T):ve K (xM t) (TB T):=fun σ H ρ μ Q Q' rl hh k=>
  h σ H ρ μ _ _ rl hh fun v H' d μ' t' m' p' h'=>by
    cases p' with
    | bl c=>exact ⟨c,rfl,k c H' μ' t' m' h'⟩
    | _=>exact False.elim h'
theorem zg {K:PySem.W.Frag}{t:TE}{T:ETr}(h:Sim K t T):ve K (tB t) (TB T):=fun σ H ρ μ Q Q' rl hh k=>
  h σ H ρ μ _ _ rl hh fun v H' d μ' t' m' p' h'=>by
    cases p' with
    | bl c=>exact ⟨c,rfl,k c H' μ' t' m' h'⟩
    | _=>exact False.elim h'
theorem cS {op:CmpOp}{r:R2}{R:DR2}(ho:OpR X (compareOp op) r)(hr:cY X.K r R)(ha:LE X a Ta)(hb:LE X b Tb)(hm:behindInMarks op b=false):LT X (.Compare a [op] [b] pos) (TB (ak R Ta Tb)):=by
  obtain ⟨ta,pa,sa⟩:=ha.ex
  obtain ⟨tb,pb,sb⟩:=hb.ex
  exact ⟨_,xh ho pa pb hm,zN (gD hr sa sb)⟩
theorem OpR.or {f:Value→Value→Sem Value}{r r':R2}(h:OpR X f r)(h':OpR X f r'):OpR X f (fun x y H Q=>r x y H Q∨r' x y H Q):=fun pins s σ H x y v u Q I rx ry q=>by
  rcases q with q | q
  · exact h pins s σ H x y v u Q I rx ry q
  · exact h' pins s σ H x y v u Q I rx ry q
theorem kl {K:PySem.W.Frag}{C:Int→Int→Prop}{g:Int→Int→V}{R:DR2}(f:Int→Int→D)(hg:∀ H i j,Dp K H (g i j) (f i j))(hR:∀ i j μ Q,R (.int i) (.int j) μ Q→C i j∧Q (f i j) μ)
    (hn:∀ dx dy μ Q,R dx dy μ Q→(∃ i,dx=.int i)∧∃ j,dy=.int j):cY K (rI C g) R:=fun H μ x y dx dy Q Q' m px py h k=>by
  obtain ⟨⟨i,rfl⟩,j,rfl⟩:=hn _ _ _ _ h
  cases px;cases py
  obtain ⟨h1,h2⟩:=hR _ _ _ _ h
  exact ⟨i,j,rfl,rfl,h1,k _ H _ μ (.refl H) m (hg H i j) h2⟩
theorem oX {K:PySem.W.Frag}{g:Int→Int→V}{R:DR2}(f:Int→Int→D)(hg:∀ H i j,Dp K H (g i j) (f i j))(hR:∀ i j μ Q,R (.int i) (.int j) μ Q→Q (f i j) μ)
    (hn:∀ dx dy μ Q,R dx dy μ Q→(∃ i,dx=.int i)∧∃ j,dy=.int j):cY K (rI0 g) R:=fun H μ x y dx dy Q Q' m px py h k=>by
  obtain ⟨⟨i,rfl⟩,j,rfl⟩:=hn _ _ _ _ h
  cases px;cases py
  exact ⟨i,j,rfl,rfl,k _ H _ μ (.refl H) m (hg H i j) (hR _ _ _ _ h)⟩
theorem nU (ha:LE X a Ta)(hb:LE X b Tb):LE X (.BinOp a .Sub b pos) (ak mO Ta Tb):=gT yF (oX (fun i j=>.int (i - j)) (fun _ _ _=>.int _) (fun _ _ _ _ h=>h) (fun dx dy μ Q h=>by cases dx<;>cases dy<;>first | exact ⟨⟨_,rfl⟩,_,rfl⟩ | exact False.elim h)) ha hb
theorem eJ.abs {j:Int}(h:eJ j):j.natAbs < 2 ^ 256:=by
  have e:(2:Nat) ^ 256=115792089237316195423570985008687907853269984665640564039457584007913129639936:=by decide +kernel
  rw[e]
  obtain ⟨h1,h2⟩:=h
  omega
theorem MulOk.ok {i j:Int}(h:MulOk i j):IntMulOk i j:=by
  rcases h with (⟨h1,h2⟩ | ⟨h1,h2⟩) | ⟨h1,h2⟩
  · exact .of_left (intBits_le_64 h1 h2)
  · exact .of_right (intBits_le_64 h1 h2)
  · exact .of_le (PyProof.Rows.intBits_le h1.abs) (PyProof.Rows.intBits_le h2.abs) (by decide)
theorem va:OpR X (binaryOp .Mult) (rI MulOk fun i j=>.int (i*j)):=opI fun _ _ _ _ _ _ _ hc q=>mul_int q hc.ok
theorem gk.np {i j:Int}(h:gk j):Builtin.divisionGoesByPylong i j=false:=by
  refine PyProof.noPylong_of_log2 ?_
  have h0:j.natAbs≠0:=by have:=h.1;omega
  have:=(Nat.log2_lt h0).mpr h.2.abs
  omega
theorem vv:OpR X (binaryOp .FloorDiv) (rI (fun _ j=>gk j) fun i j=>.int (i.fdiv j)):=opI fun _ _ _ _ _ _ _ hc q=>floordiv_int hc.1 q (.inl hc.np)
theorem lb (ha:LE X a Ta)(hb:LE X b Tb):LE X (.BinOp a .FloorDiv b pos) (ak kd Ta Tb):=gT vv (kl (fun i j=>.int (i.fdiv j)) (fun _ _ _=>.int _) (fun _ _ _ _ h=>⟨h.1,h.2⟩) (fun dx dy μ Q h=>by cases dx<;>cases dy<;>first | exact ⟨⟨_,rfl⟩,_,rfl⟩ | exact False.elim h)) ha hb
theorem le_mul (ha:LE X a Ta)(hb:LE X b Tb):LE X (.BinOp a .Mult b pos) (ak fL Ta Tb):=gT va (kl (fun i j=>.int (i*j)) (fun _ _ _=>.int _) (fun _ _ _ _ h=>⟨h.1,h.2⟩) (fun dx dy μ Q h=>by cases dx<;>cases dy<;>first | exact ⟨⟨_,rfl⟩,_,rfl⟩ | exact False.elim h)) ha hb
theorem d9 (ha:LE X a Ta)(hb:LE X b Tb):LE X (.BinOp a .Mod b pos) (ak fG Ta Tb):=gT wL (kl (fun i j=>.int (i.fmod j)) (fun _ _ _=>.int _) (fun _ _ _ _ h=>⟨h.1,h.2⟩) (fun dx dy μ Q h=>by cases dx<;>cases dy<;>first | exact ⟨⟨_,rfl⟩,_,rfl⟩ | exact False.elim h)) ha hb
theorem le_pow (ha:LE X a Ta)(hb:LE X b Tb):LE X (.BinOp a .Pow b pos) (ak uv Ta Tb):=gT yG (kl (fun i j=>.int (i ^ j.toNat)) (fun _ _ _=>.int _) (fun _ _ _ _ h=>⟨h.1,h.2⟩) (fun dx dy μ Q h=>by cases dx<;>cases dy<;>first | exact ⟨⟨_,rfl⟩,_,rfl⟩ | exact False.elim h)) ha hb
theorem gN {K:PySem.W.Frag}(p:Int→Int→Bool):cY K (rI0 fun i j=>.bl (p i j)) (qY p):=oX (fun i j=>.bl (p i j)) (fun _ _ _=>.bl _) (fun _ _ _ _ h=>h) (fun dx dy μ Q h=>by cases dx<;>cases dy<;>first | exact ⟨⟨_,rfl⟩,_,rfl⟩ | exact False.elim h)
theorem AJ (ha:LE X a Ta)(hb:LE X b Tb):LE X (.Compare a [.Lt] [b] pos) (ak rLt Ta Tb):=kP xR (gN _) ha hb (dB _)
theorem AS (ha:LE X a Ta)(hb:LE X b Tb):LE X (.Compare a [.GtE] [b] pos) (ak rGe Ta Tb):=kP AE (gN _) ha hb (dB _)
theorem o7 (ha:LE X a Ta)(hb:LE X b Tb):LT X (.Compare a [.Lt] [b] pos) (TB (ak rLt Ta Tb)):=cS xR (gN _) ha hb (dB _)
theorem pR (ha:LE X a Ta)(hb:LE X b Tb):LT X (.Compare a [.Gt] [b] pos) (TB (ak rGt Ta Tb)):=cS AM (gN _) ha hb (dB _)
theorem yZ (ha:LE X a Ta)(he:∀ whole,isTrue a X.env whole=(do let v ← whole;standAt a.pos;holding [v] (truthy v)):=by intro _;rfl):LT X a (TB Ta):=by
  obtain ⟨ta,pa,sa⟩:=ha.ex
  exact ⟨_,yL pa he,zg sa⟩
variable {tA tB' tC':TTr} {rest:List Expr}
theorem z5 (ha:LT X a tA):LT X (.UnaryOp .Not a pos) (qS tA):=by
  obtain ⟨ta,pa,sa⟩:=ha.ex
  exact ⟨_,y4 pa,fun σ H ρ μ Q Q' rl h k=>sa σ H ρ μ _ _ rl h fun c H1 μ1 t1 m1 h1=>k (!c) H1 μ1 t1 m1 h1⟩
theorem LW.lt (h:LW X a tA):LT X a tA:=by
  obtain ⟨ta,pa,sa⟩:=h.ex
  exact ⟨_,pa.pt,sa⟩
theorem lg (ha:LT X a tA):LW X (.BoolOp .And [a] pos) tA:=by
  obtain ⟨ta,pa,sa⟩:=ha.ex
  exact ⟨_,pw_and1 pa,sa⟩
theorem oP (ha:LT X a tA):LW X (.BoolOp .Or [a] pos) tA:=by
  obtain ⟨ta,pa,sa⟩:=ha.ex
  exact ⟨_,pw_or1 pa,sa⟩
theorem nT (ha:LT X a tA)(hb:LW X (.BoolOp .And (b::rest) pos) tB'):LW X (.BoolOp .And (a::b::rest) pos) (ja tA tB'):=by
  obtain ⟨ta,pa,sa⟩:=ha.ex
  obtain ⟨tb,pb,sb⟩:=hb.ex
  refine ⟨_,pw_and pa pb,fun σ H ρ μ Q Q' rl h k=>sa σ H ρ μ _ _ rl h fun c H1 μ1 t1 m1 h1=>?_⟩
  cases c with
  | true=>exact l6 (sb σ H1 ρ μ1 Q Q' (rl.go t1 m1) h1 fun b H2 μ2 t2=>k b H2 μ2 (t1.trans t2))
  | false=>exact mw (k false H1 μ1 t1 m1 h1)
theorem uY (ha:LT X a tA)(hb:LW X (.BoolOp .Or (b::rest) pos) tB'):LW X (.BoolOp .Or (a::b::rest) pos) (TOr tA tB'):=by
  obtain ⟨ta,pa,sa⟩:=ha.ex
  obtain ⟨tb,pb,sb⟩:=hb.ex
  refine ⟨_,pw_or pa pb,fun σ H ρ μ Q Q' rl h k=>sa σ H ρ μ _ _ rl h fun c H1 μ1 t1 m1 h1=>?_⟩
  cases c with
  | true=>exact l6 (k true H1 μ1 t1 m1 h1)
  | false=>exact mw (sb σ H1 ρ μ1 Q Q' (rl.go t1 m1) h1 fun b H2 μ2 t2=>k b H2 μ2 (t1.trans t2))
theorem yj (hc:LT X c tC')(ha:LE X a Ta)(hb:LE X b Tb):LE X (.IfExp c a b pos) (qz tC' Ta Tb):=by
  obtain ⟨tc,pc,sc⟩:=hc.ex
  obtain ⟨ta,pa,sa⟩:=ha.ex
  obtain ⟨tb,pb,sb⟩:=hb.ex
  refine ⟨_,ue pc pa pb,fun σ H ρ μ Q Q' rl h k=>sc σ H ρ μ _ _ rl h fun q H1 μ1 t1 m1 h1=>?_⟩
  cases q with
  | true=>exact l6 (sa σ H1 ρ μ1 Q Q' (rl.go t1 m1) h1 (k.go t1))
  | false=>exact mw (sb σ H1 ρ μ1 Q Q' (rl.go t1 m1) h1 (k.go t1))
variable {es:List Expr} {At:ATr}
theorem ai:LA X [] au:=⟨_,iT,fun σ H ρ μ Q Q' rl h k=>k [] H [] μ (.refl H) rl.mu .nil h⟩
theorem aa (ha:LE X e Ta)(hr:LA X es At)(hs:starEach (e::es) X.env=(false,eval e X.env)::starEach es X.env:=by rfl):LA X (e::es) (af Ta At):=by
  obtain ⟨ta,pa,sa⟩:=ha.ex
  obtain ⟨tr,pr,sr⟩:=hr.ex
  exact ⟨_,fh pa pr hs,fun σ H ρ μ Q Q' rl h k=>sa σ H ρ μ _ _ rl h fun x H1 dx μ1 t1 m1 p1 h1=>sr σ H1 ρ μ1 _ _ (rl.go t1 m1) h1 fun xs H2 ds μ2 t2 m2 p2 h2=>k _ H2 _ μ2 (t1.trans t2) m2 (.cons (p1.mono t2) p2) h2⟩
theorem bS {K:PySem.W.Frag}{H:Hp}{μ:Mu}{p:Addr}{o:HO}(m:aV K H μ)(hp:H p=none):aV K (L2.upd H p o) μ:=m.keep (.new hp) fun a' xs' _ e=>by rw[ay (aQ e hp)];exact e
theorem big {n:Nat}(h:n≤1000000):n≤sizeLine:=Nat.le_trans h (by decide)
theorem bZ {x1}(h:LA X es At):LE X (.Tuple es x1 pos) (dF At):=by
  obtain ⟨ta,pa,sa⟩:=h.ex
  refine ⟨_,zW pa,fun σ H ρ μ Q Q' rl h k=>sa σ H ρ μ _ _ rl h fun xs H1 ds μ1 t1 m1 p1 h1=>⟨by rw[p1.length];exact big h1.1,fun p hp=>?_⟩⟩
  exact k _ _ _ μ1 (t1.trans (.new hp)) (bS m1 hp) (.tup (SqT.of az) (p1.mono (.new hp))) h1.2
theorem nL (h:LA X es At):LE X (.List es pos) (mL At):=by
  obtain ⟨ta,pa,sa⟩:=h.ex
  refine ⟨_,u4 pa,fun σ H ρ μ Q Q' rl h k=>sa σ H ρ μ _ _ rl h fun xs H1 ds μ1 t1 m1 p1 h1=>⟨by rw[p1.length];exact big h1.1,fun p hp=>?_⟩⟩
  refine k _ _ _ (up μ1 p (.lst ds)) (t1.trans (.new hp)) (fun a o e=>?_) (.obj p) (h1.2 p (m1.free hp))
  by_cases ha:a=p
  · subst ha
    rw[ax] at e;cases e
    exact ⟨xs,az,p1.mono (.new hp)⟩
  · rw[aJ ha] at e
    exact bS m1 hp a o e
def sy (t:TE):TE:=fun σ H Q=>t σ H fun v H1=>∃ a xs,v=.ref a∧H1 a=some (.lst xs)∧∀ o,Q v (L2.upd H1 a (.frz o (.lst xs)))
theorem fX {t:TE}(h:PE X e t):PE X e (sy t):=by
  intro pins s σ H Q I hh
  refine thn (h pins s σ H _ I hh) fun u s1 ⟨v,H1,I1,r,a,xs,ev,ea,q⟩=>?_
  obtain ⟨z,its,n,rv,hg⟩:=(show bu X.prog X.w H1 s1.heap a (.lst xs) from I1.hok a _ ea)
  have nl:∀ b o,H1 b=some o→(∀ ys,o≠.lst ys)→b≠a:=fun b o e1 e2 z=>by subst z;rw[ea] at e1;cases e1;exact e2 _ rfl
  refine ⟨v,_,I1.un (h':=s1.heap) (t':=s1.toks) (H':=L2.upd H1 a (.frz { cls:=.type "list", data:=.seq its.toArray n } (.lst xs))) ⟨fun b o e _ _ _=>e,fun b o e _ _ _=>⟨o.slots,e⟩,fun b o e n _=>?_,fun b o e _=>⟨o,e⟩,fun b ys e=>?_,fun b o u e=>?_,fun b ps e=>⟨#[],?_⟩⟩ (fun b u e=>?_),r,q _⟩
  · rw[ay (fun z=>by subst z;rw[ea] at n;cases n)];exact n
  · rw[ay (nl b _ e (fun _=>nofun))];exact e
  · rw[ay (nl b _ e (fun _=>nofun))];exact e
  · rw[ay (nl b _ e (fun _=>nofun)),e];simp
  · by_cases hb:b=a
    · subst hb
      rw[az] at e;cases e
      exact ⟨hg,z,its,n,rv,hg⟩
    · rw[ay hb] at e
      refine (I1.hok b u e).ix (fun c w _ q=>q) (fun c q=>?_) fun c ys q=>?_
      · rw[ay (nl c _ q (fun _=>nofun))];exact q
      · rw[ay (nl c _ q (fun _=>nofun))];exact q
theorem eP (h:LA X es At):LE X (.List es pos) (gq At):=by
  obtain ⟨ta,pa,sa⟩:=h.ex
  refine ⟨_,fX (u4 pa),fun σ H ρ μ Q Q' rl h k=>sa σ H ρ μ _ _ rl h fun xs H1 ds μ1 t1 m1 p1 h1=>⟨by rw[p1.length];exact big h1.1,fun p hp=>⟨p,xs,rfl,az,fun o=>?_⟩⟩⟩
  have e:L2.upd (L2.upd H1 p (.lst xs)) p (.frz o (.lst xs))=L2.upd H1 p (.frz o (.lst xs)):=kz
  rw[e]
  exact k _ _ _ μ1 (t1.trans (.new hp)) (bS m1 hp) (.ls (.inl ⟨o,az⟩) (p1.mono (.new hp))) h1.2
end
end
section
open PySem PySem.Spec PyProof.Rows L2
mutual
def toP:D→PyData
  | .non=>.none
  | .bl b=>.bool b
  | .int i=>.int i
  | .str x=>.str x
  | .tup ds=>.tuple (fA ds)
  | .ls ds=>.list (fA ds)
  | .ty _=>.none
  | .obj _=>.none
def fA:List D→List PyData
  | []=>[]
  | d::r=>toP d::fA r
end
mutual
theorem dr:∀ (n:Nat) (d:D),okD n d=true→(toP d).canLay0=true∧(toP d).depth≤n
  | n,.non,_=>⟨rfl,Nat.zero_le _⟩
  | n,.bl b,_=>⟨rfl,Nat.zero_le _⟩
  | n,.int i,_=>⟨rfl,Nat.zero_le _⟩
  | n,.str x,h=>⟨by cases n<;>exact h,Nat.zero_le _⟩
  | n+1,.tup ds,h=>by
    obtain ⟨h1,h2⟩:=iU n ds h
    exact ⟨h1,Nat.succ_le_succ h2⟩
  | n+1,.ls ds,h=>by
    obtain ⟨h1,h2⟩:=iU n ds h
    exact ⟨h1,Nat.succ_le_succ h2⟩
  | 0,.tup ds,h=>by cases h
  | 0,.ls ds,h=>by cases h
  | n,.ty _,h=>by cases n<;>cases h
  | n,.obj _,h=>by cases n<;>cases h
theorem iU:∀ (n:Nat) (ds:List D),bB n ds=true→PyData.canLayAll0 (fA ds)=true∧PyData.depthAll (fA ds)≤n
  | n,[],_=>⟨rfl,Nat.zero_le _⟩
  | n,d::r,h=>by
    have h':okD n d=true∧bB n r=true:=by simpa[bB] using h
    obtain ⟨a1,a2⟩:=dr n d h'.1
    obtain ⟨b1,b2⟩:=iU n r h'.2
    refine ⟨?_,?_⟩
    · show (PyData.canLay0 (toP d)&&PyData.canLayAll0 (fA r))=true
      rw[a1,b1];rfl
    · show max (PyData.depth (toP d)) (PyData.depthAll (fA r))≤n
      exact Nat.max_le.mpr ⟨a2,b2⟩
end
theorem str_beq (a b:Str):(a == b)=decide (a=b):=by
  by_cases h:a=b
  · subst h;simp
  · rw[decide_eq_false h];exact beq_eq_false_iff_ne.mpr h
mutual
theorem gG:∀ (n m:Nat) (a b:D),okD n a=true→okD m b=true→PyData.eqv (toP a) (toP b)=eqD a b
  | n,m,.non,b,_,hb=>by cases b<;>first | rfl | (cases m<;>cases hb)
  | n,m,.bl x,b,_,hb=>by
    cases b with
    | int y=>simp only[toP,PyData.eqv,eqD];rw[Bool.beq_eq_decide_eq]
    | ty _=>cases m<;>cases hb
    | obj _=>cases m<;>cases hb
    | _=>rfl
  | n,m,.int x,b,_,hb=>by
    cases b with
    | int y=>simp only[toP,PyData.eqv,eqD];rw[Bool.beq_eq_decide_eq]
    | bl y=>simp only[toP,PyData.eqv,eqD];rw[Bool.beq_eq_decide_eq]
    | ty _=>cases m<;>cases hb
    | obj _=>cases m<;>cases hb
    | _=>rfl
  | n,m,.str x,b,_,hb=>by
    cases b with
    | str y=>simp only[toP,PyData.eqv,eqD];exact str_beq x y
    | ty _=>cases m<;>cases hb
    | obj _=>cases m<;>cases hb
    | _=>rfl
  | n+1,m,.tup xs,b,ha,hb=>by
    cases b with
    | tup ys=>
      cases m with
      | zero=>cases hb
      | succ m=>simp only[toP,PyData.eqv,eqD];exact i8 n m xs ys ha hb
    | ty _=>cases m<;>cases hb
    | obj _=>cases m<;>cases hb
    | _=>rfl
  | n+1,m,.ls xs,b,ha,hb=>by
    cases b with
    | ls ys=>
      cases m with
      | zero=>cases hb
      | succ m=>simp only[toP,PyData.eqv,eqD];exact i8 n m xs ys ha hb
    | ty _=>cases m<;>cases hb
    | obj _=>cases m<;>cases hb
    | _=>rfl
  | 0,_,.tup ds,_,h,_=>by cases h
  | 0,_,.ls ds,_,h,_=>by cases h
  | n,_,.ty _,_,h,_=>by cases n<;>cases h
  | n,_,.obj _,_,h,_=>by cases n<;>cases h
theorem i8:∀ (n m:Nat) (a b:List D),bB n a=true→bB m b=true→PyData.eqvAll (fA a) (fA b)=jz a b
  | _,_,[],[],_,_=>rfl
  | _,_,[],_::_,_,_=>by simp[fA,PyData.eqvAll,jz]
  | _,_,_::_,[],_,_=>by simp[fA,PyData.eqvAll,jz]
  | n,m,a::r,b::s,ha,hb=>by
    have ha':okD n a=true∧bB n r=true:=by simpa[bB] using ha
    have hb':okD m b=true∧bB m s=true:=by simpa[bB] using hb
    show (PyData.eqv (toP a) (toP b)&&PyData.eqvAll (fA r) (fA s))=(eqD a b&&jz r s)
    rw[gG n m a b ha'.1 hb'.1,i8 n m r s ha'.2 hb'.2]
end
section
variable {X:Cx} {pins:List (Addr×Obj)} {σ:L2.St} {H:Hp} {s:Shared}
mutual
theorem b9 (I:Inv X pins σ H s):∀ {n:Nat} {v:V} {d:D} {u:Value},Dp X.K H v d→okD n d=true→RelV v u→∃ as,Reads s.heap u (toP d) as
  | n,_,_,u,.non,_,r=>by cases (show u=Value.none from r);exact ⟨_,.none⟩
  | n,_,_,u,.bl b,_,r=>by cases (show u=Value.bool b from r);exact ⟨_,.bool b⟩
  | n,_,_,u,.int i,_,r=>by obtain ⟨t,e⟩:=(show ∃ t,u=Value.int i t from r);subst e;exact ⟨_,.int i t⟩
  | n,_,_,u,.str x,_,r=>by obtain ⟨t,e⟩:=(show ∃ t,u=Value.str x t from r);subst e;exact ⟨_,.str x t⟩
  | n,_,_,u,.ty _,h,_=>by cases n<;>cases h
  | n+1,_,_,u,@Dp.tup _ _ a xs ds q l,h,r=>by
    cases (show u=Value.ref a from r)
    obtain ⟨its,rv,⟨o,e1,e2,k,e3⟩,_⟩:=I.tuple q
    obtain ⟨as,ra⟩:=eg I (n:=n) l h rv
    exact ⟨_,.tuple e1 e2 e3 (by simpa using ra)⟩
  | n+1,_,_,u,@Dp.ls _ _ a xs ds q l,h,r=>by
    cases (show u=Value.ref a from r)
    obtain ⟨its,rv,⟨o,k,e1,e2,_,e3⟩,_⟩:=I.list q.sq
    obtain ⟨as,ra⟩:=eg I (n:=n) l h rv
    exact ⟨_,.list e1 e2 e3 (by simpa using ra)⟩
  | 0,_,_,u,@Dp.tup _ _ a xs ds q l,h,r=>by cases h
  | 0,_,_,u,@Dp.ls _ _ a xs ds q l,h,r=>by cases h
  | n,_,_,u,.obj _,h,_=>by cases n<;>cases h
theorem eg (I:Inv X pins σ H s):∀ {n:Nat} {vs:List V} {ds:List D} {us:List Value},DpL X.K H vs ds→bB n ds=true→Vals vs us→∃ as,ReadsAll s.heap us (fA ds) as
  | n,_,_,_,.nil,_,.nil=>⟨_,.nil⟩
  | n,_,_,_,@DpL.cons _ _ v d vs ds h l,ho,.cons r rs=>by
    have ho':okD n d=true∧bB n ds=true:=by simpa[bB] using ho
    obtain ⟨as,ra⟩:=b9 I h ho'.1 r
    obtain ⟨bs,rb⟩:=eg I l ho'.2 rs
    exact ⟨_,.cons ra rb⟩
end
end
def wx (K:PySem.W.Frag)(f:Bool→Bool):R2:=fun x y H Q=>∃ dx dy,Dp K H x dx∧Dp K H y dy∧okD 40 dx=true∧okD 40 dy=true∧Q (.bl (f (eqD dx dy))) H
section
variable {X:Cx} {a b c e:Expr} {Ta Tb Tc:ETr} {pos:Pos}
theorem tF (hu:X.A.units+64 < cLine):OpR X (compareOp .Eq) (wx X.K id):=fun pins s σ H x y v u Q I rx ry ⟨dx,dy,px,py,ox,oy,q⟩=>by
  obtain ⟨as,ra⟩:=b9 I px ox rx
  obtain ⟨bs,rb⟩:=b9 I py oy ry
  obtain ⟨l1,d1⟩:=dr 40 dx ox
  obtain ⟨l2,d2⟩:=dr 40 dy oy
  exact SeqAt.compareEq_reads ra rb l1 l2 (by have:=Nat.min_le_left (toP dx).depth (toP dy).depth;omega) ⟨.bl _,H,I,rfl,by rw[gG 40 40 dx dy ox oy];exact q⟩
theorem zl (hu:X.A.units+64 < cLine):OpR X (compareOp .NotEq) (wx X.K not):=fun pins s σ H x y v u Q I rx ry ⟨dx,dy,px,py,ox,oy,q⟩=>by
  obtain ⟨as,ra⟩:=b9 I px ox rx
  obtain ⟨bs,rb⟩:=b9 I py oy ry
  obtain ⟨l1,d1⟩:=dr 40 dx ox
  obtain ⟨l2,d2⟩:=dr 40 dy oy
  exact SeqAt.compareNe_reads ra rb l1 l2 (by have:=Nat.min_le_left (toP dx).depth (toP dy).depth;omega) ⟨.bl _,H,I,rfl,by rw[gG 40 40 dx dy ox oy];exact q⟩
theorem uK {K:PySem.W.Frag}:cY K (wx K id) rEq:=fun H μ x y dx dy Q Q' m px py h k=>⟨dx,dy,px,py,h.1.1,h.1.2,k _ H _ μ (.refl H) m (.bl _) h.2⟩
theorem ym {K:PySem.W.Frag}:cY K (wx K not) rNe:=fun H μ x y dx dy Q Q' m px py h k=>⟨dx,dy,px,py,h.1.1,h.1.2,k _ H _ μ (.refl H) m (.bl _) h.2⟩
theorem le_eq (hu:X.A.units+64 < cLine)(ha:LE X a Ta)(hb:LE X b Tb):LE X (.Compare a [.Eq] [b] pos) (ak rEq Ta Tb):=kP (tF hu) uK ha hb (dB _)
theorem lt_eq (hu:X.A.units+64 < cLine)(ha:LE X a Ta)(hb:LE X b Tb):LT X (.Compare a [.Eq] [b] pos) (TB (ak rEq Ta Tb)):=cS (tF hu) uK ha hb (dB _)
theorem xF (hu:X.A.units+64 < cLine)(ha:LE X a Ta)(hb:LE X b Tb):LT X (.Compare a [.NotEq] [b] pos) (TB (ak rNe Ta Tb)):=cS (zl hu) ym ha hb (dB _)
theorem zI {K:PySem.W.Frag}:cY K (fun x y H Q=>y=.non∧Q (.bl (decide (x=.non))) H) rIs:=fun H μ x y dx dy Q Q' m px py h k=>by
  cases py with
  | non=>
    refine ⟨rfl,?_⟩
    cases px with
    | non=>exact k _ H _ μ (.refl H) m (.bl _) h
    | _=>exact k _ H _ μ (.refl H) m (.bl _) h
  | _=>exact False.elim h
theorem Bw (ha:LE X a Ta)(hb:LE X b Tb):LT X (.Compare a [.Is] [b] pos) (TB (ak rIs Ta Tb)):=cS yC zI ha hb (dB _)
theorem fE {o:Option D}{f:D→Prop}(h:kO o f):∃ d,o=some d∧f d:=by
  cases o with
  | none=>exact False.elim h
  | some d=>exact ⟨d,rfl,h⟩
theorem a9 {μ:Mu}{a:Addr}{f:List D→Prop}(h:kL μ a f):∃ ds,μ a=some (.lst ds)∧f ds:=by
  unfold kL at h
  cases e:μ a with
  | none=>rw[e] at h;exact False.elim h
  | some o=>cases o with
    | lst ds=>rw[e] at h;exact ⟨ds,rfl,h⟩
    | dct ds=>rw[e] at h;exact False.elim h
theorem fF {μ:Mu}{a:Addr}{f:List (Key×D)→Prop}(h:kD μ a f):∃ ds,μ a=some (.dct ds)∧f ds:=by
  unfold kD at h
  cases e:μ a with
  | none=>rw[e] at h;exact False.elim h
  | some o=>cases o with
    | lst ds=>rw[e] at h;exact False.elim h
    | dct ds=>rw[e] at h;exact ⟨ds,rfl,h⟩
theorem tq {o:Option Nat}{f:Nat→Prop}(h:kN o f):∃ d,o=some d∧f d:=by
  cases o with
  | none=>exact False.elim h
  | some d=>exact ⟨d,rfl,h⟩
theorem zG {K:PySem.W.Frag}:cY K (L2.rIx K) L3.rIx:=fun H μ x y dx dy Q Q' m px py h k=>by
  cases px with
  | @tup a xs ds q l=>
    cases py with
    | int i=>
      obtain ⟨d,e,h'⟩:=fE h
      obtain ⟨v,e1,p⟩:=l.at e
      exact .inr (.inl ⟨a,xs,i,v,rfl,rfl,q,e1,k _ H _ μ (.refl H) m p h'⟩)
    | _=>exact False.elim h
  | @ls a xs ds q l=>
    cases py with
    | int i=>
      obtain ⟨d,e,h'⟩:=fE h
      obtain ⟨v,e1,p⟩:=l.at e
      exact .inl ⟨a,xs,i,v,rfl,rfl,q.sq,e1,k _ H _ μ (.refl H) m p h'⟩
    | _=>exact False.elim h
  | obj a=>
    cases py with
    | int i=>
      obtain ⟨ds,e0,h1⟩:=a9 h
      obtain ⟨d,e,h'⟩:=fE h1
      obtain ⟨xs,ex,l⟩:=m a _ e0
      obtain ⟨v,e1,p⟩:=l.at e
      exact .inl ⟨a,xs,i,v,rfl,rfl,SqL.of ex,e1,k _ H _ μ (.refl H) m p h'⟩
    | _=>exact False.elim h
  | _=>cases py<;>exact False.elim h
theorem bh (ha:LE X a Ta)(hb:LE X b Tb)(hs:oZ b:=by intro _ _;rfl):LE X (.Subscript a b pos) (ak L3.rIx Ta Tb):=by
  obtain ⟨ta,pa,sa⟩:=ha.ex
  obtain ⟨tb,pb,sb⟩:=hb.ex
  exact ⟨_,Bv Ad pa pb hs,gD zG sa sb⟩
variable {es:List Expr} {At:ATr} {x:Str} {p:Pos} {id T:String}
def fe (K:PySem.W.Frag)(r:List V→Hp→VK→Prop)(R:FSp):Prop:=∀ H μ xs ds (Q:DK) (Q':VK),aV K H μ→DpL K H xs ds→R ds μ Q→eM K H Q Q'→r xs H Q'
theorem j6 {K:PySem.W.Frag}{r:List V→Hp→VK→Prop}{R:FSp}{ta:TA}(hr:fe K r R)(ha:A7 K ta At):Sim K (tCB r ta) (ao R At):=fun σ H ρ μ Q Q' rl h k=>
  ha σ H ρ μ _ _ rl h fun xs H1 ds μ1 t1 m1 p1 h1=>hr H1 μ1 xs ds Q Q' m1 p1 h1 (k.go t1)
theorem aF {r:List V→Hp→VK→Prop}{R:FSp}(hc:bb X (.builtin id) r)(hr:fe X.K r R)(hg:Gl X x)(hm:X.mg x=none)(hv:bootBuiltins x=some (.builtin id))(ha:LA X (e::es) At)(hn:x ≠ "__name__" := by decide)(hdb:(x == ("__debug__" : Str))=false:=by decide)
    (h1:starEach (e::es) X.env=(false,eval e X.env)::starEach es X.env:=by rfl) (h2:(backTo pos (starEach es X.env)).any (·.1)=false:=by rfl):LE X (.Call (.Name x p) (e::es) [] pos) (ao R At):=by
  obtain ⟨ta,pa,sa⟩:=ha.ex
  exact ⟨_,mI hc hg hm hv pa hn hdb h1 h2,j6 hr sa⟩
theorem aP {r:List V→Hp→VK→Prop}{R:FSp}(hc:bb X (.type T) r)(hr:fe X.K r R)(hg:Gl X x)(hm:X.mg x=none)(hv:bootBuiltins x=some (.type T))(ha:LA X (e::es) At)(hn:x ≠ "__name__" := by decide)(hdb:(x == ("__debug__" : Str))=false:=by decide)
    (h1:starEach (e::es) X.env=(false,eval e X.env)::starEach es X.env:=by rfl) (h2:(backTo pos (starEach es X.env)).any (·.1)=false:=by rfl):LE X (.Call (.Name x p) (e::es) [] pos) (ao R At):=by
  obtain ⟨ta,pa,sa⟩:=ha.ex
  exact ⟨_,jH hc hg hm hv pa hn hdb h1 h2,j6 hr sa⟩
theorem vO {K:PySem.W.Frag}:fe K (fun xs H Q=>∃ i,xs=[.int i]∧Q (.int (if i < 0 then -i else i)) H) p9:=fun H μ xs ds Q Q' m p h k=>by
  unfold p9 at h
  split at h
  · cases p with | cons p1 p2=>cases p2;cases p1;exact ⟨_,rfl,k _ H _ μ (.refl H) m (.int _) h⟩
  · exact False.elim h
theorem lR {K:PySem.W.Frag}:fe K (fun xs H Q=>∃ i j,xs=[.int i,.int j]∧Q (.int (if j > i then j else i)) H) jW:=fun H μ xs ds Q Q' m p h k=>by
  unfold jW at h
  split at h
  · cases p with | cons p1 p2=>cases p2 with | cons p2 p3=>cases p3;cases p1;cases p2;exact ⟨_,_,rfl,k _ H _ μ (.refl H) m (.int _) h⟩
  · exact False.elim h
theorem mF {K:PySem.W.Frag}:fe K (fun xs H Q=>∃ i j,xs=[.int i,.int j]∧Q (.int (if j < i then j else i)) H) j5:=fun H μ xs ds Q Q' m p h k=>by
  unfold j5 at h
  split at h
  · cases p with | cons p1 p2=>cases p2 with | cons p2 p3=>cases p3;cases p1;cases p2;exact ⟨_,_,rfl,k _ H _ μ (.refl H) m (.int _) h⟩
  · exact False.elim h
theorem kj {K:PySem.W.Frag}:fe K (fun xs H Q=>(∃ i,xs=[.int i]∧Q (.int i) H)∨∃ k,xs=[.bl k]∧Q (.int (if k then 1 else 0)) H) kK:=fun H μ xs ds Q Q' m p h k=>by
  unfold kK at h
  split at h
  · cases p with | cons p1 p2=>cases p2;cases p1;exact .inl ⟨_,rfl,k _ H _ μ (.refl H) m (.int _) h⟩
  · cases p with | cons p1 p2=>cases p2;cases p1;exact .inr ⟨_,rfl,k _ H _ μ (.refl H) m (.int _) h⟩
  · exact False.elim h
theorem bb.or {f:Value}{r r':List V→Hp→VK→Prop}(h:bb X f r)(h':bb X f r'):bb X f (fun xs H Q=>r xs H Q∨r' xs H Q):=fun pins s σ H xs us Q I rx q=>by
  rcases q with q | q
  · exact h pins s σ H xs us Q I rx q
  · exact h' pins s σ H xs us Q I rx q
theorem bR {K:PySem.W.Frag}:fe K (fun xs H Q=>(∃ p ys,xs=[.ref p]∧(SqL K H p ys∨SqT K H p ys)∧Q (.int ys.length) H)∨∃ z,xs=[.str z]∧z.length≤sizeLine∧Q (.int z.length) H) cN:=fun H μ xs ds Q Q' m p h k=>by
  unfold cN at h
  split at h
  · cases p with | cons p1 p2=>cases p2;cases p1 with | tup q l=>exact .inl ⟨_,_,rfl,.inr q,k _ H _ μ (.refl H) m (by rw[l.length];exact .int _) h⟩
  · cases p with | cons p1 p2=>cases p2;cases p1 with | ls q l=>exact .inl ⟨_,_,rfl,.inl q.sq,k _ H _ μ (.refl H) m (by rw[l.length];exact .int _) h⟩
  · cases p with | cons p1 p2=>cases p2;cases p1;exact .inr ⟨_,rfl,big h.1,k _ H _ μ (.refl H) m (.int _) h.2⟩
  · rename_i a
    cases p with | cons p1 p2=>
    cases p2;cases p1
    obtain ⟨ys,e0,h⟩:=a9 h
    obtain ⟨xs,ex,l⟩:=m a _ e0
    exact .inl ⟨_,_,rfl,.inl (SqL.of ex),k _ H _ μ (.refl H) m (by rw[l.length];exact .int _) h⟩
  · exact False.elim h
theorem aY:bb X (.builtin "len") (fun xs H Q=>(∃ p ys,xs=[.ref p]∧(SqL X.K H p ys∨SqT X.K H p ys)∧Q (.int ys.length) H)∨∃ z,xs=[.str z]∧z.length≤sizeLine∧Q (.int z.length) H):=bb.or kH lI
end
end
section
open PySem PySem.Spec PyProof.Rows L2
section
variable {X:Cx} {a b c e tg o:Expr} {Ta Tb Tc:ETr} {pos:Pos} {es:List Expr} {At:ATr} {x:Str} {p:Pos} {id T:String} {st:Stmt} {rest:List Stmt} {T1 T2:STr} {tA:TTr}
theorem cP:LSs X [] cI:=⟨_,vT,fun σ H ρ μ E E' rl h k=>k.nx _ _ _ _ (.refl H) rl h⟩
theorem aj (h1:LS X st T1)(h2:LSs X rest T2):LSs X (st::rest) (aD T1 T2):=by
  obtain ⟨t1,p1,s1⟩:=h1.ex
  obtain ⟨t2,p2,s2⟩:=h2.ex
  exact ⟨_,rV p1 p2,fun σ H ρ μ E E' rl h k=>s1 σ H ρ μ _ _ rl h ⟨fun σ' H' ρ' μ' t' r' q=>s2 σ' H' ρ' μ' E E' r' q (k.go t'),k.rt,k.bk,k.ct⟩⟩
theorem aE (h1:LS X st T1):LSs X [st] T1:=by
  obtain ⟨t1,p1,s1⟩:=h1.ex
  exact ⟨_,wm p1,s1⟩
theorem lu (he:LE X e Ta)(hs:swapsWith e none pos.line X.env=pure false:=by rfl):LS X (.Expr e pos) (gn Ta):=by
  obtain ⟨ta,pa,sa⟩:=he.ex
  exact ⟨_,w6 pa hs,fun σ H ρ μ E E' rl h k=>sa σ H ρ μ _ _ rl h fun v H' d μ' t' m' p' h'=>k.nx _ _ _ _ t' (rl.go t' m') h'⟩
theorem bq (he:LE X e Ta):LS X (.Return (some e) pos) (cy Ta):=by
  obtain ⟨ta,pa,sa⟩:=he.ex
  exact ⟨_,yN pa,fun σ H ρ μ E E' rl h k=>sa σ H ρ μ _ _ rl h k.rt⟩
theorem gj {sa sb:List Stmt}(hc:LT X c tA)(ha:LSs X sa T1)(hb:LSs X sb T2):LS X (.If c sa sb pos) (eS tA T1 T2):=by
  obtain ⟨tc,pc,sc⟩:=hc.ex
  obtain ⟨t1,p1,s1⟩:=ha.ex
  obtain ⟨t2,p2,s2⟩:=hb.ex
  refine ⟨_,AB pc p1 p2,fun σ H ρ μ E E' rl h k=>sc σ H ρ μ _ _ rl h fun q H1 μ1 t1' m1 h1=>?_⟩
  cases q with
  | true=>exact l6 (s1 σ H1 ρ μ1 E E' (rl.go t1' m1) h1 (k.go t1'))
  | false=>exact mw (s2 σ H1 ρ μ1 E E' (rl.go t1' m1) h1 (k.go t1'))
theorem el {K:PySem.W.Frag}(i:Nat):zk K (jR i) (aq i):=fun σ H ρ μ v d k k' rl p h q=>q _ _ _ _ (.refl H) (rl.set p i) h
theorem ft (i:Nat)(hN:X.N.Nodup)(hi:X.N[i]? = some x:=by rfl)(hx:Loc X.env.scope x:=by first | exact Or.inl rfl | exact Or.inr rfl)(hf:X.fn x=true∨X.env.scope.names.lookup x=some .local:=by first | exact .inl rfl | exact .inr rfl | assumption):LG X (.Name x pos) (aq i):=
  ⟨_,fk hN hi hx hf,el i⟩
theorem aG (i:Nat){pos':Pos}(hN:X.N.Nodup)(he:LE X e Ta)(hi:X.N[i]? = some x:=by rfl)(hx:Loc X.env.scope x:=by first | exact Or.inl rfl | exact Or.inr rfl)(hs:swapsWith e (some (.Name x pos')) pos.line X.env=pure false:=by rfl)
    (hf:X.fn x=true∨X.env.scope.names.lookup x=some .local:=by first | exact .inl rfl | exact .inr rfl | assumption):LS X (.Assign [.Name x pos'] e pos) (aU Ta (aq i)):=by
  obtain ⟨ta,pa,sa⟩:=he.ex
  exact ⟨_,zM hN hi hx pa hs hf,fun σ H ρ μ E E' rl h k=>sa σ H ρ μ _ _ rl h fun v H' d μ' t' m' p' h'=>el i σ H' ρ μ' v d _ _ (rl.go t' m') p' h' (k.go t').nx⟩
theorem zu (i j:Nat){y:Str}{px py pt:Pos}{kt k2 pt2}(hc:X.calm=true)(hN:X.N.Nodup)(ha:LA X [a,b] At)(hi:X.N[i]? = some x:=by rfl)(hj:X.N[j]? = some y:=by rfl)(hij:i≠j:=by decide)
    (hx:X.env.scope.names.lookup x=some .local:=by rfl) (hy:X.env.scope.names.lookup y=some .local:=by rfl)
    (hw:swappedStores [.Tuple [.Name x px,.Name y py] kt pt] (.Tuple [a,b] k2 pt2) X.env=pure (some [x,y]):=by rfl)
    (hs:swapsWithSole [.Tuple [.Name x px,.Name y py] kt pt] (.Tuple [a,b] k2 pt2) pos.line X.env=pure false:=by rfl) :
    LS X (.Assign [.Tuple [.Name x px,.Name y py] kt pt] (.Tuple [a,b] k2 pt2) pos) (qr i j At):=by
  obtain ⟨ta,pa,sa⟩:=ha.ex
  refine ⟨_,xY hc hN hi hj hij hx hy pa hw hs,fun σ H ρ μ E E' rl h k=>sa σ H ρ μ _ _ rl h fun vs H' ds μ' t' m' p' h'=>?_⟩
  unfold L3.k2 at h'
  split at h'
  · rename_i dv dw
    cases p' with | cons p1 p2=>cases p2 with | cons p2 p3=>
    cases p3
    exact ⟨_,_,rfl,k.nx _ _ _ _ t' (((rl.go t' m').set p1 i).set p2 j) h'⟩
  · exact False.elim h'
theorem sN {body:List Stmt}(hp:PassesOwn (model X.prog X.w) X.A X.env X.xe)(hc:LT X c tA)(hb:LSs X body T1):LS X (.While c body [] pos) (tE tA T1):=by
  obtain ⟨tc,pc,sc⟩:=hc.ex
  obtain ⟨t1,p1,s1⟩:=hb.ex
  refine ⟨_,sV hp pc p1,fun σ H ρ μ E E' rl h k=>?_⟩
  obtain ⟨P,m,h0,hs⟩:=h
  refine ⟨fun n σ' H'=>∃ ρ' μ',Tk H H'∧Rl X.K σ' H' ρ' μ'∧P ρ' μ'∧n=m ρ' μ',⟨_,ρ,μ,.refl H,rl,h0,rfl⟩,?_⟩
  rintro n σ1 H1 ⟨ρ1,μ1,t1',rl1,hP,rfl⟩
  refine sc σ1 H1 ρ1 μ1 _ _ rl1 (hs ρ1 μ1 hP) fun q H2 μ2 t2 m2 h2=>?_
  have t12:=t1'.trans t2
  cases q with
  | true=>
    refine l6 ⟨fun σ' H'=>∃ ρ' μ',Tk H H'∧Rl X.K σ' H' ρ' μ'∧P ρ' μ'∧m ρ' μ' < m ρ1 μ1,fun σ' H' ⟨ρ',μ',a1,a2,a3,a4⟩=>⟨_,a4,ρ',μ',a1,a2,a3,rfl⟩,?_⟩
    have h2':=h2
    refine s1 σ1 H2 ρ1 μ2 _ _ (rl1.go t2 m2) h2' ⟨fun σ' H' ρ' μ' t' r' q=>⟨ρ',μ',t12.trans t',r',q.1,q.2⟩,(k.go t12).rt,(k.go t12).nx,fun σ' H' ρ' μ' t' r' q=>⟨ρ',μ',t12.trans t',r',q.1,q.2⟩⟩
  | false=>exact mw (k.nx _ _ _ _ t12 (rl1.go t2 m2) h2)
end
def lift (K:PySem.W.Frag)(sp:FSp):Sp:=fun vs H Q _=>∃ ds μ QQ,DpL K H vs ds∧aV K H μ∧sp ds μ QQ∧eM K H QQ Q
def RT (Q:DK):DK:=fun d μ'=>∃ μ,Sub μ μ'∧Q d μ
def ini (n:Nat)(ds:List D):ST:=ds.map some++List.replicate (n - ds.length) none
theorem yQ:∀ (ds:List D) (n i:Nat) (d:D),lk (ini n ds) i=some d→ds[i]? = some d:=by
  intro ds
  have rep:∀ m i (d:D),lk (List.replicate m none) i=some d→False:=by
    intro m
    induction m with
    | zero=>intro i d h;cases i<;>cases h
    | succ m ih=>intro i d h;cases i with
      | zero=>cases h
      | succ i=>exact ih i d h
  have gen:∀ (ds:List D) m i d,lk (ds.map some++List.replicate m none) i=some d→ds[i]? = some d:=by
    intro ds
    induction ds with
    | nil=>intro m i d h;exact (rep m i d h).elim
    | cons x r ih=>intro m i d h;cases i with
      | zero=>simpa[lk] using h
      | succ i=>simpa using ih m i d h
  exact fun n i d h=>gen ds _ i d h
section
variable {P:Program} {w:World} {K:PySem.W.Frag} {mg:Str→Option Value} {base:Heap}
theorem xH {x qual:Str}{st:Stmt}{f:Addr}{fd:FuncData}{N ps:List Str}{k:Nat}{sp:FSp}{T:STr}(F:Fun K x qual st f fd)(S:a6 N ps (ar st))(len:∀ ds μ Q,sp ds μ Q→ds.length=ps.length)
    (hb:∀ (cdv:Value) (A:Around) (outer:List Env) (s:Shared) (H:Hp) (E:XK),cz k (A.deeper (envOfC qual (ar st) s.heap.objs.size f cdv))→
      LSs (lO CX0 P w K mg base N qual (ar st) f cdv A outer s H E).nox (cT st) T)
    (hr:∀ ds μ Q,sp ds μ Q→T { nx:=fun _ μ'=>RT Q .non μ',rt:=RT Q } (ini N.length ds) μ):dQ P w K mg base CX0 (k+1) f fd ps (lift K sp):=by
  refine F.ok S (fun vs H Q E h=>?_) (fun cdv A outer s H vs Q E hroom h=>?_)
  · obtain ⟨ds,μ,QQ,l,m,h1,k⟩:=h
    rw[l.length];exact len ds μ QQ h1
  · obtain ⟨ds,μ,QQ,l,m,h1,k⟩:=h
    obtain ⟨t,pt,stt⟩:=(hb cdv A outer s H E hroom).ex
    have hl:vs.length=ds.length:=l.length
    refine ⟨t,pt,stt (L2.start N vs) H (ini N.length ds) μ _ _ ⟨?_,fun i d e=>?_,m⟩ (hr ds μ QQ h1) ⟨fun σ' H' ρ' μ' t' r' q=>?_,fun v H' d μ' t' m' p' q=>?_,fun _ _ _ _ _ _ q=>q,fun _ _ _ _ _ _ q=>q⟩⟩
    · unfold ini L2.start;simp[hl]
    · have e':=yQ ds _ i d e
      obtain ⟨v,e1,p⟩:=l.get e'
      refine ⟨v,?_,p⟩
      unfold L2.start
      have hi:i < vs.length:=(List.getElem?_eq_some_iff.mp e1).1
      rw[List.getElem?_append_left (by simpa using hi),List.getElem?_map,e1]
      rfl
    · obtain ⟨μ2,s2,q2⟩:=q
      exact k _ _ _ μ2 t' (r'.mu.sub s2) .non q2
    · obtain ⟨μ2,s2,q2⟩:=q
      exact k _ _ _ μ2 t' (m'.sub s2) p' q2
end
section
variable {X:Cx} {k:Nat} {f:Addr} {fd:FuncData} {ps:List Str} {sp:FSp} {x:Str} {p pos:Pos} {e:Expr} {es:List Expr} {At:ATr}
theorem wR (F:dQ X.prog X.w X.K X.mg X.base CX0 k f fd ps (lift X.K sp))(hr:cz k X.A)(hg:Gl X x)(hm:X.mg x=some (.ref f))(hk:PySem.W.keepIn X.K (.ref f)=true)(hb:Binds X.K fd ps [])
    (ha:LA X (e::es) At) (hdb:(x == ("__debug__" : Str))=false:=by decide) (he:starEach (e::es) X.env=(false,eval e X.env)::starEach es X.env:=by rfl) (hpl:(backTo pos (starEach es X.env)).any (·.1)=false:=by rfl) :
    LE X (.Call (.Name x p) (e::es) [] pos) (ao sp At):=by
  obtain ⟨ta,pa,sa⟩:=ha.ex
  refine ⟨_,vN F hr hg hm hk hb .nil BC pa hdb he hpl,fun σ H ρ μ Q Q' rl h k=>sa σ H ρ μ _ _ rl h fun xs H1 ds μ1 t1 m1 p1 h1=>?_⟩
  rw[List.append_nil]
  exact ⟨ds,μ1,Q,p1,m1,h1,k.go t1⟩
end
end
section
open PySem PySem.Spec PyProof.Rows L2
theorem DpL.ints {K:PySem.W.Frag}{H:Hp}:∀ ns:List Int,DpL K H (ns.map V.int) (ns.map D.int)
  | []=>.nil
  | n::r=>.cons (.int n) (DpL.ints r)
theorem SqF.only {K:PySem.W.Frag}{H:Hp}{a:Addr}{xs:List V}(hO:we H)(h:SqL K H a xs):SqF K H a xs:=by
  rcases h with (h | h) | h
  · rcases hO a with z | ⟨o,ys,z⟩
    · rw[h] at z;cases z
    · rw[h] at z;cases z
  · exact .inl h
  · exact .inr h
theorem Bg {l:PySem.W.OpenLaw}{k:Nat}{q:Program}{loose:List Str}{XP:(Str→Option Value)→Heap→Prop}{YP:World→Heap→Prop}{d:DefRec}{K:Params→PySem.W.Frag}{sp:FSp}{x:Str}
    (hn:l.most=some 63) (hdf:d.params.defaults=[]) (hr:cz k callerA) (hY:∀ (w:World) (h:Heap),YP w h→(K w.params).In h)
    (hl:∀ ns:List Int,ns.length≤63→∀ μ,sp [.ls (ns.map .int)] μ (fun d _=>d=.bl true))
    (F:∀ (w:World) (mg:Str→Option Value) (fa:Addr) (h:Heap),(K w.params).In h→h.Ns mainGlobals mg→mg d.name=some (.ref fa)→
      ∃ fd:FuncData,(∀ (s:Shared) (u:Value),BindsTo s fd ⟨[u],[]⟩ [(x,u)])∧∀ base:Heap,(K w.params).In base→base.Ns mainGlobals mg→dQ l.prog w (K w.params) mg base CX0 k fa fd [x] (lift (K w.params) sp)) :
    PySem.W.WalkO q loose XP YP l.row.toRowW d [] (fun f vs=>PySem.call f vs):=
  L2.vA (n:=63) (k:=k) (x:=x) (CX:=fun _=>CX0) (sp:=fun w=>lift (K w.params) sp) hn (by decide) hdf hr hY F
    (fun w H a ns hl' hO hS=>⟨[.ls (ns.map .int)],fun _=>none,_,.cons (.ls (.only hO hS) (.ints ns)) .nil,(fun a o e=>by cases e),hl ns hl' _,fun v H' d μ' _ _ p e=>by
      have e':d=.bl true:=e
      subst e'
      cases p;rfl⟩) fun _ _ _ _ _ z=>z
end
section
open PySem PySem.Spec PyProof.Rows L2
structure cg (P:Program) (w:World) (K:PySem.W.Frag) (mg:Str→Option Value) (base:Heap) (k:Nat) (x:Str) (ps:List Str) (sp:FSp):Prop where
  ex:∃ f fd,dQ P w K mg base CX0 k f fd ps (lift K sp)∧mg x=some (.ref f)∧PySem.W.keepIn K (.ref f)=true∧Binds K fd ps []
section
variable {P:Program} {w:World} {K:PySem.W.Frag} {mg:Str→Option Value} {base:Heap}
theorem b3 {x qual:Str}{st:Stmt}{f:Addr}{fd:FuncData}{N ps:List Str}{k:Nat}{sp:FSp}{T:STr}(m:mg x=some (.ref f))(F:Fun K x qual st f fd)(S:a6 N ps (ar st))(len:∀ ds μ Q,sp ds μ Q→ds.length=ps.length)
    (hr:∀ ds μ Q,sp ds μ Q→T { nx:=fun _ μ'=>RT Q .non μ',rt:=RT Q } (ini N.length ds) μ)
    (b:∀ (kV doc pm:Value) (an:Option Addr) (cdv ct:Value) (us:List Value),us.length=ps.length→bindArgs (PySem.W.fnOf x qual (fz st) (cT st) (ar st) .none kV doc pm an cdv ct) ⟨us,[]⟩=pure (ps.zip us))
    (hb:∀ (cdv:Value) (A:Around) (outer:List Env) (s:Shared) (H:Hp) (E:XK),cz k (A.deeper (envOfC qual (ar st) s.heap.objs.size f cdv))→(A.deeper (envOfC qual (ar st) s.heap.objs.size f cdv)).units+64 < cLine→
      LSs (lO CX0 P w K mg base N qual (ar st) f cdv A outer s H E).nox (cT st) T):cg P w K mg base (k+1) x ps sp:=
  ⟨f,fd,xH F S len (fun cdv A outer s H E h=>hb cdv A outer s H E h h.units) hr,m,F.kp,F.binds b⟩
end
theorem av {X:Cx}{k n:Nat}{x:Str}{ps:List Str}{sp:FSp}{e:Expr}{es:List Expr}{At:ATr}{p pos:Pos}(C:cg X.prog X.w X.K X.mg X.base k x ps sp)(hr:cz n X.A)(hg:Gl X x)
    (ha:LA X (e::es) At) (hle:k≤n:=by decide) (hdb:(x == ("__debug__" : Str))=false:=by decide) (he:starEach (e::es) X.env=(false,eval e X.env)::starEach es X.env:=by rfl) (hpl:(backTo pos (starEach es X.env)).any (·.1)=false:=by rfl) :
    LE X (.Call (.Name x p) (e::es) [] pos) (ao sp At):=by
  obtain ⟨f,fd,F,m,kp,b⟩:=C.ex
  exact wR F (hr.mono hle) hg m kp b ha hdb he hpl
end
section
open PySem PySem.Spec PyProof.Rows L2
def aN (X:Cx)(scope:Scope)(Nc:List Str)(cl:List (Str×Addr))(C:Addr)(s₀:Shared)(H₀:Hp)(ex:List Addr):Cx:=
  { X with env:=compEnvC scope cl C X.env,N:=Nc,s₀:=s₀,H₀:=H₀,outer:=X.stack,ex:=ex,fn:=fun _=>false,pn:=[] }
theorem hX {scope:Scope}{env:Env}(h:∀ y∈scope.names,y.2=.free→∃ c,env.cells.lookup y.1=some c) :
    ∃ cl,closureFor scope env=pure cl∧(∀ x c,cl.lookup x=some c→env.cells.lookup x=some c)∧∀ y∈scope.names,y.2=.free→∃ c,cl.lookup y.1=some c:=by
  have gen:∀ (ns:List (Str×NameKind)) (cs:List (Str×Addr)),(∀ y∈ns,y.2=.free→∃ c,env.cells.lookup y.1=some c)→(∀ x c,cs.lookup x=some c→env.cells.lookup x=some c)→
      ∃ cl,(forIn ns cs fun x r=>if (x.2 == NameKind.free)=true then do let c ← cellOf env x.1;pure (ForInStep.yield ((x.1,c)::r)) else pure (ForInStep.yield r):Sem _)=pure cl∧(∀ x c,cl.lookup x=some c→env.cells.lookup x=some c)∧
        (∀ x,(cs.lookup x).isSome=true→(cl.lookup x).isSome=true)∧∀ y∈ns,y.2=.free→∃ c,cl.lookup y.1=some c:=by
    intro ns
    induction ns with
    | nil=>intro cs _ h2;exact ⟨cs,rfl,h2,fun _ z=>z,fun _ z=>nomatch z⟩
    | cons y r ih=>
      intro cs h1 h2
      obtain ⟨n,k⟩:=y
      by_cases hk:k=.free
      · subst hk
        obtain ⟨c,hc⟩:=h1 (n,.free) List.mem_cons_self rfl
        have h2':∀ x c',((n,c)::cs).lookup x=some c'→env.cells.lookup x=some c':=fun x c' e=>by
          rw[List.lookup_cons] at e
          split at e
          · rename_i hx
            cases e
            have:x=n:=by simpa using hx
            subst this;exact hc
          · exact h2 x c' e
        obtain ⟨cl,e1,e2,e3,e4⟩:=ih ((n,c)::cs) (fun y hy=>h1 y (List.mem_cons_of_mem _ hy)) h2'
        refine ⟨cl,?_,e2,fun x hx=>e3 x ?_,fun y hy hf=>?_⟩
        · rw[List.forIn_cons]
          have:cellOf env n=pure c:=by unfold cellOf;rw[hc]
          simp only[beq_self_eq_true,if_true,this,pure_bind]
          exact e1
        · rw[List.lookup_cons];split
          · rfl
          · exact hx
        · obtain rfl | hy:=List.mem_cons.mp hy
          · have:(cl.lookup n).isSome=true:=e3 n (by simp[List.lookup_cons])
            exact Option.isSome_iff_exists.mp this
          · exact e4 y hy hf
      · obtain ⟨cl,e1,e2,e3,e4⟩:=ih cs (fun y hy=>h1 y (List.mem_cons_of_mem _ hy)) h2
        refine ⟨cl,?_,e2,e3,fun y hy hf=>?_⟩
        · rw[List.forIn_cons]
          have:(k == NameKind.free)=false:=by simpa using hk
          simp only[this,Bool.false_eq_true,if_false,pure_bind]
          exact e1
        · obtain rfl | hy:=List.mem_cons.mp hy
          · exact absurd hf hk
          · exact e4 y hy hf
  obtain ⟨cl,e1,e2,_,e4⟩:=gen scope.names [] h fun x c e=>by cases e
  refine ⟨cl,?_,e2,e4⟩
  show ((forIn scope.names ([]:List (Str×Addr)) fun x r=>if (x.2 == NameKind.free)=true then do let c ← cellOf env x.1;pure (ForInStep.yield ((x.1,c)::r)) else pure (ForInStep.yield r):Sem _) >>= fun s=>pure s)=pure cl
  rw[e1]
  rfl
def uh (Y:Cx)(ifs:List Expr)(t:TT):Prop:=
  ∀ (pins:List (Addr×Obj)) (s:Shared) (σ:L2.St) (H:Hp) (Q:Bool→Hp→Prop),Inv Y pins σ H s→t σ H Q→
    wpAny (model Y.prog Y.w) Y.A (forIn ifs true fun c r=>if r=true then do let ok ← isTrue c Y.env (eval c Y.env);pure (ForInStep.yield ok) else pure (ForInStep.yield r)) (TP Y pins σ Q) Y.xe s
def Ck:TT:=fun _ H Q=>Q true H
theorem vi {Y:Cx}:uh Y [] Ck:=fun pins s σ H Q I h=>wpAny_tests_nil ⟨H,I,h⟩
theorem u9 {Y:Cx}{c:Expr}{t:TT}(h:PT Y c t):uh Y [c] t:=fun pins s σ H Q I hh=>wpAny_tests_one (h pins s σ H Q I hh)
def df (σ:L2.St)(n:Nat)(caps:List Nat):L2.St:=List.replicate n none++caps.map fun i=>(σ[i]?).join
def Wk (σ' σ:L2.St):Prop:=σ'.length=σ.length∧∀ (i:Nat) v,σ'[i]? = some (some v)→σ[i]? = some (some v)
def oW (wi:TI)(g:TG)(tt:TT)(te:TE)(n:Nat)(caps:List Nat):TE:=fun σ H Q=>wi σ H fun J H1=>∀ D,H1 D=none→
  ∃ W:Nat→Nat→List V→Hp→Prop,(∃ m,W 0 m [] (L2.upd H1 D (.lst [])))∧∀ i m ys H2,W i m ys H2→
    (J.stop i H2∧Q (.ref D) H2)∨(J.go i H2∧∃ N:List V→Hp→Prop,(∀ ys' H',N ys' H'→∃ m',m' < m∧W (i+1) m' ys' H')∧
      ∀ x H3,J.yld i H2 x H3→g x (df σ n caps) H3 fun σ4 H4=>Wk (df σ n caps) σ4∧tt σ4 H4 fun b H5=>if b=true then te σ4 H5 fun y H6=>∃ zs,H6 D=some (.lst zs)∧zs.length < sizeLine∧N (zs++[y]) (L2.upd H6 D (.lst (zs++[y]))) else N ys H5)
theorem jT {prog:Program}{w:World}{A:Around}{R:Result→Shared→Prop}{s:Shared}{elt target iter:Expr}{ifs:List Expr}{scope:Scope}{pos:Pos}{it acc:Value}{env:Env}(J:Nat→Shared→Prop)
    (turn:∀ n s,J n s→wpAny (model prog w) A (pyNext it) (fun o t₁=>match o with
      | none=>R (.ok .next) t₁
      | some v=>wpAny (model prog w) A (letOwnedTupleGo target it v) (fun _ t₁=>wpAny (model prog w) A (assign target env v) (fun _ t₂=>
          wpAny (model prog w) A (forIn ifs true fun c r=>
            if r=true then do let ok ← isTrue c env (eval c env);pure (ForInStep.yield ok) else pure (ForInStep.yield r)) (fun ok t₃=>
            if ok=true then wpAny (model prog w) A (eval elt env) (fun x t₄=>
              wpAny (model prog w) A (call (.builtin "list.append") [acc,x]) (fun _ t₅=>∃ m,m < n∧J m t₅) (fun _ _=>False) t₄) (fun _ _=>False) t₃
            else ∃ m,m < n∧J m t₃) (fun _ _=>False) t₂) (fun _ _=>False) t₁) (fun _ _=>False) t₁) (fun _ _=>False) s)
    (n:Nat) (h:J n s):codeAny (model prog w) A (.compLoop (.ListComp elt [⟨target,iter,ifs,0⟩] scope pos) 0 it acc env) R s:=by
  refine codeAny_loop rfl J (fun n s hJ=>?_) n h
  show wpAny _ A ((compTurn (.ListComp elt [⟨target,iter,ifs,0⟩] scope pos) 0 it acc env).onRaise
    (fun x=>do noteFrame x env;theTreesLotGoes x)) _ _ s
  refine wpAny_noted ?_
  rw[compTurn_list]
  refine wpAny_bind (wpAny_standAt (wpAny_bind (wpAny_mono (turn n s hJ) (fun r t₁ g₁=>?_) fun _ _ h'=>h'.elim)))
  cases r with
  | none=>exact wpAny_pure g₁
  | some v=>
    refine wpAny_bind (wpAny_mono g₁ (fun _ t₁' g₁'=>?_) fun _ _ h'=>h'.elim)
    refine wpAny_bind (wpAny_mono g₁' (fun _ t₂ g₂=>wpAny_bind (wpAny_mono g₂ (fun ok t₃ g₃=>?_) fun _ _ h'=>h'.elim)) fun _ _ h'=>h'.elim)
    cases ok with
    | false=>exact wpAny_pure ⟨rfl,g₃⟩
    | true=>
      exact wpAny_bind (wpAny_bind (wpAny_mono g₃ (fun x t₄ g₄=>wpAny_bind (wpAny_mono g₄ (fun _ t₅ g₅=>wpAny_pure (wpAny_pure ⟨rfl,g₅⟩)) fun _ _ h'=>h'.elim)) fun _ _ h'=>h'.elim))
theorem dR {σ:L2.St}{n:Nat}{caps:List Nat}{i:Nat}{v:V}(h:(df σ n caps)[i]? = some (some v)):∃ j k,i=n+j∧caps[j]? = some k∧σ[k]? = some (some v):=by
  unfold df at h
  by_cases hi:i < n
  · rw[List.getElem?_append_left (by simpa using hi),List.getElem?_replicate,if_pos hi] at h
    cases h
  · rw[List.getElem?_append_right (by simpa using hi)] at h
    rw[List.length_replicate,List.getElem?_map] at h
    cases e:caps[i - n]? with
    | none=>rw[e] at h;cases h
    | some k=>
      rw[e] at h
      have h':(σ[k]?).join=some v:=Option.some.inj h
      cases e2:σ[k]? with
      | none=>rw[e2] at h';cases h'
      | some o=>
        rw[e2] at h'
        have h'':o=some v:=h'
        subst h''
        exact ⟨i - n,k,by omega,e,e2⟩
theorem bC {env:Env}(hk:env.scope.kind=.function):∀ {names:List (Str×NameKind)} {x:Str},env.kindOf x=some .cell→names.lookup x=some .free→
    (names.map fun (n,k)=>if (k == NameKind.free&&env.scope.kind == .function&&env.kindOf n == some .cell) then (n,NameKind.cell) else (n,k)).lookup x=some .cell
  | [],_,_,h=>by simp at h
  | (n,k)::r,x,hc,h=>by
    have ih:=@bC env hk r x hc
    show List.lookup x ((if (k == NameKind.free&&env.scope.kind == .function&&env.kindOf n == some .cell)=true
      then (n,NameKind.cell) else (n,k))::_)=_
    cases hx:x == n with
    | true=>
      simp only[hx,List.lookup_cons] at h
      cases h
      have e:x=n:=by simpa using hx
      subst e
      simp[List.lookup_cons,hk,hc]
    | false=>
      simp only[hx,List.lookup_cons] at h
      by_cases hcc:(k == NameKind.free&&env.scope.kind == .function&&env.kindOf n == some .cell)=true
      · rw[if_pos hcc];simp only[List.lookup_cons,hx];exact ih h
      · rw[if_neg hcc];simp only[List.lookup_cons,hx];exact ih h
theorem cQ {env:Env}:∀ {names:List (Str×NameKind)} {x:Str} {k':NameKind},(∀ y∈names,y.2≠.cell)→(k'=.cell∨k'=.free)→
    (x,k')∈(names.map fun (n,k)=>if (k == NameKind.free&&env.scope.kind == .function&&env.kindOf n == some .cell) then (n,NameKind.cell) else (n,k))→(x,NameKind.free)∈names:=by
  intro names x k' hn hk h
  obtain ⟨⟨n,k⟩,hm,e⟩:=List.mem_map.mp h
  dsimp only at e
  split at e
  · rename_i hc
    cases e
    have:k=.free:=by simp at hc;exact hc.1.1
    subst this;exact hm
  · cases e
    rcases hk with rfl | rfl
    · exact absurd rfl (hn _ hm)
    · exact hm
theorem xg {X:Cx}{tg iter elt:Expr}{ifs:List Expr}{scope:Scope}{pos:Pos}{wi:TI}{g:TG}{tt:TT}{te:TE}{Nc:List Str}{n:Nat}{caps:List Nat}
    (hxe:X.xe=fun _ _=>False) (hcalm:X.calm=true) (hi:PI X tg iter wi)
    (hbody:∀ (cl:List (Str×Addr)) (C:Addr) (s₀:Shared) (H₀:Hp) (ex:List Addr),PG (aN X scope Nc cl C s₀ H₀ ex) tg g∧uh (aN X scope Nc cl C s₀ H₀ ex) ifs tt∧PE (aN X scope Nc cl C s₀ H₀ ex) elt te)
    (hfree:∀ y∈scope.names,y.2=.free→X.env.kindOf y.1=some .cell) (hcell:∀ y∈scope.names,y.2≠.cell) (dW:scope.kind=.function)
    (hnames:∀ y∈scope.names,y.2=.local→scope.names.lookup y.1=some .local) (hlen:Nc.length=n+caps.length)
    (hcap:∀ (j k:Nat),caps[j]? = some k→∃ x,Nc[n+j]? = some x∧X.N[k]? = some x∧scope.names.lookup x=some .free)
    (hs:∀ x,foldedSetIterable iter X.env x=pure x:=by intro _;rfl) :
    PE X (.ListComp elt [⟨tg,iter,ifs,0⟩] scope pos) (oW wi g tt te n caps):=by
  intro pins s σ H Q I h
  rw[hxe]
  obtain ⟨cl,hclos,clin,clfree⟩:=hX (scope:=scope) (env:=X.env) fun y hy hf=>I.ok.has y.1 (.inl (hfree y hy hf))
  rw[eval_ListComp]
  refine wpAny_comprehension_free (use:=none) rfl hs hclos dW hnames ?_
  have hi':=hi pins s σ H _ I h
  rw[hxe] at hi'
  refine wpAny_mono hi' (fun xv s1 h1=>wpAny_mono h1 (fun itv s2 h2=>?_) fun _ _ z=>z) fun _ _ z=>z
  obtain ⟨it,fp,tn,J,H1,rfl,I2,T,st2,f2,hh⟩:=h2
  -- the new list
  refine wpAny_newObj_type ?_
  have hD:H1 s2.heap.objs.size=none:=I2.hok.fresh (Nat.le_refl _)
  obtain ⟨W,⟨m0,w0⟩,turn⟩:=hh _ hD
  have I3:Inv X pins σ (L2.upd H1 s2.heap.objs.size (.lst [])) { s2 with heap:=s2.heap.push { cls:=.type "list", dict:=none,data:=.seq ([]:List Value).toArray } }:=
    I2.laid (t':=s2.toks) (fun b u e=>Heap.get?_push_of_some _ e) (Nat.le_refl _) ⟨Nat.zero_le _,[],0,.nil,Heap.get?_push_size _ rfl⟩
  have k3:∀ b u,s2.heap.get? b=some u→(s2.heap.push { cls:=.type "list", dict:=none,data:=.seq ([]:List Value).toArray }).get? b=some u:=fun b u e=>Heap.get?_push_of_some _ e
  have fne:∀ b∈fp,b≠s2.heap.objs.size:=fun b hb=>by
    obtain ⟨o,ho,_⟩:=T.obj 0 _ st2 b hb
    exact Nat.ne_of_lt (Heap.lt_size ho)
  generalize eD:s2.heap.objs.size=D at *
  generalize eh3:s2.heap.push { cls:=.type "list", dict:=none,data:=.seq ([]:List Value).toArray }=h3 at *
  generalize eH3:L2.upd H1 D (.lst [])=H3 at *
  have st3:tn 0 h3:=T.keep 0 _ _ st2 fun b hb o e=>k3 b o e
  have f3:∀ b∈fp,iW X pins H3 b:=fun b hb=>⟨by rw[← eH3,ay (fne b hb)];exact (f2 b hb).1,(f2 b hb).2⟩
  have lt3:∀ b∈fp,b < h3.objs.size:=fun b hb=>by
    obtain ⟨o,ho,_⟩:=T.obj 0 _ st3 b hb
    exact Heap.lt_size ho
  generalize es3:({ s2 with heap:=h3 }:Shared)=s3 at *
  have hs3:s3.heap=h3:=by rw[← es3]
  refine wpAny_newFunctionEnv hcell (fun y hy=>(by cases hy)) (fun h4 hns hsb=>?_) dW
  show codeAny _ _ (.compStart _ 0 (.ref it) (.ref D) (compEnvC scope cl s3.heap.objs.size X.env)) (compPost _ _ _ none _ (.ref D) s3.heap.objs.size) _
  have k4:∀ b u,s3.heap.get? b=some u→h4.get? b=some u:=fun b u e=>hsb.extBut b u (Nat.ne_of_lt (Heap.lt_size e)) (Heap.get?_push_of_some _ e)
  have okY:(aN X scope Nc cl s3.heap.objs.size s3 H3 fp).Ok:=by
    refine ⟨I3.ok.mod,dW,I3.ok.glob,I3.ok.blt,Nat.le_refl _,fun x y c e1 e2=>I3.ok.inj x y c (clin _ _ e1) (clin _ _ e2),fun x hx=>?_,fun x c hf=>(by cases hf),I3.ok.hd,I3.ok.frames,.inl rfl,fun b hb=>⟨?_,fun x c e z=>?_⟩,I3.bs,Nat.le_trans I3.ok.bsz I3.sz,fun b o e hb=>?_,fun b hb hz=>?_,I3.stack,I3.kJ⟩
    · have hx':(relabel scope X.env).names.lookup x=some .cell∨(relabel scope X.env).names.lookup x=some .free:=hx
      have hm:(x,NameKind.free)∈scope.names:=by
        rcases hx' with q | q
        · exact cQ hcell (.inl rfl) (PySem.mem_of_lookup q)
        · exact cQ hcell (.inr rfl) (PySem.mem_of_lookup q)
      exact clfree _ hm rfl
    · show b≠s3.heap.objs.size
      rw[hs3];exact Nat.ne_of_lt (lt3 b hb)
    · exact (f3 b hb).2.2.2.2.1 x c (clin _ _ e) z
    · rcases (f3 b hb).2.2.2.1 with z | z
      · exact I3.ok.qd b o e z
      · exact absurd (Nat.lt_of_lt_of_le (Heap.lt_size e) (Nat.le_trans I3.ok.bsz z)) (Nat.lt_irrefl _)
    · rcases List.mem_cons.mp (I3.lF b hz) with z | z
      · exact (f3 b hb).2.1 z
      · exact (f3 b hb).2.2.1 z
  have tS:∀ c v,s3.heap.IsCell c v→h4.IsCell c v:=fun c v ⟨o,ho,hd⟩=>⟨o,k4 c o ho,hd⟩
  have J0:Inv (aN X scope Nc cl s3.heap.objs.size s3 H3 fp) [] (df σ n caps) H3 { s3 with heap:=h4,toks:=s3.toks+([]:List (Str×Value)).length }:=by
    refine ⟨okY,rfl,I3.bare,Un.kept k4,⟨_,hns,fun i x v e1 e2 e3=>?_⟩,fun x c e=>?_,I3.hok.fresh (Nat.le_refl _),fun x c e=>I3.dO x c (clin _ _ e),(fun p hp=>(by cases hp)),I3.hok.kept k4,?_⟩
    · obtain ⟨j,k,rfl,ej,ek⟩:=dR e2
      obtain ⟨x',n1,n2,n3⟩:=hcap j k ej
      have e1':Nc[n+j]? = some x:=e1
      rw[n1] at e1';cases e1'
      have hmem:(x,NameKind.free)∈scope.names:=PySem.mem_of_lookup n3
      have hcellx:X.env.kindOf x=some .cell:=hfree _ hmem rfl
      obtain ⟨m,hn,hl⟩:=I3.loc
      obtain ⟨u,ru,lk⟩:=hl k x v n2 ek (.inr (.inl hcellx))
      refine ⟨u,ru,.inr ⟨.inl (bC I3.ok.kind hcellx n3),?_⟩⟩
      rcases lk with ⟨q,_⟩ | ⟨_,c,ec,ic⟩
      · rw[hcellx] at q;cases q
      · obtain ⟨c',ec'⟩:=clfree _ hmem rfl
        have:=clin _ _ ec'
        rw[ec] at this;cases this
        exact ⟨c,ec',tS _ _ ic⟩
    · obtain ⟨v,q⟩:=I3.cell x c (clin _ _ e)
      exact ⟨v,tS _ _ q⟩
    · unfold df
      show _=Nc.length
      rw[List.length_append,List.length_replicate,List.length_map,hlen]
  obtain ⟨pg,pifs,pelt⟩:=hbody cl s3.heap.objs.size s3 H3 fp
  generalize eY:aN X scope Nc cl s3.heap.objs.size s3 H3 fp=Y at *
  have yP:Y.prog=X.prog:=by rw[← eY];rfl
  have yw:Y.w=X.w:=by rw[← eY];rfl
  have yK:Y.K=X.K:=by rw[← eY];rfl
  have yA:Y.A=X.A:=by rw[← eY];rfl
  have yx:Y.xe=fun _ _=>False:=by rw[← eY];exact hxe
  have yc:Y.calm=true:=by rw[← eY];exact hcalm
  have ye:Y.env=compEnvC scope cl s3.heap.objs.size X.env:=by rw[← eY];rfl
  have yfs:Y.fs=frs X.stack:=by rw[← eY];rfl
  have yex:Y.ex=fp:=by rw[← eY];rfl
  have ys0:Y.s₀=s3:=by rw[← eY];rfl
  have yH0:Y.H₀=H3:=by rw[← eY];rfl
  have ypn:Y.pn=[]:=by rw[← eY];rfl
  have iE:∀ {H':Hp},(∀ b∈fp,H' b=none)→∀ b∈fp,iW Y [] H' b:=fun hn b hb=>⟨hn b hb,by rw[ye];show b≠s3.heap.objs.size;rw[hs3];exact Nat.ne_of_lt (lt3 b hb),okY.qA b (by rw[yex];exact hb),.inl (by rw[yex];exact hb),
    fun x c e=>by rw[ye] at e;exact (f3 b hb).2.2.2.2.1 x c (clin _ _ e),fun p hp=>by rw[ypn] at hp;exact nomatch hp⟩
  have tn4:∀ t,tn 0 ({ s3 with heap:=h4,toks:=t }:Shared).heap:=fun t=>T.keep 0 _ _ st3 fun b hb o e=>k4 b o (by rw[hs3];exact e)
  -- the end
  have fin:∀ (s5:Shared) (H5:Hp),Inv Y [] (df σ n caps) H5 s5→Q (.ref D) H5→compPost (model X.prog X.w) X.A (fun _ _=>False) none (EP X pins σ Q) (.ref D) s3.heap.objs.size (.ok .next) s5:=fun s5 H5 I5 q5=>by
    obtain ⟨m,hn,_⟩:=I5.loc
    rw[ye] at hn
    refine ⟨m,hn,fun h6 hs6=>⟨.ref D,H5,?_,rfl,q5⟩⟩
    have nC:∀ b o,s3.heap.get? b=some o→b≠s3.heap.objs.size:=fun b o e=>Nat.ne_of_lt (Heap.lt_size e)
    have un:=I5.base
    rw[yfs,yex,yH0,ys0] at un
    have hfreeC0:=I5.free
    rw[ye] at hfreeC0
    have hfreeC:H5 s3.heap.objs.size=none:=hfreeC0
    refine I3.qZ (ch:=fp) (s':={ s5 with heap:=h6 }) (by have:=I5.os;rw[ys0] at this;exact this) ⟨fun b o e n1 n2 n3=>(hs6.2 b (nC b o e)).trans (un.keep b o e n1 n2 n3),fun b o e n1 n2 n3=>?_,un.free,fun b o e n1=>?_,un.fH,un.eZ,un.fT⟩ (fun b u e=>?_) I5.bare fun b hb=>?_
    · obtain ⟨sl,q⟩:=un.slot b o e n1 n2 n3
      exact ⟨sl,(hs6.2 b (nC b o e)).trans q⟩
    · obtain ⟨o',q⟩:=un.there b o e n1
      exact ⟨o',(hs6.2 b (nC b o e)).trans q⟩
    · have hok5:=I5.hok
      rw[yP,yw] at hok5
      refine (hok5 b u e).ix (fun c w' hc q=>(hs6.2 c ?_).trans q) (fun _ q=>q) fun _ _ q=>q
      rintro rfl
      rcases hc with z | z
      · rw[← z,hfreeC] at e;cases e
      · rw[hfreeC] at z;cases z
    · exact ⟨(f3 b hb).2.2.2.1,(f3 b hb).2.1,(f3 b hb).2.2.2.2.1,(f3 b hb).2.2.2.2.2⟩
  have loop:codeAny (model X.prog X.w) X.A (.compLoop (.ListComp elt [⟨tg,iter,ifs,0⟩] scope pos) 0 (.ref it) (.ref D) (compEnvC scope cl s3.heap.objs.size X.env)) (compPost (model X.prog X.w) X.A (fun _ _=>False) none (EP X pins σ Q) (.ref D) s3.heap.objs.size)
      { s3 with heap:=h4,toks:=s3.toks+([]:List (Str×Value)).length }:=by
    refine jT (fun k s'=>∃ i ys H',Inv Y [] (df σ n caps) H' s'∧tn i s'.heap∧(∀ b∈fp,H' b=none)∧W i k ys H') ?_ m0 ⟨0,[],H3,J0,tn4 _,fun b hb=>(f3 b hb).1,w0⟩
    rintro k s5 ⟨i,ys,H5,I5,st5,fr5,w5⟩
    rcases turn i k ys H5 w5 with ⟨stop,q⟩ | ⟨go,N,hN,step⟩
    · have d:=T.done Y yP yw yK yc i [] s5 _ H5 (fun _ _=>False) I5 (iE fr5) st5 stop
      rw[yA] at d
      refine thn d fun r s6 ⟨hr,I6⟩=>?_
      subst hr
      exact fin s6 H5 I6 q
    · have d:=T.item Y yP yw yK yc i [] s5 _ H5 (fun _ _=>False) I5 (iE fr5) st5 go
      rw[yA] at d
      refine thn d fun r s6 ⟨u,hr,h6⟩=>?_
      subst hr
      refine thn h6 fun _ s7 ⟨x,H7,I7,r7,y7,st7,fr7⟩=>?_
      have I7':=I7.pinned (iE fr7) (T.obj _ _ st7)
      have a:=pg _ s7 _ H7 x u _ I7' r7 (step x H7 y7)
      rw[yP,yw,yA,yx,ye] at a
      refine thn a fun _ s8 ⟨σ8,H8,I8,wk,q8⟩=>?_
      have b:=pifs _ s8 σ8 H8 _ I8 q8
      rw[yP,yw,yA,yx,ye] at b
      have again:∀ {s9:Shared} {ys9:List V} {H9:Hp},Inv Y ([]++fJ fp s7.heap) σ8 H9 s9→N ys9 H9→∃ m,m < k∧∃ i ys H',Inv Y [] (df σ n caps) H' s9∧tn i s9.heap∧(∀ b∈fp,H' b=none)∧W i m ys H':=fun {s9 ys9 H9} I9 n9=>by
        obtain ⟨m',hm,w9⟩:=hN ys9 H9 n9
        have hp:∀ b∈fp,∀ o,s7.heap.get? b=some o→s9.heap.get? b=some o∧H9 b=none:=fun b hb o e=>
          ⟨(I9.pin (b,o) (List.mem_append_right _ (List.mem_append_right _ (bT hb e)))).1,(I9.pin (b,o) (List.mem_append_right _ (List.mem_append_right _ (bT hb e)))).2.1⟩
        refine ⟨m',hm,i+1,ys9,H9,I9.dg.weak wk.1 wk.2,T.keep _ _ _ st7 fun b hb o e=>(hp b hb o e).1,fun b hb=>?_,w9⟩
        obtain ⟨o,e,_⟩:=T.obj _ _ st7 b hb
        exact (hp b hb o e).2
      refine thn b fun ok s9 ⟨H9,I9,q9⟩=>?_
      cases ok with
      | false=>
        rw[if_neg Bool.false_ne_true] at q9 ⊢
        exact again I9 q9
      | true=>
        rw[if_pos rfl] at q9 ⊢
        have c:=pelt _ s9 σ8 H9 _ I9 q9
        rw[yP,yw,yA,yx,ye] at c
        refine thn c fun v s10 ⟨y,H10,I10,r10,zs,ez,lz,n10⟩=>?_
        have d:=fP (X:=Y) _ s10 σ8 H10 (.ref D) [y] (.ref D) [v] (fun _ H'=>N (zs++[y]) H') I10 rfl (.cons r10 .nil) ⟨D,zs,y,rfl,rfl,ez,lz,n10⟩
        rw[yP,yw,yA,yx] at d
        exact thn d fun _ s11 ⟨_,H11,I11,_,q11⟩=>again I11 q11
  refine codeAny_compStart_list loop ?_
  exact T.self X.A 0 _ _ _ (tn4 _) loop
end
section
open PySem PySem.Spec PyProof.Rows L2
structure ud (K:PySem.W.Frag) (J:It) (H1:Hp) (ds:List D):Prop where
  go:∀ i H',Tk H1 H'→i < ds.length→J.go i H'
  yld:∀ i H' x H'',Tk H1 H'→i < ds.length→J.yld i H' x H''→Tk H' H''∧(∃ d,ds[i]? = some d∧Dp K H'' x d)∧∀ μ,aV K H' μ→aV K H'' μ
  stop:∀ i H',Tk H1 H'→ds.length≤i→J.stop i H'
def AL (K:PySem.W.Frag)(wi:TI)(It':ATr):Prop:=∀ σ H ρ μ (Q:List D→Mu→Prop) (R:It→Hp→Prop),Rl K σ H ρ μ→It' ρ μ Q→(∀ J H1 ds μ1,Tk H H1→aV K H1 μ1→ud K J H1 ds→Q ds μ1→R J H1)→wi σ H R
structure LI (X:Cx) (tg iter:Expr) (It':ATr):Prop where
  ex:∃ wi,PI X tg iter wi∧AL X.K wi It'
section
variable {X:Cx} {tg a b c e elt iter:Expr} {Ta Tb Te:ETr} {Tt:TTr} {pos:Pos} {It':ATr} {G:GTr}
theorem sT {K:PySem.W.Frag}{H:Hp}{p:Addr}{xs:List V}{ds:List D}(q:SqT K H p xs)(l:DpL K H xs ds):ud K (Itt K p) H ds where
  go:=fun i H' t hi=>by
    have hl:=l.length
    exact ⟨xs,xs[i],t.sqT q,by simp[show i < xs.length by omega]⟩
  yld:=fun i H' x H'' t hi ⟨e,y⟩=>by
    subst e
    have ex:=y xs (t.sqT q)
    obtain ⟨d,ed,p⟩:=l.get' ex
    exact ⟨.refl _,⟨d,ed,p.mono t⟩,fun _ m=>m⟩
  stop:=fun i H' t hi=>⟨xs,t.sqT q,by rw[l.length];exact hi⟩
theorem wH {K:PySem.W.Frag}{H:Hp}{p:Addr}{xs:List V}{ds:List D}(q:SqF K H p xs)(l:DpL K H xs ds):ud K (Itl K p) H ds where
  go:=fun i H' t hi=>by
    have hl:=l.length
    exact ⟨xs,xs[i],(t.sqF q).sq,by simp[show i < xs.length by omega]⟩
  yld:=fun i H' x H'' t hi ⟨e,y⟩=>by
    subst e
    have ex:=y xs (t.sqF q).sq
    obtain ⟨d,ed,p⟩:=l.get' ex
    exact ⟨.refl _,⟨d,ed,p.mono t⟩,fun _ m=>m⟩
  stop:=fun i H' t hi=>⟨xs,(t.sqF q).sq,by rw[l.length];exact hi⟩
theorem dG (lo:Int)(n:Nat):(cD lo n).length=n:=by unfold cD;simp
theorem sk {K:PySem.W.Frag}{H:Hp}(lo:Int)(n:Nat):ud K (Itr lo n) H (cD lo n) where
  go:=fun i H' t hi=>by rw[dG] at hi;exact hi
  yld:=fun i H' x H'' t hi ⟨e,y⟩=>by
    rw[dG] at hi
    subst e y
    exact ⟨.refl _,⟨.int (lo+i),by unfold cD;simp[hi],.int _⟩,fun _ m=>m⟩
  stop:=fun i H' t hi=>by rw[dG] at hi;exact hi
def AG (a:ETr):ATr:=fun ρ μ Q=>a ρ μ fun x μ1=>match x with
  | .tup ds=>Q ds μ1
  | _=>False
def ILs (a:ETr):ATr:=fun ρ μ Q=>a ρ μ fun x μ1=>match x with
  | .ls ds=>Q ds μ1
  | _=>False
theorem eA {rp rpos:Pos}(hg:Gl X "range")(hm:X.mg "range" = none)(ha:LE X a Ta)(hs:starEach [a] X.env=[(false,eval a X.env)]:=by rfl):LI X tg (.Call (.Name "range" rp) [a] [] rpos) (cH Ta):=by
  obtain ⟨ta,pa,sa⟩:=ha.ex
  refine ⟨_,qt hg hm (fh pa iT hs) hs,fun σ H ρ μ Q R rl h k=>sa σ H ρ μ _ _ rl h fun x H1 d μ1 t1 m1 p1 h1=>?_⟩
  cases p1 with
  | int j=>
    obtain ⟨⟨h2,h3⟩,h4⟩:=h1
    exact ⟨j,rfl,by simpa using h2,by simpa using h3,k _ H1 _ μ1 t1 m1 (sk 0 _) h4⟩
  | _=>exact False.elim h1
theorem Bi {t1:TS}{T1:STr}{g:TG}{E:En}{E':Ends}{K:PySem.W.Frag}{H0 H1:Hp}{J:It}{ds:List D}(sg:zk K g G)(s1:xc K t1 T1)(k:sW K H0 E E')(Y:ud K J H1 ds){σ:L2.St}{ρ:ST}{μ:Mu}(t0:Tk H0 H1)(rl:Rl K σ H1 ρ μ)(h:forR G T1 E ds ρ μ) :
    ∃ W:Nat→Nat→L2.St→Hp→Prop,(∃ m,W 0 m σ H1)∧∀ i m σ H,W i m σ H→
      (J.stop i H∧E'.nx σ H)∨(J.go i H∧∃ N:L2.St→Hp→Prop,(∀ σ' H',N σ' H'→∃ m',m' < m∧W (i+1) m' σ' H')∧∀ x H',J.yld i H x H'→g x σ H' fun σ2 H2=>t1 { E' with nx:=N,ct:=N,bk:=E'.nx } σ2 H2):=by
  refine ⟨fun i m σ' H'=>m=ds.length - i∧i≤ds.length∧Tk H1 H'∧∃ ρ' μ',Rl K σ' H' ρ' μ'∧forR G T1 E (ds.drop i) ρ' μ',⟨ds.length,by simp,Nat.zero_le _,.refl _,ρ,μ,rl,by simpa using h⟩,?_⟩
  rintro i m σ1 H2 ⟨rfl,hi,t12,ρ1,μ1,r1,h1⟩
  by_cases hlt:i < ds.length
  · refine .inr ⟨Y.go i H2 t12 hlt,fun σ' H'=>Tk H1 H'∧∃ ρ' μ',Rl K σ' H' ρ' μ'∧forR G T1 E (ds.drop (i+1)) ρ' μ',fun σ' H' ⟨t',ρ',μ',r',h'⟩=>⟨ds.length - (i+1),by omega,rfl,hlt,t',ρ',μ',r',h'⟩,fun x H3 y=>?_⟩
    obtain ⟨t23,⟨d,ed,pd⟩,mk⟩:=Y.yld i H2 x H3 t12 hlt y
    have e:ds.drop i=d::ds.drop (i+1):=by
      refine (List.drop_eq_getElem_cons hlt).trans ?_
      congr 1
      rw[List.getElem?_eq_getElem hlt] at ed
      exact Option.some.inj ed
    rw[e] at h1
    have t13:=t12.trans t23
    refine sg σ1 H3 ρ1 μ1 _ _ _ _ (r1.go t23 (mk _ r1.mu)) pd h1 fun σ4 H4 ρ4 μ4 t4 r4 h4=>?_
    have t14:=t13.trans t4
    have t04:=t0.trans t14
    exact s1 σ4 H4 ρ4 μ4 _ _ r4 h4 ⟨fun σ' H' ρ' μ' t' r' q=>⟨t14.trans t',ρ',μ',r',q⟩,(k.go t04).rt,(k.go t04).nx,fun σ' H' ρ' μ' t' r' q=>⟨t14.trans t',ρ',μ',r',q⟩⟩
  · have e:i=ds.length:=by omega
    subst e
    rw[List.drop_length] at h1
    exact .inl ⟨Y.stop _ H2 t12 (Nat.le_refl _),k.nx _ _ _ _ (t0.trans t12) r1 h1⟩
theorem eV {body:List Stmt}{T1:STr}(hp:PassesOwn (model X.prog X.w) X.A X.env X.xe)(hc:X.calm=true)(hi:LI X tg iter It')(hG:LG X tg G)(hb:LSs X body T1)(hf:∀ x,foldedSetIterable iter X.env x=pure x:=by intro _;rfl) :
    LS X (.For tg iter body [] pos) (gv It' G T1):=by
  obtain ⟨wi,pi,si⟩:=hi.ex
  obtain ⟨g,pg,sg⟩:=hG.ex
  obtain ⟨t1,p1,s1⟩:=hb.ex
  exact ⟨_,ze hp hc pi pg p1 hf,fun σ H ρ μ E E' rl h k=>si σ H ρ μ _ _ rl h fun J H1 ds μ1 t1' m1 Y h1=>Bi sg s1 k Y t1' (rl.go t1' m1) h1⟩
def jM (K:PySem.W.Frag)(T:ETr):TE:=fun σ H Q'=>∃ ρ μ Q,Rl K σ H ρ μ∧T ρ μ Q∧eM K H Q Q'
def liftT (K:PySem.W.Frag)(T:TTr):TT:=fun σ H Q'=>∃ ρ μ Q,Rl K σ H ρ μ∧T ρ μ Q∧∀ b H' μ',Tk H H'→aV K H' μ'→Q b μ'→Q' b H'
abbrev By (K:PySem.W.Frag)(n:Nat)(σ:L2.St)(H:Hp)(k:ST→Mu→Prop)(k':L2.St→Hp→Prop):Prop:=∀ σ' H' ρ' μ',Tk H H'→Rl K σ' H' ρ' μ'→(σ'.length=σ.length∧∀ j,n≤j→σ'[j]? = σ[j]?)→k ρ' μ'→k' σ' H'
def jK (K:PySem.W.Frag)(n:Nat)(G:GTr):TG:=fun v σ H k'=>∃ ρ μ d k,Rl K σ H ρ μ∧Dp K H v d∧G d ρ μ k∧By K n σ H k k'
theorem LE.pe (h:LE X e Te):PE X e (jM X.K Te):=by
  obtain ⟨t,p,s⟩:=h.ex
  exact fun pins st σ H Q I ⟨ρ,μ,Q0,rl,hT,k⟩=>p pins st σ H Q I (s σ H ρ μ Q0 Q rl hT k)
structure qv (X:Cx) (ifs:List Expr) (Tt:TTr):Prop where
  pe:uh X ifs (liftT X.K Tt)
theorem eC:qv X [] fN:=⟨fun pins s σ H Q I ⟨ρ,μ,Q0,rl,hT,k⟩=>vi pins s σ H Q I (k true H μ (.refl H) rl.mu hT)⟩
theorem kh (h:LT X c Tt):qv X [c] Tt:=by
  obtain ⟨t,p,s⟩:=h.ex
  exact ⟨fun pins st σ H Q I ⟨ρ,μ,Q0,rl,hT,k⟩=>u9 p pins st σ H Q I (s σ H ρ μ Q0 Q rl hT k)⟩
structure LGc (X:Cx) (n:Nat) (tg:Expr) (G:GTr):Prop where
  pe:PG X tg (jK X.K n G)
theorem b7 {x:Str}{n:Nat}(i:Nat)(hN:X.N.Nodup)(hin:i < n:=by decide)(hi:X.N[i]? = some x:=by rfl)(hx:Loc X.env.scope x:=by first | exact Or.inl rfl | exact Or.inr rfl)(hf:X.fn x=true∨X.env.scope.names.lookup x=some .local:=by first | exact .inr rfl | exact .inl rfl | assumption):LGc X n (.Name x pos) (aq i):=
  ⟨fun pins s σ H v u k' I r ⟨ρ,μ,d,k,rl,p,h,post⟩=>fk hN hi hx hf pins s σ H v u k' I r (post _ H _ μ (.refl H) (rl.set p i) ⟨by simp,fun j hj=>by rw[List.getElem?_set_ne (by omega)]⟩ h)⟩
theorem kG {K:PySem.W.Frag}{σ:L2.St}{H:Hp}{ρ:ST}{μ:Mu}(rl:Rl K σ H ρ μ)(n:Nat)(caps:List Nat):Rl K (df σ n caps) H (c9 ρ n caps) μ:=by
  refine ⟨by unfold df c9;simp,fun i d e=>?_,rl.mu⟩
  have gen:∀ (n i:Nat),lk (List.replicate n none++caps.map (lk ρ)) i=some d→∃ j,i=n+j∧∃ k,caps[j]? = some k∧lk ρ k=some d:=by
    intro n
    induction n with
    | zero=>
      intro i h
      have h':lk (caps.map (lk ρ)) i=some d:=by simpa using h
      have g2:∀ (cs:List Nat) (i:Nat),lk (cs.map (lk ρ)) i=some d→∃ k,cs[i]? = some k∧lk ρ k=some d:=by
        intro cs
        induction cs with
        | nil=>intro i h;cases i<;>cases h
        | cons c r ih=>intro i h;cases i with
          | zero=>exact ⟨c,rfl,h⟩
          | succ i=>simpa using ih i h
      exact ⟨i,by omega,g2 caps i h'⟩
    | succ n ih=>
      intro i h
      cases i with
      | zero=>cases h
      | succ i=>
        obtain ⟨j,rfl,k,h1,h2⟩:=ih i h
        exact ⟨j,by omega,k,h1,h2⟩
  obtain ⟨j,rfl,k,h1,h2⟩:=gen n i e
  obtain ⟨v,h3,h4⟩:=rl.loc k d h2
  refine ⟨v,?_,h4⟩
  unfold df
  rw[List.getElem?_append_right (by simp)]
  simp[h1,h3]
theorem wQ {ifs:List Expr}{scope:Scope}{Nc:List Str}{n:Nat}{caps:List Nat}(hxe:X.xe=fun _ _=>False)(hcalm:X.calm=true)(hi:LI X tg iter It')
    (hbody:∀ (cl:List (Str×Addr)) (C:Addr) (s₀:Shared) (H₀:Hp) (ex:List Addr),LGc (aN X scope Nc cl C s₀ H₀ ex) n tg G∧qv (aN X scope Nc cl C s₀ H₀ ex) ifs Tt∧LE (aN X scope Nc cl C s₀ H₀ ex) elt Te)
    (hfree:∀ y∈scope.names,y.2=.free→X.env.kindOf y.1=some .cell) (hcell:∀ y∈scope.names,y.2≠.cell) (dW:scope.kind=.function)
    (hnames:∀ y∈scope.names,y.2=.local→scope.names.lookup y.1=some .local) (hlen:Nc.length=n+caps.length)
    (hcap:∀ (j k:Nat),caps[j]? = some k→∃ x,Nc[n+j]? = some x∧X.N[k]? = some x∧scope.names.lookup x=some .free)
    (hs:∀ x,foldedSetIterable iter X.env x=pure x:=by intro _;rfl) :
    LE X (.ListComp elt [⟨tg,iter,ifs,0⟩] scope pos) (cJ It' G Tt Te n caps):=by
  obtain ⟨wi,pi,si⟩:=hi.ex
  refine ⟨_,fX (xg (g:=jK X.K n G) (tt:=liftT X.K Tt) (te:=jM X.K Te) hxe hcalm pi (fun cl C s₀ H₀ ex=>let ⟨h1,h2,h3⟩:=hbody cl C s₀ H₀ ex;⟨h1.pe,h2.pe,h3.pe⟩) hfree hcell dW hnames hlen hcap hs),?_⟩
  intro σ H ρ μ Q Q' rl h k
  refine si σ H ρ μ _ _ rl h fun J H1 ds μ1 t1 m1 Y h1 D hD=>?_
  have hp:=h1 D (m1.free hD)
  have tD:Tk H1 (L2.upd H1 D (.lst [])):=.new hD
  have mD:aV X.K (L2.upd H1 D (.lst [])) (up μ1 D (.lst [])):=fun a o e=>by
    by_cases ha:a=D
    · subst ha
      rw[ax] at e;cases e
      exact ⟨[],az,.nil⟩
    · rw[aJ ha] at e
      exact bS m1 hD a o e
  refine ⟨fun i m ys H2=>m=ds.length - i∧i≤ds.length∧Tk H1 H2∧∃ μ2,aV X.K H2 μ2∧d7 D G Tt Te (c9 ρ n caps) (fun μ'=>kL μ' D fun zs=>Q (.ls zs) (dn μ' D)) (ds.drop i) μ2,
    ⟨ds.length,by simp,Nat.zero_le _,tD,_,mD,by simpa using hp⟩,?_⟩
  rintro i m ys H2 ⟨rfl,hi,t12,μ2,m2,h2⟩
  by_cases hlt:i < ds.length
  · refine .inr ⟨Y.go i H2 t12 hlt,fun ys' H'=>Tk H1 H'∧∃ μ',aV X.K H' μ'∧d7 D G Tt Te (c9 ρ n caps) (fun μ'=>kL μ' D fun zs=>Q (.ls zs) (dn μ' D)) (ds.drop (i+1)) μ',fun ys' H' ⟨t',μ',m',h'⟩=>⟨ds.length - (i+1),by omega,rfl,hlt,t',μ',m',h'⟩,fun x H3 y=>?_⟩
    obtain ⟨t23,⟨d,ed,pd⟩,mk⟩:=Y.yld i H2 x H3 t12 hlt y
    have e:ds.drop i=d::ds.drop (i+1):=by
      refine (List.drop_eq_getElem_cons hlt).trans ?_
      congr 1
      rw[List.getElem?_eq_getElem hlt] at ed
      exact Option.some.inj ed
    rw[e] at h2
    have t13:=t12.trans t23
    have r3:Rl X.K (df σ n caps) H3 (c9 ρ n caps) μ2:=kG (rl.go (t1.trans t13) (mk _ m2)) n caps
    refine ⟨_,_,d,_,r3,pd,h2,fun σ4 H4 ρ4 μ4 t4 r4 kp h4=>⟨⟨kp.1.symm,fun j v ej=>?_⟩,_,_,_,r4,h4,fun b H5 μ5 t5 m5 h5=>?_⟩⟩
    · by_cases hj:n≤j
      · rw[kp.2 j hj];exact ej
      · obtain ⟨j',k',e1,_⟩:=dR ej
        omega
    · have t15:=t13.trans (t4.trans t5)
      cases b with
      | false=>exact mw ⟨t15,μ5,m5,h5⟩
      | true=>
        refine l6 ⟨_,_,_,r4.go t5 m5,h5,fun v H6 d6 μ6 t6 m6 p6 h6=>?_⟩
        obtain ⟨zs,ez,lz,h7⟩:=a9 h6
        obtain ⟨xs,ex,lx⟩:=m6 D _ ez
        have t67:Tk H6 (L2.upd H6 D (.lst (xs++[v]))):=.upd (fun ys z=>by rw[ex] at z;cases z) fun o' u z=>by rw[ex] at z;cases z
        refine ⟨xs,ex,by rw[lx.length];exact Nat.lt_of_lt_of_le lz (by decide),(t15.trans t6).trans t67,up μ6 D (.lst (zs++[d6])),fun a o ea=>?_,h7⟩
        by_cases ha:a=D
        · subst ha
          rw[ax] at ea;cases ea
          exact ⟨_,az,(lx.append (.cons p6 .nil)).mono t67⟩
        · rw[aJ ha] at ea
          exact (m6 a _ ea).ne t67 ha
  · have e:i=ds.length:=by omega
    subst e
    rw[List.drop_length] at h2
    obtain ⟨zs,ez,hq⟩:=a9 (show kL μ2 D fun zs=>Q (.ls zs) (dn μ2 D) from h2)
    obtain ⟨xs,ex,lx⟩:=m2 D _ ez
    refine .inl ⟨Y.stop _ H2 t12 (Nat.le_refl _),D,xs,rfl,ex,fun o=>?_⟩
    have t2f:Tk H2 (L2.upd H2 D (.frz o (.lst xs))):=.upd (fun ys z=>by rw[ex] at z;cases z) fun o' u z=>by rw[ex] at z;cases z
    refine k _ _ _ (dn μ2 D) ((t1.trans t12).trans t2f) (fun a o' ea=>?_) (.ls (.inl ⟨o,az⟩) (lx.mono t2f)) hq
    have ha:a≠D:=fun z=>by subst z;unfold dn at ea;rw[if_pos rfl] at ea;cases ea
    have ea':μ2 a=some o':=by unfold dn at ea;rw[if_neg ha] at ea;exact ea
    exact (m2 a _ ea').ne t2f ha
end
end
section
open PySem PySem.Spec PyProof.Rows L2
def fM (fn:List (Str×NameKind))(XN:List Str)(sc:Scope)(Nc:List Str)(n:Nat)(caps:List Nat):Bool:=
  sc.names.all (fun y=>(y.2 != .free || fn.lookup y.1 == some .cell)&&y.2 != .cell&&(y.2 != .local || sc.names.lookup y.1 == some .local))&&sc.kind == .function&&Nc.length == n+caps.length &&
  (List.range caps.length).all fun j=>match caps[j]? with
    | some k=>(match XN[k]? with
      | some x=>Nc[n+j]? == some x&&sc.names.lookup x == some .free
      | none=>false)
    | none=>false
section
variable {X:Cx} {tg a b c e elt iter:Expr} {Ta Tb Te:ETr} {Tt:TTr} {pos:Pos} {It':ATr} {G:GTr}
theorem da {ifs:List Expr}{scope fsc:Scope}(XN Nc:List Str)(n:Nat)(caps:List Nat)(hxe:X.xe=fun _ _=>False)(hcalm:X.calm=true)(hi:LI X tg iter It')
    (hbody:∀ (cl:List (Str×Addr)) (C:Addr) (s₀:Shared) (H₀:Hp) (ex:List Addr),LGc (aN X scope Nc cl C s₀ H₀ ex) n tg G∧qv (aN X scope Nc cl C s₀ H₀ ex) ifs Tt∧LE (aN X scope Nc cl C s₀ H₀ ex) elt Te)
    (hsc:X.env.scope=fsc) (hXN:X.N=XN) (hok:fM fsc.names XN scope Nc n caps=true)
    (hs:∀ x,foldedSetIterable iter X.env x=pure x:=by intro _;rfl) :
    LE X (.ListComp elt [⟨tg,iter,ifs,0⟩] scope pos) (cJ It' G Tt Te n caps):=by
  unfold fM at hok
  simp only[Bool.and_eq_true,List.all_eq_true] at hok
  obtain ⟨⟨⟨h1,h2⟩,h3⟩,h4⟩:=hok
  refine wQ hxe hcalm hi hbody (fun y hy hf=>?_) (fun y hy hf=>?_) (by simpa using h2) (fun y hy hf=>?_) (by simpa using h3) (fun j k hj=>?_) hs
  · have:=(h1 y hy).1.1
    show X.env.scope.names.lookup y.1=_
    rw[hsc]
    simpa[hf] using this
  · have:=(h1 y hy).1.2
    simp[hf] at this
  · have:=(h1 y hy).2
    simpa[hf] using this
  · have hl:j < caps.length:=(List.getElem?_eq_some_iff.mp hj).1
    have:=h4 j (List.mem_range.mpr hl)
    rw[hj] at this
    dsimp only at this
    rw[hXN]
    cases e:XN[k]? with
    | none=>rw[e] at this;cases this
    | some x=>
      rw[e] at this
      dsimp only at this
      rw[Bool.and_eq_true] at this
      exact ⟨x,by simpa using this.1,rfl,by simpa using this.2⟩
end
theorem gp:∀ {bs:List Bool} {us:List Value},Vals (bs.map V.bl) us→LSm.BoolsAre us bs
  | [],_,.nil=>.nil
  | b::r,_,.cons h t=>by
    cases (show _=Value.bool b from h)
    exact .cons b (gp t)
theorem pY {X:Cx}(hc:X.calm=true):bb X (.builtin "all") (fun xs H Q=>∃ (p:Addr) (ys:List V) (bs:List Bool),xs=[.ref p]∧SqL X.K H p ys∧ys=bs.map V.bl∧Q (.bl (bs.all id)) H):=fun pins s σ H xs us Q I rx ⟨p,ys,bs,e1,sq,e2,q⟩=>by
  subst e1 e2
  cases rx with | cons r1 r2=>
  cases r2
  cases (show _=Value.ref p from r1)
  obtain ⟨its,rv,pl,_⟩:=I.list sq
  have ils:s.heap.IsList p its.toArray:=by
    obtain ⟨o,n,h1,h2,_,h3⟩:=pl
    exact ⟨o,h1,h2,n,h3⟩
  have bls:=gp rv
  have hlt:p < s.heap.objs.size:=by obtain ⟨_,e,_⟩:=ils;exact Heap.lt_size e
  refine call_all_walk (wpAny_pyIter_list ils ?_)
  refine ⟨s.heap.objs.size,[s.heap.objs.size,p],[s.heap.objs.size],its.toArray.size,_,_,fun i=>(bs[i]?).getD true,rfl,Walks.list (A:=X.A.in1) (I.ok.hd hc) _ p (Nat.ne_of_lt hlt) its.toArray,
    ⟨⟨_,Heap.get?_push_size _ rfl,rfl,rfl⟩,ils.push _⟩,fun i v s' Q' E' gP gQ=>?_,fun h' tk hk=>?_⟩
  · obtain ⟨b,e,rfl⟩:=bls.get i v (by simpa using gP)
    simp only[e,Option.getD_some] at gQ
    exact wpAny_truthy_bool gQ
  · have e:((List.range its.toArray.size).all fun i=>(bs[i]?).getD true)=bs.all id:=by
      rw[List.size_toArray,bls.length];exact LSm.range_all bs
    rw[e]
    exact ⟨.bl _,H,I.kept (LSm.kept_iter hk),rfl,q⟩
theorem DpL.bools {K:PySem.W.Frag}{H:Hp}:∀ {xs:List V} {bs:List Bool},DpL K H xs (bs.map .bl)→xs=bs.map V.bl
  | _,[],.nil=>rfl
  | _,b::r,.cons h l=>by cases h;rw[DpL.bools l];rfl
theorem vJ {K:PySem.W.Frag}:fe K (fun xs H Q=>∃ (p:Addr) (ys:List V) (bs:List Bool),xs=[.ref p]∧SqL K H p ys∧ys=bs.map V.bl∧Q (.bl (bs.all id)) H) Ac:=fun H μ xs ds Q Q' m p h k=>by
  unfold Ac at h
  split at h
  · obtain ⟨bs,rfl,h⟩:=h
    cases p with | cons p1 p2=>cases p2;cases p1 with | ls q l=>exact ⟨_,_,bs,rfl,q.sq,l.bools,k _ H _ μ (.refl H) m (.bl _) h⟩
  · exact h.elim
end
section
open PySem PySem.Spec PyProof.Rows L2
def GV (K:PySem.W.Frag)(mg:Str→Option Value)(x:Str)(d:D):Prop:=∃ u v,mg x=some u∧RelV v u∧∀ H,Dp K H v d
theorem l4 {X:Cx}{x:Str}{pos:Pos}{d:D}(hg:Gl X x)(h:GV X.K X.mg x d)(hd:(x == ("__debug__" : Str))=false:=by decide):LE X (.Name x pos) (TC d):=by
  obtain ⟨u,v,hm,r,p⟩:=h
  exact ⟨_,xa hg hm r hd,fun σ H ρ μ Q Q' rl h k=>k v H d μ (.refl H) rl.mu (p H) h⟩
section
variable {K:PySem.W.Frag} {h:Heap} {mg:Str→Option Value} {x:Str}
theorem oI {i:Int}{t:Tok}(X:K.In h)(G:h.Ns mainGlobals mg)(a:PySem.W.nsIn K mainGlobals x=some (some (.int i t))):GV K mg x (.int i):=⟨_,.int i,PySem.W.mg_of X G a,⟨t,rfl⟩,fun _=>.int i⟩
end
def fS:ST→List Nat→List D→ST
  | ρ,i::is,d::ds=>fS (ρ.set i (some d)) is ds
  | ρ,_,_=>ρ
def gA (is:List Nat):GTr:=fun d ρ μ k=>match d with
  | .tup ds=>ds.length=is.length∧k (fS ρ is ds) μ
  | _=>False
def Az (K:PySem.W.Frag)(t:TGs)(is:List Nat):Prop:=∀ σ H ρ μ vs ds (k:ST→Mu→Prop) (k':L2.St→Hp→Prop),Rl K σ H ρ μ→DpL K H vs ds→ds.length=is.length→k (fS ρ is ds) μ→lT K H k k'→t vs σ H k'
structure LGs (X:Cx) (es:List Expr) (is:List Nat):Prop where
  ex:∃ t,PGs X es t∧Az X.K t is
section
variable {X:Cx} {e tg:Expr} {es:List Expr} {is:List Nat} {pos:Pos} {x:Str} {Ta:ETr} {G:GTr}
theorem et:LGs X [] []:=⟨_,wI,fun σ H ρ μ vs ds k k' rl l hl h q=>by
  cases ds with
  | nil=>cases l;exact ⟨rfl,q _ _ _ _ (.refl H) rl h⟩
  | cons=>cases hl⟩
theorem aR (i:Nat)(hN:X.N.Nodup)(h2:LGs X es is)(hi:X.N[i]? = some x:=by rfl)(hx:Loc X.env.scope x:=by first | exact Or.inl rfl | exact Or.inr rfl)(hf:X.fn x=true∨X.env.scope.names.lookup x=some .local:=by first | exact .inl rfl | exact .inr rfl | assumption)
    (hs:(assignEach (.Name x pos::es) X.env).map (·.2)=assign (.Name x pos) X.env::(assignEach es X.env).map (·.2):=by rfl):LGs X (.Name x pos::es) (i::is):=by
  obtain ⟨t,pt,st⟩:=h2.ex
  refine ⟨_,rM (fk hN hi hx hf) pt hs,fun σ H ρ μ vs ds k k' rl l hl h q=>?_⟩
  cases l with
  | nil=>cases hl
  | @cons v d vs ds p l=>exact ⟨v,vs,rfl,st _ H _ μ vs ds k k' (rl.set p i) l (by simpa using hl) h q⟩
theorem fV {k:Nat}(hc:X.calm=true)(h:LGs X es is)(hn:(assignEach es X.env).length=is.length:=by rfl)(hst:(assignEach es X.env).findIdx? (·.1)=none:=by rfl):LG X (.Tuple es k pos) (gA is):=by
  obtain ⟨t,pt,st⟩:=h.ex
  refine ⟨_,z8 hc pt hn hst,fun σ H ρ μ v d k k' rl p h q=>?_⟩
  cases p with
  | @tup a xs ds sq l=>exact ⟨a,xs,rfl,sq,by rw[l.length];exact h.1,st σ H ρ μ xs ds k k' rl l h.1 h.2 q⟩
  | _=>exact False.elim h
theorem kR (he:LE X e Ta)(hG:LG X tg G)(hs:swapsWithSole [tg] e pos.line X.env=pure false:=by rfl)(hw:swappedStores [tg] e X.env=pure none:=by rfl)
    (h1:(assignEach [tg] X.env).map (·.2)=[assign tg X.env]:=by rfl):LS X (.Assign [tg] e pos) (aU Ta G):=by
  obtain ⟨ta,pa,sa⟩:=he.ex
  obtain ⟨g,pg,sg⟩:=hG.ex
  exact ⟨_,yU pa pg hs hw h1,fun σ H ρ μ E E' rl h k=>sa σ H ρ μ _ _ rl h fun v H' d μ' t' m' p' h'=>sg σ H' ρ μ' v d _ _ (rl.go t' m') p' h' (k.go t').nx⟩
end
end
section
open PySem PySem.Spec PyProof.Rows L2
def fR (tp:Bool)(h:Heap)(it a:Addr)(i:Nat):Prop:=match tp with
  | true=>h.IsTupleIter it a i
  | false=>h.IsListIter it a i
def gu (tp:Bool)(h:Heap)(a:Addr)(xs:Array Value):Prop:=match tp with
  | true=>h.IsTuple a xs
  | false=>h.IsList a xs
theorem fR.at {tp:Bool}{h g:Heap}{it a:Addr}{i:Nat}(x:fR tp h it a i)(k:∀ o,h.get? it=some o→g.get? it=some o):fR tp g it a i:=by
  cases tp with
  | true=>obtain ⟨o,e,r⟩:=x;exact ⟨o,k o e,r⟩
  | false=>obtain ⟨o,e,r⟩:=x;exact ⟨o,k o e,r⟩
theorem gu.at {tp:Bool}{h g:Heap}{a:Addr}{xs:Array Value}(x:gu tp h a xs)(k:∀ o,h.get? a=some o→g.get? a=some o):gu tp g a xs:=by
  cases tp with
  | true=>obtain ⟨o,e,r⟩:=x;exact ⟨o,k o e,r⟩
  | false=>obtain ⟨o,e,r⟩:=x;exact ⟨o,k o e,r⟩
theorem fR.ex {tp:Bool}{h:Heap}{it a:Addr}{i:Nat}(x:fR tp h it a i):∃ o,h.get? it=some o∧∃ vs,o.data=.fields vs:=by
  cases tp with
  | true=>obtain ⟨o,e,_,d⟩:=x;exact ⟨o,e,_,d⟩
  | false=>obtain ⟨o,e,_,d⟩:=x;exact ⟨o,e,_,d⟩
section
variable {prog:Program} {w:World} {A:Around} {E:Value→Shared→Prop} {s:Shared}
theorem rQ {it t:Addr}{i:Nat}{xs:Array Value}{x:Value}{Q:Value→Shared→Prop}(hi:s.heap.IsTupleIter it t i)(ht:s.heap.IsTuple t xs)(hx:xs[i]? = some x)
    (k:∀ g,g.IsTupleIter it t (i+1)→Heap.SameBut it s.heap g→Q x { s with heap:=g }):wpAny (model prog w) A (Builtin.SmallTypes.nextOf (.ref it)) Q E s:=by
  obtain ⟨ob,gb,cb,db⟩:=id hi
  obtain ⟨ot,gt,_,nt,dt⟩:=ht
  delta Builtin.SmallTypes.nextOf
  refine wpAny_bind (wpAny_callSpecial?_slot (name:=Str.ofString "__next__") hi.typeIs F.slot_tuple_iterator_next (wpAny_call_entry F.slot_tuple_iterator_next hi.typeIs F.entry_tuple_iterator_next ?_ (F.args_tuple_iterator_next_1 _)))
  refine wpAny_bind (m:=field (.ref it) 0) (wpAny_field gb db (x:=.ref t) rfl ?_)
  refine (show wpAny _ _ (if (Value.ref t == Value.none)=true then _ else _) _ _ s from ?_)
  rw[if_neg (show ¬ ((Value.ref t == Value.none)=true) by intro z;cases z)]
  refine wpAny_bind (m:=field (.ref it) 1) (wpAny_field gb db (x:=.int i 0) rfl ?_)
  refine wpAny_bind (m:=seqItems? (.ref t)) (wpAny_seqItems gt dt ?_)
  simp only[hx,Int.toNat_natCast]
  refine wpAny_bind (wpAny_setField gb db (by simp) (wpAny_pure ⟨x,rfl,wpAny_pure (k _ ⟨_,Heap.get?_update_self _ gb (Obj.isFreed_of_fields (Obj.data_mapFields db _)),(Obj.cls_mapFields ..).trans cb,?_⟩ (Heap.SameBut.update ..))⟩))
  rw[Obj.data_mapFields db];simp[rawInt]
theorem vZ {tp:Bool}{it a:Addr}{i:Nat}{xs:Array Value}{x:Value}{Q:Value→Shared→Prop}(hi:fR tp s.heap it a i)(hs:gu tp s.heap a xs)(hx:xs[i]? = some x)
    (k:∀ g,fR tp g it a (i+1)→Heap.SameBut it s.heap g→Q x { s with heap:=g }):wpAny (model prog w) A (Builtin.SmallTypes.nextOf (.ref it)) Q E s:=by
  cases tp with
  | true=>exact rQ hi hs hx k
  | false=>exact wpAny_nextOf_list_item hi hs hx k
theorem xn {it t:Addr}{i:Nat}{xs:Array Value}{Q:Value→Shared→Prop}(hh:A.handled=none)(hi:s.heap.IsTupleIter it t i)(ht:s.heap.IsTuple t xs)(hx:xs[i]? = none)
    (k:∀ g e,Heap.ExtBut it s.heap g→(∃ o,g.get? e=some o∧o.cls=.type "StopIteration")→E (.ref e) { s with heap:=g }):wpAny (model prog w) A (Builtin.SmallTypes.nextOf (.ref it)) Q E s:=by
  obtain ⟨ob,gb,cb,db⟩:=id hi
  obtain ⟨ot,gt,_,nt,dt⟩:=ht
  delta Builtin.SmallTypes.nextOf
  refine wpAny_bind (wpAny_callSpecial?_slot (name:=Str.ofString "__next__") hi.typeIs F.slot_tuple_iterator_next (wpAny_call_entry F.slot_tuple_iterator_next hi.typeIs F.entry_tuple_iterator_next ?_ (F.args_tuple_iterator_next_1 _)))
  refine wpAny_bind (m:=field (.ref it) 0) (wpAny_field gb db (x:=.ref t) rfl ?_)
  refine (show wpAny _ _ (if (Value.ref t == Value.none)=true then _ else _) _ _ s from ?_)
  rw[if_neg (show ¬ ((Value.ref t == Value.none)=true) by intro z;cases z)]
  refine wpAny_bind (m:=field (.ref it) 1) (wpAny_field gb db (x:=.int i 0) rfl ?_)
  refine wpAny_bind (m:=seqItems? (.ref t)) (wpAny_seqItems gt dt ?_)
  simp only[hx,Int.toNat_natCast]
  refine wpAny_bind (wpAny_rule (wpAny_bind (wpAny_setField gb db (by simp) (wpAny_bind (m:=newExc (.type "StopIteration") []) ?_))))
  simp only[newExc,newTuple]
  refine wpAny_bind (wpAny_newObj_type (wpAny_bind (m:=firstArgMember _ _) (wpAny_of_eq (a:=Value.none) (by first | rfl | (simp only[firstArgMember];rfl)) (wpAny_newObj_type ?_ (by size_fits)))) (by size_fits))
  simp only[raiseNew]
  refine wpAny_bind <| wpAny_handled ?_
  rw[(show A.in1.handled=none from hh)]
  exact wpAny_bind (wpAny_pure (wpAny_throw (k _ _ (((Heap.SameBut.update ..).extBut.push _).push _) ⟨_,Heap.get?_push_size _ rfl,rfl⟩)))
theorem yn {tp:Bool}{it a:Addr}{i:Nat}{xs:Array Value}{Q:Value→Shared→Prop}(hh:A.handled=none)(hi:fR tp s.heap it a i)(hs:gu tp s.heap a xs)(hx:xs[i]? = none)
    (k:∀ g e,Heap.ExtBut it s.heap g→(∃ o,g.get? e=some o∧o.cls=.type "StopIteration")→E (.ref e) { s with heap:=g }):wpAny (model prog w) A (Builtin.SmallTypes.nextOf (.ref it)) Q E s:=by
  cases tp with
  | true=>exact xn hh hi hs hx k
  | false=>exact wpAny_nextOf_list_end hh hi hs hx k
abbrev itO (tp:Bool)(a:Addr):Obj:={ cls:=.type (match tp with | true => "tuple_iterator" | false => "list_iterator"),data:=.fields #[.ref a,.int 0 0] }
theorem Bk {tp:Bool}{a:Addr}{xs:Array Value}{Q:Value→Shared→Prop}(h:gu tp s.heap a xs)(q:Q (.ref s.heap.objs.size) { s with heap:=s.heap.push (itO tp a) }):wpAny (model prog w) A (pyIter (.ref a)) Q E s:=by
  cases tp with
  | true=>exact wpAny_pyIter_tuple h q
  | false=>exact wpAny_pyIter_list h q
end
def Sq (tp:Bool)(K:PySem.W.Frag)(H:Hp)(a:Addr)(xs:List V):Prop:=match tp with
  | true=>SqT K H a xs
  | false=>SqF K H a xs
theorem Inv.sq {X:Cx}{pins:List (Addr×Obj)}{σ:L2.St}{H:Hp}{s:Shared}{tp:Bool}{a:Addr}{xs:List V}(I:Inv X pins σ H s)(h:Sq tp X.K H a xs):∃ its:List Value,Vals xs its∧gu tp s.heap a its.toArray:=by
  cases tp with
  | true=>obtain ⟨its,r,p,_⟩:=I.tuple h;exact ⟨its,r,p⟩
  | false=>
    obtain ⟨its,r,⟨o,n,e1,e2,_,e3⟩,_⟩:=I.list (SqF.sq h)
    exact ⟨its,r,o,e1,e2,n,e3⟩
theorem Inv.zi {X:Cx}{pins:List (Addr×Obj)}{σ:L2.St}{H:Hp}{s:Shared}{tp:Bool}{a:Addr}{xs ys:List V}(I:Inv X pins σ H s)(h:Sq tp X.K H a xs)(h':Sq tp X.K H a ys):xs=ys:=by
  cases tp with
  | true=>exact I.jL h h'
  | false=>exact I.lW (SqF.sq h) (SqF.sq h')
section
variable {X:Cx} {ea eb:Expr} {es:List Expr} {ek:Nat} {ep p pos:Pos}
def kQ (tp:Bool)(x:D)(f:List D→Prop):Prop:=match tp,x with
  | true,.tup ds=>f ds
  | false,.ls ds=>f ds
  | _,_=>False
theorem Ah {K:PySem.W.Frag}{H:Hp}{tp:Bool}{v:V}{x:D}{f:List D→Prop}(p:Dp K H v x)(h:kQ tp x f):∃ a xs ds,v=.ref a∧Sq tp K H a xs∧DpL K H xs ds∧f ds:=by
  cases tp with
  | true=>cases p with
    | @tup a xs ds q l=>exact ⟨a,xs,ds,rfl,q,l,h⟩
    | _=>exact False.elim h
  | false=>cases p with
    | @ls a xs ds q l=>exact ⟨a,xs,ds,rfl,q,l,h⟩
    | _=>exact False.elim h
theorem Tk.sq {K:PySem.W.Frag}{H H':Hp}{tp:Bool}{a:Addr}{xs:List V}(t:Tk H H')(h:Sq tp K H a xs):Sq tp K H' a xs:=by
  cases tp with
  | true=>exact t.sqT h
  | false=>exact t.sqF h
end
end
section
open PySem PySem.Spec PyProof.Rows L2
def kObj (x:D)(f:Addr→Prop):Prop:=match x with
  | .obj a=>f a
  | _=>False
theorem eQ (a:Addr)(f):kObj (.obj a) f=f a:=rfl
section
variable {X:Cx} {o a b c e:Expr} {To Ta Tb Tc Te T T':ETr} {pos:Pos}
theorem LE.imp (h:LE X e T)(k:∀ ρ μ Q,T' ρ μ Q→T ρ μ Q):LE X e T':=by
  obtain ⟨t,p,s⟩:=h.ex
  exact ⟨t,p,fun σ H ρ μ Q Q' rl hh post=>s σ H ρ μ Q Q' rl (k _ _ _ hh) post⟩
theorem Bh {K:PySem.W.Frag}{H:Hp}{μ:Mu}{q:Addr}{u:HO}(m:aV K H μ)(t:Tk H (L2.upd H q u)):aV K (L2.upd H q u) (dn μ q):=fun z y ez=>by
  have zq:z≠q:=fun w=>by subst w;unfold dn at ez;rw[if_pos rfl] at ez;cases ez
  have ez':μ z=some y:=by unfold dn at ez;rw[if_neg zq] at ez;exact ez
  exact (m z _ ez').ne t zq
theorem fK {H:Hp}{q:Addr}{u:HO}{xs:List V}(ex:H q=some (.lst xs)):Tk H (L2.upd H q u):=
  .upd (fun ys z=>by rw[ex] at z;cases z) fun o' w z=>by rw[ex] at z;cases z
theorem xI {K:PySem.W.Frag}{H:Hp}{μ:Mu}{q:Addr}{xs ys:List V}{ds:List D}(m:aV K H μ)(ex:H q=some (.lst xs))(l:DpL K H ys ds):aV K (L2.upd H q (.lst ys)) (up μ q (.lst ds)):=fun z y ez=>by
  by_cases zq:z=q
  · subst zq
    rw[ax] at ez;cases ez
    exact ⟨ys,az,l.mono (fK ex)⟩
  · rw[aJ zq] at ez
    exact (m z _ ez).ne (fK ex) zq
theorem kf {K:PySem.W.Frag}{H:Hp}{μ:Mu}{q:Addr}{ys:List V}{ds:List D}(m:aV K H μ)(hq:H q=none)(l:DpL K H ys ds):aV K (L2.upd H q (.lst ys)) (up μ q (.lst ds)):=fun z y ez=>by
  by_cases zq:z=q
  · subst zq
    rw[ax] at ez;cases ez
    exact ⟨ys,az,l.mono (.new hq)⟩
  · rw[aJ zq] at ez
    exact bS m hq z y ez
def nk (T:ETr):ETr:=fun ρ μ Q=>T ρ μ fun x μ1=>kObj x fun a=>kL μ1 a fun ds=>Q (.ls ds) (dn μ1 a)
theorem uE (h:LE X e T):LE X e (nk T):=by
  obtain ⟨t,p,s⟩:=h.ex
  refine ⟨_,fX p,fun σ H ρ μ Q Q' rl h k=>s σ H ρ μ _ _ rl h fun v H1 d μ1 t1 m1 p1 h1=>?_⟩
  cases p1 with
  | obj q=>
    obtain ⟨ds,e0,h2⟩:=a9 h1
    obtain ⟨xs,ex,l⟩:=m1 q _ e0
    refine ⟨q,xs,rfl,ex,fun u=>?_⟩
    have t2:Tk H1 (L2.upd H1 q (.frz u (.lst xs))):=fK ex
    exact k _ _ _ (dn μ1 q) (t1.trans t2) (Bh m1 t2) (.ls (.inl ⟨u,az⟩) (l.mono t2)) h2
  | _=>exact False.elim h1
def lX (To Te:ETr):ETr:=fun ρ μ Q=>To ρ μ fun x μ1=>kObj x fun a=>kL μ1 a fun _=>Te ρ μ1 fun y μ2=>kL μ2 a fun ds=>ds.length < 1000000∧Q .non (up μ2 a (.lst (ds++[y])))
theorem le_app {apos cpos:Pos}(ho:LE X o To)(he:LE X e Te)
    (hbase:attributeBase o (Str.ofString "append") X.env (eval o X.env)=eval o X.env:=by rfl)
    (hfew:((backTo cpos (starEach [e] X.env)).all (fun x=>!x.1)&&(backToKw cpos (keywordEach [] X.env)).all (fun x=>x.1.isSome)
      && decide ([e].length+([]:List Keyword).length+(if ([]:List Keyword).isEmpty then 0 else 1) < 30))=true:=by rfl)
    (hline:(apos.endLine == cpos.line)=true:=by rfl) (hs:starEach [e] X.env=(false,eval e X.env)::starEach [] X.env:=by rfl) (hplain:(backTo cpos (starEach [] X.env)).any (·.1)=false:=by rfl) :
    LE X (.Call (.Attribute o (Str.ofString "append") apos) [e] [] cpos) (lX To Te):=by
  obtain ⟨to,po,so⟩:=ho.ex
  obtain ⟨te,pe,se⟩:=he.ex
  refine ⟨_,tN PySem.F.plainAttrs_list PySem.F.slot_list_append PySem.F.type_list_append fP po (fh pe iT hs) hbase hfew hline hs hplain,fun σ H ρ μ Q Q' rl h k=>so σ H ρ μ _ _ rl h fun x H1 dx μ1 t1 m1 p1 h1=>?_⟩
  cases p1 with
  | obj q=>
    obtain ⟨ds0,e0,h2⟩:=a9 h1
    obtain ⟨xs0,ex0,_⟩:=m1 q _ e0
    refine ⟨.inl ⟨rfl,_,SqL.of ex0⟩,se σ H1 ρ μ1 _ _ (rl.go t1 m1) h2 fun y H2 dy μ2 t2 m2 p2 h3=>?_⟩
    obtain ⟨ds,e1,lz,h4⟩:=a9 h3
    obtain ⟨xs,ex,l⟩:=m2 q _ e1
    exact ⟨q,xs,y,rfl,rfl,ex,by rw[l.length];exact Nat.lt_of_lt_of_le lz (by decide),k _ _ _ _ ((t1.trans t2).trans (fK ex)) (xI m2 ex (l.append (.cons p2 .nil))) .non h4⟩
  | _=>exact False.elim h1
def bU:FSp:=fun ds μ Q=>match ds with
  | [.tup xs]=>Q (.tup xs) μ
  | [.ls xs]=>Q (.tup xs) μ
  | [.obj a]=>kL μ a fun xs=>Q (.tup xs) μ
  | _=>False
theorem ck {K:PySem.W.Frag}:fe K (fun xs H Q=>∃ p ys,xs=[.ref p]∧((SqL K H p ys∧∀ l,H l=none→Q (.ref l) (L2.upd H l (.tup ys)))∨(SqT K H p ys∧Q (.ref p) H))) bU:=fun H μ xs ds Q Q' m p h k=>by
  unfold bU at h
  split at h
  · cases p with | cons p1 p2=>cases p2;cases p1 with | tup q l=>exact ⟨_,_,rfl,.inr ⟨q,k _ H _ μ (.refl H) m (.tup q l) h⟩⟩
  · cases p with | cons p1 p2=>cases p2;cases p1 with | ls q l=>exact ⟨_,_,rfl,.inl ⟨q.sq,fun z hz=>k _ _ _ μ (.new hz) (bS m hz) (.tup (SqT.of az) (l.mono (.new hz))) h⟩⟩
  · rename_i q
    cases p with | cons p1 p2=>
    cases p2;cases p1
    obtain ⟨ys,e0,h⟩:=a9 h
    obtain ⟨xs,ex,l⟩:=m q _ e0
    exact ⟨_,_,rfl,.inl ⟨SqL.of ex,fun z hz=>k _ _ _ μ (.new hz) (bS m hz) (.tup (SqT.of az) (l.mono (.new hz))) h⟩⟩
  · exact False.elim h
def eT:FSp:=fun ds μ Q=>match ds with
  | [.tup xs]=>∀ p,μ p=none→Q (.obj p) (up μ p (.lst xs))
  | [.ls xs]=>∀ p,μ p=none→Q (.obj p) (up μ p (.lst xs))
  | [.obj a]=>kL μ a fun xs=>∀ p,μ p=none→Q (.obj p) (up μ p (.lst xs))
  | _=>False
theorem p4 {K:PySem.W.Frag}:fe K (fun xs H Q=>∃ p ys,xs=[.ref p]∧(SqL K H p ys∨SqT K H p ys)∧∀ l,H l=none→Q (.ref l) (L2.upd H l (.lst ys))) eT:=fun H μ xs ds Q Q' m p h k=>by
  unfold eT at h
  split at h
  · cases p with | cons p1 p2=>cases p2;cases p1 with | tup q l=>exact ⟨_,_,rfl,.inr q,fun z hz=>k _ _ _ _ (.new hz) (kf m hz l) (.obj _) (h z (m.free hz))⟩
  · cases p with | cons p1 p2=>cases p2;cases p1 with | ls q l=>exact ⟨_,_,rfl,.inl q.sq,fun z hz=>k _ _ _ _ (.new hz) (kf m hz l) (.obj _) (h z (m.free hz))⟩
  · rename_i q
    cases p with | cons p1 p2=>
    cases p2;cases p1
    obtain ⟨ys,e0,h⟩:=a9 h
    obtain ⟨xs,ex,l⟩:=m q _ e0
    exact ⟨_,_,rfl,.inl (SqL.of ex),fun z hz=>k _ _ _ _ (.new hz) (kf m hz l) (.obj _) (h z (m.free hz))⟩
  · exact False.elim h
def eh:FSp:=fun ds μ Q=>match ds with
  | [.tup xs]=>Q (.ls xs) μ
  | [.ls xs]=>Q (.ls xs) μ
  | [.obj a]=>kL μ a fun xs=>Q (.ls xs) μ
  | _=>False
def zO (Q:VK):VK:=fun v H1=>∃ a xs,v=.ref a∧H1 a=some (.lst xs)∧∀ o,Q v (L2.upd H1 a (.frz o (.lst xs)))
theorem eu {K:PySem.W.Frag}{H:Hp}{μ:Mu}{ys:List V}{ds:List D}{Q:DK}{Q':VK}{z:Addr}(m:aV K H μ)(l:DpL K H ys ds)(h:Q (.ls ds) μ)(k:eM K H Q Q')(hz:H z=none):zO Q' (.ref z) (L2.upd H z (.lst ys)):=
  ⟨z,ys,rfl,az,fun o=>by
    have e:L2.upd (L2.upd H z (.lst ys)) z (.frz o (.lst ys))=L2.upd H z (.frz o (.lst ys)):=kz
    rw[e]
    exact k _ _ _ μ (.new hz) (bS m hz) (.ls (.inl ⟨o,az⟩) (l.mono (.new hz))) h⟩
theorem qy {K:PySem.W.Frag}:fe K (fun xs H Q=>∃ p ys,xs=[.ref p]∧(SqL K H p ys∨SqT K H p ys)∧∀ l,H l=none→zO Q (.ref l) (L2.upd H l (.lst ys))) eh:=fun H μ xs ds Q Q' m p h k=>by
  unfold eh at h
  split at h
  · cases p with | cons p1 p2=>cases p2;cases p1 with | tup q l=>exact ⟨_,_,rfl,.inr q,fun z hz=>eu m l h k hz⟩
  · cases p with | cons p1 p2=>cases p2;cases p1 with | ls q l=>exact ⟨_,_,rfl,.inl q.sq,fun z hz=>eu m l h k hz⟩
  · rename_i q
    cases p with | cons p1 p2=>
    cases p2;cases p1
    obtain ⟨ys,e0,h⟩:=a9 h
    obtain ⟨xs,ex,l⟩:=m q _ e0
    exact ⟨_,_,rfl,.inl (SqL.of ex),fun z hz=>eu m l h k hz⟩
  · exact False.elim h
theorem uL {x:Str}{p:Pos}{At:ATr}(hx:x = "list")(hg:Gl X x)(hm:X.mg x=none)(hv:bootBuiltins x=some (.type "list"))(ha:LA X [e] At)(hn:x ≠ "__name__" := by decide)(hdb:(x == ("__debug__" : Str))=false:=by decide)
    (h1:starEach [e] X.env=(false,eval e X.env)::starEach [] X.env:=by rfl) (h2:(backTo pos (starEach [] X.env)).any (·.1)=false:=by rfl):LE X (.Call (.Name x p) [e] [] pos) (ao eh At):=by
  obtain ⟨ta,pa,sa⟩:=ha.ex
  exact ⟨_,fX (jH e6 hg hm hv pa hn hdb h1 h2),fun σ H ρ μ Q Q' rl h k=>sa σ H ρ μ _ _ rl h fun xs H1 ds μ1 t1 m1 p1 h1=>qy H1 μ1 xs ds Q Q' m1 p1 h1 (k.go t1)⟩
theorem xl:LS X (.Continue pos) jJ:=⟨_,lP,fun σ H ρ μ E E' rl h k=>k.ct _ _ _ _ (.refl H) rl h⟩
def dN:D→Bool
  | .non=>true
  | .bl _=>true
  | .int _=>true
  | .str _=>true
  | _=>false
def inD (x:D)(xs:List D):Bool:=xs.any fun y=>eqD y x
def rIn (neg:Bool):DR2:=fun x y μ Q=>match y with
  | .tup xs=>(dN x=true∧xs.all dN=true)∧Q (.bl (if neg then !inD x xs else inD x xs)) μ
  | .ls xs=>(dN x=true∧xs.all dN=true)∧Q (.bl (if neg then !inD x xs else inD x xs)) μ
  | .obj a=>kL μ a fun xs=>(dN x=true∧xs.all dN=true)∧Q (.bl (if neg then !inD x xs else inD x xs)) μ
  | _=>False
end
end
section
open PySem PySem.Spec PyProof.Rows L2
section
variable {X:Cx} {a b e:Expr} {Ta Tb T:ETr} {pos:Pos}
def Bu (t:TE):TE:=fun σ H Q=>t σ H fun v H1=>Q v H1∨zO Q v H1
theorem o8 {t:TE}(h:PE X e t):PE X e (Bu t):=by
  have g:PE X e (fun σ H Q=>∃ P:VK,sy t σ H P∧∀ v H',P v H'→Q v H'):=fun pins s σ H Q I ⟨P,hP,k⟩=>
    thn (fX h pins s σ H P I hP) fun u s1 ⟨v,H1,I1,r,q⟩=>⟨v,H1,I1,r,k _ _ q⟩
  intro pins s σ H Q I hh
  refine thn (h pins s σ H _ I hh) fun u s1 ⟨v,H1,I1,r,q⟩=>?_
  rcases q with q | ⟨c,xs,rfl,ec,q⟩
  · exact ⟨v,H1,I1,r,q⟩
  · have hz:=I1.hok c _ ec
    obtain ⟨z,its,n,rv,hg⟩:=hz
    have nl:∀ d o,H1 d=some o→(∀ ys,o≠.lst ys)→d≠c:=fun d o e1 e2 w=>by subst w;rw[ec] at e1;cases e1;exact e2 _ rfl
    refine ⟨.ref c,_,I1.un (h':=s1.heap) (t':=s1.toks) (H':=L2.upd H1 c (.frz { cls:=.type "list", data:=.seq its.toArray n } (.lst xs))) ⟨fun d o e _ _ _=>e,fun d o e _ _ _=>⟨o.slots,e⟩,fun d o e w _=>?_,fun d o e _=>⟨o,e⟩,fun d ys e=>?_,fun d o u e=>?_,fun d ps e=>⟨#[],?_⟩⟩ (fun d u e=>?_),r,q _⟩
    · rw[ay (fun z=>by subst z;rw[ec] at w;cases w)];exact w
    · rw[ay (nl d _ e (fun _=>nofun))];exact e
    · rw[ay (nl d _ e (fun _=>nofun))];exact e
    · rw[ay (nl d _ e (fun _=>nofun)),e];simp
    · by_cases hd:d=c
      · subst hd
        rw[az] at e;cases e
        exact ⟨hg,z,its,n,rv,hg⟩
      · rw[ay hd] at e
        refine (I1.hok d u e).ix (fun k w _ q=>q) (fun k q=>?_) fun k ys q=>?_
        · rw[ay (nl k _ q (fun _=>nofun))];exact q
        · rw[ay (nl k _ q (fun _=>nofun))];exact q
def xx (K:PySem.W.Frag):R2:=fun x y H Q=>∃ p q ys,x=.ref p∧y=.ref q∧SqT K H p []∧SqT K H q ys∧Q (.ref q) H
theorem xu:OpR X (binaryOp .Add) (xx X.K):=fun pins s σ H x y v u Q I rx ry ⟨p,q,ys,e1,e2,hp,hq,h⟩=>by
  subst e1 e2
  cases rx
  cases ry
  obtain ⟨its,r1,p1,_⟩:=I.tuple hp
  obtain ⟨its2,r2,p2,_⟩:=I.tuple hq
  cases r1
  obtain ⟨⟨c1,d1,t1,l1⟩,ho,hc,n,hd⟩:=id p1
  obtain ⟨⟨c2,d2,t2,l2⟩,ho2,hc2,n2,hd2⟩:=id p2
  simp only at hc hd hc2 hd2
  subst hc hd hc2 hd2
  exact concat_meets ⟨_,ho,rfl⟩ ⟨_,ho2,rfl⟩ noFill_tuple_add seq_tuple_add PySem.F.slot_tuple_add PySem.F.entry_tuple_add (PySem.F.args_tuple_add_2 _ _)
    (tuple_addW0 p q #[] its2.toArray n n2 d1 d2 l1 l2 rfl) ⟨ho,ho2,⟨.ref q,H,I,rfl,h⟩⟩
def xT (K:PySem.W.Frag):R2:=fun x y H Q=>∃ p q xs ys,x=.ref p∧y=.ref q∧SqL K H p xs∧SqL K H q ys∧xs.length+ys.length≤sizeLine∧∀ z,H z=none→Q (.ref z) (L2.upd H z (.lst (xs++ys)))
theorem wW:OpR X (binaryOp .Add) (xT X.K):=fun pins s σ H x y v u Q I rx ry ⟨p,q,xs,ys,e1,e2,hp,hq,hz,h⟩=>by
  subst e1 e2
  cases rx
  cases ry
  obtain ⟨its,r1,p1,_⟩:=I.list hp
  obtain ⟨its2,r2,p2,_⟩:=I.list hq
  obtain ⟨⟨c1,d1,t1,l1⟩,n,ho,hc,hx,hd⟩:=id p1
  obtain ⟨⟨c2,d2,t2,l2⟩,n2,ho2,hc2,hx2,hd2⟩:=id p2
  simp only at hc hd hc2 hd2
  subst hc hd hc2 hd2
  have z1:=r1.length
  have z2:=r2.length
  refine concat_meets ⟨_,ho,rfl⟩ ⟨_,ho2,rfl⟩ PySem.noFill_list_add PySem.seq_list_add PySem.F.slot_list_add PySem.F.entry_list_add (PySem.F.args_list_add_2 _ _)
    (list_addW p q its.toArray its2.toArray n n2 d1 d2 l1 l2 (by rw[List.size_toArray,List.size_toArray];omega)) ⟨ho,ho2,?_⟩
  have ea:its.toArray++its2.toArray=(its++its2).toArray:=by simp
  rw[ea]
  exact ⟨.ref _,_,I.Cf (t':=s.toks) (r1.append r2) (by rw[List.length_append];omega),rfl,h _ I.fresh⟩
def aO:DR2:=fun x y μ Q=>match x,y with
  | .int i,.int j=>Q (.int (i+j)) μ
  | .str i,.str j=>i.length+j.length≤1000000∧Q (.str (i++j)) μ
  | .tup a,.tup b=>a.length+b.length≤1000000∧Q (.tup (a++b)) μ
  | .ls a,.ls b=>a.length+b.length≤1000000∧Q (.ls (a++b)) μ
  | _,_=>False
def rPl (K:PySem.W.Frag):R2:=fun x y H Q=>(rI0 fun i j=>.int (i+j)) x y H Q∨(∃ i j,x=.str i∧y=.str j∧i.length+j.length≤sizeLine∧Q (.str (i++j)) H)∨xV K x y H Q∨xx K x y H Q∨xT K x y H Q
theorem xm:OpR X (binaryOp .Add) (rPl X.K):=fun pins s σ H x y v u Q I rx ry h=>by
  rcases h with h | h | h | h | h
  · exact zV pins s σ H x y v u Q I rx ry h
  · exact n8 pins s σ H x y v u Q I rx ry h
  · exact vS pins s σ H x y v u Q I rx ry h
  · exact xu pins s σ H x y v u Q I rx ry h
  · exact wW pins s σ H x y v u Q I rx ry h
theorem aH (ha:LE X a Ta)(hb:LE X b Tb):LE X (.BinOp a .Add b pos) (ak aO Ta Tb):=by
  obtain ⟨ta,pa,sa⟩:=ha.ex
  obtain ⟨tb,pb,sb⟩:=hb.ex
  refine ⟨_,o8 (xP xm pa pb),fun σ H ρ μ Q Q' rl h k=>sa σ H ρ μ _ _ rl h fun x H1 dx μ1 t1 m1 p1 h1=>sb σ H1 ρ μ1 _ _ (rl.go t1 m1) h1 fun y H2 dy μ2 t2 m2 p2 h2=>?_⟩
  have p1:=p1.mono t2
  have k:=k.go (t1.trans t2)
  cases p1 with
  | int i=>
    cases p2 with
    | int j=>exact .inl ⟨i,j,rfl,rfl,.inl (k _ H2 _ μ2 (.refl H2) m2 (.int _) h2)⟩
    | _=>exact False.elim h2
  | str i=>
    cases p2 with
    | str j=>exact .inr (.inl ⟨i,j,rfl,rfl,big h2.1,.inl (k _ H2 _ μ2 (.refl H2) m2 (.str _) h2.2)⟩)
    | _=>exact False.elim h2
  | @tup q xs ds sq l=>
    cases p2 with
    | @tup q' ys es sq' l'=>
      obtain ⟨hz,h3⟩:=h2
      by_cases hx:xs=[]
      · subst hx
        cases l
        exact .inr (.inr (.inr (.inl ⟨q,q',ys,rfl,rfl,sq,sq',.inl (k _ H2 _ μ2 (.refl H2) m2 (.tup sq' l') h3)⟩)))
      · refine .inr (.inr (.inl ⟨q,q',xs,ys,rfl,rfl,sq,sq',hx,by rw[l.length,l'.length];exact big hz,fun hy=>?_,fun _ z hzn=>.inl ?_⟩))
        · subst hy
          cases l'
          rw[List.append_nil] at h3
          exact .inl (k _ H2 _ μ2 (.refl H2) m2 (.tup sq l) h3)
        · exact k _ _ _ μ2 (.new hzn) (bS m2 hzn) (.tup (SqT.of az) ((l.append l').mono (.new hzn))) h3
    | _=>exact False.elim h2
  | @ls q xs ds sq l=>
    cases p2 with
    | @ls q' ys es sq' l'=>exact .inr (.inr (.inr (.inr ⟨q,q',xs,ys,rfl,rfl,sq.sq,sq'.sq,by rw[l.length,l'.length];exact big h2.1,fun z hz=>.inr (eu m2 (l.append l') h2.2 k hz)⟩)))
    | _=>exact False.elim h2
  | _=>cases p2<;>exact False.elim h2
abbrev OTr:=ST→Mu→(Option Int→Mu→Prop)→Prop
def ONo:OTr:=fun _ μ Q=>Q none μ
def jl (T:ETr):OTr:=fun ρ μ Q=>T ρ μ fun x μ1=>kI x fun i=>Q (some i) μ1
def BX (K:PySem.W.Frag)(t:TO)(T:OTr):Prop:=∀ σ H ρ μ (Q:Option Int→Mu→Prop) (Q':Option Int→Hp→Prop),Rl K σ H ρ μ→T ρ μ Q→(∀ i H' μ',Tk H H'→aV K H' μ'→Q i μ'→Q' i H')→t σ H Q'
structure LO (X:Cx) (o:Option Expr) (T:OTr):Prop where
  ex:∃ t,PO X o t∧BX X.K t T
theorem mz:LO X none ONo:=⟨_,wY,fun σ H ρ μ Q Q' rl h k=>k none H μ (.refl H) rl.mu h⟩
theorem hW (h:LE X e T):LO X (some e) (jl T):=by
  obtain ⟨t,p,s⟩:=h.ex
  refine ⟨_,vy p,fun σ H ρ μ Q Q' rl h k=>s σ H ρ μ _ _ rl h fun v H1 d μ1 t1 m1 p1 h1=>?_⟩
  cases p1 with
  | int i=>exact ⟨i,rfl,k _ H1 μ1 t1 m1 h1⟩
  | _=>exact False.elim h1
def cutD {α:Type}(xs:List α)(lo hi:Option Int):List α:=(xs.drop (HT.sIx xs.length 0 lo)).take (HT.sIx xs.length xs.length hi - HT.sIx xs.length 0 lo)
theorem oO {α:Type}{xs:List α}{lo hi:Option Int}(h:HT.sIx xs.length 0 lo=0∧HT.sIx xs.length xs.length hi=xs.length):cutD xs lo hi=xs:=by
  unfold cutD;rw[h.1,h.2];simp
theorem DpL.take {K:PySem.W.Frag}{H:Hp}:∀ {vs:List V} {ds:List D} (n:Nat),DpL K H vs ds→DpL K H (vs.take n) (ds.take n)
  | _,_,0,_=>.nil
  | _,_,_+1,.nil=>.nil
  | _,_,n+1,.cons h l=>.cons h (DpL.take n l)
theorem DpL.drop {K:PySem.W.Frag}{H:Hp}:∀ {vs:List V} {ds:List D} (n:Nat),DpL K H vs ds→DpL K H (vs.drop n) (ds.drop n)
  | _,_,0,l=>l
  | _,_,_+1,.nil=>.nil
  | _,_,n+1,.cons _ l=>DpL.drop n l
theorem DpL.cut {K:PySem.W.Frag}{H:Hp}{vs:List V}{ds:List D}(lo hi:Option Int)(l:DpL K H vs ds):DpL K H (mT vs lo hi) (cutD ds lo hi):=by
  unfold mT cutD;rw[l.length];exact (l.drop _).take _
theorem lV {prog:Program}{w:World}{A:Around}{E:Value→Shared→Prop}{s:Shared}{t sl:Addr}{items:Array Value}{vl vu:Value}{lo hi:Option Int}{Q:Value→Shared→Prop}(ht:IsTup s.heap t items)(hs:s.heap.IsSliceOf sl vl vu .none)(pl:IsPart vl lo)(pu:IsPart vu hi)
    (hw:HT.sIx items.size 0 lo=0∧HT.sIx items.size items.size hi=items.size) (h:Q (.ref t) s):wpAny (model prog w) A (getItem (.ref t) (.ref sl)) Q E s:=by
  obtain ⟨os,hos,hcs,hds⟩:=id hs
  have hTs:s.TypeIs (.ref sl) "slice" := ⟨os,hos,hcs⟩
  unfold getItem
  try with_reducible refine wpAny_holding ?_
  first | refine wpAny_bind (wpAny_pure ?_) | skip
  refine wpAny_bind (wpAny_sequenceKey ht.typeIs (by decide) ?_)
  refine wpAny_bind (wpAny_callSpecial?_slot (name:=Str.ofString "__getitem__") ht.typeIs PyProof.Rows.slot_tuple_getitem (wpAny_call_entry PyProof.Rows.slot_tuple_getitem ht.typeIs entry_tuple_getitem ?_ (args_tuple_getitem _ _)))
  show wpAny _ _ (Builtin.Tuple.tupleItemsOf (.ref t) >>= _) _ _ s
  refine wpAny_bind (tupleItemsOf_ ht ?_)
  refine wpAny_bind <| wpAny_typeOf hTs ?_
  rw[if_pos (by decide)]
  refine wpAny_bind (HT.c4 hs pl pu ?_)
  rw[hw.1,hw.2]
  refine (show wpAny _ _ (if (((0:Nat):Int) == 0&&(1:Int) == 1&&(items.size - 0) == items.size)=true then _ else _) _ _ s from ?_)
  rw[if_pos (by simp)]
  unfold Builtin.Tuple.tupleIsExact
  refine wpAny_bind (wpAny_bind (wpAny_typeOf ht.typeIs (wpAny_pure ?_)))
  rw[if_pos (by decide)]
  first
    | exact wpAny_bind (wpAny_rule (wpAny_bind (wpAny_pure (wpAny_pure ⟨_,rfl,wpAny_pure h⟩))))
    | exact wpAny_bind (wpAny_rule (wpAny_pure ⟨_,rfl,wpAny_pure h⟩))
    | exact wpAny_bind (wpAny_bind (wpAny_rule (wpAny_pure (wpAny_pure ⟨_,rfl,wpAny_pure h⟩))))
def BW (K:PySem.W.Frag):V→Option Int→Option Int→Hp→VK→Prop:=fun x lo hi H Q=>∃ a xs,x=.ref a∧SqT K H a xs∧(HT.sIx xs.length 0 lo=0∧HT.sIx xs.length xs.length hi=xs.length)∧Q (.ref a) H
theorem rn:SlR X (BW X.K):=fun pins s σ H x v vl vu lo hi sl Q I rx hs pl pu ⟨q,xs,e,hx,hw,h⟩=>by
  subst e
  cases rx
  obtain ⟨its,r,ht,_⟩:=I.tuple hx
  have hlen:its.toArray.size=xs.length:=by rw[List.size_toArray];exact r.length.symm
  exact ⟨"tuple", _,PyProof.Rows.slot_tuple_getitem.lookup,ht.typeIs,lV ht hs pl pu (by rw[hlen];exact hw) ⟨.ref q,H,I,rfl,h⟩⟩
def rSl:D→Option Int→Option Int→Mu→DK→Prop:=fun x lo hi μ Q=>match x with
  | .tup xs=>Q (.tup (cutD xs lo hi)) μ
  | .ls xs=>Q (.ls (cutD xs lo hi)) μ
  | .obj a=>kL μ a fun xs=>Q (.ls (cutD xs lo hi)) μ
  | _=>False
def TSl (a:ETr)(lo hi:OTr):ETr:=fun ρ μ Q=>a ρ μ fun x μ1=>lo ρ μ1 fun l μ2=>hi ρ μ2 fun h μ3=>rSl x l h μ3 Q
theorem mU {lo hi:Option Expr}{Tl Th:OTr}{p2:Pos}(ha:LE X a Ta)(hl:LO X lo Tl)(hh:LO X hi Th):LE X (.Subscript a (.Slice lo hi none p2) pos) (TSl Ta Tl Th):=by
  obtain ⟨ta,pa,sa⟩:=ha.ex
  obtain ⟨tl,pl,sl⟩:=hl.ex
  obtain ⟨th,ph,sh⟩:=hh.ex
  refine ⟨_,o8 (r9 (SlR.or rn (SlR.or zT vm)) pa pl ph),fun σ H ρ μ Q Q' rl h k=>sa σ H ρ μ _ _ rl h fun x H1 dx μ1 t1 m1 p1 h1=>sl σ H1 ρ μ1 _ _ (rl.go t1 m1) h1 fun i H2 μ2 t2 m2 h2=>sh σ H2 ρ μ2 _ _ (rl.go (t1.trans t2) m2) h2 fun j H3 μ3 t3 m3 h3=>?_⟩
  have p1:=p1.mono (t2.trans t3)
  have k:=k.go (t1.trans (t2.trans t3))
  cases p1 with
  | @tup q xs ds sq l=>
    by_cases hw:HT.sIx xs.length 0 i=0∧HT.sIx xs.length xs.length j=xs.length
    · refine .inl ⟨q,xs,rfl,sq,hw,.inl (k _ H3 _ μ3 (.refl H3) m3 (.tup sq l) ?_)⟩
      rw[l.length] at hw
      have h3:Q (.tup (cutD ds i j)) μ3:=h3
      rw[oO hw] at h3;exact h3
    · exact .inr (.inl ⟨q,xs,rfl,sq,hw,fun z hz=>.inl (k _ _ _ μ3 (.new hz) (bS m3 hz) (.tup (SqT.of az) ((l.cut i j).mono (.new hz))) h3)⟩)
  | @ls q xs ds sq l=>exact .inr (.inr ⟨q,xs,rfl,sq.sq,fun z hz=>.inr (eu m3 (l.cut i j) h3 k hz)⟩)
  | obj q=>
    obtain ⟨ds,e0,h4⟩:=a9 h3
    obtain ⟨xs,ex,l⟩:=m3 q _ e0
    exact .inr (.inr ⟨q,xs,rfl,SqL.of ex,fun z hz=>.inr (eu m3 (l.cut i j) h4 k hz)⟩)
  | _=>exact False.elim h3
theorem wc {α:Type}(xs:List α)(k:Nat):cutD xs none (some (k:Int))=xs.take k:=by
  unfold cutD
  rw[HT.ml,HT.pN,List.drop_zero,Nat.sub_zero]
  rcases Nat.le_total k xs.length with h | h
  · rw[Nat.min_eq_left h]
  · rw[Nat.min_eq_right h,List.take_length,List.take_of_length_le h]
theorem qg {α:Type}(xs:List α)(k:Nat):cutD xs (some (k:Int)) none=xs.drop k:=by
  unfold cutD
  rw[HT.ml,HT.pN]
  rcases Nat.le_total k xs.length with h | h
  · rw[Nat.min_eq_left h,List.take_of_length_le (by rw[List.length_drop];omega)]
  · rw[Nat.min_eq_right h,List.drop_length,List.drop_of_length_le h];simp
end
end
section
open PySem PySem.Spec PyProof.Rows L2
theorem DpL.ints_of {K:PySem.W.Frag}{H:Hp}:∀ {xs:List V} {ns:List Int},DpL K H xs (ns.map .int)→xs=ns.map V.int
  | _,[],.nil=>rfl
  | _,n::r,.cons h l=>by cases h;rw[DpL.ints_of l];rfl
end
section
open PySem PySem.Spec PyProof.Rows L2
theorem _root_.L2.Inv.frz {X:Cx}{pins:List (Addr×Obj)}{σ:L2.St}{H:Hp}{s:Shared}{c:Addr}{xs:List V}(I1:Inv X pins σ H s)(ec:H c=some (.lst xs)):∃ o,Inv X pins σ (L2.upd H c (.frz o (.lst xs))) s:=by
  obtain ⟨z,its,n,rv,hg⟩:=I1.hok c _ ec
  have nl:∀ d o,H d=some o→(∀ ys,o≠.lst ys)→d≠c:=fun d o e1 e2 w=>by subst w;rw[ec] at e1;cases e1;exact e2 _ rfl
  refine ⟨_,I1.un (h':=s.heap) (t':=s.toks) (H':=L2.upd H c (.frz { cls:=.type "list", data:=.seq its.toArray n } (.lst xs))) ⟨fun d o e _ _ _=>e,fun d o e _ _ _=>⟨o.slots,e⟩,fun d o e w _=>?_,fun d o e _=>⟨o,e⟩,fun d ys e=>?_,fun d o u e=>?_,fun d ps e=>⟨#[],?_⟩⟩ (fun d u e=>?_)⟩
  · rw[ay (fun z=>by subst z;rw[ec] at w;cases w)];exact w
  · rw[ay (nl d _ e (fun _=>nofun))];exact e
  · rw[ay (nl d _ e (fun _=>nofun))];exact e
  · rw[ay (nl d _ e (fun _=>nofun)),e];simp
  · by_cases hd:d=c
    · subst hd
      rw[az] at e;cases e
      exact ⟨hg,z,its,n,rv,hg⟩
    · rw[ay hd] at e
      refine (I1.hok d u e).ix (fun k w _ q=>q) (fun k q=>?_) fun k ys q=>?_
      · rw[ay (nl k _ q (fun _=>nofun))];exact q
      · rw[ay (nl k _ q (fun _=>nofun))];exact q
theorem pP {X:Cx}{tg iter elt:Expr}{ifs:List Expr}{scope:Scope}{pos spos py:Pos}{y:Str}{iy:Nat}{wi:TI}{g:TG}{tt:TT}{te:TE}{Nc:List Str}{n:Nat}{caps:List Nat}
    (hxe:X.xe=fun _ _=>False) (hcalm:X.calm=true) (hi:PI X tg iter wi)
    (hbody:∀ (cl:List (Str×Addr)) (C:Addr) (s₀:Shared) (H₀:Hp) (ex:List Addr),PG (aN X scope Nc cl C s₀ H₀ ex) tg g∧uh (aN X scope Nc cl C s₀ H₀ ex) ifs tt∧PE (aN X scope Nc cl C s₀ H₀ ex) elt te)
    (hfree:∀ y∈scope.names,y.2=.free→X.env.kindOf y.1=some .cell) (hcell:∀ y∈scope.names,y.2≠.cell) (dW:scope.kind=.function)
    (hnames:∀ y∈scope.names,y.2=.local→scope.names.lookup y.1=some .local) (hlen:Nc.length=n+caps.length)
    (hcap:∀ (j k:Nat),caps[j]? = some k→∃ x,Nc[n+j]? = some x∧X.N[k]? = some x∧scope.names.lookup x=some .free)
    (pgy:PG X (.Name y py) (jR iy))
    (hsw:swapsWith (.ListComp elt [⟨tg,iter,ifs,0⟩] scope pos) (some (.Name y py)) spos.line X.env=pure true)
    (hs:∀ x,foldedSetIterable iter X.env x=pure x:=by intro _;rfl) :
    PS X (.Assign [.Name y py] (.ListComp elt [⟨tg,iter,ifs,0⟩] scope pos) spos) (y3 (sy (oW wi g tt te n caps)) (jR iy)):=by
  intro pins s σ H E' I h
  rw[hxe]
  obtain ⟨cl,hclos,clin,clfree⟩:=hX (scope:=scope) (env:=X.env) fun y hy hf=>I.ok.has y.1 (.inl (hfree y hy hf))
  rewrite [exec_Assign_Name_used _ _ _ _ hsw]
  refine wpAny_bind (wpAny_standAt ?_)
  refine wpAny_bind ?_
  refine (show wpAny _ X.A (do let _ ← comprehension (.ListComp elt [⟨tg,iter,ifs,0⟩] scope pos) scope X.env _ (newList []) false (eval iter X.env) (some (assign (.Name y py) X.env))) _ _ s from ?_)
  refine wpAny_bind (wpAny_mono (wpAny_comprehension_free (use:=some (assign (.Name y py) X.env)) (Q:=fun _ s'=>SP X pins E' .next s') rfl hs hclos dW hnames ?_) (fun _ s' hq=>wpAny_pure (wpAny_pure hq)) fun _ _ e=>e)
  have hi':=hi pins s σ H _ I h
  rw[hxe] at hi'
  refine wpAny_mono hi' (fun xv s1 h1=>wpAny_mono h1 (fun itv s2 h2=>?_) fun _ _ z=>z) fun _ _ z=>z
  obtain ⟨it,fp,tn,J,H1,rfl,I2,T,st2,f2,hh⟩:=h2
  -- the new list
  refine wpAny_newObj_type ?_
  have hD:H1 s2.heap.objs.size=none:=I2.hok.fresh (Nat.le_refl _)
  obtain ⟨W,⟨m0,w0⟩,turn⟩:=hh _ hD
  have I3:Inv X pins σ (L2.upd H1 s2.heap.objs.size (.lst [])) { s2 with heap:=s2.heap.push { cls:=.type "list", dict:=none,data:=.seq ([]:List Value).toArray } }:=
    I2.laid (t':=s2.toks) (fun b u e=>Heap.get?_push_of_some _ e) (Nat.le_refl _) ⟨Nat.zero_le _,[],0,.nil,Heap.get?_push_size _ rfl⟩
  have k3:∀ b u,s2.heap.get? b=some u→(s2.heap.push { cls:=.type "list", dict:=none,data:=.seq ([]:List Value).toArray }).get? b=some u:=fun b u e=>Heap.get?_push_of_some _ e
  have fne:∀ b∈fp,b≠s2.heap.objs.size:=fun b hb=>by
    obtain ⟨o,ho,_⟩:=T.obj 0 _ st2 b hb
    exact Nat.ne_of_lt (Heap.lt_size ho)
  generalize eD:s2.heap.objs.size=D at *
  generalize eh3:s2.heap.push { cls:=.type "list", dict:=none,data:=.seq ([]:List Value).toArray }=h3 at *
  generalize eH3:L2.upd H1 D (.lst [])=H3 at *
  have st3:tn 0 h3:=T.keep 0 _ _ st2 fun b hb o e=>k3 b o e
  have f3:∀ b∈fp,iW X pins H3 b:=fun b hb=>⟨by rw[← eH3,ay (fne b hb)];exact (f2 b hb).1,(f2 b hb).2⟩
  have lt3:∀ b∈fp,b < h3.objs.size:=fun b hb=>by
    obtain ⟨o,ho,_⟩:=T.obj 0 _ st3 b hb
    exact Heap.lt_size ho
  generalize es3:({ s2 with heap:=h3 }:Shared)=s3 at *
  have hs3:s3.heap=h3:=by rw[← es3]
  refine wpAny_newFunctionEnv hcell (fun y hy=>(by cases hy)) (fun h4 hns hsb=>?_) dW
  show codeAny _ _ (.compStart _ 0 (.ref it) (.ref D) (compEnvC scope cl s3.heap.objs.size X.env)) (compPost _ _ _ _ _ (.ref D) s3.heap.objs.size) _
  have k4:∀ b u,s3.heap.get? b=some u→h4.get? b=some u:=fun b u e=>hsb.extBut b u (Nat.ne_of_lt (Heap.lt_size e)) (Heap.get?_push_of_some _ e)
  have okY:(aN X scope Nc cl s3.heap.objs.size s3 H3 fp).Ok:=by
    refine ⟨I3.ok.mod,dW,I3.ok.glob,I3.ok.blt,Nat.le_refl _,fun x y c e1 e2=>I3.ok.inj x y c (clin _ _ e1) (clin _ _ e2),fun x hx=>?_,fun x c hf=>(by cases hf),I3.ok.hd,I3.ok.frames,.inl rfl,fun b hb=>⟨?_,fun x c e z=>?_⟩,I3.bs,Nat.le_trans I3.ok.bsz I3.sz,fun b o e hb=>?_,fun b hb hz=>?_,I3.stack,I3.kJ⟩
    · have hx':(relabel scope X.env).names.lookup x=some .cell∨(relabel scope X.env).names.lookup x=some .free:=hx
      have hm:(x,NameKind.free)∈scope.names:=by
        rcases hx' with q | q
        · exact cQ hcell (.inl rfl) (PySem.mem_of_lookup q)
        · exact cQ hcell (.inr rfl) (PySem.mem_of_lookup q)
      exact clfree _ hm rfl
    · show b≠s3.heap.objs.size
      rw[hs3];exact Nat.ne_of_lt (lt3 b hb)
    · exact (f3 b hb).2.2.2.2.1 x c (clin _ _ e) z
    · rcases (f3 b hb).2.2.2.1 with z | z
      · exact I3.ok.qd b o e z
      · exact absurd (Nat.lt_of_lt_of_le (Heap.lt_size e) (Nat.le_trans I3.ok.bsz z)) (Nat.lt_irrefl _)
    · rcases List.mem_cons.mp (I3.lF b hz) with z | z
      · exact (f3 b hb).2.1 z
      · exact (f3 b hb).2.2.1 z
  have tS:∀ c v,s3.heap.IsCell c v→h4.IsCell c v:=fun c v ⟨o,ho,hd⟩=>⟨o,k4 c o ho,hd⟩
  have J0:Inv (aN X scope Nc cl s3.heap.objs.size s3 H3 fp) [] (df σ n caps) H3 { s3 with heap:=h4,toks:=s3.toks+([]:List (Str×Value)).length }:=by
    refine ⟨okY,rfl,I3.bare,Un.kept k4,⟨_,hns,fun i x v e1 e2 e3=>?_⟩,fun x c e=>?_,I3.hok.fresh (Nat.le_refl _),fun x c e=>I3.dO x c (clin _ _ e),(fun p hp=>(by cases hp)),I3.hok.kept k4,?_⟩
    · obtain ⟨j,k,rfl,ej,ek⟩:=dR e2
      obtain ⟨x',n1,n2,n3⟩:=hcap j k ej
      have e1':Nc[n+j]? = some x:=e1
      rw[n1] at e1';cases e1'
      have hmem:(x,NameKind.free)∈scope.names:=PySem.mem_of_lookup n3
      have hcellx:X.env.kindOf x=some .cell:=hfree _ hmem rfl
      obtain ⟨m,hn,hl⟩:=I3.loc
      obtain ⟨u,ru,lk⟩:=hl k x v n2 ek (.inr (.inl hcellx))
      refine ⟨u,ru,.inr ⟨.inl (bC I3.ok.kind hcellx n3),?_⟩⟩
      rcases lk with ⟨q,_⟩ | ⟨_,c,ec,ic⟩
      · rw[hcellx] at q;cases q
      · obtain ⟨c',ec'⟩:=clfree _ hmem rfl
        have:=clin _ _ ec'
        rw[ec] at this;cases this
        exact ⟨c,ec',tS _ _ ic⟩
    · obtain ⟨v,q⟩:=I3.cell x c (clin _ _ e)
      exact ⟨v,tS _ _ q⟩
    · unfold df
      show _=Nc.length
      rw[List.length_append,List.length_replicate,List.length_map,hlen]
  obtain ⟨pg,pifs,pelt⟩:=hbody cl s3.heap.objs.size s3 H3 fp
  generalize eY:aN X scope Nc cl s3.heap.objs.size s3 H3 fp=Y at *
  have yP:Y.prog=X.prog:=by rw[← eY];rfl
  have yw:Y.w=X.w:=by rw[← eY];rfl
  have yK:Y.K=X.K:=by rw[← eY];rfl
  have yA:Y.A=X.A:=by rw[← eY];rfl
  have yx:Y.xe=fun _ _=>False:=by rw[← eY];exact hxe
  have yc:Y.calm=true:=by rw[← eY];exact hcalm
  have ye:Y.env=compEnvC scope cl s3.heap.objs.size X.env:=by rw[← eY];rfl
  have yfs:Y.fs=frs X.stack:=by rw[← eY];rfl
  have yex:Y.ex=fp:=by rw[← eY];rfl
  have ys0:Y.s₀=s3:=by rw[← eY];rfl
  have yH0:Y.H₀=H3:=by rw[← eY];rfl
  have ypn:Y.pn=[]:=by rw[← eY];rfl
  have iE:∀ {H':Hp},(∀ b∈fp,H' b=none)→∀ b∈fp,iW Y [] H' b:=fun hn b hb=>⟨hn b hb,by rw[ye];show b≠s3.heap.objs.size;rw[hs3];exact Nat.ne_of_lt (lt3 b hb),okY.qA b (by rw[yex];exact hb),.inl (by rw[yex];exact hb),
    fun x c e=>by rw[ye] at e;exact (f3 b hb).2.2.2.2.1 x c (clin _ _ e),fun p hp=>by rw[ypn] at hp;exact nomatch hp⟩
  have tn4:∀ t,tn 0 ({ s3 with heap:=h4,toks:=t }:Shared).heap:=fun t=>T.keep 0 _ _ st3 fun b hb o e=>k4 b o (by rw[hs3];exact e)
  -- the end
  have fin:∀ (s5:Shared) (H5:Hp),Inv Y [] (df σ n caps) H5 s5→(∃ a xs,V.ref D=V.ref a∧H5 a=some (.lst xs)∧∀ o,jR iy (.ref D) σ (L2.upd H5 a (.frz o (.lst xs))) E'.nx)→
      compPost (model X.prog X.w) X.A (fun _ _=>False) (some (assign (.Name y py) X.env)) (fun _ s'=>SP X pins E' .next s') (.ref D) s3.heap.objs.size (.ok .next) s5:=fun s5 H5 I5 q5=>by
    obtain ⟨m,hn,_⟩:=I5.loc
    rw[ye] at hn
    have nC:∀ b o,s3.heap.get? b=some o→b≠s3.heap.objs.size:=fun b o e=>Nat.ne_of_lt (Heap.lt_size e)
    have un:=I5.base
    rw[yfs,yex,yH0,ys0] at un
    have hfreeC0:=I5.free
    rw[ye] at hfreeC0
    have hfreeC:H5 s3.heap.objs.size=none:=hfreeC0
    have hok5:=I5.hok
    rw[yP,yw] at hok5
    have I5X:Inv X pins σ H5 s5:=I3.qZ (ch:=fp) (s':=s5) (by have:=I5.os;rw[ys0] at this;exact this) un hok5 I5.bare fun b hb=>⟨(f3 b hb).2.2.2.1,(f3 b hb).2.1,(f3 b hb).2.2.2.2.1,(f3 b hb).2.2.2.2.2⟩
    obtain ⟨a,xs,ea,eH,q⟩:=q5
    cases ea
    obtain ⟨o,I5F⟩:=I5X.frz eH
    have neD:s3.heap.objs.size≠D:=fun z=>by rw[z] at hfreeC;rw[hfreeC] at eH;cases eH
    have fC:iW X pins (L2.upd H5 D (.frz o (.lst xs))) s3.heap.objs.size:=I3.rH (Nat.le_refl _) (by rw[ay neD];exact hfreeC)
    obtain ⟨oC,gC,dC⟩:∃ oC,s5.heap.get? s3.heap.objs.size=some oC∧∀ v,oC.data≠.cell v:=by
      obtain ⟨oC,es,ep,ho,hd,_⟩:=hn
      exact ⟨oC,ho,fun v z=>by rw[hd] at z;cases z⟩
    have I5P:=I5F.pinned (fp:=[s3.heap.objs.size]) (fun b hb=>by cases List.mem_singleton.mp hb;exact fC) (fun b hb=>by cases List.mem_singleton.mp hb;exact ⟨oC,gC,dC⟩)
    have as:=pgy _ s5 σ _ (.ref D) (.ref D) E'.nx I5P rfl (q o)
    rw[hxe] at as
    refine thn as fun _ s6 ⟨σ6,H6,I6,n6⟩=>?_
    obtain ⟨g6,f6,_⟩:=I6.pin (s3.heap.objs.size,oC) (List.mem_append_right _ (List.mem_append_right _ (bT List.mem_cons_self gC)))
    refine ⟨m,hn.at' (fun o' e'=>by have e'':s5.heap.get? s3.heap.objs.size=some o':=e';rw[gC] at e'';cases e'';exact g6),fun h7 hs7=>⟨σ6,H6,?_,n6⟩⟩
    have I6U:=I6.dg
    have keep:∀ b o',b≠s3.heap.objs.size→s6.heap.get? b=some o'→h7.get? b=some o':=fun b o' hb e'=>(hs7.2 b hb).trans e'
    refine I6U.qZ (ch:=[s3.heap.objs.size]) (s':={ s6 with heap:=h7 }) rfl ⟨fun b o' e' _ _ nx=>keep b o' (fun z=>nx (by rw[z];exact List.mem_cons_self)) e',fun b o' e' _ _ nx=>⟨o'.slots,keep b o' (fun z=>nx (by rw[z];exact List.mem_cons_self)) e'⟩,fun b o' _ w _=>w,fun b o' e' nx=>⟨o',keep b o' (fun z=>nx (by rw[z];exact List.mem_cons_self)) e'⟩,fun b ys e'=>e',fun b o' u e'=>e',fun b ps e'=>⟨#[],by simpa using e'⟩⟩ (fun b u e'=>?_) I6U.bare fun b hb=>?_
    · refine (I6U.hok b u e').ix (fun c w' hc q=>keep c w' ?_ q) (fun _ q=>q) fun _ _ q=>q
      rintro rfl
      rcases hc with z | z
      · rw[← z,f6] at e';cases e'
      · rw[f6] at z;cases z
    · cases List.mem_singleton.mp hb
      exact ⟨fC.2.2.2.1,fC.2.1,fC.2.2.2.2.1,fC.2.2.2.2.2⟩
  have loop:codeAny (model X.prog X.w) X.A (.compLoop (.ListComp elt [⟨tg,iter,ifs,0⟩] scope pos) 0 (.ref it) (.ref D) (compEnvC scope cl s3.heap.objs.size X.env)) (compPost (model X.prog X.w) X.A (fun _ _=>False) (some (assign (.Name y py) X.env)) (fun _ s'=>SP X pins E' .next s') (.ref D) s3.heap.objs.size)
      { s3 with heap:=h4,toks:=s3.toks+([]:List (Str×Value)).length }:=by
    refine jT (fun k s'=>∃ i ys H',Inv Y [] (df σ n caps) H' s'∧tn i s'.heap∧(∀ b∈fp,H' b=none)∧W i k ys H') ?_ m0 ⟨0,[],H3,J0,tn4 _,fun b hb=>(f3 b hb).1,w0⟩
    rintro k s5 ⟨i,ys,H5,I5,st5,fr5,w5⟩
    rcases turn i k ys H5 w5 with ⟨stop,q⟩ | ⟨go,N,hN,step⟩
    · have d:=T.done Y yP yw yK yc i [] s5 _ H5 (fun _ _=>False) I5 (iE fr5) st5 stop
      rw[yA] at d
      refine thn d fun r s6 ⟨hr,I6⟩=>?_
      subst hr
      exact fin s6 H5 I6 q
    · have d:=T.item Y yP yw yK yc i [] s5 _ H5 (fun _ _=>False) I5 (iE fr5) st5 go
      rw[yA] at d
      refine thn d fun r s6 ⟨u,hr,h6⟩=>?_
      subst hr
      refine thn h6 fun _ s7 ⟨x,H7,I7,r7,y7,st7,fr7⟩=>?_
      have I7':=I7.pinned (iE fr7) (T.obj _ _ st7)
      have a:=pg _ s7 _ H7 x u _ I7' r7 (step x H7 y7)
      rw[yP,yw,yA,yx,ye] at a
      refine thn a fun _ s8 ⟨σ8,H8,I8,wk,q8⟩=>?_
      have b:=pifs _ s8 σ8 H8 _ I8 q8
      rw[yP,yw,yA,yx,ye] at b
      have again:∀ {s9:Shared} {ys9:List V} {H9:Hp},Inv Y ([]++fJ fp s7.heap) σ8 H9 s9→N ys9 H9→∃ m,m < k∧∃ i ys H',Inv Y [] (df σ n caps) H' s9∧tn i s9.heap∧(∀ b∈fp,H' b=none)∧W i m ys H':=fun {s9 ys9 H9} I9 n9=>by
        obtain ⟨m',hm,w9⟩:=hN ys9 H9 n9
        have hp:∀ b∈fp,∀ o,s7.heap.get? b=some o→s9.heap.get? b=some o∧H9 b=none:=fun b hb o e=>
          ⟨(I9.pin (b,o) (List.mem_append_right _ (List.mem_append_right _ (bT hb e)))).1,(I9.pin (b,o) (List.mem_append_right _ (List.mem_append_right _ (bT hb e)))).2.1⟩
        refine ⟨m',hm,i+1,ys9,H9,I9.dg.weak wk.1 wk.2,T.keep _ _ _ st7 fun b hb o e=>(hp b hb o e).1,fun b hb=>?_,w9⟩
        obtain ⟨o,e,_⟩:=T.obj _ _ st7 b hb
        exact (hp b hb o e).2
      refine thn b fun ok s9 ⟨H9,I9,q9⟩=>?_
      cases ok with
      | false=>
        rw[if_neg Bool.false_ne_true] at q9 ⊢
        exact again I9 q9
      | true=>
        rw[if_pos rfl] at q9 ⊢
        have c:=pelt _ s9 σ8 H9 _ I9 q9
        rw[yP,yw,yA,yx,ye] at c
        refine thn c fun v s10 ⟨y,H10,I10,r10,zs,ez,lz,n10⟩=>?_
        have d:=fP (X:=Y) _ s10 σ8 H10 (.ref D) [y] (.ref D) [v] (fun _ H'=>N (zs++[y]) H') I10 rfl (.cons r10 .nil) ⟨D,zs,y,rfl,rfl,ez,lz,n10⟩
        rw[yP,yw,yA,yx] at d
        exact thn d fun _ s11 ⟨_,H11,I11,_,q11⟩=>again I11 q11
  refine codeAny_compStart_list loop ?_
  exact T.self X.A 0 _ _ _ (tn4 _) loop
theorem uy {K:PySem.W.Frag}{wi:TI}{It':ATr}{G:GTr}{Tt:TTr}{Te:ETr}{n:Nat}{caps:List Nat}(si:AL K wi It'):Sim K (sy (oW wi (jK K n G) (liftT K Tt) (jM K Te) n caps)) (cJ It' G Tt Te n caps):=by
  intro σ H ρ μ Q Q' rl h k
  refine si σ H ρ μ _ _ rl h fun J H1 ds μ1 t1 m1 Y h1 D hD=>?_
  have hp:=h1 D (m1.free hD)
  have tD:Tk H1 (L2.upd H1 D (.lst [])):=.new hD
  have mD:aV K (L2.upd H1 D (.lst [])) (up μ1 D (.lst [])):=fun a o e=>by
    by_cases ha:a=D
    · subst ha
      rw[ax] at e;cases e
      exact ⟨[],az,.nil⟩
    · rw[aJ ha] at e
      exact bS m1 hD a o e
  refine ⟨fun i m ys H2=>m=ds.length - i∧i≤ds.length∧Tk H1 H2∧∃ μ2,aV K H2 μ2∧d7 D G Tt Te (c9 ρ n caps) (fun μ'=>kL μ' D fun zs=>Q (.ls zs) (dn μ' D)) (ds.drop i) μ2,
    ⟨ds.length,by simp,Nat.zero_le _,tD,_,mD,by simpa using hp⟩,?_⟩
  rintro i m ys H2 ⟨rfl,hi,t12,μ2,m2,h2⟩
  by_cases hlt:i < ds.length
  · refine .inr ⟨Y.go i H2 t12 hlt,fun ys' H'=>Tk H1 H'∧∃ μ',aV K H' μ'∧d7 D G Tt Te (c9 ρ n caps) (fun μ'=>kL μ' D fun zs=>Q (.ls zs) (dn μ' D)) (ds.drop (i+1)) μ',fun ys' H' ⟨t',μ',m',h'⟩=>⟨ds.length - (i+1),by omega,rfl,hlt,t',μ',m',h'⟩,fun x H3 y=>?_⟩
    obtain ⟨t23,⟨d,ed,pd⟩,mk⟩:=Y.yld i H2 x H3 t12 hlt y
    have e:ds.drop i=d::ds.drop (i+1):=by
      refine (List.drop_eq_getElem_cons hlt).trans ?_
      congr 1
      rw[List.getElem?_eq_getElem hlt] at ed
      exact Option.some.inj ed
    rw[e] at h2
    have t13:=t12.trans t23
    have r3:Rl K (df σ n caps) H3 (c9 ρ n caps) μ2:=kG (rl.go (t1.trans t13) (mk _ m2)) n caps
    refine ⟨_,_,d,_,r3,pd,h2,fun σ4 H4 ρ4 μ4 t4 r4 kp h4=>⟨⟨kp.1.symm,fun j v ej=>?_⟩,_,_,_,r4,h4,fun b H5 μ5 t5 m5 h5=>?_⟩⟩
    · by_cases hj:n≤j
      · rw[kp.2 j hj];exact ej
      · obtain ⟨j',k',e1,_⟩:=dR ej
        omega
    · have t15:=t13.trans (t4.trans t5)
      cases b with
      | false=>exact mw ⟨t15,μ5,m5,h5⟩
      | true=>
        refine l6 ⟨_,_,_,r4.go t5 m5,h5,fun v H6 d6 μ6 t6 m6 p6 h6=>?_⟩
        obtain ⟨zs,ez,lz,h7⟩:=a9 h6
        obtain ⟨xs,ex,lx⟩:=m6 D _ ez
        have t67:Tk H6 (L2.upd H6 D (.lst (xs++[v]))):=.upd (fun ys z=>by rw[ex] at z;cases z) fun o' u z=>by rw[ex] at z;cases z
        refine ⟨xs,ex,by rw[lx.length];exact Nat.lt_of_lt_of_le lz (by decide),(t15.trans t6).trans t67,up μ6 D (.lst (zs++[d6])),fun a o ea=>?_,h7⟩
        by_cases ha:a=D
        · subst ha
          rw[ax] at ea;cases ea
          exact ⟨_,az,(lx.append (.cons p6 .nil)).mono t67⟩
        · rw[aJ ha] at ea
          exact (m6 a _ ea).ne t67 ha
  · have e:i=ds.length:=by omega
    subst e
    rw[List.drop_length] at h2
    obtain ⟨zs,ez,hq⟩:=a9 (show kL μ2 D fun zs=>Q (.ls zs) (dn μ2 D) from h2)
    obtain ⟨xs,ex,lx⟩:=m2 D _ ez
    refine .inl ⟨Y.stop _ H2 t12 (Nat.le_refl _),D,xs,rfl,ex,fun o=>?_⟩
    have t2f:Tk H2 (L2.upd H2 D (.frz o (.lst xs))):=.upd (fun ys z=>by rw[ex] at z;cases z) fun o' u z=>by rw[ex] at z;cases z
    refine k _ _ _ (dn μ2 D) ((t1.trans t12).trans t2f) (fun a o' ea=>?_) (.ls (.inl ⟨o,az⟩) (lx.mono t2f)) hq
    have ha:a≠D:=fun z=>by subst z;unfold dn at ea;rw[if_pos rfl] at ea;cases ea
    have ea':μ2 a=some o':=by unfold dn at ea;rw[if_neg ha] at ea;exact ea
    exact (m2 a _ ea').ne t2f ha
theorem mM {X:Cx}{tg elt iter:Expr}{Te:ETr}{Tt:TTr}{pos spos py:Pos}{y:Str}{It':ATr}{G:GTr}{ifs:List Expr}{scope fsc:Scope}(iy:Nat)(hN:X.N.Nodup)(XN Nc:List Str)(n:Nat)(caps:List Nat)(hxe:X.xe=fun _ _=>False)(hcalm:X.calm=true)(hi:LI X tg iter It')
    (hbody:∀ (cl:List (Str×Addr)) (C:Addr) (s₀:Shared) (H₀:Hp) (ex:List Addr),LGc (aN X scope Nc cl C s₀ H₀ ex) n tg G∧qv (aN X scope Nc cl C s₀ H₀ ex) ifs Tt∧LE (aN X scope Nc cl C s₀ H₀ ex) elt Te)
    (hsc:X.env.scope=fsc) (hXN:X.N=XN) (hok:fM fsc.names XN scope Nc n caps=true)
    (hiy:X.N[iy]? = some y:=by rfl) (hx:Loc X.env.scope y:=by first | exact Or.inl rfl | exact Or.inr rfl) (hf:X.fn y=true∨X.env.scope.names.lookup y=some .local:=by first | exact .inl rfl | exact .inr rfl | assumption)
    (hsw:swapsWith (.ListComp elt [⟨tg,iter,ifs,0⟩] scope pos) (some (.Name y py)) spos.line X.env=pure true:=by rfl)
    (hs:∀ x,foldedSetIterable iter X.env x=pure x:=by intro _;rfl) :
    LS X (.Assign [.Name y py] (.ListComp elt [⟨tg,iter,ifs,0⟩] scope pos) spos) (aU (cJ It' G Tt Te n caps) (aq iy)):=by
  unfold fM at hok
  simp only[Bool.and_eq_true,List.all_eq_true] at hok
  obtain ⟨⟨⟨h1,h2⟩,h3⟩,h4⟩:=hok
  obtain ⟨wi,pi,si⟩:=hi.ex
  refine ⟨_,pP (g:=jK X.K n G) (tt:=liftT X.K Tt) (te:=jM X.K Te) hxe hcalm pi (fun cl C s₀ H₀ ex=>let ⟨h1,h2,h3⟩:=hbody cl C s₀ H₀ ex;⟨h1.pe,h2.pe,h3.pe⟩) (fun y hy hf=>?_) (fun y hy hf=>?_) (by simpa using h2) (fun y hy hf=>?_) (by simpa using h3) (fun j k hj=>?_) (fk hN hiy hx hf) hsw hs,fun σ H ρ μ E E' rl h k=>uy si σ H ρ μ _ _ rl h fun v H' d μ' t' m' p' h'=>el iy σ H' ρ μ' v d _ _ (rl.go t' m') p' h' (k.go t').nx⟩
  · have:=(h1 y hy).1.1
    show X.env.scope.names.lookup y.1=_
    rw[hsc]
    simpa[hf] using this
  · have:=(h1 y hy).1.2
    simp[hf] at this
  · have:=(h1 y hy).2
    simpa[hf] using this
  · have hl:j < caps.length:=(List.getElem?_eq_some_iff.mp hj).1
    have:=h4 j (List.mem_range.mpr hl)
    rw[hj] at this
    dsimp only at this
    rw[hXN]
    cases e:XN[k]? with
    | none=>rw[e] at this;cases this
    | some x=>
      rw[e] at this
      dsimp only at this
      rw[Bool.and_eq_true] at this
      exact ⟨x,by simpa using this.1,rfl,by simpa using this.2⟩
end
section
open PySem PySem.Spec PyProof.Rows L2
section
variable {X:Cx} {ea:Expr} {es:List Expr} {ek:Nat} {ep p pos:Pos}
def gd (ds:List D):List D:=(List.range ds.length).zipWith (fun i d=>.tup [.int (i:Nat),d]) ds
def Br (t:ATr):ATr:=fun ρ μ Q=>t ρ μ fun vs μ1=>match vs with
  | [.ls ds]=>Q (gd ds) μ1
  | _=>False
theorem jC (ds:List D)(i:Nat):(gd ds)[i]? = (ds[i]?).map fun d=>.tup [.int (i:Nat),d]:=by
  unfold gd
  rw[List.getElem?_zipWith]
  by_cases h:i < ds.length
  · rw[List.getElem?_range h,List.getElem?_eq_getElem h];rfl
  · rw[List.getElem?_eq_none_iff.mpr (by simpa using h),List.getElem?_eq_none_iff.mpr (by simpa using h)];rfl
theorem jS (ds:List D):(gd ds).length=ds.length:=by unfold gd;simp
variable {eb:Expr} {tg:Expr} {Ta Tb:ETr}
end
end
section
open PySem PySem.Spec PyProof PyProof.Rows L2
theorem eL:∀ {us:List Value} {ns:List Int},IntsAre us ns→∃ ps:List (Int×Tok),us=ps.map (fun p=>Value.int p.1 p.2)∧ps.map Prod.fst=ns
  | _,_,.nil=>⟨[],⟨rfl,rfl⟩⟩
  | _,_,.cons n t h=>by
    obtain ⟨ps,e1,e2⟩:=eL h
    exact ⟨(n,t)::ps,by rw[e1];rfl,by rw[← e2];rfl⟩
theorem gU (ps:List (Int×Tok))(i:Nat):numAt ps.toArray i=((ps.map Prod.fst)[i]?).getD 0:=by
  unfold numAt
  simp only[List.getElem?_toArray,List.getElem?_map]
section
variable {X:Cx} {a b:Expr} {Ta Tb:ETr} {pos:Pos}
end
end
theorem lD (i j:Int)(μ Q):aO (.int i) (.int j) μ Q=Q (.int (i+j)) μ:=rfl
theorem kT (i j:Str)(μ Q):aO (.str i) (.str j) μ Q=(i.length+j.length≤1000000∧Q (.str (i++j)) μ):=rfl
theorem lB (a b:List D)(μ Q):aO (.tup a) (.tup b) μ Q=(a.length+b.length≤1000000∧Q (.tup (a++b)) μ):=rfl
theorem kA (a b:List D)(μ Q):aO (.ls a) (.ls b) μ Q=(a.length+b.length≤1000000∧Q (.ls (a++b)) μ):=rfl
theorem iI (a:List D)(μ Q):bU [.tup a] μ Q=Q (.tup a) μ:=rfl
theorem iX (a:List D)(μ Q):bU [.ls a] μ Q=Q (.tup a) μ:=rfl
theorem ig (a:Addr)(μ Q):bU [.obj a] μ Q=kL μ a fun xs=>Q (.tup xs) μ:=rfl
theorem iu (a:List D)(μ Q):eh [.tup a] μ Q=Q (.ls a) μ:=rfl
theorem iG (a:List D)(μ Q):eh [.ls a] μ Q=Q (.ls a) μ:=rfl
theorem iQ (a:Addr)(μ Q):eh [.obj a] μ Q=kL μ a fun xs=>Q (.ls xs) μ:=rfl
theorem iH (a:List D)(μ Q):eT [.tup a] μ Q = ∀ p,μ p=none→Q (.obj p) (up μ p (.lst a)):=rfl
theorem gS (a:List D)(μ Q):eT [.ls a] μ Q = ∀ p,μ p=none→Q (.obj p) (up μ p (.lst a)):=rfl
theorem gO (a:Addr)(μ Q):eT [.obj a] μ Q=kL μ a fun xs=>∀ p,μ p=none→Q (.obj p) (up μ p (.lst xs)):=rfl
theorem u0 (a:List D)(lo hi)(μ Q):rSl (.tup a) lo hi μ Q=Q (.tup (cutD a lo hi)) μ:=rfl
theorem rL (a:List D)(lo hi)(μ Q):rSl (.ls a) lo hi μ Q=Q (.ls (cutD a lo hi)) μ:=rfl
theorem uq (a:Addr)(lo hi)(μ Q):rSl (.obj a) lo hi μ Q=kL μ a fun xs=>Q (.ls (cutD xs lo hi)) μ:=rfl
theorem rR (n:Bool)(x:D)(a:List D)(μ Q):L3.rIn n x (.tup a) μ Q=((dN x=true∧a.all dN=true)∧Q (.bl (if n then !inD x a else inD x a)) μ):=rfl
theorem qX (n:Bool)(x:D)(a:List D)(μ Q):L3.rIn n x (.ls a) μ Q=((dN x=true∧a.all dN=true)∧Q (.bl (if n then !inD x a else inD x a)) μ):=rfl
theorem uM (n:Bool)(x:D)(a:Addr)(μ Q):L3.rIn n x (.obj a) μ Q=kL μ a fun xs=>(dN x=true∧xs.all dN=true)∧Q (.bl (if n then !inD x xs else inD x xs)) μ:=rfl
theorem nW (a:Addr)(μ Q):cN [.obj a] μ Q=kL μ a fun xs=>Q (.int xs.length) μ:=rfl
theorem ou (x:Str)(μ Q):cN [.str x] μ Q=(x.length≤1000000∧Q (.int x.length) μ):=rfl
theorem uF (μ Q):rIs .non .non μ Q=Q (.bl true) μ:=rfl
theorem rf (i:Int)(μ Q):rIs (.int i) .non μ Q=Q (.bl false) μ:=rfl
theorem uW (i:List D)(μ Q):rIs (.tup i) .non μ Q=Q (.bl false) μ:=rfl
theorem iS (μ Q):nh .non .non μ Q=Q (.bl false) μ:=rfl
theorem gW (i:Int)(μ Q):nh (.int i) .non μ Q=Q (.bl true) μ:=rfl
theorem gR (i:List D)(μ Q):nh (.tup i) .non μ Q=Q (.bl true) μ:=rfl
theorem nX (c:String)(i:List D)(μ Q):p5 c (.ls i) μ Q=Q (.bl (e9 "list" c)) μ:=rfl
theorem nq (c:String)(i:Str)(μ Q):p5 c (.str i) μ Q=Q (.bl (e9 "str" c)) μ:=rfl
theorem ow (c:String)(μ Q):p5 c .non μ Q=Q (.bl (e9 "NoneType" c)) μ:=rfl
theorem cu (k:Nat)(ds:List D):atD ds (k:Int)=ds[k]?:=by
  unfold atD L2.atI L2.ixN
  rw[if_pos (Int.natCast_nonneg k)]
  by_cases h:k < ds.length
  · rw[if_pos (by omega)];simp
  · rw[if_neg (by omega)];simp;omega
theorem pk (ds:List D):atD ds 0=ds[0]?:=cu 0 ds
theorem pz (ds:List D):atD ds 1=ds[1]?:=cu 1 ds
theorem pM (ds:List D):atD ds 2=ds[2]?:=cu 2 ds
theorem pT (ds:List D):atD ds 3=ds[3]?:=cu 3 ds
theorem pF (ds:List D):atD ds 4=ds[4]?:=cu 4 ds
theorem pS (ds:List D):atD ds 5=ds[5]?:=cu 5 ds
theorem vf (n k:Nat):L2.ixN n (k:Int)=if k < n then some k else none:=by
  unfold L2.ixN
  rw[if_pos (Int.natCast_nonneg k)]
  by_cases h:k < n
  · rw[if_pos (by omega),if_pos h];simp
  · rw[if_neg (by omega),if_neg h]
theorem dk:e9 "int" "int" = true:=by decide
theorem dH:e9 "int" "bool" = false:=by decide
theorem dz:e9 "bool" "bool" = true:=by decide
theorem dD:e9 "bool" "int" = true:=by decide
theorem du:e9 "tuple" "tuple" = true:=by decide
theorem dE:e9 "int" "tuple" = false:=by decide
theorem dA:e9 "bool" "tuple" = false:=by decide
theorem fm0 {a n:Int}(h:0 < n):0≤a.fmod n:=Int.fmod_nonneg_of_pos a h
theorem fm1 {a n:Int}(h:0 < n):a.fmod n < n:=Int.fmod_lt_of_pos a h
theorem sJ (A B:Prop):kIf true A B=A:=rfl
theorem sQ (A B:Prop):kIf false A B=B:=rfl
theorem uC (p:Prop) [Decidable p] (A B:Prop):kIf (decide p) A B=if p then A else B:=by by_cases h:p<;>simp[h,kIf]
theorem rB (c:Bool)(A B:Prop):kIf (!c) A B=kIf c B A:=by cases c<;>rfl
theorem rD (c:Bool)(f):kB (.bl c) f=f c:=rfl
theorem ng (c:Int)(f):kI (.int c) f=f c:=rfl
theorem gI (c:D)(f):kO (some c) f=f c:=rfl
theorem n5 (c:List D)(f):kS (.tup c) f=f c:=rfl
theorem tK (c:List D)(f):kS (.ls c) f=f c:=rfl
theorem oi (a b:D)(f):k2 [a,b] f=f a b:=rfl
theorem kC (c:Nat)(f):kN (some c) f=f c:=rfl
theorem pI (μ:Mu)(a:Addr)(ds:List D)(f):kL (up μ a (.lst ds)) a f=f ds:=by unfold kL;rw[ax]
theorem Bz {μ:Mu}{a:Addr}{ds:List D}(h:μ a=some (.lst ds))(f):kL μ a f=f ds:=by unfold kL;rw[h]
theorem i4 (a:Addr)(n:Int)(y:D)(μ:Mu)(f):Av (.obj a) (.int n) y μ f=kL μ a fun ds=>kN (L2.ixN ds.length n) fun j=>f (up μ a (.lst (ds.set j y))):=rfl
theorem nN (i j:Int)(μ Q):mO (.int i) (.int j) μ Q=Q (.int (i - j)) μ:=rfl
theorem nD (i j:Int)(μ Q):fL (.int i) (.int j) μ Q=(MulOk i j∧Q (.int (i*j)) μ):=rfl
theorem nj (i j:Int)(μ Q):kd (.int i) (.int j) μ Q=(gk j∧Q (.int (i.fdiv j)) μ):=rfl
theorem nY (i j:Int)(μ Q):fG (.int i) (.int j) μ Q=(j≠0∧Q (.int (i.fmod j)) μ):=rfl
theorem oE (i j:Int)(μ Q):uv (.int i) (.int j) μ Q=(gX i j∧Q (.int (i ^ j.toNat)) μ):=rfl
theorem nO (i:Int)(μ Q):BO (.int i) μ Q=Q (.int (-i)) μ:=rfl
theorem rZ (i j:Int)(μ Q):rLt (.int i) (.int j) μ Q=Q (.bl (decide (i < j))) μ:=rfl
theorem sC (i j:Int)(μ Q):rLe (.int i) (.int j) μ Q=Q (.bl (decide (i≤j))) μ:=rfl
theorem tP (i j:Int)(μ Q):rGt (.int i) (.int j) μ Q=Q (.bl (decide (j < i))) μ:=rfl
theorem uS (i j:Int)(μ Q):rGe (.int i) (.int j) μ Q=Q (.bl (decide (j≤i))) μ:=rfl
theorem sF (x y:D)(μ Q):L3.rEq x y μ Q=((okD 40 x=true∧okD 40 y=true)∧Q (.bl (eqD x y)) μ):=rfl
theorem u6 (x y:D)(μ Q):L3.rNe x y μ Q=((okD 40 x=true∧okD 40 y=true)∧Q (.bl (!eqD x y)) μ):=rfl
theorem rJ (ds:List D)(i:Int)(μ Q):L3.rIx (.tup ds) (.int i) μ Q=kO (atD ds i) fun d=>Q d μ:=rfl
theorem rS (ds:List D)(i:Int)(μ Q):L3.rIx (.ls ds) (.int i) μ Q=kO (atD ds i) fun d=>Q d μ:=rfl
theorem ui (a:Addr)(i:Int)(μ Q):L3.rIx (.obj a) (.int i) μ Q=kL μ a fun ds=>kO (atD ds i) fun d=>Q d μ:=rfl
theorem oT (c:String)(i:Int)(μ Q):p5 c (.int i) μ Q=Q (.bl (e9 "int" c)) μ:=rfl
theorem oJ (c:String)(i:Bool)(μ Q):p5 c (.bl i) μ Q=Q (.bl (e9 "bool" c)) μ:=rfl
theorem oV (c:String)(i:List D)(μ Q):p5 c (.tup i) μ Q=Q (.bl (e9 "tuple" c)) μ:=rfl
theorem oQ (i:Int)(μ Q):p9 [.int i] μ Q=Q (.int (if i < 0 then -i else i)) μ:=rfl
theorem nP (i j:Int)(μ Q):jW [.int i,.int j] μ Q=Q (.int (if j > i then j else i)) μ:=rfl
theorem oe (i j:Int)(μ Q):j5 [.int i,.int j] μ Q=Q (.int (if j < i then j else i)) μ:=rfl
theorem nr (i:Int)(μ Q):kK [.int i] μ Q=Q (.int i) μ:=rfl
theorem nZ (i:Bool)(μ Q):kK [.bl i] μ Q=Q (.int (if i then 1 else 0)) μ:=rfl
theorem mZ (i:List D)(μ Q):cN [.tup i] μ Q=Q (.int i.length) μ:=rfl
theorem nS (i:List D)(μ Q):cN [.ls i] μ Q=Q (.int i.length) μ:=rfl
local macro_rules | `(tactic| walk_at "rd")=>`(tactic| try simp only[ah,TC,ak,TUn,u3,za,rK,TB,ja,TOr,qS,qz,nV,au,af,dF,gq,mL,ao,cI,aD,oN,jJ,gn,cy,tm,eS,aq,aU,qr,oh,gv,cH,eW, 
  sJ,sQ,uC,rB,rD,ng,gI,n5,tK,oi,kC,pI,i4,lD,kT,lB,kA,lX,eQ,nk,iI,iX,ig,iu,iG,iQ,iH,gS,gO,TSl,ONo,jl,u0,rL,uq,rR,qX,uM,nW,ou,uF,rf,uW,iS,gW,gR,nX,nq,ow,nN,nD,nj,nY,oE,nO,rZ,sC,tP,uS,sF,u6,rJ,rS,ui,oT,oJ,oV,oQ,nP,oe,nr,nZ,mZ,nS,
  lk,ini,List.map,List.length,List.replicate,List.append,List.set,List.cons_append,List.nil_append,Nat.sub_self,Nat.reduceSub,Nat.reduceAdd,
  pk,pz,pM,pT,pF,pS,List.getElem?_cons_zero,List.getElem?_cons_succ,ax,Nat.reduceLT,Nat.reduceLeDiff,if_true,if_false,true_and,and_true,Bool.not_true,Bool.not_false,Nat.lt_add_one,Nat.zero_lt_succ,Nat.succ_lt_succ_iff,Nat.zero_lt_one,
  decide_eq_true_eq,Bool.false_eq_true,ite_false,ite_true,ne_eq,not_false_eq_true,Int.reduceToNat,Int.reducePow,Int.reduceNeg,Int.reduceSub,Int.reduceAdd,Int.reduceMul,Int.reduceEq,okD,bB,eqD,jz,Bool.and_self,Bool.and_true,Bool.true_and,dk,dH,dz,dD,du,dE,dA])
local macro_rules | `(tactic| walk_at "ok")=>`(tactic| (simp only[L3.gk,L3.MulOk,L3.S64,L3.eJ,L3.gX] at *;omega))
def Box (μ:Mu)(b:Addr):Prop:=∃ g s c:Int,μ b=some (.lst [.int g,.int s,.int c])∧0≤s∧s < 2147483647
structure gZ (b:Addr) (μ μ':Mu):Prop where
  box:Box μ' b
  oth:∀ a,a≠b→μ' a=μ a
theorem gZ.trans {b:Addr}{μ μ1 μ2:Mu}(x:gZ b μ μ1)(y:gZ b μ1 μ2):gZ b μ μ2:=⟨y.box,fun a h=>(y.oth a h).trans (x.oth a h)⟩
structure Fr (p q:Int):Prop where
  q0:0 < q
  q1:q < 100000000000
  p0:-100000000000 < p
  p1:p < 100000000000
  g:Int.gcd p q=1
theorem mB {a b:Int}(h:0 < b):a.fdiv b=a / b:=Int.fdiv_eq_ediv_of_nonneg a (Int.le_of_lt h)
theorem rN {ns:List Int}{k:Int}(h0:0≤k)(h1:k < (ns.length:Int)):∃ z,atD (ns.map D.int) k=some (.int z):=by
  rcases Int.eq_ofNat_of_zero_le h0 with ⟨j,rfl⟩
  rw[cu]
  have hj:j < ns.length:=by omega
  exact ⟨ns[j],by simp[hj]⟩
theorem g8 {lo:Int}{n:Nat}{d:D}(h:d∈cD lo n):∃ k:Int,d=.int k∧lo≤k∧k < lo+n:=by
  unfold cD at h
  rcases List.mem_map.mp h with ⟨i,hi,rfl⟩
  have:=List.mem_range.mp hi
  exact ⟨_,rfl,by omega,by omega⟩
def cj:FSp:=fun ds μ Q=>match ds with
  | [.ls xs]=>(∃ ns:List Int,xs=ns.map .int∧ns.length≤63)∧∀ μ',Q (.bl true) μ'
  | _=>False
theorem kW:∀ ds μ Q,cj ds μ Q→ds.length=1:=by
  unfold cj
  walk_at "ln"
theorem fQ (ns:List Int)(h:ns.length≤63)(μ:Mu):cj [.ls (ns.map .int)] μ (fun d _=>d=.bl true):=⟨⟨ns,rfl,h⟩,fun _=>rfl⟩
local macro_rules | `(tactic| walk_at "rd")=>`(tactic| try simp only[ah,TC,ak,TUn,u3,za,rK,TB,ja,TOr,qS,qz,nV,au,af,dF,gq,mL,ao,cI,aD,oN,jJ,gn,cy,tm,eS,aq,aU,qr,oh,gv,cH,eW,cJ,d7,c9,fN,AG,ILs,
  sJ,sQ,uC,rB,rD,ng,gI,n5,tK,oi,kC,pI,i4,lD,kT,lB,kA,lX,eQ,nk,iI,iX,ig,iu,iG,iQ,iH,gS,gO,TSl,ONo,jl,u0,rL,uq,rR,qX,uM,nW,ou,uF,rf,uW,iS,gW,gR,nX,nq,ow,nN,nD,nj,nY,oE,nO,rZ,sC,tP,uS,sF,u6,rJ,rS,ui,oT,oJ,oV,oQ,nP,oe,nr,nZ,mZ,nS,
  lk,ini,List.map,List.length,List.replicate,List.append,List.set,List.cons_append,List.nil_append,Nat.sub_self,Nat.reduceSub,Nat.reduceAdd,
  pk,pz,pM,pT,pF,pS,List.getElem?_cons_zero,List.getElem?_cons_succ,ax,ff,Nat.reduceLT,Nat.reduceLeDiff,if_true,if_false,true_and,and_true,Bool.not_true,Bool.not_false,Nat.lt_add_one,Nat.zero_lt_succ,Nat.succ_lt_succ_iff,Nat.zero_lt_one,
  decide_eq_true_eq,Bool.false_eq_true,ite_false,ite_true,ne_eq,not_false_eq_true,Int.reduceToNat,Int.reducePow,Int.reduceNeg,Int.reduceSub,Int.reduceAdd,Int.reduceMul,Int.reduceEq,okD,bB,eqD,jz,Bool.and_self,Bool.and_true,Bool.true_and,dk,dH,dz,dD,du,dE,dA])
structure IsPart (a b p q:Int):Prop where
  q0:0 < q
  g:Int.gcd p q=1
  e:p*b=a*q
  pa:p.natAbs≤a.natAbs
  qb:q.natAbs≤b.natAbs
structure FrB (lo hi p q:Int):Prop where
  q0:0 < q
  q1:q≤10000002
  g:Int.gcd p q=1
  ge:lo*q≤p
  le:p≤hi*q
structure FrA (lo hi p q:Int):Prop extends FrB lo hi p q where
  ab:lo*q < p
structure FrL (hi p q:Int):Prop extends FrB 0 hi p q where
  ab:0 < p
  be:p < hi*q
theorem jq:(Str.ofString "still" = Str.ofString "step")=False:=eq_false (by decide +kernel)
theorem i3:(Str.ofString "still" = Str.ofString "swell")=False:=eq_false (by decide +kernel)
theorem jh:(Str.ofString "still" = Str.ofString "heed")=False:=eq_false (by decide +kernel)
theorem jj:(Str.ofString "still" = Str.ofString "calm")=False:=eq_false (by decide +kernel)
theorem jg:(Str.ofString "step" = Str.ofString "still")=False:=eq_false (by decide +kernel)
theorem jA:(Str.ofString "step" = Str.ofString "swell")=False:=eq_false (by decide +kernel)
theorem kM:(Str.ofString "step" = Str.ofString "heed")=False:=eq_false (by decide +kernel)
theorem kx:(Str.ofString "step" = Str.ofString "calm")=False:=eq_false (by decide +kernel)
theorem gY:(Str.ofString "swell" = Str.ofString "still")=False:=eq_false (by decide +kernel)
theorem ju:(Str.ofString "swell" = Str.ofString "step")=False:=eq_false (by decide +kernel)
theorem js:(Str.ofString "swell" = Str.ofString "heed")=False:=eq_false (by decide +kernel)
theorem jf:(Str.ofString "swell" = Str.ofString "calm")=False:=eq_false (by decide +kernel)
theorem je:(Str.ofString "heed" = Str.ofString "still")=False:=eq_false (by decide +kernel)
theorem lN:(Str.ofString "heed" = Str.ofString "step")=False:=eq_false (by decide +kernel)
theorem jt:(Str.ofString "heed" = Str.ofString "swell")=False:=eq_false (by decide +kernel)
theorem ko:(Str.ofString "heed" = Str.ofString "calm")=False:=eq_false (by decide +kernel)
theorem jo:(Str.ofString "calm" = Str.ofString "still")=False:=eq_false (by decide +kernel)
theorem lH:(Str.ofString "calm" = Str.ofString "step")=False:=eq_false (by decide +kernel)
theorem jb:(Str.ofString "calm" = Str.ofString "swell")=False:=eq_false (by decide +kernel)
theorem kZ:(Str.ofString "calm" = Str.ofString "heed")=False:=eq_false (by decide +kernel)
theorem qu:PyData.strOk (Str.ofString "still")=true:=by decide +kernel
theorem uz:PyData.strOk (Str.ofString "step")=true:=by decide +kernel
theorem qw:PyData.strOk (Str.ofString "swell")=true:=by decide +kernel
theorem tO:PyData.strOk (Str.ofString "heed")=true:=by decide +kernel
theorem tY:PyData.strOk (Str.ofString "calm")=true:=by decide +kernel
abbrev fr (p q:Int):D:=.tup [.int p,.int q]
theorem bQ (i:Decidable (Str.ofString "still" = Str.ofString "step")):@decide (Str.ofString "still" = Str.ofString "step") i=false:=by cases i with | isTrue h=>exact absurd h (by rw[jq];exact not_false) | isFalse _=>rfl
theorem br (i:Decidable (Str.ofString "still" = Str.ofString "swell")):@decide (Str.ofString "still" = Str.ofString "swell") i=false:=by cases i with | isTrue h=>exact absurd h (by rw[i3];exact not_false) | isFalse _=>rfl
theorem bN (i:Decidable (Str.ofString "still" = Str.ofString "heed")):@decide (Str.ofString "still" = Str.ofString "heed") i=false:=by cases i with | isTrue h=>exact absurd h (by rw[jh];exact not_false) | isFalse _=>rfl
theorem bF (i:Decidable (Str.ofString "still" = Str.ofString "calm")):@decide (Str.ofString "still" = Str.ofString "calm") i=false:=by cases i with | isTrue h=>exact absurd h (by rw[jj];exact not_false) | isFalse _=>rfl
theorem bD (i:Decidable (Str.ofString "step" = Str.ofString "still")):@decide (Str.ofString "step" = Str.ofString "still") i=false:=by cases i with | isTrue h=>exact absurd h (by rw[jg];exact not_false) | isFalse _=>rfl
theorem bO (i:Decidable (Str.ofString "step" = Str.ofString "swell")):@decide (Str.ofString "step" = Str.ofString "swell") i=false:=by cases i with | isTrue h=>exact absurd h (by rw[jA];exact not_false) | isFalse _=>rfl
theorem bX (i:Decidable (Str.ofString "step" = Str.ofString "heed")):@decide (Str.ofString "step" = Str.ofString "heed") i=false:=by cases i with | isTrue h=>exact absurd h (by rw[kM];exact not_false) | isFalse _=>rfl
theorem b6 (i:Decidable (Str.ofString "step" = Str.ofString "calm")):@decide (Str.ofString "step" = Str.ofString "calm") i=false:=by cases i with | isTrue h=>exact absurd h (by rw[kx];exact not_false) | isFalse _=>rfl
theorem bw (i:Decidable (Str.ofString "swell" = Str.ofString "still")):@decide (Str.ofString "swell" = Str.ofString "still") i=false:=by cases i with | isTrue h=>exact absurd h (by rw[gY];exact not_false) | isFalse _=>rfl
theorem bL (i:Decidable (Str.ofString "swell" = Str.ofString "step")):@decide (Str.ofString "swell" = Str.ofString "step") i=false:=by cases i with | isTrue h=>exact absurd h (by rw[ju];exact not_false) | isFalse _=>rfl
theorem bP (i:Decidable (Str.ofString "swell" = Str.ofString "heed")):@decide (Str.ofString "swell" = Str.ofString "heed") i=false:=by cases i with | isTrue h=>exact absurd h (by rw[js];exact not_false) | isFalse _=>rfl
theorem bK (i:Decidable (Str.ofString "swell" = Str.ofString "calm")):@decide (Str.ofString "swell" = Str.ofString "calm") i=false:=by cases i with | isTrue h=>exact absurd h (by rw[jf];exact not_false) | isFalse _=>rfl
theorem bM (i:Decidable (Str.ofString "heed" = Str.ofString "still")):@decide (Str.ofString "heed" = Str.ofString "still") i=false:=by cases i with | isTrue h=>exact absurd h (by rw[je];exact not_false) | isFalse _=>rfl
theorem b8 (i:Decidable (Str.ofString "heed" = Str.ofString "step")):@decide (Str.ofString "heed" = Str.ofString "step") i=false:=by cases i with | isTrue h=>exact absurd h (by rw[lN];exact not_false) | isFalse _=>rfl
theorem bJ (i:Decidable (Str.ofString "heed" = Str.ofString "swell")):@decide (Str.ofString "heed" = Str.ofString "swell") i=false:=by cases i with | isTrue h=>exact absurd h (by rw[jt];exact not_false) | isFalse _=>rfl
theorem bY (i:Decidable (Str.ofString "heed" = Str.ofString "calm")):@decide (Str.ofString "heed" = Str.ofString "calm") i=false:=by cases i with | isTrue h=>exact absurd h (by rw[ko];exact not_false) | isFalse _=>rfl
theorem bH (i:Decidable (Str.ofString "calm" = Str.ofString "still")):@decide (Str.ofString "calm" = Str.ofString "still") i=false:=by cases i with | isTrue h=>exact absurd h (by rw[jo];exact not_false) | isFalse _=>rfl
theorem b4 (i:Decidable (Str.ofString "calm" = Str.ofString "step")):@decide (Str.ofString "calm" = Str.ofString "step") i=false:=by cases i with | isTrue h=>exact absurd h (by rw[lH];exact not_false) | isFalse _=>rfl
theorem bE (i:Decidable (Str.ofString "calm" = Str.ofString "swell")):@decide (Str.ofString "calm" = Str.ofString "swell") i=false:=by cases i with | isTrue h=>exact absurd h (by rw[jb];exact not_false) | isFalse _=>rfl
theorem b5 (i:Decidable (Str.ofString "calm" = Str.ofString "heed")):@decide (Str.ofString "calm" = Str.ofString "heed") i=false:=by cases i with | isTrue h=>exact absurd h (by rw[kZ];exact not_false) | isFalse _=>rfl
theorem fB (a:Str)(i:Decidable (a=a)):@decide (a=a) i=true:=by cases i with | isTrue _=>rfl | isFalse h=>exact absurd rfl h
def kLs (x:D)(f:List D→Prop):Prop:=match x with
  | .ls ds=>f ds
  | _=>False
def fw (sp:FSp)(ds:List D)(μ:Mu)(Q:DK):Prop:=sp ds μ Q
def LEN (ds:List D)(P:Prop):Prop:=ds.length≤1000000∧P
theorem yD (d:D)(r:ST)(μ:Mu)(Q:DK):ah 0 (some d::r) μ Q=Q d μ:=propext Iff.rfl
theorem vC (x0:Option D)(r:ST)(d:D)(μ:Mu)(k:ST→Mu→Prop):aq 0 d (x0::r) μ k=k (some d::r) μ:=propext Iff.rfl
theorem zF (x0:Option D)(d:D)(r:ST)(μ:Mu)(Q:DK):ah 1 (x0::some d::r) μ Q=Q d μ:=propext Iff.rfl
theorem vH (x0 x1:Option D)(r:ST)(d:D)(μ:Mu)(k:ST→Mu→Prop):aq 1 d (x0::x1::r) μ k=k (x0::some d::r) μ:=propext Iff.rfl
theorem Af (x0 x1:Option D)(d:D)(r:ST)(μ:Mu)(Q:DK):ah 2 (x0::x1::some d::r) μ Q=Q d μ:=propext Iff.rfl
theorem vg (x0 x1 x2:Option D)(r:ST)(d:D)(μ:Mu)(k:ST→Mu→Prop):aq 2 d (x0::x1::x2::r) μ k=k (x0::x1::some d::r) μ:=propext Iff.rfl
theorem z6 (x0 x1 x2:Option D)(d:D)(r:ST)(μ:Mu)(Q:DK):ah 3 (x0::x1::x2::some d::r) μ Q=Q d μ:=propext Iff.rfl
theorem vX (x0 x1 x2 x3:Option D)(r:ST)(d:D)(μ:Mu)(k:ST→Mu→Prop):aq 3 d (x0::x1::x2::x3::r) μ k=k (x0::x1::x2::some d::r) μ:=propext Iff.rfl
theorem yz (x0 x1 x2 x3:Option D)(d:D)(r:ST)(μ:Mu)(Q:DK):ah 4 (x0::x1::x2::x3::some d::r) μ Q=Q d μ:=propext Iff.rfl
theorem wy (x0 x1 x2 x3 x4:Option D)(r:ST)(d:D)(μ:Mu)(k:ST→Mu→Prop):aq 4 d (x0::x1::x2::x3::x4::r) μ k=k (x0::x1::x2::x3::some d::r) μ:=propext Iff.rfl
theorem Ai (x0 x1 x2 x3 x4:Option D)(d:D)(r:ST)(μ:Mu)(Q:DK):ah 5 (x0::x1::x2::x3::x4::some d::r) μ Q=Q d μ:=propext Iff.rfl
theorem wZ (x0 x1 x2 x3 x4 x5:Option D)(r:ST)(d:D)(μ:Mu)(k:ST→Mu→Prop):aq 5 d (x0::x1::x2::x3::x4::x5::r) μ k=k (x0::x1::x2::x3::x4::some d::r) μ:=propext Iff.rfl
theorem yk (x0 x1 x2 x3 x4 x5:Option D)(d:D)(r:ST)(μ:Mu)(Q:DK):ah 6 (x0::x1::x2::x3::x4::x5::some d::r) μ Q=Q d μ:=propext Iff.rfl
theorem wO (x0 x1 x2 x3 x4 x5 x6:Option D)(r:ST)(d:D)(μ:Mu)(k:ST→Mu→Prop):aq 6 d (x0::x1::x2::x3::x4::x5::x6::r) μ k=k (x0::x1::x2::x3::x4::x5::some d::r) μ:=propext Iff.rfl
theorem zr (x0 x1 x2 x3 x4 x5 x6:Option D)(d:D)(r:ST)(μ:Mu)(Q:DK):ah 7 (x0::x1::x2::x3::x4::x5::x6::some d::r) μ Q=Q d μ:=propext Iff.rfl
theorem w8 (x0 x1 x2 x3 x4 x5 x6 x7:Option D)(r:ST)(d:D)(μ:Mu)(k:ST→Mu→Prop):aq 7 d (x0::x1::x2::x3::x4::x5::x6::x7::r) μ k=k (x0::x1::x2::x3::x4::x5::x6::some d::r) μ:=propext Iff.rfl
theorem zL (x0 x1 x2 x3 x4 x5 x6 x7:Option D)(d:D)(r:ST)(μ:Mu)(Q:DK):ah 8 (x0::x1::x2::x3::x4::x5::x6::x7::some d::r) μ Q=Q d μ:=propext Iff.rfl
theorem vx (x0 x1 x2 x3 x4 x5 x6 x7 x8:Option D)(r:ST)(d:D)(μ:Mu)(k:ST→Mu→Prop):aq 8 d (x0::x1::x2::x3::x4::x5::x6::x7::x8::r) μ k=k (x0::x1::x2::x3::x4::x5::x6::x7::some d::r) μ:=propext Iff.rfl
theorem zQ (x0 x1 x2 x3 x4 x5 x6 x7 x8:Option D)(d:D)(r:ST)(μ:Mu)(Q:DK):ah 9 (x0::x1::x2::x3::x4::x5::x6::x7::x8::some d::r) μ Q=Q d μ:=propext Iff.rfl
theorem vQ (x0 x1 x2 x3 x4 x5 x6 x7 x8 x9:Option D)(r:ST)(d:D)(μ:Mu)(k:ST→Mu→Prop):aq 9 d (x0::x1::x2::x3::x4::x5::x6::x7::x8::x9::r) μ k=k (x0::x1::x2::x3::x4::x5::x6::x7::x8::some d::r) μ:=propext Iff.rfl
theorem xt (x0 x1 x2 x3 x4 x5 x6 x7 x8 x9:Option D)(d:D)(r:ST)(μ:Mu)(Q:DK):ah 10 (x0::x1::x2::x3::x4::x5::x6::x7::x8::x9::some d::r) μ Q=Q d μ:=propext Iff.rfl
theorem uZ (x0 x1 x2 x3 x4 x5 x6 x7 x8 x9 x10:Option D)(r:ST)(d:D)(μ:Mu)(k:ST→Mu→Prop):aq 10 d (x0::x1::x2::x3::x4::x5::x6::x7::x8::x9::x10::r) μ k=k (x0::x1::x2::x3::x4::x5::x6::x7::x8::x9::some d::r) μ:=propext Iff.rfl
theorem wu (x0 x1 x2 x3 x4 x5 x6 x7 x8 x9 x10:Option D)(d:D)(r:ST)(μ:Mu)(Q:DK):ah 11 (x0::x1::x2::x3::x4::x5::x6::x7::x8::x9::x10::some d::r) μ Q=Q d μ:=propext Iff.rfl
theorem tU (x0 x1 x2 x3 x4 x5 x6 x7 x8 x9 x10 x11:Option D)(r:ST)(d:D)(μ:Mu)(k:ST→Mu→Prop):aq 11 d (x0::x1::x2::x3::x4::x5::x6::x7::x8::x9::x10::x11::r) μ k=k (x0::x1::x2::x3::x4::x5::x6::x7::x8::x9::x10::some d::r) μ:=propext Iff.rfl
theorem BJ (d:D)(ρ:ST)(μ:Mu)(Q:DK):TC d ρ μ Q=Q d μ:=propext Iff.rfl
theorem An (r:DR2)(a b:ETr)(ρ:ST)(μ:Mu)(Q:DK):ak r a b ρ μ Q=a ρ μ fun x μ1=>b ρ μ1 fun y μ2=>r x y μ2 Q:=propext Iff.rfl
theorem BM (t:ETr)(ρ:ST)(μ:Mu)(Q:Bool→Mu→Prop):TB t ρ μ Q=t ρ μ fun x μ1=>kB x fun c=>Q c μ1:=propext Iff.rfl
theorem yY (t u:TTr)(ρ:ST)(μ:Mu)(Q:Bool→Mu→Prop):ja t u ρ μ Q=t ρ μ fun c μ1=>kIf c (u ρ μ1 Q) (Q false μ1):=propext Iff.rfl
theorem AY (t u:TTr)(ρ:ST)(μ:Mu)(Q:Bool→Mu→Prop):TOr t u ρ μ Q=t ρ μ fun c μ1=>kIf c (Q true μ1) (u ρ μ1 Q):=propext Iff.rfl
theorem yf (t:TTr)(ρ:ST)(μ:Mu)(Q:Bool→Mu→Prop):qS t ρ μ Q=t ρ μ fun c μ1=>Q (!c) μ1:=propext Iff.rfl
theorem zA (c:TTr)(a b:ETr)(ρ:ST)(μ:Mu)(Q:DK):qz c a b ρ μ Q=c ρ μ fun k μ1=>kIf k (a ρ μ1 Q) (b ρ μ1 Q):=propext Iff.rfl
theorem zz (ρ:ST)(μ:Mu)(Q:List D→Mu→Prop):au ρ μ Q=Q [] μ:=propext Iff.rfl
theorem wC (a:ETr)(r:ATr)(ρ:ST)(μ:Mu)(Q:List D→Mu→Prop):af a r ρ μ Q=a ρ μ fun x μ1=>r ρ μ1 fun xs μ2=>Q (x::xs) μ2:=propext Iff.rfl
theorem zt (t:ATr)(ρ:ST)(μ:Mu)(Q:DK):dF t ρ μ Q=t ρ μ fun ds μ1=>LEN ds (Q (.tup ds) μ1):=propext Iff.rfl
theorem y8 (t:ATr)(ρ:ST)(μ:Mu)(Q:DK):gq t ρ μ Q=t ρ μ fun ds μ1=>LEN ds (Q (.ls ds) μ1):=propext Iff.rfl
theorem zh (t:ATr)(ρ:ST)(μ:Mu)(Q:DK):mL t ρ μ Q=t ρ μ fun ds μ1=>LEN ds (∀ p,μ1 p=none→Q (.obj p) (up μ1 p (.lst ds))):=propext Iff.rfl
theorem wz (sp:FSp)(t:ATr)(ρ:ST)(μ:Mu)(Q:DK):ao sp t ρ μ Q=t ρ μ fun ds μ1=>fw sp ds μ1 Q:=propext Iff.rfl
theorem vM (nx:ST→Mu→Prop)(rt:DK)(bk ct:ST→Mu→Prop)(ρ:ST)(μ:Mu):cI ⟨nx,rt,bk,ct⟩ ρ μ=nx ρ μ:=propext Iff.rfl
theorem yl (t u:STr)(nx:ST→Mu→Prop)(rt:DK)(bk ct:ST→Mu→Prop)(ρ:ST)(μ:Mu):aD t u ⟨nx,rt,bk,ct⟩ ρ μ=t ⟨u ⟨nx,rt,bk,ct⟩,rt,bk,ct⟩ ρ μ:=propext Iff.rfl
theorem vW (nx:ST→Mu→Prop)(rt:DK)(bk ct:ST→Mu→Prop)(ρ:ST)(μ:Mu):jJ ⟨nx,rt,bk,ct⟩ ρ μ=ct ρ μ:=propext Iff.rfl
theorem wg (e:ETr)(nx:ST→Mu→Prop)(rt:DK)(bk ct:ST→Mu→Prop)(ρ:ST)(μ:Mu):gn e ⟨nx,rt,bk,ct⟩ ρ μ=e ρ μ fun _ μ1=>nx ρ μ1:=propext Iff.rfl
theorem zC (e:ETr)(nx:ST→Mu→Prop)(rt:DK)(bk ct:ST→Mu→Prop)(ρ:ST)(μ:Mu):cy e ⟨nx,rt,bk,ct⟩ ρ μ=e ρ μ rt:=propext Iff.rfl
theorem Ag (c:TTr)(t u:STr)(nx:ST→Mu→Prop)(rt:DK)(bk ct:ST→Mu→Prop)(ρ:ST)(μ:Mu):eS c t u ⟨nx,rt,bk,ct⟩ ρ μ=c ρ μ fun b μ1=>kIf b (t ⟨nx,rt,bk,ct⟩ ρ μ1) (u ⟨nx,rt,bk,ct⟩ ρ μ1):=propext Iff.rfl
theorem Aj (e:ETr)(g:GTr)(nx:ST→Mu→Prop)(rt:DK)(bk ct:ST→Mu→Prop)(ρ:ST)(μ:Mu):aU e g ⟨nx,rt,bk,ct⟩ ρ μ=e ρ μ fun d μ1=>g d ρ μ1 nx:=propext Iff.rfl
theorem yS (i j:Nat)(a:ATr)(nx:ST→Mu→Prop)(rt:DK)(bk ct:ST→Mu→Prop)(ρ:ST)(μ:Mu):qr i j a ⟨nx,rt,bk,ct⟩ ρ μ=a ρ μ fun ds μ1=>k2 ds fun v w=>aq i v ρ μ1 fun ρ2 μ2=>aq j w ρ2 μ2 nx:=propext Iff.rfl
theorem yi (it:ATr)(g:GTr)(b:STr)(nx:ST→Mu→Prop)(rt:DK)(bk ct:ST→Mu→Prop)(ρ:ST)(μ:Mu):gv it g b ⟨nx,rt,bk,ct⟩ ρ μ=it ρ μ fun ds μ1=>forR g b ⟨nx,rt,bk,ct⟩ ds ρ μ1:=propext Iff.rfl
theorem qm (a:ETr)(ρ:ST)(μ:Mu)(Q:List D→Mu→Prop):cH a ρ μ Q=a ρ μ fun x μ1=>kI x fun j=>(-4611686018427387904≤j∧j < 4611686018427387904)∧Q (cD 0 j.toNat) μ1:=propext Iff.rfl
theorem gM (a:ETr)(ρ:ST)(μ:Mu)(Q:List D→Mu→Prop):Br (af a au) ρ μ Q=a ρ μ fun x μ1=>kLs x fun ds=>Q (gd ds) μ1:=propext (Iff.of_eq (congrArg (a ρ μ) (funext fun x=>funext fun μ1=>by cases x<;>rfl)))
theorem ya (a:ETr)(ρ:ST)(μ:Mu)(Q:DK):nk a ρ μ Q=a ρ μ fun x μ1=>kObj x fun b=>kL μ1 b fun ds=>Q (.ls ds) (dn μ1 b):=propext Iff.rfl
theorem yy (To Te:ETr)(ρ:ST)(μ:Mu)(Q:DK):lX To Te ρ μ Q=To ρ μ fun x μ1=>kObj x fun a=>kL μ1 a fun _=>Te ρ μ1 fun y μ2=>kL μ2 a fun ds=>ds.length < 1000000∧Q .non (up μ2 a (.lst (ds++[y]))):=propext Iff.rfl
theorem A8 (a:ETr)(lo hi:OTr)(ρ:ST)(μ:Mu)(Q:DK):TSl a lo hi ρ μ Q=a ρ μ fun x μ1=>lo ρ μ1 fun l μ2=>hi ρ μ2 fun h μ3=>rSl x l h μ3 Q:=propext Iff.rfl
theorem Bq (ρ:ST)(μ:Mu)(Q:Option Int→Mu→Prop):ONo ρ μ Q=Q none μ:=propext Iff.rfl
theorem yE (T:ETr)(ρ:ST)(μ:Mu)(Q:Option Int→Mu→Prop):jl T ρ μ Q=T ρ μ fun x μ1=>kI x fun i=>Q (some i) μ1:=propext Iff.rfl
theorem yH (i0 i1:Nat)(d0 d1:D)(ρ:ST)(μ:Mu)(k:ST→Mu→Prop):gA [i0,i1] (.tup [d0,d1]) ρ μ k=aq i0 d0 ρ μ fun ρ1 _=>aq i1 d1 ρ1 μ fun ρ2 _=>k ρ2 μ:=by simp[gA,fS,aq]
theorem zp (i0 i1 i2:Nat)(d0 d1 d2:D)(ρ:ST)(μ:Mu)(k:ST→Mu→Prop):gA [i0,i1,i2] (.tup [d0,d1,d2]) ρ μ k=aq i0 d0 ρ μ fun ρ1 _=>aq i1 d1 ρ1 μ fun ρ2 _=>aq i2 d2 ρ2 μ fun ρ3 _=>k ρ3 μ:=by simp[gA,fS,aq]
theorem A3 (P:Prop):LEN [] P=P:=by simp[LEN]
theorem Bb (x0:D)(P:Prop):LEN [x0] P=P:=by simp[LEN]
theorem AI (x0 x1:D)(P:Prop):LEN [x0,x1] P=P:=by simp[LEN]
theorem A2 (x0 x1 x2:D)(P:Prop):LEN [x0,x1,x2] P=P:=by simp[LEN]
theorem Ax (x0 x1 x2 x3:D)(P:Prop):LEN [x0,x1,x2,x3] P=P:=by simp[LEN]
theorem BD (x0 x1 x2 x3 x4:D)(P:Prop):LEN [x0,x1,x2,x3,x4] P=P:=by simp[LEN]
theorem zP (i j:Str)(μ:Mu)(Q:DK):L3.rEq (.str i) (.str j) μ Q=((PyData.strOk i=true∧PyData.strOk j=true)∧Q (.bl (decide (i=j))) μ):=by simp[L3.rEq,okD,eqD]
theorem zd (i:Int)(μ:Mu)(Q:DK):fw p9 [.int i] μ Q=Q (.int (if i < 0 then -i else i)) μ:=propext Iff.rfl
theorem y6 (i j:Int)(μ:Mu)(Q:DK):fw jW [.int i,.int j] μ Q=Q (.int (max i j)) μ:=by show Q (.int (if j > i then j else i)) μ=_;congr 2;omega
theorem zB (i j:Int)(μ:Mu)(Q:DK):fw j5 [.int i,.int j] μ Q=Q (.int (min i j)) μ:=by show Q (.int (if j < i then j else i)) μ=_;congr 2;omega
theorem y1 (i:Bool)(μ:Mu)(Q:DK):fw kK [.bl i] μ Q=Q (.int (if i then 1 else 0)) μ:=propext Iff.rfl
theorem um (a:List D)(μ:Mu)(Q:DK):fw bU [.tup a] μ Q=Q (.tup a) μ:=propext Iff.rfl
theorem uG (a:List D)(μ:Mu)(Q:DK):fw bU [.ls a] μ Q=Q (.tup a) μ:=propext Iff.rfl
theorem u7 (a:Addr)(μ:Mu)(Q:DK):fw bU [.obj a] μ Q=kL μ a fun xs=>Q (.tup xs) μ:=propext Iff.rfl
theorem uc (a:List D)(μ:Mu)(Q:DK):fw eh [.ls a] μ Q=Q (.ls a) μ:=propext Iff.rfl
theorem uD (a:List D)(μ:Mu)(Q:DK):fw eT [.tup a] μ Q = ∀ p,μ p=none→Q (.obj p) (up μ p (.lst a)):=propext Iff.rfl
theorem yR (a:Addr)(μ:Mu)(Q:DK):fw cN [.obj a] μ Q=kL μ a fun xs=>Q (.int xs.length) μ:=propext Iff.rfl
theorem lG (a:List D)(μ:Mu)(Q:DK):fw cN [.tup a] μ Q=Q (.int a.length) μ:=propext Iff.rfl
theorem kn (a:List D)(μ:Mu)(Q:DK):fw cN [.ls a] μ Q=Q (.int a.length) μ:=propext Iff.rfl
theorem xq (n:Nat)(i:Int):okD n (.int i)=true:=by cases n<;>simp[okD]
theorem uR (n:Nat)(x:Str):okD n (.str x)=PyData.strOk x:=by cases n<;>simp[okD]
theorem ee (n:Nat)(d:D)(r:List D):bB n (d::r)=(okD n d&&bB n r):=by simp[bB]
theorem pE (i j:Int):eqD (.int i) (.int j)=decide (i=j):=by simp[eqD]
theorem jZ (i j:Str):eqD (.str i) (.str j)=decide (i=j):=by simp[eqD]
theorem wU (A B:Prop):kIf true A B=A:=propext Iff.rfl
theorem xf (A B:Prop):kIf false A B=B:=propext Iff.rfl
theorem wD (c:Bool)(f):kB (.bl c) f=f c:=propext Iff.rfl
theorem sj (c:Int)(f):kI (.int c) f=f c:=propext Iff.rfl
theorem qC (c:D)(f):kO (some c) f=f c:=propext Iff.rfl
theorem tw (c:List D)(f):kS (.tup c) f=f c:=propext Iff.rfl
theorem wG (c:List D)(f):kS (.ls c) f=f c:=propext Iff.rfl
theorem uf (a b:D)(f):k2 [a,b] f=f a b:=propext Iff.rfl
theorem qU (c:Nat)(f):kN (some c) f=f c:=propext Iff.rfl
theorem qP (i j:Int)(μ Q):aO (.int i) (.int j) μ Q=Q (.int (i+j)) μ:=propext Iff.rfl
theorem qF (a b:List D)(μ Q):aO (.tup a) (.tup b) μ Q=(a.length+b.length≤1000000∧Q (.tup (a++b)) μ):=propext Iff.rfl
theorem qf (a b:List D)(μ Q):aO (.ls a) (.ls b) μ Q=(a.length+b.length≤1000000∧Q (.ls (a++b)) μ):=propext Iff.rfl
theorem ub (i j:Int)(μ Q):mO (.int i) (.int j) μ Q=Q (.int (i - j)) μ:=propext Iff.rfl
theorem rF (i j:Int)(μ Q):fL (.int i) (.int j) μ Q=(MulOk i j∧Q (.int (i*j)) μ):=propext Iff.rfl
theorem sO (i j:Int)(μ Q):kd (.int i) (.int j) μ Q=(gk j∧Q (.int (i.fdiv j)) μ):=propext Iff.rfl
theorem sZ (i j:Int)(μ Q):fG (.int i) (.int j) μ Q=(j≠0∧Q (.int (i.fmod j)) μ):=propext Iff.rfl
theorem tf (i j:Int)(μ Q):uv (.int i) (.int j) μ Q=(gX i j∧Q (.int (i ^ j.toNat)) μ):=propext Iff.rfl
theorem wM (i j:Int)(μ Q):rLt (.int i) (.int j) μ Q=Q (.bl (decide (i < j))) μ:=propext Iff.rfl
theorem vj (i j:Int)(μ Q):rGt (.int i) (.int j) μ Q=Q (.bl (decide (j < i))) μ:=propext Iff.rfl
theorem vU (i j:Int)(μ Q):rGe (.int i) (.int j) μ Q=Q (.bl (decide (j≤i))) μ:=propext Iff.rfl
theorem xi (a:List D)(lo hi)(μ Q):rSl (.tup a) lo hi μ Q=Q (.tup (cutD a lo hi)) μ:=propext Iff.rfl
theorem gE (ds:List D)(i:Int)(μ Q):L3.rIx (.tup ds) (.int i) μ Q=kO (atD ds i) fun d=>Q d μ:=propext Iff.rfl
theorem gL (ds:List D)(i:Int)(μ Q):L3.rIx (.ls ds) (.int i) μ Q=kO (atD ds i) fun d=>Q d μ:=propext Iff.rfl
theorem gH (x y:D)(μ Q):L3.rEq x y μ Q=((okD 40 x=true∧okD 40 y=true)∧Q (.bl (eqD x y)) μ):=propext Iff.rfl
theorem gF (x y:D)(μ Q):L3.rNe x y μ Q=((okD 40 x=true∧okD 40 y=true)∧Q (.bl (!eqD x y)) μ):=propext Iff.rfl
theorem kif {p:Prop} [Decidable p] {A B:Prop}(h1:p→A)(h2:¬ p→B):kIf (decide p) A B:=by
  by_cases h:p
  · rw[decide_eq_true h];exact h1 h
  · rw[decide_eq_false h];exact h2 h
theorem As {p:Prop} [Decidable p] {A B:Prop}(h1:¬ p→A)(h2:p→B):kIf (!decide p) A B:=by
  by_cases h:p
  · rw[decide_eq_true h];exact h2 h
  · rw[decide_eq_false h];exact h1 h
theorem AA {p:Prop} [Decidable p] {A B:Prop}(h:p)(hA:A):kIf (decide p) A B:=by rw[decide_eq_true h];exact hA
theorem Bf {c:Bool}{A B:Prop}(h1:c=true→A)(h2:c=false→B):kIf c A B:=by
  cases c
  · exact h2 rfl
  · exact h1 rfl
theorem BA {o:Option D}{d:D}{f:D→Prop}(e:o=some d)(h:f d):kO o f:=by rw[e];exact h
theorem bf {μ:Mu}{a:Addr}{ds:List D}{f:List D→Prop}(e:μ a=some (.lst ds))(h:f ds):kL μ a f:=by rw[Bz e];exact h
section
open PySem PySem.Spec PyProof.Rows L2
def xD (kvs:List (Str×D))(s:Str):Option D:=(kvs.find? fun kv=>decide (kv.1=s)).map (·.2)
def o9 (K:PySem.W.Frag):List DictEntry→List (Str×D)→Prop
  | [],[]=>True
  | e::es,(x,d)::r=>(∃ t,e.key=.str x t)∧(∃ v,RelV v e.val∧∀ H,Dp K H v d)∧o9 K es r
  | _,_=>False
theorem mC (s x:Str)(t:Tok):Value.isStrOf s (.str x t)=decide (x=s):=by
  by_cases h:x=s
  · subst h;simp[Value.isStrOf]
  · rw[decide_eq_false h];simp[Value.isStrOf];first | exact h | exact fun z=>h z.symm
theorem o9.find {K:PySem.W.Frag}(s:Str):∀ {es:List DictEntry} {kvs:List (Str×D)},o9 K es kvs→
    match xD kvs s with
    | none=>(es.find? fun e=>Value.isStrOf s e.key)=none
    | some d=>∃ e v,(es.find? fun e=>Value.isStrOf s e.key)=some e∧RelV v e.val∧∀ H,Dp K H v d
  | [],[],_=>rfl
  | e::es,(x,d)::r,h=>by
    obtain ⟨⟨t,ht⟩,⟨v,rv,pv⟩,hr⟩:=h
    have ih:=o9.find s hr
    unfold xD at ih ⊢
    rw[List.find?_cons,List.find?_cons,ht,mC]
    by_cases hx:x=s
    · simp only[decide_eq_true hx,Option.map_some]
      exact ⟨e,v,rfl,rv,pv⟩
    · simp only[decide_eq_false hx]
      exact ih
  | [],_::_,h=>False.elim h
  | _::_,[],h=>False.elim h
section
variable {X:Cx} {a b c e:Expr} {Ta Tb Te:ETr} {pos gpos:Pos} {x:Str} {kvs:List (Str×D)}
end
section
variable {X:Cx} {a b:Expr} {Ta Tb:ETr} {pos:Pos}
end
end
section
open PySem PySem.Spec PyProof.Rows L2
def aL (kvs:List (Key×D))(k:Key):Option D:=(kvs.find? fun kv=>decide (kv.1=k)).map (·.2)
def putD (kvs:List (Key×D))(k:Key)(v:D):List (Key×D):=
  if (kvs.any fun kv=>decide (kv.1=k))=true then kvs.map (fun kv=>if kv.1=k then (kv.1,v) else kv) else kvs++[(k,v)]
def mE (x:D)(f:Key→Prop):Prop:=match x with
  | .int i=>f (.inl i)
  | .str s=>f (.inr s)
  | _=>False
theorem DpK.nil {K:PySem.W.Frag}{H:Hp}:DpK K H [] []:=⟨rfl,.nil⟩
theorem DpK.cons {K:PySem.W.Frag}{H:Hp}{k:Key}{v:V}{d:D}{xs:List (Key×V)}{kvs:List (Key×D)}(h:Dp K H v d)(r:DpK K H xs kvs):DpK K H ((k,v)::xs) ((k,d)::kvs):=
  ⟨by simp[r.1],.cons h r.2⟩
theorem DpK.ind {K:PySem.W.Frag}{H:Hp}{P:List (Key×V)→List (Key×D)→Prop}(h0:P [] [])(h1:∀ k v d xs kvs,Dp K H v d→DpK K H xs kvs→P xs kvs→P ((k,v)::xs) ((k,d)::kvs)) :
    ∀ {xs:List (Key×V)} {kvs:List (Key×D)},DpK K H xs kvs→P xs kvs
  | [],[],_=>h0
  | [],_::_,h=>by cases h.1
  | _::_,[],h=>by cases h.1
  | (k,v)::xs,(k',d)::kvs,h=>by
    obtain ⟨h2,h3⟩:=h
    simp only[List.map_cons,List.cons.injEq] at h2
    obtain ⟨rfl,h2⟩:=h2
    cases h3 with
    | cons p l=>exact h1 k v d xs kvs p ⟨h2,l⟩ (DpK.ind h0 h1 ⟨h2,l⟩)
theorem DpK.look {K:PySem.W.Frag}{H:Hp}{xs:List (Key×V)}{kvs:List (Key×D)}(h:DpK K H xs kvs)(k:Key) :
    (aL kvs k=none∧cX xs k=none)∨∃ v d,aL kvs k=some d∧cX xs k=some v∧Dp K H v d:=by
  refine DpK.ind (P:=fun xs kvs=>(aL kvs k=none∧cX xs k=none)∨∃ v d,aL kvs k=some d∧cX xs k=some v∧Dp K H v d) (.inl ⟨rfl,rfl⟩) (fun j v d xs kvs p _ ih=>?_) h
  by_cases e:j=k
  · refine .inr ⟨v,d,?_,e7 (p:=(j,v)) e,p⟩
    unfold aL;rw[List.find?_cons];simp[e]
  · have e1:aL ((j,d)::kvs) k=aL kvs k:=by unfold aL;rw[List.find?_cons];simp[e]
    rw[e1,fu (p:=(j,v)) e]
    exact ih
theorem DpK.any {K:PySem.W.Frag}{H:Hp}{xs:List (Key×V)}{kvs:List (Key×D)}(h:DpK K H xs kvs)(k:Key):(xs.any fun kv=>decide (kv.1=k))=kvs.any fun kv=>decide (kv.1=k):=by
  refine DpK.ind (P:=fun xs kvs=>(xs.any fun kv=>decide (kv.1=k))=kvs.any fun kv=>decide (kv.1=k)) rfl (fun j v d xs kvs p _ ih=>?_) h
  rw[List.any_cons,List.any_cons,ih]
theorem DpK.put {K:PySem.W.Frag}{H:Hp}{xs:List (Key×V)}{kvs:List (Key×D)}(h:DpK K H xs kvs)(k:Key){v:V}{d:D}(p:Dp K H v d):DpK K H (putK xs k v) (putD kvs k d):=by
  unfold putK putD
  rw[h.any k]
  split
  · refine DpK.ind (P:=fun xs kvs=>DpK K H (xs.map fun kv=>if kv.1=k then (kv.1,v) else kv) (kvs.map fun kv=>if kv.1=k then (kv.1,d) else kv)) .nil (fun j v' d' xs kvs p' _ ih=>?_) h
    rw[List.map_cons,List.map_cons]
    by_cases e:j=k
    · rw[if_pos e,if_pos e];exact .cons p ih
    · rw[if_neg e,if_neg e];exact .cons p' ih
  · refine DpK.ind (P:=fun xs kvs=>DpK K H (xs++[(k,v)]) (kvs++[(k,d)])) (.cons p .nil) (fun j v' d' xs kvs p' _ ih=>?_) h
    exact .cons p' ih
theorem DpK.length {K:PySem.W.Frag}{H:Hp}{xs:List (Key×V)}{kvs:List (Key×D)}(h:DpK K H xs kvs):xs.length=kvs.length:=by
  have:=h.2.length
  simpa using this
theorem ij {K:PySem.W.Frag}{H:Hp}{y:V}{dy:D}{f:Key→Prop}(p:Dp K H y dy)(h:mE dy f):∃ k,y=kV k∧f k:=by
  cases p with
  | int i=>exact ⟨.inl i,rfl,h⟩
  | str s=>exact ⟨.inr s,rfl,h⟩
  | _=>exact False.elim h
theorem d8 {K:PySem.W.Frag}{H:Hp}{x:V}{dx:D}{f:Addr→Prop}(p:Dp K H x dx)(h:kObj dx f):∃ a,x=.ref a∧f a:=by
  cases p with
  | obj a=>exact ⟨a,rfl,h⟩
  | _=>exact False.elim h
theorem i5 {H:Hp}{q:Addr}{u:HO}{xs:List (Key×V)}(ex:H q=some (.dK xs)):Tk H (L2.upd H q u):=
  .upd (fun ys z=>by rw[ex] at z;cases z) fun o' w z=>by rw[ex] at z;cases z
theorem nM {K:PySem.W.Frag}{H:Hp}{μ:Mu}{q:Addr}{xs ys:List (Key×V)}{ds:List (Key×D)}(m:aV K H μ)(ex:H q=some (.dK xs))(l:DpK K H ys ds):aV K (L2.upd H q (.dK ys)) (up μ q (.dct ds)):=fun z y ez=>by
  by_cases zq:z=q
  · subst zq
    rw[ax] at ez;cases ez
    exact ⟨ys,az,l.mono (i5 ex)⟩
  · rw[aJ zq] at ez
    exact (m z _ ez).ne (i5 ex) zq
theorem pw {K:PySem.W.Frag}{H:Hp}{μ:Mu}{q:Addr}{ys:List (Key×V)}{ds:List (Key×D)}(m:aV K H μ)(hq:H q=none)(l:DpK K H ys ds):aV K (L2.upd H q (.dK ys)) (up μ q (.dct ds)):=fun z y ez=>by
  by_cases zq:z=q
  · subst zq
    rw[ax] at ez;cases ez
    exact ⟨ys,az,l.mono (.new hq)⟩
  · rw[aJ zq] at ez
    exact bS m hq z y ez
section
variable {X:Cx} {o i a b c e value:Expr} {To Ti Ta Tb Te:ETr} {pos tpos:Pos}
theorem hu1 (hu:X.A.units+64 < cLine):X.A.units+1 < cLine:=by omega
def aK (To Ti:ETr):ETr:=fun ρ μ Q=>To ρ μ fun x μ1=>Ti ρ μ1 fun y μ2=>kObj x fun a=>kD μ2 a fun kvs=>mE y fun k=>kO (aL kvs k) fun d=>Q d μ2
theorem a7 (hu:X.A.units+64 < cLine)(ho:LE X o To)(hi:LE X i Ti)(hs:zc i:=by intro _ _;rfl):LE X (.Subscript o i pos) (aK To Ti):=by
  obtain ⟨to,po,so⟩:=ho.ex
  obtain ⟨ti,pi,si⟩:=hi.ex
  refine ⟨_,vp (hu1 hu) po pi hs,fun σ H ρ μ Q Q' rl h k=>so σ H ρ μ _ _ rl h fun x H1 dx μ1 t1 m1 p1 h1=>si σ H1 ρ μ1 _ _ (rl.go t1 m1) h1 fun y H2 dy μ2 t2 m2 p2 h2=>?_⟩
  obtain ⟨q,rfl,h2⟩:=d8 p1 h2
  obtain ⟨kvs,e0,h2⟩:=fF h2
  obtain ⟨kk,rfl,h2⟩:=ij p2 h2
  obtain ⟨d,e1,h2⟩:=fE h2
  obtain ⟨xs,ex,l⟩:=m2 q _ e0
  rcases l.look kk with ⟨z,_⟩ | ⟨v,d',z,ev,pv⟩
  · rw[z] at e1;cases e1
  · rw[z] at e1;cases e1
    exact ⟨q,v,rfl,by rw[← ev];exact ji.k ex,k _ H2 _ μ2 (t1.trans t2) m2 pv h2⟩
def dP (To Ti Te:ETr):STr:=fun E ρ μ=>Te ρ μ fun v μ1=>To ρ μ1 fun x μ2=>Ti ρ μ2 fun y μ3=>kObj x fun a=>kD μ3 a fun kvs=>mE y fun k=>kvs.length < 1000000∧E.nx ρ (up μ3 a (.dct (putD kvs k v)))
theorem fo (hu:X.A.units+64 < cLine)(ho:LE X o To)(hi:LE X i Ti)(he:LE X value Te)(hs:swapsWith value (some (.Subscript o i tpos)) pos.line X.env=pure false:=by rfl) :
    LS X (.Assign [.Subscript o i tpos] value pos) (dP To Ti Te):=by
  obtain ⟨to,po,so⟩:=ho.ex
  obtain ⟨ti,pi,si⟩:=hi.ex
  obtain ⟨te,pe,se⟩:=he.ex
  refine ⟨_,xp (hu1 hu) po pi pe hs,fun σ H ρ μ E E' rl h k=>se σ H ρ μ _ _ rl h fun v H1 dv μ1 t1 m1 p1 h1=>so σ H1 ρ μ1 _ _ (rl.go t1 m1) h1 fun x H2 dx μ2 t2 m2 p2 h2=>
    si σ H2 ρ μ2 _ _ (rl.go (t1.trans t2) m2) h2 fun y H3 dy μ3 t3 m3 p3 h3=>?_⟩
  obtain ⟨q,rfl,h3⟩:=d8 p2 h3
  obtain ⟨kvs,e0,h3⟩:=fF h3
  obtain ⟨kk,rfl,h3⟩:=ij p3 h3
  obtain ⟨xs,ex,l⟩:=m3 q _ e0
  have t4:Tk H3 (L2.upd H3 q (.dK (putK xs kk v))):=i5 ex
  have t14:=t1.trans (t2.trans (t3.trans t4))
  refine ⟨q,_,rfl,kF.k ex (by rw[l.length];exact Nat.lt_of_lt_of_le h3.1 (by decide)),k.nx _ _ ρ _ t14 (rl.go t14 (nM m3 ex (l.put kk (p1.mono (t2.trans t3))))) h3.2⟩
def cZ (f:Int→Int→Int)(To Ti Te:ETr):STr:=fun E ρ μ=>To ρ μ fun x μ1=>Ti ρ μ1 fun y μ2=>kObj x fun a=>kD μ2 a fun kvs=>mE y fun k=>kO (aL kvs k) fun d=>kI d fun m=>
  Te ρ μ2 fun w μ3=>kI w fun n=>kD μ3 a fun kvs3=>kvs3.length < 1000000∧E.nx ρ (up μ3 a (.dct (putD kvs3 k (.int (f m n)))))
theorem mx {to ti te:TE}{K:PySem.W.Frag}{f:Int→Int→Int}{rd:V→V→Hp→VK→Prop}(hrd:∀ i j H Q,Q (.int (f i j)) H→rd (.int i) (.int j) H Q)(so:Sim K to To)(si:Sim K ti Ti)(se:Sim K te Te) :
    xc K (xS to ti te rd) (cZ f To Ti Te):=fun σ H ρ μ E E' rl h k=>so σ H ρ μ _ _ rl h fun x H1 dx μ1 t1 m1 p1 h1=>si σ H1 ρ μ1 _ _ (rl.go t1 m1) h1 fun y H2 dy μ2 t2 m2 p2 h2=>by
    obtain ⟨q,rfl,h2⟩:=d8 p1 h2
    obtain ⟨kvs,e0,h2⟩:=fF h2
    obtain ⟨kk,rfl,h2⟩:=ij p2 h2
    obtain ⟨d,e1,h2⟩:=fE h2
    obtain ⟨xs,ex,l⟩:=m2 q _ e0
    rcases l.look kk with ⟨z,_⟩ | ⟨v,d',z,ev,pv⟩
    · rw[z] at e1;cases e1
    · rw[z] at e1;cases e1
      cases pv with
      | int m=>
        refine ⟨q,.int m,rfl,by rw[← ev];exact ji.k ex,se σ H2 ρ μ2 _ _ (rl.go (t1.trans t2) m2) h2 fun w H3 dw μ3 t3 m3 p3 h3=>?_⟩
        cases p3 with
        | int n=>
          obtain ⟨kvs3,e3,h3⟩:=fF (show kD μ3 q _ from h3)
          obtain ⟨xs3,ex3,l3⟩:=m3 q _ e3
          have t4:Tk H3 (L2.upd H3 q (.dK (putK xs3 kk (.int (f m n))))):=i5 ex3
          have t14:=t1.trans (t2.trans (t3.trans t4))
          exact hrd m n H3 _ ⟨_,kF.k ex3 (by rw[l3.length];exact Nat.lt_of_lt_of_le h3.1 (by decide)),k.nx _ _ ρ _ t14 (rl.go t14 (nM m3 ex3 (l3.put kk (.int _)))) h3.2⟩
        | _=>exact False.elim h3
      | _=>exact False.elim h2
theorem cL (hu:X.A.units+64 < cLine)(ho:LE X o To)(hi:LE X i Ti)(he:LE X value Te)(ha:∀ ov iv new,augStore i ov iv new=(do holding [new,ov,iv] (setItem ov iv new);release [new,ov,iv] [];pure .next):=by intros;rfl) :
    LS X (.AugAssign (.Subscript o i tpos) .Add value pos) (cZ (fun m n=>m+n) To Ti Te):=by
  obtain ⟨to,po,so⟩:=ho.ex
  obtain ⟨ti,pi,si⟩:=hi.ex
  obtain ⟨te,pe,se⟩:=he.ex
  exact ⟨_,o5 (hu1 hu) po pi pe yB ha,mx (fun i j H Q q=>⟨i,j,rfl,rfl,q⟩) so si se⟩
theorem oz (hu:X.A.units+64 < cLine)(ho:LE X o To)(hi:LE X i Ti)(he:LE X value Te)(ha:∀ ov iv new,augStore i ov iv new=(do holding [new,ov,iv] (setItem ov iv new);release [new,ov,iv] [];pure .next):=by intros;rfl) :
    LS X (.AugAssign (.Subscript o i tpos) .Sub value pos) (cZ (fun m n=>m - n) To Ti Te):=by
  obtain ⟨to,po,so⟩:=ho.ex
  obtain ⟨ti,pi,si⟩:=hi.ex
  obtain ⟨te,pe,se⟩:=he.ex
  exact ⟨_,o5 (hu1 hu) po pi pe zS ha,mx (fun i j H Q q=>⟨i,j,rfl,rfl,q⟩) so si se⟩
def Cc (K:PySem.W.Frag)(trs:List (TE×TE))(ks:List Key)(T:ATr):Prop:=∀ σ H ρ μ (Q:List D→Mu→Prop) (Q':List (V×V)→Hp→Prop),Rl K σ H ρ μ→T ρ μ Q→
  (∀ vs H' ds μ',Tk H H'→aV K H' μ'→vs.length=ks.length→DpL K H' vs ds→Q ds μ'→Q' ((ks.map kV).zip vs) H')→ki trs σ H Q'
structure LPs (X:Cx) (pos:Pos) (keys:List (Option Expr)) (values:List Expr) (ks:List Key) (T:ATr):Prop where
  ex:∃ trs,PPs X pos keys values trs∧Cc X.K trs ks T
theorem wb:LPs X pos [] [] [] au:=⟨[],vL,fun σ H ρ μ Q Q' rl h k=>k [] H [] μ (.refl H) rl.mu rfl .nil h⟩
theorem eE {s:Str}{j}{p:Pos}{ks:List (Option Expr)}{vs:List Expr}{kk:List Key}{At:ATr}(hv:LE X value Te)(hr:LPs X pos ks vs kk At):LPs X pos (some (.Constant (.str s) j p)::ks) (value::vs) (.inr s::kk) (af Te At):=by
  obtain ⟨te,pe,se⟩:=hv.ex
  obtain ⟨trs,pr,sr⟩:=hr.ex
  refine ⟨_,sD rh pe pr,fun σ H ρ μ Q Q' rl h k=>?_⟩
  refine se σ H ρ μ _ _ rl h fun y H1 dy μ1 t1 m1 p1 h1=>sr σ H1 ρ μ1 _ _ (rl.go t1 m1) h1 fun vs H2 ds μ2 t2 m2 hl p2 h2=>?_
  exact k (y::vs) H2 (dy::ds) μ2 (t1.trans t2) m2 (by simp[hl]) (.cons (p1.mono t2) p2) h2
def sU (ks:List Key)(At:ATr):ETr:=fun ρ μ Q=>∀ p,μ p=none→At ρ (up μ p (.dct [])) fun ds μ2=>kD μ2 p fun kvs=>kvs=[]∧Q (.obj p) (up μ2 p (.dct (ks.zip ds)))
theorem uu {acc:List (Key×V)}{k:Key}{v:V}(h:cX acc k=some v):k∈acc.map (·.1):=by
  unfold cX at h
  obtain ⟨p,hp,_⟩:=Option.map_eq_some_iff.mp h
  have h1:=List.mem_of_find?_eq_some hp
  have h2:=List.find?_some hp
  exact List.mem_map.mpr ⟨p,h1,of_decide_eq_true h2⟩
theorem iV:∀ (kvs acc:List (Key×V)),((acc++kvs).map (·.1)).Nodup→bV acc kvs=acc++kvs
  | [],acc,_=>by simp[bV]
  | p::r,acc,h=>by
    have hn:cX acc p.1=none:=by
      cases e:cX acc p.1 with
      | none=>rfl
      | some v=>
        exfalso
        have:=uu e
        rw[List.map_append,List.map_cons] at h
        exact (List.nodup_append.mp h).2.2 _ this _ List.mem_cons_self rfl
    show bV (putK acc p.1 p.2) r=_
    rw[uk p.2 hn]
    rw[iV r (acc++[(p.1,p.2)]) (by simpa using h)]
    simp
theorem mP:∀ (ks:List Key) (vs:List V),(ks.map kV).zip vs=(ks.zip vs).map fun kv=>(kV kv.1,kv.2)
  | [],_=>by simp
  | _::_,[]=>by simp
  | k::ks,v::vs=>by simp[mP ks vs]
theorem DpK.zip {K:PySem.W.Frag}{H:Hp}:∀ {ks:List Key} {vs:List V} {ds:List D},DpL K H vs ds→DpK K H (ks.zip vs) (ks.zip ds)
  | [],_,_,_=>by simp;exact .nil
  | _::_,_,_,.nil=>by simp;exact .nil
  | k::ks,_,_,.cons p l=>.cons p (DpK.zip l)
theorem vF {keys:List (Option Expr)}{values:List Expr}{ks:List Key}{At:ATr}(h:LPs X pos keys values ks At)(hall:keys.all (·.isSome)=true:=by rfl)(hl:keys.length=values.length:=by rfl)(h0:keys≠[]:=by nofun)
    (h15:keys.length≤15:=by decide) (hk:keys.length=ks.length:=by rfl) (hn:ks.Nodup:=by decide):LE X (.Dict keys values pos) (sU ks At):=by
  obtain ⟨trs,pr,sr⟩:=h.ex
  refine ⟨_,vR pr hall hl h0 h15,fun σ H ρ μ Q Q' rl h k p hp=>?_⟩
  refine sr σ _ ρ _ _ _ (rl.go (.new hp) (pw rl.mu hp .nil)) (h p (rl.mu.free hp)) fun vs H2 ds μ2 t2 m2 hvl p2 h2=>?_
  obtain ⟨kvs,e0,rfl,h2⟩:=fF h2
  obtain ⟨xs,ex,l⟩:=m2 p _ e0
  have:xs=[]:=by have:=l.length;cases xs with | nil=>rfl | cons=>simp at this
  subst this
  refine ⟨ex,ks.zip vs,mP ks vs,by rw[List.length_zip];omega,?_⟩
  have e:bV [] (ks.zip vs)=ks.zip vs:=by
    have:=iV (ks.zip vs) [] (by rw[List.nil_append,List.map_fst_zip (by omega)];exact hn)
    simpa using this
  rw[e]
  exact k _ _ _ _ ((Tk.new hp).trans (t2.trans (i5 ex))) (nM m2 ex (.zip p2)) (.obj p) h2
end
end
section
open PySem PySem.Spec PyProof.Rows L2
theorem qK:typeLookup (.type "list") (Str.ofString "keys")=pure none:=am_miss_of_fast (by kernel_rfl)
theorem zH {prog:Program}{w:World}{A:Around}{E:Value→Shared→Prop}{s:Shared}{a:Addr}{o:Obj}{xs:Array Value}{k:Nat}{Q:Option Value→Shared→Prop}
    (hx:s.heap.get? a=some o) (hc:o.cls=.type "list") (hdat:o.data=.seq xs k) (hd:o.dict=none) (hA:A.handled=none)
    (h:∀ h' tk,(∀ b ob,s.heap.get? b=some ob→h'.get? b=some ob)→Q none { s with heap:=h',toks:=tk }) :
    wpAny (model prog w) A (getAttr? (.ref a) "keys") Q E s:=by
  obtain ⟨c,dct,dat,sl⟩:=o
  simp only at hc hdat hd
  subst hc hdat hd
  obtain ⟨hp,g,d,tk,os⟩:=s
  have hT:∀ tk',(⟨hp,g,d,tk',os⟩:Shared).TypeIs (.ref a) "list" := fun _=>⟨_,hx,rfl⟩
  have f1:=sub_AttributeError
  have f3:=F.slot_list_getattribute.lookup
  have f4:=F.slot_list_getattribute.bind (.ref a)
  have f5:=am_list_getattr_none
  unfold getAttr? getAttrBy? getAttrBy
  repeat (any_goals (first | assumption | exact hT _ | ((with_reducible show wpAny _ _ (call (Value.builtin "list.__getattribute__") _ _) _ _ _);refine call_meets F.slot_list_getattribute (hT _) am_entry_list_getattribute (F.args_list_getattribute_2 _ _) (meets_getattribute_miss_list a xs k sl (Str.ofString "keys") _ qK (by decide +kernel) (by decide +kernel)) ⟨hx,hA,fun h' tk' e hx'=>?_⟩) | wp_step))
  obtain ⟨t',u',he⟩:=hx'.there
  show wpAny _ _ (getattributeRaised _ _ _ _ _ _ _) _ _ _
  unfold getattributeRaised
  repeat (any_goals (first | assumption | wp_step))
  exact h _ _ hx'.keeps
theorem fy:plainId "dict.update.loop" = true:=by decide +kernel
theorem my:entryFor table "dict.update.loop" = some Builtin.«dict.update.loop»:=entryFor_of_fast (by kernel_rfl)
inductive cF {prog:Program} {w:World} {κ:Type} [DecidableEq κ] (knd:KeyKind prog w κ) (h:Heap):List Value→List (κ×Value)→Prop
  | nil:cF knd h [] []
  | cons {a:Addr} {u v:Value} {k:κ} {us:List Value} {r:List (κ×Value)}:IsTup h a #[u,v]→knd.is k u=true→cF knd h us r→cF knd h (.ref a::us) ((k,v)::r)
section
variable {prog:Program} {w:World} {κ:Type} [DecidableEq κ] {knd:KeyKind prog w κ}
theorem cF.keeps {h h':Heap}(kp:∀ b o,h.get? b=some o→o.cls=.type "tuple" → h'.get? b=some o):∀ {us:List Value} {r:List (κ×Value)},cF knd h us r→cF knd h' us r
  | _,_,.nil=>.nil
  | _,_,.cons t k r=>.cons (by obtain ⟨o,e,c,n,d⟩:=t;exact ⟨o,kp _ o e c,c,n,d⟩) k (r.keeps kp)
theorem mj {A:Around}{R:Result→Shared→Prop}{d it l:Addr}{items:Array Value}(hA:A.handled=none)(n1:d≠it)(n2:l≠it)(n3:l≠d) :
    ∀ (us:List Value) (r:List (κ×Value)) (i:Nat) (kvs:List (κ×Value)) (s:Shared),items.toList.drop i=us→cF knd s.heap us r→s.heap.IsListIter it l i→s.heap.IsList l items→s.heap.DictOf knd d kvs→kvs.length+r.length≤sizeLine→
      (∀ h' tk,h'.DictOf knd d (merged kvs r)→(∀ b o,b≠it→b≠d→s.heap.get? b=some o→h'.get? b=some o)→R (.ok (.ret .none)) { s with heap:=h',toks:=tk })→
      wpAny (model prog w) A.in1 (Builtin.«dict.update.loop» ⟨[.ref d,.ref it,rawInt i,.none],[]⟩) (fun fin s'=>match fin with | .done f=>R (.ok f) s' | .again c'=>c'.quiet=true∧codeAny (model prog w) A c' R s') (fun e s'=>R (.error e) s') s
  | [],r,i,kvs,s,hd,P,hit,hl,hm,hz,h=>by
    cases P
    have hx:items[i]? = none:=by
      have:items.toList.length≤i:=by
        have:=congrArg List.length hd
        simp at this;simp;omega
      simpa using this
    show wpAny _ _ (pyNext (.ref it) >>= _) _ _ _
    refine wpAny_bind (wpAny_pyNext_list_end (by exact hA) hit hl hx fun h' k=>?_)
    show wpAny _ _ (Builtin.Dict.addKeywords d [] >>= _) _ _ _
    refine wpAny_bind (wpAny_pure (wpAny_pure ?_))
    refine h h' s.toks ?_ fun b o hb _ e=>k b o hb e
    obtain ⟨o,es,ep,ho,rest⟩:=hm
    exact ⟨o,es,ep,k d o n1 ho,rest⟩
  | u::us,r,i,kvs,s,hd,P,hit,hl,hm,hz,h=>by
    cases P with
    | @cons a ku v k _ r tp hk P=>
    have hx:items[i]? = some (.ref a):=by
      have:items.toList[i]? = some (.ref a):=by
        have:=congrArg (fun l=>l[0]?) hd
        simpa using this
      simpa using this
    have hd':items.toList.drop (i+1)=us:=by
      have:=congrArg List.tail hd
      simpa using this
    show wpAny _ _ (pyNext (.ref it) >>= _) _ _ _
    refine wpAny_bind (wpAny_pyNext_list_item hit hl hx fun h1 it1 k1=>?_)
    have ne_it:∀ b o,s.heap.get? b=some o→o.cls≠.type "list_iterator" → b≠it:=fun b o e c z=>by
      subst z
      obtain ⟨o',e',c',_⟩:=hit
      rw[e] at e';cases e';exact c c'
    have tp1:IsTup h1 a #[ku,v]:=by
      obtain ⟨o,e,c,n,dd⟩:=tp
      exact ⟨o,(k1.2 a (ne_it a o e (by rw[c];decide))).trans e,c,n,dd⟩
    obtain ⟨o,e,c,n,dd⟩:=tp1
    have hm1:h1.DictOf knd d kvs:=by
      obtain ⟨o,es,ep,ho,rest⟩:=hm
      exact ⟨o,es,ep,(k1.2 d n1).trans ho,rest⟩
    have hl1:h1.IsList l items:=by
      obtain ⟨o,e,c,n,dd⟩:=hl
      exact ⟨o,(k1.2 l n2).trans e,c,n,dd⟩
    dsimp only
    refine wpAny_bind (wpAny_holding ?_)
    refine wpAny_bind (wpAny_tryCatch ?_)
    unfold Builtin.Dict.pairItems
    refine wpAny_bind (wpAny_typeOf (T := "tuple") ⟨o,e,c⟩ ?_)
    rw[if_pos (by decide)]
    refine wpAny_bind (wpAny_seqItems e dd (wpAny_pure ?_))
    show wpAny _ _ (holding [ku,v] (dictSet d ku v)) _ _ _
    refine wpAny_holding (wpAny_dictSet_pairs (hsz:=by have:=hz;simp at this;omega) hk hm1 fun h2 hm2 k2=>?_)
    refine wpAny_pure ?_
    refine ⟨plainId_quiet fy _,codeAny_builtin my ?_⟩
    rw[Around.under_plainId fy _]
    have kp:∀ b o,b≠it→b≠d→s.heap.get? b=some o→h2.get? b=some o:=fun b o b1 b2 q=>(k2.2 b b2).trans ((k1.2 b b1).trans q)
    have ci:((i:Int)+1)=((i+1:Nat):Int):=by push_cast;rfl
    have nd:∀ b o,s.heap.get? b=some o→o.cls≠.type "dict" → b≠d:=fun b o q c z=>by
      subst z
      obtain ⟨o',_,_,e',ex,_⟩:=hm
      rw[q] at e';cases e';exact c ex.1
    show wpAny _ _ (Builtin.«dict.update.loop» ⟨[.ref d,.ref it,rawInt ((i:Int)+1),.none],[]⟩) _ _ _
    rw[ci]
    refine mj hA n1 n2 n3 us r (i+1) (stored kvs k v) _ hd' (P.keeps fun b o q c=>kp b o (ne_it b o q (by rw[c];decide)) (nd b o q (by rw[c];decide)) q) ?_ ?_ hm2 ?_ ?_
    · obtain ⟨o,e,c⟩:=it1
      exact ⟨o,(k2.2 it (Ne.symm n1)).trans e,c⟩
    · obtain ⟨o,e,c⟩:=hl1
      exact ⟨o,(k2.2 l n3).trans e,c⟩
    · have:=stored_length_le kvs k v
      simp at hz;omega
    · intro h' tk hm' kp'
      exact h h' tk hm' fun b o b1 b2 q=>kp' b o b1 b2 (kp b o b1 b2 q)
end
end
section
open PySem PySem.Spec PyProof.Rows L2
section
variable {prog:Program} {w:World} {κ:Type} [DecidableEq κ] {knd:KeyKind prog w κ}
theorem gy {A:Around}{E:Value→Shared→Prop}{s:Shared}{l:Addr}{o:Obj}{items:Array Value}{k:Nat}{r:List (κ×Value)}{Q:Value→Shared→Prop}(hA:A.handled=none)
    (hx:s.heap.get? l=some o) (hc:o.cls=.type "list") (hdat:o.data=.seq items k) (hd:o.dict=none) (P:cF knd s.heap items.toList r) (hz:r.length≤sizeLine)
    (h:∀ h' tk,h'.DictOf knd s.heap.objs.size (merged [] r)→(∀ b o,s.heap.get? b=some o→h'.get? b=some o)→Q (.ref s.heap.objs.size) { s with heap:=h',toks:=tk }) :
    wpAny (model prog w) A (call (.type "dict") [.ref l]) Q E s:=by
  refine callType_codes (Q₁:=fun obj s₁=>obj=.ref s.heap.objs.size∧s₁={ s with heap:=s.heap.push { cls:=.type "dict", data:=.dict #[] } }) F.kt_called_dict (F.kt_typeCall_dict_1 _) F.entry_dict_init (kt_code_dict_new _ ⟨rfl,rfl⟩) ?_
  rintro obj s₁ ⟨rfl,rfl⟩
  have xk:(s.heap.push { cls:=.type "dict", data:=.dict #[] }).DictOf knd s.heap.objs.size []:=Heap.DictOf.new s.heap
  have hx1:(s.heap.push { cls:=.type "dict", data:=.dict #[] }).get? l=some o:=Heap.get?_push_of_some _ hx
  have ll:l < s.heap.objs.size:=Heap.lt_size hx
  refine ⟨xk.typeIs,F.args_dict_init_2 _ _,?_⟩
  unfold Builtin.«dict.__init__»
  refine wpAny_bind ?_
  unfold Builtin.Dict.selfAndRest
  refine wpAny_bind (wpAny_notOrdered_dict xk.typeIs ?_)
  show wpAny _ _ (pure (s.heap.objs.size,[Value.ref l])) _ _ _
  refine wpAny_pure ?_
  show wpAny _ _ (Builtin.Dict.updateFrom "dict.__init__" s.heap.objs.size (.ref l) [] .none) _ _ _
  unfold Builtin.Dict.updateFrom
  refine wpAny_bind (wpAny_typeOf (T := "list") ⟨o,hx1,hc⟩ ?_)
  rw[if_pos (by decide)]
  refine wpAny_bind (zH hx1 hc hdat hd hA fun h1 tk1 kp1=>?_)
  rw[if_pos (by decide)]
  refine wpAny_bind (wpAny_rule ?_)
  have hx2:h1.get? l=some o:=kp1 _ _ hx1
  have hl2:h1.IsList l items:=⟨o,hx2,hc,k,hdat⟩
  have lt1:s.heap.objs.size < h1.objs.size:=by
    obtain ⟨o',es,ep,ho,_⟩:=xk
    exact Heap.lt_size (kp1 _ _ ho)
  refine wpAny_bind (wpAny_pyIter_list hl2 ?_)
  refine wpAny_bind (wpAny_pure (wpAny_pure ?_))
  refine ⟨plainId_quiet fy _,codeAny_builtin my ?_⟩
  rw[Around.under_plainId fy _]
  have kp2:∀ b o,s.heap.get? b=some o→(h1.push { cls:=.type "list_iterator", data:=.fields #[.ref l,.int 0 0] }).get? b=some o:=fun b o q=>Heap.get?_push_of_some _ (kp1 _ _ (Heap.get?_push_of_some _ q))
  refine mj (A:=A.in1) (knd:=knd) (it:=h1.objs.size) (d:=s.heap.objs.size) (l:=l) (items:=items) (R:=wants (fun r s₂=>r=Value.none∧Q (Value.ref s.heap.objs.size) s₂) E) hA (Nat.ne_of_lt lt1) (Nat.ne_of_lt (Nat.lt_trans ll lt1)) (Nat.ne_of_lt ll) items.toList r 0 [] _ rfl ?_ ?_ ?_ ?_ (by simpa using hz) ?_
  · exact P.keeps fun b o q _=>kp2 b o q
  · exact ⟨_,Heap.get?_push_size _ rfl,rfl,rfl⟩
  · exact ⟨o,Heap.get?_push_of_some _ hx2,hc,k,hdat⟩
  · obtain ⟨o',es,ep,ho,rest⟩:=xk
    exact ⟨o',es,ep,Heap.get?_push_of_some _ (kp1 _ _ ho),rest⟩
  · intro h' tk hm' kp'
    refine ⟨rfl,h h' tk hm' fun b o q=>?_⟩
    have hb:b < s.heap.objs.size:=Heap.lt_size q
    exact kp' b o (Nat.ne_of_lt (Nat.lt_trans hb lt1)) (Nat.ne_of_lt hb) (kp2 b o q)
end
def dK:Key→D
  | .inl i=>.int i
  | .inr s=>.str s
def oS (kv:Key×D):D:=.tup [dK kv.1,kv.2]
def cm (kvs more:List (Key×D)):List (Key×D):=more.foldl (fun acc kv=>putD acc kv.1 kv.2) kvs
inductive cE (K:PySem.W.Frag) (H:Hp):List V→List (Key×V)→Prop
  | nil:cE K H [] []
  | cons {a:Addr} {k:Key} {v:V} {ys:List V} {r:List (Key×V)}:SqT K H a [kV k,v]→cE K H ys r→cE K H (.ref a::ys) ((k,v)::r)
theorem cE.at {X:Cx}{pins:List (Addr×Obj)}{σ:L2.St}{H:Hp}{s:Shared}(I:Inv X pins σ H s):∀ {ys:List V} {kvs:List (Key×V)} {us:List Value},cE X.K H ys kvs→Vals ys us→∃ r,cF (aM X.prog X.w) s.heap us r∧KV kvs r
  | _,_,_,.nil,.nil=>⟨[],.nil,.nil⟩
  | _,_,_,@cE.cons _ _ a k v ys r sq h,.cons ru rs=>by
    cases (show _=Value.ref a from ru)
    obtain ⟨r,p,q⟩:=h.at I rs
    obtain ⟨its,vs,it,_⟩:=I.tuple sq
    cases vs with | @cons _ u1 _ _ r1 vs=>cases vs with | @cons _ u2 _ _ r2 vs=>
    cases vs
    exact ⟨(k,u2)::r,.cons it (mv r1) p,.cons ⟨rfl,r2⟩ q⟩
theorem hZ {X:Cx}(hc:X.calm=true):bb X (.type "dict") (fun xs H Q=>∃ l ys kvs,xs=[.ref l]∧SqL X.K H l ys∧cE X.K H ys kvs∧kvs.length≤sizeLine∧∀ p,H p=none→Q (.ref p) (L2.upd H p (.dK (bV [] kvs)))):=by
  intro pins s σ H xs us Q I rx h
  obtain ⟨l,ys,kvs,rfl,sq,pv,hz,q⟩:=h
  obtain ⟨u,rfl,ru⟩:=vals1 rx
  cases (show u=Value.ref l from ru)
  obtain ⟨its,vs,pl,_⟩:=I.list sq
  obtain ⟨o,n,e,c,hd,hdat⟩:=pl
  obtain ⟨r,pr,kv⟩:=pv.at I vs
  refine gy (knd:=aM X.prog X.w) (I.ok.hd hc) e c hdat hd (r:=r) (by simpa using pr) (by rw[← kv.length];exact hz) fun h' tk dd kp=>?_
  have hl:(bV [] kvs).length≤sizeLine:=by have:=cV kvs [];simp at this;omega
  exact ⟨.ref s.heap.objs.size,_,I.laid (a:=s.heap.objs.size) (o:=.dK (bV [] kvs)) kp (Nat.le_refl _) (m4 hl (beq_eq_false_iff_ne.mpr (Ne.symm (Nat.ne_of_lt I.big))) (KV.merge kv .nil) dd),rfl,q _ (I.hok.fresh (Nat.le_refl _))⟩
def mV:FSp:=fun ds μ Q=>match ds with
  | [.ls xs]=>∃ kvs:List (Key×D),xs=kvs.map oS∧kvs.length≤1000000∧∀ p,μ p=none→Q (.obj p) (up μ p (.dct (cm [] kvs)))
  | _=>False
theorem yO {K:PySem.W.Frag}{H:Hp}{v:V}{k:Key}(h:Dp K H v (dK k)):v=kV k:=by
  cases k with
  | inl i=>cases h;rfl
  | inr s=>cases h;rfl
theorem cE.of {K:PySem.W.Frag}{H:Hp}:∀ {kvs:List (Key×D)} {xs:List V},DpL K H xs (kvs.map oS)→∃ r,cE K H xs r∧DpK K H r kvs
  | [],_,h=>by cases h;exact ⟨[],.nil,.nil⟩
  | kv::kvs,_,h=>by
    obtain ⟨k,d⟩:=kv
    cases h with
    | cons p l=>
      obtain ⟨r,h1,h2⟩:=cE.of l
      cases p with
      | tup sq lp=>
        cases lp with | cons p1 lp=>cases lp with | cons p2 lp=>
        cases lp
        cases yO p1
        exact ⟨(k,_)::r,.cons sq h1,.cons p2 h2⟩
theorem DpK.merge {K:PySem.W.Frag}{H:Hp}{xs:List (Key×V)}{kvs:List (Key×D)}(h:DpK K H xs kvs):∀ {axs:List (Key×V)} {akvs:List (Key×D)},DpK K H axs akvs→DpK K H (bV axs xs) (cm akvs kvs):=
  DpK.ind (P:=fun xs kvs=>∀ {axs:List (Key×V)} {akvs:List (Key×D)},DpK K H axs akvs→DpK K H (bV axs xs) (cm akvs kvs)) (fun h=>h) (fun k v d xs kvs p _ ih axs akvs ha=>ih (ha.put k p)) h
theorem l5 {K:PySem.W.Frag}:fe K (fun xs H Q=>∃ l ys kvs,xs=[.ref l]∧SqL K H l ys∧cE K H ys kvs∧kvs.length≤sizeLine∧∀ p,H p=none→Q (.ref p) (L2.upd H p (.dK (bV [] kvs)))) mV:=fun H μ xs ds Q Q' m p h k=>by
  unfold mV at h
  split at h
  · obtain ⟨kvs,rfl,hl,h⟩:=h
    cases p with | cons p1 p2=>
    cases p2
    cases p1 with
    | ls q l=>
      obtain ⟨r,h1,h2⟩:=cE.of l
      exact ⟨_,_,r,rfl,q.sq,h1,by rw[h2.length];exact big hl,fun z hz=>k _ _ _ _ (.new hz) (pw m hz (h2.merge .nil)) (.obj z) (h z (m.free hz))⟩
  · exact False.elim h
end
section
open PySem PySem.Spec PyProof.Rows L2
section
variable {X:Cx} {o i a b c e value:Expr} {To Ti Ta Tb Te:ETr} {pos tpos apos cpos:Pos}
def yt (To Ti:ETr):ETr:=fun ρ μ Q=>To ρ μ fun x μ1=>kObj x fun a=>kL μ1 a fun _=>Ti ρ μ1 fun y μ2=>kI y fun j=>(-9223372036854775808≤j∧j < 9223372036854775808)∧kL μ2 a fun ds=>kN (L2.ixN ds.length j) fun k=>kO ds[k]? fun d=>Q d (up μ2 a (.lst (ds.eraseIdx k)))
theorem tV {n k:Nat}{j:Int}(h:L2.ixN n j=some k):seqIndex? j n=some k:=by
  unfold L2.ixN at h
  unfold seqIndex?
  split at h
  · split at h
    · cases h
      rename_i h1 h2
      simp[show ¬ (j < 0) by omega,h1,h2]
    · cases h
  · split at h
    · cases h
      rename_i h1 h2
      simp[show j < 0 by omega]
      omega
    · cases h
theorem DpL.erase {K:PySem.W.Frag}{H:Hp}:∀ {vs:List V} {ds:List D} (i:Nat),DpL K H vs ds→DpL K H (vs.eraseIdx i) (ds.eraseIdx i)
  | _,_,_,.nil=>by simp;exact .nil
  | _,_,0,.cons _ l=>l
  | _,_,i+1,.cons q l=>.cons q (DpL.erase i l)
theorem yW (ho:LE X o To)(hi:LE X i Ti)
    (hbase:attributeBase o "pop" X.env (eval o X.env)=eval o X.env:=by rfl)
    (hfew:((backTo cpos (starEach [i] X.env)).all (fun x=>!x.1)&&(backToKw cpos (keywordEach [] X.env)).all (fun x=>x.1.isSome)
      && decide (([i]:List Expr).length+([]:List Keyword).length+(if ([]:List Keyword).isEmpty then 0 else 1) < 30))=true:=by rfl)
    (hline:(apos.endLine == cpos.line)=true:=by rfl) (hs:starEach [i] X.env=(false,eval i X.env)::starEach [] X.env:=by rfl) (hplain:(backTo cpos (starEach [] X.env)).any (·.1)=false:=by rfl) :
    LE X (.Call (.Attribute o "pop" apos) [i] [] cpos) (yt To Ti):=by
  obtain ⟨to,po,so⟩:=ho.ex
  obtain ⟨ti,pi,si⟩:=hi.ex
  refine ⟨_,tN PySem.F.plainAttrs_list PySem.F.slot_list_pop PySem.F.type_list_pop uX po (fh pi iT hs) hbase hfew hline hs hplain,fun σ H ρ μ Q Q' rl h k=>so σ H ρ μ _ _ rl h fun x H1 dx μ1 t1 m1 p1 h1=>?_⟩
  obtain ⟨q,rfl,h1⟩:=d8 p1 h1
  obtain ⟨ds0,e0,h1⟩:=a9 h1
  obtain ⟨xs0,ex0,_⟩:=m1 q _ e0
  refine ⟨.inl ⟨rfl,_,SqL.of ex0⟩,si σ H1 ρ μ1 _ _ (rl.go t1 m1) h1 fun y H2 dy μ2 t2 m2 p2 h2=>?_⟩
  cases p2 with
  | int j=>
    obtain ⟨hr,h2⟩:=h2
    obtain ⟨ds,e2,h3⟩:=a9 (show kL μ2 q _ from h2)
    obtain ⟨kk,e3,h3⟩:=tq h3
    obtain ⟨d,e4,h3⟩:=fE h3
    obtain ⟨xs,ex,l⟩:=m2 q _ e2
    obtain ⟨v,ev,pv⟩:=l.get e4
    have e3':L2.ixN xs.length j=some kk:=by rw[l.length];exact e3
    exact ⟨q,xs,j,kk,v,rfl,rfl,ex,by omega,by omega,tV e3',ev,k _ _ _ _ ((t1.trans t2).trans (fK ex)) (xI m2 ex (l.erase kk)) (pv.mono (fK ex)) h3⟩
  | _=>exact False.elim h2
end
noncomputable def h8 (h:Heap) (dx:PyData) (y:Value):Bool:=@decide (∃ d as,Reads h y d as∧PyData.canLay0 d=true∧PyData.eqv d dx=true) (Classical.propDecidable _)
theorem wa {h:Heap}{dx d:PyData}{y:Value}{as:List Addr}(r:Reads h y d as)(hd:d.canLay0=true):h8 h dx y=PyData.eqv d dx:=by
  unfold h8
  cases e:PyData.eqv d dx with
  | true=>exact @decide_eq_true _ (Classical.propDecidable _) ⟨d,as,r,hd,e⟩
  | false=>
    refine @decide_eq_false _ (Classical.propDecidable _) ?_
    rintro ⟨d',as',r',hd',e'⟩
    cases SeqAt.Reads.unique _ _ _ _ _ hd r r'
    rw[e] at e';cases e'
theorem pG {n:Nat}:∀ {ds:List D} {d:D},bB n ds=true→d∈ds→okD n d=true
  | x::r,d,h,hm=>by
    have h':okD n x=true∧bB n r=true:=by simpa[bB] using h
    rcases List.mem_cons.mp hm with rfl | hm
    · exact h'.1
    · exact pG h'.2 hm
section
variable {X:Cx} {pins:List (Addr×Obj)} {σ:L2.St} {H:Hp} {s:Shared}
theorem item_at (I:Inv X pins σ H s){vs:List V}{ds:List D}{us:List Value}(l:DpL X.K H vs ds)(r:Vals vs us)(ok:bB 38 ds=true){dy:D}{y:Value}{bs:List Addr}(oy:okD 38 dy=true)(ry:Reads s.heap y (toP dy) bs)(hu:X.A.units+64 < cLine)
    {m:Nat} {u:Value} (hm:us[m]? = some u):∃ d,ds[m]? = some d∧h8 s.heap (toP dy) u=eqD d dy∧SeqAt.EqAt X.A.in1 s u y (h8 s.heap (toP dy) u):=by
  have hlt:m < vs.length:=by rw[r.length];exact (List.getElem?_eq_some_iff.mp hm).1
  obtain ⟨u',e1,rv⟩:=r.get (List.getElem?_eq_getElem hlt)
  rw[hm] at e1;cases e1
  obtain ⟨d,ed,pd⟩:=l.get' (List.getElem?_eq_getElem hlt)
  have od:=pG ok (List.mem_of_getElem? ed)
  obtain ⟨as,ra⟩:=b9 I pd od rv
  obtain ⟨l1,d1⟩:=dr 38 d od
  obtain ⟨l2,d2⟩:=dr 38 dy oy
  have e:=wa (dx:=toP dy) ra l1
  refine ⟨d,ed,by rw[e,gG 38 38 d dy od oy],?_⟩
  rw[e]
  exact SeqAt.eqAt_reads _ _ _ s _ _ _ _ ra ry l1 l2 (by have:=Nat.min_le_left (toP d).depth (toP dy).depth;rw[Around.in1_units];omega)
end
def qI (ds:List D)(x:D):Option Nat:=ds.findIdx? fun y=>eqD y x
theorem uH {X:Cx}(hu:X.A.units+64 < cLine):MtM X "list.index" (fun x vs H Q=>∃ p xs y ds dy,∃ j:Nat,x=.ref p∧vs=[y]∧SqL X.K H p xs∧DpL X.K H xs ds∧Dp X.K H y dy∧bB 38 ds=true∧okD 38 dy=true∧qI ds dy=some j∧j < 1000000∧Q (.int j) H):=by
  intro pins s σ H x vs v us Q I rx rv h
  obtain ⟨p,xs,y,ds,dy,j,rfl,rfl,sq,l,py,ok,oy,hj,hj2,q⟩:=h
  cases (show v=Value.ref p from rx)
  obtain ⟨u,rfl,ru⟩:=rv.one
  obtain ⟨its,r,⟨o,n,e,c,hd,hdat⟩,_⟩:=I.list sq
  obtain ⟨bs,rb⟩:=b9 I py oy ru
  have he:s.heap.get? p=some ⟨.type "list", none,.seq its.toArray n,o.slots⟩:=by
    rw[e];obtain ⟨c',dd,dt,sl⟩:=o;simp only at c hd hdat;subst c hd hdat;rfl
  unfold qI at hj
  rw[List.findIdx?_eq_some_iff_getElem] at hj
  obtain ⟨h1,h2,h3⟩:=hj
  have hl:ds.length=its.length:=by rw[← l.length,r.length]
  have at':∀ m (hm:m < its.toArray.size),∃ d,ds[m]? = some d∧h8 s.heap (toP dy) its.toArray[m]=eqD d dy∧SeqAt.EqAt X.A.in1 s its.toArray[m] u (h8 s.heap (toP dy) its.toArray[m]):=fun m hm=>
    item_at I l r ok oy rb hu (by simp at hm ⊢)
  refine call_meets F.slot_list_index ⟨_,he,rfl⟩ F.entry_list_index (F.args_list_index_2 _ _) (SeqAt.list_indexAt p its.toArray n none o.slots u (h8 s.heap (toP dy)) j (by simp;omega) (by omega) ?_ ?_) ⟨he,fun w hw=>?_,?_⟩
  · obtain ⟨d,e1,e2,_⟩:=at' j (by simp;omega)
    rw[e2]
    rw[List.getElem?_eq_getElem h1] at e1;cases e1
    exact h2
  · intro m hm hlt
    obtain ⟨d,e1,e2,_⟩:=at' m hm
    rw[e2]
    have hm':m < ds.length:=by simp at hm;omega
    rw[List.getElem?_eq_getElem hm'] at e1;cases e1
    have:=h3 m hlt
    simpa using this
  · obtain ⟨m,hm,rfl⟩:=Array.mem_iff_getElem.mp hw
    obtain ⟨d,_,_,e3⟩:=at' m hm
    exact e3
  · exact ⟨.int j,H,I.tok _,⟨_,rfl⟩,q⟩
section
variable {X:Cx} {o i a b c e value:Expr} {To Ti Ta Tb Te:ETr} {pos tpos apos cpos:Pos}
def pW (μ:Mu)(x:D)(f:List D→Prop):Prop:=match x with
  | .ls ds=>f ds
  | .obj a=>kL μ a f
  | _=>False
theorem mR {K:PySem.W.Frag}{H:Hp}{μ:Mu}{x:V}{dx:D}{f:List D→Prop}(m:aV K H μ)(p:Dp K H x dx)(h:pW μ dx f):∃ q xs ds,x=.ref q∧SqL K H q xs∧DpL K H xs ds∧f ds:=by
  cases p with
  | ls sq l=>exact ⟨_,_,_,rfl,sq.sq,l,h⟩
  | obj q=>
    obtain ⟨ds,e0,h⟩:=a9 h
    obtain ⟨xs,ex,l⟩:=m q _ e0
    exact ⟨q,xs,ds,rfl,SqL.of ex,l,h⟩
  | _=>exact False.elim h
def nH (To Ti:ETr):ETr:=fun ρ μ Q=>To ρ μ fun x μ1=>pW μ1 x fun _=>Ti ρ μ1 fun y μ2=>pW μ2 x fun ds=>(bB 38 ds=true∧okD 38 y=true)∧kN (qI ds y) fun j=>j < 1000000∧Q (.int j) μ2
theorem uP (hu:X.A.units+64 < cLine)(ho:LE X o To)(hi:LE X i Ti)
    (hbase:attributeBase o "index" X.env (eval o X.env)=eval o X.env:=by rfl)
    (hfew:((backTo cpos (starEach [i] X.env)).all (fun x=>!x.1)&&(backToKw cpos (keywordEach [] X.env)).all (fun x=>x.1.isSome)
      && decide (([i]:List Expr).length+([]:List Keyword).length+(if ([]:List Keyword).isEmpty then 0 else 1) < 30))=true:=by rfl)
    (hline:(apos.endLine == cpos.line)=true:=by rfl) (hs:starEach [i] X.env=(false,eval i X.env)::starEach [] X.env:=by rfl) (hplain:(backTo cpos (starEach [] X.env)).any (·.1)=false:=by rfl) :
    LE X (.Call (.Attribute o "index" apos) [i] [] cpos) (nH To Ti):=by
  obtain ⟨to,po,so⟩:=ho.ex
  obtain ⟨ti,pi,si⟩:=hi.ex
  refine ⟨_,tN PySem.F.plainAttrs_list PySem.F.slot_list_index PySem.F.type_list_index (uH hu) po (fh pi iT hs) hbase hfew hline hs hplain,fun σ H ρ μ Q Q' rl h k=>so σ H ρ μ _ _ rl h fun x H1 dx μ1 t1 m1 p1 h1=>?_⟩
  obtain ⟨q,xs0,ds0,rfl,sq0,l0,h1⟩:=mR m1 p1 h1
  refine ⟨.inl ⟨rfl,_,sq0⟩,si σ H1 ρ μ1 _ _ (rl.go t1 m1) h1 fun y H2 dy μ2 t2 m2 p2 h2=>?_⟩
  obtain ⟨q',xs,ds,eq,sq,l,h2⟩:=mR m2 (p1.mono t2) h2
  cases eq
  obtain ⟨⟨o1,o2⟩,h2⟩:=h2
  obtain ⟨j,ej,hj,h2⟩:=tq h2
  exact ⟨q,xs,y,ds,dy,j,rfl,rfl,sq,l,p2,o1,o2,ej,hj,k _ H2 _ μ2 (t1.trans t2) m2 (.int _) h2⟩
def inG (x:D)(ds:List D):Bool:=ds.any fun y=>eqD y x
def ri (K:PySem.W.Frag)(neg:Bool):L2.R2:=fun x y H Q=>∃ p xs ds dx,y=.ref p∧(SqL K H p xs∨SqT K H p xs)∧DpL K H xs ds∧Dp K H x dx∧bB 38 ds=true∧okD 38 dx=true∧Q (.bl (if neg then !inG dx ds else inG dx ds)) H
theorem ke {pins:List (Addr×Obj)}{σ:L2.St}{H:Hp}{s:Shared}(I:Inv X pins σ H s)(hu:X.A.units+64 < cLine){vs:List V}{ds:List D}{us:List Value}(l:DpL X.K H vs ds)(r:Vals vs us)(ok:bB 38 ds=true){dy:D}{y:Value}{bs:List Addr}(oy:okD 38 dy=true)(ry:Reads s.heap y (toP dy) bs) :
    (∀ w,w∈us.toArray→SeqAt.EqAt X.A.in1 s w y (h8 s.heap (toP dy) w))∧us.toArray.any (h8 s.heap (toP dy))=inG dy ds:=by
  have hl:ds.length=us.length:=by rw[← l.length,r.length]
  constructor
  · intro w hw
    obtain ⟨m,hm,rfl⟩:=Array.mem_iff_getElem.mp hw
    obtain ⟨d,_,_,e3⟩:=item_at I l r ok oy ry hu (m:=m) (u:=us.toArray[m]) (by simp at hm ⊢)
    exact e3
  · unfold inG
    rw[show us.toArray.any (h8 s.heap (toP dy))=us.any (h8 s.heap (toP dy)) by simp]
    rw[Bool.eq_iff_iff,List.any_eq_true,List.any_eq_true]
    constructor
    · rintro ⟨w,hw,e⟩
      obtain ⟨m,hm,rfl⟩:=List.mem_iff_getElem.mp hw
      obtain ⟨d,e1,e2,_⟩:=item_at I l r ok oy ry hu (m:=m) (u:=us[m]) (by simp)
      exact ⟨d,List.mem_of_getElem? e1,by rw[← e2];exact e⟩
    · rintro ⟨d,hd,e⟩
      obtain ⟨m,hm,rfl⟩:=List.mem_iff_getElem.mp hd
      obtain ⟨d',e1,e2,_⟩:=item_at I l r ok oy ry hu (m:=m) (u:=us[m]'(by omega)) (by simp)
      rw[List.getElem?_eq_getElem hm] at e1;cases e1
      exact ⟨us[m]'(by omega),List.getElem_mem _,by rw[e2];exact e⟩
theorem xX (hu:X.A.units+64 < cLine):OpR X (compareOp .In) (ri X.K false):=by
  intro pins s σ H x y v u Q I rx ry h
  obtain ⟨p,xs,ds,dx,rfl,hq,l,px,o1,o2,q⟩:=h
  cases (show u=Value.ref p from ry)
  obtain ⟨bs,rb⟩:=b9 I px o2 rx
  rcases hq with hq | hq
  · obtain ⟨its,r,pl,hz⟩:=I.list hq
    obtain ⟨h1,h2⟩:=ke I hu l r o1 o2 rb
    exact SeqAt.in_listAt _ pl.isList h1 ⟨.bl _,H,I,rfl,by rw[h2];exact q⟩
  · obtain ⟨its,r,pl,hz⟩:=I.tuple hq
    obtain ⟨h1,h2⟩:=ke I hu l r o1 o2 rb
    exact SeqAt.in_tupleAt _ pl h1 ⟨.bl _,H,I,rfl,by rw[h2];exact q⟩
theorem qj (hu:X.A.units+64 < cLine):OpR X (compareOp .NotIn) (ri X.K true):=by
  intro pins s σ H x y v u Q I rx ry h
  obtain ⟨p,xs,ds,dx,rfl,hq,l,px,o1,o2,q⟩:=h
  cases (show u=Value.ref p from ry)
  obtain ⟨bs,rb⟩:=b9 I px o2 rx
  rcases hq with hq | hq
  · obtain ⟨its,r,pl,hz⟩:=I.list hq
    obtain ⟨h1,h2⟩:=ke I hu l r o1 o2 rb
    exact SeqAt.notIn_listAt _ pl.isList h1 ⟨.bl _,H,I,rfl,by rw[h2];exact q⟩
  · obtain ⟨its,r,pl,hz⟩:=I.tuple hq
    obtain ⟨h1,h2⟩:=ke I hu l r o1 o2 rb
    exact SeqAt.notIn_tupleAt _ pl h1 ⟨.bl _,H,I,rfl,by rw[h2];exact q⟩
def BQ (μ:Mu)(x:D)(f:List D→Prop):Prop:=match x with
  | .tup ds=>f ds
  | .ls ds=>f ds
  | .obj a=>kL μ a f
  | _=>False
def nG (neg:Bool):DR2:=fun x y μ Q=>BQ μ y fun ds=>(bB 38 ds=true∧okD 38 x=true)∧Q (.bl (if neg then !inG x ds else inG x ds)) μ
theorem pJ {K:PySem.W.Frag}(neg:Bool):cY K (ri K neg) (nG neg):=fun H μ x y dx dy Q Q' m px py h k=>by
  cases py with
  | tup sq l=>exact ⟨_,_,_,dx,rfl,.inr sq,l,px,h.1.1,h.1.2,k _ H _ μ (.refl H) m (.bl _) h.2⟩
  | ls sq l=>exact ⟨_,_,_,dx,rfl,.inl sq.sq,l,px,h.1.1,h.1.2,k _ H _ μ (.refl H) m (.bl _) h.2⟩
  | obj q=>
    obtain ⟨ds,e0,h⟩:=a9 (show kL μ q _ from h)
    obtain ⟨xs,ex,l⟩:=m q _ e0
    exact ⟨_,_,_,dx,rfl,.inl (SqL.of ex),l,px,h.1.1,h.1.2,k _ H _ μ (.refl H) m (.bl _) h.2⟩
  | _=>exact False.elim h
theorem zw (hu:X.A.units+64 < cLine)(ha:LE X a Ta)(hb:LE X b Tb)(hm:behindInMarks .In b=false:=by rfl):LT X (.Compare a [.In] [b] pos) (TB (ak (nG false) Ta Tb)):=cS (xX hu) (pJ false) ha hb hm
theorem kb (hu:X.A.units+64 < cLine)(ha:LE X a Ta)(hb:LE X b Tb)(hm:behindInMarks .NotIn b=false:=by rfl):LT X (.Compare a [.NotIn] [b] pos) (TB (ak (nG true) Ta Tb)):=cS (qj hu) (pJ true) ha hb hm
end
end
section
open PySem PySem.Spec PyProof.Rows L2
section
variable {X:Cx} {e tg:Expr} {es:List Expr} {is:List Nat} {pos:Pos} {x:Str} {n:Nat}
end
section
variable {X:Cx} {o i a b c e value:Expr} {To Ti Ta Tb Te:ETr} {pos tpos apos cpos:Pos}
end
section
variable {P:Program} {w:World} {K:PySem.W.Frag} {mg:Str→Option Value} {base:Heap}
end
end
section
open PySem PySem.Spec PyProof.Rows L2
section
variable {X:Cx} {tg a ea eb:Expr} {Ta:ETr} {es:List Expr} {ek:Nat} {ep p pos:Pos}
def Ce (K:PySem.W.Frag)(tl:TE):TI:=fun σ H R=>tl σ H fun x H1=>∃ q,x=.ref q∧(((∃ xs,SqL K H1 q xs)∧R (Itl K q) H1)∨((∃ xs,SqT K H1 q xs)∧R (Itt K q) H1))
theorem Ae {tl:TE}(hl:PE X a tl):PI X tg a (Ce X.K tl):=by
  intro pins s σ H R I h
  refine thn (hl pins s σ H _ I h) fun v s1 ⟨x,H1,I1,r1,q,ex,qq⟩=>?_
  subst ex
  cases (show v=Value.ref q from r1)
  have fp:∀ b∈[s1.heap.objs.size],_:=fun b hb=>by
    have e:b=s1.heap.objs.size:=by simpa using hb
    subst e
    exact I1.rH (Nat.le_refl _) (I1.hok.fresh (Nat.le_refl _))
  rcases qq with ⟨⟨xs,sq⟩,qq⟩ | ⟨⟨xs,sq⟩,qq⟩
  · obtain ⟨its,rv,pl,hz⟩:=I1.list sq
    exact wpAny_pyIter_list pl.isList ⟨s1.heap.objs.size,[s1.heap.objs.size],_,_,H1,rfl,I1.kept (t':=s1.toks) (fun b o e=>Heap.get?_push_of_some _ e),jO q _,⟨_,Heap.get?_push_size _ rfl,rfl,rfl⟩,fp,qq⟩
  · obtain ⟨its,rv,pl,hz⟩:=I1.tuple sq
    exact wpAny_pyIter_tuple (show s1.heap.IsTuple q its.toArray from pl) ⟨s1.heap.objs.size,[s1.heap.objs.size],_,_,H1,rfl,I1.kept (t':=s1.toks) (fun b o e=>Heap.get?_push_of_some _ e),nF q _,⟨_,Heap.get?_push_size _ rfl,rfl,rfl⟩,fp,qq⟩
theorem cU (ha:LE X a Ta):LI X tg a (eW Ta):=by
  obtain ⟨ta,pa,sa⟩:=ha.ex
  refine ⟨_,Ae pa,fun σ H ρ μ Q R rl h k=>sa σ H ρ μ _ _ rl h fun x H1 d μ1 t1 m1 p1 h1=>?_⟩
  cases p1 with
  | @tup p xs ds q l=>exact ⟨p,rfl,.inr ⟨⟨xs,q⟩,k _ H1 ds μ1 t1 m1 (sT q l) h1⟩⟩
  | @ls p xs ds q l=>exact ⟨p,rfl,.inl ⟨⟨xs,q.sq⟩,k _ H1 ds μ1 t1 m1 (wH q l) h1⟩⟩
  | _=>exact False.elim h1
theorem zm {K:PySem.W.Frag}{H:Hp}{v:V}{x:D}{f:List D→Prop}(p:Dp K H v x)(h:kS x f):∃ (tp:Bool) (a:Addr) (xs:List V) (ds:List D),v=.ref a∧Sq tp K H a xs∧DpL K H xs ds∧kQ tp x f:=by
  cases p with
  | @tup a xs ds q l=>exact ⟨true,a,xs,ds,rfl,q,l,h⟩
  | @ls a xs ds q l=>exact ⟨false,a,xs,ds,rfl,q,l,h⟩
  | _=>exact False.elim h
variable {i o:Expr} {Ti To:ETr}
end
end
section
open PySem PySem.Spec PyProof.Rows L2
def ltS (x y:Str):Bool:=decide (x.cps.toList < y.cps.toList)
theorem e5:∀ {us:List Value} {ss:List Str},StrsAre us ss→Vals (ss.map V.str) us
  | _,_,.nil=>.nil
  | _,_,.cons n t h=>.cons ⟨t,rfl⟩ (e5 h)
theorem pC:∀ {us:List Value} {ss:List Str},Vals (ss.map V.str) us→StrsAre us ss
  | _,[],h=>by cases h;exact .nil
  | _,s::r,h=>by
    cases h with
    | cons q h=>obtain ⟨t,rfl⟩:=(show ∃ t,_=Value.str s t from q);exact .cons s t (pC h)
def yd (K:PySem.W.Frag):List V→Hp→VK→Prop:=fun xs H Q=>∃ (p:Addr) (ss:List Str),xs=[.ref p]∧SqL K H p (ss.map V.str)∧ss.length < 64∧∀ ss':List Str,ss'.Perm ss→ss'.Pairwise (fun a b=>ltS b a=false)→∀ z,H z=none→Q (.ref z) (L2.upd H z (.lst (ss'.map V.str)))
theorem p8:∀ (p:Str) (l:List Str),risingS p l=true→(p::l).Pairwise (fun a b=>ltS b a=false):=by
  have tr:∀ a b c:Str,ltS b a=false→ltS c b=false→ltS c a=false:=by
    intro a b c h1 h2
    unfold ltS at *
    rw[decide_eq_false_iff_not,List.not_lt] at *
    exact List.le_trans h1 h2
  intro p l
  induction l generalizing p with
  | nil=>intro _;exact List.pairwise_singleton _ _
  | cons x r ih=>
    intro h
    have h':ltCps x.cps.toList p.cps.toList=false∧risingS x r=true:=by
      have:(!ltCps x.cps.toList p.cps.toList&&risingS x r)=true:=h
      simpa using this
    have hx:=ih x h'.2
    have hpx:ltS x p=false:=by unfold ltS;rw[← ltCps_eq];exact h'.1
    refine List.pairwise_cons.mpr ⟨fun y hy=>?_,hx⟩
    rcases List.mem_cons.mp hy with rfl | hy
    · exact hpx
    · exact tr p x y hpx ((List.pairwise_cons.mp hx).1 y hy)
theorem qT:∀ (l:List Str),sortedS l=true→l.Pairwise (fun a b=>ltS b a=false)
  | [],_=>.nil
  | p::l,h=>p8 p l h
theorem nI {X:Cx}:bb X (.builtin "sorted") (yd X.K):=fun pins s σ H xs us Q I rx ⟨p,ss,e1,sq,hl,q⟩=>by
  subst e1
  obtain ⟨u,rfl,ru⟩:=vals1 rx
  cases (show u=Value.ref p from ru)
  obtain ⟨its,rv,pl,hz⟩:=I.list sq
  have hi:StrsAre its ss:=pC rv
  have hlen:its.length < 64:=by have:=rv.length;simp at this;omega
  refine sorted_strs pl.isList hi hlen fun out ss' a1 a2 a3=>?_
  obtain ⟨n,en⟩:=sortedAll_at s.heap its out
  refine ⟨.ref _,_,I.laid (t':=s.toks) (o:=.lst (ss'.map V.str)) (fun b o e=>sortedAll_old e) (Nat.le_succ _) ?_,rfl,q ss' a2 (qT _ a3) _ (I.hok.fresh (Nat.le_succ _))⟩
  have z1:ss'.length=ss.length:=a2.length_eq
  exact ⟨by rw[List.length_map,z1];exact Nat.le_of_lt (Nat.lt_of_lt_of_le hl (by decide)),out.toList,n,e5 a1,by simpa[seqObj] using en⟩
def nJ:FSp:=fun ds μ Q=>match ds with
  | [.ls xs]=>∃ ss:List Str,(xs=ss.map .str∧ss.length < 64)∧∀ ss':List Str,ss'.Perm ss→ss'.Pairwise (fun a b=>ltS b a=false)→Q (.ls (ss'.map .str)) μ
  | _=>False
theorem DpL.strs {K:PySem.W.Frag}{H:Hp}:∀ ss:List Str,DpL K H (ss.map V.str) (ss.map D.str)
  | []=>.nil
  | s::r=>.cons (.str s) (DpL.strs r)
theorem DpL.e5 {K:PySem.W.Frag}{H:Hp}:∀ {xs:List V} {ss:List Str},DpL K H xs (ss.map .str)→xs=ss.map V.str
  | _,[],.nil=>rfl
  | _,s::r,.cons h l=>by cases h;rw[DpL.e5 l];rfl
section
variable {X:Cx} {e a b:Expr} {x:Str} {p pos:Pos} {At:ATr} {Ta Tb:ETr}
theorem tL (hg:Gl X x)(hm:X.mg x=none)(hv:bootBuiltins x=some (.builtin "sorted"))(ha:LA X [e] At)(hn:x ≠ "__name__" := by decide)(hdb:(x == ("__debug__" : Str))=false:=by decide)
    (h1:starEach [e] X.env=(false,eval e X.env)::starEach [] X.env:=by rfl) (h2:(backTo pos (starEach [] X.env)).any (·.1)=false:=by rfl):LE X (.Call (.Name x p) [e] [] pos) (ao nJ At):=by
  obtain ⟨ta,pa,sa⟩:=ha.ex
  refine ⟨_,fX (mI nI hg hm hv pa hn hdb h1 h2),fun σ H ρ μ Q Q' rl h k=>sa σ H ρ μ _ _ rl h fun xs H1 ds μ1 t1 m1 p1 h1=>?_⟩
  unfold nJ at h1
  split at h1
  · obtain ⟨ss,⟨rfl,hl⟩,h2⟩:=h1
    cases p1 with | cons p1 p2=>
    cases p2
    cases p1 with
    | @ls a ys _ q l=>
      cases DpL.e5 l
      refine ⟨a,ss,rfl,q.sq,hl,fun ss' a2 a3 z hz=>⟨z,_,rfl,az,fun o=>?_⟩⟩
      have e:L2.upd (L2.upd H1 z (.lst (ss'.map V.str))) z (.frz o (.lst (ss'.map V.str)))=L2.upd H1 z (.frz o (.lst (ss'.map V.str))):=kz
      rw[e]
      exact k _ _ _ μ1 (t1.trans (.new hz)) (bS m1 hz) (.ls (.inl ⟨o,az⟩) (.strs ss')) (h2 ss' a2 a3)
  · exact False.elim h1
def xy (f:Str→Str→Bool):DR2:=fun x y μ Q=>match x,y with
  | .str i,.str j=>Q (.bl (f i j)) μ
  | _,_=>False
theorem yJ:OpR X (compareOp .Gt) (fun x y H Q=>∃ i j,x=.str i∧y=.str j∧Q (.bl (ltS j i)) H):=by
  intro pins s σ H x y v u Q I rx ry h
  obtain ⟨i,j,rfl,rfl,q⟩:=h
  obtain ⟨t,rfl⟩:=rx
  obtain ⟨t',rfl⟩:=ry
  exact PySem.P.gt_str ⟨.bl _,H,I,rfl,q⟩
theorem ua {K:PySem.W.Frag}(f:Str→Str→Bool):cY K (fun x y H Q=>∃ i j,x=.str i∧y=.str j∧Q (.bl (f i j)) H) (xy f):=fun H μ x y dx dy Q Q' m px py h k=>by
  cases px with
  | str i=>cases py with
    | str j=>exact ⟨i,j,rfl,rfl,k _ H _ μ (.refl H) m (.bl _) h⟩
    | _=>exact False.elim h
  | _=>cases py<;>exact False.elim h
def yI:DR2:=xy fun i j=>ltS j i
theorem z7 (ha:LE X a Ta)(hb:LE X b Tb):LT X (.Compare a [.Gt] [b] pos) (TB (ak yI Ta Tb)):=cS yJ (ua _) ha hb (dB _)
end
end
section
open PySem PySem.Spec PyProof.Rows L2
def eO (C:Mu→Prop)(p:Addr)(G:GTr)(tt:TTr)(te:ETr)(ρc:ST)(K:Mu→Prop):List D→Mu→Prop
  | [],μ=>C μ∧K μ
  | d::r,μ=>C μ∧G d ρc μ fun ρ1 μ1=>tt ρ1 μ1 fun b μ2=>kIf b (te ρ1 μ2 fun y μ3=>kL μ3 p fun zs=>zs.length < 1000000∧eO C p G tt te ρc K r (up μ3 p (.lst (zs++[y])))) (eO C p G tt te ρc K r μ2)
def lq (To:ETr)(G:GTr)(tt:TTr)(te:ETr)(n:Nat)(caps:List Nat):ETr:=fun ρ μ Q=>To ρ μ fun x μ1=>kObj x fun a=>kL μ1 a fun ds=>∀ p,μ1 p=none→
  eO (fun μ=>μ a=some (.lst ds)) p G tt te (c9 ρ n caps) (fun μ'=>kL μ' p fun zs=>Q (.ls zs) (dn μ' p)) ds (up μ1 p (.lst []))
theorem qx {K:PySem.W.Frag}{ta:TE}{To:ETr}{G:GTr}{Tt:TTr}{Te:ETr}{n:Nat}{caps:List Nat}(sa:Sim K ta To):Sim K (sy (oW (xJ K ta) (jK K n G) (liftT K Tt) (jM K Te) n caps)) (lq To G Tt Te n caps):=by
  intro σ H ρ μ Q Q' rl h k
  refine sa σ H ρ μ _ _ rl h fun x H1 dx μ1 t1 m1 px hx=>?_
  obtain ⟨q,rfl,hx⟩:=d8 px hx
  obtain ⟨ds,eq0,h1⟩:=a9 hx
  obtain ⟨xs0,exs0,l0⟩:=m1 q _ eq0
  refine ⟨q,rfl,⟨_,SqL.of exs0⟩,fun D hD=>?_⟩
  have hp:=h1 D (m1.free hD)
  have tD:Tk H1 (L2.upd H1 D (.lst [])):=.new hD
  have mD:aV K (L2.upd H1 D (.lst [])) (up μ1 D (.lst [])):=fun a o e=>by
    by_cases ha:a=D
    · subst ha
      rw[ax] at e;cases e
      exact ⟨[],az,.nil⟩
    · rw[aJ ha] at e
      exact bS m1 hD a o e
  refine ⟨fun i m ys H2=>m=ds.length - i∧i≤ds.length∧Tk H1 H2∧∃ μ2,aV K H2 μ2∧eO (fun μ=>μ q=some (.lst ds)) D G Tt Te (c9 ρ n caps) (fun μ'=>kL μ' D fun zs=>Q (.ls zs) (dn μ' D)) (ds.drop i) μ2,
    ⟨ds.length,by simp,Nat.zero_le _,tD,_,mD,by simpa using hp⟩,?_⟩
  rintro i m ys H2 ⟨rfl,hi,t12,μ2,m2,h2⟩
  have hg:μ2 q=some (.lst ds):=by
    cases hdr:ds.drop i with
    | nil=>rw[hdr] at h2;exact h2.1
    | cons=>rw[hdr] at h2;exact h2.1
  obtain ⟨xs2,ex2,l2⟩:=m2 q _ hg
  have ll:=l2.length
  by_cases hlt:i < ds.length
  · refine .inr ⟨⟨xs2,xs2[i]'(by omega),SqL.of ex2,List.getElem?_eq_getElem (by omega)⟩,fun ys' H'=>Tk H1 H'∧∃ μ',aV K H' μ'∧eO (fun μ=>μ q=some (.lst ds)) D G Tt Te (c9 ρ n caps) (fun μ'=>kL μ' D fun zs=>Q (.ls zs) (dn μ' D)) (ds.drop (i+1)) μ',fun ys' H' ⟨t',μ',m',h'⟩=>⟨ds.length - (i+1),by omega,rfl,hlt,t',μ',m',h'⟩,fun x H3 y=>?_⟩
    obtain ⟨rfl,y⟩:=y
    have exi:=y xs2 (SqL.of ex2)
    obtain ⟨d,ed,pd⟩:=l2.get' exi
    have e:ds.drop i=d::ds.drop (i+1):=by
      refine (List.drop_eq_getElem_cons hlt).trans ?_
      congr 1
      rw[List.getElem?_eq_getElem hlt] at ed
      exact Option.some.inj ed
    rw[e] at h2
    have t13:=t12
    have r3:Rl K (df σ n caps) H3 (c9 ρ n caps) μ2:=kG (rl.go (t1.trans t13) m2) n caps
    refine ⟨_,_,d,_,r3,pd,h2.2,fun σ4 H4 ρ4 μ4 t4 r4 kp h4=>⟨⟨kp.1.symm,fun j v ej=>?_⟩,_,_,_,r4,h4,fun b H5 μ5 t5 m5 h5=>?_⟩⟩
    · by_cases hj:n≤j
      · rw[kp.2 j hj];exact ej
      · obtain ⟨j',k',e1,_⟩:=dR ej
        omega
    · have t15:=t13.trans (t4.trans t5)
      cases b with
      | false=>exact mw ⟨t15,μ5,m5,h5⟩
      | true=>
        refine l6 ⟨_,_,_,r4.go t5 m5,h5,fun v H6 d6 μ6 t6 m6 p6 h6=>?_⟩
        obtain ⟨zs,ez,lz,h7⟩:=a9 h6
        obtain ⟨xs,ex,lx⟩:=m6 D _ ez
        have t67:Tk H6 (L2.upd H6 D (.lst (xs++[v]))):=.upd (fun ys z=>by rw[ex] at z;cases z) fun o' u z=>by rw[ex] at z;cases z
        refine ⟨xs,ex,by rw[lx.length];exact Nat.lt_of_lt_of_le lz (by decide),(t15.trans t6).trans t67,up μ6 D (.lst (zs++[d6])),fun a o ea=>?_,h7⟩
        by_cases ha:a=D
        · subst ha
          rw[ax] at ea;cases ea
          exact ⟨_,az,(lx.append (.cons p6 .nil)).mono t67⟩
        · rw[aJ ha] at ea
          exact (m6 a _ ea).ne t67 ha
  · have e:i=ds.length:=by omega
    subst e
    rw[List.drop_length] at h2
    obtain ⟨zs,ez,hq⟩:=a9 (show kL μ2 D fun zs=>Q (.ls zs) (dn μ2 D) from h2.2)
    obtain ⟨xs,ex,lx⟩:=m2 D _ ez
    refine .inl ⟨⟨xs2,SqL.of ex2,by omega⟩,D,xs,rfl,ex,fun o=>?_⟩
    have t2f:Tk H2 (L2.upd H2 D (.frz o (.lst xs))):=.upd (fun ys z=>by rw[ex] at z;cases z) fun o' u z=>by rw[ex] at z;cases z
    refine k _ _ _ (dn μ2 D) ((t1.trans t12).trans t2f) (fun a o' ea=>?_) (.ls (.inl ⟨o,az⟩) (lx.mono t2f)) hq
    have ha:a≠D:=fun z=>by subst z;unfold dn at ea;rw[if_pos rfl] at ea;cases ea
    have ea':μ2 a=some o':=by unfold dn at ea;rw[if_neg ha] at ea;exact ea
    exact (m2 a _ ea').ne t2f ha
theorem qi {X:Cx}{tg elt iter:Expr}{Te:ETr}{Tt:TTr}{pos spos py:Pos}{y:Str}{To:ETr}{G:GTr}{ifs:List Expr}{scope fsc:Scope}(iy:Nat)(hN:X.N.Nodup)(XN Nc:List Str)(n:Nat)(caps:List Nat)(hxe:X.xe=fun _ _=>False)(hcalm:X.calm=true)(hi:LE X iter To)
    (hbody:∀ (cl:List (Str×Addr)) (C:Addr) (s₀:Shared) (H₀:Hp) (ex:List Addr),LGc (aN X scope Nc cl C s₀ H₀ ex) n tg G∧qv (aN X scope Nc cl C s₀ H₀ ex) ifs Tt∧LE (aN X scope Nc cl C s₀ H₀ ex) elt Te)
    (hsc:X.env.scope=fsc) (hXN:X.N=XN) (hok:fM fsc.names XN scope Nc n caps=true)
    (hiy:X.N[iy]? = some y:=by rfl) (hx:Loc X.env.scope y:=by first | exact Or.inl rfl | exact Or.inr rfl) (hf:X.fn y=true∨X.env.scope.names.lookup y=some .local:=by first | exact .inl rfl | exact .inr rfl | assumption)
    (hsw:swapsWith (.ListComp elt [⟨tg,iter,ifs,0⟩] scope pos) (some (.Name y py)) spos.line X.env=pure true:=by rfl)
    (hs:∀ x,foldedSetIterable iter X.env x=pure x:=by intro _;rfl) :
    LS X (.Assign [.Name y py] (.ListComp elt [⟨tg,iter,ifs,0⟩] scope pos) spos) (aU (lq To G Tt Te n caps) (aq iy)):=by
  unfold fM at hok
  simp only[Bool.and_eq_true,List.all_eq_true] at hok
  obtain ⟨⟨⟨h1,h2⟩,h3⟩,h4⟩:=hok
  obtain ⟨ta,pa,sa⟩:=hi.ex
  refine ⟨_,pP (g:=jK X.K n G) (tt:=liftT X.K Tt) (te:=jM X.K Te) hxe hcalm (vo pa) (fun cl C s₀ H₀ ex=>let ⟨h1,h2,h3⟩:=hbody cl C s₀ H₀ ex;⟨h1.pe,h2.pe,h3.pe⟩) (fun y hy hf=>?_) (fun y hy hf=>?_) (by simpa using h2) (fun y hy hf=>?_) (by simpa using h3) (fun j k hj=>?_) (fk hN hiy hx hf) hsw hs,fun σ H ρ μ E E' rl h k=>qx sa σ H ρ μ _ _ rl h fun v H' d μ' t' m' p' h'=>el iy σ H' ρ μ' v d _ _ (rl.go t' m') p' h' (k.go t').nx⟩
  · have:=(h1 y hy).1.1
    show X.env.scope.names.lookup y.1=_
    rw[hsc]
    simpa[hf] using this
  · have:=(h1 y hy).1.2
    simp[hf] at this
  · have:=(h1 y hy).2
    simpa[hf] using this
  · have hl:j < caps.length:=(List.getElem?_eq_some_iff.mp hj).1
    have:=h4 j (List.mem_range.mpr hl)
    rw[hj] at this
    dsimp only at this
    rw[hXN]
    cases e:XN[k]? with
    | none=>rw[e] at this;cases this
    | some x=>
      rw[e] at this
      dsimp only at this
      rw[Bool.and_eq_true] at this
      exact ⟨x,by simpa using this.1,rfl,by simpa using this.2⟩
end
theorem xb (a b:ETr)(ρ:ST)(μ:Mu)(Q:DK):aK a b ρ μ Q=a ρ μ fun x μ1=>b ρ μ1 fun y μ2=>kObj x fun a=>kD μ2 a fun kvs=>mE y fun k=>kO (aL kvs k) fun d=>Q d μ2:=propext Iff.rfl
theorem wA (a b e:ETr)(nx:ST→Mu→Prop)(rt:DK)(bk ct:ST→Mu→Prop)(ρ:ST)(μ:Mu):dP a b e ⟨nx,rt,bk,ct⟩ ρ μ=e ρ μ fun v μ1=>a ρ μ1 fun x μ2=>b ρ μ2 fun y μ3=>kObj x fun a=>kD μ3 a fun kvs=>mE y fun k=>kvs.length < 1000000∧nx ρ (up μ3 a (.dct (putD kvs k v))):=propext Iff.rfl
theorem vh (f:Int→Int→Int)(a b e:ETr)(nx:ST→Mu→Prop)(rt:DK)(bk ct:ST→Mu→Prop)(ρ:ST)(μ:Mu):cZ f a b e ⟨nx,rt,bk,ct⟩ ρ μ=a ρ μ fun x μ1=>b ρ μ1 fun y μ2=>kObj x fun a=>kD μ2 a fun kvs=>mE y fun k=>kO (aL kvs k) fun d=>kI d fun m=>e ρ μ2 fun w μ3=>kI w fun n=>kD μ3 a fun kvs3=>kvs3.length < 1000000∧nx ρ (up μ3 a (.dct (putD kvs3 k (.int (f m n))))):=propext Iff.rfl
theorem vk (ks:List L2.Key)(t:ATr)(ρ:ST)(μ:Mu)(Q:DK):sU ks t ρ μ Q = ∀ p,μ p=none→t ρ (up μ p (.dct [])) fun ds μ2=>kD μ2 p fun kvs=>kvs=[]∧Q (.obj p) (up μ2 p (.dct (ks.zip ds))):=propext Iff.rfl
theorem zX (a b:ETr)(ρ:ST)(μ:Mu)(Q:DK):yt a b ρ μ Q=a ρ μ fun x μ1=>kObj x fun a=>kL μ1 a fun _=>b ρ μ1 fun y μ2=>kI y fun j=>(-9223372036854775808≤j∧j < 9223372036854775808)∧kL μ2 a fun ds=>kN (L2.ixN ds.length j) fun k=>kO ds[k]? fun d=>Q d (up μ2 a (.lst (ds.eraseIdx k))):=propext Iff.rfl
theorem t9 (a b:ETr)(ρ:ST)(μ:Mu)(Q:DK):nH a b ρ μ Q=a ρ μ fun x μ1=>pW μ1 x fun _=>b ρ μ1 fun y μ2=>pW μ2 x fun ds=>(bB 38 ds=true∧okD 38 y=true)∧kN (qI ds y) fun j=>j < 1000000∧Q (.int j) μ2:=propext Iff.rfl
theorem zb (a:ETr)(ρ:ST)(μ:Mu)(Q:List D→Mu→Prop):eW a ρ μ Q=a ρ μ fun x μ1=>kS x fun ds=>Q ds μ1:=propext Iff.rfl
theorem Am (n:Bool)(x:D)(ds:List D)(μ:Mu)(Q:DK):nG n x (.ls ds) μ Q=((bB 38 ds=true∧okD 38 x=true)∧Q (.bl (if n then !inG x ds else inG x ds)) μ):=propext Iff.rfl
theorem zE (μ:Mu)(ds:List D)(f:List D→Prop):pW μ (.ls ds) f=f ds:=propext Iff.rfl
theorem Aa (s:Str)(f:L2.Key→Prop):mE (.str s) f=f (.inr s):=propext Iff.rfl
theorem xA {μ:Mu}{a:Addr}{ds:List (L2.Key×D)}(h:μ a=some (.dct ds))(f):kD μ a f=f ds:=by unfold kD;rw[h]
theorem BB (μ:Mu)(a:Addr)(ds:List (L2.Key×D))(f:List (L2.Key×D)→Prop):kD (up μ a (.dct ds)) a f=f ds:=xA ax f
theorem gf {μ:Mu}{a:Addr}{ds:List (L2.Key×D)}{f:List (L2.Key×D)→Prop}(e:μ a=some (.dct ds))(h:f ds):kD μ a f:=by rw[xA e];exact h
theorem xw (xs:List D)(μ:Mu)(Q:DK):fw mV [.ls xs] μ Q=(∃ kvs:List (L2.Key×D),xs=kvs.map oS∧kvs.length≤1000000∧∀ p,μ p=none→Q (.obj p) (up μ p (.dct (cm [] kvs)))):=propext Iff.rfl
theorem yX (i j:Str)(μ:Mu)(Q:DK):yI (.str i) (.str j) μ Q=Q (.bl (ltS j i)) μ:=propext Iff.rfl
theorem IsPart.of_eq {a b c d x y:Int}(h:IsPart a b x y)(hb:0 < b)(hd:0 < d)(e:a*d=c*b):IsPart c d x y:=by
  have xd:x*d=c*y:=by
    refine Int.eq_of_mul_eq_mul_right (a:=b) (by omega) ?_
    calc x*d*b=(x*b)*d:=by ac_rfl
      _=(a*y)*d:=by rw[h.e]
      _=(a*d)*y:=by ac_rfl
      _=(c*b)*y:=by rw[e]
      _=c*y*b:=by ac_rfl
  have y0:=h.q0
  have dx:x ∣ c:=by
    have:x ∣ y*c:=⟨d,by rw[Int.mul_comm y c];exact xd.symm⟩
    have h':=Int.dvd_gcd_mul_iff_dvd_mul.mpr this
    rw[h.g] at h'
    simpa using h'
  have dy:y ∣ d:=by
    have:y ∣ x*d:=⟨c,by rw[xd,Int.mul_comm]⟩
    have h':=Int.dvd_gcd_mul_iff_dvd_mul.mpr this
    rw[Int.gcd_comm,h.g] at h'
    simpa using h'
  refine ⟨h.q0,h.g,xd,?_,Nat.le_of_dvd (by omega) (Int.natAbs_dvd_natAbs.mpr dy)⟩
  by_cases hc:c=0
  · subst hc
    have:x=0:=by
      rcases Int.mul_eq_zero.mp (show x*d=0 by rw[xd,Int.zero_mul]) with z | z
      · exact z
      · omega
    rw[this];exact Nat.le_refl _
  · exact Nat.le_of_dvd (by omega) (Int.natAbs_dvd_natAbs.mpr dx)
structure Vl (d:D) (a b:Int):Prop where
  ex:∃ p q,d=fr p q∧IsPart a b p q
  b0:0 < b
theorem Vl.of_eq {d:D}{a b a' b':Int}(h:Vl d a b)(hb:0 < b')(e:a*b'=a'*b):Vl d a' b':=by
  obtain ⟨⟨p,q,rfl,P⟩,b0⟩:=h
  exact ⟨⟨p,q,rfl,P.of_eq b0 hb e⟩,hb⟩
def Le (a A:Int):Prop:=-A≤a∧a≤A
theorem Le.mono {a A B:Int}(h:Le a A)(hb:A≤B):Le a B:=⟨by have:=h.1;omega,by have:=h.2;omega⟩
theorem Le.of {a A:Int}(h0:0≤a)(h1:a≤A):Le a A:=⟨by omega,h1⟩
theorem Le.sub {a b A B:Int}(h:Le a A)(k:Le b B):Le (a - b) (A+B):=⟨by have:=h.1;have:=k.2;omega,by have:=h.2;have:=k.1;omega⟩
theorem Le.neg {a A:Int}(h:Le a A):Le (-a) A:=⟨by have:=h.2;omega,by have:=h.1;omega⟩
theorem Le.abs {a A:Int}(h:Le a A):(a.natAbs:Int)≤A:=by have:=h.1;have:=h.2;omega
theorem Le.AV {a A:Int}(h:(a.natAbs:Int)≤A):Le a A:=⟨by omega,by omega⟩
theorem Le.mul {a b A B:Int}(h:Le a A)(k:Le b B):Le (a*b) (A*B):=by
  refine .AV ?_
  rw[Int.natAbs_mul,Int.natCast_mul]
  have a0:(0:Int)≤(a.natAbs:Int):=Int.natCast_nonneg _
  have b0:(0:Int)≤(b.natAbs:Int):=Int.natCast_nonneg _
  exact Int.mul_le_mul h.abs k.abs b0 (Int.le_trans a0 h.abs)
abbrev Bd (a:Int):Prop:=Le a 1000000000000000000000000000000
theorem Bd.m {a:Int}(h:Bd a):eJ a:=by have:=h.1;have:=h.2;unfold eJ;omega
theorem Bd.mm {a b:Int}(h:Bd a)(k:Bd b):eJ (a*b):=by
  have:=(h.mul k).1;have:=(h.mul k).2
  unfold eJ;omega
theorem Bd.mul {a b:Int}(h:Bd a)(k:Bd b):MulOk a b:=.inr ⟨h.m,k.m⟩
inductive Wd | still | step | swell | heed | calm
  deriving DecidableEq
structure RN where
  wd:Wd
  p:Int
  q:Int
  x:Int
  y:Int
  a:Int
  b:Int
  l:Int
  h:Int
  r:Int
  s:Int
def Wd.str:Wd→Str
  | .still=>Str.ofString "still"
  | .step=>Str.ofString "step"
  | .swell=>Str.ofString "swell"
  | .heed=>Str.ofString "heed"
  | .calm=>Str.ofString "calm"
def RN.toD (R:RN):D:=match R.wd with
  | .still=>.tup [.str "still", fr R.p R.q]
  | .step=>.tup [.str "step", fr R.p R.q,fr R.x R.y,fr R.a R.b,fr R.r R.s]
  | .swell=>.tup [.str "swell", fr R.p R.q,fr R.x R.y,fr R.a R.b,fr R.r R.s]
  | .heed=>.tup [.str "heed", fr R.p R.q,fr R.x R.y,fr R.a R.b,fr R.r R.s]
  | .calm=>.tup [.str "calm", fr R.p R.q,fr R.x R.y,.int R.l,.int R.h,fr R.r R.s]
structure RN.Ok (R:RN):Prop where
  w:FrB 1 60 R.p R.q
  t:FrB 1 60 R.r R.s
  wt:R.p*R.s≤R.r*R.q
  u:FrA 0 60 R.x R.y
  u1:R.wd=.swell→R.y < R.x
  g:FrA 0 1 R.a R.b
  d1:R.wd=.step∨R.wd=.swell→R.a < R.b
  l0:0≤R.l
  lh:R.l≤R.h
  h1:R.h≤60
  st:R.wd=.still→R.r=R.p∧R.s=R.q
structure Hd where
  good:Int
  mark:Int
  sX:Int
  wt:Int
structure Hd.Ok (h:Hd):Prop where
  g0:0≤h.good
  g1:h.good≤1000000
  m0:0≤h.mark
  m1:h.mark≤1000000
  l0:0≤h.sX
  l1:h.sX≤1000000
  w0:0≤h.wt
def Hd.toD (h:Hd):D:=.tup [.int h.good,.int h.mark,.int h.sX,.int h.wt]
def Hd.bad (h:Hd):Int:=h.mark+h.sX
def Hd.many (h:Hd):Int:=h.good+h.bad
def RN.idle (R:RN)(h:Hd):Prop:=R.wd=.still∨h.good+h.mark+h.sX=0
instance (R:RN) (h:Hd):Decidable (R.idle h):=by unfold RN.idle;infer_instance
local macro_rules | `(tactic| walk_at "rd")=>`(tactic| try simp only[ah,TC,ak,TUn,u3,za,rK,TB,ja,TOr,qS,qz,nV,au,af,dF,gq,mL,ao,cI,aD,oN,jJ,gn,cy,tm,eS,aq,aU,qr,oh,gv,cH,eW,cJ,d7,c9,fN,AG,ILs,
  sJ,sQ,uC,rB,rD,ng,gI,n5,tK,oi,kC,pI,i4,lD,kT,lB,kA,lX,eQ,nk,iI,iX,ig,iu,iG,iQ,iH,gS,gO,TSl,ONo,jl,u0,rL,uq,rR,qX,uM,nW,ou,uF,rf,uW,iS,gW,gR,nX,nq,ow,nN,nD,nj,nY,oE,nO,rZ,sC,tP,uS,sF,u6,rJ,rS,ui,oT,oJ,oV,oQ,nP,oe,nr,nZ,mZ,nS,
  lk,ini,List.map,List.length,List.replicate,List.append,List.set,List.cons_append,List.nil_append,Nat.sub_self,Nat.reduceSub,Nat.reduceAdd,
  pk,pz,pM,pT,pF,pS,List.getElem?_cons_zero,List.getElem?_cons_succ,ax,ff,Nat.reduceLT,Nat.reduceLeDiff,if_true,if_false,true_and,and_true,Bool.not_true,Bool.not_false,Nat.lt_add_one,Nat.zero_lt_succ,Nat.succ_lt_succ_iff,Nat.zero_lt_one,
  decide_eq_true_eq,Bool.false_eq_true,ite_false,ite_true,ne_eq,not_false_eq_true,Int.reduceToNat,Int.reducePow,Int.reduceNeg,Int.reduceSub,Int.reduceAdd,Int.reduceMul,Int.reduceEq,okD,bB,eqD,jz,Bool.and_self,Bool.and_true,Bool.true_and,gA,fS,decide_true,decide_false,Bool.or_true,Bool.or_false,Bool.true_or,Bool.false_or,Bool.and_false,Bool.false_and,and_self,bQ,br,bN,bF,bD,bO,bX,b6,bw,bL,bP,bK,bM,b8,bJ,bY,bH,b4,bE,b5,fB,qu,uz,qw,tO,tY,dk,dH,dz,dD,du,dE,dA])
theorem RN.tup (R:RN)(hst:R.wd=.still→R.r=R.p∧R.s=R.q):∃ xs,R.toD=.tup xs∧xs[0]? = some (.str R.wd.str)∧xs[1]? = some (fr R.p R.q)∧xs[xs.length - 1]? = some (fr R.r R.s)∧xs≠[]:=by
  obtain ⟨wd,p,q,x,y,a,b,l,h,r,s⟩:=R
  cases wd
  · obtain ⟨e1,e2⟩:=hst rfl
    dsimp only at e1 e2
    subst e1 e2
    exact ⟨_,rfl,rfl,rfl,rfl,nofun⟩
  all_goals exact ⟨_,rfl,rfl,rfl,rfl,nofun⟩
def Gd (g:Int):Prop:=1≤g∧g≤60
def AK:=Jn @yD <| Jn @vC <| Jn @zF <| Jn @vH <| Jn @Af <| Jn @vg <| Jn @z6 <| Jn @vX <| Jn @yz <| Jn @wy <| Jn @Ai <| Jn @wZ <| Jn @yk <| Jn @wO <| Jn @zr <| Jn @w8 <| Jn @zL <| Jn @vx <| Jn @zQ <| Jn @vQ <| Jn @xt <| Jn @uZ <| Jn @wu <| Jn @tU <| Jn @BJ <| Jn @An <| Jn @BM <| Jn @yY <| Jn @AY <| Jn @yf <| Jn @zA <| Jn @zz <| Jn @wC <| Jn @zt <| Jn @y8 <| Jn @zh <| Jn @wz <| Jn @vM <| Jn @yl <| Jn @vW <| Jn @wg <| Jn @zC <| Jn @Ag <| Jn @Aj <| Jn @yS <| Jn @yi <| Jn @qm <| Jn @ya <| Jn @yy <| Jn @A8 <| Jn @Bq <| Jn @yE <| Jn @yH <| Jn @zp <| Jn @A3 <| Jn @Bb <| Jn @AI <| Jn @A2 <| Jn @Ax <| Jn @BD <| Jn @wU <| Jn @xf <| Jn @wD <| Jn @sj <| Jn @qC <| Jn @tw <| Jn @wG <| Jn @uf <| Jn @qU <| Jn @pI <| Jn @qP <| Jn @qF <| Jn @qf <| Jn @ub <| Jn @rF <| Jn @sO <| Jn @sZ <| Jn @tf <| Jn @wM <| Jn @vj <| Jn @vU <| Jn @xi <| Jn @zP <| Jn @zd <| Jn @y6 <| Jn @zB <| Jn @y1 <| Jn @um <| Jn @uG <| Jn @u7 <| Jn @uc <| Jn @uD <| @yR
local macro_rules | `(tactic| walk_at "go")=>`(tactic| try simp only[↓AK,↓gM,↓eQ,bQ,br,bN,bF,bD,bO,bX,b6,bw,bL,bP,bK,bM,b8,bJ,bY,bH,b4,bE,b5,fB,xq,uR,ee,pE,jZ,lG,kn,gE,gL,gH,gF,true_and,and_true,and_self,Bool.not_true,Bool.not_false,decide_true,decide_false,Bool.or_true,Bool.or_false,Bool.true_or,Bool.false_or,Bool.and_false,Bool.false_and,Bool.and_true,Bool.true_and,Int.reduceToNat,Int.reducePow,Int.reduceNeg,Int.reduceSub,Int.reduceAdd,Int.reduceMul,Int.reduceEq,Int.reduceLT,Int.reduceLE,Int.reduceBEq,ff,dk,dH,dz,dD,du,dE,dA,if_true,if_false,Bool.false_eq_true,reduceCtorEq,decide_eq_true_eq])
local macro_rules | `(tactic| walk_at "ini")=>`(tactic| simp only[ini,List.map,List.length,List.replicate,Nat.reduceSub,Nat.reduceAdd,Nat.sub_self,List.cons_append,List.nil_append,List.append_nil])
theorem fU {xs:List D}{P:D→Prop}(h:∀ d∈xs,P d){k:Int}(k0:0≤k)(k1:k < xs.length):∃ d,atD xs k=some d∧P d:=by
  obtain ⟨j,rfl⟩:=Int.eq_ofNat_of_zero_le k0
  rw[cu]
  have hj:j < xs.length:=by omega
  exact ⟨xs[j],by simp[hj],h _ (List.getElem_mem hj)⟩
def IsL (hi:Int)(d:D):Prop:=∃ p q,d=fr p q∧FrL hi p q
def IsI (lo hi:Int)(d:D):Prop:=∃ i:Int,d=.int i∧lo≤i∧i≤hi
theorem fD {P:D→Prop}:∀ d∈([]:List D),P d:=fun _ h=>nomatch h
theorem aT {P:D→Prop}{a:D}{xs:List D}(h:P a)(k:∀ d∈xs,P d):∀ d∈a::xs,P d:=fun d hd=>by
  rcases List.mem_cons.mp hd with e | e
  · rw[e];exact h
  · exact k d e
local macro_rules | `(tactic| walk_at "all")=>`(tactic| repeat' (first | exact fD | refine aT ?_ ?_))
structure jB (b p:Addr) (xs:List D) (μ μ':Mu):Prop where
  box:Box μ' b
  ne:p≠b
  new:μ p=none
  at':μ' p=some (.lst xs)
  oth:∀ a,a≠b→a≠p→μ' a=μ a
theorem jB.go {b p:Addr}{xs:List D}{μ μ1 μ2:Mu}(h:jB b p xs μ μ1)(B:gZ b μ1 μ2):jB b p xs μ μ2:=
  ⟨B.box,h.ne,h.new,by rw[B.oth p h.ne];exact h.at',fun a h1 h2=>by rw[B.oth a h1];exact h.oth a h1 h2⟩
theorem jB.set {b p:Addr}{xs ys:List D}{μ μ1:Mu}(h:jB b p xs μ μ1):jB b p ys μ (up μ1 p (.lst ys)):=by
  obtain ⟨g,s,c,e,hh⟩:=h.box
  exact ⟨⟨g,s,c,by rw[aJ h.ne.symm];exact e,hh⟩,h.ne,h.new,ax,fun a h1 h2=>by rw[aJ h2];exact h.oth a h1 h2⟩
theorem zU (μ:Mu)(p:Addr):Sub (dn μ p) μ:=fun a o e=>by
  unfold dn at e
  split at e
  · cases e
  · exact e
theorem jB.fin {b p:Addr}{xs:List D}{μ μ1:Mu}(h:jB b p xs μ μ1):gZ b μ (dn μ1 p):=by
  obtain ⟨g,s,c,e,hh⟩:=h.box
  refine ⟨⟨g,s,c,?_,hh⟩,fun a ha=>?_⟩
  · unfold dn;rw[if_neg h.ne.symm];exact e
  · unfold dn
    split
    · rename_i z;subst z;exact h.new.symm
    · rename_i z;exact h.oth a ha z
theorem jB.rt {b p:Addr}{xs:List D}{μ μ1:Mu}{Q:DK}{d:D}(h:jB b p xs μ μ1)(k:∀ μ',gZ b μ μ'→Q d μ'):RT Q d μ1:=⟨_,zU μ1 p,k _ h.fin⟩
theorem eB {p:Addr}{G:GTr}{tt:TTr}{te:ETr}{ρc:ST}{K:Mu→Prop}(P:List D→Mu→Prop)(hnil:∀ μ,P [] μ→K μ)
    (hcons:∀ d r μ (N:Mu→Prop),P (d::r) μ→(∀ μ',P r μ'→N μ')→G d ρc μ fun ρ1 μ1=>tt ρ1 μ1 fun b μ2=>kIf b (te ρ1 μ2 fun y μ3=>kL μ3 p fun zs=>zs.length < 1000000∧N (up μ3 p (.lst (zs++[y])))) (N μ2)) :
    ∀ (ds:List D) (μ:Mu),P ds μ→d7 p G tt te ρc K ds μ
  | [],μ,h=>hnil μ h
  | d::r,μ,h=>hcons d r μ _ h fun μ' q=>eB P hnil hcons r μ' q
theorem rU (d0:D)(r:List D)(f:D→Prop):kO (atD (d0::r) 0) f=f d0:=by rw[pk];rfl
theorem rg (d0 d1:D)(r:List D)(f:D→Prop):kO (atD (d0::d1::r) 1) f=f d1:=by rw[pz];rfl
theorem uU (d0 d1 d2:D)(r:List D)(f:D→Prop):kO (atD (d0::d1::d2::r) 2) f=f d2:=by rw[pM];rfl
theorem sH (d0 d1 d2 d3:D)(r:List D)(f:D→Prop):kO (atD (d0::d1::d2::d3::r) 3) f=f d3:=by rw[pT];rfl
theorem r8 (d0 d1 d2 d3 d4:D)(r:List D)(f:D→Prop):kO (atD (d0::d1::d2::d3::d4::r) 4) f=f d4:=by rw[pF];rfl
theorem rO (d0 d1 d2 d3 d4 d5:D)(r:List D)(f:D→Prop):kO (atD (d0::d1::d2::d3::d4::d5::r) 5) f=f d5:=by rw[pS];rfl
def m9 (G:GTr)(tt:TTr)(te:ETr)(ρc:ST)(ds:List D)(μ:Mu)(Q:DK):Prop:=∀ p,μ p=none→d7 p G tt te ρc (fun μ'=>kL μ' p fun zs=>Q (.ls zs) (dn μ' p)) ds (up μ p (.lst []))
theorem vw (it:ATr)(G:GTr)(tt:TTr)(te:ETr)(n:Nat)(caps:List Nat)(ρ:ST)(μ:Mu)(Q:DK):cJ it G tt te n caps ρ μ Q=it ρ μ fun ds μ1=>m9 G tt te (c9 ρ n caps) ds μ1 Q:=propext Iff.rfl
theorem zj (ρ:ST)(μ:Mu)(Q:Bool→Mu→Prop):fN ρ μ Q=Q true μ:=propext Iff.rfl
section
variable {G:GTr} {tt:TTr} {te:ETr} {ρc:ST} {ds:List D} {μ:Mu} {Q:DK}
theorem gK (f:D→Option D)(hl:ds.length≤999999)
    (step:∀ d∈ds,∀ μ',Sub μ μ'→∀ (N:Option D→Mu→Prop),N (f d) μ'→G d ρc μ' fun ρ1 μ1=>tt ρ1 μ1 fun b μ2=>kIf b (te ρ1 μ2 fun y μ3=>N (some y) μ3) (N none μ2))
    (k:Q (.ls (ds.filterMap f)) μ):m9 G tt te ρc ds μ Q:=by
  intro p hp
  refine eB (fun r μ'=>∃ done,ds=done++r∧μ'=up μ p (.lst (done.filterMap f))) ?_ ?_ _ _ ⟨[],rfl,rfl⟩
  · rintro μ' ⟨done,e,rfl⟩
    rw[List.append_nil] at e
    subst e
    refine bf ax ?_
    rw[tT hp];exact k
  · rintro d r μ' N ⟨done,e,rfl⟩ hN
    have hd:d∈ds:=by rw[e];simp
    have e':ds=(done++[d])++r:=by rw[e];simp
    have lf:(done.filterMap f).length < 1000000:=by
      have h1:=List.length_filterMap_le f done
      have h2:ds.length=done.length+(d::r).length:=by rw[e,List.length_append]
      rw[List.length_cons] at h2;omega
    refine step d hd _ (Sub.new hp) (fun oy μ3=>match oy with
      | some y=>kL μ3 p fun zs=>zs.length < 1000000∧N (up μ3 p (.lst (zs++[y])))
      | none=>N μ3) ?_
    cases hf:f d with
    | none=>
      refine hN _ ⟨done++[d],e',?_⟩
      rw[List.filterMap_append];simp[hf]
    | some y=>
      refine bf ax ⟨lf,hN _ ⟨done++[d],e',?_⟩⟩
      rw[List.filterMap_append,ff];simp[hf]
theorem comp_map (f:D→D)(hl:ds.length≤999999)
    (step:∀ d∈ds,∀ μ',Sub μ μ'→∀ (N:DK),N (f d) μ'→G d ρc μ' fun ρ1 μ1=>te ρ1 μ1 N)
    (k:Q (.ls (ds.map f)) μ):m9 G fN te ρc ds μ Q:=by
  refine gK (fun d=>some (f d)) hl (fun d hd μ' s N n=>?_) (by rw[show (fun d=>some (f d))=some ∘ f from rfl,List.filterMap_eq_map];exact k)
  exact step d hd μ' s (fun y μ3=>N (some y) μ3) n
theorem su (I:List D→List D→Prop)(h0:I ds [])(hl:ds.length≤999999)
    (step:∀ d r zs μ',Sub μ μ'→I (d::r) zs→∀ (N:Option D→Mu→Prop),(∀ oy,I r (zs++oy.toList)→N oy μ')→G d ρc μ' fun ρ1 μ1=>tt ρ1 μ1 fun b μ2=>kIf b (te ρ1 μ2 fun y μ3=>N (some y) μ3) (N none μ2))
    (k:∀ zs,I [] zs→Q (.ls zs) μ):m9 G tt te ρc ds μ Q:=by
  intro p hp
  refine eB (fun r μ'=>∃ zs,I r zs∧zs.length+r.length≤ds.length∧μ'=up μ p (.lst zs)) ?_ ?_ _ _ ⟨[],h0,by simp,rfl⟩
  · rintro μ' ⟨zs,hI,_,rfl⟩
    refine bf ax ?_
    rw[tT hp];exact k zs hI
  · rintro d r μ' N ⟨zs,hI,hz,rfl⟩ hN
    rw[List.length_cons] at hz
    refine step d r zs _ (Sub.new hp) hI (fun oy μ3=>match oy with
      | some y=>kL μ3 p fun zs=>zs.length < 1000000∧N (up μ3 p (.lst (zs++[y])))
      | none=>N μ3) ?_
    intro oy hoy
    cases oy with
    | none=>exact hN _ ⟨zs,by simpa using hoy,by omega,rfl⟩
    | some y=>
      refine bf ax ⟨by omega,hN _ ⟨zs++[y],hoy,by rw[List.length_append];simp;omega,?_⟩⟩
      rw[ff]
theorem sx {α:Type}(xs:List α)(t:α→D)(h:α→Option D)(hds:ds=xs.map t)(hl:xs.length≤999999)
    (step:∀ x∈xs,∀ μ',Sub μ μ'→∀ (N:Option D→Mu→Prop),N (h x) μ'→G (t x) ρc μ' fun ρ1 μ1=>tt ρ1 μ1 fun b μ2=>kIf b (te ρ1 μ2 fun y μ3=>N (some y) μ3) (N none μ2))
    (k:Q (.ls (xs.filterMap h)) μ):m9 G tt te ρc ds μ Q:=by
  subst hds
  refine su (fun r zs=>∃ a c,xs=a++c∧r=c.map t∧zs=a.filterMap h) ⟨[],xs,rfl,rfl,rfl⟩ (by simpa using hl) ?_ ?_
  · rintro d r zs μ' sb ⟨a,c,e,er,rfl⟩ N hN
    cases c with
    | nil=>cases er
    | cons x c=>
    cases er
    refine step x (by rw[e];simp) μ' sb N (hN _ ⟨a++[x],c,by rw[e];simp,rfl,?_⟩)
    rw[List.filterMap_append]
    cases hx:h x<;>simp[hx]
  · rintro zs ⟨a,c,e,er,rfl⟩
    have:c=[]:=by cases c with | nil=>rfl | cons=>cases er
    subst this
    rw[List.append_nil] at e
    subst e;exact k
theorem fI {α:Type}(xs:List α)(t:α→D)(h:α→D)(hds:ds=xs.map t)(hl:xs.length≤999999)
    (step:∀ x∈xs,∀ μ',Sub μ μ'→∀ (N:DK),N (h x) μ'→G (t x) ρc μ' fun ρ1 μ1=>te ρ1 μ1 N)
    (k:Q (.ls (xs.map h)) μ):m9 G fN te ρc ds μ Q:=by
  refine sx xs t (fun x=>some (h x)) hds hl (fun x hx μ' s N n=>?_) (by rw[show (fun x=>some (h x))=some ∘ h from rfl,List.filterMap_eq_map];exact k)
  exact step x hx μ' s (fun y μ3=>N (some y) μ3) n
def sA (a:Addr)(full:List D)(G:GTr)(tt:TTr)(te:ETr)(ρc:ST)(ds:List D)(μ:Mu)(Q:DK):Prop:=∀ p,μ p=none→eO (fun μ=>μ a=some (.lst full)) p G tt te ρc (fun μ'=>kL μ' p fun zs=>Q (.ls zs) (dn μ' p)) ds (up μ p (.lst []))
theorem uT (To:ETr)(G:GTr)(tt:TTr)(te:ETr)(n:Nat)(caps:List Nat)(ρ:ST)(μ:Mu)(Q:DK):lq To G tt te n caps ρ μ Q=To ρ μ fun x μ1=>kObj x fun a=>kL μ1 a fun ds=>sA a ds G tt te (c9 ρ n caps) ds μ1 Q:=propext Iff.rfl
theorem iq {C:Mu→Prop}{p:Addr}{ρc:ST}{K:Mu→Prop}(P:List D→Mu→Prop)(hC:∀ r μ,P r μ→C μ)(hnil:∀ μ,P [] μ→K μ)
    (hcons:∀ d r μ (N:Mu→Prop),P (d::r) μ→(∀ μ',P r μ'→N μ')→G d ρc μ fun ρ1 μ1=>tt ρ1 μ1 fun b μ2=>kIf b (te ρ1 μ2 fun y μ3=>kL μ3 p fun zs=>zs.length < 1000000∧N (up μ3 p (.lst (zs++[y])))) (N μ2)) :
    ∀ (ds:List D) (μ:Mu),P ds μ→eO C p G tt te ρc K ds μ
  | [],μ,h=>⟨hC _ _ h,hnil μ h⟩
  | d::r,μ,h=>⟨hC _ _ h,hcons d r μ _ h fun μ' q=>iq P hC hnil hcons r μ' q⟩
theorem t7 {a:Addr}{full:List D}(hm:μ a=some (.lst full))(f:D→Option D)(hl:ds.length≤999999)
    (step:∀ d∈ds,∀ μ',Sub μ μ'→∀ (N:Option D→Mu→Prop),N (f d) μ'→G d ρc μ' fun ρ1 μ1=>tt ρ1 μ1 fun b μ2=>kIf b (te ρ1 μ2 fun y μ3=>N (some y) μ3) (N none μ2))
    (k:Q (.ls (ds.filterMap f)) μ):sA a full G tt te ρc ds μ Q:=by
  intro p hp
  refine iq (fun r μ'=>∃ done,ds=done++r∧μ'=up μ p (.lst (done.filterMap f))) ?_ ?_ ?_ _ _ ⟨[],rfl,rfl⟩
  · rintro r μ' ⟨done,_,rfl⟩
    exact Sub.new hp _ _ hm
  · rintro μ' ⟨done,e,rfl⟩
    rw[List.append_nil] at e
    subst e
    refine bf ax ?_
    rw[tT hp];exact k
  · rintro d r μ' N ⟨done,e,rfl⟩ hN
    have hd:d∈ds:=by rw[e];simp
    have e':ds=(done++[d])++r:=by rw[e];simp
    have lf:(done.filterMap f).length < 1000000:=by
      have h1:=List.length_filterMap_le f done
      have h2:ds.length=done.length+(d::r).length:=by rw[e,List.length_append]
      rw[List.length_cons] at h2;omega
    refine step d hd _ (Sub.new hp) (fun oy μ3=>match oy with
      | some y=>kL μ3 p fun zs=>zs.length < 1000000∧N (up μ3 p (.lst (zs++[y])))
      | none=>N μ3) ?_
    cases hf:f d with
    | none=>
      refine hN _ ⟨done++[d],e',?_⟩
      rw[List.filterMap_append];simp[hf]
    | some y=>
      refine bf ax ⟨lf,hN _ ⟨done++[d],e',?_⟩⟩
      rw[List.filterMap_append,ff];simp[hf]
theorem qk {a:Addr}{full:List D}(hm:μ a=some (.lst full))(f:D→D)(hl:ds.length≤999999)
    (step:∀ d∈ds,∀ μ',Sub μ μ'→∀ (N:DK),N (f d) μ'→G d ρc μ' fun ρ1 μ1=>te ρ1 μ1 N)
    (k:Q (.ls (ds.map f)) μ):sA a full G fN te ρc ds μ Q:=by
  refine t7 hm (fun d=>some (f d)) hl (fun d hd μ' s N n=>?_) (by rw[show (fun d=>some (f d))=some ∘ f from rfl,List.filterMap_eq_map];exact k)
  exact step d hd μ' s (fun y μ3=>N (some y) μ3) n
end
def A5:=Jn @vw <| Jn @uT <| Jn @zj <| Jn @xb <| Jn @wA <| Jn @vh <| Jn @vk <| Jn @zX <| Jn @t9 <| Jn @zb <| Jn @Am <| Jn @zE <| Jn @Aa <| Jn @BB <| Jn @xw <| Jn @yX <| @AK
local macro_rules | `(tactic| walk_at "go")=>`(tactic| try simp only[↓A5,↓rU,↓rg,↓uU,↓sH,↓r8,↓rO,↓gM,↓eQ,bQ,br,bN,bF,bD,bO,bX,b6,bw,bL,bP,bK,bM,b8,bJ,bY,bH,b4,bE,b5,fB,c9,List.map_cons,List.map_nil,List.replicate,List.cons_append,List.nil_append,lk,xq,uR,ee,pE,jZ,lG,kn,gE,gL,gH,gF,true_and,and_true,and_self,Bool.not_true,Bool.not_false,decide_true,decide_false,Bool.or_true,Bool.or_false,Bool.true_or,Bool.false_or,Bool.and_false,Bool.false_and,Bool.and_true,Bool.true_and,Int.reduceToNat,Int.reducePow,Int.reduceNeg,Int.reduceSub,Int.reduceAdd,Int.reduceMul,Int.reduceEq,Int.reduceLT,Int.reduceLE,Int.reduceBEq,ff,dk,dH,dz,dD,du,dE,dA,if_true,if_false,Bool.false_eq_true,reduceCtorEq,decide_eq_true_eq])
abbrev ks (s:String):L2.Key:=.inr (Str.ofString s)
def dh (cs:List Int)(a l g m s:Int):List (L2.Key×D):=[(ks "cells", .ls (cs.map .int)),(ks "at", .int a),(ks "left", .int l),(ks "given", .int g),(ks "many", .int m),(ks "seed", .int s)]
section
variable (cs:List Int) (a l g m s x:Int)
theorem qB:aL (dh cs a l g m s) (.inr (Str.ofString "cells"))=some (.ls (cs.map .int)):=rfl
theorem yr:aL (dh cs a l g m s) (.inr (Str.ofString "at"))=some (.int a):=rfl
theorem rX:aL (dh cs a l g m s) (.inr (Str.ofString "left"))=some (.int l):=rfl
theorem qG:aL (dh cs a l g m s) (.inr (Str.ofString "given"))=some (.int g):=rfl
theorem tH:aL (dh cs a l g m s) (.inr (Str.ofString "many"))=some (.int m):=rfl
theorem sE:aL (dh cs a l g m s) (.inr (Str.ofString "seed"))=some (.int s):=rfl
theorem yT:putD (dh cs a l g m s) (.inr (Str.ofString "at")) (.int x)=dh cs x l g m s:=rfl
theorem tM:putD (dh cs a l g m s) (.inr (Str.ofString "left")) (.int x)=dh cs a x g m s:=rfl
theorem p7:putD (dh cs a l g m s) (.inr (Str.ofString "given")) (.int x)=dh cs a l x m s:=rfl
theorem ug:putD (dh cs a l g m s) (.inr (Str.ofString "many")) (.int x)=dh cs a l g x s:=rfl
theorem tZ:putD (dh cs a l g m s) (.inr (Str.ofString "seed")) (.int x)=dh cs a l g m x:=rfl
theorem wB:(dh cs a l g m s).length < 1000000:=by show 6 < 1000000;decide
end
local macro_rules | `(tactic| walk_at "pot")=>`(tactic| try simp only[qB,yr,rX,qG,tH,sE,yT,tM,p7,ug,tZ,wB,true_and,gI])
local macro_rules | `(tactic| walk_at "gp")=>`(tactic| (walk_at "go";walk_at "pot";walk_at "go";walk_at "pot";walk_at "go";walk_at "pot";walk_at "go";walk_at "pot";walk_at "go"))
def Pot (μ:Mu)(b:Addr):Prop:=∃ (cs:List Int) (a l g m s:Int),μ b=some (.dct (dh cs a l g m s))∧0≤a
structure cx (b:Addr) (μ μ':Mu):Prop where
  pot:Pot μ' b
  oth:∀ a,a≠b→μ' a=μ a
theorem cx.trans {b:Addr}{μ μ1 μ2:Mu}(x:cx b μ μ1)(y:cx b μ1 μ2):cx b μ μ2:=⟨y.pot,fun a h=>(y.oth a h).trans (x.oth a h)⟩
theorem cx.ne {b p:Addr}{μ μ1:Mu}(x:cx b μ μ1)(h:p≠b):μ1 p=μ p:=x.oth p h
theorem Pot.ne {μ:Mu}{b p:Addr}(h:Pot μ b)(hp:μ p=none):p≠b:=fun z=>by subst z;obtain ⟨_,_,_,_,_,_,e,_⟩:=h;rw[hp] at e;cases e
theorem Pot.up {μ:Mu}{b p:Addr}{o:MO}(h:Pot μ b)(hp:p≠b):Pot (up μ p o) b:=by
  obtain ⟨cs,a,l,g,m,s,e,h0⟩:=h
  exact ⟨cs,a,l,g,m,s,by rw[aJ (Ne.symm hp)];exact e,h0⟩
theorem vG {μ:Mu}{b:Addr}{o:MO}(h:μ b=some o):up μ b o=μ:=by
  funext a;unfold L3.up;split
  · rename_i e;subst e;exact h.symm
  · rfl
def Kp (b:Addr)(μ μ':Mu):Prop:=∀ a o,a≠b→μ a=some o→μ' a=some o
theorem Kp.refl (b:Addr)(μ:Mu):Kp b μ μ:=fun _ _ _ h=>h
theorem Kp.trans {b:Addr}{μ μ1 μ2:Mu}(x:Kp b μ μ1)(y:Kp b μ1 μ2):Kp b μ μ2:=fun a o h e=>y a o h (x a o h e)
theorem cx.kp {b:Addr}{μ μ1:Mu}(x:cx b μ μ1):Kp b μ μ1:=fun a o h e=>by rw[x.oth a h];exact e
theorem Kp.new {b p:Addr}{μ:Mu}{o:MO}(h:μ p=none):Kp b μ (up μ p o):=fun a u _ e=>by rw[aJ (fun z=>by subst z;rw[h] at e;cases e)];exact e
theorem Kp.put {b p:Addr}{μ μ1:Mu}{o:MO}(x:Kp b μ μ1)(h:μ p=none):Kp b μ (up μ1 p o):=fun a u n e=>by rw[aJ (fun z=>by subst z;rw[h] at e;cases e)];exact x a u n e
theorem Kp.dn {b p:Addr}{μ μ1:Mu}(x:Kp b μ μ1)(h:μ p=none):Kp b μ (dn μ1 p):=fun a u n e=>by unfold L3.dn;rw[if_neg (fun z=>by subst z;rw[h] at e;cases e)];exact x a u n e
theorem pQ {b:Addr}{μ μ':Mu}{d:D}{Q:DK}(hP:Pot μ' b)(h:Kp b μ μ')(k:∀ μ2,cx b μ μ2→Q d μ2):RT Q d μ':=by
  refine ⟨fun a=>if a=b then μ' a else μ a,fun a o e=>?_,k _ ⟨?_,fun a ha=>by simp only[if_neg ha]⟩⟩
  · dsimp only at e
    split at e
    · exact e
    · rename_i ha;exact h a o ha e
  · obtain ⟨cs,a,l,g,m,s,e,h0⟩:=hP
    exact ⟨cs,a,l,g,m,s,by simp only[if_pos rfl];exact e,h0⟩
def eI:FSp:=fun ds μ Q=>match ds with
  | [.ls xs]=>(∃ ns:List Int,xs=ns.map .int)∧∀ p μ',μ p=none→Pot μ' p→(∀ a,a≠p→μ' a=μ a)→Q (.obj p) μ'
  | _=>False
theorem sI:∀ ds μ Q,eI ds μ Q→ds.length=1:=by
  unfold eI
  walk_at "ln"
def sY:STr:=cy (sU [.inr (Str.ofString "cells"),.inr (Str.ofString "at"),.inr (Str.ofString "left"),.inr (Str.ofString "given"),.inr (Str.ofString "many"),.inr (Str.ofString "seed")] (af (ao eh (af (ah 0) (au))) (af (TC (.int 0)) (af (TC (.int 0)) (af (TC (.int 0)) (af (TC (.int 0)) (af (TC (.int 5)) (au))))))))
theorem vP:∀ ds μ Q,eI ds μ Q→sY { nx:=fun _ μ'=>RT Q .non μ',rt:=RT Q } (ini 1 ds) μ:=by
  intro ds μ Q h
  unfold eI at h
  split at h
  case h_2=>exact h.elim
  rename_i xs
  walk_at "ini"
  unfold sY
  walk_at "go"
  obtain ⟨⟨ns,rfl⟩,k⟩:=h
  intro p hp
  walk_at "go"
  exact ⟨_,.refl _,k p _ hp ⟨ns,0,0,0,0,5,ax,Int.le_refl 0⟩ fun a ha=>aJ ha⟩
def cG:FSp:=fun ds μ Q=>match ds with
  | [.int _,.int _]=>∀ k:Int,Q (.int k) μ
  | _=>False
theorem rj:∀ ds μ Q,cG ds μ Q→ds.length=2:=by
  unfold cG
  walk_at "ln"
def uJ:STr:=aD (aU (ak fG (ak fL (ak aO (ak aO (ak fG (ah 0) (TC (.int 2147483647))) (ak fL (TC (.int 7919)) (ah 1))) (TC (.int 11))) (TC (.int 48271))) (TC (.int 2147483629))) (aq 2)) (aD (aU (ak fG (ak fL (ah 2) (ah 2)) (TC (.int 2147483587))) (aq 3)) (cy (ak fG (ak fL (ak aO (ah 3) (ah 1)) (TC (.int 69621))) (TC (.int 1999999973)))))
theorem wq:∀ ds μ Q,cG ds μ Q→uJ { nx:=fun _ μ'=>RT Q .non μ',rt:=RT Q } (ini 4 ds) μ:=by
  intro ds μ Q h
  unfold cG at h
  split at h
  case h_2=>exact h.elim
  rename_i n t
  walk_at "ini"
  unfold uJ
  walk_at "go"
  have s79:S64 7919:=by unfold S64;decide
  have s48:S64 48271:=by unfold S64;decide
  have s69:S64 69621:=by unfold S64;decide
  refine ⟨by decide,.inl (.inl s79),.inl (.inr s48),by decide,?_⟩
  walk_at "go"
  generalize hx:((n.fmod 2147483647+7919*t+11)*48271).fmod 2147483629=x
  have x0:0≤x:=by rw[← hx];exact fm0 (by decide)
  have x1:x < 2147483629:=by rw[← hx];exact fm1 (by decide)
  refine ⟨.inl (.inl (by unfold S64;omega)),by decide,?_⟩
  walk_at "go"
  exact ⟨.inl (.inr s69),by decide,_,.refl _,h _⟩
def aB:FSp:=fun ds μ Q=>match ds with
  | [.obj b,.int n]=>(Pot μ b∧0 < n∧n < 18446744073709551616)∧∀ k μ',0≤k→k < n→cx b μ μ'→Q (.int k) μ'
  | _=>False
theorem aI {μ:Mu}{b:Addr}{n:Int}{Q:DK}(hB:Pot μ b)(h0:0 < n)(h1:n < 18446744073709551616)(h:∀ k μ',0≤k→k < n→cx b μ μ'→Q (.int k) μ'):aB [.obj b,.int n] μ Q:=⟨⟨hB,h0,h1⟩,h⟩
theorem qL:∀ ds μ Q,aB ds μ Q→ds.length=2:=by
  unfold aB
  walk_at "ln"
def eU:STr:=aD (eS (ja (TB (ak rGt (aK (ah 0) (TC (.str "left"))) (TC (.int 0)))) (TB (ak rLt (aK (ah 0) (TC (.str "given"))) (TC (.int 60))))) (aD (cZ (fun m n=>m+n) (ah 0) (TC (.str "given")) (TC (.int 1))) (aD (aU (ak fG (aK (ah 0) (TC (.str "left"))) (ah 1)) (aq 3)) (aD (dP (ah 0) (TC (.str "left")) (ak kd (aK (ah 0) (TC (.str "left"))) (ah 1))) (cy (ah 3))))) (cI)) (aD (dP (ah 0) (TC (.str "seed")) (ao cG (af (aK (ah 0) (TC (.str "seed"))) (af (aK (ah 0) (TC (.str "many"))) (au))))) (cy (ak fG (ak kd (aK (ah 0) (TC (.str "seed"))) (TC (.int 7))) (ah 1))))
def o4:STr:=aD (cZ (fun m n=>m+n) (ah 0) (TC (.str "many")) (TC (.int 1))) (aD (eS (ja (TOr (TB (ak rEq (aK (ah 0) (TC (.str "left"))) (TC (.int 0)))) (TB (ak rEq (aK (ah 0) (TC (.str "given"))) (TC (.int 60))))) (TB (ak rLt (aK (ah 0) (TC (.str "at"))) (ao cN (af (aK (ah 0) (TC (.str "cells"))) (au)))))) (aD (aU (ao p9 (af (ak L3.rIx (aK (ah 0) (TC (.str "cells"))) (aK (ah 0) (TC (.str "at")))) (au))) (aq 2)) (aD (cZ (fun m n=>m+n) (ah 0) (TC (.str "at")) (TC (.int 1))) (aD (dP (ah 0) (TC (.str "left")) (ak fL (ah 2) (ao kK (af (ak rGe (ah 2) (ak uv (TC (.int 10)) (TC (.int 18)))) (au))))) (aD (dP (ah 0) (TC (.str "given")) (TC (.int 0))) (dP (ah 0) (TC (.str "seed")) (ao cG (af (ak aO (aK (ah 0) (TC (.str "seed"))) (ah 2)) (af (aK (ah 0) (TC (.str "many"))) (au))))))))) (cI)) (eU))
theorem rY:∀ ds μ Q,aB ds μ Q→o4 { nx:=fun _ μ'=>RT Q .non μ',rt:=RT Q } (ini 4 ds) μ:=by
  intro ds μ Q h
  unfold aB at h
  split at h
  case h_2=>exact h.elim
  rename_i b n
  walk_at "ini"
  unfold o4
  obtain ⟨⟨⟨cs,a,l,g,m,s,eb,a0⟩,n0,n1⟩,k⟩:=h
  have nm:eJ n:=by unfold eJ;omega
  have fin:∀ (μ':Mu) (c a l g m s:Int),0≤c→c < n→0≤a→RT Q (.int c) (up μ b (.dct (dh cs a l g m s))):=fun μ' c a l g m s c0 c1 a0=>
    ⟨_,.refl _,k c _ c0 c1 ⟨⟨cs,a,l,g,m,s,ax,a0⟩,fun z hz=>aJ hz⟩⟩
  have rest:∀ (v2 v3:Option D) (a l g m s:Int),0≤a→eU { nx:=fun _ μ'=>RT Q .non μ',rt:=RT Q } [some (.obj b),some (.int n),v2,v3] (up μ b (.dct (dh cs a l g m s))):=by
    intro v2 v3 a l g m s a0
    unfold eU
    walk_at "gp"
    refine kif (fun h1=>kif (fun h2=>?_) fun _=>?_) fun _=>?_
    · walk_at "gp"
      refine ⟨by omega,?_⟩
      walk_at "gp"
      exact ⟨⟨by omega,nm⟩,fin μ _ a _ _ m s (fm0 n0) (fm1 n0) a0⟩
    all_goals
      intro s2
      walk_at "gp"
      exact ⟨⟨by decide,by unfold eJ;decide⟩,by omega,fin μ _ a l g m s2 (fm0 n0) (fm1 n0) a0⟩
  have e0:∀ c:Int,MulOk c (if 1000000000000000000≤c then 1 else 0):=fun c=>.inl (.inr (by unfold S64;split<;>decide))
  have e1:gX 10 18:=by unfold gX;decide
  refine (vG eb).symm ▸ ?_
  walk_at "gp"
  rw[List.length_map]
  refine kif (fun _=>kif (fun h1=>?_) fun _=>rest _ _ _ _ _ _ _ a0) fun _=>kif (fun _=>kif (fun h1=>?_) fun _=>rest _ _ _ _ _ _ _ a0) fun _=>rest _ _ _ _ _ _ _ a0
  all_goals
    obtain ⟨z,ez⟩:=rN a0 h1
    rw[ez]
    walk_at "gp"
    refine ⟨e1,e0 _,?_⟩
    walk_at "gp"
    intro s2
    walk_at "gp"
    exact rest _ _ _ _ _ _ _ (by omega)
def bc:List Str:=[Str.ofString "a", Str.ofString "aa", Str.ofString "ab", Str.ofString "b", Str.ofString "ba", Str.ofString "mid", Str.ofString "way", Str.ofString "zz", Str.ofString "z", Str.ofString "long", Str.ofString "longer", Str.ofString "abcdefgh", Str.ofString "x", Str.ofString "yz", Str.ofString "m", Str.ofString "az", Str.ofString "c"]
theorem oH:bc.Nodup:=by decide +kernel
theorem uQ:∀ f:Fin 17,∀ s:Fin 16,((List.range 17).map fun k=>(f.val+(1+s.val)*k) % 17).Nodup:=by decide +kernel
def nameAt (f s:Nat)(k:Nat):Str:=bc.getD ((f+(1+s)*k) % 17) (Str.ofString "")
theorem rq {f s n:Nat}(hf:f < 17)(hs:s < 16)(hn:n≤17):((List.range n).map (nameAt f s)).Nodup:=by
  have h1:((List.range 17).map fun k=>(f+(1+s)*k) % 17).Nodup:=uQ ⟨f,hf⟩ ⟨s,hs⟩
  have h2:((List.range n).map fun k=>(f+(1+s)*k) % 17).Nodup:=by
    refine List.Nodup.sublist ?_ h1
    refine List.Sublist.map _ ?_
    rw[show List.range 17=List.range n++(List.range (17 - n)).map (n + ·) by rw[← List.range_add];congr 1;omega]
    exact List.sublist_append_left _ _
  have h3:((List.range n).map (nameAt f s))=((List.range n).map fun k=>(f+(1+s)*k) % 17).map fun j=>bc.getD j (Str.ofString ""):=by rw[List.map_map];rfl
  rw[h3]
  rw[List.nodup_iff_pairwise_ne,List.pairwise_map]
  rw[List.nodup_iff_pairwise_ne] at h2
  refine (List.pairwise_map.mp h2 |> fun q=>?_)
  rw[List.pairwise_map]
  refine q.imp_of_mem ?_
  intro a b ha hb hne e
  refine hne ?_
  have l1:(f+(1+s)*a) % 17 < bc.length:=Nat.mod_lt _ (by decide)
  have l2:(f+(1+s)*b) % 17 < bc.length:=Nat.mod_lt _ (by decide)
  rw[List.getD_eq_getElem?_getD,List.getD_eq_getElem?_getD,List.getElem?_eq_getElem l1,List.getElem?_eq_getElem l2,Option.getD_some,Option.getD_some] at e
  exact (List.getElem_inj oH).mp e
theorem oM (f s k:Nat):nameAt f s k∈bc:=by
  unfold nameAt
  have l1:(f+(1+s)*k) % 17 < bc.length:=Nat.mod_lt _ (by decide)
  rw[List.getD_eq_getElem?_getD,List.getElem?_eq_getElem l1,Option.getD_some]
  exact List.getElem_mem _
def cf:FSp:=fun ds μ Q=>match ds with
  | [.obj b,.int m]=>(Pot μ b∧0≤m∧m≤17)∧∀ (ws:List Str) μ',(ws.length:Int)=m→ws.Nodup→(∀ w∈ws,w∈bc)→cx b μ μ'→Q (.ls (ws.map .str)) μ'
  | _=>False
theorem nc:∀ ds μ Q,cf ds μ Q→ds.length=2:=by
  unfold cf
  walk_at "ln"
def lU:STr:=aD (aU (gq (af (TC (.str "a")) (af (TC (.str "aa")) (af (TC (.str "ab")) (af (TC (.str "b")) (af (TC (.str "ba")) (af (TC (.str "mid")) (af (TC (.str "way")) (af (TC (.str "zz")) (af (TC (.str "z")) (af (TC (.str "long")) (af (TC (.str "longer")) (af (TC (.str "abcdefgh")) (af (TC (.str "x")) (af (TC (.str "yz")) (af (TC (.str "m")) (af (TC (.str "az")) (au)))))))))))))))))) (aq 2)) (aD (aU (dF (af (ao aB (af (ah 0) (af (TC (.int 17)) (au)))) (af (ak aO (TC (.int 1)) (ao aB (af (ah 0) (af (TC (.int 16)) (au))))) (au)))) (gA [3,4])) (cy (cJ (cH (ah 1)) (aq 0) (fN) (ak L3.rIx (ak aO (ah 1) (gq (af (TC (.str "c")) (au)))) (ak fG (ak aO (ah 2) (ak fL (ah 3) (ah 0))) (TC (.int 17)))) 1 [2,3,4])))
theorem qE:∀ ds μ Q,cf ds μ Q→lU { nx:=fun _ μ'=>RT Q .non μ',rt:=RT Q } (ini 5 ds) μ:=by
  intro ds μ Q h
  unfold cf at h
  split at h
  case h_2=>exact h.elim
  rename_i b m
  walk_at "ini"
  unfold lU
  walk_at "go"
  obtain ⟨⟨hP,m0,m1⟩,k⟩:=h
  refine ⟨by decide,?_⟩
  refine aI hP (by decide) (by decide) fun f μ1 f0 f1 P1=>?_
  walk_at "go"
  refine aI P1.pot (by decide) (by decide) fun s μ2 s0 s1 P2=>?_
  walk_at "go"
  refine ⟨⟨by omega,by omega⟩,?_⟩
  have hw:∀ (kk:Nat),atD [D.str "a", D.str "aa", D.str "ab", D.str "b", D.str "ba", D.str "mid", D.str "way", D.str "zz", D.str "z", D.str "long", D.str "longer", D.str "abcdefgh", D.str "x", D.str "yz", D.str "m", D.str "az", D.str "c"] ((f+(1+s)*(kk:Int)).fmod 17)=some (.str (nameAt f.toNat s.toNat kk)):=by
    intro kk
    have e1:(f+(1+s)*(kk:Int)).fmod 17=(((f.toNat+(1+s.toNat)*kk) % 17:Nat):Int):=by
      rw[Int.fmod_eq_emod_of_nonneg _ (by decide)]
      push_cast
      rw[Int.toNat_of_nonneg f0,Int.toNat_of_nonneg s0]
    rw[e1,cu]
    show (bc.map D.str)[(f.toNat+(1+s.toNat)*kk) % 17]? = _
    have l1:(f.toNat+(1+s.toNat)*kk) % 17 < bc.length:=Nat.mod_lt _ (by decide)
    unfold nameAt
    rw[List.getElem?_map,List.getD_eq_getElem?_getD,List.getElem?_eq_getElem l1];rfl
  refine comp_map (fun d=>match d with
    | .int j=>.str (nameAt f.toNat s.toNat j.toNat)
    | _=>.non) (by rw[dG];omega) (fun d hd μ' _ N n=>?_) ?_
  · obtain ⟨j,rfl,j0,j1⟩:=g8 hd
    walk_at "go"
    refine ⟨by decide,?_⟩
    walk_at "go"
    refine ⟨.inl (.inl (by unfold S64;omega)),by decide,?_⟩
    have:=hw j.toNat
    rw[Int.toNat_of_nonneg (by omega)] at this
    rw[this]
    walk_at "go"
    exact n
  · refine ⟨_,.refl _,?_⟩
    have e:(cD 0 m.toNat).map (fun d=>match d with
      | .int j=>D.str (nameAt f.toNat s.toNat j.toNat)
      | _=>.non)=((List.range m.toNat).map (nameAt f.toNat s.toNat)).map .str:=by
      unfold cD
      rw[List.map_map,List.map_map]
      refine List.map_congr_left fun i _=>?_
      simp
    rw[e]
    refine k _ _ (by simp;omega) (rq (by omega) (by omega) (by omega)) (fun w hw=>?_) (P1.trans P2)
    obtain ⟨i,_,rfl⟩:=List.mem_map.mp hw
    exact oM _ _ _
section
variable {G:GTr} {tt:TTr} {te:ETr} {ρc:ST} {ds:List D} {μ:Mu} {Q:DK} {b:Addr}
theorem uA (hP:Pot μ b)(I:List D→List D→Prop)(h0:I ds [])(hl:ds.length≤999999)
    (step:∀ d r zs μ',Pot μ' b→Kp b μ μ'→I (d::r) zs→∀ (N:Option D→Mu→Prop),(∀ oy μ2,I r (zs++oy.toList)→cx b μ' μ2→N oy μ2)→G d ρc μ' fun ρ1 μ1=>tt ρ1 μ1 fun c μ2=>kIf c (te ρ1 μ2 fun y μ3=>N (some y) μ3) (N none μ2))
    (k:∀ zs μ',I [] zs→cx b μ μ'→Q (.ls zs) μ'):m9 G tt te ρc ds μ Q:=by
  intro p hp
  have pb:=hP.ne hp
  refine eB (fun r μ'=>∃ zs,I r zs∧zs.length+r.length≤ds.length∧μ' p=some (.lst zs)∧Pot μ' b∧∀ a,a≠b→a≠p→μ' a=μ a) ?_ ?_ _ _ ⟨[],h0,by simp,ax,hP.up pb,fun a _ h=>aJ h⟩
  · rintro μ' ⟨zs,hI,_,e,P,fr⟩
    refine bf e (k zs _ hI ⟨?_,fun a ha=>?_⟩)
    · obtain ⟨cs,a,l,g,m,s,e,h0⟩:=P
      exact ⟨cs,a,l,g,m,s,by unfold dn;rw[if_neg (Ne.symm pb)];exact e,h0⟩
    · unfold dn
      split
      · rename_i z;subst z;exact hp.symm
      · rename_i z;exact fr a ha z
  · rintro d r μ' N ⟨zs,hI,hz,e,P,fr⟩ hN
    rw[List.length_cons] at hz
    refine step d r zs μ' P (fun a o n h=>?_) hI (fun oy μ3=>match oy with
      | some y=>kL μ3 p fun zs=>zs.length < 1000000∧N (up μ3 p (.lst (zs++[y])))
      | none=>N μ3) ?_
    · rw[fr a n (fun z=>by subst z;rw[hp] at h;cases h)];exact h
    intro oy μ2 hoy P2
    have e2:μ2 p=some (.lst zs):=by rw[P2.oth p pb];exact e
    cases oy with
    | none=>exact hN _ ⟨zs,by simpa using hoy,by omega,e2,P2.pot,fun a h1 h2=>(P2.oth a h1).trans (fr a h1 h2)⟩
    | some y=>
      refine bf e2 ⟨by omega,hN _ ⟨zs++[y],hoy,by rw[List.length_append];simp;omega,ax,P2.pot.up pb,fun a h1 h2=>?_⟩⟩
      rw[aJ h2,P2.oth a h1,fr a h1 h2]
end
theorem bx (k j:L2.Key)(d:D)(r:List (L2.Key×D)):aL ((k,d)::r) j=if k=j then some d else aL r j:=by
  unfold aL
  rw[List.find?_cons]
  by_cases h:k=j<;>simp[h]
theorem fZ (kvs:List (L2.Key×D))(k j:L2.Key)(d:D):aL (putD kvs k d) j=if j=k then some d else aL kvs j:=by
  unfold putD
  split
  · rename_i ha
    induction kvs with
    | nil=>simp at ha
    | cons p r ih=>
      obtain ⟨k',d'⟩:=p
      rw[List.map_cons]
      by_cases h1:k'=k
      · subst h1
        simp only[if_true]
        rw[bx,bx]
        by_cases h2:k'=j
        · simp[h2]
        · rw[if_neg h2,if_neg h2,if_neg (Ne.symm h2)]
          by_cases h3:(r.any fun kv=>decide (kv.1=k'))=true
          · rw[ih h3,if_neg (Ne.symm h2)]
          · have:r.map (fun kv=>if kv.1=k' then (kv.1,d) else kv)=r:=by
              refine (List.map_congr_left fun kv hkv=>?_).trans (List.map_id r)
              rw[if_neg (fun z=>h3 (List.any_eq_true.mpr ⟨kv,hkv,by simp[z]⟩))];rfl
            rw[this]
      · rw[if_neg h1,bx,bx]
        rw[List.any_cons,decide_eq_false h1,Bool.false_or] at ha
        by_cases h2:k'=j
        · rw[if_pos h2,if_pos h2,if_neg (fun z=>h1 (h2.trans z))]
        · rw[if_neg h2,if_neg h2,ih ha]
  · rename_i ha
    induction kvs with
    | nil=>rw[List.nil_append,bx];by_cases h:k=j<;>simp[h,Ne.symm,aL,eq_comm]
    | cons p r ih=>
      obtain ⟨k',d'⟩:=p
      rw[List.any_cons,Bool.or_eq_true,not_or] at ha
      have h1:¬ k'=k:=by simpa using ha.1
      rw[List.cons_append,bx,bx]
      by_cases h2:k'=j
      · rw[if_pos h2,if_pos h2,if_neg (fun z=>h1 (h2.trans z))]
      · rw[if_neg h2,if_neg h2,ih ha.2]
theorem sP {kvs:List (L2.Key×D)}{k:L2.Key}{x:D}(d:D)(h:aL kvs k=some x):(putD kvs k d).length=kvs.length:=by
  unfold putD
  rw[if_pos,List.length_map]
  unfold aL at h
  obtain ⟨p,hp,_⟩:=Option.map_eq_some_iff.mp h
  refine List.any_eq_true.mpr ⟨p,List.mem_of_find?_eq_some hp,?_⟩
  have:=List.find?_some hp
  simpa using this
theorem wV (kvs:List (L2.Key×D))(k:L2.Key)(d:D):(putD kvs k d).length≤kvs.length+1:=by
  unfold putD
  split
  · rw[List.length_map];omega
  · rw[List.length_append];simp
theorem iY:∀ (more kvs:List (L2.Key×D)),(cm kvs more).length≤kvs.length+more.length
  | [],kvs=>by show kvs.length≤_;omega
  | p::r,kvs=>by
    have h1:=iY r (putD kvs p.1 p.2)
    have h2:=wV kvs p.1 p.2
    show (cm (putD kvs p.1 p.2) r).length≤_
    rw[List.length_cons];omega
theorem gm:∀ (more kvs:List (L2.Key×D)) (k:L2.Key),(∃ d,(k,d)∈more∧aL (cm kvs more) k=some d)∨((∀ d,(k,d) ∉ more)∧aL (cm kvs more) k=aL kvs k)
  | [],kvs,k=>.inr ⟨(fun _ h=>nomatch h),rfl⟩
  | p::r,kvs,k=>by
    obtain ⟨k',d'⟩:=p
    rcases gm r (putD kvs k' d') k with ⟨d,h1,h2⟩ | ⟨h1,h2⟩
    · exact .inl ⟨d,List.mem_cons_of_mem _ h1,h2⟩
    · have h2':aL (cm kvs ((k',d')::r)) k=aL (putD kvs k' d') k:=h2
      rw[fZ] at h2'
      by_cases e:k=k'
      · rw[if_pos e] at h2'
        subst e
        exact .inl ⟨d',List.mem_cons_self,h2'⟩
      · rw[if_neg e] at h2'
        refine .inr ⟨fun d hd=>?_,h2'⟩
        rcases List.mem_cons.mp hd with z | z
        · exact e (Prod.mk.inj z).1
        · exact h1 d z
theorem wN {xs:List D}{c:Int}(c0:0≤c):atD xs c=xs[c.toNat]?:=by
  have:=cu c.toNat xs
  rwa [Int.toNat_of_nonneg c0] at this
structure Lt where
  nm:Str
  nu:Int
  ag:Int
  hp:Int
  mr:Int
def Lt.toD (x:Lt):D:=.tup [.str x.nm,.int x.nu,.int x.ag,.int x.hp,.int x.mr]
abbrev ltD (ls:List Lt):List D:=ls.map Lt.toD
structure Lt.Ok (x:Lt):Prop where
  a0:0≤x.ag
  a1:x.ag < 30
  h0:0≤x.hp
  h1:x.hp < 6
  m0:0≤x.mr
  m1:x.mr≤1
def BG (ls:List Lt):Prop:=ls.Pairwise fun x y=>x.nm=y.nm→x.nu < y.nu
def bW:FSp:=fun ds μ Q=>match ds with
  | [.obj b,d,.int m,.int t]=>∃ ws:List Str,(Pot μ b∧(d=.ls (ws.map .str)∨d=.tup (ws.map .str))∧(0 < ws.length∧ws.length≤17)∧(0≤m∧m≤1000)∧0≤t∧t≤1000)∧
      ∀ (ls:List Lt) μ',(ls.length:Int)=m→(∀ x∈ls,x.Ok∧x.nm∈ws∧0 < x.nu∧x.nu≤4*t+3*m)→BG ls→cx b μ μ'→Q (.tup (ltD ls)) μ'
  | _=>False
theorem km:∀ ds μ Q,bW ds μ Q→ds.length=4:=by
  unfold bW
  walk_at "ln"
def ie:STr:=aD (aU (mL (au)) (aq 4)) (aD (aU (ao mV (af (cJ (eW (ah 1)) (aq 0) (fN) (dF (af (ah 0) (af (ak fL (ao aB (af (ah 2) (af (TC (.int 5)) (au)))) (ah 1)) (au)))) 1 [3,0]) (au))) (aq 5)) (aD (gv (cH (ah 2)) (aq 6) (aD (aU (ak L3.rIx (ah 1) (ao aB (af (ah 0) (af (ao cN (af (ah 1) (au))) (au))))) (aq 7)) (aD (cZ (fun m n=>m+n) (ah 5) (ah 7) (ak aO (TC (.int 1)) (ao aB (af (ah 0) (af (TC (.int 3)) (au)))))) (gn (lX (ah 4) (dF (af (ah 7) (af (aK (ah 5) (ah 7)) (af (ao aB (af (ah 0) (af (TC (.int 30)) (au)))) (af (ao aB (af (ah 0) (af (TC (.int 6)) (au)))) (af (ak kd (ao aB (af (ah 0) (af (TC (.int 4)) (au)))) (TC (.int 3))) (au)))))))))))) (cy (ao bU (af (ah 4) (au))))))
theorem mi:∀ ds μ Q,bW ds μ Q→ie { nx:=fun _ μ'=>RT Q .non μ',rt:=RT Q } (ini 8 ds) μ:=by
  intro ds μ Q h
  unfold bW at h
  split at h
  case h_2=>exact h.elim
  rename_i b d m t
  walk_at "ini"
  unfold ie
  walk_at "go"
  obtain ⟨ws,⟨hP,hd,⟨w0,w1⟩,⟨m0,m1⟩,t0,t1⟩,k⟩:=h
  intro p hp
  have pb:=hP.ne hp
  have hP1:=hP.up (o:=.lst []) pb
  rcases hd with rfl | rfl
  all_goals
    walk_at "go"
    refine uA hP1 (fun r zs=>∃ (kvs:List (Str×Int)) (rs:List Str),zs=kvs.map (fun kv=>.tup [.str kv.1,.int kv.2])∧r=rs.map .str∧kvs.map (·.1)++rs=ws∧∀ kv∈kvs,0≤kv.2∧kv.2≤4*t) ⟨[],ws,rfl,rfl,rfl,fun _ h=>nomatch h⟩ (by simp;omega) ?_ ?_
    · rintro d r zs μ' P' _ ⟨kvs,rs,rfl,er,ew,hv⟩ N hN
      cases rs with
      | nil=>cases er
      | cons w rs=>
      cases er
      walk_at "go"
      refine aI P' (by decide) (by decide) fun c μ2 c0 c1 P2=>?_
      walk_at "go"
      refine ⟨.inl (.inl (by unfold S64;omega)),?_⟩
      walk_at "go"
      refine hN (some _) μ2 ⟨kvs++[(w,c*t)],rs,by simp,rfl,by rw[← ew];simp,fun kv hkv=>?_⟩ P2
      rcases List.mem_append.mp hkv with z | z
      · exact hv kv z
      · have:kv=(w,c*t):=by simpa using z
        subst this
        have h4:c*t≤4*t:=Int.mul_le_mul_of_nonneg_right (by omega) t0
        exact ⟨Int.mul_nonneg c0 t0,h4⟩
    · rintro zs μ1 ⟨kvs,rs,rfl,er,ew,hv⟩ P1
      have:rs=[]:=by cases rs with | nil=>rfl | cons=>cases er
      subst this
      rw[List.append_nil] at ew
      have hk:kvs.length=ws.length:=by rw[← ew];simp
      walk_at "go"
      refine ⟨kvs.map fun kv=>(.inr kv.1,.int kv.2),by rw[List.map_map];rfl,by simp;omega,fun q hq=>⟨⟨by omega,by omega⟩,?_⟩⟩
      have e1p:μ1 p=some (.lst []):=by rw[P1.oth p pb,ax]
      have qb:=P1.pot.ne hq
      have qp:q≠p:=fun z=>by subst z;rw[e1p] at hq;cases hq
      have hpn:μ p=none:=hp
      have hqn:μ q=none:=by
        have:=P1.oth q qb
        rw[hq,aJ qp] at this
        exact this.symm
      refine cw (fun r ρ μ'=>∃ (ls:List Lt) (tab:List (L2.Key×D)) (v6 v7:Option D),ρ=[some (.obj b),_,some (.int m),some (.int t),some (.obj p),some (.obj q),v6,v7]∧μ' p=some (.lst (ltD ls))∧μ' q=some (.dct tab)∧Pot μ' b∧Kp b μ μ'∧tab.length≤17∧
        (∀ w∈ws,∃ v:Int,aL tab (.inr w)=some (.int v)∧0≤v∧v≤4*t+3*ls.length∧∀ x∈ls,x.nm=w→x.nu≤v)∧(∀ x∈ls,x.Ok∧x.nm∈ws∧0 < x.nu∧x.nu≤4*t+3*ls.length)∧BG ls∧ls.length+r.length=m.toNat) ?_ ?_ _ _ _ ⟨[],_,_,_,rfl,?_,ax,P1.pot.up qb,?_,?_,?_,(fun _ h=>nomatch h),List.Pairwise.nil,by simp[cD]⟩
      · rintro ρ μ' ⟨ls,tab,v6,v7,rfl,ep,eq,P',kp,_,_,hl,hg,hn⟩
        walk_at "go"
        refine bf ep (pQ P' kp fun μ2 P2=>k ls μ2 ?_ ?_ hg P2)
        · simp at hn;omega
        · intro x hx
          have e:(ls.length:Int)=m:=by simp at hn;omega
          have:=hl x hx
          rw[e] at this
          exact this
      · rintro d r ρ μ' N ⟨ls,tab,v6,v7,rfl,ep,eq,P',kp,hz,ht,hl,hg,hn⟩ hN
        rw[List.length_cons] at hn
        walk_at "go"
        rw[List.length_map]
        refine aI P' (by omega) (by omega) fun c μ2 c0 c1 P2=>?_
        obtain ⟨w,hw,ew'⟩:∃ w∈ws,atD (ws.map D.str) c=some (.str w):=by
          have hc:c.toNat < ws.length:=by omega
          refine ⟨ws[c.toNat],List.getElem_mem hc,?_⟩
          rw[wN c0,List.getElem?_map,List.getElem?_eq_getElem hc];rfl
        walk_at "go"
        rw[ew']
        walk_at "go"
        obtain ⟨v,ev,v0,v1,vl⟩:=ht w hw
        have e2q:μ2 q=some (.dct tab):=by rw[P2.oth q qb];exact eq
        refine gf e2q ?_
        rw[ev]
        walk_at "go"
        refine aI P2.pot (by decide) (by decide) fun c3 μ3 c30 c31 P3=>?_
        walk_at "go"
        have e3q:μ3 q=some (.dct tab):=by rw[P3.oth q qb];exact e2q
        refine gf e3q ⟨by omega,?_⟩
        have e3p:μ3 p=some (.lst (ltD ls)):=by rw[P3.oth p pb,P2.oth p pb];exact ep
        generalize hμ4:up μ3 q (.dct (putD tab (.inr w) (.int (v+(1+c3)))))=μ4
        have P4:Pot μ4 b:=by rw[← hμ4];exact P3.pot.up qb
        have e4p:μ4 p=some (.lst (ltD ls)):=by rw[← hμ4,aJ (Ne.symm qp)];exact e3p
        have e4q:μ4 q=some (.dct (putD tab (.inr w) (.int (v+(1+c3))))):=by rw[← hμ4,ax]
        have k4:Kp b μ μ4:=by rw[← hμ4];exact ((kp.trans P2.kp).trans P3.kp).put hqn
        refine bf e4p ?_
        rw[fZ,if_pos rfl]
        walk_at "go"
        refine aI P4 (by decide) (by decide) fun c5 μ5 c50 c51 P5=>?_
        walk_at "go"
        refine aI P5.pot (by decide) (by decide) fun c6 μ6 c60 c61 P6=>?_
        walk_at "go"
        refine aI P6.pot (by decide) (by decide) fun c7 μ7 c70 c71 P7=>?_
        walk_at "go"
        have P47:=P5.trans (P6.trans P7)
        have e7p:μ7 p=some (.lst (ltD ls)):=by rw[P47.oth p pb];exact e4p
        refine ⟨⟨by decide,by unfold eJ;decide⟩,bf e7p ⟨by simp;omega,?_⟩⟩
        walk_at "go"
        have c8:0≤c7.fdiv 3∧c7.fdiv 3≤1:=by rw[mB (by decide)];omega
        refine hN _ _ ⟨ls++[⟨w,v+(1+c3),c5,c6,c7.fdiv 3⟩],putD tab (.inr w) (.int (v+(1+c3))),_,_,rfl,?_,?_,P7.pot.up pb,(k4.trans P47.kp).put hpn,?_,?_,?_,?_,?_⟩
        · rw[ax];simp[ltD,Lt.toD]
        · rw[aJ qp,P47.oth q qb,e4q]
        · rw[sP _ ev];exact hz
        · intro w' hw'
          rw[fZ]
          by_cases hww:w'=w
          · subst hww
            rw[if_pos rfl]
            refine ⟨_,rfl,by omega,by simp;omega,fun x hx hn=>?_⟩
            rcases List.mem_append.mp hx with z | z
            · have:=vl x z hn;omega
            · have:x=⟨w',v+(1+c3),c5,c6,c7.fdiv 3⟩:=by simpa using z
              subst this;exact Int.le_refl _
          · rw[if_neg (fun z=>hww (by injection z))]
            obtain ⟨v',e',h0',h1',h2'⟩:=ht w' hw'
            refine ⟨v',e',h0',by simp;omega,fun x hx hn=>?_⟩
            rcases List.mem_append.mp hx with z | z
            · exact h2' x z hn
            · have:x=⟨w,v+(1+c3),c5,c6,c7.fdiv 3⟩:=by simpa using z
              subst this;exact absurd hn.symm hww
        · intro x hx
          rcases List.mem_append.mp hx with z | z
          · obtain ⟨h1,h2,h3,h4⟩:=hl x z
            exact ⟨h1,h2,h3,by simp;omega⟩
          · have:x=⟨w,v+(1+c3),c5,c6,c7.fdiv 3⟩:=by simpa using z
            subst this
            exact ⟨⟨c50,c51,c60,c61,c8.1,c8.2⟩,hw,by show 0 < v+(1+c3);omega,by show v+(1+c3)≤_;simp;omega⟩
        · refine List.pairwise_append.mpr ⟨hg,List.pairwise_singleton _ _,fun x hx y hy hn=>?_⟩
          have:y=⟨w,v+(1+c3),c5,c6,c7.fdiv 3⟩:=by simpa using hy
          subst this
          have:=vl x hx hn
          show x.nu < v+(1+c3)
          omega
        · simp;omega
      · rw[aJ (Ne.symm qp)];exact e1p
      · exact (((Kp.new hp).trans P1.kp)).put hqn
      · have:=iY (kvs.map fun kv=>((.inr kv.1,.int kv.2):L2.Key×D)) []
        simp at this;omega
      · intro w hw
        rw[← ew] at hw
        obtain ⟨kv,hkv,rfl⟩:=List.mem_map.mp hw
        rcases gm (kvs.map fun kv=>((.inr kv.1,.int kv.2):L2.Key×D)) [] (.inr kv.1) with ⟨d,h1,h2⟩ | ⟨h1,_⟩
        · obtain ⟨kv',hkv',e'⟩:=List.mem_map.mp h1
          have e2:d=.int kv'.2:=(Prod.mk.inj e').2.symm
          subst e2
          have:=hv kv' hkv'
          exact ⟨kv'.2,h2,this.1,by simp;omega,fun _ h=>nomatch h⟩
        · exact absurd (List.mem_map.mpr ⟨kv,hkv,rfl⟩) (h1 (.int kv.2))
structure Wy where
  nm:Str
  pc:Int
  rm:Int
  mr:Option Int
  tn:Bool
def qQ:Option Int→D
  | none=>.non
  | some i=>.int i
def jY (b:Bool):Str:=if b then Str.ofString "turns" else Str.ofString "line"
def Wy.toD (x:Wy):D:=.tup [.str x.nm,.int x.pc,.int x.rm,qQ x.mr,.str (jY x.tn)]
structure Wy.Ok (x:Wy):Prop where
  n:x.nm∈bc
  p0:1≤x.pc
  p1:x.pc≤20
  r0:1≤x.rm
  r1:x.rm≤60
  m:∀ i,x.mr=some i→0≤i∧i≤60
def eG:FSp:=fun ds μ Q=>match ds with
  | [.obj b]=>Pot μ b∧∀ (x:Wy) μ',x.Ok→cx b μ μ'→Q x.toD μ'
  | _=>False
theorem sR:∀ ds μ Q,eG ds μ Q→ds.length=1:=by
  unfold eG
  walk_at "ln"
def tW:STr:=aD (aU (ak L3.rIx (gq (af (TC (.int 1)) (af (TC (.int 2)) (af (TC (.int 3)) (af (ak aO (TC (.int 1)) (ao aB (af (ah 0) (af (TC (.int 20)) (au))))) (au)))))) (ao aB (af (ah 0) (af (TC (.int 4)) (au))))) (aq 1)) (aD (aU (ak L3.rIx (gq (af (ak aO (TC (.int 1)) (ao aB (af (ah 0) (af (TC (.int 4)) (au))))) (af (ak aO (TC (.int 2)) (ao aB (af (ah 0) (af (TC (.int 12)) (au))))) (af (ak aO (TC (.int 1)) (ao aB (af (ah 0) (af (TC (.int 60)) (au))))) (au))))) (ao aB (af (ah 0) (af (TC (.int 3)) (au))))) (aq 2)) (aD (aU (ak L3.rIx (gq (af (TC .non) (af (TC (.int 0)) (af (ak fG (ao aB (af (ah 0) (af (ak aO (ah 2) (TC (.int 2))) (au)))) (TC (.int 61))) (af (ao aB (af (ah 0) (af (TC (.int 61)) (au)))) (au)))))) (ao aB (af (ah 0) (af (TC (.int 4)) (au))))) (aq 3)) (cy (dF (af (ak L3.rIx (ao cf (af (ah 0) (af (TC (.int 1)) (au)))) (TC (.int 0))) (af (ah 1) (af (ah 2) (af (ah 3) (af (ak L3.rIx (gq (af (TC (.str "line")) (af (TC (.str "turns")) (au)))) (ao aB (af (ah 0) (af (TC (.int 2)) (au))))) (au))))))))))
theorem wj:∀ ds μ Q,eG ds μ Q→tW { nx:=fun _ μ'=>RT Q .non μ',rt:=RT Q } (ini 4 ds) μ:=by
  intro ds μ Q h
  unfold eG at h
  split at h
  case h_2=>exact h.elim
  rename_i b
  walk_at "ini"
  unfold tW
  walk_at "go"
  obtain ⟨hP,k⟩:=h
  refine aI hP (by decide) (by decide) fun k1 μ1 k10 k11 P1=>?_
  walk_at "go"
  refine aI P1.pot (by decide) (by decide) fun k2 μ2 k20 k21 P2=>?_
  have al:∀ d∈([.int 1,.int 2,.int 3,.int (1+k1)]:List D),IsI 1 20 d:=aT ⟨_,rfl,by decide,by decide⟩ (aT ⟨_,rfl,by decide,by decide⟩ (aT ⟨_,rfl,by decide,by decide⟩ (aT ⟨_,rfl,by omega,by omega⟩ fD)))
  obtain ⟨_,e1,pc,rfl,pc0,pc1⟩:=fU al k20 k21
  walk_at "go"
  rw[e1]
  walk_at "go"
  refine aI P2.pot (by decide) (by decide) fun k3 μ3 k30 k31 P3=>?_
  walk_at "go"
  refine aI P3.pot (by decide) (by decide) fun k4 μ4 k40 k41 P4=>?_
  walk_at "go"
  refine aI P4.pot (by decide) (by decide) fun k5 μ5 k50 k51 P5=>?_
  walk_at "go"
  refine aI P5.pot (by decide) (by decide) fun k6 μ6 k60 k61 P6=>?_
  have al2:∀ d∈([.int (1+k3),.int (2+k4),.int (1+k5)]:List D),IsI 1 60 d:=aT ⟨_,rfl,by omega,by omega⟩ (aT ⟨_,rfl,by omega,by omega⟩ (aT ⟨_,rfl,by omega,by omega⟩ fD))
  obtain ⟨_,e2,rm,rfl,rm0,rm1⟩:=fU al2 k60 k61
  walk_at "go"
  rw[e2]
  walk_at "go"
  refine aI P6.pot (by omega) (by omega) fun k7 μ7 k70 k71 P7=>?_
  walk_at "go"
  refine ⟨by decide,?_⟩
  have f0:=fm0 (a:=k7) (show (0:Int) < 61 by decide)
  have f1:=fm1 (a:=k7) (show (0:Int) < 61 by decide)
  refine aI P7.pot (by decide) (by decide) fun k8 μ8 k80 k81 P8=>?_
  walk_at "go"
  refine aI P8.pot (by decide) (by decide) fun k9 μ9 k90 k91 P9=>?_
  have al3:∀ d∈([.non,.int 0,.int (k7.fmod 61),.int k8]:List D),∃ o:Option Int,d=qQ o∧∀ i,o=some i→0≤i∧i≤60:=aT ⟨none,rfl,nofun⟩ (aT ⟨some 0,rfl,fun i e=>by cases e;omega⟩ (aT ⟨some _,rfl,fun i e=>by cases e;omega⟩ (aT ⟨some _,rfl,fun i e=>by cases e;omega⟩ fD)))
  obtain ⟨_,e3,o,rfl,ho⟩:=fU al3 k90 k91
  walk_at "go"
  rw[e3]
  walk_at "go"
  refine ⟨⟨P9.pot,by decide,by decide⟩,fun ws μ10 hl _ hw P10=>?_⟩
  cases ws with
  | nil=>simp at hl
  | cons w ws=>
  walk_at "go"
  refine aI P10.pot (by decide) (by decide) fun k11 μ11 k110 k111 P11=>?_
  have al4:∀ d∈([.str "line", .str "turns"]:List D),∃ t:Bool,d=.str (jY t):=aT ⟨false,rfl⟩ (aT ⟨true,rfl⟩ fD)
  obtain ⟨_,e4,tn,rfl⟩:=fU al4 k110 k111
  walk_at "go"
  rw[e4]
  walk_at "go"
  exact ⟨_,.refl _,k ⟨w,pc,rm,o,tn⟩ μ11 ⟨hw w List.mem_cons_self,pc0,pc1,rm0,rm1,ho⟩ (P1.trans (P2.trans (P3.trans (P4.trans (P5.trans (P6.trans (P7.trans (P8.trans (P9.trans (P10.trans P11))))))))))⟩
mutual
def pl:Nat→D→Bool
  | _,.non=>true
  | _,.int _=>true
  | _,.str x=>PyData.strOk x
  | n+1,.tup ds=>decide (ds.length≤999999)&&pls n ds
  | n+1,.ls ds=>decide (ds.length≤999999)&&pls n ds
  | _,_=>false
def pls:Nat→List D→Bool
  | _,[]=>true
  | n,d::r=>pl n d&&pls n r
end
theorem rT:∀ w∈bc,PyData.strOk w=true:=by decide +kernel
def B3 (w:Wy)(x:Lt)(n:Nat):Lt:=match w.mr with
  | none=>x
  | some i=>if (n:Int) < i then x else { x with mr:=1 }
def xZ (w:Wy)(p:List Lt×List Lt)(y:Lt):List Lt×List Lt:=if w.rm≤(p.1.length:Int) then (p.1,p.2++[y]) else (p.1++[B3 w y p.1.length],p.2)
def tk (w:Wy)(xs ys:List Lt):List Lt×List Lt:=ys.foldl (xZ w) (xs,[])
theorem BP (w:Wy)(μ:Mu)(Q:DK):L3.rIx w.toD (.int 1) μ Q=Q (.int w.pc) μ:=propext Iff.rfl
theorem BY (w:Wy)(μ:Mu)(Q:DK):L3.rIx w.toD (.int 4) μ Q=Q (.str (jY w.tn)) μ:=propext Iff.rfl
theorem lt_0 (x:Lt)(μ:Mu)(Q:DK):L3.rIx x.toD (.int 0) μ Q=Q (.str x.nm) μ:=propext Iff.rfl
theorem B7 (x:Lt)(μ:Mu)(Q:DK):L3.rIx x.toD (.int 1) μ Q=Q (.int x.nu) μ:=propext Iff.rfl
theorem Bc (xs:List D){k:Int}(k0:0≤k):cutD xs none (some k)=xs.take k.toNat:=by
  have:=wc xs k.toNat
  rwa [Int.toNat_of_nonneg k0] at this
theorem BN (xs:List D){k:Int}(k0:0≤k):cutD xs (some k) none=xs.drop k.toNat:=by
  have:=qg xs k.toNat
  rwa [Int.toNat_of_nonneg k0] at this
theorem yV (a b:List Lt):ltD a++ltD b=ltD (a++b):=by simp[ltD]
theorem vb (ls:List Lt)(n:Nat):(ltD ls).take n=ltD (ls.take n):=by simp[ltD,List.map_take]
theorem wo (ls:List Lt)(n:Nat):(ltD ls).drop n=ltD (ls.drop n):=by simp[ltD,List.map_drop]
theorem ro:qQ none=.non:=rfl
theorem rG (i:Int):qQ (some i)=.int i:=rfl
def Bp:=Jn @BP <| Jn @BY <| Jn @lt_0 <| Jn @B7 <| @A5
local macro_rules | `(tactic| walk_at "go")=>`(tactic| try simp only[↓Bp,↓rU,↓rg,↓uU,↓sH,↓r8,↓rO,↓gM,↓eQ,bQ,br,bN,bF,bD,bO,bX,b6,bw,bL,bP,bK,bM,b8,bJ,bY,bH,b4,bE,b5,fB,ro,rG,c9,List.map_cons,List.map_nil,List.replicate,List.cons_append,List.nil_append,lk,xq,uR,ee,pE,jZ,lG,kn,gE,gL,gH,gF,true_and,and_true,and_self,Bool.not_true,Bool.not_false,decide_true,decide_false,Bool.or_true,Bool.or_false,Bool.true_or,Bool.false_or,Bool.and_false,Bool.false_and,Bool.and_true,Bool.true_and,Int.reduceToNat,Int.reducePow,Int.reduceNeg,Int.reduceSub,Int.reduceAdd,Int.reduceMul,Int.reduceEq,Int.reduceLT,Int.reduceLE,Int.reduceBEq,ff,dk,dH,dz,dD,du,dE,dA,if_true,if_false,Bool.false_eq_true,reduceCtorEq,decide_eq_true_eq])
def cv (ws os:List Str)(l:Str):Option Str:=match (ws.filter fun w=>decide (w∈os)).filter fun w=>ltS l w with
  | x::_=>some x
  | []=>(ws.filter fun w=>decide (w∈os)).head?
theorem de {ws os:List Str}{l n:Str}(h:cv ws os l=some n):n∈ws∧n∈os:=by
  unfold cv at h
  have hm:n∈ws.filter fun w=>decide (w∈os):=by
    split at h
    · rename_i x r e
      cases h
      have:n∈(ws.filter fun w=>decide (w∈os)).filter fun w=>ltS l w:=by rw[e];exact List.mem_cons_self
      exact (List.mem_filter.mp this).1
    · exact List.mem_of_head? h
  have:=List.mem_filter.mp hm
  exact ⟨this.1,by simpa using this.2⟩
theorem iz {ws os:List Str}{l w:Str}(h1:w∈ws)(h2:w∈os):∃ n,cv ws os l=some n:=by
  have hm:w∈ws.filter fun w=>decide (w∈os):=List.mem_filter.mpr ⟨h1,by simpa using h2⟩
  unfold cv
  split
  · exact ⟨_,rfl⟩
  · cases e:(ws.filter fun w=>decide (w∈os)) with
    | nil=>rw[e] at hm;cases hm
    | cons x r=>exact ⟨x,rfl⟩
theorem lJ (w:Str)(os:List Str):inG (.str w) (os.map .str)=decide (w∈os):=by
  unfold inG
  rw[List.any_map]
  induction os with
  | nil=>simp
  | cons o r ih=>
    rw[List.any_cons,ih]
    simp only[Function.comp_apply,jZ]
    by_cases h:o=w
    · simp[h]
    · simp[h,Ne.symm h,eq_comm]
theorem kE {n:Nat}{os:List Str}(h:∀ o∈os,PyData.strOk o=true):bB n (os.map .str)=true:=by
  induction os with
  | nil=>rfl
  | cons o r ih=>
    rw[List.map_cons,ee,uR,h o List.mem_cons_self,ih fun x hx=>h x (List.mem_cons_of_mem _ hx)];rfl
theorem iP (os:List Str)(p:Str→Bool):(os.map D.str).filterMap (fun d=>match d with
    | .str w=>if p w then some (D.str w) else none
    | _=>none)=(os.filter p).map D.str:=by
  induction os with
  | nil=>rfl
  | cons o r ih=>
    rw[List.map_cons,List.filterMap_cons,List.filter_cons]
    dsimp only
    cases p o with
    | true=>simp[ih]
    | false=>simp[ih]
def bA:FSp:=fun ds μ Q=>match ds with
  | [d,.ls os',.str l]=>∃ (ws os:List Str) (n:Str),((d=.tup (ws.map .str)∨d=.ls (ws.map .str))∧os'=os.map .str∧(∀ w∈ws,PyData.strOk w=true)∧(∀ w∈os,PyData.strOk w=true)∧ws.length≤900000∧cv ws os l=some n)∧Q (.str n) μ
  | _=>False
theorem jc:∀ ds μ Q,bA ds μ Q→ds.length=3:=by
  unfold bA
  walk_at "ln"
def f9:STr:=aD (aU (cJ (eW (ah 0)) (aq 0) (TB (ak (nG false) (ah 0) (ah 1))) (ah 0) 1 [1]) (aq 3)) (aD (aU (cJ (eW (ah 3)) (aq 0) (TB (ak yI (ah 0) (ah 1))) (ah 0) 1 [2]) (aq 4)) (cy (qz (TB (ak rGt (ao cN (af (ah 4) (au))) (TC (.int 0)))) (ak L3.rIx (ah 4) (TC (.int 0))) (ak L3.rIx (ah 3) (TC (.int 0))))))
theorem kq:∀ ds μ Q,bA ds μ Q→f9 { nx:=fun _ μ'=>RT Q .non μ',rt:=RT Q } (ini 5 ds) μ:=by
  intro ds μ Q h
  unfold bA at h
  split at h
  case h_2=>exact h.elim
  rename_i d os' l
  walk_at "ini"
  unfold f9
  walk_at "go"
  obtain ⟨ws,os,n,⟨hd,rfl,h1,h2,hl,hn⟩,k⟩:=h
  have go:∀ d,d=.tup (ws.map .str)∨d=.ls (ws.map .str)→∀ f:List D→Prop,f (ws.map .str)→kS d f:=fun d h f hf=>by rcases h with rfl | rfl<;>exact hf
  refine go d hd _ ?_
  refine gK (fun d=>match d with
    | .str w=>if decide (w∈os) then some (.str w) else none
    | _=>none) (by rw[List.length_map];omega) (fun d hd μ' _ N n=>?_) ?_
  · obtain ⟨w,hw,rfl⟩:=List.mem_map.mp hd
    walk_at "go"
    rw[kE h2,lJ]
    have:=h1 w hw
    simp only[this,true_and]
    dsimp only at n
    refine kif (fun h=>?_) fun h=>?_
    · rw[decide_eq_true h] at n;exact n
    · rw[decide_eq_false h] at n;exact n
  · rw[iP ws fun w=>decide (w∈os)]
    generalize hth:(ws.filter fun w=>decide (w∈os))=th at *
    have lth:th.length≤900000:=by rw[← hth];exact Nat.le_trans (List.length_filter_le _ _) hl
    walk_at "go"
    refine gK (fun d=>match d with
      | .str w=>if ltS l w then some (.str w) else none
      | _=>none) (by rw[List.length_map];omega) (fun d hd μ' _ N n=>?_) ?_
    · obtain ⟨w,hw,rfl⟩:=List.mem_map.mp hd
      walk_at "go"
      dsimp only at n
      refine Bf (fun h=>?_) fun h=>?_
      · rw[h] at n;exact n
      · rw[h] at n;exact n
    · rw[iP th fun w=>ltS l w]
      unfold cv at hn
      rw[hth] at hn
      walk_at "go"
      cases e:th.filter fun w=>ltS l w with
      | nil=>
        rw[e] at hn
        have hn:th.head? = some n:=hn
        cases th with
        | nil=>cases hn
        | cons x r=>
        cases hn
        walk_at "go"
        show kIf false _ _
        walk_at "go"
        exact ⟨_,.refl _,k⟩
      | cons x r=>
        rw[e] at hn
        have hn:some x=some n:=hn
        cases hn
        walk_at "go"
        refine AA (by simp) ?_
        exact ⟨_,.refl _,k⟩
def at1 (n:Str)(st:List Lt):Nat:=st.findIdx fun x=>decide (x.nm=n)
def bj (ws:List Str)(p:Int):Nat→List Lt→List Lt→Str→List Lt×List Lt×Str
  | 0,st,out,l=>(out,st,l)
  | f+1,st,out,l=>if 0 < st.length∧(out.length:Int) < p then (match cv ws (st.map Lt.nm) l with
      | some n=>(match st[at1 n st]? with
        | some x=>bj ws p f (st.eraseIdx (at1 n st)) (out++[x]) n
        | none=>(out,st,l))
      | none=>(out,st,l)) else (out,st,l)
theorem iM {n:Str}{st:List Lt}(h:n∈st.map Lt.nm):at1 n st < st.length:=by
  obtain ⟨x,hx,rfl⟩:=List.mem_map.mp h
  exact List.findIdx_lt_length_of_exists ⟨x,hx,by simp⟩
theorem sf {n:Str}{st:List Lt}{x:Lt}(h:st[at1 n st]? = some x):x.nm=n:=by
  obtain ⟨hl,e⟩:=List.getElem?_eq_some_iff.mp h
  have hl':(st.findIdx fun x=>decide (x.nm=n)) < st.length:=hl
  have:=List.findIdx_getElem (xs:=st) (p:=fun x=>decide (x.nm=n)) (w:=hl')
  rw[← e]
  exact of_decide_eq_true this
theorem jI {α β:Type}(f:α→β):∀ (l:List α) (i:Nat),(l.map f).eraseIdx i=(l.eraseIdx i).map f
  | [],_=>by simp
  | _::_,0=>rfl
  | a::l,i+1=>by simp[jI f l i]
theorem zy {n:Str}{st:List Lt}(h:n∈st.map Lt.nm):qI ((st.map Lt.nm).map .str) (.str n)=some (at1 n st):=by
  unfold qI
  have hl:=iM h
  rw[List.findIdx?_eq_some_iff_getElem]
  have e1:∀ m (hm:m < ((st.map Lt.nm).map D.str).length),eqD ((st.map Lt.nm).map D.str)[m] (.str n)=decide ((st[m]'(by simpa using hm)).nm=n):=by
    intro m hm
    simp[jZ]
  refine ⟨by simpa using hl,?_,fun j hj=>?_⟩
  · rw[e1]
    have hl':(st.findIdx fun x=>decide (x.nm=n)) < st.length:=hl
    have:=List.findIdx_getElem (xs:=st) (p:=fun x=>decide (x.nm=n)) (w:=hl')
    exact this
  · rw[e1]
    have:=List.not_of_lt_findIdx (xs:=st) (p:=fun x=>decide (x.nm=n)) hj
    simpa using this
theorem hU {ws:List Str}{p:Int}{f:Nat}{st out:List Lt}{l:Str}(h:¬ (0 < st.length∧(out.length:Int) < p)):bj ws p f st out l=(out,st,l):=by
  cases f with
  | zero=>rfl
  | succ f=>unfold bj;rw[if_neg h]
theorem mq {ws:List Str}{p:Int}{f:Nat}{st out:List Lt}{l n:Str}{x:Lt}(h:0 < st.length∧(out.length:Int) < p)(hn:cv ws (st.map Lt.nm) l=some n)(hx:st[at1 n st]? = some x) :
    bj ws p (f+1) st out l=bj ws p f (st.eraseIdx (at1 n st)) (out++[x]) n:=by
  conv=>lhs;unfold bj
  rw[if_pos h,hn]
  dsimp only
  rw[hx]
theorem vq {n k:Nat}(h:k < n):L2.ixN n (k:Int)=some k:=by rw[vf,if_pos h]
def bz (ws:List Str)(st:List Lt):Prop:=∀ x∈st,x.nm∈ws
def aX:FSp:=fun ds μ Q=>match ds with
  | [wd,d,.tup st',.str l]=>∃ (w:Wy) (ws:List Str) (st:List Lt),(wd=w.toD∧(d=.tup (ws.map .str)∨d=.ls (ws.map .str))∧st'=ltD st∧(∀ x∈ws,PyData.strOk x=true)∧bz ws st∧ws.length≤900000∧st.length≤900000)∧
      Q (.tup [.tup (ltD (bj ws w.pc st.length st [] l).1),.tup (ltD (bj ws w.pc st.length st [] l).2.1),.str (bj ws w.pc st.length st [] l).2.2]) μ
  | _=>False
theorem fW:∀ ds μ Q,aX ds μ Q→ds.length=4:=by
  unfold aX
  walk_at "ln"
def dX:STr:=aD (aU (ao eT (af (ah 2) (au))) (aq 4)) (aD (aU (mL (au)) (aq 5)) (aD (aU (ah 3) (aq 6)) (aD (tE (ja (TB (ak rGt (ao cN (af (ah 4) (au))) (TC (.int 0)))) (TB (ak rLt (ao cN (af (ah 5) (au))) (ak L3.rIx (ah 0) (TC (.int 1)))))) (aD (aU (lq (ah 4) (aq 0) (fN) (ak L3.rIx (ah 0) (TC (.int 0))) 1 []) (aq 7)) (aD (aU (ao bA (af (ah 1) (af (ah 7) (af (ah 6) (au))))) (aq 6)) (gn (lX (ah 5) (yt (ah 4) (nH (ah 7) (ah 6)))))))) (cy (dF (af (ao bU (af (ah 5) (au))) (af (ao bU (af (ah 4) (au))) (af (ah 6) (au)))))))))
theorem gz:∀ ds μ Q,aX ds μ Q→dX { nx:=fun _ μ'=>RT Q .non μ',rt:=RT Q } (ini 8 ds) μ:=by
  intro ds μ Q h
  unfold aX at h
  split at h
  case h_2=>exact h.elim
  rename_i wd d st' l
  walk_at "ini"
  unfold dX
  walk_at "go"
  obtain ⟨w,ws,st,⟨rfl,hd,rfl,hw,hs,hl1,hl2⟩,k⟩:=h
  intro p hp
  walk_at "go"
  intro q hq
  have qp:q≠p:=fun z=>by subst z;rw[ax] at hq;cases hq
  have hqn:μ q=none:=by rw[aJ qp] at hq;exact hq
  walk_at "go"
  refine ⟨fun ρ μ'=>∃ (a o:List Lt) (n:Str) (v7:Option D) (f:Nat),ρ=[some w.toD,some d,some (.tup (ltD st)),some (.str l),some (.obj p),some (.obj q),some (.str n),v7]∧μ' p=some (.lst (ltD a))∧μ' q=some (.lst (ltD o))∧Sub μ μ'∧bj ws w.pc f a o n=bj ws w.pc st.length st [] l∧a.length≤f∧a.length+o.length≤900000∧bz ws a,
    fun _ μ'=>match μ' p with
      | some (.lst ds)=>ds.length
      | _=>0,⟨st,[],l,_,st.length,rfl,by rw[aJ (Ne.symm qp),ax],ax,(Sub.new hp).trans (Sub.new hq),rfl,Nat.le_refl _,by simpa using hl2,hs⟩,?_⟩
  rintro ρ μ' ⟨a,o,n,v7,f,rfl,ep,eq,sb,e,hf,hz,ha⟩
  have fin:¬ (0 < a.length∧(o.length:Int) < w.pc)→RT Q (.tup [.tup (ltD o),.tup (ltD a),.str n]) μ':=fun hn=>by
    rw[hU hn] at e
    rw[← e] at k
    exact ⟨_,sb,k⟩
  walk_at "go"
  refine bf ep ?_
  walk_at "go"
  rw[List.length_map]
  refine kif (fun h1=>?_) fun h1=>?_
  rotate_left
  · refine bf eq ?_
    walk_at "go"
    refine bf ep ?_
    walk_at "go"
    exact fin fun h=>h1 (by have:=h.1;omega)
  walk_at "go"
  refine bf eq ?_
  walk_at "go"
  rw[List.length_map]
  refine kif (fun h2=>?_) fun h2=>?_
  rotate_left
  · refine bf eq ?_
    walk_at "go"
    refine bf ep ?_
    walk_at "go"
    exact fin fun h=>h2 h.2
  walk_at "go"
  refine bf ep ?_
  refine qk ep (fun d=>match d with
    | .tup (x::_)=>x
    | _=>.non) (by rw[List.length_map];omega) (fun d hd μ2 _ N n=>?_) ?_
  · obtain ⟨x,hx,rfl⟩:=List.mem_map.mp hd
    walk_at "go"
    exact n
  have em:(ltD a).map (fun d=>match d with
    | .tup (x::_)=>x
    | _=>D.non)=(a.map Lt.nm).map .str:=by rw[List.map_map,List.map_map];rfl
  rw[em]
  walk_at "go"
  cases a with
  | nil=>simp at h1
  | cons x0 a0=>
  have h0:=ha x0 List.mem_cons_self
  obtain ⟨n2,hn2⟩:=iz (l:=n) h0 (show x0.nm∈(x0::a0).map Lt.nm from List.mem_cons_self)
  generalize hA:x0::a0=A at *
  have hos:∀ z∈A.map Lt.nm,PyData.strOk z=true:=fun z hz=>by
    obtain ⟨y,hy,rfl⟩:=List.mem_map.mp hz
    exact hw _ (ha y hy)
  refine ⟨ws,A.map Lt.nm,n2,⟨hd,rfl,hw,hos,hl1,hn2⟩,?_⟩
  walk_at "go"
  have hin:=de hn2
  have hi:=iM hin.2
  refine bf eq ?_
  walk_at "go"
  refine bf ep ?_
  walk_at "go"
  rw[kE hos,hw _ hin.1,zy hin.2]
  simp only[true_and]
  walk_at "go"
  refine ⟨by omega,⟨by omega,by omega⟩,bf ep ?_⟩
  rw[List.length_map,vq hi]
  walk_at "go"
  obtain ⟨x,hx⟩:∃ x,A[at1 n2 A]? = some x:=⟨A[at1 n2 A],List.getElem?_eq_getElem hi⟩
  rw[List.getElem?_map,hx]
  walk_at "go"
  refine bf (by rw[aJ qp];exact eq) ⟨by simp;omega,?_⟩
  cases f with
  | zero=>omega
  | succ f=>
  rw[mq ⟨by omega,h2⟩ hn2 hx] at e
  have le:(A.eraseIdx (at1 n2 A)).length=A.length - 1:=List.length_eraseIdx_of_lt hi
  refine ⟨⟨A.eraseIdx (at1 n2 A),o++[x],n2,_,f,rfl,?_,?_,?_,e,by omega,by simp;omega,fun y hy=>ha y (List.mem_of_mem_eraseIdx hy)⟩,?_⟩
  · rw[aJ (Ne.symm qp),ax,jI]
  · rw[ax];simp[ltD]
  · intro z u h
    rw[aJ (fun e=>by subst e;rw[hqn] at h;cases h),aJ (fun e=>by subst e;rw[hp] at h;cases h)]
    exact sb z u h
  · rw[aJ (Ne.symm qp),ax,ep]
    simp[List.length_eraseIdx,hi]
    omega
def fY (w:Wy)(ws:List Str)(st:List Lt)(l:Str):List Lt×List Lt×Str:=if w.tn then bj ws w.pc st.length st [] l else (st.take w.pc.toNat,st.drop w.pc.toNat,Str.ofString "")
theorem wF (b:Bool):PyData.strOk (jY b)=true:=by cases b<;>decide +kernel
theorem sG:PyData.strOk (Str.ofString "turns")=true:=by decide +kernel
theorem yM (b:Bool):decide (jY b=Str.ofString "turns")=b:=by cases b<;>decide +kernel
def cp:FSp:=fun ds μ Q=>match ds with
  | [wd,d,.tup st',.str l]=>∃ (w:Wy) (ws:List Str) (st:List Lt),(wd=w.toD∧(w.tn=true→(d=.tup (ws.map .str)∨d=.ls (ws.map .str))∧(∀ x∈ws,PyData.strOk x=true)∧bz ws st∧ws.length≤900000)∧st'=ltD st∧st.length≤900000∧0≤w.pc)∧
      Q (.tup [.tup (ltD (fY w ws st l).1),.tup (ltD (fY w ws st l).2.1),.str (fY w ws st l).2.2]) μ
  | _=>False
theorem mf:∀ ds μ Q,cp ds μ Q→ds.length=4:=by
  unfold cp
  walk_at "ln"
def jP:STr:=aD (eS (TB (ak rEq (ak L3.rIx (ah 0) (TC (.int 4))) (TC (.str "turns")))) (cy (ao aX (af (ah 0) (af (ah 1) (af (ah 2) (af (ah 3) (au))))))) (cI)) (cy (dF (af (ao bU (af (TSl (ah 2) (ONo) (jl (ak L3.rIx (ah 0) (TC (.int 1))))) (au))) (af (ao bU (af (TSl (ah 2) (jl (ak L3.rIx (ah 0) (TC (.int 1)))) (ONo)) (au))) (af (TC (.str "")) (au))))))
theorem mW:∀ ds μ Q,cp ds μ Q→jP { nx:=fun _ μ'=>RT Q .non μ',rt:=RT Q } (ini 4 ds) μ:=by
  intro ds μ Q h
  unfold cp at h
  split at h
  case h_2=>exact h.elim
  rename_i wd d st' l
  walk_at "ini"
  unfold jP
  walk_at "go"
  obtain ⟨w,ws,st,⟨rfl,ht,rfl,hl,hp⟩,k⟩:=h
  walk_at "go"
  rw[wF,sG,yM]
  unfold fY at k
  refine ⟨⟨rfl,rfl⟩,?_⟩
  cases e:w.tn with
  | true=>
    rw[e,if_pos rfl] at k
    obtain ⟨h1,h2,h3,h4⟩:=ht e
    walk_at "go"
    exact ⟨w,ws,st,⟨rfl,h1,rfl,h2,h3,h4,hl⟩,_,.refl _,k⟩
  | false=>
    rw[e,if_neg (by decide)] at k
    walk_at "go"
    rw[Bc _ hp,BN _ hp,vb,wo]
    exact ⟨_,.refl _,k⟩
abbrev wyD (ws:List Wy):List D:=ws.map Wy.toD
structure Sn where
  nm:Str
  rd:List Str
  bt:Int
  bg:Int
  mn:Option Int
  rl:RN
def Sn.toD (x:Sn):D:=.tup [.str x.nm,.tup (x.rd.map .str),.int x.bt,.int x.bg,qQ x.mn,x.rl.toD]
abbrev snD (ss:List Sn):List D:=ss.map Sn.toD
structure Sn.Ok (wn:List Str) (m:Int) (x:Sn):Prop where
  n:x.nm∈bc
  r0:x.rd≠[]
  r:x.rd.Sublist wn
  b0:1≤x.bt
  b1:x.bt≤8
  g0:0≤x.bg
  g1:x.bg≤1000000
  mm:∀ i,x.mn=some i→0≤i∧i≤1000000
  k:x.rl.Ok
  l:x.rl.r≤m*x.rl.s
structure Pn where
  g:Int
  ws:List Wy
  ss:List Sn
def Pn.toD (p:Pn):D:=.tup [.int p.g,.tup (wyD p.ws),.tup (snD p.ss)]
abbrev Pn.wn (p:Pn):List Str:=p.ws.map Wy.nm
abbrev Pn.sn (p:Pn):List Str:=p.ss.map Sn.nm
structure Pn.Ok (m:Int) (p:Pn):Prop where
  g:Gd p.g
  w0:0 < p.ws.length
  w1:p.ws.length≤6
  wd:p.wn.Nodup
  w:∀ x∈p.ws,x.Ok
  s1:p.ss.length≤8
  sd:p.sn.Pairwise fun a b=>ltS a b=true
  s:∀ x∈p.ss,x.Ok p.wn m
theorem xr {a b:Str}(h:a.cps.toList=b.cps.toList):a=b:=by
  cases a with | mk x=>cases b with | mk y=>
  congr 1
  exact Array.toList_inj.mp h
theorem yp {a b:Str}(h1:ltS b a=false)(h2:a≠b):ltS a b=true:=by
  unfold ltS at *
  rw[decide_eq_false_iff_not,List.not_lt] at h1
  rw[decide_eq_true_eq]
  refine Decidable.byContradiction fun h3=>h2 (xr (List.le_antisymm h1 ?_))
  exact List.not_lt.mp h3
theorem pw_strict {l:List Str}(h:l.Pairwise fun a b=>ltS b a=false)(hn:l.Nodup):l.Pairwise fun a b=>ltS a b=true:=by
  induction h with
  | nil=>exact .nil
  | @cons a l h1 h2 ih=>
    rw[List.nodup_cons] at hn
    exact .cons (fun b hb=>yp (h1 b hb) fun e=>hn.1 (e ▸ hb)) (ih hn.2)
theorem o6 {a b:Str}(h:ltS a b=true):ltS b a=false:=by
  unfold ltS at *
  have h1:a.cps.toList < b.cps.toList:=by simpa using h
  have h2:¬ b.cps.toList < a.cps.toList:=fun q=>List.lt_irrefl _ (List.lt_trans h1 q)
  simpa using h2
theorem fv (a:Str):ltS a a=false:=by
  unfold ltS;simp
theorem qW {a b c:Str}(h:ltS a b=true)(h':ltS b c=true):ltS a c=true:=by
  unfold ltS at h h' ⊢
  exact decide_eq_true (List.lt_trans (of_decide_eq_true h) (of_decide_eq_true h'))
abbrev Srt (ws:List Str):Prop:=ws.Pairwise fun a b=>ltS a b=true
theorem pj {xs:List Str}{n:Str}(hs:Srt xs)(h:xs.head? = some n):∀ w∈xs,n=w∨ltS n w=true:=by
  cases xs with
  | nil=>cases h
  | cons x r=>
    cases h
    intro w hw
    rcases List.mem_cons.mp hw with e | e
    · exact .inl e.symm
    · exact .inr ((List.pairwise_cons.mp hs).1 w e)
theorem rC {ws os:List Str}{l n:Str}(hs:Srt ws)(h:cv ws os l=some n) :
    (ltS l n=true∧∀ w∈ws,w∈os→ltS l w=true→n=w∨ltS n w=true)∨((∀ w∈ws,w∈os→ltS l w=false)∧∀ w∈ws,w∈os→n=w∨ltS n w=true):=by
  unfold cv at h
  have s1:Srt (ws.filter fun w=>decide (w∈os)):=hs.filter _
  have s2:Srt ((ws.filter fun w=>decide (w∈os)).filter fun w=>ltS l w):=s1.filter _
  split at h
  · rename_i x r e
    cases h
    rw[e] at s2
    have hm:n∈(ws.filter fun w=>decide (w∈os)).filter fun w=>ltS l w:=by rw[e];exact List.mem_cons_self
    refine .inl ⟨(List.mem_filter.mp hm).2,fun w h1 h2 h3=>pj (xs:=n::r) s2 rfl w ?_⟩
    rw[← e]
    exact List.mem_filter.mpr ⟨List.mem_filter.mpr ⟨h1,decide_eq_true h2⟩,h3⟩
  · rename_i e
    refine .inr ⟨fun w h1 h2=>?_,fun w h1 h2=>pj s1 h w (List.mem_filter.mpr ⟨h1,decide_eq_true h2⟩)⟩
    cases q:ltS l w with
    | false=>rfl
    | true=>
      have:w∈(ws.filter fun w=>decide (w∈os)).filter fun w=>ltS l w:=List.mem_filter.mpr ⟨List.mem_filter.mpr ⟨h1,decide_eq_true h2⟩,q⟩
      rw[e] at this;cases this
def Arc (A B l:Str):Prop:=(ltS A B=true→ltS l A=false∧ltS l B=true)∧(ltS B A=true→ltS l A=false∨ltS l B=true)
theorem di {A B:Str}:Arc A B A:=⟨fun h=>⟨fv A,h⟩,fun _=>.inl (fv A)⟩
theorem vz {ws:List Str}(hs:Srt ws){A B:Str}(hA:A∈ws)(hB:B∈ws)(ne:A≠B):ltS A B=true∨ltS B A=true:=by
  induction ws with
  | nil=>cases hA
  | cons x r ih=>
    obtain ⟨h1,h2⟩:=List.pairwise_cons.mp hs
    rcases List.mem_cons.mp hA with rfl | a
    · rcases List.mem_cons.mp hB with rfl | b
      · exact absurd rfl ne
      · exact .inl (h1 B b)
    · rcases List.mem_cons.mp hB with rfl | b
      · exact .inr (h1 A a)
      · exact ih h2 a b
theorem fg {ws os:List Str}{A B l n:Str}(hs:Srt ws)(hA:A∈ws)(hB:B∈ws)(ne:A≠B)(oB:B∈os)(h:cv ws os l=some n)(a:Arc A B l):n≠A∧(n≠B→Arc A B n):=by
  have sp:=rC hs h
  rcases vz hs hA hB ne with q | q
  · obtain ⟨a1,a2⟩:=a.1 q
    have q':=o6 q
    rcases sp with ⟨s1,s2⟩ | ⟨s1,_⟩
    · refine ⟨(fun z=>by rw[z,a1] at s1;cases s1),fun z=>⟨fun _=>⟨?_,(s2 B hB oB a2).resolve_left z⟩,fun c=>by rw[q'] at c;cases c⟩⟩
      cases c:ltS n A with
      | false=>rfl
      | true=>rw[qW s1 c] at a1;cases a1
    · rw[s1 B hB oB] at a2;cases a2
  · have q':=o6 q
    have fin:(n=B∨ltS n B=true)→n≠A∧(n≠B→Arc A B n):=fun c=>by
      refine ⟨fun z=>?_,fun z=>⟨(fun d=>by rw[q'] at d;cases d),fun _=>.inr (c.resolve_left z)⟩⟩
      subst z
      rcases c with c | c
      · exact ne c
      · rw[q'] at c;cases c
    rcases a.2 q with a1 | a2
    · rcases sp with ⟨s1,s2⟩ | ⟨_,s2⟩
      · refine ⟨(fun z=>by rw[z,a1] at s1;cases s1),fun _=>⟨(fun d=>by rw[q'] at d;cases d),fun _=>.inl ?_⟩⟩
        cases c:ltS n A with
        | false=>rfl
        | true=>rw[qW s1 c] at a1;cases a1
      · exact fin (s2 B hB oB)
    · rcases sp with ⟨s1,s2⟩ | ⟨s1,_⟩
      · exact fin (s2 B hB oB a2)
      · rw[s1 B hB oB] at a2;cases a2
inductive Chn (ws:List Str):Str→List (Str×List Str)→Prop
  | nil (l:Str):Chn ws l []
  | cons {l n:Str} {os:List Str} {r:List (Str×List Str)} (h:cv ws os l=some n) (t:Chn ws n r):Chn ws l ((n,os)::r)
structure Ap where
  m:Int
  b:Int
  lo:Int
  hi:Int
def bI (c:Bool):Int:=if c then 1 else 0
def apS (A B:Str)(s:Ap)(r:Str×List Str):Ap:=if A ∉ r.2∨B ∉ r.2 then ⟨s.m,0,0,0⟩ else
  let b:=s.b+bI (decide (r.1=A)) - bI (decide (r.1=B))
  ⟨max s.m (max s.hi b - min s.lo b),b,min s.lo b,max s.hi b⟩
def ApI (A B l:Str)(s:Ap):Prop:=(0≤s.m∧s.m≤1)∧((s.b=0∧s.lo=0∧s.hi=0)∨(Arc A B l∧((s.b=1∧s.lo=0∧s.hi=1)∨s.b=0∧s.lo = -1∧s.hi=0))∨(Arc B A l∧((s.b = -1∧s.lo = -1∧s.hi=0)∨s.b=0∧s.lo=0∧s.hi=1)))
theorem pf {ws:List Str}{A B:Str}(hs:Srt ws)(hA:A∈ws)(hB:B∈ws)(ne:A≠B):∀ {rows:List (Str×List Str)} {l:Str} {s:Ap},Chn ws l rows→ApI A B l s→0≤(rows.foldl (apS A B) s).m∧(rows.foldl (apS A B) s).m≤1
  | [],_,_,_,h=>h.1
  | (n,os)::r,l,s,.cons hn t,⟨⟨m0,m1⟩,h⟩=>by
    rw[List.foldl_cons]
    refine pf hs hA hB ne t ?_
    unfold apS
    by_cases c:A ∉ os∨B ∉ os
    · rw[if_pos c]
      exact ⟨⟨m0,m1⟩,.inl ⟨rfl,rfl,rfl⟩⟩
    rw[if_neg c]
    have oA:A∈os:=Classical.not_not.mp fun z=>c (.inl z)
    have oB:B∈os:=Classical.not_not.mp fun z=>c (.inr z)
    by_cases cA:n=A
    · subst cA
      have nB:n≠B:=ne
      simp only[decide_true,decide_eq_false nB,bI,if_true,Bool.false_eq_true,if_false]
      rcases h with ⟨b0,l0,h0⟩ | ⟨a,_⟩ | ⟨a,h⟩
      · refine ⟨?_,.inr (.inl ⟨di,.inl ?_⟩)⟩ <;> simp only[b0,l0,h0]<;>omega
      · exact absurd rfl (fg hs hA hB ne oB hn a).1
      · rcases h with ⟨b0,l0,h0⟩ | ⟨b0,l0,h0⟩
        · refine ⟨?_,.inr (.inl ⟨di,.inr ?_⟩)⟩ <;> simp only[b0,l0,h0]<;>omega
        · refine ⟨?_,.inr (.inl ⟨di,.inl ?_⟩)⟩ <;> simp only[b0,l0,h0]<;>omega
    · by_cases cB:n=B
      · subst cB
        simp only[decide_true,decide_eq_false cA,bI,if_true,Bool.false_eq_true,if_false]
        rcases h with ⟨b0,l0,h0⟩ | ⟨a,h⟩ | ⟨a,_⟩
        · refine ⟨?_,.inr (.inr ⟨di,.inl ?_⟩)⟩ <;> simp only[b0,l0,h0]<;>omega
        · rcases h with ⟨b0,l0,h0⟩ | ⟨b0,l0,h0⟩
          · refine ⟨?_,.inr (.inr ⟨di,.inr ?_⟩)⟩ <;> simp only[b0,l0,h0]<;>omega
          · refine ⟨?_,.inr (.inr ⟨di,.inl ?_⟩)⟩ <;> simp only[b0,l0,h0]<;>omega
        · exact absurd rfl (fg hs hB hA (Ne.symm ne) oA hn a).1
      · simp only[decide_eq_false cA,decide_eq_false cB,bI,Bool.false_eq_true,if_false]
        rcases h with ⟨b0,l0,h0⟩ | ⟨a,h⟩ | ⟨a,h⟩
        · refine ⟨?_,.inl ?_⟩ <;> simp only[b0,l0,h0]<;>omega
        · have a':=(fg hs hA hB ne oB hn a).2 cB
          rcases h with ⟨b0,l0,h0⟩ | ⟨b0,l0,h0⟩
          · refine ⟨?_,.inr (.inl ⟨a',.inl ?_⟩)⟩ <;> simp only[b0,l0,h0]<;>omega
          · refine ⟨?_,.inr (.inl ⟨a',.inr ?_⟩)⟩ <;> simp only[b0,l0,h0]<;>omega
        · have a':=(fg hs hB hA (Ne.symm ne) oA hn a).2 cA
          rcases h with ⟨b0,l0,h0⟩ | ⟨b0,l0,h0⟩
          · refine ⟨?_,.inr (.inr ⟨a',.inl ?_⟩)⟩ <;> simp only[b0,l0,h0]<;>omega
          · refine ⟨?_,.inr (.inr ⟨a',.inr ?_⟩)⟩ <;> simp only[b0,l0,h0]<;>omega
theorem rA {ws os:List Str}{l:Str}:cv ws (ws.filter fun w=>decide (w∈os)) l=cv ws os l:=by
  have e:(ws.filter fun w=>decide (w∈ws.filter fun w=>decide (w∈os)))=ws.filter fun w=>decide (w∈os):=
    List.filter_congr fun w hw=>decide_eq_decide.mpr ⟨fun h=>of_decide_eq_true (List.mem_filter.mp h).2,fun h=>List.mem_filter.mpr ⟨hw,decide_eq_true h⟩⟩
  unfold cv
  rw[e]
def aS (ws:List Str)(p:Int):Nat→List Lt→Nat→Str→List (Str×List Str)
  | 0,_,_,_=>[]
  | f+1,st,o,l=>if 0 < st.length∧(o:Int) < p then (match cv ws (st.map Lt.nm) l with
      | some n=>(n,ws.filter fun w=>decide (w∈st.map Lt.nm))::aS ws p f (st.eraseIdx (at1 n st)) (o+1) n
      | none=>[]) else []
def cc (l:Str):List (Str×List Str)→Str
  | []=>l
  | r::R=>cc r.1 R
theorem gh {ws:List Str}{p:Int}:∀ (f:Nat) (st:List Lt) (o:Nat) (l:Str),Chn ws l (aS ws p f st o l)
  | 0,_,_,l=>.nil l
  | f+1,st,o,l=>by
    unfold aS
    split
    · split
      · rename_i n e
        exact .cons (rA.trans e) (gh f _ _ _)
      · exact .nil l
    · exact .nil l
theorem pK {ws:List Str}:∀ {R S:List (Str×List Str)} {l:Str},Chn ws l R→Chn ws (cc l R) S→Chn ws l (R++S)
  | [],_,_,_,h=>h
  | _::_,_,_,.cons e t,h=>.cons e (pK t h)
theorem iC {ws:List Str}{p:Int}:∀ (f:Nat) (st out:List Lt) (l:Str),bz ws st→(bj ws p f st out l).1.map Lt.nm=out.map Lt.nm++(aS ws p f st out.length l).map (·.1)∧(bj ws p f st out l).2.2=cc l (aS ws p f st out.length l)
  | 0,st,out,l,_=>by simp[bj,aS,cc]
  | f+1,st,out,l,h=>by
    unfold bj aS
    by_cases c:0 < st.length∧(out.length:Int) < p
    · rw[if_pos c,if_pos c]
      cases e:cv ws (st.map Lt.nm) l with
      | none=>simp[cc]
      | some n=>
        have hi:=iM (de e).2
        have hx:st[at1 n st]? = some st[at1 n st]:=List.getElem?_eq_getElem hi
        have nm:=sf hx
        simp only[hx]
        have ih:=iC (p:=p) f (st.eraseIdx (at1 n st)) (out++[st[at1 n st]]) n fun y hy=>h y (List.mem_of_mem_eraseIdx hy)
        rw[List.length_append,List.length_singleton] at ih
        refine ⟨?_,?_⟩
        · rw[ih.1];simp[nm]
        · rw[ih.2];rfl
    · rw[if_neg c,if_neg c]
      simp[cc]
def cn (st:List Lt)(w:Str):Nat:=(st.map Lt.nm).count w
theorem xQ (w:Str):∀ (st:List Lt) (i:Nat) (h:i < st.length),cn st w=cn (st.eraseIdx i) w+if st[i].nm=w then 1 else 0
  | x::r,0,_=>by
    unfold cn
    rw[List.map_cons,List.count_cons,List.eraseIdx_cons_zero]
    simp
  | x::r,i+1,h=>by
    have:=xQ w r i (by simpa using h)
    unfold cn at this ⊢
    rw[List.eraseIdx_cons_succ,List.map_cons,List.map_cons,List.count_cons,List.count_cons,this,List.getElem_cons_succ]
    omega
theorem yo {st:List Lt}{n:Str}(h:n∈st.map Lt.nm)(w:Str):cn st w=cn (st.eraseIdx (at1 n st)) w+if n=w then 1 else 0:=by
  have hi:=iM h
  have hx:st[at1 n st]? = some st[at1 n st]:=List.getElem?_eq_getElem hi
  rw[xQ w st _ hi,sf hx]
theorem AX {ws:List Str}{st:List Lt}:(ws.filter fun w=>decide (0 < (cn st w:Int)))=ws.filter fun w=>decide (w∈st.map Lt.nm):=by
  refine List.filter_congr fun w _=>decide_eq_decide.mpr ?_
  unfold cn
  rw[← List.count_pos_iff]
  omega
theorem vV (st:List Lt)(x:Lt)(w:Str):cn (st++[x]) w=cn st w+if x.nm=w then 1 else 0:=by
  unfold cn
  rw[List.map_append,List.count_append]
  simp[List.count_cons]
section
open PySem PySem.Spec PyProof.Rows L2
section
variable {prog:Program} {w:World} {A:Around} {E:Value→Shared→Prop} {s:Shared}
end
section
variable {X:Cx} {ea eb:Expr} {Ta Tb:ETr} {p p2 pos rpos:Pos}
end
end
section
open PySem PySem.Spec PyProof.Rows L2
section
variable {prog:Program} {w:World} {A:Around} {E:Value→Shared→Prop} {s:Shared}
end
end
section
open PySem PySem.Spec PyProof.Rows L2
section
variable {prog:Program} {w:World} {A:Around} {E:Value→Shared→Prop} {s:Shared}
theorem uB {tp:Bool}{e it a:Addr}{i:Nat}{xs:Array Value}{x old:Value}{Q:Option Value→Shared→Prop}(en:IsEnum s.heap e it i old)(li:fR tp s.heap it a i)(se:gu tp s.heap a xs)(hx:xs[i]? = some x)(ne:e≠it)
    (q:∀ g,IsEnumOut g e it ((i:Int)+1) x s.heap.objs.size→fR tp g it a (i+1)→g.get? s.heap.objs.size=some { cls:=.type "tuple", data:=.seq #[.int i s.toks,x] }→
      (∀ c o,c≠e→c≠it→s.heap.get? c=some o→g.get? c=some o)→Q (some (.ref s.heap.objs.size)) { s with heap:=g,toks:=s.toks+1 }):wpAny (model prog w) A (pyNext (.ref e)) Q E s:=by
  have ty:s.TypeIs (.ref e) "enumerate" := ⟨_,en,rfl⟩
  unfold pyNext
  refine wpAny_bind (wpAny_attempt (wpAny_callSpecial?_slot (name:=Str.ofString "__next__") ty F.slot_enumerate_next (wpAny_call_entry F.slot_enumerate_next ty F.entry_enumerate_next ?_ (F.args_enumerate_next_1 _))))
  refine wpAny_bind (m:=field (.ref e) 2) (wpAny_field en rfl (x:=.ref it) rfl (wpAny_bind (m:=Builtin.SmallTypes.nextOf (.ref it)) (vZ li se hx fun g1 li1 k1=>?_)))
  have en1:IsEnum g1 e it i old:=(k1.2 e ne).trans en
  refine wpAny_bind (m:=field (.ref e) 3) (wpAny_field (s:={ s with heap:=g1 }) en1 rfl (x:=rawInt i) rfl (wpAny_bind (m:=field (.ref e) 4) (wpAny_field (s:={ s with heap:=g1 }) en1 rfl (x:=.none) rfl (wpAny_bind (m:=mkInt i) (wpAny_mkInt ?_)))))
  refine wpAny_bind (m:=setField (.ref e) 3 (rawInt ((i:Int)+1))) (wpAny_setField_rec en1 (by simp) fun g2 en2 k2=>?_)
  have en2:IsEnum g2 e it ((i:Int)+1) old:=en2
  refine wpAny_bind (m:=setField (.ref e) 4 .none) (wpAny_setField_rec en2 (by simp) fun g3 en3 k3=>?_)
  have en3:IsEnum g3 e it ((i:Int)+1) old:=en3
  refine wpAny_bind (m:=newTuple [.int i s.toks,x]) (wpAny_newTuple ?_)
  have sz:g3.objs.size=s.heap.objs.size:=by rw[k3.1,k2.1,k1.1]
  have en4:IsEnum (g3.push { cls:=.type "tuple", data:=.seq #[.int i s.toks,x] }) e it ((i:Int)+1) old:=Heap.get?_push_of_some _ en3
  have elt:e < g3.objs.size:=Heap.lt_size en3
  refine wpAny_bind (m:=Builtin.SmallTypes.ownedTupleIsFree (.ref e)) ?_
  delta Builtin.SmallTypes.ownedTupleIsFree
  refine wpAny_bind (wpAny_field (s:={ s with heap:=g3.push { cls:=.type "tuple", data:=.seq #[.int i s.toks,x] },toks:=s.toks+1 }) en4 rfl (x:=.none) rfl (wpAny_pure ?_))
  simp only[if_true]
  refine wpAny_bind (wpAny_rule (wpAny_bind (wpAny_field en4 rfl (x:=old) rfl (wpAny_bind (wpAny_setField_rec en4 (by simp) fun g5 en5 k5=>?_)))))
  have en5:IsEnum g5 e it ((i:Int)+1) x:=en5
  refine wpAny_bind (m:=Builtin.SmallTypes.ownedTupleHandOut (.ref e) (.ref g3.objs.size)) ?_
  delta Builtin.SmallTypes.ownedTupleHandOut
  refine wpAny_bind (wpAny_setField_rec en5 (by simp) fun g6 en6 k6=>?_)
  have en6:IsEnumOut g6 e it ((i:Int)+1) x g3.objs.size:=en6
  refine wpAny_setField_rec en6 (by simp) fun g7 en7 k7=>?_
  have en7:IsEnumOut g7 e it ((i:Int)+1) x g3.objs.size:=en7
  have up3:∀ c o,c≠e→g3.get? c=some o→g7.get? c=some o:=fun c o c1 h=>(k7.2 c c1).trans ((k6.2 c c1).trans ((k5.2 c c1).trans (Heap.get?_push_of_some _ h)))
  have new:g7.get? g3.objs.size=some { cls:=.type "tuple", data:=.seq #[.int i s.toks,x] }:=(k7.2 _ (Nat.ne_of_gt elt)).trans ((k6.2 _ (Nat.ne_of_gt elt)).trans ((k5.2 _ (Nat.ne_of_gt elt)).trans (Heap.get?_push_size _ rfl)))
  rw[sz] at en7 new
  have fin:=q g7 en7 (li1.at fun o h=>up3 it o (Ne.symm ne) ((k3.2 it (Ne.symm ne)).trans ((k2.2 it (Ne.symm ne)).trans h))) new fun c o c1 c2 h=>up3 c o c1 ((k3.2 c c1).trans ((k2.2 c c1).trans ((k1.2 c c2).trans h)))
  rw[← sz] at fin
  exact wpAny_bind (wpAny_letGo (wpAny_pure ⟨_,rfl,wpAny_pure fin⟩))
theorem vB {tp:Bool}{e it a:Addr}{i:Nat}{xs:Array Value}{old:Value}{Q:Option Value→Shared→Prop}(hh:A.handled=none)(en:IsEnum s.heap e it i old)(li:fR tp s.heap it a i)(se:gu tp s.heap a xs)(hx:xs[i]? = none)
    (q:∀ g,Heap.ExtBut it s.heap g→Q none { s with heap:=g }):wpAny (model prog w) A (pyNext (.ref e)) Q E s:=by
  have ty:s.TypeIs (.ref e) "enumerate" := ⟨_,en,rfl⟩
  unfold pyNext
  refine wpAny_bind (wpAny_attempt (wpAny_callSpecial?_slot (name:=Str.ofString "__next__") ty F.slot_enumerate_next (wpAny_call_entry F.slot_enumerate_next ty F.entry_enumerate_next ?_ (F.args_enumerate_next_1 _))))
  refine wpAny_bind (m:=field (.ref e) 2) (wpAny_field en rfl (x:=.ref it) rfl (wpAny_bind (m:=Builtin.SmallTypes.nextOf (.ref it)) (yn hh li se hx fun g z kp sz=>?_)))
  obtain ⟨o,ho,hc⟩:=sz
  exact wpAny_bind (wpAny_isInstance (T := "StopIteration") (b:=true) ⟨o,ho,hc⟩ isSubtype_stop (wpAny_pure (q _ kp)))
theorem tG (tp:Bool)(a:Addr)(xs:Array Value):Meets (Builtin.«enumerate.__new__» ⟨[.type "enumerate", .ref a],[]⟩) (fun _ R s=>gu tp s.heap a xs∧
      R (.ok (.ret (.ref (s.heap.push (itO tp a)).objs.size))) { s with heap:=(s.heap.push (itO tp a)).push { cls:=.type "enumerate", data:=.fields #[.none,.bool false,.ref s.heap.objs.size,rawInt 0,.none,.none] } }):=
  .of_wp fun prog w A R s h=>by
    rcases s with ⟨hp,g,d,tk,os⟩
    obtain ⟨h1,h⟩:=h
    have hs0:=sub_enumerate
    have H1:gu tp (Shared.heap ⟨hp,g,d,tk,os⟩) a xs:=h1
    wp_walk
    refine wpAny_stack_any fun stk=>wpAny_pure ?_
    split
    · rename_i c _ _ _ _ _
      cases (c == Value.type "enumerate")<;>(wp_walk using Bk H1;exact ⟨_,rfl,h⟩)
    · wp_walk using Bk H1
      exact ⟨_,rfl,h⟩
theorem nE {tp:Bool}{a:Addr}{xs:Array Value}{Q:Value→Shared→Prop}(h1:gu tp s.heap a xs)
    (q:∀ g,IsEnum g (s.heap.objs.size+1) s.heap.objs.size 0 .none→fR tp g s.heap.objs.size a 0→(∀ c o,s.heap.get? c=some o→g.get? c=some o)→Q (.ref (s.heap.objs.size+1)) { s with heap:=g }) :
    wpAny (model prog w) A (call (.type "enumerate") [.ref a]) Q E s:=by
  refine callType_new F.called_enumerate (by decide) (F.typeCall_enumerate_1 _) (F.newCall_enumerate_1 _) (fun obj=>F.args_object_init_2 obj _) F.entry_enumerate_new (tG tp a xs) ⟨h1,?_⟩
  have s1:(s.heap.push (itO tp a)).objs.size=s.heap.objs.size+1:=Heap.size_push ..
  have new:IsEnum ((s.heap.push (itO tp a)).push { cls:=.type "enumerate", data:=.fields #[.none,.bool false,.ref s.heap.objs.size,rawInt 0,.none,.none] }) (s.heap.push (itO tp a)).objs.size s.heap.objs.size 0 .none:=Heap.get?_push_size _ rfl
  refine ⟨⟨_,new,rfl⟩,?_⟩
  rw[s1] at new ⊢
  refine q _ new ?_ fun c o h=>Heap.get?_push_of_some _ (Heap.get?_push_of_some _ h)
  have z:=Heap.get?_push_of_some { cls:=.type "enumerate", data:=.fields #[.none,.bool false,.ref s.heap.objs.size,rawInt 0,.none,.none] } (Heap.get?_push_size s.heap (o:=itO tp a) (by cases tp<;>rfl))
  cases tp<;>exact ⟨_,z,rfl,rfl⟩
end
def Itn (tp:Bool)(K:PySem.W.Frag)(a:Addr):It:=
  ⟨fun i H=>∃ xs x,Sq tp K H a xs∧xs[i]? = some x,
   fun i H v H'=>∃ x p,(∀ xs,Sq tp K H a xs→xs[i]? = some x)∧v=.ref p∧H p=none∧H'=L2.upd H p (.tup [.int i,x]),
   fun i H=>∃ xs,Sq tp K H a xs∧xs.length≤i⟩
structure NAt (tp:Bool) (h:Heap) (e it a:Addr) (k:Nat):Prop where
  en:∃ old,IsEnum h e it k old
  li:fR tp h it a k
theorem uI {P:Program}{w:World}{K:PySem.W.Frag}{es:List Expr}{ek:Nat}{ep:Pos}{tp:Bool}{e it a:Addr}(n1:e≠it) :
    Turn P w K (.Tuple es ek ep) (Itn tp K a) [e,it] e (fun k h=>NAt tp h e it a k) where
  mem:=by simp
  obj:=fun k h S c hc=>by
    obtain ⟨⟨old,en⟩,li⟩:=S
    simp only[List.mem_cons,List.not_mem_nil,or_false] at hc
    rcases hc with rfl | rfl
    · exact ⟨_,en,fun v y=>by cases y⟩
    · obtain ⟨o,ho,vs,hd⟩:=li.ex;exact ⟨o,ho,fun v y=>by rw[hd] at y;cases y⟩
  keep:=fun k h g S kp=>by
    obtain ⟨⟨old,en⟩,li⟩:=S
    exact ⟨⟨old,kp e (by simp) _ en⟩,li.at fun o q=>kp it (by simp) o q⟩
  item:=by
    intro X hP hw hK hc k pins s σ H E I hf S hg
    subst hP hw hK
    obtain ⟨xs,x,qa,ex⟩:=hg
    obtain ⟨⟨old,en⟩,li⟩:=S
    obtain ⟨ia,ra,sa⟩:=Inv.sq I qa
    obtain ⟨ux,hux,rx⟩:=ra.get ex
    have elt:e < s.heap.objs.size:=Heap.lt_size en
    have fr:H s.heap.objs.size=none:=I.hok.fresh (Nat.le_refl _)
    refine uB en li sa (x:=ux) (by simpa using hux) n1 fun g eo li2 new al=>⟨_,rfl,wpAny_letOwnedTupleGo_enum eo fun g2 en2 k2=>?_⟩
    have k2:Heap.SameBut e g g2:=k2
    have all:∀ c o,c ∉ [e,it]→s.heap.get? c=some o→g2.get? c=some o:=fun c o hc q=>by
      simp only[List.mem_cons,List.not_mem_nil,or_false,not_or] at hc
      exact (k2.2 c hc.1).trans (al c o hc.1 hc.2 q)
    have new2:g2.get? s.heap.objs.size=some { cls:=.type "tuple", data:=.seq #[.int k s.toks,ux] }:=(k2.2 _ (Nat.ne_of_gt elt)).trans new
    have nfp:∀ c u,H c=some u→c ∉ [e,it]:=fun c u q hc=>by rw[(hf c hc).1] at q;cases q
    refine ⟨.ref s.heap.objs.size,L2.upd H s.heap.objs.size (.tup [.int k,x]),?_,rfl,⟨x,_,fun xs' q=>by rw[Inv.zi I q qa];exact ex,rfl,fr,rfl⟩,⟨⟨_,en2⟩,li2.at fun o q=>(k2.2 it (Ne.symm n1)).trans q⟩,fun c hc=>?_⟩
    · refine L2.Inv.step (s:=s) (H:=H) (H':=L2.upd H s.heap.objs.size (.tup [.int k,x])) (g':=s.gens) (d':=s.drawn) (t':=s.toks+1) (h':=g2) (ch:=[e,it]) I (fun c hc=>⟨(hf c hc).2.2.2.1,(hf c hc).2.1,(hf c hc).2.2.2.2.1,(hf c hc).2.2.2.2.2⟩) (fun c o _ _ hc q _=>all c o hc q) (fun c o _ _ hc q _=>⟨o.slots,all c o hc q⟩) (fun c o hc q n=>?_) (fun c o hc q=>⟨o,all c o hc q⟩)
        (fun c xs q=>?_) (fun c o u q=>?_) (fun c ps q=>⟨#[],?_⟩) (fun m hm=>?_) (fun c u q=>?_) I.bare
      · rw[ay (Nat.ne_of_lt (Heap.lt_size q))];exact n
      · rw[ay (aQ q fr)];exact q
      · rw[ay (aQ q fr)];exact q
      · rw[ay (aQ q fr),q];simp
      · obtain ⟨o,es',ep',ho,r⟩:=hm
        exact ⟨o,es',ep',all _ o (fun hc=>(hf _ hc).2.1 rfl) ho,r⟩
      · by_cases hcT:c=s.heap.objs.size
        · subst hcT
          rw[az] at q;cases q
          exact ⟨by show 2≤sizeLine;decide,[.int k s.toks,ux],.cons ⟨s.toks,rfl⟩ (.cons rx .nil),⟨_,new2⟩⟩
        · rw[ay hcT] at q
          refine (I.hok c u q).ix (fun c' v hc' z=>all c' v ?_ z) (fun c' z=>by rw[ay (aQ z fr)];exact z) fun c' xs z=>by rw[ay (aQ z fr)];exact z
          rcases hc' with rfl | hc'
          · exact nfp _ _ q
          · exact nfp _ _ hc'
    · have hcl:c≠s.heap.objs.size:=by
        simp only[List.mem_cons,List.not_mem_nil,or_false] at hc
        rcases hc with rfl | rfl
        · exact Nat.ne_of_lt elt
        · obtain ⟨o,q,_⟩:=li.ex;exact Nat.ne_of_lt (Heap.lt_size q)
      rw[ay hcl];exact (hf c hc).1
  done:=by
    intro X hP hw hK hc k pins s σ H E I hf S hg
    subst hP hw hK
    obtain ⟨xs,qa,he⟩:=hg
    obtain ⟨⟨old,en⟩,li⟩:=S
    obtain ⟨ia,ra,sa⟩:=Inv.sq I qa
    have la:=ra.length
    obtain ⟨f0,f1,f2,f3,f4,f5⟩:=hf it (by simp)
    exact vB (I.ok.hd hc) en li sa (by simp;omega) fun g eb=>⟨rfl,I.turned (t':=s.toks) (fun b o hb q=>eb b o hb q) f0 f1 f3 f4 f5⟩
  self:=fun _ _ _ _ _ S h=>by
    obtain ⟨⟨old,en⟩,_⟩:=S
    exact wpAny_pyIter_enum en h
def BR (K:PySem.W.Frag)(t:TA):TI:=fun σ H R=>t σ H fun vs H1=>∃ (tp:Bool) (a:Addr),vs=[.ref a]∧(∃ xs,Sq tp K H1 a xs)∧R (Itn tp K a) H1
section
variable {X:Cx} {ea:Expr} {es:List Expr} {ek:Nat} {ep p pos:Pos}
theorem Ab {t:TA}(hg:Gl X "enumerate")(hm:X.mg "enumerate" = none)(ha:PA X [ea] t)(hs:starEach [ea] X.env=[(false,eval ea X.env)]:=by rfl) :
    PI X (.Tuple es ek ep) (.Call (.Name "enumerate" p) [ea] [] pos) (BR X.K t):=by
  intro pins s σ H R I h
  refine Call_ (iR I hg hm boot_enumerate (PyProof.Rows.callWith_type1 (thn (ha pos pins s σ H _ I h) fun us s1 ⟨vs,H1,I1,r1,q1⟩=>?_) (by rw[hs];rfl) rfl))
  obtain ⟨tp,a,e,⟨xs,qa⟩,q⟩:=q1
  subst e
  cases r1 with | cons r rr=>
  cases rr
  cases (show _=Value.ref a from r)
  obtain ⟨ia,ra,sa⟩:=Inv.sq I1 qa
  refine nE sa fun g en li kp=>wpAny_pyIter_enum en ?_
  refine ⟨s1.heap.objs.size+1,[s1.heap.objs.size+1,s1.heap.objs.size],_,_,H1,rfl,I1.kept (t':=s1.toks) kp,uI (tp:=tp) (a:=a) (Nat.succ_ne_self _),⟨⟨_,en⟩,li⟩,fun c hc=>?_,q⟩
  have hc':s1.heap.objs.size≤c:=by
    simp only[List.mem_cons,List.not_mem_nil,or_false] at hc
    rcases hc with rfl | rfl
    · exact Nat.le_succ _
    · exact Nat.le_refl _
  exact I1.rH hc' (I1.hok.fresh hc')
def sS (t:ATr):ATr:=fun ρ μ Q=>t ρ μ fun vs μ1=>match vs with
  | [x]=>kS x fun ds=>Q (gd ds) μ1
  | _=>False
theorem xo {At:ATr}(hg:Gl X "enumerate")(hm:X.mg "enumerate" = none)(ha:LA X [ea] At)(hs:starEach [ea] X.env=[(false,eval ea X.env)]:=by rfl) :
    LI X (.Tuple es ek ep) (.Call (.Name "enumerate" p) [ea] [] pos) (sS At):=by
  obtain ⟨t,pt,st⟩:=ha.ex
  refine ⟨_,Ab hg hm pt hs,fun σ H ρ μ Q R rl h k=>st σ H ρ μ _ _ rl h fun vs H1 ds μ1 t1 m1 p1 h1=>?_⟩
  split at h1
  case h_2=>exact False.elim h1
  cases p1 with | cons pa p2=>
  cases p2
  obtain ⟨tp,a,xs,dx,rfl,qa,la,h2⟩:=zm pa h1
  obtain ⟨a',xs',dx',ea',qa',la',h2⟩:=Ah pa h2
  cases ea'
  refine ⟨tp,a,rfl,⟨xs',qa'⟩,k _ H1 _ μ1 t1 m1 ⟨fun i H' tk hi=>?_,fun i H' v H'' tk hi yv=>?_,fun i H' tk hi=>?_⟩ h2⟩
  · have l1:=la'.length
    rw[jS] at hi
    exact ⟨xs',xs'[i],tk.sq qa',by simp[show i < xs'.length by omega]⟩
  · obtain ⟨x,q,fx,rfl,fr,rfl⟩:=yv
    have ex:=fx _ (tk.sq qa')
    obtain ⟨d,ed,pd⟩:=la'.get' ex
    have tn:Tk H' (L2.upd H' q (.tup [.int i,x])):=.new fr
    exact ⟨tn,⟨.tup [.int i,d],by rw[jC,ed];rfl,.tup (SqT.of az) (.cons (.int _) (.cons ((pd.mono tk).mono tn) .nil))⟩,fun μ' m'=>bS m' fr⟩
  · rw[jS] at hi
    exact ⟨xs',tk.sq qa',by rw[la'.length];exact hi⟩
end
end
section
open PySem PySem.Spec PyProof PyProof.Rows L2
section
variable {w:World} {prog:Program} {A:Around} {E:Value→Shared→Prop}
section
variable {R:Result→Shared→Prop} {I:Addr} {fp wr:List Addr} {n:Nat} {P:Nat→Value→Prop} {St:Nat→Heap→Prop}
end
variable {s:Shared}
end
section
variable {X:Cx} {e d:Expr} {p pos kp:Pos} {Te Td:ETr}
end
end
section
open PySem PySem.Spec PyProof.Rows L2
section
variable {X:Cx} {o i:Expr} {To Ti:ETr} {apos cpos:Pos}
end
end
section
open PySem PySem.Spec PyProof.Rows L2
section
variable {X:Cx} {o i:Expr} {To Ti:ETr} {apos cpos:Pos}
end
end
section
open PySem PySem.Spec PyProof.Rows L2
end
section
open PySem PySem.Spec PyProof.Rows L2
section
variable {X:Cx} {a b c d:Expr} {ta tb tc td:TE} {Ta Tb Tc Td:ETr} {pos:Pos} {o1 o2 o3:CmpOp} {r1 r2 r3:L2.R2} {R1 R2 R3:DR2}
end
end
section
open PySem PySem.Spec PyProof.Rows L2
section
variable {X:Cx} {tg a b:Expr} {Ta Tb:ETr} {pos:Pos}
end
end
section
open PySem PySem.Spec PyProof.Rows L2
end
section
open PySem PySem.Spec PyProof.Rows L2
section
variable {X:Cx} {o i:Expr} {apos cpos:Pos}
end
end
section
open PySem PySem.Spec PyProof PyProof.Rows L2
theorem qc {X:Cx}(hc:X.calm=true):bb X (.builtin "min") (fun xs H Q=>∃ (p:Addr) (ns:List Int),xs=[.ref p]∧SqL X.K H p (ns.map V.int)∧ns≠[]∧∀ m,m∈ns→(∀ a∈ns,m≤a)→Q (.int m) H):=fun pins s σ H xs us Q I rx ⟨p,ns,e1,sq,ne,q⟩=>by
  subst e1
  obtain ⟨u,rfl,ru⟩:=vals1 rx
  cases ru
  obtain ⟨its,rv,pl,_⟩:=I.list sq
  obtain ⟨ps,rfl,rfl⟩:=eL (intsAre_of rv)
  have hn:0 < ps.length:=by cases ps with | nil=>exact absurd rfl ne | cons=>simp
  have il:s.heap.IsList p (intItems ps.toArray):=by
    have:=pl.isList
    simpa[intItems] using this
  refine min_intList (I.ok.hd hc) il (by simpa using hn) fun v h' tk hv hk=>?_
  rcases intItems_at hv with ⟨t,rfl⟩
  obtain ⟨b1,b2⟩:=argBest_lt (numAt ps.toArray) (ps.toArray.size - 1)
  generalize argBest (fun i j=>decide (numAt ps.toArray i < numAt ps.toArray j)) (ps.toArray.size - 1)=k at hv b1 b2
  have hs:ps.toArray.size=ps.length:=by simp
  rw[hs] at b1 b2
  have hk':k < (ps.map Prod.fst).length:=by rw[List.length_map];omega
  refine ⟨.int _,H,I.kept hk,⟨t,rfl⟩,q _ ?_ fun a ha=>?_⟩
  · rw[gU,List.getElem?_eq_getElem hk']
    exact List.getElem_mem hk'
  · obtain ⟨j,hj,rfl⟩:=List.getElem_of_mem ha
    have:=b2 j (by rw[List.length_map] at hj;omega)
    rw[gU ps j,List.getElem?_eq_getElem hj] at this
    exact this
def uw:FSp:=fun ds μ Q=>match ds with
  | [.ls xs]=>∃ ns:List Int,(xs=ns.map .int∧ns≠[])∧∀ m,m∈ns→(∀ a∈ns,m≤a)→Q (.int m) μ
  | _=>False
theorem rE {K:PySem.W.Frag}:fe K (fun xs H Q=>∃ (p:Addr) (ns:List Int),xs=[.ref p]∧SqL K H p (ns.map V.int)∧ns≠[]∧∀ m,m∈ns→(∀ a∈ns,m≤a)→Q (.int m) H) uw:=fun H μ xs ds Q Q' m p h k=>by
  unfold uw at h
  split at h
  · obtain ⟨ns,⟨rfl,ne⟩,h⟩:=h
    cases p with | cons p1 p2=>
    cases p2
    cases p1 with
    | @ls q xs ds sq l=>
      have ex:=l.ints_of
      subst ex
      exact ⟨q,ns,rfl,sq.sq,ne,fun M h1 h2=>k _ H _ μ (.refl H) m (.int _) (h M h1 h2)⟩
  · exact h.elim
theorem pH:∀ {kvs:List (Key×V)} {vs:List (Key×Value)},KV kvs vs→Vals (kvs.map (·.2)) (vs.map (·.2))
  | _,_,.nil=>.nil
  | _,_,.cons r t=>.cons r.2 (pH t)
theorem tj {vs:List (Key×Value)}{acc:Array Value}(h:ItemsOf (fun i v=>∃ k,vs[i]? = some (k,v)) acc vs.length):acc=(vs.map (·.2)).toArray:=by
  obtain ⟨h1,h2⟩:=h
  refine Array.ext (by simp[h1]) fun i hi hi'=>?_
  obtain ⟨k,e⟩:=h2 i acc[i] (Array.getElem?_eq_getElem hi)
  obtain ⟨hj,e⟩:=List.getElem?_eq_some_iff.mp e
  simp[e]
section
variable {X:Cx} {o:Expr} {apos cpos pos p:Pos} {x:Str}
theorem l9 {to:TE}(hc:X.calm=true)(hg:Gl X x)(hm:X.mg x=none)(hv:bootBuiltins x=some (.type "list"))(ho:PE X o to)(hn:x ≠ "__name__" := by decide)(hdb:(x == ("__debug__" : Str))=false:=by decide)
    (hbase:attributeBase o "values" X.env (eval o X.env)=eval o X.env:=by rfl) (hline:(apos.endLine == cpos.line)=true:=by rfl)
    (he:starEach [.Call (.Attribute o "values" apos) [] [] cpos] X.env=(false,eval (.Call (.Attribute o "values" apos) [] [] cpos) X.env)::starEach [] X.env:=by rfl) (hpl:(backTo pos (starEach [] X.env)).any (·.1)=false:=by rfl) (hnil:backTo pos (starEach [] X.env)=[]:=by rfl) :
    PE X (.Call (.Name x p) [.Call (.Attribute o "values" apos) [] [] cpos] [] pos) (fun σ H Q=>to σ H fun v H1=>∃ d kvs,v=.ref d∧H1 d=some (.dK kvs)∧∀ q,H1 q=none→Q (.ref q) (upd H1 q (.lst (kvs.map (·.2))))):=by
  intro pins s σ H Q I h
  refine wpAny_Call_Name_kw (iR I hg hm hv ?_ hn hdb)
  refine PyProof.Rows.callWith_type1 ?_ he hpl
  rw[he]
  show wpAny _ _ (spliced ((false,eval _ X.env)::backTo pos (starEach [] X.env))) _ _ s
  rw[hnil]
  refine Calls.spliced_cons ?_
  refine wpAny_Call_method0_late hbase hline (thn (ho pins s σ H _ I h) fun v s1 ⟨y,H1,I1,r1,d,kvs,ey,ed,q⟩=>?_)
  subst ey
  cases (show v=Value.ref d from r1)
  obtain ⟨hz,hs,vs,kv,dd⟩:=(show bu X.prog X.w H1 s1.heap d (.dK kvs) from I1.hok d _ ed)
  obtain ⟨h1,h2⟩:=tX (T := "dict") I1 r1 (.inr (.inr (.inl ⟨rfl,.inl ⟨kvs,ed⟩⟩)))
  refine ⟨"dict", "dict.values", PySem.F.plainAttrs_dict,PySem.F.slot_dict_values,PySem.F.type_dict_values,h1,h2,Calls.callWith_builtin rfl (PySem.evalArgs_none ?_)⟩
  refine call_meetsIn PySem.F.slot_dict_values h1 PySem.F.entry_dict_values (PySem.F.args_dict_values_1 _) (meets_dict_values (aM X.prog X.w) d hs) ⟨⟨vs,dd⟩,?_⟩
  refine Calls.spliced_nil ?_
  obtain ⟨ep,dat⟩:=dd.dictAt
  have sz:s1.heap.objs.size≤(s1.heap.push { cls:=.type "dict_values", data:=.fields #[.ref d] }).objs.size:=by
    show _≤(s1.heap.objs.push _).size
    rw[Array.size_push];omega
  refine PySem.W.kdl_call (PySem.W.kdl_values (knd:=aM X.prog X.w) (kvs:=vs) (ep:=ep) (r:=s1.heap.objs.size) (d:=d)) (I1.ok.hd hc) ⟨⟨_,Heap.get?_push_size _ rfl,rfl,rfl⟩,dat.push _⟩ (by rw[← kv.length];exact hz) fun h' tk acc' c' hk hS hacc=>?_
  have e:=tj hacc
  subst e
  exact ⟨.ref _,_,I1.laid (o:=.lst (kvs.map (·.2))) (fun b u e=>hk b u (Heap.get?_push_of_some _ e)) sz ⟨by rw[List.length_map];exact hz,vs.map (·.2),c',pH kv,hS⟩,rfl,q _ (I1.hok.fresh sz)⟩
def sM (To:ETr):ETr:=fun ρ μ Q=>To ρ μ fun x μ1=>kObj x fun a=>kD μ1 a fun kvs=>∀ q,μ1 q=none→Q (.obj q) (up μ1 q (.lst (kvs.map (·.2))))
theorem vn {To:ETr}(hc:X.calm=true)(hg:Gl X x)(hm:X.mg x=none)(hv:bootBuiltins x=some (.type "list"))(ho:LE X o To)(hn:x ≠ "__name__" := by decide)(hdb:(x == ("__debug__" : Str))=false:=by decide)
    (hbase:attributeBase o "values" X.env (eval o X.env)=eval o X.env:=by rfl) (hline:(apos.endLine == cpos.line)=true:=by rfl)
    (he:starEach [.Call (.Attribute o "values" apos) [] [] cpos] X.env=(false,eval (.Call (.Attribute o "values" apos) [] [] cpos) X.env)::starEach [] X.env:=by rfl) (hpl:(backTo pos (starEach [] X.env)).any (·.1)=false:=by rfl) (hnil:backTo pos (starEach [] X.env)=[]:=by rfl) :
    LE X (.Call (.Name x p) [.Call (.Attribute o "values" apos) [] [] cpos] [] pos) (sM To):=by
  obtain ⟨to,po,so⟩:=ho.ex
  refine ⟨_,l9 hc hg hm hv po hn hdb hbase hline he hpl hnil,fun σ H ρ μ Q Q' rl h k=>so σ H ρ μ _ _ rl h fun v H1 dx μ1 t1 m1 p1 h1=>?_⟩
  cases p1 with
  | obj a=>
    have h1':kD μ1 a fun kvs=>∀ q,μ1 q=none→Q (.obj q) (up μ1 q (.lst (kvs.map (·.2)))):=h1
    obtain ⟨kvs,e0,h2⟩:=fF h1'
    obtain ⟨xs,ex,_,l⟩:=m1 a _ e0
    exact ⟨a,xs,rfl,ex,fun z hz=>k _ _ _ _ (t1.trans (.new hz)) (kf m1 hz l) (.obj _) (h2 z (m1.free hz))⟩
  | _=>exact False.elim h1
end
end
def kr (ws:List Str)(l:Str):Prop:=l∈ws∨l=Str.ofString ""
theorem j3 {ws:List Str}{p:Int}:∀ (f:Nat) (st out:List Lt) (l:Str),bz ws st→kr ws l→(bz ws (bj ws p f st out l).2.1∧kr ws (bj ws p f st out l).2.2)∧(bj ws p f st out l).1.length+(bj ws p f st out l).2.1.length=out.length+st.length∧((out.length:Int)≤p→((bj ws p f st out l).1.length:Int)≤p)∧(st.length≤f→(bj ws p f st out l).2.1.length=0∨p≤((bj ws p f st out l).1.length:Int))
  | 0,st,out,l,h1,h3=>⟨⟨h1,h3⟩,rfl,fun h=>h,fun h=>.inl (by show st.length=0;omega)⟩
  | f+1,st,out,l,h1,h3=>by
    by_cases c:0 < st.length∧(out.length:Int) < p
    · cases st with
      | nil=>simp at c
      | cons x0 a0=>
      obtain ⟨n2,hn2⟩:=iz (l:=l) (h1 x0 List.mem_cons_self) (show x0.nm∈(x0::a0).map Lt.nm from List.mem_cons_self)
      have hin:=de hn2
      have hi:=iM hin.2
      generalize hA:x0::a0=A at *
      have hx:A[at1 n2 A]? = some A[at1 n2 A]:=List.getElem?_eq_getElem hi
      rw[mq c hn2 hx]
      have le:(A.eraseIdx (at1 n2 A)).length=A.length - 1:=List.length_eraseIdx_of_lt hi
      obtain ⟨r1,r2,r3,r4⟩:=j3 (p:=p) f (A.eraseIdx (at1 n2 A)) (out++[A[at1 n2 A]]) n2 (fun y hy=>h1 y (List.mem_of_mem_eraseIdx hy)) (.inl hin.1)
      rw[List.length_append,List.length_singleton] at r2 r3
      exact ⟨r1,by omega,fun h=>r3 (by omega),fun h=>r4 (by omega)⟩
    · rw[hU c]
      refine ⟨⟨h1,h3⟩,rfl,fun h=>h,fun _=>?_⟩
      show st.length=0∨p≤(out.length:Int)
      omega
theorem jV:∀ (R S:List (Str×List Str)) (l:Str),cc l (R++S)=cc (cc l R) S
  | [],_,_=>rfl
  | r::R,S,_=>jV R S r.1
theorem ip {ws:List Str}{p:Int}:∀ (f:Nat) (st:List Lt) (o:Nat) (l:Str),∀ r∈aS ws p f st o l,r.1∈ws∧∀ x∈r.2,x∈ws
  | 0,_,_,_=>fun _ h=>nomatch h
  | f+1,st,o,l=>by
    unfold aS
    split
    · split
      · rename_i n e
        intro r hr
        rcases List.mem_cons.mp hr with rfl | h
        · exact ⟨(de e).1,fun x hx=>(List.mem_filter.mp hx).1⟩
        · exact ip f _ _ _ r h
      · exact fun _ h=>nomatch h
    · exact fun _ h=>nomatch h
def tabOf (ws:List Str)(f:Str→Int):List (L2.Key×D):=ws.map fun w=>(.inr w,.int (f w))
theorem fc (f:Str→Int){n:Str}:∀ {ws:List Str},n∈ws→aL (tabOf ws f) (.inr n)=some (.int (f n))
  | w::r,h=>by
    show aL ((.inr w,.int (f w))::tabOf r f) (.inr n)=_
    rw[bx]
    by_cases e:w=n
    · rw[e,if_pos rfl]
    · rw[if_neg (fun z=>e (by injection z))]
      exact fc f ((List.mem_cons.mp h).resolve_left (Ne.symm e))
theorem oY (f:Str→Int){n:Str}{v:Int}{ws:List Str}(h:n∈ws):putD (tabOf ws f) (.inr n) (.int v)=tabOf ws fun w=>if w=n then v else f w:=by
  unfold putD
  rw[if_pos]
  · unfold tabOf
    rw[List.map_map]
    refine List.map_congr_left fun w _=>?_
    by_cases e:w=n
    · subst e;simp
    · have:¬ (Sum.inr w:L2.Key)=.inr n:=fun z=>e (by injection z)
      simp[this,e]
  · exact List.any_eq_true.mpr ⟨(.inr n,.int (f n)),List.mem_map.mpr ⟨n,h,rfl⟩,decide_eq_true rfl⟩
theorem tu {kvs:List (L2.Key×D)}{k:L2.Key}{d:D}(h:∀ kv∈kvs,kv.1≠k):putD kvs k d=kvs++[(k,d)]:=by
  unfold putD
  rw[if_neg]
  intro z
  obtain ⟨kv,h1,h2⟩:=List.any_eq_true.mp z
  exact h kv h1 (of_decide_eq_true h2)
theorem kc (f:Str→Int):∀ (vs us:List Str),(us++vs).Nodup→cm (tabOf us f) (vs.map fun w=>(.inr w,.int (f w)))=tabOf (us++vs) f
  | [],us,_=>by rw[List.append_nil];rfl
  | v::vs,us,h=>by
    have e:cm (tabOf us f) ((v::vs).map fun w=>(.inr w,.int (f w)))=cm (putD (tabOf us f) (.inr v) (.int (f v))) (vs.map fun w=>(.inr w,.int (f w))):=rfl
    have nv:∀ kv∈tabOf us f,kv.1≠.inr v:=fun kv hkv z=>by
      obtain ⟨u,hu,rfl⟩:=List.mem_map.mp hkv
      have:u=v:=by injection z
      subst this
      exact (List.nodup_append.mp h).2.2 u hu u List.mem_cons_self rfl
    rw[e,tu nv]
    have:=kc f vs (us++[v]) (by simpa using h)
    rw[show tabOf (us++[v]) f=tabOf us f++[(.inr v,.int (f v))] by simp[tabOf]] at this
    rw[this];simp
theorem z9 {ws:List Str}(st:List Lt)(x:Lt):tabOf ws (fun w=>if w=x.nm then (cn st x.nm:Int)+1 else cn st w)=tabOf ws fun w=>(cn (st++[x]) w:Int):=by
  congr 1
  funext w
  have:=vV st x w
  by_cases e:w=x.nm
  · subst e;rw[if_pos rfl] at this ⊢;omega
  · rw[if_neg e];rw[if_neg (Ne.symm e)] at this;omega
theorem vd {ws:List Str}{st:List Lt}{n:Str}(h:n∈st.map Lt.nm):tabOf ws (fun w=>if w=n then (cn st n:Int) - 1 else cn st w)=tabOf ws fun w=>(cn (st.eraseIdx (at1 n st)) w:Int):=by
  congr 1
  funext w
  have:=yo h w
  by_cases e:w=n
  · subst e;rw[if_pos rfl] at this ⊢;omega
  · rw[if_neg e];rw[if_neg (Ne.symm e)] at this;omega
theorem oj {ws:List Str}{p:Int}{f:Nat}{st:List Lt}{o:Nat}{l n:Str}{os:List Str}{S:List (Str×List Str)}(h:aS ws p f st o l=(n,os)::S):∃ g,f=g+1∧n∈ws∧n∈st.map Lt.nm∧os=(ws.filter fun w=>decide (w∈st.map Lt.nm))∧S=aS ws p g (st.eraseIdx (at1 n st)) (o+1) n:=by
  cases f with
  | zero=>cases h
  | succ g=>
    unfold aS at h
    split at h
    · split at h
      · rename_i n' e
        injection h with h1 h2
        injection h1 with h3 h4
        subst h3
        exact ⟨g,rfl,(de e).1,(de e).2,h4.symm,h2.symm⟩
      · cases h
    · cases h
theorem qM {ws:List Str}(h:Srt ws):ws.Nodup:=h.imp fun {a b} h e=>by subst e;rw[fv] at h;cases h
end L3
namespace Kk
local macro_rules | `(tactic| walk_at "ln")=>`(tactic| (intro ds μ Q h;split at h;rfl;exact h.elim))
open PySem L3
theorem vK (a:ETr)(ρ:ST)(μ:Mu)(Q:DK):sM a ρ μ Q=a ρ μ fun x μ1=>kObj x fun a=>kD μ1 a fun kvs=>∀ q,μ1 q=none→Q (.obj q) (up μ1 q (.lst (kvs.map (·.2)))):=propext Iff.rfl
theorem AU (xs:List D)(μ:Mu)(Q:DK):rIs (.ls xs) .non μ Q=Q (.bl false) μ:=propext Iff.rfl
theorem vI (a:ETr)(ρ:ST)(μ:Mu)(Q:List D→Mu→Prop):sS (af a au) ρ μ Q=a ρ μ fun x μ1=>kS x fun ds=>Q (gd ds) μ1:=propext Iff.rfl
def Ca:=Jn @vK <| Jn @AU <| Jn @vI <| @Bp
local macro_rules | `(tactic| walk_at "go")=>`(tactic| try simp only[↓Ca,↓rU,↓rg,↓uU,↓sH,↓r8,↓rO,↓gM,↓eQ,bQ,br,bN,bF,bD,bO,bX,b6,bw,bL,bP,bK,bM,b8,bJ,bY,bH,b4,bE,b5,fB,ro,rG,c9,List.map_cons,List.map_nil,List.replicate,List.cons_append,List.nil_append,lk,xq,uR,ee,pE,jZ,lG,kn,gE,gL,gH,gF,true_and,and_true,and_self,Bool.not_true,Bool.not_false,decide_true,decide_false,Bool.or_true,Bool.or_false,Bool.true_or,Bool.false_or,Bool.and_false,Bool.false_and,Bool.and_true,Bool.true_and,Int.reduceToNat,Int.reducePow,Int.reduceNeg,Int.reduceSub,Int.reduceAdd,Int.reduceMul,Int.reduceEq,Int.reduceLT,Int.reduceLE,Int.reduceBEq,ff,dk,dH,dz,dD,du,dE,dA,if_true,if_false,Bool.false_eq_true,reduceCtorEq,decide_eq_true_eq])
local macro_rules | `(tactic| walk_at "ok")=>`(tactic| (simp only[L3.gk,L3.MulOk,L3.S64,L3.eJ,L3.gX] at *;omega))
local macro_rules | `(tactic| walk_at "ini")=>`(tactic| simp only[ini,List.map,List.length,List.replicate,Nat.reduceSub,Nat.reduceAdd,Nat.sub_self,List.cons_append,List.nil_append,List.append_nil])
abbrev dq:FSp:=L3.aB
def iK:STr:=aD (eS (ja (TB (ak rGt (aK (ah 0) (TC (.str "left"))) (TC (.int 0)))) (TB (ak rLt (aK (ah 0) (TC (.str "given"))) (TC (.int 60))))) (aD (cZ (fun m n=>m+n) (ah 0) (TC (.str "given")) (TC (.int 1))) (aD (aU (ak fG (aK (ah 0) (TC (.str "left"))) (ah 1)) (aq 3)) (aD (dP (ah 0) (TC (.str "left")) (ak kd (aK (ah 0) (TC (.str "left"))) (ah 1))) (cy (ah 3))))) (cI)) (aD (dP (ah 0) (TC (.str "seed")) (ao L3.cG (af (aK (ah 0) (TC (.str "seed"))) (af (aK (ah 0) (TC (.str "many"))) (au))))) (cy (ak fG (ak kd (aK (ah 0) (TC (.str "seed"))) (TC (.int 7))) (ah 1))))
def mH:STr:=aD (cZ (fun m n=>m+n) (ah 0) (TC (.str "many")) (TC (.int 1))) (aD (eS (ja (TOr (TB (ak rEq (aK (ah 0) (TC (.str "left"))) (TC (.int 0)))) (TB (ak rEq (aK (ah 0) (TC (.str "given"))) (TC (.int 60))))) (TB (ak rLt (aK (ah 0) (TC (.str "at"))) (ao cN (af (aK (ah 0) (TC (.str "cells"))) (au)))))) (aD (aU (ao p9 (af (ak L3.rIx (aK (ah 0) (TC (.str "cells"))) (aK (ah 0) (TC (.str "at")))) (au))) (aq 2)) (aD (cZ (fun m n=>m+n) (ah 0) (TC (.str "at")) (TC (.int 1))) (aD (dP (ah 0) (TC (.str "left")) (ak fL (ah 2) (ao kK (af (ak rGe (ah 2) (ak uv (TC (.int 10)) (TC (.int 18)))) (au))))) (aD (dP (ah 0) (TC (.str "given")) (TC (.int 0))) (dP (ah 0) (TC (.str "seed")) (ao L3.cG (af (ak aO (aK (ah 0) (TC (.str "seed"))) (ah 2)) (af (aK (ah 0) (TC (.str "many"))) (au))))))))) (cI)) (iK))
theorem jk:∀ ds μ Q,dq ds μ Q→ds.length=2:=L3.qL
theorem kU:∀ ds μ Q,dq ds μ Q→mH { nx:=fun _ μ'=>RT Q .non μ',rt:=RT Q } (ini 4 ds) μ:=L3.rY
theorem rT {w:Str}(h:w∈bc):PyData.strOk w=true:=by
  have:∀ w∈bc,PyData.strOk w=true:=by decide +kernel
  exact this w h
def jn (r:Str×List Str):D:=.tup [.str r.1,.ls (r.2.map .str)]
theorem xO {μ:Mu}{b p:Addr}(h:Pot μ b)(hp:p≠b):Pot (dn μ p) b:=by
  obtain ⟨cs,a,l,g,m,s,e,h0⟩:=h
  exact ⟨cs,a,l,g,m,s,by unfold L3.dn;rw[if_neg (Ne.symm hp)];exact e,h0⟩
def ba:FSp:=fun ds μ Q=>match ds with
  | [.obj b,wd,.tup d]=>∃ (w:Wy) (ws:List Str),(Pot μ b∧wd=w.toD∧d=ws.map .str∧Srt ws∧w.Ok∧w.tn=true∧(∀ x∈ws,PyData.strOk x=true)∧0 < ws.length∧ws.length≤17)∧∀ (R:List (Str×List Str)) l μ',Chn ws l R→(∀ r∈R,r.1∈ws∧∀ x∈r.2,x∈ws)→cx b μ μ'→Q (.ls (R.map jn)) μ'
  | _=>False
theorem gr:∀ ds μ Q,ba ds μ Q→ds.length=3:=by
  unfold ba
  walk_at "ln"
def eK:STr:=aD (aU (mL (au)) (aq 3)) (aD (aU (dF (au)) (aq 4)) (aD (aU (ak L3.rIx (ak aO (ah 2) (dF (af (TC (.str "")) (au)))) (ao L3.aB (af (ah 0) (af (ak aO (ao cN (af (ah 2) (au))) (TC (.int 1))) (au))))) (aq 5)) (aD (gv (cH (ak aO (TC (.int 2)) (ao L3.aB (af (ah 0) (af (TC (.int 11)) (au)))))) (aq 6) (aD (aU (ao L3.bW (af (ah 0) (af (ah 2) (af (ak L3.rIx (gq (af (TC (.int 0)) (af (ak L3.rIx (ah 1) (TC (.int 1))) (af (ak fL (TC (.int 2)) (ak L3.rIx (ah 1) (TC (.int 1)))) (af (ao L3.aB (af (ah 0) (af (TC (.int 30)) (au)))) (au)))))) (ao L3.aB (af (ah 0) (af (TC (.int 4)) (au))))) (af (TC (.int 100)) (au)))))) (aq 7)) (aD (aU (ak aO (ah 4) (ao bU (af (cJ (eW (ah 7)) (aq 0) (fN) (ak aO (dF (af (ak L3.rIx (ah 0) (TC (.int 0))) (af (ak aO (ak L3.rIx (ah 0) (TC (.int 1))) (ak fL (TC (.int 1000)) (ah 1))) (au)))) (TSl (ah 0) (jl (TC (.int 2))) (ONo))) 1 [6]) (au)))) (aq 4)) (aD (aU (ao L3.cp (af (ah 1) (af (ah 2) (af (ah 4) (af (ah 5) (au)))))) (gA [8,9,5])) (aD (eS (TOr (TB (ak rNe (ao cN (af (ah 8) (au))) (ao j5 (af (ak L3.rIx (ah 1) (TC (.int 1))) (af (ao cN (af (ah 4) (au))) (au)))))) (TB (ak rNe (ao cN (af (ah 9) (au))) (ak mO (ao cN (af (ah 4) (au))) (ao cN (af (ah 8) (au))))))) (cy (TC .non)) (cI)) (aD (aU (ao mV (af (cJ (eW (ah 2)) (aq 0) (fN) (dF (af (ah 0) (af (TC (.int 0)) (au)))) 1 []) (au))) (aq 10)) (aD (gv (eW (ah 4)) (aq 11) (cZ (fun m n=>m+n) (ah 10) (ak L3.rIx (ah 11) (TC (.int 0))) (TC (.int 1)))) (aD (gv (eW (ah 8)) (aq 11) (aD (gn (lX (ah 3) (dF (af (ak L3.rIx (ah 11) (TC (.int 0))) (af (cJ (eW (ah 2)) (aq 0) (TB (ak rGt (aK (ah 1) (ah 0)) (TC (.int 0)))) (ah 0) 1 [10]) (au)))))) (cZ (fun m n=>m - n) (ah 10) (ak L3.rIx (ah 11) (TC (.int 0))) (TC (.int 1))))) (aD (eS (TB (ak rLt (ao uw (af (nk (sM (ah 10))) (au))) (TC (.int 0)))) (cy (TC .non)) (cI)) (aU (ah 9) (aq 4))))))))))) (cy (nk (ah 3))))))
theorem iL:∀ ds μ Q,ba ds μ Q→eK { nx:=fun _ μ'=>RT Q .non μ',rt:=RT Q } (ini 12 ds) μ:=by
  intro ds μ Q h
  unfold ba at h
  split at h
  case h_2=>exact h.elim
  rename_i b wd d
  walk_at "ini"
  unfold eK
  walk_at "go"
  obtain ⟨w,ws,⟨hP,rfl,rfl,hs,W,tn,so,n0,n1⟩,k⟩:=h
  have p0:=W.p0
  have p1:=W.p1
  intro p hp
  have pb:=hP.ne hp
  have hP1:=hP.up (o:=.lst []) pb
  walk_at "go"
  refine ⟨by simp;omega,?_⟩
  rw[List.length_map]
  refine aI hP1 (by omega) (by omega) fun k2 μ2 k20 k21 P2=>?_
  have al2:∀ d∈(ws.map D.str++[.str ""]),∃ l,d=.str l∧kr ws l:=fun d hd=>by
    rcases List.mem_append.mp hd with z | z
    · obtain ⟨x,hx,rfl⟩:=List.mem_map.mp z
      exact ⟨x,rfl,.inl hx⟩
    · exact ⟨_,List.mem_singleton.mp z,.inr rfl⟩
  obtain ⟨_,e2,l0,rfl,hL0⟩:=fU al2 k20 (by simp;omega)
  refine BA e2 ?_
  walk_at "go"
  refine aI P2.pot (by decide) (by decide) fun k3 μ3 k30 k31 P3=>?_
  walk_at "go"
  have e3p:μ3 p=some (.lst []):=by rw[P3.oth p pb,P2.oth p pb,ax]
  refine ⟨⟨by omega,by omega⟩,?_⟩
  refine cw (fun r ρ μ'=>∃ (R:List (Str×List Str)) (st:List Lt) (l:Str) (v6 v7 v8 v9 v10 v11:Option D),ρ=[some (.obj b),some w.toD,some (.tup (ws.map .str)),some (.obj p),some (.tup (ltD st)),some (.str l),v6,v7,v8,v9,v10,v11]∧μ' p=some (.lst (R.map jn))∧Pot μ' b∧Kp b μ μ'∧Chn ws l0 R∧cc l0 R=l∧kr ws l∧bz ws st∧(∀ r∈R,r.1∈ws∧∀ x∈r.2,x∈ws)∧R.length+st.length+40*r.length≤900∧∀ d∈r,IsI 0 12 d) ?_ ?_ _ _ _ ⟨[],[],l0,_,_,_,_,_,_,rfl,e3p,P3.pot,((Kp.new hp).trans P2.kp).trans P3.kp,.nil _,rfl,hL0,(fun _ h=>nomatch h),(fun _ h=>nomatch h),by simp[cD];omega,?_⟩
  · rintro ρ μ' ⟨R,st,l,v6,v7,v8,v9,v10,v11,rfl,ep,P',kp,hc,_,_,_,hR,_,_⟩
    walk_at "go"
    refine bf ep ?_
    exact pQ (xO P' pb) (kp.dn hp) fun μ2 P2=>k R l0 μ2 hc hR P2
  · rintro d r ρ μ' N ⟨R,st,l,v6,v7,v8,v9,v10,v11,rfl,ep,P',kp,hc,rfl,hL,hst,hR,hz,hI⟩ hN
    obtain ⟨i,rfl,i0,i1⟩:=hI _ List.mem_cons_self
    rw[List.length_cons] at hz
    walk_at "go"
    refine ⟨.inl (.inl (by unfold S64;omega)),?_⟩
    refine aI P' (by decide) (by decide) fun c μ4 c0 c1 P4=>?_
    walk_at "go"
    refine aI P4.pot (by decide) (by decide) fun c2 μ5 c20 c21 P5=>?_
    have al:∀ d∈([.int 0,.int w.pc,.int (2*w.pc),.int c]:List D),IsI 0 40 d:=aT ⟨_,rfl,by omega,by omega⟩ (aT ⟨_,rfl,by omega,by omega⟩ (aT ⟨_,rfl,by omega,by omega⟩ (aT ⟨_,rfl,by omega,by omega⟩ fD)))
    obtain ⟨_,e1,m,rfl,m0,m1⟩:=fU al c20 c21
    walk_at "go"
    rw[e1]
    walk_at "go"
    refine ⟨ws,⟨P5.pot,.inr rfl,⟨n0,n1⟩,⟨m0,by omega⟩,by decide,by decide⟩,fun ls μ6 hl6 hls _ P6=>?_⟩
    walk_at "go"
    refine fI ls Lt.toD (fun x=>(⟨x.nm,x.nu+1000*i,x.ag,x.hp,x.mr⟩:Lt).toD) rfl (by omega) (fun x hx μ' _ N n=>?_) ?_
    · walk_at "go"
      refine ⟨.inl (.inl (by unfold S64;omega)),?_⟩
      unfold Lt.toD
      walk_at "go"
      exact ⟨by show 5≤1000000;decide,n⟩
    walk_at "go"
    generalize hls':ls.map (fun x=>(⟨x.nm,x.nu+1000*i,x.ag,x.hp,x.mr⟩:Lt))=ls'
    have els:ls.map (fun x=>(⟨x.nm,x.nu+1000*i,x.ag,x.hp,x.mr⟩:Lt).toD)=ltD ls':=by rw[← hls',ltD,List.map_map];rfl
    have ll:ls'.length=ls.length:=by rw[← hls'];simp
    have lok:bz ws ls':=fun y hy=>by
      rw[← hls'] at hy
      obtain ⟨x,hx,rfl⟩:=List.mem_map.mp hy
      exact (hls x hx).2.1
    rw[els,yV]
    have hl40:ls.length≤40:=by omega
    generalize hst2:st++ls'=st2
    have l2:st2.length=st.length+ls.length:=by rw[← hst2,List.length_append,ll]
    have hst':bz ws st2:=fun y hy=>by
      rw[← hst2] at hy
      rcases List.mem_append.mp hy with z | z
      · exact hst y z
      · exact lok y z
    refine ⟨by simp;omega,?_⟩
    refine ⟨w,ws,st2,⟨rfl,(fun _=>⟨.inl rfl,so,hst',by omega⟩),rfl,by omega,by omega⟩,?_⟩
    have lo:fY w ws st2 (cc l0 R)=bj ws w.pc st2.length st2 [] (cc l0 R):=by unfold fY;rw[tn,if_pos rfl]
    rw[lo]
    have oa:=j3 (p:=w.pc) st2.length st2 [] (cc l0 R) hst' hL
    have og:=iC (p:=w.pc) st2.length st2 [] (cc l0 R) hst'
    generalize bj ws w.pc st2.length st2 [] (cc l0 R)=g at oa og
    obtain ⟨out,left,l3⟩:=g
    obtain ⟨⟨a1,a2⟩,a3,a4,a5⟩:=oa
    obtain ⟨o1,o2⟩:=og
    simp only[List.length_nil,List.map_nil,List.nil_append,Nat.zero_add] at a1 a2 a3 a4 a5 o1 o2
    have a4:=a4 (by omega)
    have a5:=a5 (Nat.le_refl _)
    have hmin:(out.length:Int)=min w.pc st2.length:=by omega
    have hlf:(left.length:Int)=st2.length - out.length:=by omega
    walk_at "go"
    rw[List.length_map,List.length_map,List.length_map]
    refine As (fun h=>absurd hmin h) fun _=>?_
    refine As (fun h=>absurd hlf h) fun _=>?_
    refine fI ws .str (fun x=>.tup [.str x,.int 0]) rfl (by omega) (fun x hx μ' _ N n=>?_) ?_
    · walk_at "go"
      exact n
    walk_at "go"
    refine ⟨ws.map fun x=>(.inr x,.int 0),by rw[List.map_map];rfl,by simp;omega,fun q hq=>?_⟩
    rw[show cm [] (ws.map fun x=>((.inr x,.int 0):L2.Key×D))=tabOf ws fun x=>(cn [] x:Int) from kc (fun _=>0) ws [] (qM hs)]
    have PT:=P4.trans (P5.trans P6)
    have kp6:=kp.trans PT.kp
    have e6p:μ6 p=some (.lst (R.map jn)):=by rw[PT.oth p pb];exact ep
    have qb:=P6.pot.ne hq
    have qp:q≠p:=fun z=>by subst z;rw[e6p] at hq;cases hq
    have hqn:μ q=none:=by
      cases h:μ q with
      | none=>rfl
      | some o=>have:=kp6 q o qb h;rw[hq] at this;cases this
    refine cw (fun r ρ μ'=>∃ (dn rs:List Lt) (v11:Option D),r=ltD rs∧dn++rs=st2∧ρ=[some (.obj b),some w.toD,some (.tup (ws.map .str)),some (.obj p),some (.tup (ltD st2)),some (.str l3),some (.int i),some (.tup (ltD ls)),some (.tup (ltD out)),some (.tup (ltD left)),some (.obj q),v11]∧μ' p=some (.lst (R.map jn))∧μ' q=some (.dct (tabOf ws fun x=>(cn dn x:Int)))∧Pot μ' b∧Kp b μ μ') ?_ ?_ _ _ _ ⟨[],st2,_,rfl,rfl,rfl,by rw[aJ (Ne.symm qp)];exact e6p,ax,P6.pot.up qb,kp6.put hqn⟩
    rotate_left
    · rintro d r ρ μ7 N7 ⟨dn,rs,v11,er,ed,rfl,ep7,eq7,P7,kp7⟩ hN7
      cases rs with
      | nil=>cases er
      | cons y rs=>
      cases er
      have hy:y.nm∈ws:=hst' y (by rw[← ed];simp)
      walk_at "go"
      refine gf eq7 ?_
      rw[fc _ hy]
      walk_at "go"
      refine gf eq7 ⟨by simp[tabOf];omega,?_⟩
      rw[oY _ hy]
      refine hN7 _ _ ⟨dn++[y],rs,_,rfl,by rw[← ed];simp,rfl,by rw[aJ (Ne.symm qp)];exact ep7,?_,P7.up qb,kp7.put hqn⟩
      rw[ax,← z9]
    rintro ρ μ7 ⟨dn,rs,v11,er,ed,rfl,ep7,eq7,P7,kp7⟩
    cases rs with
    | cons _ _=>cases er
    | nil=>
    rw[List.append_nil] at ed
    subst ed
    walk_at "go"
    have ol:=congrArg List.length o1
    rw[List.length_map,List.length_map] at ol
    refine cw (fun r ρ μ'=>∃ (rs:List Lt) (f:Nat) (sc:List Lt) (o:Nat) (l':Str) (R':List (Str×List Str)) (v11:Option D),r=ltD rs∧rs.map Lt.nm=(aS ws w.pc f sc o l').map (·.1)∧R'++aS ws w.pc f sc o l'=R++aS ws w.pc dn.length dn 0 (cc l0 R)∧ρ=[some (.obj b),some w.toD,some (.tup (ws.map .str)),some (.obj p),some (.tup (ltD dn)),some (.str l3),some (.int i),some (.tup (ltD ls)),some (.tup (ltD out)),some (.tup (ltD left)),some (.obj q),v11]∧μ' p=some (.lst (R'.map jn))∧μ' q=some (.dct (tabOf ws fun x=>(cn sc x:Int)))∧Pot μ' b∧Kp b μ μ') ?_ ?_ _ _ _ ⟨out,dn.length,dn,0,cc l0 R,R,_,rfl,o1,rfl,rfl,ep7,eq7,P7,kp7⟩
    · rintro ρ μ8 ⟨rs,f,sc,o,l',R',v11,er,en,eR,rfl,ep8,eq8,P8,kp8⟩
      cases rs with
      | cons _ _=>cases er
      | nil=>
      have e0:aS ws w.pc f sc o l'=[]:=List.map_eq_nil_iff.mp en.symm
      rw[e0,List.append_nil] at eR
      subst eR
      walk_at "go"
      refine gf eq8 fun q2 hq2=>?_
      walk_at "go"
      refine ⟨ws.map fun x=>(cn sc x:Int),⟨by unfold tabOf;rw[List.map_map,List.map_map];rfl,fun z=>by rw[List.map_eq_nil_iff] at z;rw[z] at n0;cases n0⟩,fun m hm _=>?_⟩
      have m0:0≤m:=by
        obtain ⟨x,_,rfl⟩:=List.mem_map.mp hm
        exact Int.natCast_nonneg _
      walk_at "go"
      refine kif (fun h=>by omega) fun _=>?_
      have q2b:=P8.ne hq2
      have q2p:q2≠p:=fun z=>by subst z;rw[ep8] at hq2;cases hq2
      have hq2n:μ q2=none:=by
        cases h:μ q2 with
        | none=>rfl
        | some o=>have:=kp8 q2 o q2b h;rw[hq2] at this;cases this
      refine hN _ _ ⟨R++aS ws w.pc dn.length dn 0 (cc l0 R),left,l3,_,_,_,_,_,_,rfl,?_,xO (P8.up q2b) q2b,(kp8.put hq2n).dn hq2n,pK hc (gh _ _ _ _),?_,a2,a1,?_,?_,fun d hd=>hI d (List.mem_cons_of_mem _ hd)⟩
      · unfold L3.dn;rw[if_neg (Ne.symm q2p),aJ (Ne.symm q2p)];exact ep8
      · rw[jV];exact o2.symm
      · intro r hr
        rcases List.mem_append.mp hr with z | z
        · exact hR r z
        · exact ip _ _ _ _ r z
      · rw[List.length_append];omega
    · rintro d r ρ μ8 N8 ⟨rs,f,sc,o,l',R',v11,er,en,eR,rfl,ep8,eq8,P8,kp8⟩ hN8
      cases rs with
      | nil=>cases er
      | cons y rs=>
      cases er
      cases hO:aS ws w.pc f sc o l' with
      | nil=>rw[hO] at en;cases en
      | cons nx S=>
      obtain ⟨n,os⟩:=nx
      obtain ⟨g,rfl,nw,ns',rfl,rfl⟩:=oj hO
      rw[hO] at en eR
      injection en with en1 en2
      walk_at "go"
      refine bf ep8 ?_
      walk_at "go"
      refine gK (fun d=>match d with
        | .str x=>if decide (0 < (cn sc x:Int)) then some (.str x) else none
        | _=>none) (by rw[List.length_map];omega) (fun d hd μ9 s9 M m=>?_) ?_
      · obtain ⟨x,hx,rfl⟩:=List.mem_map.mp hd
        walk_at "go"
        refine gf (s9 q _ eq8) ?_
        rw[fc _ hx]
        walk_at "go"
        dsimp only at m
        refine kif (fun h=>?_) fun h=>?_
        · rw[decide_eq_true h] at m;exact m
        · rw[decide_eq_false h] at m;exact m
      have eF:(ws.map D.str).filterMap (fun d=>match d with
        | .str x=>if decide (0 < (cn sc x:Int)) then some (D.str x) else none
        | _=>none)=(ws.filter fun x=>decide (0 < (cn sc x:Int))).map D.str:=iP ws _
      rw[eF,AX]
      refine bf ep8 ?_
      have rl:=congrArg List.length eR
      rw[List.length_append,List.length_append,List.length_cons] at rl
      refine ⟨by rw[List.length_map];omega,?_⟩
      have pq:p≠q:=Ne.symm qp
      refine gf (by rw[aJ qp];exact eq8) ?_
      rw[en1,fc _ nw]
      walk_at "go"
      refine gf (by rw[aJ qp];exact eq8) ⟨by simp[tabOf];omega,?_⟩
      rw[oY _ nw,vd ns']
      refine hN8 _ _ ⟨rs,g,_,o+1,n,R'++[(n,ws.filter fun x=>decide (x∈sc.map Lt.nm))],_,rfl,en2,by rw[← eR];simp,rfl,?_,ax,(P8.up pb).up qb,(kp8.put hp).put hqn⟩
      rw[aJ pq,ax,List.map_append]
      rfl
  · intro d hd
    obtain ⟨j,rfl,j0,j1⟩:=g8 hd
    exact ⟨j,rfl,j0,by omega⟩
theorem xC {p:Prop} [Decidable p] {A B:Prop}(h1:¬ p→A)(h2:p→B):kIf (!decide p) A B:=by
  by_cases h:p
  · rw[decide_eq_true h];exact h2 h
  · rw[decide_eq_false h];exact h1 h
def bp:FSp:=fun ds μ Q=>match ds with
  | [.ls xs,.str A,.str B]=>∃ R:List (Str×List Str),(xs=R.map jn∧(PyData.strOk A=true∧PyData.strOk B=true)∧∀ r∈R,PyData.strOk r.1=true∧∀ w∈r.2,PyData.strOk w=true)∧Q (.int (R.foldl (apS A B) ⟨0,0,0,0⟩).m) μ
  | _=>False
theorem iw:∀ ds μ Q,bp ds μ Q→ds.length=3:=by
  unfold bp
  walk_at "ln"
def fq:STr:=aD (aU (TC (.int 0)) (aq 3)) (aD (aU (dF (af (TC (.int 0)) (af (TC (.int 0)) (af (TC (.int 0)) (au))))) (gA [4,5,6])) (aD (gv (eW (ah 0)) (gA [7,8]) (aD (eS (TOr (TB (ak (nG true) (ah 1) (ah 8))) (TB (ak (nG true) (ah 2) (ah 8)))) (aD (aU (dF (af (TC (.int 0)) (af (TC (.int 0)) (af (TC (.int 0)) (au))))) (gA [4,5,6])) (jJ)) (cI)) (aD (aU (ak mO (ak aO (ah 4) (ao kK (af (ak rEq (ah 7) (ah 1)) (au)))) (ao kK (af (ak rEq (ah 7) (ah 2)) (au)))) (aq 4)) (aD (qr 5 6 (af (ao j5 (af (ah 5) (af (ah 4) (au)))) (af (ao jW (af (ah 6) (af (ah 4) (au)))) (au)))) (aU (ao jW (af (ah 3) (af (ak mO (ah 6) (ah 5)) (au)))) (aq 3)))))) (cy (ah 3))))
theorem jd:∀ ds μ Q,bp ds μ Q→fq { nx:=fun _ μ'=>RT Q .non μ',rt:=RT Q } (ini 9 ds) μ:=by
  intro ds μ Q h
  unfold bp at h
  split at h
  case h_2=>exact h.elim
  rename_i xs A B
  walk_at "ini"
  unfold fq
  walk_at "go"
  obtain ⟨R,⟨rfl,⟨oA,oB⟩,hR⟩,k⟩:=h
  refine cw (fun r ρ μ'=>∃ (R':List (Str×List Str)) (s:Ap) (v7 v8:Option D),r=R'.map jn∧(∀ r∈R',PyData.strOk r.1=true∧∀ w∈r.2,PyData.strOk w=true)∧ρ=[some (.ls (R.map jn)),some (.str A),some (.str B),some (.int s.m),some (.int s.b),some (.int s.lo),some (.int s.hi),v7,v8]∧μ'=μ∧R'.foldl (apS A B) s=R.foldl (apS A B) ⟨0,0,0,0⟩) ?_ ?_ _ _ _ ⟨R,⟨0,0,0,0⟩,_,_,rfl,hR,rfl,rfl,rfl⟩
  · rintro ρ μ' ⟨R',s,v7,v8,e,_,rfl,rfl,ef⟩
    cases R' with
    | cons _ _=>cases e
    | nil=>
    walk_at "go"
    rw[← ef] at k
    exact ⟨_,.refl _,k⟩
  · rintro d r ρ μ' N ⟨R',s,v7,v8,e,hR',rfl,rfl,ef⟩ hN
    cases R' with
    | nil=>cases e
    | cons x R'=>
    obtain ⟨n,os⟩:=x
    cases e
    obtain ⟨on,oo⟩:=hR' _ List.mem_cons_self
    have hR'':=fun r hr=>hR' r (List.mem_cons_of_mem _ hr)
    rw[List.foldl_cons] at ef
    unfold jn
    walk_at "go"
    have ok1:=kE (n:=38) oo
    rw[lJ,lJ]
    refine ⟨⟨ok1,oA⟩,xC (fun c=>?_) fun cA=>⟨⟨ok1,oB⟩,xC (fun c=>?_) fun cB=>⟨⟨on,oA⟩,⟨on,oB⟩,?_⟩⟩⟩
    · exact hN _ _ ⟨R',apS A B s (n,os),_,_,rfl,hR'',by rw[show apS A B s (n,os)=⟨s.m,0,0,0⟩ from if_pos (.inl c)];rfl,rfl,ef⟩
    · exact hN _ _ ⟨R',apS A B s (n,os),_,_,rfl,hR'',by rw[show apS A B s (n,os)=⟨s.m,0,0,0⟩ from if_pos (.inr c)];rfl,rfl,ef⟩
    · have c:¬ (A ∉ os∨B ∉ os):=fun z=>z.elim (fun z=>z cA) fun z=>z cB
      refine hN _ _ ⟨R',apS A B s (n,os),some (.str n),some (.ls (os.map .str)),rfl,hR'',?_,rfl,ef⟩
      unfold apS
      rw[if_neg c]
      simp only[bI,decide_eq_true_eq]
      rfl
abbrev cj:FSp:=L3.cj
theorem kW:∀ ds μ Q,cj ds μ Q→ds.length=1:=L3.kW
def t8:STr:=aD (aU (ao L3.eI (af (ah 0) (au))) (aq 1)) (aD (gv (cH (ak aO (TC (.int 1)) (ak kd (ao cN (af (ah 0) (au))) (TC (.int 20))))) (aq 2) (aD (aU (ak aO (TSl (ao L3.eG (af (ah 1) (au))) (ONo) (jl (TC (.int 4)))) (dF (af (TC (.str "turns")) (au)))) (aq 3)) (aD (aU (ao bU (af (ao nJ (af (ao L3.cf (af (ah 1) (af (ak aO (TC (.int 2)) (ao L3.aB (af (ah 1) (af (TC (.int 7)) (au))))) (au)))) (au))) (au))) (aq 4)) (aD (aU (ao ba (af (ah 1) (af (ah 3) (af (ah 4) (au))))) (aq 5)) (aD (eS (TB (ak rIs (ah 5) (TC .non))) (cy (TC (.bl false))) (cI)) (gv (sS (af (ah 4) (au))) (gA [6,7]) (eS (qS (TB (ao Ac (af (cJ (eW (TSl (ah 4) (ONo) (jl (ah 6)))) (aq 0) (fN) (ak rLt (ao bp (af (ah 1) (af (ah 2) (af (ah 0) (au))))) (TC (.int 2))) 1 [5,7]) (au))))) (cy (TC (.bl false))) (cI)))))))) (cy (TC (.bl true))))
theorem yh:∀ ds μ Q,cj ds μ Q→t8 { nx:=fun _ μ'=>RT Q .non μ',rt:=RT Q } (ini 8 ds) μ:=by
  intro ds μ Q h
  unfold cj L3.cj at h
  split at h
  case h_2=>exact h.elim
  obtain ⟨⟨ns,rfl,hn⟩,k⟩:=h
  walk_at "ini"
  unfold t8
  walk_at "go"
  refine ⟨⟨ns,rfl⟩,fun b μ1 hb P1 _=>⟨⟨by decide,by unfold eJ;decide⟩,?_⟩⟩
  rw[List.length_map,mB (by decide)]
  refine ⟨⟨by omega,by omega⟩,?_⟩
  refine cw (fun r ρ μ'=>∃ (v2 v3 v4 v5 v6 v7:Option D),ρ=[some (.ls (ns.map .int)),some (.obj b),v2,v3,v4,v5,v6,v7]∧Pot μ' b) ?_ ?_ _ _ _ ⟨_,_,_,_,_,_,rfl,P1⟩
  · rintro ρ μ' ⟨v2,v3,v4,v5,v6,v7,rfl,_⟩
    walk_at "go"
    exact ⟨_,.refl _,k _⟩
  · rintro d r ρ μ' N ⟨v2,v3,v4,v5,v6,v7,rfl,P'⟩ hN
    walk_at "go"
    refine ⟨P',fun w μ2 W P2=>?_⟩
    walk_at "go"
    refine ⟨by show 5≤1000000;decide,?_⟩
    generalize hv:(⟨w.nm,w.pc,w.rm,w.mr,true⟩:Wy)=v
    have ev:D.tup (cutD [.str w.nm,.int w.pc,.int w.rm,qQ w.mr,.str (jY w.tn)] none (some 4)++[.str "turns"])=v.toD:=by rw[← hv];rfl
    rw[ev]
    have V:v.Ok:=by rw[← hv];exact ⟨W.n,W.p0,W.p1,W.r0,W.r1,W.m⟩
    have vt:v.tn=true:=by rw[← hv]
    refine aI P2.pot (by decide) (by decide) fun k3 μ3 k30 k31 P3=>?_
    walk_at "go"
    refine ⟨⟨P3.pot,by omega,by omega⟩,fun ws μ4 hl nd hw P4=>?_⟩
    walk_at "go"
    refine ⟨ws,⟨rfl,by omega⟩,fun ss hs1 hs2=>?_⟩
    walk_at "go"
    have sl:ss.length=ws.length:=hs1.length_eq
    have so:∀ x∈ss,PyData.strOk x=true:=fun x hx=>rT (hw x (hs1.mem_iff.mp hx))
    have srt:Srt ss:=pw_strict hs2 (hs1.nodup_iff.mpr nd)
    refine ⟨v,ss,⟨P4.pot,rfl,rfl,srt,V,vt,so,by omega,by omega⟩,fun R l μ5 hc hR P5=>?_⟩
    walk_at "go"
    refine cw (fun r ρ μ'=>∃ (v6 v7:Option D),ρ=[some (.ls (ns.map .int)),some (.obj b),some d,some v.toD,some (.tup (ss.map .str)),some (.ls (R.map jn)),v6,v7]∧Pot μ' b∧∀ e∈r,∃ (i:Nat) (x:Str),e=.tup [.int i,.str x]∧ss[i]? = some x) ?_ ?_ _ _ _ ⟨_,_,rfl,P5.pot,fun e he=>?_⟩
    · rintro ρ μ6 ⟨v6,v7,rfl,P6,_⟩
      exact hN _ _ ⟨_,_,_,_,_,_,rfl,P6⟩
    · rintro e r ρ μ6 N6 ⟨v6,v7,rfl,P6,he⟩ hN6
      obtain ⟨i,x,rfl,hx⟩:=he _ List.mem_cons_self
      have he':=fun e h=>he e (List.mem_cons_of_mem _ h)
      walk_at "go"
      rw[Bc _ (by omega),← List.map_take,Int.toNat_natCast]
      obtain ⟨hi,ex⟩:=List.getElem?_eq_some_iff.mp hx
      refine fI (ss.take i) .str (fun _=>.bl true) rfl (by simp;omega) (fun y hy μ7 _ N n=>?_) ?_
      · walk_at "go"
        have yin:=List.mem_of_mem_take hy
        have xin:x∈ss:=ex ▸ List.getElem_mem hi
        have ne:x≠y:=fun z=>by
          subst z
          obtain ⟨j,hj,ej⟩:=List.getElem_of_mem hy
          rw[List.getElem_take] at ej
          have hj':j < i:=by rw[List.length_take] at hj;omega
          have:=List.pairwise_iff_getElem.mp srt j i (by omega) hi hj'
          rw[ej,ex,fv] at this
          cases this
        have fair:=pf srt xin yin ne hc (s:=⟨0,0,0,0⟩) ⟨⟨Int.le_refl _,by decide⟩,.inl ⟨rfl,rfl,rfl⟩⟩
        refine ⟨R,⟨rfl,⟨so x xin,so y yin⟩,fun r hr=>⟨so _ (hR r hr).1,fun z hz=>so z ((hR r hr).2 z hz)⟩⟩,?_⟩
        walk_at "go"
        rw[decide_eq_true (p:=_ < 2) (by omega)]
        exact n
      walk_at "go"
      refine ⟨(ss.take i).map fun _=>true,by rw[List.map_map];rfl,?_⟩
      rw[show ((ss.take i).map fun _=>true).all id=true from List.all_eq_true.mpr fun b hb=>by obtain ⟨_,_,rfl⟩:=List.mem_map.mp hb;rfl]
      walk_at "go"
      exact hN6 _ _ ⟨_,_,rfl,P6,he'⟩
    · obtain ⟨i,hi⟩:=List.mem_iff_getElem?.mp he
      rw[jC,List.getElem?_map] at hi
      cases h:ss[i]? with
      | none=>rw[h] at hi;cases hi
      | some x=>rw[h] at hi;cases hi;exact ⟨i,x,rfl,h⟩
theorem fQ (ns:List Int)(h:ns.length≤63)(μ:Mu):cj [.ls (ns.map .int)] μ (fun d _=>d=.bl true):=L3.fQ ns h μ
end Kk
namespace Kk
open PySem L2 L3
theorem BE {α:Type}{us:List α}(h:us.length=1):∃ x0,us=[x0]:=match us,h with | [x0],_=>⟨x0,rfl⟩
theorem Bo {α:Type}{us:List α}(h:us.length=2):∃ x0 x1,us=[x0,x1]:=match us,h with | [x0,x1],_=>⟨x0,x1,rfl⟩
theorem Ba {α:Type}{us:List α}(h:us.length=3):∃ x0 x1 x2,us=[x0,x1,x2]:=match us,h with | [x0,x1,x2],_=>⟨x0,x1,x2,rfl⟩
theorem Be {α:Type}{us:List α}(h:us.length=4):∃ x0 x1 x2 x3,us=[x0,x1,x2,x3]:=match us,h with | [x0,x1,x2,x3],_=>⟨x0,x1,x2,x3,rfl⟩
def top (i:Nat):Stmt:=PySem.Challenge.pw_swellways_k26_whole_turns_fair.main.body.getD i (.Pass ⟨0,0,0,0⟩)
abbrev cR:Stmt:=top 4
abbrev cK:Stmt:=top 5
abbrev jN:Stmt:=top 6
abbrev iA:Stmt:=top 8
abbrev i7:Stmt:=top 9
abbrev gi:Stmt:=top 10
abbrev dI:Stmt:=top 11
abbrev cM:Stmt:=top 12
abbrev iZ:Stmt:=top 13
abbrev bG:Stmt:=top 14
abbrev fm:Stmt:=top 15
abbrev tQ:Stmt:=top 16
set_option genInjectivity false in
set_option genSizeOfSpec false in
structure Adr where
  gg:Addr
  mK:FuncData
  dZ:Addr
  i6:FuncData
  j8:Addr
  pU:FuncData
  hV:Addr
  mX:FuncData
  ik:Addr
  nz:FuncData
  gc:Addr
  lS:FuncData
  eX:Addr
  kY:FuncData
  dS:Addr
  i9:FuncData
  iO:Addr
  oR:FuncData
  eN:Addr
  jx:FuncData
  fj:Addr
  ky:FuncData
  rW:Addr
  xE:FuncData
structure Txt (Pm:Params) (K:PySem.W.Frag) (mg:Str→Option Value) (t:Adr):Prop where
  mQ:mg "next_name" = some (.ref t.gg)
  ma:Fun K "next_name" "next_name" cR t.gg t.mK
  iF:mg "out_by_turns" = some (.ref t.dZ)
  ir:Fun K "out_by_turns" "out_by_turns" cK t.dZ t.i6
  qO:mg "let_out" = some (.ref t.j8)
  pX:Fun K "let_out" "let_out" jN t.j8 t.pU
  ni:mg "_law_pot" = some (.ref t.hV)
  nQ:Fun K "_law_pot" "_law_pot" iA t.hV t.mX
  oF:mg "_law_mix" = some (.ref t.ik)
  oU:Fun K "_law_mix" "_law_mix" i7 t.ik t.nz
  me:mg "_law_take" = some (.ref t.gc)
  lY:Fun K "_law_take" "_law_take" gi t.gc t.lS
  kX:mg "_law_names" = some (.ref t.eX)
  lA:Fun K "_law_names" "_law_names" dI t.eX t.kY
  iJ:mg "_law_letters" = some (.ref t.dS)
  hE:Fun K "_law_letters" "_law_letters" cM t.dS t.i9
  oG:mg "_law_way" = some (.ref t.iO)
  nA:Fun K "_law_way" "_law_way" iZ t.iO t.oR
  jw:mg "_law_rounds" = some (.ref t.eN)
  jm:Fun K "_law_rounds" "_law_rounds" bG t.eN t.jx
  kg:mg "_law_apart" = some (.ref t.fj)
  lj:Fun K "_law_apart" "_law_apart" fm t.fj t.ky
  AF:mg "law" = some (.ref t.rW)
  pB:Fun K "law" "law" tQ t.rW t.xE
  AH:mg "abs" = none
  AQ:mg "all" = none
  uj:mg "dict" = none
  mh:mg "enumerate" = none
  r6:mg "int" = none
  dM:mg "len" = none
  m8:mg "list" = none
  xK:mg "max" = none
  sv:mg "min" = none
  gJ:mg "range" = none
  uo:mg "sorted" = none
  dJ:mg "tuple" = none
  yb:GV K mg "NAME" (.int 0)
  om:GV K mg "PACE" (.int 1)
  zK:GV K mg "SORT" (.int 4)
local macro_rules | `(tactic| walk_at "sc")=>`(tactic| exact ⟨rfl,rfl,rfl,by decide +kernel,rfl,by decide +kernel,by decide +kernel⟩)
local macro_rules | `(tactic| walk_at "b1")=>`(tactic| (rename_i hl;obtain ⟨x0,e⟩:=BE hl;subst e;rfl))
local macro_rules | `(tactic| walk_at "b2")=>`(tactic| (rename_i hl;obtain ⟨x0,x1,e⟩:=Bo hl;subst e;rfl))
local macro_rules | `(tactic| walk_at "b3")=>`(tactic| (rename_i hl;obtain ⟨x0,x1,x2,e⟩:=Ba hl;subst e;rfl))
local macro_rules | `(tactic| walk_at "b4")=>`(tactic| (rename_i hl;obtain ⟨x0,x1,x2,x3,e⟩:=Be hl;subst e;rfl))
section
variable {P:Program} {w:World} {K:PySem.W.Frag} {mg:Str→Option Value} {base:Heap} {t:Adr}
theorem dj:a6 ["names", "owners", "last", "there", "behind"] ["names", "owners", "last"] (ar cR):=by walk_at "sc"
theorem l7 (T:Txt w.params K mg t):cg P w K mg base 1 "next_name" ["names", "owners", "last"] L3.bA:=b3 T.mQ T.ma dj L3.jc L3.kq (fun _ _ _ _ _ _ _ _=>by walk_at "b3") fun _ _ _ _ _ _ hr hu=>
  aj (mM (fsc:=ar cR) 3 dj.nd ["names", "owners", "last", "there", "behind"] ["name", "owners"] 1 [1] rfl rfl (cU (ae 0)) (fun cl C s₀ H₀ ex=>⟨b7 0 (show (["name", "owners"]:List Str).Nodup from by decide +kernel),kh (zw hu (ae 0) (ae 1)),ae 0⟩) rfl rfl (by decide +kernel)) (aj (mM (fsc:=ar cR) 4 dj.nd ["names", "owners", "last", "there", "behind"] ["name", "last"] 1 [2] rfl rfl (cU (ae 3)) (fun cl C s₀ H₀ ex=>⟨b7 0 (show (["name", "last"]:List Str).Nodup from by decide +kernel),kh (z7 (ae 0) (ae 1)),ae 0⟩) rfl rfl (by decide +kernel)) (aE (bq (yj (pR (aF aY bR rfl T.dM rfl (aa (ae 4) (ai))) (le_int)) (bh (ae 4) (le_int)) (bh (ae 3) (le_int))))))
theorem aW:a6 ["way", "names", "standing", "last", "stands", "out", "name", "owners"] ["way", "names", "standing", "last"] (ar cK):=by walk_at "sc"
theorem iN (T:Txt w.params K mg t):cg P w K mg base 2 "out_by_turns" ["way", "names", "standing", "last"] L3.aX:=b3 T.iF T.ir aW L3.fW L3.gz (fun _ _ _ _ _ _ _ _=>by walk_at "b4") fun _ _ _ _ _ _ hr hu=>
  aj (aG 4 aW.nd (aP e6 p4 rfl T.m8 rfl (aa (ae 2) (ai)))) (aj (aG 5 aW.nd (nL (ai))) (aj (aG 6 aW.nd (ae 3)) (aj (sN PassesOwn.never (LW.lt (nT (pR (aF aY bR rfl T.dM rfl (aa (ae 4) (ai))) (le_int)) (lg (o7 (aF aY bR rfl T.dM rfl (aa (ae 5) (ai))) (bh (ae 0) (l4 rfl T.om)))))) (aj (qi (fsc:=ar cK) 7 aW.nd ["way", "names", "standing", "last", "stands", "out", "name", "owners"] ["letter"] 1 [] rfl rfl (ae 4) (fun cl C s₀ H₀ ex=>⟨b7 0 (show (["letter"]:List Str).Nodup from by decide +kernel),eC,bh (ae 0) (l4 rfl T.yb)⟩) rfl rfl (by decide +kernel)) (aj (aG 6 aW.nd (av (l7 T) hr rfl (aa (ae 1) (aa (ae 7) (aa (ae 6) (ai)))))) (aE (lu (le_app (ae 5) (yW (ae 4) (uP hu (ae 7) (ae 6))))))))) (aE (bq (bZ (aa (aP a8 ck rfl T.dJ rfl (aa (ae 5) (ai))) (aa (aP a8 ck rfl T.dJ rfl (aa (ae 4) (ai))) (aa (ae 6) (ai))))))))))
theorem m7:a6 ["way", "names", "standing", "last"] ["way", "names", "standing", "last"] (ar jN):=by walk_at "sc"
theorem pZ (T:Txt w.params K mg t):cg P w K mg base 3 "let_out" ["way", "names", "standing", "last"] L3.cp:=b3 T.qO T.pX m7 L3.mf L3.mW (fun _ _ _ _ _ _ _ _=>by walk_at "b4") fun _ _ _ _ _ _ hr hu=>
  aj (gj (lt_eq hu (bh (ae 0) (l4 rfl T.zK)) (le_str)) (aE (bq (av (iN T) hr rfl (aa (ae 0) (aa (ae 1) (aa (ae 2) (aa (ae 3) (ai)))))))) (cP)) (aE (bq (bZ (aa (aP a8 ck rfl T.dJ rfl (aa (mU (ae 2) (mz) (hW (bh (ae 0) (l4 rfl T.om)))) (ai))) (aa (aP a8 ck rfl T.dJ rfl (aa (mU (ae 2) (hW (bh (ae 0) (l4 rfl T.om))) (mz)) (ai))) (aa (le_str) (ai)))))))
theorem md:a6 ["_law_script"] ["_law_script"] (ar iA):=by walk_at "sc"
theorem nK (T:Txt w.params K mg t):cg P w K mg base 1 "_law_pot" ["_law_script"] L3.eI:=b3 T.ni T.nQ md L3.sI L3.vP (fun _ _ _ _ _ _ _ _=>by walk_at "b1") fun _ _ _ _ _ _ hr hu=>
  aE (bq (vF (eE (uL rfl rfl T.m8 rfl (aa (ae 0) (ai))) (eE (le_int) (eE (le_int) (eE (le_int) (eE (le_int) (eE (le_int) (wb)))))))))
theorem ei:a6 ["_law_number", "_law_turn", "_law_one", "_law_two"] ["_law_number", "_law_turn"] (ar i7):=by walk_at "sc"
theorem g4 (T:Txt w.params K mg t):cg P w K mg base 1 "_law_mix" ["_law_number", "_law_turn"] L3.cG:=b3 T.oF T.oU ei L3.rj L3.wq (fun _ _ _ _ _ _ _ _=>by walk_at "b2") fun _ _ _ _ _ _ hr hu=>
  aj (aG 2 ei.nd (d9 (le_mul (aH (aH (d9 (ae 0) (le_int)) (le_mul (le_int) (ae 1))) (le_int)) (le_int)) (le_int))) (aj (aG 3 ei.nd (d9 (le_mul (ae 2) (ae 2)) (le_int))) (aE (bq (d9 (le_mul (aH (ae 3) (ae 1)) (le_int)) (le_int)))))
theorem dm:a6 ["_law_pot_here", "_law_many", "_law_cell", "_law_digit"] ["_law_pot_here", "_law_many"] (ar gi):=by walk_at "sc"
theorem aw (T:Txt w.params K mg t):cg P w K mg base 2 "_law_take" ["_law_pot_here", "_law_many"] dq:=b3 T.me T.lY dm jk kU (fun _ _ _ _ _ _ _ _=>by walk_at "b2") fun _ _ _ _ _ _ hr hu=>
  aj (cL hu (ae 0) (le_str) (le_int)) (aj (gj (LW.lt (nT (LW.lt (uY (lt_eq hu (a7 hu (ae 0) (le_str)) (le_int)) (oP (lt_eq hu (a7 hu (ae 0) (le_str)) (le_int))))) (lg (o7 (a7 hu (ae 0) (le_str)) (aF aY bR rfl T.dM rfl (aa (a7 hu (ae 0) (le_str)) (ai))))))) (aj (aG 2 dm.nd (aF uN vO rfl T.AH rfl (aa (bh (a7 hu (ae 0) (le_str)) (a7 hu (ae 0) (le_str))) (ai)))) (aj (cL hu (ae 0) (le_str) (le_int)) (aj (fo hu (ae 0) (le_str) (le_mul (ae 2) (aP fO kj rfl T.r6 rfl (aa (AS (ae 2) (le_pow (le_int) (le_int))) (ai))))) (aj (fo hu (ae 0) (le_str) (le_int)) (aE (fo hu (ae 0) (le_str) (av (g4 T) hr rfl (aa (aH (a7 hu (ae 0) (le_str)) (ae 2)) (aa (a7 hu (ae 0) (le_str)) (ai)))))))))) (cP)) (aj (gj (LW.lt (nT (pR (a7 hu (ae 0) (le_str)) (le_int)) (lg (o7 (a7 hu (ae 0) (le_str)) (le_int))))) (aj (cL hu (ae 0) (le_str) (le_int)) (aj (aG 3 dm.nd (d9 (a7 hu (ae 0) (le_str)) (ae 1))) (aj (fo hu (ae 0) (le_str) (lb (a7 hu (ae 0) (le_str)) (ae 1))) (aE (bq (ae 3)))))) (cP)) (aj (fo hu (ae 0) (le_str) (av (g4 T) hr rfl (aa (a7 hu (ae 0) (le_str)) (aa (a7 hu (ae 0) (le_str)) (ai))))) (aE (bq (d9 (lb (a7 hu (ae 0) (le_str)) (le_int)) (ae 1)))))))
theorem cq:a6 ["_law_pot_here", "_law_many", "_law_words", "_law_first", "_law_step"] ["_law_pot_here", "_law_many"] (ar dI):=by walk_at "sc"
theorem fi (T:Txt w.params K mg t):cg P w K mg base 3 "_law_names" ["_law_pot_here", "_law_many"] L3.cf:=b3 T.kX T.lA cq L3.nc L3.qE (fun _ _ _ _ _ _ _ _=>by walk_at "b2") fun _ _ _ _ _ _ hr hu=>
  aj (aG 2 cq.nd (eP (aa (le_str) (aa (le_str) (aa (le_str) (aa (le_str) (aa (le_str) (aa (le_str) (aa (le_str) (aa (le_str) (aa (le_str) (aa (le_str) (aa (le_str) (aa (le_str) (aa (le_str) (aa (le_str) (aa (le_str) (aa (le_str) (ai))))))))))))))))))) (aj (kR (bZ (aa (av (aw T) hr rfl (aa (ae 0) (aa (le_int) (ai)))) (aa (aH (le_int) (av (aw T) hr rfl (aa (ae 0) (aa (le_int) (ai))))) (ai)))) (fV rfl (aR 3 cq.nd (aR 4 cq.nd (et))))) (aE (bq (da (fsc:=ar dI) ["_law_pot_here", "_law_many", "_law_words", "_law_first", "_law_step"] ["_law_k", "_law_words", "_law_first", "_law_step"] 1 [2,3,4] rfl rfl (eA rfl T.gJ (ae 1)) (fun cl C s₀ H₀ ex=>⟨b7 0 (show (["_law_k", "_law_words", "_law_first", "_law_step"]:List Str).Nodup from by decide +kernel),eC,bh (aH (ae 1) (eP (aa (le_str) (ai)))) (d9 (aH (ae 2) (le_mul (ae 3) (ae 0))) (le_int))⟩) rfl rfl (by decide +kernel)))))
theorem bo:a6 ["_law_pot_here", "_law_names_here", "_law_many", "_law_most", "_law_letters_here", "_law_numbers", "_law_k", "_law_name"] ["_law_pot_here", "_law_names_here", "_law_many", "_law_most"] (ar cM):=by walk_at "sc"
theorem iB (T:Txt w.params K mg t):cg P w K mg base 3 "_law_letters" ["_law_pot_here", "_law_names_here", "_law_many", "_law_most"] L3.bW:=b3 T.iJ T.hE bo L3.km L3.mi (fun _ _ _ _ _ _ _ _=>by walk_at "b4") fun _ _ _ _ _ _ hr hu=>
  aj (aG 4 bo.nd (nL (ai))) (aj (aG 5 bo.nd (aP (hZ rfl) l5 rfl T.uj rfl (aa (da (fsc:=ar cM) ["_law_pot_here", "_law_names_here", "_law_many", "_law_most", "_law_letters_here", "_law_numbers", "_law_k", "_law_name"] ["_law_name", "_law_most", "_law_pot_here"] 1 [3,0] rfl rfl (cU (ae 1)) (fun cl C s₀ H₀ ex=>⟨b7 0 (show (["_law_name", "_law_most", "_law_pot_here"]:List Str).Nodup from by decide +kernel),eC,bZ (aa (ae 0) (aa (le_mul (av (aw T) hr rfl (aa (ae 2) (aa (le_int) (ai)))) (ae 1)) (ai)))⟩) rfl rfl (by decide +kernel)) (ai)))) (aj (eV PassesOwn.never rfl (eA rfl T.gJ (ae 2)) (ft 6 bo.nd) (aj (aG 7 bo.nd (bh (ae 1) (av (aw T) hr rfl (aa (ae 0) (aa (aF aY bR rfl T.dM rfl (aa (ae 1) (ai))) (ai)))))) (aj (cL hu (ae 5) (ae 7) (aH (le_int) (av (aw T) hr rfl (aa (ae 0) (aa (le_int) (ai)))))) (aE (lu (le_app (ae 4) (bZ (aa (ae 7) (aa (a7 hu (ae 5) (ae 7)) (aa (av (aw T) hr rfl (aa (ae 0) (aa (le_int) (ai)))) (aa (av (aw T) hr rfl (aa (ae 0) (aa (le_int) (ai)))) (aa (lb (av (aw T) hr rfl (aa (ae 0) (aa (le_int) (ai)))) (le_int)) (ai))))))))))))) (aE (bq (aP a8 ck rfl T.dJ rfl (aa (ae 4) (ai)))))))
theorem cO:a6 ["_law_pot_here", "_law_pace", "_law_room", "_law_mark"] ["_law_pot_here"] (ar iZ):=by walk_at "sc"
theorem mY (T:Txt w.params K mg t):cg P w K mg base 4 "_law_way" ["_law_pot_here"] L3.eG:=b3 T.oG T.nA cO L3.sR L3.wj (fun _ _ _ _ _ _ _ _=>by walk_at "b1") fun _ _ _ _ _ _ hr hu=>
  aj (aG 1 cO.nd (bh (eP (aa (le_int) (aa (le_int) (aa (le_int) (aa (aH (le_int) (av (aw T) hr rfl (aa (ae 0) (aa (le_int) (ai))))) (ai)))))) (av (aw T) hr rfl (aa (ae 0) (aa (le_int) (ai)))))) (aj (aG 2 cO.nd (bh (eP (aa (aH (le_int) (av (aw T) hr rfl (aa (ae 0) (aa (le_int) (ai))))) (aa (aH (le_int) (av (aw T) hr rfl (aa (ae 0) (aa (le_int) (ai))))) (aa (aH (le_int) (av (aw T) hr rfl (aa (ae 0) (aa (le_int) (ai))))) (ai))))) (av (aw T) hr rfl (aa (ae 0) (aa (le_int) (ai)))))) (aj (aG 3 cO.nd (bh (eP (aa (lr) (aa (le_int) (aa (d9 (av (aw T) hr rfl (aa (ae 0) (aa (aH (ae 2) (le_int)) (ai)))) (le_int)) (aa (av (aw T) hr rfl (aa (ae 0) (aa (le_int) (ai)))) (ai)))))) (av (aw T) hr rfl (aa (ae 0) (aa (le_int) (ai)))))) (aE (bq (bZ (aa (bh (av (fi T) hr rfl (aa (ae 0) (aa (le_int) (ai)))) (le_int)) (aa (ae 1) (aa (ae 2) (aa (ae 3) (aa (bh (eP (aa (le_str) (aa (le_str) (ai)))) (av (aw T) hr rfl (aa (ae 0) (aa (le_int) (ai))))) (ai)))))))))))
theorem aA:a6 ["_law_pot_here", "_law_way_here", "_law_names_here", "_law_rows", "_law_stands", "_law_last", "_law_k", "_law_coming", "_law_out", "_law_left", "_law_here", "_law_letter"] ["_law_pot_here", "_law_way_here", "_law_names_here"] (ar bG):=by walk_at "sc"
theorem jr (T:Txt w.params K mg t):cg P w K mg base 4 "_law_rounds" ["_law_pot_here", "_law_way_here", "_law_names_here"] ba:=b3 T.jw T.jm aA gr iL (fun _ _ _ _ _ _ _ _=>by walk_at "b3") fun _ _ _ _ _ _ hr hu=>
  aj (aG 3 aA.nd (nL (ai))) (aj (aG 4 aA.nd (bZ (ai))) (aj (aG 5 aA.nd (bh (aH (ae 2) (bZ (aa (le_str) (ai)))) (av (aw T) hr rfl (aa (ae 0) (aa (aH (aF aY bR rfl T.dM rfl (aa (ae 2) (ai))) (le_int)) (ai)))))) (aj (eV PassesOwn.never rfl (eA rfl T.gJ (aH (le_int) (av (aw T) hr rfl (aa (ae 0) (aa (le_int) (ai)))))) (ft 6 aA.nd) (aj (aG 7 aA.nd (av (iB T) hr rfl (aa (ae 0) (aa (ae 2) (aa (bh (eP (aa (le_int) (aa (bh (ae 1) (le_int)) (aa (le_mul (le_int) (bh (ae 1) (le_int))) (aa (av (aw T) hr rfl (aa (ae 0) (aa (le_int) (ai)))) (ai)))))) (av (aw T) hr rfl (aa (ae 0) (aa (le_int) (ai))))) (aa (le_int) (ai))))))) (aj (aG 4 aA.nd (aH (ae 4) (aP a8 ck rfl T.dJ rfl (aa (da (fsc:=ar bG) ["_law_pot_here", "_law_way_here", "_law_names_here", "_law_rows", "_law_stands", "_law_last", "_law_k", "_law_coming", "_law_out", "_law_left", "_law_here", "_law_letter"] ["_law_letter", "_law_k"] 1 [6] rfl rfl (cU (ae 7)) (fun cl C s₀ H₀ ex=>⟨b7 0 (show (["_law_letter", "_law_k"]:List Str).Nodup from by decide +kernel),eC,aH (bZ (aa (bh (ae 0) (le_int)) (aa (aH (bh (ae 0) (le_int)) (le_mul (le_int) (ae 1))) (ai)))) (mU (ae 0) (hW (le_int)) (mz))⟩) rfl rfl (by decide +kernel)) (ai))))) (aj (kR (av (pZ T) hr rfl (aa (ae 1) (aa (ae 2) (aa (ae 4) (aa (ae 5) (ai)))))) (fV rfl (aR 8 aA.nd (aR 9 aA.nd (aR 5 aA.nd (et)))))) (aj (gj (LW.lt (uY (xF hu (aF aY bR rfl T.dM rfl (aa (ae 8) (ai))) (aF (j7 rfl) mF rfl T.sv rfl (aa (bh (ae 1) (le_int)) (aa (aF aY bR rfl T.dM rfl (aa (ae 4) (ai))) (ai))))) (oP (xF hu (aF aY bR rfl T.dM rfl (aa (ae 9) (ai))) (nU (aF aY bR rfl T.dM rfl (aa (ae 4) (ai))) (aF aY bR rfl T.dM rfl (aa (ae 8) (ai)))))))) (aE (bq (lr))) (cP)) (aj (aG 10 aA.nd (aP (hZ rfl) l5 rfl T.uj rfl (aa (da (fsc:=ar bG) ["_law_pot_here", "_law_way_here", "_law_names_here", "_law_rows", "_law_stands", "_law_last", "_law_k", "_law_coming", "_law_out", "_law_left", "_law_here", "_law_letter"] ["_law_name"] 1 [] rfl rfl (cU (ae 2)) (fun cl C s₀ H₀ ex=>⟨b7 0 (show (["_law_name"]:List Str).Nodup from by decide +kernel),eC,bZ (aa (ae 0) (aa (le_int) (ai)))⟩) rfl rfl (by decide +kernel)) (ai)))) (aj (eV PassesOwn.never rfl (cU (ae 4)) (ft 11 aA.nd) (aE (cL hu (ae 10) (bh (ae 11) (le_int)) (le_int)))) (aj (eV PassesOwn.never rfl (cU (ae 8)) (ft 11 aA.nd) (aj (lu (le_app (ae 3) (bZ (aa (bh (ae 11) (le_int)) (aa (da (fsc:=ar bG) ["_law_pot_here", "_law_way_here", "_law_names_here", "_law_rows", "_law_stands", "_law_last", "_law_k", "_law_coming", "_law_out", "_law_left", "_law_here", "_law_letter"] ["_law_name", "_law_here"] 1 [10] rfl rfl (cU (ae 2)) (fun cl C s₀ H₀ ex=>⟨b7 0 (show (["_law_name", "_law_here"]:List Str).Nodup from by decide +kernel),kh (pR (a7 hu (ae 1) (ae 0)) (le_int)),ae 0⟩) rfl rfl (by decide +kernel)) (ai)))))) (aE (oz hu (ae 10) (bh (ae 11) (le_int)) (le_int))))) (aj (gj (o7 (aF (qc rfl) rE rfl T.sv rfl (aa (uE (vn rfl rfl T.m8 rfl (ae 10))) (ai))) (le_int)) (aE (bq (lr))) (cP)) (aE (aG 4 aA.nd (ae 9)))))))))))) (aE (bq (uE (ae 3)))))))
theorem aC:a6 ["_law_rows", "_law_one", "_law_other", "_law_most", "_law_balance", "_law_low", "_law_high", "_law_name", "_law_here"] ["_law_rows", "_law_one", "_law_other"] (ar fm):=by walk_at "sc"
theorem lK (T:Txt w.params K mg t):cg P w K mg base 1 "_law_apart" ["_law_rows", "_law_one", "_law_other"] bp:=b3 T.kg T.lj aC iw jd (fun _ _ _ _ _ _ _ _=>by walk_at "b3") fun _ _ _ _ _ _ hr hu=>
  aj (aG 3 aC.nd (le_int)) (aj (kR (bZ (aa (le_int) (aa (le_int) (aa (le_int) (ai))))) (fV rfl (aR 4 aC.nd (aR 5 aC.nd (aR 6 aC.nd (et)))))) (aj (eV PassesOwn.never rfl (cU (ae 0)) (fV rfl (aR 7 aC.nd (aR 8 aC.nd (et)))) (aj (gj (LW.lt (uY (kb hu (ae 1) (ae 8)) (oP (kb hu (ae 2) (ae 8))))) (aj (kR (bZ (aa (le_int) (aa (le_int) (aa (le_int) (ai))))) (fV rfl (aR 4 aC.nd (aR 5 aC.nd (aR 6 aC.nd (et)))))) (aE (xl))) (cP)) (aj (aG 4 aC.nd (nU (aH (ae 4) (aP fO kj rfl T.r6 rfl (aa (le_eq hu (ae 7) (ae 1)) (ai)))) (aP fO kj rfl T.r6 rfl (aa (le_eq hu (ae 7) (ae 2)) (ai))))) (aj (zu 5 6 rfl aC.nd (aa (aF (j7 rfl) mF rfl T.sv rfl (aa (ae 5) (aa (ae 4) (ai)))) (aa (aF (j2 rfl) lR rfl T.xK rfl (aa (ae 6) (aa (ae 4) (ai)))) (ai)))) (aE (aG 3 aC.nd (aF (j2 rfl) lR rfl T.xK rfl (aa (ae 3) (aa (nU (ae 6) (ae 5)) (ai)))))))))) (aE (bq (ae 3)))))
theorem dU:a6 ["_law_script", "_law_pot_here", "_law_k", "_law_way_here", "_law_names_here", "_law_rows", "_law_place", "_law_one"] ["_law_script"] (ar tQ):=by walk_at "sc"
theorem pB (T:Txt w.params K mg t):dQ P w K mg base CX0 5 t.rW t.xE ["_law_script"] (lift K cj):=by
  refine xH (T:=t8) T.pB dU kW (fun cdv A outer s H E hr=>?_) yh
  have hu:=hr.units
  exact aj (aG 1 dU.nd (av (nK T) hr rfl (aa (ae 0) (ai)))) (aj (eV PassesOwn.never rfl (eA rfl T.gJ (aH (le_int) (lb (aF aY bR rfl T.dM rfl (aa (ae 0) (ai))) (le_int)))) (ft 2 dU.nd) (aj (aG 3 dU.nd (aH (mU (av (mY T) hr rfl (aa (ae 1) (ai))) (mz) (hW (le_int))) (bZ (aa (le_str) (ai))))) (aj (aG 4 dU.nd (aP a8 ck rfl T.dJ rfl (aa (tL rfl T.uo rfl (aa (av (fi T) hr rfl (aa (ae 1) (aa (aH (le_int) (av (aw T) hr rfl (aa (ae 1) (aa (le_int) (ai))))) (ai)))) (ai))) (ai)))) (aj (aG 5 dU.nd (av (jr T) hr rfl (aa (ae 1) (aa (ae 3) (aa (ae 4) (ai)))))) (aj (gj (Bw (ae 5) (lr)) (aE (bq (rP))) (cP)) (aE (eV PassesOwn.never rfl (xo rfl T.mh (aa (ae 4) (ai))) (fV rfl (aR 6 dU.nd (aR 7 dU.nd (et)))) (aE (gj (z5 (yZ (aF (pY rfl) vJ rfl T.AQ rfl (aa (da (fsc:=ar tQ) ["_law_script", "_law_pot_here", "_law_k", "_law_way_here", "_law_names_here", "_law_rows", "_law_place", "_law_one"] ["_law_other", "_law_rows", "_law_one"] 1 [5,7] rfl rfl (cU (mU (ae 4) (mz) (hW (ae 6)))) (fun cl C s₀ H₀ ex=>⟨b7 0 (show (["_law_other", "_law_rows", "_law_one"]:List Str).Nodup from by decide +kernel),eC,AJ (av (lK T) hr rfl (aa (ae 1) (aa (ae 2) (aa (ae 0) (ai))))) (le_int)⟩) rfl rfl (by decide +kernel)) (ai))))) (aE (bq (rP))) (cP)))))))))) (aE (bq (rP))))
end
theorem all_mk {l:PySem.W.OpenLaw}{w:World}{K:PySem.W.Frag}{mg:Str→Option Value}{fa:Addr}{t:Adr}(hfa:mg "law" = some (.ref fa))(T:Txt w.params K mg t):∃ fd:FuncData,(∀ (s:Shared) (v:Value),BindsTo s fd ⟨[v],[]⟩ [("_law_script", v)])∧∀ base:Heap,K.In base→base.Ns mainGlobals mg→dQ l.prog w K mg base CX0 5 fa fd ["_law_script"] (lift K cj):=by
  have e:=hfa.symm.trans T.AF
  injection e with e
  injection e with e
  subst e
  obtain ⟨oc,od,kV,dc,pm,an,cd,ct,sl,ed,_,_⟩:=T.pB.ex
  exact ⟨_,fun s v=>.of_eq (by rw[ed];rfl),fun base _ _=>pB T⟩
end Kk
namespace PySem.W.Fast
def tw3331117564435136090:=0
def tw14143374134301676353:=0
def tw6834617353581259970:=0
def tw5153366924588097090:=0
def tw4244564578652037891:=0
def tw16517089834929210372:=0
def tw1778925946974288356:=0
def tw7646256760224890405:=0
def tw223163605502777798:=0
def tw13841353828573998823:=0
def tw4640214653835238024:=0
def tw13853766298224176905:=0
def tw16648698381913371530:=0
def tw14718578473114251051:=0
def tw785241140929041582:=0
def tw14334773272654612142:=0
def tw6572299384050350671:=0
def tw18340313315902712049:=0
def tw6935101237364027953:=0
def tw1203685189612714962:=0
def tw7656206463628684403:=0
def tw13127774889462456051:=0
def tw8918840785346139414:=0
def tw7967716964973721910:=0
def tw6805220864779646294:=0
def tw7296238570141675958:=0
def tw4850498821558540854:=0
def tw988566805548472982:=0
def tw12480492244407565335:=0
def tw1465656379937658039:=0
def tw6146902064016848247:=0
def tw12476153219047864120:=0
def tw16067481483585534298:=0
def tw2017017116755149786:=0
def tw9397103018329848380:=0
def tw16720421845582350046:=0
def tw17589065982005895551:=0
def tw2933768136437742335:=0
end PySem.W.Fast
open PySem PySem.W PyProof.Rows L2 L3
set_option maxRecDepth 100000 in
set_option maxHeartbeats 0 in
theorem PySem.Challenge.cw_swellways_k26_whole_turns_fair_holds : PySem.Challenge.rw_swellways_k26_whole_turns_fair.Holds := by
  w_on;o_law;k_head;(case hw=>w_witness2)
  k_fill
  refine L3.Bg (l:=PySem.Challenge.rw_swellways_k26_whole_turns_fair) (k:=5) (sp:=Kk.cj) (x := "_law_script") rfl rfl ⟨rfl,by decide,by decide⟩ (fun w h Y=>PySem.W.kIn_of Y) Kk.fQ ?F
  case F=>
    intro w mg fa h KX G hmg
    refine' Kk.all_mk (t:=⟨_,_,_,_,_,_,_,_,_,_,_,_,_,_,_,_,_,_,_,_,_,_,_,_⟩) hmg ⟨mg_of KX G ?_,cC ?_ ?_ ?_,mg_of KX G ?_,cC ?_ ?_ ?_,mg_of KX G ?_,cC ?_ ?_ ?_,mg_of KX G ?_,cC ?_ ?_ ?_,mg_of KX G ?_,cC ?_ ?_ ?_,mg_of KX G ?_,cC ?_ ?_ ?_,mg_of KX G ?_,cC ?_ ?_ ?_,mg_of KX G ?_,cC ?_ ?_ ?_,mg_of KX G ?_,cC ?_ ?_ ?_,mg_of KX G ?_,cC ?_ ?_ ?_,mg_of KX G ?_,cC ?_ ?_ ?_,mg_of KX G ?_,cC ?_ ?_ ?_,mg_none_of KX G ?_,mg_none_of KX G ?_,mg_none_of KX G ?_,mg_none_of KX G ?_,mg_none_of KX G ?_,mg_none_of KX G ?_,mg_none_of KX G ?_,mg_none_of KX G ?_,mg_none_of KX G ?_,mg_none_of KX G ?_,mg_none_of KX G ?_,mg_none_of KX G ?_,oI KX G ?_,oI KX G ?_,oI KX G ?_⟩
    all_goals try first | k_is | rfl
