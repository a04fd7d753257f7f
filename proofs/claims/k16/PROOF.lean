import PyProof.Rows.All
import Wide.All
import OpenK.AllK
import Wide.FinOn
import Lean
import PyProof.EqAt
import PyProof.EqKinds
import PyProof.TupleCall
import PyProof.P3Eq
import PyProof.NeKinds
import PyProof.NeData
import PyProof.ZipIter
import PyProof.EnumMake
import PyProof.EnumFor
import OpenK.KTop
import PyProof.IsRules
import PyProof.AttrMissHeap
import PyProof.DictUpdate
import KE.KDictOf
import PyProof.Rows.SortStr
import PyProof.FString5
import PyProof.StrOps
import PySem.Challenge.RW_swellways_k16_whole_gentler_never_greate
set_option Elab.async false
set_option linter.all false
set_option maxRecDepth 100000
namespace L2
open PySem PySem.Spec PyProof.Rows
abbrev Key := Sum Int Str
def keyIs : Key → Value → Bool
  | .inl k, v => Value.isInt k v
  | .inr x, v => Value.isStrOf x v
def keyH (w : World) : Key → Int
  | .inl k => hashInt k
  | .inr x => hashStr w x
theorem keyIs_shape : ∀ {k : Key} {v : Value}, keyIs k v = true → (∃ i t, k = Sum.inl i ∧ v = Value.int i t) ∨ (∃ x t, k = Sum.inr x ∧ v = Value.str x t)
  | .inl i, v, h => by
    obtain ⟨t, e⟩ := Value.isInt_shape (k := i) (v := v) h
    exact .inl ⟨i, t, rfl, e⟩
  | .inr x, v, h => by
    obtain ⟨t, e⟩ := Value.isStrOf_shape (x := x) (v := v) h
    exact .inr ⟨x, t, rfl, e⟩
theorem keyIs_int (i : Int) (t : Tok) : keyIs (.inl i) (.int i t) = true := by simp [keyIs, Value.isInt]
theorem keyIs_str (x : Str) (t : Tok) : keyIs (.inr x) (.str x t) = true := by simp [keyIs, Value.isStrOf]
theorem key_ll (a b : Int) : decide ((Sum.inl a : Key) = Sum.inl b) = (a == b) := by
  by_cases e : a = b
  · subst e; simp
  · have h : ¬ (Sum.inl a : Key) = Sum.inl b := fun q => e (Sum.inl.inj q)
    rw [decide_eq_false h]
    exact (beq_eq_false_iff_ne.mpr e).symm
theorem key_rr (a b : Str) : decide ((Sum.inr a : Key) = Sum.inr b) = decide (a = b) := by
  by_cases e : a = b
  · subst e; simp
  · have h : ¬ (Sum.inr a : Key) = Sum.inr b := fun q => e (Sum.inr.inj q)
    rw [decide_eq_false h, decide_eq_false e]
theorem key_lr (a : Int) (b : Str) : decide ((Sum.inl a : Key) = Sum.inr b) = false := decide_eq_false (fun q => nomatch q)
theorem key_rl (a : Str) (b : Int) : decide ((Sum.inr a : Key) = Sum.inl b) = false := decide_eq_false (fun q => nomatch q)
def mixKind (prog : Program) (w : World) : PySem.KeyKind prog w Key where
  is := keyIs
  hash := keyH w
  inj := fun v a b ha hb => by
    rcases keyIs_shape ha with ⟨i, t, rfl, rfl⟩ | ⟨x, t, rfl, rfl⟩
    · rcases keyIs_shape hb with ⟨j, u, rfl, e⟩ | ⟨y, u, rfl, e⟩
      · injection e with e1 _; rw [e1]
      · exact nomatch e
    · rcases keyIs_shape hb with ⟨j, u, rfl, e⟩ | ⟨y, u, rfl, e⟩
      · exact nomatch e
      · injection e with e1 _; rw [e1]
  byValue := fun k v h => by
    rcases keyIs_shape h with ⟨i, t, rfl, rfl⟩ | ⟨x, t, rfl, rfl⟩ <;> rfl
  pyHash := fun hv h => by
    rcases keyIs_shape hv with ⟨i, t, rfl, rfl⟩ | ⟨x, t, rfl, rfl⟩
    · exact wpAny_pyHash_int h
    · exact wpAny_pyHash_str h
  eqBool := fun hu hv h => by
    rcases keyIs_shape hu with ⟨i, t, rfl, rfl⟩ | ⟨x, t, rfl, rfl⟩
    · rcases keyIs_shape hv with ⟨j, u, rfl, rfl⟩ | ⟨y, u, rfl, rfl⟩
      · rw [key_ll] at h; exact wpAny_eqBool_int h
      · rw [key_lr] at h; exact SeqAt.EqAt.int_str i t y u _ _ _ _ h
    · rcases keyIs_shape hv with ⟨j, u, rfl, rfl⟩ | ⟨y, u, rfl, rfl⟩
      · rw [key_rl] at h; exact SeqAt.EqAt.str_int x t j u _ _ _ _ h
      · rw [key_rr] at h; exact wpAny_eqBool_str h
  «strs» := fun k x t v h => by
    rcases keyIs_shape h with ⟨i, u, rfl, e⟩ | ⟨y, u, rfl, e⟩
    · exact nomatch e
    · injection e with e1 _
      subst e1
      cases v <;> rfl
theorem mixKind_int (prog : Program) (w : World) (i : Int) (t : Tok) : (mixKind prog w).is (.inl i) (.int i t) = true := keyIs_int i t
theorem mixKind_str (prog : Program) (w : World) (x : Str) (t : Tok) : (mixKind prog w).is (.inr x) (.str x t) = true := keyIs_str x t
end L2
namespace L2
open PySem PySem.Spec PyProof.Rows
inductive V where
  | non | bl (b : Bool) | int (i : Int) | str (x : Str) | byt (b : Array UInt8) | flt (b : UInt64) | ref (a : Addr) | ty (n : String)
  deriving DecidableEq
def RelV : V → Value → Prop
  | .non, u => u = Value.none
  | .bl b, u => u = Value.bool b
  | .int i, u => ∃ t, u = Value.int i t
  | .str x, u => ∃ t, u = Value.str x t
  | .byt b, u => ∃ t, u = Value.bytes b t
  | .flt b, u => ∃ t, u = Value.float b t
  | .ref a, u => u = Value.ref a
  | .ty n, u => u = Value.type n
abbrev Vals : List V → List Value → Prop := Paired RelV
theorem Vals.length {xs : List V} {us : List Value} (r : Vals xs us) : xs.length = us.length := Paired.length r
theorem Vals.get : ∀ {xs : List V} {us : List Value} {i : Nat} {x : V}, Vals xs us → xs[i]? = some x → ∃ u, us[i]? = some u ∧ RelV x u
  | _, _, _, _, .nil, e => by simp at e
  | _, _, 0, _, .cons r _, e => by simp at e; subst e; exact ⟨_, rfl, r⟩
  | _, _, i + 1, x, .cons _ t, e => by
    obtain ⟨u, h1, h2⟩ := Vals.get (i := i) (x := x) t (by simpa using e)
    exact ⟨u, by simpa using h1, h2⟩
theorem Vals.set {x : V} {u : Value} (r : RelV x u) : ∀ {xs : List V} {us : List Value} (i : Nat), Vals xs us → Vals (xs.set i x) (us.set i u)
  | _, _, _, .nil => .nil
  | _, _, 0, .cons _ t => .cons r t
  | _, _, i + 1, .cons q t => .cons q (Vals.set r i t)
theorem Vals.append : ∀ {xs ys : List V} {us ws : List Value}, Vals xs us → Vals ys ws → Vals (xs ++ ys) (us ++ ws)
  | _, _, _, _, .nil, s => s
  | _, _, _, _, .cons r t, s => .cons r (Vals.append t s)
theorem Vals.take : ∀ {xs : List V} {us : List Value} (n : Nat), Vals xs us → Vals (xs.take n) (us.take n)
  | _, _, 0, _ => .nil
  | _, _, _ + 1, .nil => .nil
  | _, _, n + 1, .cons r t => .cons r (Vals.take n t)
theorem Vals.drop : ∀ {xs : List V} {us : List Value} (n : Nat), Vals xs us → Vals (xs.drop n) (us.drop n)
  | _, _, 0, r => r
  | _, _, _ + 1, .nil => .nil
  | _, _, n + 1, .cons _ t => Vals.drop n t
def RelO : Option V → Option Value → Prop
  | some v, some u => RelV v u
  | none, none => True
  | _, _ => False
def KV {κ : Type} : List (κ × V) → List (κ × Value) → Prop := Paired fun (p : κ × V) (q : κ × Value) => p.1 = q.1 ∧ RelV p.2 q.2
def kV : Key → V
  | .inl i => .int i
  | .inr x => .str x
inductive HO where
  | lst (xs : List V)
  | tup (xs : List V)
  | dK (kvs : List (Key × V)) | dT (kvs : List (List Key × V))
  | set (S : Int → Bool) (n : Nat)
  | ins (C dx : Addr) (fs : List (Str × V))
  | own (x : Addr)
  | xd (fs : List (Str × V))
  | met (f x : Addr)
  | rng (lo hi : Int)
  | frz (o : Obj) (u : HO)
  | tbl (ps : Array Value)
  | ext (φ : Heap → Prop)
abbrev Hp := Addr → Option HO
def upd (H : Hp) (a : Addr) (o : HO) : Hp := fun b => if b = a then some o else H b
theorem upd_same {H : Hp} {a : Addr} {o : HO} : upd H a o a = some o := by unfold upd; rw [if_pos rfl]
theorem upd_ne {H : Hp} {a b : Addr} {o : HO} (h : b ≠ a) : upd H a o b = H b := by unfold upd; rw [if_neg h]
theorem upd_upd {H : Hp} {a : Addr} {o u : HO} : upd (upd H a o) a u = upd H a u := by
  funext b; unfold upd; split <;> rfl
theorem ne_of_none {H : Hp} {a b : Addr} {o : HO} (h : H a = some o) (h' : H b = none) : a ≠ b := by
  intro e; subst e; rw [h] at h'; cases h'
section
variable (P : Program) (w : World)
def ObjOk (H : Hp) (h : Heap) (a : Addr) : HO → Prop
  | .lst xs => xs.length ≤ sizeLine ∧ ∃ (its : List Value) (n : Nat), Vals xs its ∧ h.get? a = some { cls := .type "list", data := .seq its.toArray n }
  | .tup xs => xs.length ≤ sizeLine ∧ ∃ its : List Value, Vals xs its ∧ IsTup h a its.toArray
  | .dK kvs => kvs.length ≤ sizeLine ∧ (a == sysModules) = false ∧ ∃ vs, KV kvs vs ∧ h.DictOf (mixKind P w) a vs
  | .dT kvs => kvs.length ≤ sizeLine ∧ (a == sysModules) = false ∧ ∃ xs : List (List Key × Addr × Value),
      Paired (fun (p : List Key × V) (q : List Key × Addr × Value) => p.1 = q.1 ∧ H q.2.1 = some (.tup (p.1.map kV)) ∧ RelV p.2 q.2.2) kvs xs ∧
      ∃ o es ep, h.get? a = some o ∧ o.ExactDict ∧ o.data = .dict es ep ∧ es.toList = xs.map (entryOfKey (tupleKind (mixKind P w))) ∧ (xs.map (·.1)).Nodup
  | .set S n => h.SetOf (intKind P w) a S n
  | .ins C dx fs => H dx = some (.own a) ∧ fs.length ≤ 1000 ∧ dx ≠ a ∧ h.get? a = some (PySem.W.instObj C dx) ∧
      ∃ mA, h.Ns1 dx mA ∧ (∀ f, RelO (fs.lookup f) (mA f)) ∧ PySem.Within mA (fs.map (·.1))
  | .own _ => ∃ o, h.get? a = some o
  | .xd fs => ∃ mA, h.Ns1 a mA ∧ ∀ f, RelO (fs.lookup f) (mA f)
  | .rng lo hi => ∃ t u v, h.get? a = some { cls := .type "range", data := .fields #[.int lo t, .int hi u, .int 1 v] }
  | .frz o u => h.get? a = some o ∧ ObjOk H h a u
  | .tbl ps => h.get? a = some { cls := .none, data := .fields ps }
  | .met f x => h.get? a = some (PySem.W.methodObj (.ref f) (.ref x))
  | .ext φ => φ h ∧ (∃ o, h.get? a = some o) ∧ ∀ h1 h2 : Heap, φ h1 → (∀ o, h1.get? a = some o → h2.get? a = some o) → φ h2
def HOk (H : Hp) (h : Heap) : Prop := ∀ a o, H a = some o → ObjOk P w H h a o
end
section
variable {P : Program} {w : World} {H H' : Hp} {h h' : Heap} {a : Addr} {o : HO}
theorem ObjOk.lt (x : ObjOk P w H h a o) : a < h.objs.size := by
  cases o with
  | lst xs => obtain ⟨_, _, _, _, e⟩ := x; exact Heap.lt_size e
  | tup xs => obtain ⟨_, _, _, p⟩ := x; exact p.lt
  | dK kvs => obtain ⟨_, _, _, _, o, _, _, e, _⟩ := x; exact Heap.lt_size e
  | dT kvs => obtain ⟨_, _, _, _, o, _, _, e, _⟩ := x; exact Heap.lt_size e
  | set S n => obtain ⟨o, _, _, _, e, _⟩ := x; exact Heap.lt_size e
  | ins C dx fs => obtain ⟨_, _, _, e, _⟩ := x; exact Heap.lt_size e
  | own y => obtain ⟨_, e⟩ := x; exact Heap.lt_size e
  | xd fs => obtain ⟨_, ⟨_, _, _, e, _⟩, _⟩ := x; exact Heap.lt_size e
  | rng lo hi => obtain ⟨_, _, _, e⟩ := x; exact Heap.lt_size e
  | frz ob u => obtain ⟨e, _⟩ := x; exact Heap.lt_size e
  | tbl ps => exact Heap.lt_size (show h.get? a = some _ from x)
  | met f y => exact Heap.lt_size (show h.get? a = some _ from x)
  | ext φ => obtain ⟨_, ⟨_, e⟩, _⟩ := x; exact Heap.lt_size e
theorem Paired.mapP {α β : Type} {F G : α → β → Prop} : ∀ {l₁ : List α} {l₂ : List β}, Paired F l₁ l₂ → (∀ a b, F a b → G a b) → Paired G l₁ l₂
  | _, _, .nil, _ => .nil
  | _, _, .cons r t, f => .cons (f _ _ r) (Paired.mapP t f)
theorem ObjOk.stay (x : ObjOk P w H h a o) (k : ∀ b u, (b = a ∨ H b = some (.own a)) → h.get? b = some u → h'.get? b = some u)
    (ho : ∀ b, H b = some (.own a) → H' b = some (.own a)) (ht : ∀ b xs, H b = some (.tup xs) → H' b = some (.tup xs)) : ObjOk P w H' h' a o := by
  induction o with
  | lst xs => obtain ⟨z, its, n, r, e⟩ := x; exact ⟨z, its, n, r, k _ _ (.inl rfl) e⟩
  | tup xs => obtain ⟨z, its, r, ob, e, c⟩ := x; exact ⟨z, its, r, ob, k _ _ (.inl rfl) e, c⟩
  | dK kvs => obtain ⟨z, y, vs, r, ob, es, ep, e, c⟩ := x; exact ⟨z, y, vs, r, ob, es, ep, k _ _ (.inl rfl) e, c⟩
  | dT kvs =>
    obtain ⟨z, y, xs, r, ob, es, ep, e, c⟩ := x
    exact ⟨z, y, xs, Paired.mapP r fun p q z => ⟨z.1, ht _ _ z.2.1, z.2.2⟩, ob, es, ep, k _ _ (.inl rfl) e, c⟩
  | set S n => obtain ⟨ob, es, ep, t, e, c⟩ := x; exact ⟨ob, es, ep, t, k _ _ (.inl rfl) e, c⟩
  | ins C dx fs =>
    obtain ⟨d, z, ne, e, mA, ⟨od, es, ep, e2, c⟩, r⟩ := x
    exact ⟨ho _ d, z, ne, k _ _ (.inl rfl) e, mA, ⟨od, es, ep, k _ _ (.inr d) e2, c⟩, r⟩
  | own y => obtain ⟨ob, e⟩ := x; exact ⟨ob, k _ _ (.inl rfl) e⟩
  | xd fs => obtain ⟨mA, ⟨od, es, ep, e, c⟩, r⟩ := x; exact ⟨mA, ⟨od, es, ep, k _ _ (.inl rfl) e, c⟩, r⟩
  | rng lo hi => obtain ⟨t, u, v, e⟩ := x; exact ⟨t, u, v, k _ _ (.inl rfl) e⟩
  | frz ob u ih => obtain ⟨e, q⟩ := x; exact ⟨k _ _ (.inl rfl) e, ih q⟩
  | tbl ps =>
    have e : h.get? a = some { cls := .none, data := .fields ps } := x
    show h'.get? a = some { cls := .none, data := .fields ps }
    exact k a _ (.inl rfl) e
  | met f y =>
    have e : h.get? a = some (PySem.W.methodObj (.ref f) (.ref y)) := x
    show h'.get? a = some (PySem.W.methodObj (.ref f) (.ref y))
    exact k a _ (.inl rfl) e
  | ext φ => obtain ⟨p, ⟨o, e⟩, st⟩ := x; exact ⟨st _ _ p fun o q => k _ _ (.inl rfl) q, ⟨o, k _ _ (.inl rfl) e⟩, st⟩
theorem HOk.lt (x : HOk P w H h) (e : H a = some o) : a < h.objs.size := (x a o e).lt
theorem HOk.fresh (x : HOk P w H h) (e : h.objs.size ≤ a) : H a = none := by
  cases q : H a with
  | none => rfl
  | some u => exact absurd (Nat.lt_of_lt_of_le (x.lt q) e) (Nat.lt_irrefl _)
theorem HOk.kept (x : HOk P w H h) (k : ∀ b u, h.get? b = some u → h'.get? b = some u) : HOk P w H h' := fun a o e =>
  (x a o e).stay (fun b u _ q => k b u q) (fun _ q => q) fun _ _ q => q
theorem HOk.laid (x : HOk P w H h) (k : ∀ b u, h.get? b = some u → h'.get? b = some u) (hp : h.objs.size ≤ a) (new : ObjOk P w (upd H a o) h' a o) : HOk P w (upd H a o) h' := fun b u e => by
  have hn := x.fresh hp
  by_cases hb : b = a
  · subst hb; rw [upd_same] at e; cases e; exact new
  · rw [upd_ne hb] at e
    exact (x b u e).stay (fun c v _ q => k c v q) (fun c q => by rw [upd_ne (ne_of_none q hn)]; exact q) fun c xs q => by rw [upd_ne (ne_of_none q hn)]; exact q
end
def Rd (H : Hp) (a : Addr) (u : HO) : Prop := H a = some u ∨ ∃ o, H a = some (.frz o u)
theorem Rd.of {H : Hp} {a : Addr} {u : HO} (h : H a = some u) : Rd H a u := .inl h
theorem Rd.ok {P : Program} {w : World} {H : Hp} {h : Heap} {a : Addr} {u : HO} (r : Rd H a u) (x : HOk P w H h) : ObjOk P w H h a u := by
  rcases r with r | ⟨o, r⟩
  · exact x a u r
  · obtain ⟨_, q⟩ := x a _ r
    exact q
def Mut : Option HO → Prop
  | some (.lst _) => True
  | some (.dK _) => True
  | some (.dT _) => True
  | some (.set _ _) => True
  | some (.ins _ _ _) => True
  | some (.ext _) => True
  | _ => False
section
variable {P : Program} {w : World} {H : Hp} {h h' : Heap} {x e : Addr} {o' : HO}
theorem HOk.write (ok : HOk P w H h) (mu : Mut (H x)) (he : e = x ∨ H e = some (.own x)) (k : ∀ b u, b ≠ e → h.get? b = some u → h'.get? b = some u) (heo : ∃ u, h'.get? e = some u)
    (new : ObjOk P w (upd H x o') h' x o') : HOk P w (upd H x o') h' := fun b u q => by
  have nown : ∀ c y, H c = some (.own y) → c ≠ x := fun c y r z => by subst z; rw [r] at mu; exact mu
  have ntup : ∀ c xs, H c = some (.tup xs) → c ≠ x := fun c xs r z => by subst z; rw [r] at mu; exact mu
  by_cases hb : b = x
  · subst hb; rw [upd_same] at q; cases q; exact new
  · rw [upd_ne hb] at q
    by_cases hbe : b = e
    · have q' : H b = some (.own x) := by
        rcases he with z | z
        · exact absurd (hbe.trans z) hb
        · rw [hbe]; exact z
      rw [q] at q'; cases q'
      obtain ⟨v, hv⟩ := heo
      exact ⟨v, by rw [hbe]; exact hv⟩
    · refine (ok b u q).stay (fun c v hc r => k c v ?_ r) (fun c r => by rw [upd_ne (nown c b r)]; exact r) fun c xs r => by rw [upd_ne (ntup c xs r)]; exact r
      rcases hc with rfl | hc
      · exact hbe
      · rintro rfl
        rcases he with z | z
        · exact nown c b hc z
        · rw [hc] at z; cases z; exact hb rfl
end
structure Un (fs ex : List Addr) (H H' : Hp) (h h' : Heap) : Prop where
  keep : ∀ b o, h.get? b = some o → H b = none → b ∉ fs → b ∉ ex → h'.get? b = some o
  slot : ∀ b o, h.get? b = some o → H b = none → b ∈ fs → b ∉ ex → ∃ sl, h'.get? b = some { o with slots := sl }
  free : ∀ b o, h.get? b = some o → H b = none → b ∉ ex → H' b = none
  there : ∀ b o, h.get? b = some o → b ∉ ex → ∃ o', h'.get? b = some o'
  tups : ∀ b xs, H b = some (.tup xs) → H' b = some (.tup xs)
  frzs : ∀ b o u, H b = some (.frz o u) → H' b = some (.frz o u)
  tbls : ∀ b ps, H b = some (.tbl ps) → ∃ more, H' b = some (.tbl (ps ++ more))
section
variable {fs fs' ex ex' : List Addr} {H H1 H2 : Hp} {h h1 h2 h' : Heap} {a x e : Addr} {o : HO}
theorem Un.any (u : Un fs ex H H1 h h1) {b : Addr} {ob : Obj} (q : h.get? b = some ob) (n : H b = none) (hx : b ∉ ex) : ∃ sl, h1.get? b = some { ob with slots := sl } := by
  by_cases hb : b ∈ fs
  · exact u.slot b ob q n hb hx
  · exact ⟨ob.slots, u.keep b ob q n hb hx⟩
theorem Un.trans (a : Un fs ex H H1 h h1) (b : Un fs ex H1 H2 h1 h2) : Un fs ex H H2 h h2 where
  keep := fun c ob q n hc hx => b.keep c ob (a.keep c ob q n hc hx) (a.free c ob q n hx) hc hx
  slot := fun c ob q n hc hx => by
    obtain ⟨sl, e1⟩ := a.slot c ob q n hc hx
    obtain ⟨sl', e2⟩ := b.slot c _ e1 (a.free c ob q n hx) hc hx
    exact ⟨sl', e2⟩
  free := fun c ob q n hx => by
    obtain ⟨o', e1⟩ := a.there c ob q hx
    exact b.free c o' e1 (a.free c ob q n hx) hx
  there := fun c ob q hx => by
    obtain ⟨o', e1⟩ := a.there c ob q hx
    exact b.there c o' e1 hx
  tups := fun c xs q => b.tups c xs (a.tups c xs q)
  frzs := fun c ob xs q => b.frzs c ob xs (a.frzs c ob xs q)
  tbls := fun c ps q => by
    obtain ⟨m1, e1⟩ := a.tbls c ps q
    obtain ⟨m2, e2⟩ := b.tbls c _ e1
    exact ⟨m1 ++ m2, by rw [e2, Array.append_assoc]⟩
theorem Un.kept (k : ∀ b u, h.get? b = some u → h'.get? b = some u) : Un fs ex H H h h' :=
  ⟨fun b ob q _ _ _ => k b ob q, fun b ob q _ _ _ => ⟨ob.slots, k b ob q⟩, fun _ _ _ n _ => n, fun b ob q _ => ⟨ob, k b ob q⟩, fun _ _ q => q, fun _ _ _ q => q, fun _ ps q => ⟨#[], by rw [q]; simp⟩⟩
theorem Un.refl : Un fs ex H H h h := Un.kept fun _ _ q => q
theorem Un.laid (k : ∀ b u, h.get? b = some u → h'.get? b = some u) (hp : h.objs.size ≤ a) (hn : H a = none) : Un fs ex H (upd H a o) h h' where
  keep := fun b u q _ _ _ => k b u q
  slot := fun b u q _ _ _ => ⟨u.slots, k b u q⟩
  free := fun b u q n _ => by rw [upd_ne (Nat.ne_of_lt (Nat.lt_of_lt_of_le (Heap.lt_size q) hp))]; exact n
  there := fun b u q _ => ⟨u, k b u q⟩
  tups := fun b xs q => by rw [upd_ne (ne_of_none q hn)]; exact q
  frzs := fun b u xs q => by rw [upd_ne (ne_of_none q hn)]; exact q
  tbls := fun b ps q => ⟨#[], by rw [upd_ne (ne_of_none q hn), q]; simp⟩
theorem Un.write (mu : Mut (H x)) (he : e = x ∨ H e = some (.own x)) (k : ∀ b u, b ≠ e → h.get? b = some u → h'.get? b = some u) (heo : ∃ u, h'.get? e = some u) : Un fs ex H (upd H x o) h h' := by
  have hx : ∀ b, H b = none → b ≠ x := fun b n z => by subst z; rw [n] at mu; exact mu
  have hb : ∀ b, H b = none → b ≠ e := fun b n z => by
    subst z
    rcases he with r | r
    · exact hx b n r
    · rw [n] at r; cases r
  have hm : ∀ b u, H b = some u → ¬ Mut (some u) → b ≠ x := fun b u q nm z => by subst z; rw [q] at mu; exact nm mu
  refine ⟨fun b u q n _ _ => k b u (hb b n) q, fun b u q n _ _ => ⟨u.slots, k b u (hb b n) q⟩, fun b u q n _ => by rw [upd_ne (hx b n)]; exact n, fun b u q _ => ?_,
    fun b xs q => by rw [upd_ne (hm b _ q fun z => z)]; exact q, fun b u xs q => by rw [upd_ne (hm b _ q fun z => z)]; exact q, fun b ps q => ⟨#[], by rw [upd_ne (hm b _ q fun z => z), q]; simp⟩⟩
  by_cases hbe : b = e
  · subst hbe; exact heo
  · exact ⟨u, k b u hbe q⟩
theorem Un.mono (u : Un fs ex H H1 h h1) (hs : ∀ b ∈ fs, b ∈ fs') (hx : ∀ b ∈ ex, b ∈ ex') : Un fs' ex' H H1 h h1 :=
  ⟨fun b ob q n hb he => u.keep b ob q n (fun z => hb (hs b z)) fun z => he (hx b z), fun _ _ q n _ he => u.any q n fun z => he (hx _ z), fun b ob q n he => u.free b ob q n fun z => he (hx b z), fun b ob q he => u.there b ob q fun z => he (hx b z), u.tups, u.frzs, u.tbls⟩
end
def trk (h : Heap) (H : Hp) : List Addr := (List.range h.objs.size).filter fun a => (H a).isSome
def hidT (h : Heap) (H : Hp) : Heap := PySem.W.hideAll h (trk h H)
theorem hidT_size (h : Heap) (H : Hp) : (hidT h H).objs.size = h.objs.size := PySem.W.hideAll_size _ _
theorem hidT_get {h : Heap} {H : Hp} {b : Addr} {o : Obj} (e : h.get? b = some o) (n : H b = none) : (hidT h H).get? b = some o :=
  PySem.W.hideAll_get _ e fun hm => by
    have q : (H b).isSome = true := (List.mem_filter.mp hm).2
    rw [n] at q; simp at q
theorem of_hidT {h : Heap} {H : Hp} {b : Addr} {o : Obj} (e : (hidT h H).get? b = some o) : h.get? b = some o ∧ H b = none := by
  have e' : h.get? b = some o := PySem.W.of_hideAll (trk h H) e
  refine ⟨e', ?_⟩
  cases q : H b with
  | none => rfl
  | some x =>
    have hm : b ∈ trk h H := List.mem_filter.mpr ⟨List.mem_range.mpr (Heap.lt_size e'), by simp [q]⟩
    have z : (hidT h H).get? b = none := PySem.W.hideAll_none (trk h H) hm
    rw [z] at e; cases e
def allNews (g h : Heap) (L : Addr) : List (Addr × Obj) := (List.range h.objs.size).filterMap fun a => if a = L ∨ (g.get? a).isSome = true then none else (h.get? a).map fun o => (a, o)
def rest (g h : Heap) (L d : Addr) : List (Addr × Obj) := (allNews g h L).filter fun p => decide (p.1 ≠ d)
end L2
namespace L2
open PySem PySem.Spec PyProof.Rows
structure Mod (K : PySem.W.Frag) (mg : Str → Option Value) (base : Heap) : Prop where
  kin : K.In base
  glob : base.Ns mainGlobals mg
  blt : ∃ mb, base.Ns builtinsNs mb ∧ ∀ x : Str, x ≠ "__name__" → mb x = bootBuiltins x
  nolimit : base.NoLimit
structure Cx where
  prog : Program
  w : World
  K : PySem.W.Frag
  mg : Str → Option Value
  base : Heap
  A : Around
  N : List Str
  s₀ : Shared
  H₀ : Hp
  env : Env
  outer : List Env
  stack : List Env
  ex : List Addr
  fn : Str → Bool
  calm : Bool
  pn : List (Addr × Obj)
  xe : Value → Shared → Prop
def frs (l : List Env) : List Addr := l.filterMap (·.frame)
abbrev Cx.fs (X : Cx) : List Addr := frs X.outer
def Vis (sc : Scope) (x : Str) : Prop := sc.names.lookup x = some .local ∨ sc.names.lookup x = some .cell ∨ sc.names.lookup x = some .free
def Loc (sc : Scope) (x : Str) : Prop := sc.names.lookup x = some .local ∨ sc.names.lookup x = some .cell
def Look (env : Env) (h : Heap) (m : Str → Option Value) (x : Str) (u : Value) : Prop :=
  (env.kindOf x = some .local ∧ m x = some u) ∨ ((env.kindOf x = some .cell ∨ env.kindOf x = some .free) ∧ ∃ c, env.cells.lookup x = some c ∧ h.IsCell c (some u))
structure Cx.Ok (X : Cx) : Prop where
  mod : Mod X.K X.mg X.base
  kind : X.env.scope.kind = .function
  glob : X.env.globals = mainGlobals
  blt : X.env.builtins = builtinsNs
  above : X.s₀.heap.objs.size ≤ X.env.locals
  inj : ∀ x y c, X.env.cells.lookup x = some c → X.env.cells.lookup y = some c → x = y
  has : ∀ x, (X.env.kindOf x = some .cell ∨ X.env.kindOf x = some .free) → ∃ c, X.env.cells.lookup x = some c
  cab : ∀ x c, X.fn x = true → X.env.cells.lookup x = some c → X.s₀.heap.objs.size ≤ c
  hd : X.calm = true → X.A.handled = none
  frames : X.A.frames = some X.stack
  stk : X.stack = X.outer ∨ (X.stack = X.env :: X.outer ∧ X.env.frame = some X.env.locals)
  exf : ∀ b ∈ X.ex, b ≠ X.env.locals ∧ ∀ x c, X.env.cells.lookup x = some c → c ≠ b
  bs : ∀ b o, X.base.get? b = some o → X.s₀.heap.get? b = some o ∧ X.H₀ b = none
  bsz : X.base.objs.size ≤ X.s₀.heap.objs.size
  noex : ∀ b o, X.base.get? b = some o → b ∉ X.ex
  exfs : ∀ b ∈ X.ex, b ∉ X.fs
  funs : X.s₀.heap.FunFrames X.base X.outer
  frf : ∀ b ∈ X.fs, X.H₀ b = none
structure Inv (X : Cx) (pins : List (Addr × Obj)) (σ : List (Option V)) (H : Hp) (s : Shared) : Prop where
  ok : X.Ok
  os : s.os = X.s₀.os
  bare : AllBare s.gens
  base : Un X.fs X.ex X.H₀ H X.s₀.heap s.heap
  loc : ∃ m, s.heap.Ns X.env.locals m ∧ ∀ (i : Nat) (x : Str) (v : V), X.N[i]? = some x → σ[i]? = some (some v) → Vis X.env.scope x → ∃ u, RelV v u ∧ Look X.env s.heap m x u
  cell : ∀ x c, X.env.cells.lookup x = some c → ∃ v, s.heap.IsCell c v
  free : H X.env.locals = none
  freeC : ∀ x c, X.env.cells.lookup x = some c → H c = none
  pin : ∀ p ∈ X.pn ++ pins, s.heap.get? p.1 = some p.2 ∧ H p.1 = none ∧ p.1 ≠ X.env.locals ∧ p.1 ∉ X.fs ∧ ∀ v, p.2.data ≠ .cell v
  hok : HOk X.prog X.w H s.heap
  len : σ.length = X.N.length
section
variable {X : Cx} {pins : List (Addr × Obj)} {σ : List (Option V)} {H H' : Hp} {s : Shared} {h' : Heap}
theorem Cx.Ok.nofr (ok : X.Ok) {b : Addr} {o : Obj} (e : X.base.get? b = some o) : b ∉ X.fs := fun hb => by
  have := (ok.funs.mem hb).1
  rw [e] at this; cases this
theorem Inv.bs (I : Inv X pins σ H s) : ∀ b o, X.base.get? b = some o → s.heap.get? b = some o ∧ H b = none := fun b o e =>
  ⟨I.base.keep b o (I.ok.bs b o e).1 (I.ok.bs b o e).2 (I.ok.nofr e) (I.ok.noex b o e), I.base.free b o (I.ok.bs b o e).1 (I.ok.bs b o e).2 (I.ok.noex b o e)⟩
theorem Inv.bk (I : Inv X pins σ H s) : ∀ b o, X.base.get? b = some o → s.heap.get? b = some o := fun b o e => (I.bs b o e).1
theorem Inv.mod (I : Inv X pins σ H s) : Mod X.K X.mg X.base := I.ok.mod
theorem Inv.kIn (I : Inv X pins σ H s) : X.K.In s.heap := I.ok.mod.kin.keeps I.bk
theorem Inv.nolimit (I : Inv X pins σ H s) : s.heap.NoLimit := I.ok.mod.nolimit.keeps I.bk
theorem Inv.fr (I : Inv X pins σ H s) : ∃ m, Fr X.base X.env.locals s.heap m :=
  let ⟨m, hn, _⟩ := I.loc
  ⟨m, hn, I.bk, Nat.le_trans I.ok.bsz I.ok.above⟩
theorem Inv.lt (I : Inv X pins σ H s) : X.env.locals < s.heap.objs.size := let ⟨_, hn, _⟩ := I.loc; hn.lt
theorem Inv.sz (I : Inv X pins σ H s) : X.s₀.heap.objs.size ≤ s.heap.objs.size := Nat.le_trans I.ok.above (Nat.le_of_lt I.lt)
theorem Inv.nofs (I : Inv X pins σ H s) {a : Addr} (h : s.heap.objs.size ≤ a) : a ∉ X.fs := fun hb => by
  obtain ⟨_, o, ho, _⟩ := I.ok.funs.mem hb
  exact absurd (Nat.lt_of_lt_of_le (Heap.lt_size ho) (Nat.le_trans I.sz h)) (Nat.lt_irrefl _)
theorem Inv.cne (I : Inv X pins σ H s) : ∀ x c, X.env.cells.lookup x = some c → c ≠ X.env.locals := fun x c e z => by
  obtain ⟨v, o, ho, hd⟩ := I.cell x c e
  obtain ⟨m, ⟨o', es, ep, ho', hd', _⟩, _⟩ := I.loc
  rw [z, ho'] at ho; cases ho; rw [hd'] at hd; cases hd
theorem Inv.funs (I : Inv X pins σ H s) : s.heap.FunFrames X.base X.outer := by
  have all : ∀ (l : List Env), (∀ b ∈ frs l, b ∈ X.fs) → X.s₀.heap.FunFrames X.base l → s.heap.FunFrames X.base l := by
    intro l
    induction l with
    | nil => intro _ _; trivial
    | cons env r ih =>
      intro hs hl
      obtain ⟨hk, ⟨L, o, hf, hn, ho, hd⟩, hr⟩ := hl
      have hL : L ∈ X.fs := hs L (by unfold frs; rw [List.filterMap_cons, hf]; exact List.mem_cons_self)
      obtain ⟨sl, e⟩ := I.base.slot L o ho (I.ok.frf L hL) hL fun z => I.ok.exfs L z hL
      exact ⟨hk, ⟨L, _, hf, hn, e, hd⟩, ih (fun b hb => hs b (by unfold frs; rw [List.filterMap_cons, hf]; exact List.mem_cons_of_mem _ hb)) hr⟩
  exact all X.outer (fun _ hb => hb) I.ok.funs
theorem Inv.stack (I : Inv X pins σ H s) : s.heap.FunFrames X.base X.stack := by
  rcases I.ok.stk with e | ⟨e, hf⟩
  · rw [e]; exact I.funs
  · rw [e]
    obtain ⟨m, hn, _⟩ := I.loc
    refine .cons (by rw [I.ok.kind]; decide) hf hn ?_ I.funs
    exact Heap.get?_none_of_le (Nat.le_trans I.ok.bsz I.ok.above)
theorem Inv.stkSub (I : Inv X pins σ H s) : ∀ b ∈ frs X.stack, b ∈ X.env.locals :: X.fs := fun b hb => by
  rcases I.ok.stk with e | ⟨e, hf⟩
  · rw [e] at hb; exact List.mem_cons_of_mem _ hb
  · rw [e] at hb
    unfold frs at hb
    rw [List.filterMap_cons, hf] at hb
    exact hb
theorem Inv.stkFree (I : Inv X pins σ H s) : ∀ b ∈ frs X.stack, H b = none := fun b hb => by
  rcases List.mem_cons.mp (I.stkSub b hb) with e | hb
  · rw [e]; exact I.free
  · obtain ⟨_, o, ho, _⟩ := I.ok.funs.mem hb
    exact I.base.free b o ho (I.ok.frf b hb) fun z => I.ok.exfs b z hb
theorem Inv.step {g' : Array GenState} {t' : Nat} {d' : Drawn} {ch : List Addr} (I : Inv X pins σ H s)
    (hch : ∀ b ∈ ch, (b ∈ X.ex ∨ X.s₀.heap.objs.size ≤ b) ∧ b ≠ X.env.locals ∧ (∀ x c, X.env.cells.lookup x = some c → c ≠ b) ∧ ∀ p ∈ X.pn ++ pins, p.1 ≠ b)
    (keep : ∀ b o, b ≠ X.env.locals → b ∉ X.fs → b ∉ ch → s.heap.get? b = some o → H b = none → h'.get? b = some o)
    (slot : ∀ b o, b ≠ X.env.locals → b ∈ X.fs → b ∉ ch → s.heap.get? b = some o → H b = none → ∃ sl, h'.get? b = some { o with slots := sl }) (free : ∀ b o, b ∉ ch → s.heap.get? b = some o → H b = none → H' b = none)
    (there : ∀ b o, b ∉ ch → s.heap.get? b = some o → ∃ o', h'.get? b = some o')
    (tups : ∀ b xs, H b = some (.tup xs) → H' b = some (.tup xs)) (frzs : ∀ b o u, H b = some (.frz o u) → H' b = some (.frz o u)) (tbls : ∀ b ps, H b = some (.tbl ps) → ∃ more, H' b = some (.tbl (ps ++ more)))
    (ns : ∀ m, s.heap.Ns X.env.locals m → h'.Ns X.env.locals m) (hok : HOk X.prog X.w H' h') (hg : AllBare g') :
    Inv X pins σ H' { s with heap := h', gens := g', drawn := d', toks := t' } := by
  have neL : ∀ b o, X.s₀.heap.get? b = some o → b ≠ X.env.locals := fun b o e => Nat.ne_of_lt (Nat.lt_of_lt_of_le (Heap.lt_size e) I.ok.above)
  have neC : ∀ b o, X.s₀.heap.get? b = some o → b ∉ X.ex → b ∉ ch := fun b o e hx hb => by
    rcases (hch b hb).1 with z | z
    · exact hx z
    · exact absurd (Nat.lt_of_lt_of_le (Heap.lt_size e) z) (Nat.lt_irrefl _)
  have cellK : ∀ x c, X.env.cells.lookup x = some c → ∀ v, s.heap.IsCell c v → h'.IsCell c v := fun x c e v ⟨o, ho, hd⟩ => by
    have nch : c ∉ ch := fun z => (hch c z).2.2.1 x c e rfl
    by_cases hc : c ∈ X.fs
    · obtain ⟨sl, q⟩ := slot c o (I.cne x c e) hc nch ho (I.freeC x c e)
      exact ⟨_, q, hd⟩
    · exact ⟨o, keep c o (I.cne x c e) hc nch ho (I.freeC x c e), hd⟩
  refine ⟨I.ok, I.os, hg, ⟨fun b o e n hb hx => ?_, fun b o e n hb hx => ?_, fun b o e n hx => ?_, fun b o e hx => ?_, fun b xs e => tups b xs (I.base.tups b xs e), fun b o xs e => frzs b o xs (I.base.frzs b o xs e), fun b ps e => ?_⟩, ?_, fun x c e => ?_, ?_, fun x c e => ?_, fun p hp => ?_, hok, I.len⟩
  · exact keep b o (neL b o e) hb (neC b o e hx) (I.base.keep b o e n hb hx) (I.base.free b o e n hx)
  · obtain ⟨sl, e1⟩ := I.base.slot b o e n hb hx
    obtain ⟨sl', e2⟩ := slot b _ (neL b o e) hb (neC b o e hx) e1 (I.base.free b o e n hx)
    exact ⟨sl', e2⟩
  · obtain ⟨o', e1⟩ := I.base.there b o e hx
    exact free b o' (neC b o e hx) e1 (I.base.free b o e n hx)
  · obtain ⟨o', e1⟩ := I.base.there b o e hx
    exact there b o' (neC b o e hx) e1
  · obtain ⟨m1, e1⟩ := I.base.tbls b ps e
    obtain ⟨m2, e2⟩ := tbls b _ e1
    exact ⟨m1 ++ m2, by rw [e2, Array.append_assoc]⟩
  · obtain ⟨m, hn, hl⟩ := I.loc
    refine ⟨m, ns m hn, fun i x v e1 e2 e3 => ?_⟩
    obtain ⟨u, r, l⟩ := hl i x v e1 e2 e3
    refine ⟨u, r, ?_⟩
    rcases l with l | ⟨k, c, e, z⟩
    · exact .inl l
    · exact .inr ⟨k, c, e, cellK x c e _ z⟩
  · obtain ⟨v, z⟩ := I.cell x c e
    exact ⟨v, cellK x c e v z⟩
  · obtain ⟨m, ⟨o, _, _, ho, _⟩, _⟩ := I.loc
    exact free _ o (fun z => (hch _ z).2.1 rfl) ho I.free
  · obtain ⟨v, o, ho, hd⟩ := I.cell x c e
    exact free c o (fun z => (hch c z).2.2.1 x c e rfl) ho (I.freeC x c e)
  · obtain ⟨e, n, ne, nf, d⟩ := I.pin p hp
    have nch : p.1 ∉ ch := fun z => (hch p.1 z).2.2.2 p hp rfl
    exact ⟨keep p.1 p.2 ne nf nch e n, free p.1 p.2 nch e n, ne, nf, d⟩
theorem Inv.un {t' : Nat} (I : Inv X pins σ H s) (u : Un X.fs [] H H' s.heap h') (hok : HOk X.prog X.w H' h') : Inv X pins σ H' { s with heap := h', toks := t' } := by
  obtain ⟨m, ⟨o, es, ep, ho, r⟩, _⟩ := id I.loc
  obtain ⟨sl, hL⟩ := u.any ho I.free (by simp)
  exact I.step (g' := s.gens) (d' := s.drawn) (ch := []) (fun _ z => nomatch z) (fun b o _ hb _ e n => u.keep b o e n hb (by simp)) (fun b o _ hb _ e n => u.slot b o e n hb (by simp)) (fun b o _ e n => u.free b o e n (by simp)) (fun b o _ e => u.there b o e (by simp)) u.tups u.frzs u.tbls (fun m' hm => by
    obtain ⟨o', es', ep', ho', r'⟩ := hm
    rw [ho] at ho'; cases ho'
    exact ⟨_, es', ep', hL, r'⟩) hok I.bare
theorem Inv.call {g' : Array GenState} {t' : Nat} {d' : Drawn} {ch : List Addr} (I : Inv X pins σ H s) (u : Un (frs X.stack) ch H H' s.heap h') (hok : HOk X.prog X.w H' h') (hg : AllBare g')
    (hch : ∀ b ∈ ch, (b ∈ X.ex ∨ X.s₀.heap.objs.size ≤ b) ∧ b ≠ X.env.locals ∧ (∀ x c, X.env.cells.lookup x = some c → c ≠ b) ∧ ∀ p ∈ X.pn ++ pins, p.1 ≠ b) :
    Inv X pins σ H' { s with heap := h', gens := g', drawn := d', toks := t' } := by
  obtain ⟨m, ⟨o, es, ep, ho, r⟩, _⟩ := id I.loc
  obtain ⟨sl, hL⟩ := u.any ho I.free fun z => (hch _ z).2.1 rfl
  exact I.step (ch := ch) hch (fun b o hL hb hc e n => u.keep b o e n (fun z => (List.mem_cons.mp (I.stkSub b z)).elim hL hb) hc) (fun b o _ _ hc e n => u.any e n hc) (fun b o hc e n => u.free b o e n hc) (fun b o hc e => u.there b o e hc) u.tups u.frzs u.tbls (fun m' hm => by
    obtain ⟨o', es', ep', ho', r'⟩ := hm
    rw [ho] at ho'; cases ho'
    exact ⟨_, es', ep', hL, r'⟩) hok hg
theorem Inv.turned {t' : Nat} {it : Addr} (I : Inv X pins σ H s) (k : ∀ b o, b ≠ it → s.heap.get? b = some o → h'.get? b = some o) (hn : H it = none) (hL : it ≠ X.env.locals)
    (h1 : it ∈ X.ex ∨ X.s₀.heap.objs.size ≤ it) (h2 : ∀ x c, X.env.cells.lookup x = some c → c ≠ it) (h3 : ∀ p ∈ X.pn ++ pins, p.1 ≠ it) : Inv X pins σ H { s with heap := h', toks := t' } := by
  have nit : ∀ b u, H b = some u → b ≠ it := fun b u e z => by rw [z, hn] at e; cases e
  refine I.step (g' := s.gens) (d' := s.drawn) (ch := [it]) (fun b hb => ?_) (fun b o _ _ hc e _ => k b o (fun z => hc (by simp [z])) e) (fun b o _ _ hc e _ => ⟨o.slots, k b o (fun z => hc (by simp [z])) e⟩) (fun _ _ _ _ n => n)
    (fun b o hc e => ⟨o, k b o (fun z => hc (by simp [z])) e⟩) (fun _ _ e => e) (fun _ _ _ e => e) (fun b ps e => ⟨#[], by rw [e]; simp⟩) (fun m hm => ?_) (fun b u e => ?_) I.bare
  · have e : b = it := by simpa using hb
    subst e
    exact ⟨h1, hL, h2, h3⟩
  · obtain ⟨o, es, ep, ho, r⟩ := hm
    exact ⟨o, es, ep, k _ o (Ne.symm hL) ho, r⟩
  · refine (I.hok b u e).stay (fun c v hc q => k c v ?_ q) (fun _ q => q) fun _ _ q => q
    rcases hc with z | z
    · rw [z]; exact nit b u e
    · exact nit c _ z
theorem Inv.tok (I : Inv X pins σ H s) (t : Nat) : Inv X pins σ H { s with toks := t } := I.un (h' := s.heap) (t' := t) Un.refl I.hok
theorem Inv.kept {t' : Nat} (I : Inv X pins σ H s) (k : ∀ b u, s.heap.get? b = some u → h'.get? b = some u) : Inv X pins σ H { s with heap := h', toks := t' } := I.un (Un.kept k) (I.hok.kept k)
theorem Inv.laid {a : Addr} {o : HO} {t' : Nat} (I : Inv X pins σ H s) (k : ∀ b u, s.heap.get? b = some u → h'.get? b = some u) (hp : s.heap.objs.size ≤ a) (new : ObjOk X.prog X.w (upd H a o) h' a o) :
    Inv X pins σ (upd H a o) { s with heap := h', toks := t' } := I.un (Un.laid k hp (I.hok.fresh hp)) (I.hok.laid k hp new)
theorem Inv.write {x e : Addr} {o : HO} {t' : Nat} (I : Inv X pins σ H s) (mu : Mut (H x)) (he : e = x ∨ H e = some (.own x)) (k : ∀ b u, b ≠ e → s.heap.get? b = some u → h'.get? b = some u) (heo : ∃ u, h'.get? e = some u)
    (new : ObjOk X.prog X.w (upd H x o) h' x o) : Inv X pins σ (upd H x o) { s with heap := h', toks := t' } := I.un (Un.write mu he k heo) (I.hok.write mu he k heo new)
theorem Inv.weak {σ' : List (Option V)} (I : Inv X pins σ H s) (hl : σ'.length = σ.length) (w : ∀ (i : Nat) v, σ'[i]? = some (some v) → σ[i]? = some (some v)) : Inv X pins σ' H s :=
  ⟨I.ok, I.os, I.bare, I.base, let ⟨m, hn, hl'⟩ := I.loc; ⟨m, hn, fun i x v e1 e2 e3 => hl' i x v e1 (w i v e2) e3⟩, I.cell, I.free, I.freeC, I.pin, I.hok, hl.trans I.len⟩
theorem Inv.pins_of {pins' : List (Addr × Obj)} (I : Inv X pins σ H s) (h : ∀ p ∈ pins', s.heap.get? p.1 = some p.2 ∧ H p.1 = none ∧ p.1 ≠ X.env.locals ∧ p.1 ∉ X.fs ∧ ∀ v, p.2.data ≠ .cell v) : Inv X pins' σ H s :=
  ⟨I.ok, I.os, I.bare, I.base, I.loc, I.cell, I.free, I.freeC, fun p hp => (List.mem_append.mp hp).elim (fun z => I.pin p (List.mem_append_left _ z)) (h p), I.hok, I.len⟩
theorem nodup_ix {N : List Str} (hN : N.Nodup) {i j : Nat} {x : Str} (a : N[i]? = some x) (b : N[j]? = some x) : i = j := by
  obtain ⟨h1, e1⟩ := List.getElem?_eq_some_iff.mp a
  obtain ⟨h2, e2⟩ := List.getElem?_eq_some_iff.mp b
  exact (List.getElem_inj hN).mp (e1.trans e2.symm)
theorem store_ok2 {M : Model} {A : Around} {E : Value → Shared → Prop} {i : Nat} {x : Str} {v : V} {u : Value} {Q : Unit → Shared → Prop} (I : Inv X pins σ H s) (hN : X.N.Nodup) (hi : X.N[i]? = some x) (hx : Loc X.env.scope x) (r : RelV v u)
    (h : ∀ s', Inv X pins (σ.set i (some v)) H s' → (∃ a, Heap.SameBut a s.heap s'.heap ∧ (a = X.env.locals ∨ X.env.cells.lookup x = some a)) → Q () s') (hf : X.fn x = true ∨ X.env.scope.names.lookup x = some .local := by first | exact .inl rfl | exact .inr rfl | assumption) : wpAny M A (storeName X.env x u) Q E s := by
  obtain ⟨m, hn, hl⟩ := id I.loc
  have hcls : (X.env.scope.kind == .class || (X.env.scope.kind == .module && X.env.locals != X.env.globals)) = false := by rw [I.ok.kind]; rfl
  have hiσ : i < σ.length := by rw [I.len]; exact (List.getElem?_eq_some_iff.mp hi).1
  have cne := I.cne
  have tracked : ∀ {a : Addr} {h' : Heap}, (∃ o, s.heap.get? a = some o ∧ H a = none) → Heap.SameBut a s.heap h' → HOk X.prog X.w H h' := fun {a h'} ha hs b ob e => by
    obtain ⟨_, _, hfree⟩ := ha
    refine (I.hok b ob e).stay (fun c w' hc q => (hs.2 c ?_).trans q) (fun _ q => q) fun _ _ q => q
    rintro rfl
    rcases hc with rfl | hc
    · rw [hfree] at e; cases e
    · rw [hfree] at hc; cases hc
  rcases hx with hk | hk
  · refine wpAny_storeName_local hk hn (fun h' hn' hs => ?_) hcls
    obtain ⟨oL, _, _, hoL, _⟩ := id hn
    refine h _ ⟨I.ok, I.os, I.bare, ⟨fun b o e n hb hx => ?_, fun b o e n hb hx => ?_, I.base.free, fun b o e hx => ?_, I.base.tups, I.base.frzs, I.base.tbls⟩, ⟨_, hn', fun j y v' e1 e2 e3 => ?_⟩, fun y c e => ?_, I.free, I.freeC, fun p hp => ?_, tracked ⟨oL, hoL, I.free⟩ hs, by simpa using I.len⟩ ⟨_, hs, .inl rfl⟩
    · exact (hs.2 b (Nat.ne_of_lt (Nat.lt_of_lt_of_le (Heap.lt_size e) I.ok.above))).trans (I.base.keep b o e n hb hx)
    · obtain ⟨sl, e1⟩ := I.base.slot b o e n hb hx
      exact ⟨sl, (hs.2 b (Nat.ne_of_lt (Nat.lt_of_lt_of_le (Heap.lt_size e) I.ok.above))).trans e1⟩
    · obtain ⟨o', e1⟩ := I.base.there b o e hx
      exact ⟨o', (hs.2 b (Nat.ne_of_lt (Nat.lt_of_lt_of_le (Heap.lt_size e) I.ok.above))).trans e1⟩
    · by_cases hj : j = i
      · subst hj
        rw [hi] at e1; cases e1
        rw [List.getElem?_set_self hiσ] at e2
        cases e2
        exact ⟨u, r, .inl ⟨hk, by simp⟩⟩
      · rw [List.getElem?_set_ne (Ne.symm hj)] at e2
        obtain ⟨u', r', q⟩ := hl j y v' e1 e2 e3
        refine ⟨u', r', ?_⟩
        rcases q with ⟨k, e⟩ | ⟨k, c, e, z⟩
        · refine .inl ⟨k, ?_⟩
          have : y ≠ x := fun e => hj (nodup_ix hN e1 (e ▸ hi))
          simp [this, e]
        · exact .inr ⟨k, c, e, z.sameBut hs (cne y c e)⟩
    · obtain ⟨w', z⟩ := I.cell y c e
      exact ⟨w', z.sameBut hs (cne y c e)⟩
    · obtain ⟨e, n, ne, nf, d⟩ := I.pin p hp
      exact ⟨(hs.2 p.1 ne).trans e, n, ne, nf, d⟩
  · have hfn : X.fn x = true := by
      rcases hf with z | z
      · exact z
      · rw [z] at hk; cases hk
    obtain ⟨c, hc⟩ := I.ok.has x (.inl hk)
    obtain ⟨w', z⟩ := I.cell x c hc
    refine wpAny_storeName_cell I.ok.kind hk hc z (fun h' hc' hs => ?_)
    obtain ⟨oc, hoc, hocd⟩ := id z
    refine h { s with heap := h' } ⟨I.ok, I.os, I.bare, ⟨fun b o e n hb hx => ?_, fun b o e n hb hx => ?_, I.base.free, fun b o e hx => ?_, I.base.tups, I.base.frzs, I.base.tbls⟩, ⟨m, hn.sameBut hs (Ne.symm (cne x c hc)), fun j y v' e1 e2 e3 => ?_⟩, fun y c' e => ?_, I.free, I.freeC, fun p hp => ?_, tracked ⟨oc, hoc, I.freeC x c hc⟩ hs, by simpa using I.len⟩ ⟨c, hs, .inr hc⟩
    · exact (hs.2 b (Nat.ne_of_lt (Nat.lt_of_lt_of_le (Heap.lt_size e) (I.ok.cab x c hfn hc)))).trans (I.base.keep b o e n hb hx)
    · obtain ⟨sl, e1⟩ := I.base.slot b o e n hb hx
      exact ⟨sl, (hs.2 b (Nat.ne_of_lt (Nat.lt_of_lt_of_le (Heap.lt_size e) (I.ok.cab x c hfn hc)))).trans e1⟩
    · obtain ⟨o', e1⟩ := I.base.there b o e hx
      exact ⟨o', (hs.2 b (Nat.ne_of_lt (Nat.lt_of_lt_of_le (Heap.lt_size e) (I.ok.cab x c hfn hc)))).trans e1⟩
    · by_cases hj : j = i
      · subst hj
        rw [hi] at e1; cases e1
        rw [List.getElem?_set_self hiσ] at e2
        cases e2
        exact ⟨u, r, .inr ⟨.inl hk, c, hc, hc'⟩⟩
      · rw [List.getElem?_set_ne (Ne.symm hj)] at e2
        obtain ⟨u', r', q⟩ := hl j y v' e1 e2 e3
        refine ⟨u', r', ?_⟩
        rcases q with q | ⟨k, c', e, z'⟩
        · exact .inl q
        · refine .inr ⟨k, c', e, z'.sameBut hs ?_⟩
          rintro rfl
          exact hj (nodup_ix hN e1 (I.ok.inj _ _ _ e hc ▸ hi))
    · by_cases hcc : c' = c
      · subst hcc; exact ⟨_, hc'⟩
      · obtain ⟨w2, z2⟩ := I.cell y c' e
        exact ⟨w2, z2.sameBut hs hcc⟩
    · obtain ⟨e, n, ne, nf, d⟩ := I.pin p hp
      refine ⟨(hs.2 p.1 ?_).trans e, n, ne, nf, d⟩
      intro q
      rw [q, hoc] at e
      have q' : oc = p.2 := Option.some.inj e
      exact d w' (by rw [← q']; exact hocd)
theorem store_ok {M : Model} {A : Around} {E : Value → Shared → Prop} {i : Nat} {x : Str} {v : V} {u : Value} {Q : Unit → Shared → Prop} (I : Inv X pins σ H s) (hN : X.N.Nodup) (hi : X.N[i]? = some x) (hx : Loc X.env.scope x) (r : RelV v u)
    (h : ∀ s', Inv X pins (σ.set i (some v)) H s' → Q () s') (hf : X.fn x = true ∨ X.env.scope.names.lookup x = some .local := by first | exact .inl rfl | exact .inr rfl | assumption) : wpAny M A (storeName X.env x u) Q E s :=
  store_ok2 I hN hi hx r (fun s' I' _ => h s' I') hf
theorem Inv.call' {s' : Shared} {ch : List Addr} (I : Inv X pins σ H s) (ho : s'.os = s.os) (u : Un (frs X.stack) ch H H' s.heap s'.heap) (hok : HOk X.prog X.w H' s'.heap) (hg : AllBare s'.gens)
    (hch : ∀ b ∈ ch, (b ∈ X.ex ∨ X.s₀.heap.objs.size ≤ b) ∧ b ≠ X.env.locals ∧ (∀ x c, X.env.cells.lookup x = some c → c ≠ b) ∧ ∀ p ∈ X.pn ++ pins, p.1 ≠ b) : Inv X pins σ H' s' := by
  obtain ⟨h', g', d', t', o'⟩ := s'
  have e : o' = s.os := ho
  subst e
  exact I.call (g' := g') (t' := t') (d' := d') u hok hg hch
end
abbrev XK := Value → Option Addr → Hp → Prop
abbrev St := List (Option V)
abbrev VK := V → Hp → Prop
abbrev TE := St → Hp → VK → Prop
abbrev TT := St → Hp → (Bool → Hp → Prop) → Prop
abbrev TA := St → Hp → (List V → Hp → Prop) → Prop
structure Ends where
  nx : St → Hp → Prop
  rt : VK
  bk : St → Hp → Prop := fun _ _ => False
  ct : St → Hp → Prop := fun _ _ => False
abbrev TS := Ends → St → Hp → Prop
def EP (X : Cx) (pins : List (Addr × Obj)) (σ : St) (Q : VK) (u : Value) (s' : Shared) : Prop := ∃ v H', Inv X pins σ H' s' ∧ RelV v u ∧ Q v H'
def TP (X : Cx) (pins : List (Addr × Obj)) (σ : St) (Q : Bool → Hp → Prop) (b : Bool) (s' : Shared) : Prop := ∃ H', Inv X pins σ H' s' ∧ Q b H'
def AP (X : Cx) (pins : List (Addr × Obj)) (σ : St) (Q : List V → Hp → Prop) (us : List Value) (s' : Shared) : Prop := ∃ vs H', Inv X pins σ H' s' ∧ Vals vs us ∧ Q vs H'
def SP (X : Cx) (pins : List (Addr × Obj)) (D : Ends) (f : Flow) (s' : Shared) : Prop :=
  match f with
  | .next => ∃ σ' H', Inv X pins σ' H' s' ∧ D.nx σ' H'
  | .brk => ∃ σ' H', Inv X pins σ' H' s' ∧ D.bk σ' H'
  | .cont => ∃ σ' H', Inv X pins σ' H' s' ∧ D.ct σ' H'
  | .ret u => ∃ v σ' H', Inv X pins σ' H' s' ∧ RelV v u ∧ D.rt v H'
def PE (X : Cx) (e : Expr) (t : TE) : Prop :=
  ∀ (pins : List (Addr × Obj)) (s : Shared) (σ : St) (H : Hp) (Q : VK), Inv X pins σ H s → t σ H Q → wpAny (model X.prog X.w) X.A (eval e X.env) (EP X pins σ Q) X.xe s
def PT (X : Cx) (e : Expr) (t : TT) : Prop :=
  ∀ (pins : List (Addr × Obj)) (s : Shared) (σ : St) (H : Hp) (Q : Bool → Hp → Prop), Inv X pins σ H s → t σ H Q → wpAny (model X.prog X.w) X.A (isTrue e X.env (eval e X.env)) (TP X pins σ Q) X.xe s
def PW (X : Cx) (e : Expr) (t : TT) : Prop :=
  ∀ (whole : Sem Value) (pins : List (Addr × Obj)) (s : Shared) (σ : St) (H : Hp) (Q : Bool → Hp → Prop), Inv X pins σ H s → t σ H Q → wpAny (model X.prog X.w) X.A (isTrue e X.env whole) (TP X pins σ Q) X.xe s
theorem PW.pt {X : Cx} {e : Expr} {t : TT} (h : PW X e t) : PT X e t := h _
def PA (X : Cx) (es : List Expr) (t : TA) : Prop :=
  ∀ (pos : Pos) (pins : List (Addr × Obj)) (s : Shared) (σ : St) (H : Hp) (Q : List V → Hp → Prop), Inv X pins σ H s → t σ H Q → wpAny (model X.prog X.w) X.A (spliced (backTo pos (starEach es X.env))) (AP X pins σ Q) X.xe s
def PS (X : Cx) (st : Stmt) (t : TS) : Prop :=
  ∀ (pins : List (Addr × Obj)) (s : Shared) (σ : St) (H : Hp) (D : Ends), Inv X pins σ H s → t D σ H → wpAny (model X.prog X.w) X.A (exec st X.env) (SP X pins D) X.xe s
def PSs (X : Cx) (st : List Stmt) (t : TS) : Prop :=
  ∀ (pins : List (Addr × Obj)) (s : Shared) (σ : St) (H : Hp) (D : Ends), Inv X pins σ H s → t D σ H → wpAny (model X.prog X.w) X.A (execs st X.env) (SP X pins D) X.xe s
theorem thn {α : Type} {t : Sem α} {Q Q' : α → Shared → Prop} {M : Model} {A : Around} {E : Value → Shared → Prop} {s : Shared} (h : wpAny M A t Q E s) (hQ : ∀ a s, Q a s → Q' a s) : wpAny M A t Q' E s := wpAny_mono h hQ fun _ _ x => x
end L2
namespace L2
open PySem PySem.Spec PyProof.Rows
section
variable {X : Cx}
def tVar (i : Nat) : TE := fun σ H Q => ∃ v, σ[i]? = some (some v) ∧ Q v H
def tC (v : V) : TE := fun _ H Q => Q v H
theorem pe_var {i : Nat} {x : Str} {pos : Pos} (hN : X.N[i]? = some x) (hv : Vis X.env.scope x) (hd : (x == ("__debug__" : Str)) = false := by decide) (hcd : (x == ("__classdict__" : Str)) = false := by decide) : PE X (.Name x pos) (tVar i) := by
  intro pins s σ H Q I h
  obtain ⟨v, e, h⟩ := h
  obtain ⟨m, hn, hl⟩ := I.loc
  obtain ⟨u, r, l⟩ := hl i x v hN e hv
  have fin : EP X pins σ Q u s := ⟨v, H, I, r, h⟩
  rcases l with ⟨hk, hm⟩ | ⟨hk, c, hc, hcell⟩
  · exact wpAny_Name (wpAny_loadName_local I.ok.kind hk hn hm fin) hd
  · rcases hk with hk | hk
    · exact wpAny_Name (wpAny_loadName_cell I.ok.kind hk hc hcell fin) hd
    · exact wpAny_Name (wpAny_loadName_free I.ok.kind hk hc hcell fin hcd) hd
theorem pe_int {i j pos} : PE X (.Constant (.int i) j pos) (tC (.int i)) := fun _ _ _ H _ I h => wpAny_Constant_int ⟨.int i, H, I.tok _, ⟨_, rfl⟩, h⟩
theorem pe_bl {b j pos} : PE X (.Constant (.bool b) j pos) (tC (.bl b)) := fun _ _ _ H _ I h => Constant_bool ⟨.bl b, H, I, rfl, h⟩
theorem pe_non {j pos} : PE X (.Constant .none j pos) (tC .non) := fun _ _ _ H _ I h => Constant_none ⟨.non, H, I, rfl, h⟩
theorem pe_str {x j pos} : PE X (.Constant (.str x) j pos) (tC (.str x)) := fun _ _ _ H _ I h => Calls.Constant_str ⟨.str x, H, I.tok _, ⟨_, rfl⟩, h⟩
def Gl (X : Cx) (x : Str) : Prop := X.env.kindOf x = some .globalImplicit
theorem ld_glob {E : Value → Shared → Prop} {pins : List (Addr × Obj)} {s : Shared} {σ : St} {H : Hp} {x : Str} {u : Value} {pos : Pos} {Q : Value → Shared → Prop} (I : Inv X pins σ H s) (hg : Gl X x) (hm : X.mg x = some u) (h : Q u s)
    (hd : (x == ("__debug__" : Str)) = false := by decide) : wpAny (model X.prog X.w) X.A (eval (.Name x pos) X.env) Q E s :=
  Calls.Name_function_global I.ok.kind hg (Calls.loadGlobal_global (by rw [I.ok.glob]; exact I.mod.glob.keeps I.bk) hm h) hd
theorem ld_blt {E : Value → Shared → Prop} {pins : List (Addr × Obj)} {s : Shared} {σ : St} {H : Hp} {x : Str} {u : Value} {pos : Pos} {Q : Value → Shared → Prop} (I : Inv X pins σ H s) (hg : Gl X x) (hm : X.mg x = none) (hv : bootBuiltins x = some u) (h : Q u s)
    (hn : x ≠ "__name__" := by decide) (hd : (x == ("__debug__" : Str)) = false := by decide) : wpAny (model X.prog X.w) X.A (eval (.Name x pos) X.env) Q E s := by
  obtain ⟨mb, h1, h2⟩ := I.mod.blt
  exact Calls.Name_function_global I.ok.kind hg (Calls.loadGlobal_builtin (by rw [I.ok.glob]; exact I.mod.glob.keeps I.bk) hm (by rw [I.ok.blt]; exact h1.keeps I.bk) ((h2 x hn).trans hv) h) hd
theorem pe_glob {x : Str} {v : V} {u : Value} {pos : Pos} (hg : Gl X x) (hm : X.mg x = some u) (r : RelV v u) (hd : (x == ("__debug__" : Str)) = false := by decide) : PE X (.Name x pos) (tC v) :=
  fun _ _ _ H _ I h => ld_glob I hg hm ⟨v, H, I, r, h⟩ hd
theorem pe_bltn {x : Str} {v : V} {u : Value} {pos : Pos} (hg : Gl X x) (hm : X.mg x = none) (hv : bootBuiltins x = some u) (r : RelV v u) (hn : x ≠ "__name__" := by decide) (hd : (x == ("__debug__" : Str)) = false := by decide) : PE X (.Name x pos) (tC v) :=
  fun _ _ _ H _ I h => ld_blt I hg hm hv ⟨v, H, I, r, h⟩ hn hd
variable {a b : Expr} {ta tb : TE} {pos : Pos}
def tB (t : TE) : TT := fun σ H Q => t σ H fun x H1 => ∃ c, x = .bl c ∧ Q c H1
theorem pt_val {e : Expr} {t : TE} (h : PE X e t) (he : ∀ whole, isTrue e X.env whole = (do let v ← whole; standAt e.pos; holding [v] (truthy v)) := by intro _; rfl) : PT X e (tB t) := by
  intro pins s σ H Q I hw
  refine isTrue_plain (thn (h pins s σ H _ I hw) fun v s1 ⟨x, H1, I1, r1, q1⟩ => ?_) (he _)
  obtain ⟨d, rfl, q⟩ := q1
  cases r1
  exact wpAny_truthy_bool ⟨H1, I1, q⟩
variable {tA tB' : TT} {rest : List Expr}
def tAnd (t u : TT) : TT := fun σ H Q => t σ H fun c H1 => if c = true then u σ H1 Q else Q false H1
def tOr (t u : TT) : TT := fun σ H Q => t σ H fun c H1 => if c = true then Q true H1 else u σ H1 Q
def tNot (t : TT) : TT := fun σ H Q => t σ H fun c H1 => Q (!c) H1
theorem pw_and1 (ha : PT X a tA) : PW X (.BoolOp .And [a] pos) tA := by
  intro wh pins s σ H Q I h
  refine isTrue_and (thn (ha pins s σ H Q I h) fun c s1 e => ?_)
  cases c with
  | true => exact isTrue_and_nil e
  | false => exact e
theorem pw_or1 (ha : PT X a tA) : PW X (.BoolOp .Or [a] pos) tA := by
  intro wh pins s σ H Q I h
  refine isTrue_or (thn (ha pins s σ H Q I h) fun c s1 e => ?_)
  cases c with
  | false => exact isTrue_or_nil e
  | true => exact e
theorem pw_and (ha : PT X a tA) (hb : PW X (.BoolOp .And (b :: rest) pos) tB') : PW X (.BoolOp .And (a :: b :: rest) pos) (tAnd tA tB') := by
  intro wh pins s σ H Q I h
  refine isTrue_and (thn (ha pins s σ H _ I h) fun c s1 ⟨H1, I1, q1⟩ => ?_)
  cases c with
  | true => exact hb wh pins s1 σ H1 Q I1 q1
  | false => exact ⟨H1, I1, q1⟩
theorem pw_or (ha : PT X a tA) (hb : PW X (.BoolOp .Or (b :: rest) pos) tB') : PW X (.BoolOp .Or (a :: b :: rest) pos) (tOr tA tB') := by
  intro wh pins s σ H Q I h
  refine isTrue_or (thn (ha pins s σ H _ I h) fun c s1 ⟨H1, I1, q1⟩ => ?_)
  cases c with
  | true => exact ⟨H1, I1, q1⟩
  | false => exact hb wh pins s1 σ H1 Q I1 q1
theorem pt_not (ha : PT X a tA) : PT X (.UnaryOp .Not a pos) (tNot tA) := by
  intro pins s σ H Q I h
  exact isTrue_not (ha pins s σ H (fun c H1 => Q (!c) H1) I h)
def tOrV (ta tb : TE) : TE := fun σ H Q => ta σ H fun x H1 => ∃ c, x = .bl c ∧ if c = true then Q (.bl true) H1 else tb σ H1 Q
theorem pe_one {op} {t : TE} (h : PE X a t) : PE X (.BoolOp op [a] pos) t := fun pins s σ H Q I hw => BoolOp_one (h pins s σ H Q I hw)
theorem pe_or (ha : PE X a ta) (hb : PE X (.BoolOp .Or (b :: rest) pos) tb) : PE X (.BoolOp .Or (a :: b :: rest) pos) (tOrV ta tb) := by
  intro pins s σ H Q I h
  refine BoolOp_or (thn (ha pins s σ H _ I h) fun v s1 ⟨x, H1, I1, r1, q1⟩ => ?_)
  obtain ⟨c, rfl, q1⟩ := q1
  cases r1
  refine wpAny_truthy_bool ?_
  cases c with
  | false => exact hb pins s1 σ H1 Q I1 q1
  | true => exact ⟨.bl true, H1, I1, rfl, q1⟩
def tIf (t : TT) (ta tb : TE) : TE := fun σ H Q => t σ H fun c H1 => if c = true then ta σ H1 Q else tb σ H1 Q
theorem pe_ifExp {c : Expr} (hc : PT X c tA) (ha : PE X a ta) (hb : PE X b tb) : PE X (.IfExp c a b pos) (tIf tA ta tb) := by
  intro pins s σ H Q I h
  refine wpAny_IfExp (thn (hc pins s σ H _ I h) fun d s1 ⟨H1, I1, q1⟩ => ?_)
  cases d with
  | true => exact ha pins s1 σ H1 Q I1 q1
  | false => exact hb pins s1 σ H1 Q I1 q1
end
end L2
namespace L2
open PySem PySem.Spec PyProof.Rows
def SqL (K : PySem.W.Frag) (H : Hp) (a : Addr) (xs : List V) : Prop :=
  Rd H a (.lst xs) ∨
    ∃ (o : Obj) (its : Array Value) (n : Nat), K.lookup a = some o ∧ o.cls = .type "list" ∧ o.dict = none ∧ o.data = .seq its n ∧ its.size ≤ sizeLine ∧ Vals xs its.toList
def SqT (K : PySem.W.Frag) (H : Hp) (a : Addr) (xs : List V) : Prop :=
  Rd H a (.tup xs) ∨
    ∃ (o : Obj) (its : Array Value) (n : Nat), K.lookup a = some o ∧ o.cls = .type "tuple" ∧ o.data = .seq its n ∧ its.size ≤ sizeLine ∧ Vals xs its.toList
def absV : Value → Option V
  | .none => some .non
  | .bool b => some (.bl b)
  | .int i _ => some (.int i)
  | .str x _ => some (.str x)
  | .bytes b _ => some (.byt b)
  | .float b _ => some (.flt b)
  | .ref a => some (.ref a)
  | .type n => some (.ty n)
  | _ => none
theorem RelV.abs {x : V} {u : Value} (r : RelV x u) : absV u = some x := by
  cases x with
  | non => cases r; rfl
  | bl _ => cases r; rfl
  | int _ => obtain ⟨t, rfl⟩ := r; rfl
  | str _ => obtain ⟨t, rfl⟩ := r; rfl
  | byt _ => obtain ⟨t, rfl⟩ := r; rfl
  | flt _ => obtain ⟨t, rfl⟩ := r; rfl
  | ref _ => cases r; rfl
  | ty _ => cases r; rfl
theorem RelV.inj {x y : V} {u : Value} (r : RelV x u) (q : RelV y u) : x = y := Option.some.inj (r.abs.symm.trans q.abs)
theorem Vals.inj : ∀ {xs ys : List V} {us : List Value}, Vals xs us → Vals ys us → xs = ys
  | _, _, _, .nil, .nil => rfl
  | _, _, _, .cons r t, .cons r' t' => by rw [r.inj r', Vals.inj t t']
section
variable {X : Cx} {pins : List (Addr × Obj)} {σ : St} {H : Hp} {s : Shared} {a : Addr} {xs ys : List V}
theorem SqL.of {K : PySem.W.Frag} (h : H a = some (.lst xs)) : SqL K H a xs := .inl (.inl h)
theorem SqT.of {K : PySem.W.Frag} (h : H a = some (.tup xs)) : SqT K H a xs := .inl (.inl h)
theorem Inv.list (I : Inv X pins σ H s) (h : SqL X.K H a xs) : ∃ its : List Value, Vals xs its ∧ PlainL s.heap a its.toArray ∧ xs.length ≤ sizeLine := by
  rcases h with h | ⟨o, its, n, hk, hc, hd, hs, hz, r⟩
  · obtain ⟨z, its, n, r, e⟩ := h.ok I.hok
    exact ⟨its, r, ⟨_, n, e, rfl, rfl, rfl⟩, z⟩
  · refine ⟨its.toList, r, ⟨o, n, I.kIn a o hk, hc, hd, by simpa using hs⟩, ?_⟩
    have e := r.length
    simp only [Array.length_toList] at e
    omega
theorem Inv.tuple (I : Inv X pins σ H s) (h : SqT X.K H a xs) : ∃ its : List Value, Vals xs its ∧ IsTup s.heap a its.toArray ∧ xs.length ≤ sizeLine := by
  rcases h with h | ⟨o, its, n, hk, hc, hs, hz, r⟩
  · obtain ⟨z, its, r, p⟩ := h.ok I.hok
    exact ⟨its, r, p, z⟩
  · refine ⟨its.toList, r, ⟨o, I.kIn a o hk, hc, n, by simpa using hs⟩, ?_⟩
    have e := r.length
    simp only [Array.length_toList] at e
    omega
theorem Inv.list_inj (I : Inv X pins σ H s) (h : SqL X.K H a xs) (h' : SqL X.K H a ys) : xs = ys := by
  obtain ⟨its, r, ⟨o, n, e, _, _, d⟩, _⟩ := I.list h
  obtain ⟨its', r', ⟨o', n', e', _, _, d'⟩, _⟩ := I.list h'
  rw [e] at e'; cases e'
  rw [d] at d'
  injection d' with d1 _
  have : its = its' := by simpa using congrArg Array.toList d1
  subst this
  exact r.inj r'
theorem Inv.tuple_inj (I : Inv X pins σ H s) (h : SqT X.K H a xs) (h' : SqT X.K H a ys) : xs = ys := by
  obtain ⟨its, r, ⟨o, e, _, n, d⟩, _⟩ := I.tuple h
  obtain ⟨its', r', ⟨o', e', _, n', d'⟩, _⟩ := I.tuple h'
  rw [e] at e'; cases e'
  rw [d] at d'
  injection d' with d1 _
  have : its = its' := by simpa using congrArg Array.toList d1
  subst this
  exact r.inj r'
end
abbrev Cx.wish (X : Cx) (E : Value → Shared → Prop) : Cx := { X with xe := E }
abbrev Cx.nox (X : Cx) : Cx := X.wish fun _ _ => False
theorem Cx.Ok.wish {X : Cx} (ok : X.Ok) (E : Value → Shared → Prop) : (X.wish E).Ok :=
  ⟨ok.mod, ok.kind, ok.glob, ok.blt, ok.above, ok.inj, ok.has, ok.cab, ok.hd, ok.frames, ok.stk, ok.exf, ok.bs, ok.bsz, ok.noex, ok.exfs, ok.funs, ok.frf⟩
theorem Cx.Ok.unwish {X : Cx} {E : Value → Shared → Prop} (ok : (X.wish E).Ok) : X.Ok :=
  ⟨ok.mod, ok.kind, ok.glob, ok.blt, ok.above, ok.inj, ok.has, ok.cab, ok.hd, ok.frames, ok.stk, ok.exf, ok.bs, ok.bsz, ok.noex, ok.exfs, ok.funs, ok.frf⟩
section
variable {X : Cx} {pins : List (Addr × Obj)} {σ : St} {H : Hp} {s : Shared} {E : Value → Shared → Prop}
theorem Inv.wish (I : Inv X pins σ H s) (E : Value → Shared → Prop) : Inv (X.wish E) pins σ H s := ⟨I.ok.wish E, I.os, I.bare, I.base, I.loc, I.cell, I.free, I.freeC, I.pin, I.hok, I.len⟩
theorem Inv.unwish (I : Inv (X.wish E) pins σ H s) : Inv X pins σ H s := ⟨I.ok.unwish, I.os, I.bare, I.base, I.loc, I.cell, I.free, I.freeC, I.pin, I.hok, I.len⟩
theorem SP.unwish {D : Ends} {f : Flow} {s' : Shared} (h : SP (X.wish E) pins D f s') : SP X pins D f s' := by
  cases f with
  | next => obtain ⟨σ', H', I, q⟩ := h; exact ⟨σ', H', I.unwish, q⟩
  | brk => obtain ⟨σ', H', I, q⟩ := h; exact ⟨σ', H', I.unwish, q⟩
  | cont => obtain ⟨σ', H', I, q⟩ := h; exact ⟨σ', H', I.unwish, q⟩
  | ret u => obtain ⟨v, σ', H', I, r, q⟩ := h; exact ⟨v, σ', H', I.unwish, r, q⟩
theorem PE.nox {e : Expr} {t : TE} (h : PE X.nox e t) : PE X e t := fun pins s σ H Q I hw =>
  wpAny_mono (h pins s σ H Q (I.wish _) hw) (fun _ _ ⟨v, H', I', r, q⟩ => ⟨v, H', I'.unwish, r, q⟩) fun _ _ z => False.elim z
theorem PT.nox {e : Expr} {t : TT} (h : PT X.nox e t) : PT X e t := fun pins s σ H Q I hw =>
  wpAny_mono (h pins s σ H Q (I.wish _) hw) (fun _ _ ⟨H', I', q⟩ => ⟨H', I'.unwish, q⟩) fun _ _ z => False.elim z
theorem PSs.nox {st : List Stmt} {t : TS} (h : PSs X.nox st t) : PSs X st t := fun pins s σ H D I hw =>
  wpAny_mono (h pins s σ H D (I.wish _) hw) (fun _ _ q => q.unwish) fun _ _ z => False.elim z
end
section
variable {X : Cx} {st : Stmt} {rest : List Stmt} {t u : TS} {e : Expr} {te : TE} {pos : Pos}
def tNext : TS := fun D σ H => D.nx σ H
def tSeq (t u : TS) : TS := fun D σ H => t { D with nx := u D } σ H
theorem pss_nil : PSs X [] tNext := fun _ _ σ H _ I h => wpAny_execs_nil ⟨σ, H, I, h⟩
theorem pss_cons (h1 : PS X st t) (h2 : PSs X rest u) : PSs X (st :: rest) (tSeq t u) := by
  intro pins s σ H D I h
  refine wpAny_execs_cons (thn (h1 pins s σ H { D with nx := u D } I h) fun f s1 q => ?_)
  cases f with
  | next =>
    obtain ⟨σ', H', I', q⟩ := q
    exact h2 pins s1 σ' H' D I' q
  | ret v => exact q
  | brk => exact q
  | cont => exact q
theorem pss_one (h1 : PS X st t) : PSs X [st] t := by
  intro pins s σ H D I h
  refine wpAny_execs_cons (thn (h1 pins s σ H D I h) fun f s1 q => ?_)
  cases f with
  | next => exact wpAny_execs_nil q
  | ret v => exact q
  | brk => exact q
  | cont => exact q
theorem Inv.quiet {pins : List (Addr × Obj)} {σ : St} {H : Hp} {s : Shared} (I : Inv X pins σ H s) : interactive X.env = false := by simp [interactive, I.ok.kind]
def tDrop (te : TE) : TS := fun D σ H => te σ H fun _ H1 => D.nx σ H1
theorem ps_expr (he : PE X e te) (hs : swapsWith e none pos.line X.env = pure false := by rfl) : PS X (.Expr e pos) (tDrop te) := by
  intro pins s σ H D I h
  exact wpAny_Expr_any (thn (he pins s σ H _ I h) fun v s1 ⟨x, H1, I1, r1, q1⟩ => ⟨σ, H1, I1, q1⟩) I.quiet hs
def tRet (te : TE) : TS := fun D σ H => te σ H D.rt
theorem ps_ret (he : PE X e te) : PS X (.Return (some e) pos) (tRet te) := by
  intro pins s σ H D I h
  exact wpAny_Return_some (thn (he pins s σ H _ I h) fun v s1 ⟨x, H1, I1, r1, q1⟩ => ⟨x, σ, H1, I1, r1, q1⟩)
def tIfS (c : TT) (t u : TS) : TS := fun D σ H => c σ H fun b H1 => if b = true then t D σ H1 else u D σ H1
theorem ps_if {c : Expr} {a b : List Stmt} {tc : TT} (hc : PT X c tc) (ha : PSs X a t) (hb : PSs X b u) : PS X (.If c a b pos) (tIfS tc t u) := by
  intro pins s σ H D I h
  refine wpAny_If (thn (hc pins s σ H _ I h) fun d s1 ⟨H1, I1, q1⟩ => ?_)
  cases d with
  | true => exact ha pins s1 σ H1 D I1 q1
  | false => exact hb pins s1 σ H1 D I1 q1
end
abbrev TG := V → St → Hp → (St → Hp → Prop) → Prop
abbrev TGs := List V → St → Hp → (St → Hp → Prop) → Prop
def PG (X : Cx) (target : Expr) (t : TG) : Prop :=
  ∀ (pins : List (Addr × Obj)) (s : Shared) (σ : St) (H : Hp) (v : V) (u : Value) (Q : St → Hp → Prop), Inv X pins σ H s → RelV v u → t v σ H Q →
    wpAny (model X.prog X.w) X.A (assign target X.env u) (fun _ s' => ∃ σ' H', Inv X pins σ' H' s' ∧ Q σ' H') X.xe s
def PGs (X : Cx) (ts : List Expr) (t : TGs) : Prop :=
  ∀ (pins : List (Addr × Obj)) (s : Shared) (σ : St) (H : Hp) (vs : List V) (us : List Value) (Q : St → Hp → Prop), Inv X pins σ H s → Vals vs us → t vs σ H Q →
    wpAny (model X.prog X.w) X.A (assignInOrder ((assignEach ts X.env).map (·.2)) us) (fun _ s' => ∃ σ' H', Inv X pins σ' H' s' ∧ Q σ' H') X.xe s
abbrev TSet := V → V → V → Hp → (Hp → Prop) → Prop
def PSet (X : Cx) (t : TSet) : Prop :=
  ∀ (pins : List (Addr × Obj)) (s : Shared) (σ : St) (H : Hp) (o i v : V) (ov iv u : Value) (Q : Hp → Prop), Inv X pins σ H s → RelV o ov → RelV i iv → RelV v u → t o i v H Q →
    wpAny (model X.prog X.w) X.A (setItem ov iv u) (fun _ s' => ∃ H', Inv X pins σ H' s' ∧ Q H') X.xe s
section
variable {X : Cx} {pos : Pos}
def gName (i : Nat) : TG := fun v σ H Q => Q (σ.set i (some v)) H
theorem pg_name {i : Nat} {x : Str} (hN : X.N.Nodup) (hi : X.N[i]? = some x) (hx : Loc X.env.scope x) (hf : X.fn x = true ∨ X.env.scope.names.lookup x = some .local := by first | exact .inl rfl | exact .inr rfl | assumption) : PG X (.Name x pos) (gName i) := by
  intro pins s σ H v u Q I r h
  exact wpAny_assign_Name (store_ok I hN hi hx r (fun s' I' => ⟨_, H, I', h⟩) hf)
def gNil : TGs := fun vs σ H Q => vs = [] ∧ Q σ H
def gCons (t : TG) (u : TGs) : TGs := fun vs σ H Q => ∃ v r, vs = v :: r ∧ t v σ H fun σ' H' => u r σ' H' Q
theorem pgs_nil : PGs X [] gNil := by
  intro pins s σ H vs us Q I r h
  obtain ⟨e, h⟩ := h
  subst e
  cases r
  exact assignInOrder_nil ⟨σ, H, I, h⟩
theorem pgs_cons {e : Expr} {es : List Expr} {t : TG} {u : TGs} (h1 : PG X e t) (h2 : PGs X es u)
    (hs : (assignEach (e :: es) X.env).map (·.2) = assign e X.env :: (assignEach es X.env).map (·.2) := by rfl) : PGs X (e :: es) (gCons t u) := by
  intro pins s σ H vs us Q I r h
  obtain ⟨v, vr, e1, h⟩ := h
  subst e1
  cases r with
  | cons r rr =>
    rw [hs]
    refine assignInOrder_cons (thn (h1 pins s σ H _ _ _ I r h) fun _ s1 ⟨σ1, H1, I1, q1⟩ => ?_)
    exact h2 pins s1 σ1 H1 _ _ Q I1 rr q1
def gTup (K : PySem.W.Frag) (n : Nat) (t : TGs) : TG := fun v σ H Q => ∃ a xs, v = .ref a ∧ SqT K H a xs ∧ xs.length = n ∧ t xs σ H Q
theorem pg_tup {es : List Expr} {k : Nat} {t : TGs} {n : Nat} (hc : X.calm = true) (h : PGs X es t)
    (hn : (assignEach es X.env).length = n := by rfl) (hst : (assignEach es X.env).findIdx? (·.1) = none := by rfl) : PG X (.Tuple es k pos) (gTup X.K n t) := by
  intro pins s σ H v u Q I r hw
  obtain ⟨a, xs, e1, hq, hl, hw⟩ := hw
  subst e1
  cases r
  obtain ⟨its, rv, ht, hz⟩ := I.tuple hq
  refine assign_Tuple_tuple (I.ok.hd hc) ht (by simp [hn, ← hl, rv.length]) hst fun h' hx => ?_
  have I1 : Inv X pins σ H { s with heap := h' } := I.kept (t' := s.toks) fun b o e => hx b o (Nat.ne_of_lt (Heap.lt_size e)) e
  exact h pins _ σ H xs _ Q I1 (by simpa using rv) hw
def gSub (to ti : TE) (t : TSet) : TG := fun v σ H Q => to σ H fun o H1 => ti σ H1 fun i H2 => t o i v H2 fun H3 => Q σ H3
theorem pg_sub {o i : Expr} {to ti : TE} {t : TSet} (ho : PE X o to) (hi : PE X i ti) (hs : PSet X t)
    (ha : ∀ v, assign (.Subscript o i pos) X.env v = (do
      let ov ← holding [v] (eval o X.env)
      let iv ← holding [v, ov] (eval i X.env)
      standAt pos
      holding [v, ov, iv] (setItem ov iv v)
      release [v, ov, iv] []) := by intro _; rfl) : PG X (.Subscript o i pos) (gSub to ti t) := by
  intro pins s σ H v u Q I r h
  rw [ha]
  refine wpAny_bind (wpAny_holding (thn (ho pins s σ H _ I h) fun ov s1 ⟨x, H1, I1, r1, q1⟩ => ?_))
  refine wpAny_bind (wpAny_holding (thn (hi pins s1 σ H1 _ I1 q1) fun iv s2 ⟨y, H2, I2, r2, q2⟩ => ?_))
  refine wpAny_bind (wpAny_standAt (wpAny_bind (wpAny_holding (thn (hs pins s2 σ H2 x y v ov iv u _ I2 r1 r2 r q2) fun _ s3 ⟨H3, I3, q3⟩ => ?_))))
  exact wpAny_release ⟨σ, H3, I3, q3⟩
def tAsg (te : TE) (g : TG) : TS := fun D σ H => te σ H fun x H1 => g x σ H1 D.nx
theorem ps_asg {tg e : Expr} {te : TE} {g : TG} (he : PE X e te) (hg : PG X tg g) (hs : swapsWithSole [tg] e pos.line X.env = pure false := by rfl) (hw : swappedStores [tg] e X.env = pure none := by rfl)
    (h1 : (assignEach [tg] X.env).map (·.2) = [assign tg X.env] := by rfl) : PS X (.Assign [tg] e pos) (tAsg te g) := by
  intro pins s σ H D I h
  refine wpAny_Assign_stores (thn (he pins s σ H _ I h) fun v s1 ⟨x, H1, I1, r1, q1⟩ => ?_) hs hw
  rw [h1]
  exact thn (hg pins s1 σ H1 x v _ I1 r1 q1) fun _ s2 q => q
theorem ps_set {i : Nat} {x : Str} {e : Expr} {te : TE} {pos' : Pos} (hN : X.N.Nodup) (hi : X.N[i]? = some x) (hx : Loc X.env.scope x) (he : PE X e te) (hs : swapsWith e (some (.Name x pos')) pos.line X.env = pure false := by rfl) (hf : X.fn x = true ∨ X.env.scope.names.lookup x = some .local := by first | exact .inl rfl | exact .inr rfl | assumption) :
    PS X (.Assign [.Name x pos'] e pos) (tAsg te (gName i)) := by
  intro pins s σ H D I h
  refine wpAny_Assign_Name (thn (he pins s σ H _ I h) fun v s1 ⟨y, H1, I1, r1, q1⟩ => ?_) hs
  exact store_ok I1 hN hi hx r1 (fun s2 I2 => ⟨_, H1, I2, q1⟩) hf
def tPar (i j : Nat) (ta : TA) : TS := fun D σ H => ta σ H fun vs H1 => ∃ v w, vs = [v, w] ∧ D.nx ((σ.set i (some v)).set j (some w)) H1
theorem ps_par {i j : Nat} {x y : Str} {a b : Expr} {ta : TA} {px py pt : Pos} {kt k2 pt2} (hc : X.calm = true) (hN : X.N.Nodup) (hi : X.N[i]? = some x) (hj : X.N[j]? = some y) (hij : i ≠ j)
    (hx : X.env.scope.names.lookup x = some .local) (hy : X.env.scope.names.lookup y = some .local) (ha : PA X [a, b] ta)
    (hw : swappedStores [.Tuple [.Name x px, .Name y py] kt pt] (.Tuple [a, b] k2 pt2) X.env = pure (some [x, y]))
    (hs : swapsWithSole [.Tuple [.Name x px, .Name y py] kt pt] (.Tuple [a, b] k2 pt2) pos.line X.env = pure false := by rfl) :
    PS X (.Assign [.Tuple [.Name x px, .Name y py] kt pt] (.Tuple [a, b] k2 pt2) pos) (tPar i j ta) := by
  intro pins s σ H D I h
  rw [exec_Assign_arm]
  refine wpAny_bind (wpAny_standAt ?_)
  rw [hs]
  refine wpAny_bind (wpAny_pure ?_)
  rw [if_neg (by decide)]
  refine wpAny_bind (Tuple_ (thn (ha _ pins s σ H _ I h) fun us s1 ⟨vs, H1, I1, r1, q1⟩ => ?_))
  obtain ⟨v, w, e1, q1⟩ := q1
  subst e1
  obtain ⟨u1, u2, rfl, rv, rw'⟩ : ∃ u1 u2, us = [u1, u2] ∧ RelV v u1 ∧ RelV w u2 := by
    cases r1 with
    | cons p q =>
      cases q with
      | cons p' q' =>
        cases q'
        exact ⟨_, _, rfl, p, p'⟩
  refine wpAny_newObj_type ?_ (by show 2 ≤ sizeLine; decide)
  have I2 : Inv X pins σ H1 { s1 with heap := s1.heap.push { cls := .type "tuple", data := .seq [u1, u2].toArray } } := I1.kept (t' := s1.toks) fun b o e => Heap.get?_push_of_some _ e
  rw [hw]
  refine wpAny_bind (wpAny_pure ?_)
  show wpAny (model X.prog X.w) X.A (do rule "assign.swapped-stores"; let items ← unpackItems (.ref s1.heap.objs.size) 2 none; assignInOrder [fun v => bindName X.env y v, fun v => bindName X.env x v] items.reverse; pure Flow.next) _ _ _
  refine wpAny_bind (wpAny_rule (wpAny_bind (unpackItems_tuple (items := #[u1, u2]) (I.ok.hd hc) (IsTup.new s1.heap _) fun h' hx' => ?_)))
  have I3 := I2.kept (h' := h') (t' := s1.toks) fun b o e => hx' b o (Nat.ne_of_lt (Heap.lt_size e)) e
  show wpAny _ _ (assignInOrder [fun v => bindName X.env y v, fun v => bindName X.env x v] [u2, u1] >>= fun _ => pure Flow.next) _ _ _
  refine wpAny_bind (assignInOrder_cons (wpAny_bindName (store_ok I3 hN hj (.inl hy) rw' (fun s2 I4 => ?_) (.inr hy))))
  refine assignInOrder_cons (wpAny_bindName (store_ok I4 hN hi (.inl hx) rv (fun s3 I5 => assignInOrder_nil (wpAny_pure ?_)) (.inr hx)))
  rw [List.set_comm _ _ (Ne.symm hij)] at I5
  exact ⟨_, H1, I5, q1⟩
end
section
variable {X : Cx} {pos : Pos}
def tWhile (c : TT) (tb : TS) : TS := fun D σ H => ∃ W : Nat → St → Hp → Prop, (∃ m, W m σ H) ∧ ∀ m σ H, W m σ H →
  c σ H fun b H1 => if b = true then ∃ N : St → Hp → Prop, (∀ σ' H', N σ' H' → ∃ m', m' < m ∧ W m' σ' H') ∧ tb { D with nx := N, ct := N, bk := D.nx } σ H1 else D.nx σ H1
theorem ps_while {c : Expr} {body : List Stmt} {tc : TT} {tb : TS} (hp : PassesOwn (model X.prog X.w) X.A X.env X.xe) (hc : PT X c tc) (hb : PSs X body tb) : PS X (.While c body [] pos) (tWhile tc tb) := by
  intro pins s σ H D I h
  obtain ⟨W, ⟨m0, w0⟩, turn⟩ := h
  refine wpAny_While (codeAny_whileLoop (fun n s' => ∃ σ' H', Inv X pins σ' H' s' ∧ W n σ' H') ?_ m0 ⟨σ, H, I, w0⟩)
  rintro n s1 ⟨σ1, H1, I1, w1⟩
  refine wpAny_passesOwn hp (thn (hc pins s1 σ1 H1 _ I1 (turn n σ1 H1 w1)) fun b s2 ⟨H2, I2, q2⟩ => ?_)
  cases b with
  | true =>
    obtain ⟨N, hN, q2⟩ := q2
    rw [if_pos rfl]
    refine wpAny_passesOwn hp (thn (hb pins s2 σ1 H2 _ I2 q2) fun f s3 q3 => ?_)
    cases f with
    | next =>
      obtain ⟨σ3, H3, I3, n3⟩ := q3
      obtain ⟨m', hm, w3⟩ := hN σ3 H3 n3
      exact ⟨m', hm, σ3, H3, I3, w3⟩
    | cont =>
      obtain ⟨σ3, H3, I3, n3⟩ := q3
      obtain ⟨m', hm, w3⟩ := hN σ3 H3 n3
      exact ⟨m', hm, σ3, H3, I3, w3⟩
    | brk => exact q3
    | ret v => exact q3
  | false =>
    rw [if_neg Bool.false_ne_true]
    exact wpAny_execs_nil ⟨σ1, H2, I2, q2⟩
end
structure It where
  go : Nat → Hp → Prop
  yld : Nat → Hp → V → Hp → Prop
  stop : Nat → Hp → Prop
def FpOk (X : Cx) (pins : List (Addr × Obj)) (H : Hp) (b : Addr) : Prop :=
  H b = none ∧ b ≠ X.env.locals ∧ b ∉ X.fs ∧ (b ∈ X.ex ∨ X.s₀.heap.objs.size ≤ b) ∧ (∀ x c, X.env.cells.lookup x = some c → c ≠ b) ∧ ∀ p ∈ X.pn ++ pins, p.1 ≠ b
theorem Inv.fpOk {X : Cx} {pins : List (Addr × Obj)} {σ : St} {H H' : Hp} {s : Shared} {b : Addr} (I : Inv X pins σ H s) (hb : s.heap.objs.size ≤ b) (hn : H' b = none) : FpOk X pins H' b := by
  refine ⟨hn, Nat.ne_of_gt (Nat.lt_of_lt_of_le I.lt hb), I.nofs hb, .inr (Nat.le_trans I.sz hb), fun x c e z => ?_, fun p hp z => ?_⟩
  · obtain ⟨v, q⟩ := I.cell x c e
    exact absurd (Nat.lt_of_lt_of_le q.lt (by rw [z]; exact hb)) (Nat.lt_irrefl _)
  · exact absurd (Nat.lt_of_lt_of_le (Heap.lt_size (I.pin p hp).1) (by rw [z]; exact hb)) (Nat.lt_irrefl _)
structure Turn (P : Program) (w : World) (K : PySem.W.Frag) (tg : Expr) (J : It) (fp : List Addr) (it : Addr) (tn : Nat → Heap → Prop) : Prop where
  mem : it ∈ fp
  obj : ∀ i h, tn i h → ∀ b ∈ fp, ∃ o, h.get? b = some o ∧ ∀ v, o.data ≠ .cell v
  keep : ∀ i h h', tn i h → (∀ b ∈ fp, ∀ o, h.get? b = some o → h'.get? b = some o) → tn i h'
  item : ∀ (X : Cx), X.prog = P → X.w = w → X.K = K → X.calm = true → ∀ (i : Nat) (pins : List (Addr × Obj)) (s : Shared) (σ : St) (H : Hp) (E : Value → Shared → Prop), Inv X pins σ H s → (∀ b ∈ fp, FpOk X pins H b) → tn i s.heap → J.go i H →
    wpAny (model P w) X.A (pyNext (.ref it)) (fun r s1 => ∃ u, r = some u ∧
      wpAny (model P w) X.A (letOwnedTupleGo tg (.ref it) u) (fun _ s2 => ∃ x H', Inv X pins σ H' s2 ∧ RelV x u ∧ J.yld i H x H' ∧ tn (i + 1) s2.heap ∧ ∀ b ∈ fp, H' b = none) E s1) E s
  done : ∀ (X : Cx), X.prog = P → X.w = w → X.K = K → X.calm = true → ∀ (i : Nat) (pins : List (Addr × Obj)) (s : Shared) (σ : St) (H : Hp) (E : Value → Shared → Prop), Inv X pins σ H s → (∀ b ∈ fp, FpOk X pins H b) → tn i s.heap → J.stop i H →
    wpAny (model P w) X.A (pyNext (.ref it)) (fun r s1 => r = none ∧ Inv X pins σ H s1) E s
  self : ∀ (A : Around) (i : Nat) (s : Shared) (Q : Value → Shared → Prop) (E : Value → Shared → Prop), tn i s.heap → Q (.ref it) s → wpAny (model P w) A (pyIter (.ref it)) Q E s
abbrev TI := St → Hp → (It → Hp → Prop) → Prop
def PIE (X : Cx) (pins : List (Addr × Obj)) (σ : St) (tg : Expr) (R : It → Hp → Prop) (itv : Value) (s2 : Shared) : Prop :=
  ∃ (it : Addr) (fp : List Addr) (tn : Nat → Heap → Prop) (J : It) (H' : Hp), itv = .ref it ∧ Inv X pins σ H' s2 ∧ Turn X.prog X.w X.K tg J fp it tn ∧ tn 0 s2.heap ∧ (∀ b ∈ fp, FpOk X pins H' b) ∧ R J H'
def PI (X : Cx) (tg iter : Expr) (wi : TI) : Prop :=
  ∀ (pins : List (Addr × Obj)) (s : Shared) (σ : St) (H : Hp) (R : It → Hp → Prop), Inv X pins σ H s → wi σ H R →
    wpAny (model X.prog X.w) X.A (eval iter X.env) (fun v s1 => wpAny (model X.prog X.w) X.A (pyIter v) (PIE X pins σ tg R) X.xe s1) X.xe s
theorem go_of {M : Model} {A : Around} {E : Value → Shared → Prop} {s : Shared} {tg : Expr} {it : Addr} {u : Value} {o : Obj} {n : String} {vs : Array Value} {Q : Unit → Shared → Prop} (ho : s.heap.get? it = some o) (hc : o.cls = .type n) (hd : o.data = .fields vs)
    (hn : ["enumerate", "zip", "dict_itemiterator", "dict_reverseitemiterator", "odict_iterator", "itertools.zip_longest", "itertools.pairwise"].contains n = false) (hQ : Q () s) : wpAny M A (letOwnedTupleGo tg (.ref it) u) Q E s := by
  unfold letOwnedTupleGo
  cases tg <;> first
    | exact wpAny_pure hQ
    | (cases u <;> first
        | exact wpAny_pure hQ
        | (refine wpAny_bind (wpAny_load ho ?_)
           rw [hc, hd]
           show wpAny M A (if (["enumerate", "zip", "dict_itemiterator", "dict_reverseitemiterator", "odict_iterator", "itertools.zip_longest", "itertools.pairwise"].contains n && vs[0]? == some (rawInt _)) = true then _ else _) Q E s
           rw [if_neg (by intro h; rw [hn, Bool.false_and] at h; cases h)]
           exact wpAny_pure hQ))
def Itl (K : PySem.W.Frag) (a : Addr) : It :=
  ⟨fun i H => ∃ xs x, SqL K H a xs ∧ xs[i]? = some x, fun i H x H' => H' = H ∧ ∀ xs, SqL K H a xs → xs[i]? = some x, fun i H => ∃ xs, SqL K H a xs ∧ xs.length ≤ i⟩
def Itt (K : PySem.W.Frag) (a : Addr) : It :=
  ⟨fun i H => ∃ xs x, SqT K H a xs ∧ xs[i]? = some x, fun i H x H' => H' = H ∧ ∀ xs, SqT K H a xs → xs[i]? = some x, fun i H => ∃ xs, SqT K H a xs ∧ xs.length ≤ i⟩
def Itr (lo : Int) (n : Nat) : It := ⟨fun i _ => i < n, fun i H x H' => H' = H ∧ x = .int (lo + i), fun i _ => n ≤ i⟩
theorem turn_list {P : Program} {w : World} {K : PySem.W.Frag} {tg : Expr} (a it : Addr) : Turn P w K tg (Itl K a) [it] it (fun i h => h.IsListIter it a i) where
  mem := by simp
  obj := fun i h st b hb => by
    have e : b = it := by simpa using hb
    subst e
    obtain ⟨o, e, c, d⟩ := st
    exact ⟨o, e, fun v z => by rw [d] at z; cases z⟩
  keep := fun i h h' st k => st.at fun o e => k it (by simp) o e
  item := by
    intro X hP hw hK hc i pins s σ H E I hf st hg
    subst hP hw hK
    obtain ⟨xs, x, hq, hx⟩ := hg
    obtain ⟨its, rv, p, hz⟩ := I.list hq
    obtain ⟨u, hu, ru⟩ := rv.get hx
    obtain ⟨f0, f1, f2, f3, f4, f5⟩ := hf it (by simp)
    refine wpAny_pyNext_list_item st p.isList (x := u) (by simpa using hu) fun h' st' sb => ?_
    have I1 : Inv X pins σ H { s with heap := h' } := I.turned (t' := s.toks) (fun b o hb e => (sb.2 b hb).trans e) f0 f1 f3 f4 f5
    obtain ⟨o, e, c, d⟩ := id st'
    exact ⟨u, rfl, go_of (s := { s with heap := h' }) e c d (by decide) ⟨x, H, I1, ru, ⟨rfl, fun ys hy => by rw [I.list_inj hy hq]; exact hx⟩, st', fun b hb => (hf b hb).1⟩⟩
  done := by
    intro X hP hw hK hc i pins s σ H E I hf st hg
    subst hP hw hK
    obtain ⟨xs, hq, hx⟩ := hg
    obtain ⟨its, rv, p, hz⟩ := I.list hq
    obtain ⟨f0, f1, f2, f3, f4, f5⟩ := hf it (by simp)
    have hl := rv.length
    exact wpAny_pyNext_list_end (I.ok.hd hc) st p.isList (by simp; omega) fun h' eb => ⟨rfl, I.turned (t' := s.toks) (fun b o hb e => eb b o hb e) f0 f1 f3 f4 f5⟩
  self := fun _ _ _ _ _ st h => wpAny_pyIter_listiter st h
theorem turn_tuple {P : Program} {w : World} {K : PySem.W.Frag} {tg : Expr} (a it : Addr) : Turn P w K tg (Itt K a) [it] it (fun i h => h.IsTupleIter it a i) where
  mem := by simp
  obj := fun i h st b hb => by
    have e : b = it := by simpa using hb
    subst e
    obtain ⟨o, e, c, d⟩ := st
    exact ⟨o, e, fun v z => by rw [d] at z; cases z⟩
  keep := fun i h h' st k => st.at fun o e => k it (by simp) o e
  item := by
    intro X hP hw hK hc i pins s σ H E I hf st hg
    subst hP hw hK
    obtain ⟨xs, x, hq, hx⟩ := hg
    obtain ⟨its, rv, p, hz⟩ := I.tuple hq
    obtain ⟨u, hu, ru⟩ := rv.get hx
    obtain ⟨f0, f1, f2, f3, f4, f5⟩ := hf it (by simp)
    refine wpAny_pyNext_tuple_item st (show s.heap.IsTuple a its.toArray from p) (x := u) (by simpa using hu) fun h' st' sb => ?_
    have I1 : Inv X pins σ H { s with heap := h' } := I.turned (t' := s.toks) (fun b o hb e => (sb.2 b hb).trans e) f0 f1 f3 f4 f5
    obtain ⟨o, e, c, d⟩ := id st'
    exact ⟨u, rfl, go_of (s := { s with heap := h' }) e c d (by decide) ⟨x, H, I1, ru, ⟨rfl, fun ys hy => by rw [I.tuple_inj hy hq]; exact hx⟩, st', fun b hb => (hf b hb).1⟩⟩
  done := by
    intro X hP hw hK hc i pins s σ H E I hf st hg
    subst hP hw hK
    obtain ⟨xs, hq, hx⟩ := hg
    obtain ⟨its, rv, p, hz⟩ := I.tuple hq
    obtain ⟨f0, f1, f2, f3, f4, f5⟩ := hf it (by simp)
    have hl := rv.length
    exact wpAny_pyNext_tuple_end (I.ok.hd hc) st (show s.heap.IsTuple a its.toArray from p) (by simp; omega) fun h' eb => ⟨rfl, I.turned (t' := s.toks) (fun b o hb e => eb b o hb e) f0 f1 f3 f4 f5⟩
  self := fun _ _ _ _ _ st h => wpAny_pyIter_tupleiter st h
theorem turn_range {P : Program} {w : World} {K : PySem.W.Frag} {tg : Expr} (it : Addr) (lo : Int) (n : Nat) : Turn P w K tg (Itr lo n) [it] it (fun i h => IsRangeIter h it (lo + (i : Nat) * 1) ((n : Int) - (i : Nat)) 1) where
  mem := by simp
  obj := fun i h st b hb => by
    have e : b = it := by simpa using hb
    subst e
    exact ⟨_, st, fun v z => by
      have z' : Data.fields _ = Data.cell v := z
      cases z'⟩
  keep := fun i h h' st k => k it (by simp) _ st
  item := by
    intro X hP hw hK hc i pins s σ H E I hf st hg
    subst hP hw hK
    obtain ⟨f0, f1, f2, f3, f4, f5⟩ := hf it (by simp)
    have W := Walks.range (prog := X.prog) (w := X.w) (I.ok.hd hc) it lo 1 n
    refine W.item i s _ _ hg st fun v h' tk hv st' kk => ?_
    obtain ⟨t, rfl⟩ := hv
    have I1 : Inv X pins σ H { s with heap := h', toks := tk } := I.turned (fun b o hb e => kk b o (by simpa using hb) e) f0 f1 f3 f4 f5
    refine ⟨_, rfl, go_of (s := { s with heap := h', toks := tk }) (n := "range_iterator") st' rfl rfl (by decide) ⟨.int (lo + i), H, I1, ⟨t, ?_⟩, ⟨rfl, rfl⟩, st', fun b hb => (hf b hb).1⟩⟩
    rw [Int.mul_one]
  done := by
    intro X hP hw hK hc i pins s σ H E I hf st hg
    subst hP hw hK
    obtain ⟨f0, f1, f2, f3, f4, f5⟩ := hf it (by simp)
    exact wpAny_pyNext_range_end (I.ok.hd hc) st (by have : n ≤ i := hg; omega) fun h' eb => ⟨rfl, I.turned (t' := s.toks) (fun b o hb e => eb b o hb e) f0 f1 f3 f4 f5⟩
  self := fun _ _ _ _ _ st h => wpAny_pyIter_rangeiter st h
end L2
namespace L2
open PySem PySem.Spec PyProof.Rows
section
variable {X : Cx} {tg : Expr}
theorem range_it {pins : List (Addr × Obj)} {σ : St} {H : Hp} {s : Shared} {R : It → Hp → Prop} {E : Value → Shared → Prop} {lo hi : Int} {t u v : Tok} {tk : Nat} (I : Inv X pins σ H s) (h1 : -(2 ^ 62) ≤ lo) (h2 : lo < 2 ^ 62) (h3 : -(2 ^ 62) ≤ hi) (h4 : hi < 2 ^ 62)
    (q : R (Itr lo (hi - lo).toNat) H) : wpAny (model X.prog X.w) X.A (pyIter (.ref s.heap.objs.size)) (PIE X pins σ tg R) E { s with heap := s.heap.push { cls := .type "range", data := .fields #[.int lo t, .int hi u, .int 1 v] }, toks := tk } := by
  refine wpAny_pyIter_range (IsRange.new ..) (small_one h1 h2 h3 h4) ?_
  have I1 : Inv X pins σ H { s with heap := s.heap.push { cls := .type "range", data := .fields #[.int lo t, .int hi u, .int 1 v] }, toks := tk } := I.kept fun b o e => Heap.get?_push_of_some _ e
  refine ⟨(s.heap.push { cls := .type "range", data := .fields #[.int lo t, .int hi u, .int 1 v] }).objs.size, [(s.heap.push { cls := .type "range", data := .fields #[.int lo t, .int hi u, .int 1 v] }).objs.size], _, _, H, rfl,
    I1.kept (t' := tk) fun b o e => Heap.get?_push_of_some _ e, turn_range _ lo (hi - lo).toNat, ?_, fun b hb => ?_, q⟩
  · have e1 : lo + ((0 : Nat) : Int) * 1 = lo := by simp
    have e2 : (((hi - lo).toNat : Nat) : Int) - ((0 : Nat) : Int) = Builtin.Range.rangeSize lo hi 1 := by rw [rangeSize_one]; split <;> omega
    show IsRangeIter _ _ (lo + ((0 : Nat) : Int) * 1) ((((hi - lo).toNat : Nat) : Int) - ((0 : Nat) : Int)) 1
    rw [e1, e2]
    exact Heap.get?_push_size _ rfl
  · have e : b = (s.heap.push { cls := .type "range", data := .fields #[.int lo t, .int hi u, .int 1 v] }).objs.size := by simpa using hb
    subst e
    exact I1.fpOk (Nat.le_refl _) (I1.hok.fresh (Nat.le_refl _))
def iRng1 (ta : TA) : TI := fun σ H R => ta σ H fun vs H1 => ∃ j : Int, vs = [.int j] ∧ -(2 ^ 62) ≤ j ∧ j < 2 ^ 62 ∧ R (Itr 0 j.toNat) H1
def iRng2 (ta : TA) : TI := fun σ H R => ta σ H fun vs H1 => ∃ i j : Int, vs = [.int i, .int j] ∧ (-(2 ^ 62) ≤ i ∧ i < 2 ^ 62 ∧ -(2 ^ 62) ≤ j ∧ j < 2 ^ 62) ∧ R (Itr i (j - i).toNat) H1
theorem pi_range1 {a : Expr} {ta : TA} {p pos : Pos} (hg : Gl X "range") (hm : X.mg "range" = none) (ha : PA X [a] ta) (hs : starEach [a] X.env = [(false, eval a X.env)] := by rfl) : PI X tg (.Call (.Name "range" p) [a] [] pos) (iRng1 ta) := by
  intro pins s σ H R I h
  refine Call_ (ld_blt I hg hm boot_range (PyProof.Rows.callWith_type1 (thn (ha pos pins s σ H _ I h) fun us s1 ⟨vs, H1, I1, r1, q1⟩ => ?_) hs rfl))
  obtain ⟨j, e, q1, q2, q⟩ := q1
  subst e
  cases r1 with
  | cons r rr =>
    cases rr
    obtain ⟨t, rfl⟩ := r
    exact call_range_1 (range_it I1 (by omega) (by omega) q1 q2 (by simpa using q))
theorem pi_range2 {a b : Expr} {ta : TA} {p pos : Pos} (hg : Gl X "range") (hm : X.mg "range" = none) (ha : PA X [a, b] ta) (hs : starEach [a, b] X.env = [(false, eval a X.env), (false, eval b X.env)] := by rfl) (hs2 : starEach [b] X.env = [(false, eval b X.env)] := by rfl) :
    PI X tg (.Call (.Name "range" p) [a, b] [] pos) (iRng2 ta) := by
  intro pins s σ H R I h
  refine Call_ (ld_blt I hg hm boot_range (PyProof.Rows.callWith_type1 (thn (ha pos pins s σ H _ I h) fun us s1 ⟨vs, H1, I1, r1, q1⟩ => ?_) (by rw [hs, hs2]) (by rw [hs2]; rfl)))
  obtain ⟨i, j, e, ⟨q1, q2, q3, q4⟩, q⟩ := q1
  subst e
  cases r1 with
  | cons r rr =>
    cases rr with
    | cons r' rr =>
      cases rr
      obtain ⟨t, rfl⟩ := r
      obtain ⟨t', rfl⟩ := r'
      exact call_range_2 (range_it I1 q1 q2 q3 q4 q)
def tFor (wi : TI) (g : TG) (tb : TS) : TS := fun D σ H => wi σ H fun J H1 => ∃ W : Nat → Nat → St → Hp → Prop, (∃ m, W 0 m σ H1) ∧ ∀ i m σ H, W i m σ H →
  (J.stop i H ∧ D.nx σ H) ∨ (J.go i H ∧ ∃ N : St → Hp → Prop, (∀ σ' H', N σ' H' → ∃ m', m' < m ∧ W (i + 1) m' σ' H') ∧ ∀ x H', J.yld i H x H' → g x σ H' fun σ2 H2 => tb { D with nx := N, ct := N, bk := D.nx } σ2 H2)
def pinsAt (fp : List Addr) (h : Heap) : List (Addr × Obj) := fp.filterMap fun b => (h.get? b).map fun o => (b, o)
theorem mem_pinsAt {fp : List Addr} {h : Heap} {b : Addr} {o : Obj} (hb : b ∈ fp) (e : h.get? b = some o) : (b, o) ∈ pinsAt fp h := List.mem_filterMap.mpr ⟨b, hb, by rw [e]; rfl⟩
theorem of_pinsAt {fp : List Addr} {h : Heap} {p : Addr × Obj} (hp : p ∈ pinsAt fp h) : p.1 ∈ fp ∧ h.get? p.1 = some p.2 := by
  obtain ⟨b, hb, e⟩ := List.mem_filterMap.mp hp
  cases q : h.get? b with
  | none => rw [q] at e; cases e
  | some o =>
    rw [q] at e
    have e' : (b, o) = p := Option.some.inj e
    subst e'
    exact ⟨hb, q⟩
theorem Inv.pinned {pins : List (Addr × Obj)} {σ : St} {H : Hp} {s : Shared} {fp : List Addr} (I : Inv X pins σ H s) (hf : ∀ b ∈ fp, FpOk X pins H b) (ho : ∀ b ∈ fp, ∃ o, s.heap.get? b = some o ∧ ∀ v, o.data ≠ .cell v) : Inv X (pins ++ pinsAt fp s.heap) σ H s :=
  I.pins_of fun p hp => (List.mem_append.mp hp).elim (fun z => I.pin p (List.mem_append_right _ z)) fun z => by
    obtain ⟨hb, e⟩ := of_pinsAt z
    obtain ⟨f0, f1, f2, _⟩ := hf p.1 hb
    obtain ⟨o, e', d⟩ := ho p.1 hb
    rw [e] at e'; cases e'
    exact ⟨e, f0, f1, f2, d⟩
theorem Inv.unpinned {pins pl : List (Addr × Obj)} {σ : St} {H : Hp} {s : Shared} (I : Inv X (pins ++ pl) σ H s) : Inv X pins σ H s := I.pins_of fun p hp => I.pin p (List.mem_append_right _ (List.mem_append_left _ hp))
theorem ps_for {iter : Expr} {body : List Stmt} {wi : TI} {g : TG} {tb : TS} {pos : Pos} (hp : PassesOwn (model X.prog X.w) X.A X.env X.xe) (hc : X.calm = true) (hi : PI X tg iter wi) (hg : PG X tg g) (hb : PSs X body tb)
    (hs : ∀ x, foldedSetIterable iter X.env x = pure x := by intro _; rfl) : PS X (.For tg iter body [] pos) (tFor wi g tb) := by
  intro pins s σ H D I h
  refine wpAny_For (thn (hi pins s σ H _ I h) fun v s1 h1 => thn h1 fun itv s2 h2 => ?_) hs
  obtain ⟨it, fp, tn, J, H2, e, I2, T, st2, f2, W, ⟨m0, w0⟩, turn⟩ := h2
  subst e
  -- what stays true of the iterator's objects through the loop
  have stat : ∀ {H' : Hp}, (∀ b ∈ fp, H' b = none) → ∀ b ∈ fp, FpOk X pins H' b := fun hn b hb => ⟨hn b hb, (f2 b hb).2⟩
  refine codeAny_forLoop_any (fun n s' => ∃ i σ' H', Inv X pins σ' H' s' ∧ tn i s'.heap ∧ (∀ b ∈ fp, H' b = none) ∧ W i n σ' H') ?_ m0 ⟨0, σ, H2, I2, st2, fun b hb => (f2 b hb).1, w0⟩
  rintro n s3 ⟨i, σ3, H3, I3, st3, fr3, w3⟩
  rcases turn i n σ3 H3 w3 with ⟨stop, qn⟩ | ⟨go, N, hN, step⟩
  · refine wpAny_passesOwn hp (thn (T.done X rfl rfl rfl hc i pins s3 σ3 H3 X.xe I3 (stat fr3) st3 stop) fun r s4 ⟨hr, I4⟩ => ?_)
    subst hr
    exact wpAny_execs_nil ⟨σ3, H3, I4, qn⟩
  · refine wpAny_passesOwn hp (thn (T.item X rfl rfl rfl hc i pins s3 σ3 H3 X.xe I3 (stat fr3) st3 go) fun r s4 ⟨u, hr, h4⟩ => ?_)
    subst hr
    refine wpAny_passesOwn hp (thn h4 fun _ s5 ⟨x, H5, I5, r5, y5, st5, fr5⟩ => ?_)
    have I5' := I5.pinned (stat fr5) (T.obj _ _ st5)
    refine wpAny_passesOwn hp (thn (hg _ s5 σ3 H5 x u _ I5' r5 (step x H5 y5)) fun _ s6 ⟨σ6, H6, I6, q6⟩ => ?_)
    refine wpAny_passesOwn hp (thn (hb _ s6 σ6 H6 _ I6 q6) fun f s7 q7 => ?_)
    have again : ∀ {σ7 : St} {H7 : Hp}, Inv X (pins ++ pinsAt fp s5.heap) σ7 H7 s7 → N σ7 H7 → ∃ m, m < n ∧ ∃ i σ' H', Inv X pins σ' H' s7 ∧ tn i s7.heap ∧ (∀ b ∈ fp, H' b = none) ∧ W i m σ' H' := fun {σ7 H7} I7 n7 => by
      obtain ⟨m', hm, w7⟩ := hN σ7 H7 n7
      refine ⟨m', hm, i + 1, σ7, H7, I7.unpinned, T.keep _ _ _ st5 fun b hb o e => (I7.pin (b, o) (List.mem_append_right _ (List.mem_append_right _ (mem_pinsAt hb e)))).1, fun b hb => ?_, w7⟩
      obtain ⟨o, e, d⟩ := T.obj _ _ st5 b hb
      exact (I7.pin (b, o) (List.mem_append_right _ (List.mem_append_right _ (mem_pinsAt hb e)))).2.1
    cases f with
    | next => obtain ⟨σ7, H7, I7, n7⟩ := q7; exact again I7 n7
    | cont => obtain ⟨σ7, H7, I7, n7⟩ := q7; exact again I7 n7
    | brk => obtain ⟨σ7, H7, I7, q7⟩ := q7; exact ⟨σ7, H7, I7.unpinned, q7⟩
    | ret v => obtain ⟨x7, σ7, H7, I7, r7, q7⟩ := q7; exact ⟨x7, σ7, H7, I7.unpinned, r7, q7⟩
end
end L2
namespace L2
open PySem PySem.Spec PyProof.Rows
abbrev R2 := V → V → Hp → VK → Prop
def OpR (X : Cx) (f : Value → Value → Sem Value) (r : R2) : Prop :=
  ∀ (pins : List (Addr × Obj)) (s : Shared) (σ : St) (H : Hp) (x y : V) (v u : Value) (Q : VK), Inv X pins σ H s → RelV x v → RelV y u → r x y H Q →
    wpAny (model X.prog X.w) X.A (f v u) (EP X pins σ Q) X.xe s
def UnR (X : Cx) (f : Value → Sem Value) (r : V → Hp → VK → Prop) : Prop :=
  ∀ (pins : List (Addr × Obj)) (s : Shared) (σ : St) (H : Hp) (x : V) (v : Value) (Q : VK), Inv X pins σ H s → RelV x v → r x H Q →
    wpAny (model X.prog X.w) X.A (f v) (EP X pins σ Q) X.xe s
def CallR (X : Cx) (f : Value) (r : List V → Hp → VK → Prop) : Prop :=
  ∀ (pins : List (Addr × Obj)) (s : Shared) (σ : St) (H : Hp) (xs : List V) (us : List Value) (Q : VK), Inv X pins σ H s → Vals xs us → r xs H Q →
    wpAny (model X.prog X.w) X.A (call f us) (EP X pins σ Q) X.xe s
def tOp (r : R2) (ta tb : TE) : TE := fun σ H Q => ta σ H fun x H1 => tb σ H1 fun y H2 => r x y H2 Q
def tUn (r : V → Hp → VK → Prop) (ta : TE) : TE := fun σ H Q => ta σ H fun x H1 => r x H1 Q
def rI (C : Int → Int → Prop) (g : Int → Int → V) : R2 := fun x y H Q => ∃ i j, x = .int i ∧ y = .int j ∧ C i j ∧ Q (g i j) H
def rI0 (g : Int → Int → V) : R2 := fun x y H Q => ∃ i j, x = .int i ∧ y = .int j ∧ Q (g i j) H
def rU (g : Int → V) : V → Hp → VK → Prop := fun x H Q => ∃ i, x = .int i ∧ Q (g i) H
section
variable {X : Cx} {a b c : Expr} {ta tb tc : TE} {pos : Pos}
theorem binT (ha : PE X a ta) (hb : PE X b tb) {pins : List (Addr × Obj)} {s : Shared} {σ : St} {H : Hp} {R : V → V → Hp → Prop} (I : Inv X pins σ H s)
    (h : ta σ H fun x H1 => tb σ H1 fun y H2 => R x y H2) {Q : Value → Shared → Prop} {f : Value → Value → Sem Value}
    (hf : ∀ v u s2 x y H2, Inv X pins σ H2 s2 → RelV x v → RelV y u → R x y H2 → wpAny (model X.prog X.w) X.A (f v u) Q X.xe s2) :
    wpAny (model X.prog X.w) X.A (eval a X.env) (fun v s₁ => wpAny (model X.prog X.w) X.A (eval b X.env) (fun u s₂ => wpAny (model X.prog X.w) X.A (f v u) Q X.xe s₂) X.xe s₁) X.xe s := by
  refine thn (ha pins s σ H _ I h) fun v s1 ⟨x, H1, I1, r1, q1⟩ => ?_
  refine thn (hb pins s1 σ H1 _ I1 q1) fun u s2 ⟨y, H2, I2, r2, q2⟩ => ?_
  exact hf v u s2 x y H2 I2 r1 r2 q2
theorem pe_op {op : Operator} {r : R2} (ho : OpR X (binaryOp op) r) (ha : PE X a ta) (hb : PE X b tb) : PE X (.BinOp a op b pos) (tOp r ta tb) := by
  intro pins s σ H Q I h
  exact wpAny_BinOp (binT ha hb I h fun v u s2 x y H2 I2 rx ry q => ho pins s2 σ H2 x y v u Q I2 rx ry q)
theorem pe_un {op : UnaryOp} {r : V → Hp → VK → Prop} (ho : UnR X (unaryOp op) r) (ha : PE X a ta) : PE X (.UnaryOp op a pos) (tUn r ta) := by
  intro pins s σ H Q I h
  exact UnaryOp_ (thn (ha pins s σ H _ I h) fun v s1 ⟨x, H1, I1, r1, q1⟩ => ho pins s1 σ H1 x v Q I1 r1 q1)
theorem opI {f : Value → Value → Sem Value} {C : Int → Int → Prop} {g : Int → Int → Int}
    (rule : ∀ (i j : Int) (t u : Tok) (s : Shared) (Q : Value → Shared → Prop) (E : Value → Shared → Prop), C i j → Q (.int (g i j) s.toks) { s with toks := s.toks + 1 } → wpAny (model X.prog X.w) X.A (f (.int i t) (.int j u)) Q E s) :
    OpR X f (rI C fun i j => .int (g i j)) := by
  intro pins s σ H x y v u Q I rx ry h
  obtain ⟨i, j, rfl, rfl, hc, q⟩ := h
  obtain ⟨t, rfl⟩ := rx
  obtain ⟨t', rfl⟩ := ry
  exact rule i j t t' s _ _ hc ⟨.int (g i j), H, I.tok _, ⟨_, rfl⟩, q⟩
theorem opI0 {f : Value → Value → Sem Value} {g : Int → Int → Int}
    (rule : ∀ (i j : Int) (t u : Tok) (s : Shared) (Q : Value → Shared → Prop) (E : Value → Shared → Prop), Q (.int (g i j) s.toks) { s with toks := s.toks + 1 } → wpAny (model X.prog X.w) X.A (f (.int i t) (.int j u)) Q E s) :
    OpR X f (rI0 fun i j => .int (g i j)) := by
  intro pins s σ H x y v u Q I rx ry h
  obtain ⟨i, j, rfl, rfl, q⟩ := h
  obtain ⟨t, rfl⟩ := rx
  obtain ⟨t', rfl⟩ := ry
  exact rule i j t t' s _ _ ⟨.int (g i j), H, I.tok _, ⟨_, rfl⟩, q⟩
theorem opB0 {f : Value → Value → Sem Value} {g : Int → Int → Bool}
    (rule : ∀ (i j : Int) (t u : Tok) (s : Shared) (Q : Value → Shared → Prop) (E : Value → Shared → Prop), Q (.bool (g i j)) s → wpAny (model X.prog X.w) X.A (f (.int i t) (.int j u)) Q E s) :
    OpR X f (rI0 fun i j => .bl (g i j)) := by
  intro pins s σ H x y v u Q I rx ry h
  obtain ⟨i, j, rfl, rfl, q⟩ := h
  obtain ⟨t, rfl⟩ := rx
  obtain ⟨t', rfl⟩ := ry
  exact rule i j t t' s _ _ ⟨.bl (g i j), H, I, rfl, q⟩
def CPow (i j : Int) : Prop := 0 ≤ j ∧ j ≤ 1000000 ∧ i.natAbs < 2 ^ 64
def CMul (i j : Int) : Prop := (-(2 ^ 64) < i ∧ i < 2 ^ 64) ∨ (-(2 ^ 64) < j ∧ j < 2 ^ 64)
theorem CMul.ok {i j : Int} (h : CMul i j) : IntMulOk i j := by
  rcases h with ⟨h1, h2⟩ | ⟨h1, h2⟩
  · exact .of_left (intBits_le_64 h1 h2)
  · exact .of_right (intBits_le_64 h1 h2)
theorem op_add : OpR X (binaryOp .Add) (rI0 fun i j => .int (i + j)) := opI0 fun _ _ _ _ _ _ _ q => add_int q
theorem op_sub : OpR X (binaryOp .Sub) (rI0 fun i j => .int (i - j)) := opI0 fun _ _ _ _ _ _ _ q => sub_int q
theorem op_modN : OpR X (binaryOp .Mod) (rI (fun _ j => j ≠ 0) fun i j => .int (i.fmod j)) := opI fun _ _ _ _ _ _ _ hc q => mod_int' hc q
theorem op_pow : OpR X (binaryOp .Pow) (rI CPow fun i j => .int (i ^ j.toNat)) := opI fun _ _ _ _ _ _ _ hc q => pow_int_small hc.1 hc.2.1 hc.2.2 q
theorem unI {f : Value → Sem Value} {g : Int → Int}
    (rule : ∀ (i : Int) (t : Tok) (s : Shared) (Q : Value → Shared → Prop) (E : Value → Shared → Prop), Q (.int (g i) s.toks) { s with toks := s.toks + 1 } → wpAny (model X.prog X.w) X.A (f (.int i t)) Q E s) :
    UnR X f (rU fun i => .int (g i)) := by
  intro pins s σ H x v Q I rx h
  obtain ⟨i, rfl, q⟩ := h
  obtain ⟨t, rfl⟩ := rx
  exact rule i t s _ _ ⟨.int (g i), H, I.tok _, ⟨_, rfl⟩, q⟩
theorem un_neg : UnR X (unaryOp .USub) (rU fun i => .int (-i)) := unI fun _ _ _ _ _ q => neg_int q
end
def scal : V → V → Bool
  | .non, .non => true | .non, .int _ => true | .int _, .non => true | .non, .bl _ => true | .bl _, .non => true | .non, .str _ => true | .str _, .non => true
  | .int _, .int _ => true | .bl _, .bl _ => true | .str _, .str _ => true | .byt _, .byt _ => true
  | .int _, .str _ => true | .str _, .int _ => true | .bl _, .str _ => true | .str _, .bl _ => true
  | _, _ => false
def rEq : R2 := fun x y H Q => scal x y = true ∧ Q (.bl (decide (x = y))) H
def rNe : R2 := fun x y H Q => scal x y = true ∧ Q (.bl (!decide (x = y))) H
section
variable {X : Cx} {a b c : Expr} {ta tb tc : TE} {pos : Pos}
theorem fin_bl {pins : List (Addr × Obj)} {σ : St} {H : Hp} {s : Shared} {Q : VK} {k k' : Bool} (I : Inv X pins σ H s) (q : Q (.bl k) H) (e : k = k') : EP X pins σ Q (.bool k') s := by
  subst e
  exact ⟨.bl k, H, I, rfl, q⟩
theorem op_lt : OpR X (compareOp .Lt) (rI0 fun i j => .bl (decide (i < j))) := opB0 fun _ _ _ _ _ _ _ q => lt_int q
theorem op_le : OpR X (compareOp .LtE) (rI0 fun i j => .bl (decide (i ≤ j))) := opB0 fun _ _ _ _ _ _ _ q => le_int q
theorem op_gt : OpR X (compareOp .Gt) (rI0 fun i j => .bl (decide (j < i))) := opB0 fun _ _ _ _ _ _ _ q => gt_int q
theorem op_ge : OpR X (compareOp .GtE) (rI0 fun i j => .bl (decide (j ≤ i))) := opB0 fun _ _ _ _ _ _ _ q => ge_int q
theorem op_isN : OpR X (compareOp .Is) (fun x y H Q => y = .non ∧ Q (.bl (decide (x = .non))) H) := by
  intro pins s σ H x y v u Q I rx ry h
  obtain ⟨rfl, q⟩ := h
  cases ry
  refine is_none_gen (fin_bl I q ?_)
  cases x <;> first
    | (cases rx; rfl)
    | (obtain ⟨t, rfl⟩ := rx; rfl)
theorem OpR.or {f : Value → Value → Sem Value} {r r' : R2} (h : OpR X f r) (h' : OpR X f r') : OpR X f (fun x y H Q => r x y H Q ∨ r' x y H Q) := by
  intro pins s σ H x y v u Q I rx ry q
  rcases q with q | q
  · exact h pins s σ H x y v u Q I rx ry q
  · exact h' pins s σ H x y v u Q I rx ry q
theorem nomark (b : Expr) {op : CmpOp} (h : op ≠ .In := by decide) (h2 : op ≠ .NotIn := by decide) : behindInMarks op b = false := by
  have e1 : (op == CmpOp.In) = false := by cases op <;> first | rfl | exact absurd rfl h
  have e2 : (op == CmpOp.NotIn) = false := by cases op <;> first | rfl | exact absurd rfl h2
  cases b <;> simp [behindInMarks, e1, e2]
theorem pe_cmpR {op : CmpOp} {r : R2} (ho : OpR X (compareOp op) r) (ha : PE X a ta) (hb : PE X b tb) (hm : behindInMarks op b = false) : PE X (.Compare a [op] [b] pos) (tOp r ta tb) := by
  intro pins s σ H Q I h
  exact wpAny_Compare1 (binT ha hb I h fun v u s2 x y H2 I2 rx ry q => ho pins s2 σ H2 x y v u Q I2 rx ry q) hm
def tTest (t : TE) : TT := fun σ H Q => t σ H fun x H' => ∃ k, x = .bl k ∧ Q k H'
theorem pt_cmpR {op : CmpOp} {r : R2} (ho : OpR X (compareOp op) r) (ha : PE X a ta) (hb : PE X b tb) (hm : behindInMarks op b = false) : PT X (.Compare a [op] [b] pos) (tTest (tOp r ta tb)) := by
  intro pins s σ H Q I h
  refine wpAny_isTrue_Compare1 (thn (ha pins s σ H _ I h) fun v s1 ⟨x, H1, I1, r1, q1⟩ => thn (hb pins s1 σ H1 _ I1 q1) fun u s2 ⟨y, H2, I2, r2, q2⟩ =>
    thn (ho pins s2 σ H2 x y v u _ I2 r1 r2 q2) fun c s3 ⟨z, H3, I3, r3, k, e, q3⟩ => ?_) hm
  subst e
  cases r3
  exact wpAny_truthy_bool ⟨H3, I3, q3⟩
theorem line63 : (sizeLine : Nat) < 2 ^ 63 := by rw [sizeLine_eq]; decide
theorem op_add_str : OpR X (binaryOp .Add) (fun x y H Q => ∃ i j, x = .str i ∧ y = .str j ∧ i.length + j.length ≤ sizeLine ∧ Q (.str (i ++ j)) H) := by
  intro pins s σ H x y v u Q I rx ry h
  obtain ⟨i, j, rfl, rfl, hz, q⟩ := h
  obtain ⟨t, rfl⟩ := rx
  obtain ⟨t', rfl⟩ := ry
  exact add_str (fun t' tk => ⟨.str (i ++ j), H, I.tok _, ⟨_, rfl⟩, q⟩) hz
theorem vals1 {x : V} {us : List Value} (r : Vals [x] us) : ∃ u, us = [u] ∧ RelV x u := by
  cases r with
  | cons r1 r2 => cases r2; exact ⟨_, rfl, r1⟩
theorem vals2 {x y : V} {us : List Value} (r : Vals [x, y] us) : ∃ u w', us = [u, w'] ∧ RelV x u ∧ RelV y w' := by
  cases r with
  | cons r1 r2 =>
    cases r2 with
    | cons r3 r4 => cases r4; exact ⟨_, _, rfl, r1, r3⟩
theorem call_abs : CallR X (.builtin "abs") (fun xs H Q => ∃ i, xs = [.int i] ∧ Q (.int (if i < 0 then -i else i)) H) := by
  intro pins s σ H xs us Q I r h
  obtain ⟨i, rfl, q⟩ := h
  obtain ⟨u, rfl, t, rfl⟩ := vals1 r
  exact call_abs_int fun u tk => ⟨.int (if i < 0 then -i else i), H, I.tok _, ⟨_, rfl⟩, q⟩
theorem call_max2 (hc : X.calm = true) : CallR X (.builtin "max") (fun xs H Q => ∃ i j, xs = [.int i, .int j] ∧ Q (.int (if j > i then j else i)) H) := by
  intro pins s σ H xs us Q I r h
  obtain ⟨i, j, rfl, q⟩ := h
  obtain ⟨u, w', rfl, ⟨t, rfl⟩, ⟨t', rfl⟩⟩ := vals2 r
  refine max_two_ints (I.ok.hd hc) fun h' tk k => ⟨_, H, I.kept k, ?_, q⟩
  by_cases hj : j > i
  · rw [if_pos hj, if_pos hj]; exact ⟨_, rfl⟩
  · rw [if_neg hj, if_neg hj]; exact ⟨_, rfl⟩
theorem call_min2 (hc : X.calm = true) : CallR X (.builtin "min") (fun xs H Q => ∃ i j, xs = [.int i, .int j] ∧ Q (.int (if j < i then j else i)) H) := by
  intro pins s σ H xs us Q I r h
  obtain ⟨i, j, rfl, q⟩ := h
  obtain ⟨u, w', rfl, ⟨t, rfl⟩, ⟨t', rfl⟩⟩ := vals2 r
  refine min_two_ints (I.ok.hd hc) fun h' tk k => ⟨_, H, I.kept k, ?_, q⟩
  by_cases hj : j < i
  · rw [if_pos hj, if_pos hj]; exact ⟨_, rfl⟩
  · rw [if_neg hj, if_neg hj]; exact ⟨_, rfl⟩
theorem call_int1 : CallR X (.type "int") (fun xs H Q => (∃ i, xs = [.int i] ∧ Q (.int i) H) ∨ ∃ k, xs = [.bl k] ∧ Q (.int (if k then 1 else 0)) H) := by
  intro pins s σ H xs us Q I r h
  rcases h with ⟨i, rfl, q⟩ | ⟨k, rfl, q⟩
  · obtain ⟨u, rfl, t, rfl⟩ := vals1 r
    exact call_int_int ⟨.int i, H, I, ⟨_, rfl⟩, q⟩
  · obtain ⟨u, rfl, r1⟩ := vals1 r
    cases r1
    exact call_int_bool ⟨.int (if k then 1 else 0), H, I.tok _, ⟨_, rfl⟩, q⟩
end
end L2
namespace L2
open PySem PySem.Spec PyProof.Rows
section
variable {prog : Program} {w : World} {A : Around} {E : Value → Shared → Prop} {s : Shared} {K : PySem.W.Frag} {x dx C f : Addr} {mA : Str → Option Value} {name : Str} {v : Value}
end
section
variable {P : Program} {w : World} {H H' : Hp} {h h' : Heap} {a C dx : Addr} {fs fs' : List (Str × V)}
end
structure Cls (K : PySem.W.Frag) (C : Addr) : Prop where
  pg : PySem.W.plainGet K C Str.empty = true
  hd : PySem.W.hasDictIn K C = true
  po : PySem.W.plainOver K C = true
  sa : PySem.W.findIn K (.ref C) "__setattr__" = some (some (.builtin "object.__setattr__"))
theorem Cls.get {K : PySem.W.Frag} {C : Addr} (c : Cls K C) (f : Str) : PySem.W.plainGet K C f = true := c.pg
section
variable {X : Cx} {pins : List (Addr × Obj)} {σ : St} {H : Hp} {s : Shared} {a C dx : Addr} {fs : List (Str × V)} {f : Str} {v : V} {A : Around} {E : Value → Shared → Prop}
end
section
variable {X : Cx} {o e value : Expr} {f : Str} {pos pos' tpos : Pos} {ta tv : TE}
def rSub : V → V → Hp → VK → Prop := fun x y H Q => ∃ i j, x = .int i ∧ y = .int j ∧ Q (.int (i - j)) H
end
section
variable {X : Cx} {pins : List (Addr × Obj)} {σ : St} {H : Hp} {s : Shared} {A : Around} {E : Value → Shared → Prop} {Q : Value → Shared → Prop} {c : Value} {b : Bool}
end
end L2
namespace L2
open PySem PySem.Spec PyProof.Rows
structure Room (k : Nat) (A : Around) : Prop where
  hd : A.handled = none
  dp : A.depth + 3 * k + 5 < recursionLimit
  un : A.units + 16 * k + 200 < cLine
theorem Room.mono {j k : Nat} {A : Around} (r : Room k A) (h : j ≤ k) : Room j A := ⟨r.hd, by have := r.dp; omega, by have := r.un; omega⟩
theorem Room.deeper {k : Nat} {A : Around} (r : Room (k + 1) A) (env : Env) : Room k (A.deeper env) :=
  ⟨r.hd, by have := r.dp; show A.depth + 1 + 3 * k + 5 < _; omega, by have := r.un; show A.units + 3 + 16 * k + 200 < _; omega⟩
theorem Room.in1 {k : Nat} {A : Around} (r : Room (k + 1) A) : Room k A.in1 :=
  ⟨r.hd, by have := r.dp; show A.depth + 3 * k + 5 < _; omega, by have := r.un; show A.units + 1 + 16 * k + 200 < _; omega⟩
theorem Room.depth {k : Nat} {A : Around} (r : Room k A) : A.depth < recursionLimit := by have := r.dp; omega
theorem Room.units {k : Nat} {A : Around} (r : Room k A) : A.units + 64 < cLine := by have := r.un; omega
def tNil : TA := fun _ H Q => Q [] H
def tCons (ta : TE) (tr : TA) : TA := fun σ H Q => ta σ H fun x H1 => tr σ H1 fun xs H2 => Q (x :: xs) H2
section
variable {X : Cx} {e : Expr} {es : List Expr} {te : TE} {t : TA} {pos : Pos}
theorem pa_nil : PA X [] tNil := fun _ _ _ _ H Q I h => Calls.spliced_nil ⟨[], H, I, .nil, h⟩
theorem pa_cons (ha : PE X e te) (hr : PA X es t) (hs : starEach (e :: es) X.env = (false, eval e X.env) :: starEach es X.env := by rfl) : PA X (e :: es) (tCons te t) := by
  intro pos pins s σ H Q I h
  rw [hs]
  show wpAny _ _ (spliced ((false, eval e X.env) :: backTo pos (starEach es X.env))) _ _ s
  refine Calls.spliced_cons (thn (ha pins s σ H _ I h) fun u s1 ⟨x, H1, I1, r1, q1⟩ => ?_)
  exact thn (hr pos pins s1 σ H1 _ I1 q1) fun us s2 ⟨xs, H2, I2, r2, q2⟩ => ⟨x :: xs, H2, I2, .cons r1 r2, q2⟩
def tTup (t : TA) : TE := fun σ H Q => t σ H fun xs H1 => xs.length ≤ sizeLine ∧ ∀ p, H1 p = none → Q (.ref p) (upd H1 p (.tup xs))
def tLst (t : TA) : TE := fun σ H Q => t σ H fun xs H1 => xs.length ≤ sizeLine ∧ ∀ p, H1 p = none → Q (.ref p) (upd H1 p (.lst xs))
theorem pe_tup {x1} (h : PA X es t) : PE X (.Tuple es x1 pos) (tTup t) := by
  intro pins s σ H Q I hq
  refine wpAny_Tuple_spliced (thn (h pos pins s σ H _ I hq) fun us s1 ⟨xs, H1, I1, r, z, q⟩ => ⟨by rw [← r.length]; exact z, ?_⟩)
  have hf : H1 s1.heap.objs.size = none := I1.hok.fresh (Nat.le_refl _)
  refine ⟨.ref s1.heap.objs.size, upd H1 s1.heap.objs.size (.tup xs), I1.laid (t' := s1.toks) (fun b u e => Heap.get?_push_of_some _ e) (Nat.le_refl _) ?_, rfl, q _ hf⟩
  exact ⟨z, us, r, ⟨_, Heap.get?_push_size _ rfl, rfl, _, rfl⟩⟩
theorem pe_lst (h : PA X es t) : PE X (.List es pos) (tLst t) := by
  intro pins s σ H Q I hq
  refine wpAny_List_spliced (thn (h pos pins s σ H _ I hq) fun us s1 ⟨xs, H1, I1, r, z, q⟩ => ⟨by rw [← r.length]; exact z, ?_⟩)
  have hf : H1 s1.heap.objs.size = none := I1.hok.fresh (Nat.le_refl _)
  refine ⟨.ref s1.heap.objs.size, upd H1 s1.heap.objs.size (.lst xs), I1.laid (t' := s1.toks) (fun b u e => Heap.get?_push_of_some _ e) (Nat.le_refl _) ?_, rfl, q _ hf⟩
  exact ⟨z, us, 0, r, Heap.get?_push_size _ rfl⟩
end
abbrev Sp := List V → Hp → VK → XK → Prop
abbrev CXT := List Env → Hp → Shared → XK → Value → Shared → Prop
structure Env0 (P : Program) (w : World) (K : PySem.W.Frag) (mg : Str → Option Value) (base : Heap) (A : Around) (outer : List Env) (s : Shared) (H : Hp) : Prop where
  frames : A.frames = some outer
  mod : Mod K mg base
  bs : ∀ b o, base.get? b = some o → s.heap.get? b = some o ∧ H b = none
  bsz : base.objs.size ≤ s.heap.objs.size
  funs : s.heap.FunFrames base outer
  frf : ∀ b ∈ frs outer, H b = none
  hok : HOk P w H s.heap
  bare : AllBare s.gens
def CE (outer : List Env) (P : Program) (w : World) (H : Hp) (s : Shared) (Q : VK) (u : Value) (s' : Shared) : Prop :=
  ∃ v H', s'.os = s.os ∧ AllBare s'.gens ∧ Un (frs outer) [] H H' s.heap s'.heap ∧ HOk P w H' s'.heap ∧ RelV v u ∧ Q v H'
def CR (CX : CXT) (outer : List Env) (P : Program) (w : World) (H : Hp) (s : Shared) (Q : VK) (E : XK) (r : Result) (s' : Shared) : Prop :=
  match r with
  | .ok (.ret u) => CE outer P w H s Q u s'
  | .ok _ => False
  | .error e => CX outer H s E e s'
structure FnOk (P : Program) (w : World) (K : PySem.W.Frag) (mg : Str → Option Value) (base : Heap) (CX : CXT) (k : Nat) (f : Addr) (fd : FuncData) (ps : List Str) (sp : Sp) : Prop where
  len : ∀ vs H Q E, sp vs H Q E → vs.length = ps.length
  run : ∀ (A : Around) (outer : List Env) (s : Shared) (H : Hp) (args : Args) (us : List Value) (vs : List V) (Q : VK) (E : XK), Room k A → Env0 P w K mg base A outer s H → BindsTo s fd args (ps.zip us) → Vals vs us → sp vs H Q E →
    codeAny (model P w) A (.call (.ref f) args) (CR CX outer P w H s Q E) s
theorem FnOk.mono {P : Program} {w : World} {K : PySem.W.Frag} {mg : Str → Option Value} {base : Heap} {CX : CXT} {j k : Nat} {f : Addr} {fd : FuncData} {ps : List Str} {sp : Sp} (F : FnOk P w K mg base CX j f fd ps sp) (h : j ≤ k) :
    FnOk P w K mg base CX k f fd ps sp := ⟨F.len, fun A outer s H args us vs Q E hr => F.run A outer s H args us vs Q E (hr.mono h)⟩
theorem Env0.in1 {P : Program} {w : World} {K : PySem.W.Frag} {mg : Str → Option Value} {base : Heap} {A : Around} {outer : List Env} {s : Shared} {H : Hp} (e : Env0 P w K mg base A outer s H) :
    Env0 P w K mg base A.in1 outer s H := ⟨e.frames, e.mod, e.bs, e.bsz, e.funs, e.frf, e.hok, e.bare⟩
section
variable {X : Cx} {pins : List (Addr × Obj)} {σ : St} {H : Hp} {s s' : Shared}
theorem Inv.env0 (I : Inv X pins σ H s) : Env0 X.prog X.w X.K X.mg X.base X.A X.stack s H :=
  ⟨I.ok.frames, I.ok.mod, I.bs, Nat.le_trans I.ok.bsz I.sz, I.stack, I.stkFree, I.hok, I.bare⟩
theorem Inv.after {Q : VK} {u : Value} (I : Inv X pins σ H s) (h : CE X.stack X.prog X.w H s Q u s') : EP X pins σ Q u s' := by
  obtain ⟨v, H', os, bare, un, hok, r, q⟩ := h
  obtain ⟨hh, g, d, t, os'⟩ := s'
  obtain rfl : os' = s.os := os
  exact ⟨v, H', I.call (h' := hh) (g' := g) (d' := d) (t' := t) (ch := []) un hok bare (fun b z => absurd z (by simp)), r, q⟩
end
def tCall (sp : Sp) (dvs : List V) (E : XK) (t : TA) : TE := fun σ H Q => t σ H fun vs H1 => sp (vs ++ dvs) H1 Q E
def Binds (K : PySem.W.Frag) (fd : FuncData) (ps : List Str) (ds : List Value) : Prop :=
  ∀ (s : Shared) (us : List Value), K.In s.heap → (us ++ ds).length = ps.length → BindsTo s fd ⟨us, []⟩ (ps.zip (us ++ ds))
theorem Binds.all {K : PySem.W.Frag} {fd : FuncData} {ps : List Str} (h : ∀ us : List Value, us.length = ps.length → bindArgs fd ⟨us, []⟩ = pure (ps.zip us)) : Binds K fd ps [] := fun s us _ hl => by
  rw [List.append_nil] at hl ⊢
  exact .of_eq (h us hl)
def Passes (CX : CXT) (X : Cx) (E : XK) : Prop := ∀ (pins : List (Addr × Obj)) (σ : St) (H : Hp) (s : Shared) (e : Value) (s' : Shared), Inv X pins σ H s → CX X.stack H s E e s' → X.xe e s'
section
variable {X : Cx} {CX : CXT} {k : Nat} {f C : Addr} {fd : FuncData} {ps : List Str} {sp : Sp} {dvs : List V} {ds : List Value} {E : XK} {x m : Str} {p pos apos : Pos} {e o : Expr} {es : List Expr} {ta : TE} {t : TA}
theorem run_fn {pins : List (Addr × Obj)} {σ : St} {H : Hp} {s : Shared} {Q : VK} {us : List Value} {vs : List V} (F : FnOk X.prog X.w X.K X.mg X.base CX k f fd ps sp) (hr : Room k X.A) (hb : Binds X.K fd ps ds) (hd : Vals dvs ds) (hx : Passes CX X E)
    (I : Inv X pins σ H s) (r : Vals vs us) (h : sp (vs ++ dvs) H Q E) : wpAny (model X.prog X.w) X.A (call (.ref f) us) (EP X pins σ Q) X.xe s := by
  have r2 : Vals (vs ++ dvs) (us ++ ds) := r.append hd
  have hl : (us ++ ds).length = ps.length := by rw [← r2.length]; exact F.len _ _ _ _ h
  refine wpAny_call (codeAny_mono (F.run X.A X.stack s H ⟨us, []⟩ (us ++ ds) (vs ++ dvs) Q E hr I.env0 (hb s us I.kIn hl) r2 h) fun r s' hq => ?_)
  cases r with
  | error e => exact hx pins σ H s e s' I hq
  | ok fl =>
    cases fl with
    | ret u => exact I.after hq
    | next => exact False.elim hq
    | brk => exact False.elim hq
    | cont => exact False.elim hq
theorem pe_call (F : FnOk X.prog X.w X.K X.mg X.base CX k f fd ps sp) (hr : Room k X.A) (hg : Gl X x) (hm : X.mg x = some (.ref f)) (hk : PySem.W.keepIn X.K (.ref f) = true) (hb : Binds X.K fd ps ds) (hd : Vals dvs ds) (hx : Passes CX X E)
    (ha : PA X (e :: es) t) (hdb : (x == ("__debug__" : Str)) = false := by decide) (he : starEach (e :: es) X.env = (false, eval e X.env) :: starEach es X.env := by rfl) (hpl : (backTo pos (starEach es X.env)).any (·.1) = false := by rfl) :
    PE X (.Call (.Name x p) (e :: es) [] pos) (tCall sp dvs E t) := by
  intro pins s σ H Q I h
  refine wpAny_Call_Name_kw (ld_glob I hg hm ?_ hdb)
  refine PySem.W.callWith_K (h₀ := X.base) I.ok.mod.kin hk (thn (ha pos pins s σ H _ I h) fun us s1 ⟨vs, H1, I1, r, q⟩ => ⟨I1.kIn, ?_⟩) he hpl
  exact run_fn F hr hb hd hx I1 r q
end
section
variable {X : Cx} {CX : CXT} {k : Nat} {f C : Addr} {fd : FuncData} {ps ks : List Str} {sp : Sp} {E : XK} {x m : Str} {p pos apos kpos : Pos} {e o : Expr} {es : List Expr} {kws : List Keyword} {te ta : TE} {t tk : TA} {nm : Option Str}
variable {g : List Value → List Value → List Value} {gV : List V → List V → List V}
end
structure FnScope (N P : List Str) (sc : Scope) : Prop where
  kind : sc.kind = .function
  co : sc.isCoroutine = false
  gen : sc.isGenerator = false
  nd : N.Nodup
  pre : N.take P.length = P
  par : ∀ x ∈ P, sc.names.lookup x = some .local ∨ sc.names.lookup x = some .cell
  nofree : ∀ y ∈ sc.names, y.2 ≠ .free
theorem bindL_out {kindOf : Str → Option NameKind} {x : Str} : ∀ {binds : List (Str × Value)} {m : Str → Option Value}, (∀ v, (x, v) ∉ binds) → bindL kindOf binds m x = m x
  | [], _, _ => rfl
  | (n, v) :: r, m, h => by
    unfold bindL
    rw [bindL_out fun w hw => h w (List.mem_cons_of_mem _ hw)]
    split
    · have : x ≠ n := by rintro rfl; exact h v List.mem_cons_self
      simp [this]
    · rfl
theorem bindC_out {kindOf : Str → Option NameKind} {x : Str} : ∀ {binds : List (Str × Value)} {m : Str → Option Value}, (∀ v, (x, v) ∉ binds) → bindC kindOf binds m x = m x
  | [], _, _ => rfl
  | (n, v) :: r, m, h => by
    unfold bindC
    rw [bindC_out fun w hw => h w (List.mem_cons_of_mem _ hw)]
    split
    · rfl
    · have : x ≠ n := by rintro rfl; exact h v List.mem_cons_self
      simp [this]
theorem bindL_get {kindOf : Str → Option NameKind} {x : Str} {v : Value} : ∀ {P : List Str} {vs : List Value} {i : Nat} {m : Str → Option Value}, P.Nodup → P[i]? = some x → vs[i]? = some v → kindOf x = some .local →
    bindL kindOf (P.zip vs) m x = some v
  | [], _, _, _, _, h, _, _ => by simp at h
  | _ :: _, [], _, _, _, _, h, _ => by simp at h
  | p :: P, w :: vs, 0, m, nd, h1, h2, hk => by
    simp at h1 h2; subst h1; subst h2
    show bindL kindOf ((p, w) :: P.zip vs) m p = _
    unfold bindL
    rw [bindL_out fun v hv => (List.nodup_cons.mp nd).1 (List.of_mem_zip hv).1, if_pos hk]
    simp
  | p :: P, w :: vs, i + 1, m, nd, h1, h2, hk => by
    show bindL kindOf ((p, w) :: P.zip vs) m x = _
    unfold bindL
    exact bindL_get (i := i) (List.nodup_cons.mp nd).2 (by simpa using h1) (by simpa using h2) hk
theorem bindC_get {kindOf : Str → Option NameKind} {x : Str} {v : Value} : ∀ {P : List Str} {vs : List Value} {i : Nat} {m : Str → Option Value}, P.Nodup → P[i]? = some x → vs[i]? = some v → kindOf x ≠ some .local →
    bindC kindOf (P.zip vs) m x = some v
  | [], _, _, _, _, h, _, _ => by simp at h
  | _ :: _, [], _, _, _, _, h, _ => by simp at h
  | p :: P, w :: vs, 0, m, nd, h1, h2, hk => by
    simp at h1 h2; subst h1; subst h2
    show bindC kindOf ((p, w) :: P.zip vs) m p = _
    unfold bindC
    rw [bindC_out fun v hv => (List.nodup_cons.mp nd).1 (List.of_mem_zip hv).1, if_neg hk]
    simp
  | p :: P, w :: vs, i + 1, m, nd, h1, h2, hk => by
    show bindC kindOf ((p, w) :: P.zip vs) m x = _
    unfold bindC
    exact bindC_get (i := i) (List.nodup_cons.mp nd).2 (by simpa using h1) (by simpa using h2) hk
def start (N : List Str) (vs : List V) : St := vs.map some ++ List.replicate (N.length - vs.length) none
def cxOf (CX : CXT) (P : Program) (w : World) (K : PySem.W.Frag) (mg : Str → Option Value) (base : Heap) (N : List Str) (qual : Str) (scope : Scope) (f : Addr) (cd : Value) (A : Around) (outer : List Env) (s : Shared) (H : Hp) (E : XK) : Cx where
  prog := P
  w := w
  K := K
  mg := mg
  base := base
  A := A.deeper (envOfC qual scope s.heap.objs.size f cd)
  N := N
  s₀ := s
  H₀ := H
  env := envOfC qual scope s.heap.objs.size f cd
  outer := outer
  stack := envOfC qual scope s.heap.objs.size f cd :: outer
  ex := []
  calm := true
  fn := fun _ => true
  pn := []
  xe := fun e s' => wpAny (model P w) (A.deeper (envOfC qual scope s.heap.objs.size f cd)) (leaving (envOfC qual scope s.heap.objs.size f cd) e) (fun _ s'' => CX outer H s E e s'') (fun e' s'' => CX outer H s E e' s'') s'
theorem cell_has {sc : Scope} {n : Nat} {x : Str} (h : sc.names.lookup x = some .cell) : ∃ c, (cellsFrom n sc.names []).lookup x = some c := by
  have q := PySem.W.cellsFrom_some sc.names n [] (.inl h)
  exact Option.isSome_iff_exists.mp q
theorem inv_start {CX : CXT} {P : Program} {w : World} {K : PySem.W.Frag} {mg : Str → Option Value} {base : Heap} {N ps : List Str} {qual : Str} {scope : Scope} {f : Addr} {cd : Value} {A : Around} {outer : List Env} {s s1 : Shared} {H : Hp} {E : XK} {us : List Value} {vs : List V}
    (S : FnScope N ps scope) (hd : A.handled = none) (e0 : Env0 P w K mg base A outer s H) (hl : vs.length = ps.length) (r : Vals vs us)
    (x : InCallC s s.heap.objs.size (bindL (envOfC qual scope s.heap.objs.size f cd).kindOf (ps.zip us) fun _ => none) (cellsFrom (s.heap.objs.size + 1) scope.names []) (bindC (envOfC qual scope s.heap.objs.size f cd).kindOf (ps.zip us) fun _ => none) s1) :
    Inv (cxOf CX P w K mg base N qual scope f cd A outer s H E) [] (start N vs) H s1 := by
  have hpl : ps.length ≤ N.length := by have := congrArg List.length S.pre; rw [List.length_take] at this; omega
  obtain ⟨h1, tk, rfl, hk⟩ := x.done
  have noA : ∀ b : Addr, b ∉ (cxOf CX P w K mg base N qual scope f cd A outer s H E).ex := fun b z => absurd (show b ∈ ([] : List Addr) from z) (by simp)
  refine ⟨⟨e0.mod, S.kind, rfl, rfl, Nat.le_refl _, fun y z c h1 h2 => ?_, fun y hy => ?_, fun y c _ h => ?_, fun _ => hd, Around.frames_deeper e0.frames, .inr ⟨rfl, rfl⟩, fun b z => absurd z (noA b), e0.bs, e0.bsz, fun b _ _ => noA b, fun b z => absurd z (noA b), e0.funs, e0.frf⟩,
    rfl, e0.bare, Un.kept hk, ⟨_, x.toInCall.ns, fun i y v h1 h2 h3 => ?_⟩, fun y c h => ⟨_, x.cell y c h⟩, e0.hok.fresh (Nat.le_refl _), fun y c h => ?_, fun p hp => absurd (show p ∈ ([] : List (Addr × Obj)) from hp) (by simp), e0.hok.kept hk, ?_⟩
  · exact name_of_addr x.apart (PySem.mem_of_lookup h1) (PySem.mem_of_lookup h2)
  · have hy : scope.names.lookup y = some .cell ∨ scope.names.lookup y = some .free := hy
    rcases hy with hy | hy
    · exact cell_has hy
    · exact absurd rfl (S.nofree _ (PySem.mem_of_lookup hy))
  · exact Nat.le_of_lt (x.above y c (PySem.mem_of_lookup h))
  · have hi : i < vs.length := by
      unfold start at h2
      by_cases hi : i < vs.length
      · exact hi
      · rw [List.getElem?_append_right (by simpa using hi)] at h2
        rw [List.getElem?_replicate] at h2
        split at h2 <;> cases h2
    have ha : vs[i]? = some v := by
      unfold start at h2
      rw [List.getElem?_append_left (by simpa using hi), List.getElem?_map] at h2
      cases e : vs[i]? with
      | none => rw [e] at h2; cases h2
      | some a => rw [e] at h2; cases h2; rfl
    obtain ⟨u, hu, rv⟩ := r.get ha
    have hp : ps[i]? = some y := by
      rw [← S.pre, List.getElem?_take_of_lt (by omega)]; exact h1
    have ndP : ps.Nodup := by rw [← S.pre]; exact S.nd.sublist (List.take_sublist _ _)
    refine ⟨u, rv, ?_⟩
    rcases S.par y (List.mem_of_getElem? hp) with k | k
    · exact .inl ⟨k, bindL_get ndP hp hu k⟩
    · obtain ⟨c, e⟩ := cell_has (n := s.heap.objs.size + 1) k
      refine .inr ⟨.inl k, c, e, ?_⟩
      have q := x.cell y c e
      rw [bindC_get ndP hp hu (by show scope.names.lookup y ≠ _; rw [k]; decide)] at q
      exact q
  · exact e0.hok.fresh (Nat.le_of_lt (x.above y c (PySem.mem_of_lookup h)))
  · unfold start
    show _ = N.length
    rw [List.length_append, List.length_map, List.length_replicate]
    omega
theorem fn_of {CX : CXT} {P : Program} {w : World} {K : PySem.W.Frag} {mg : Str → Option Value} {base : Heap} {k : Nat} {f : Addr} {name qual : Str} {params : Arguments} {body : List Stmt} {scope : Scope} {dV kV doc pm cdv ct oc : Value} {an od : Option Addr}
    {osl : Array (Option Value)} {N ps : List Str} {sp : Sp} (lk : K.lookup f = some ⟨oc, od, .func (PySem.W.fnOf name qual params body scope dV kV doc pm an cdv ct), osl⟩) (hcd : PySem.W.codeIn K cdv qual = true) (S : FnScope N ps scope)
    (len : ∀ vs H Q E, sp vs H Q E → vs.length = ps.length)
    (hbody : ∀ (A : Around) (outer : List Env) (s : Shared) (H : Hp) (vs : List V) (Q : VK) (E : XK), Room k (A.deeper (envOfC qual scope s.heap.objs.size f cdv)) → sp vs H Q E →
      ∃ t, PSs (cxOf CX P w K mg base N qual scope f cdv A outer s H E) body t ∧ t { nx := fun _ H' => Q .non H', rt := Q } (start N vs) H) :
    FnOk P w K mg base CX (k + 1) f (PySem.W.fnOf name qual params body scope dV kV doc pm an cdv ct) ps sp := by
  refine ⟨len, fun A outer s H args us vs Q E hr e0 hb r hsp => ?_⟩
  have hl := len _ _ _ _ hsp
  have KX : K.In s.heap := e0.mod.kin.keeps fun b o e => (e0.bs b o e).1
  have lim : s.heap.NoLimit := e0.mod.nolimit.keeps fun b o e => (e0.bs b o e).1
  have hkind : ∀ y ∈ ps.zip us, scope.names.lookup y.1 = some .local ∨ (scope.names.lookup y.1 = some .cell ∧ ((cellsFrom (s.heap.objs.size + 1) scope.names []).lookup y.1).isSome = true) := fun ⟨n, v⟩ hy => by
    rcases S.par n (List.of_mem_zip hy).1 with q | q
    · exact .inl q
    · exact .inr ⟨q, PySem.W.cellsFrom_some _ _ _ (.inl q)⟩
  refine codeAny_call_function hr.depth (KX _ _ lk) rfl S.co S.gen rfl (PySem.W.codeRec_of KX hcd) (hb _ _ _ _ ?_)
  refine wpAny_newFunctionEnv_cells S.kind hkind fun env he s1 x => ?_
  subst he
  refine ⟨lim.keeps x.toInCall.keep, codeAny_func ?_⟩
  obtain ⟨t, ht, hq⟩ := hbody A outer s H vs Q E (hr.deeper _) hsp
  have I : Inv (cxOf CX P w K mg base N qual scope f cdv A outer s H E) [] (start N vs) H s1 := inv_start S hr.hd e0 hl r x
  refine wpAny_mono (ht [] s1 (start N vs) H _ I hq) (fun fl s' hs => ?_) fun e s' hs => hs
  have fin : ∀ {σ' : St} {H' : Hp} {v : V} {u : Value}, Inv (cxOf CX P w K mg base N qual scope f cdv A outer s H E) [] σ' H' s' → RelV v u → Q v H' → CE outer P w H s Q u s' :=
    fun {σ' H' v u} J rv q => ⟨v, H', J.os, J.bare, J.base, J.hok, rv, q⟩
  cases fl with
  | ret u =>
    obtain ⟨v, σ', H', J, rv, q⟩ := hs
    exact fin J rv q
  | next =>
    obtain ⟨σ', H', J, q⟩ := hs
    exact fin (v := V.non) (u := Value.none) J rfl q
  | brk =>
    obtain ⟨_, _, _, q⟩ := hs
    exact False.elim q
  | cont =>
    obtain ⟨_, _, _, q⟩ := hs
    exact False.elim q
end L2
namespace L2
open PySem PySem.Spec PyProof.Rows
section
variable {X : Cx} {x : Str} {p pos : Pos} {e : Expr} {es : List Expr} {t : TA} {id T : String} {r : List V → Hp → VK → Prop}
def tCB (r : List V → Hp → VK → Prop) (t : TA) : TE := fun σ H Q => t σ H fun vs H1 => r vs H1 Q
theorem pe_callB (hc : CallR X (.builtin id) r) (hg : Gl X x) (hm : X.mg x = none) (hv : bootBuiltins x = some (.builtin id)) (ha : PA X (e :: es) t) (hn : x ≠ "__name__" := by decide) (hdb : (x == ("__debug__" : Str)) = false := by decide)
    (he : starEach (e :: es) X.env = (false, eval e X.env) :: starEach es X.env := by rfl) (hpl : (backTo pos (starEach es X.env)).any (·.1) = false := by rfl) : PE X (.Call (.Name x p) (e :: es) [] pos) (tCB r t) := by
  intro pins s σ H Q I h
  refine wpAny_Call_Name_kw (ld_blt I hg hm hv ?_ hn hdb)
  exact PyProof.Rows.callWith_builtin1 (thn (ha pos pins s σ H _ I h) fun us s1 ⟨vs, H1, I1, r1, q1⟩ => hc pins s1 σ H1 vs us Q I1 r1 q1) he hpl
theorem pe_callTy (hc : CallR X (.type T) r) (hg : Gl X x) (hm : X.mg x = none) (hv : bootBuiltins x = some (.type T)) (ha : PA X (e :: es) t) (hn : x ≠ "__name__" := by decide) (hdb : (x == ("__debug__" : Str)) = false := by decide)
    (he : starEach (e :: es) X.env = (false, eval e X.env) :: starEach es X.env := by rfl) (hpl : (backTo pos (starEach es X.env)).any (·.1) = false := by rfl) : PE X (.Call (.Name x p) (e :: es) [] pos) (tCB r t) := by
  intro pins s σ H Q I h
  refine wpAny_Call_Name_kw (ld_blt I hg hm hv ?_ hn hdb)
  exact PyProof.Rows.callWith_type1 (thn (ha pos pins s σ H _ I h) fun us s1 ⟨vs, H1, I1, r1, q1⟩ => hc pins s1 σ H1 vs us Q I1 r1 q1) he hpl
end
end L2
namespace HT
open PySem PyProof.Rows
section
open PySem.SeqAt
open PySem.AutoSeq1 (wpAny_loadPart')
open PySem.MeetsSeq PySem.MeetsSeq2 PySem.MeetsSeq3
end
section
variable {prog : Program} {w : World} {A : Around} {E : Value → Shared → Prop} {s : Shared}
theorem cat_tup {t b : Addr} {vs ws : List Value} {Q : Value → Shared → Prop} (ht : IsTup s.heap t vs.toArray) (hb : IsTup s.heap b ws.toArray) (hv : vs ≠ [])
    (h1 : ws = [] → Q (.ref t) s) (h2 : ws ≠ [] → Q (.ref s.heap.objs.size) { s with heap := s.heap.push { cls := .type "tuple", data := .seq (vs ++ ws).toArray } })
    (hsz : vs.length + ws.length ≤ sizeLine) : wpAny (model prog w) A (binaryOp .Add (.ref t) (.ref b)) Q E s := by
  obtain ⟨⟨cls, dd, data, sl⟩, ho, hc, n, hd⟩ := id ht
  obtain ⟨⟨cls2, dd2, data2, sl2⟩, ho2, hc2, n2, hd2⟩ := id hb
  simp only at hc hd hc2 hd2
  subst hc hd hc2 hd2
  have e : vs.toArray ++ ws.toArray = (vs ++ ws).toArray := by simp
  by_cases hw : ws = []
  · exact concat_meets ⟨_, ho, rfl⟩ ⟨_, ho2, rfl⟩ noFill_tuple_add seq_tuple_add PySem.F.slot_tuple_add PySem.F.entry_tuple_add (PySem.F.args_tuple_add_2 _ _)
      (tuple_addW1 t b vs.toArray ws.toArray n n2 dd dd2 sl sl2 (by simpa using hv) (by simp [hw])) ⟨ho, ho2, h1 hw⟩
  · refine concat_meets ⟨_, ho, rfl⟩ ⟨_, ho2, rfl⟩ noFill_tuple_add seq_tuple_add PySem.F.slot_tuple_add PySem.F.entry_tuple_add (PySem.F.args_tuple_add_2 _ _)
      (tuple_addW2 t b vs.toArray ws.toArray n n2 dd dd2 sl sl2 (by simpa using hv) (by simpa using hw) (by rw [List.size_toArray, List.size_toArray]; exact hsz)) ⟨ho, ho2, ?_⟩
    rw [e]
    exact h2 hw
def sIx (n d : Nat) : Option Int → Nat
  | none => d
  | some v => if v < 0 then (v + (n : Int)).toNat else min v.toNat n
end
end HT
namespace L2
open PySem PySem.Spec PyProof.Rows
abbrev TO := St → Hp → (Option Int → Hp → Prop) → Prop
section
variable {X : Cx} {e : Expr} {te : TE} {lo hi : Option Expr} {tl th : TO} {pos p2 : Pos}
def SlR (X : Cx) (r : V → Option Int → Option Int → Hp → VK → Prop) : Prop :=
  ∀ (pins : List (Addr × Obj)) (s : Shared) (σ : St) (H : Hp) (x : V) (v vl vu : Value) (lo hi : Option Int) (sl : Addr) (Q : VK), Inv X pins σ H s → RelV x v → s.heap.IsSliceOf sl vl vu .none → IsPart vl lo → IsPart vu hi → r x lo hi H Q →
    ∃ T id, typeLookup (.type T) "__getitem__" = pure (some (.builtin id)) ∧ s.TypeIs v T ∧ wpAny (model X.prog X.w) X.A (getItem v (.ref sl)) (EP X pins σ Q) X.xe s
theorem SlR.or {r r' : V → Option Int → Option Int → Hp → VK → Prop} (h : SlR X r) (h' : SlR X r') : SlR X (fun x lo hi H Q => r x lo hi H Q ∨ r' x lo hi H Q) := by
  intro pins s σ H x v vl vu lo hi sl Q I rx hs pl pu q
  rcases q with q | q
  · exact h pins s σ H x v vl vu lo hi sl Q I rx hs pl pu q
  · exact h' pins s σ H x v vl vu lo hi sl Q I rx hs pl pu q
def rCatT (K : PySem.W.Frag) : R2 := fun x y H Q => ∃ a b xs ys, x = .ref a ∧ y = .ref b ∧ SqT K H a xs ∧ SqT K H b ys ∧ xs ≠ [] ∧ xs.length + ys.length ≤ sizeLine ∧
  (ys = [] → Q (.ref a) H) ∧ (ys ≠ [] → ∀ p, H p = none → Q (.ref p) (upd H p (.tup (xs ++ ys))))
theorem Vals.nil_iff {xs : List V} {us : List Value} (r : Vals xs us) : us = [] ↔ xs = [] := by
  cases r with
  | nil => simp
  | cons _ _ => simp
theorem op_catT : OpR X (binaryOp .Add) (rCatT X.K) := by
  intro pins s σ H x y v u Q I rx ry h
  obtain ⟨a, b, xs, ys, rfl, rfl, ha, hb, hx, hz, q1, q2⟩ := h
  cases rx
  cases ry
  obtain ⟨its, r1, p1, _⟩ := I.tuple ha
  obtain ⟨its2, r2, p2, _⟩ := I.tuple hb
  refine HT.cat_tup p1 p2 (fun z => hx (r1.nil_iff.mp z)) (fun z => ⟨.ref a, H, I, rfl, q1 (r2.nil_iff.mp z)⟩) (fun z => ?_) (by rw [← r1.length, ← r2.length]; exact hz)
  refine ⟨.ref s.heap.objs.size, _, I.laid (t' := s.toks) (o := .tup (xs ++ ys)) (fun b ob q => Heap.get?_push_of_some _ q) (Nat.le_refl _) ?_, rfl, q2 (fun w => z (r2.nil_iff.mpr w)) _ (I.hok.fresh (Nat.le_refl _))⟩
  exact ⟨by rw [List.length_append]; exact hz, _, r1.append r2, IsTup.new _ _⟩
end
end L2
namespace L2
open PySem PySem.Spec PyProof.Rows
def ixN (n : Nat) (i : Int) : Option Nat := if 0 ≤ i then (if i < n then some i.toNat else none) else if -(n : Int) ≤ i then some (i + n).toNat else none
def atI {α : Type} (xs : List α) (i : Int) : Option α := (ixN xs.length i).bind fun j => xs[j]?
theorem ixN_seq {n : Nat} {i : Int} {j : Nat} (h : ixN n i = some j) : seqIndex? i n = some j ∧ j < n ∧ -(n : Int) ≤ i ∧ i < n := by
  unfold ixN at h
  by_cases h0 : 0 ≤ i
  · rw [if_pos h0] at h
    by_cases h1 : i < n
    · rw [if_pos h1] at h
      have e : i.toNat = j := Option.some.inj h
      exact ⟨by rw [seqIndex_of h0 h1, e], by omega, by omega, h1⟩
    · rw [if_neg h1] at h; cases h
  · rw [if_neg h0] at h
    by_cases h1 : -(n : Int) ≤ i
    · rw [if_pos h1] at h
      have e : (i + n).toNat = j := Option.some.inj h
      exact ⟨by rw [seqIndex_neg (by omega) h1, e], by omega, h1, by omega⟩
    · rw [if_neg h1] at h; cases h
theorem atI_get {α : Type} {xs : List α} {i : Int} {v : α} (h : atI xs i = some v) : ∃ j, seqIndex? i xs.length = some j ∧ xs[j]? = some v ∧ j < xs.length ∧ -(xs.length : Int) ≤ i ∧ i < xs.length := by
  unfold atI at h
  cases e : ixN xs.length i with
  | none => rw [e] at h; cases h
  | some j =>
    rw [e] at h
    obtain ⟨h1, h2, h3, h4⟩ := ixN_seq e
    exact ⟨j, h1, h, h2, h3, h4⟩
def PlainIx (b : Expr) : Prop := ∀ o i, subscripted b false o i = operate [o, i] (getItem o i)
def IxR (X : Cx) (r : R2) : Prop :=
  ∀ (value slice : Expr) (pins : List (Addr × Obj)) (s : Shared) (σ : St) (H : Hp) (x y : V) (v u : Value) (Q : VK), Inv X pins σ H s → RelV x v → RelV y u → r x y H Q →
    subscripted slice false v u = operate [v, u] (getItem v u) → wpAny (model X.prog X.w) X.A (subscriptTail value slice v u) (EP X pins σ Q) X.xe s
def MtR (X : Cx) (id : String) (r : V → List V → Hp → VK → Prop) : Prop :=
  ∀ (pins : List (Addr × Obj)) (s : Shared) (σ : St) (H : Hp) (x : V) (xs : List V) (v : Value) (us : List Value) (Q : VK), Inv X pins σ H s → RelV x v → Vals xs us → r x xs H Q →
    wpAny (model X.prog X.w) X.A (call (.builtin id) (v :: us)) (EP X pins σ Q) X.xe s
section
variable {X : Cx} {a b : Expr} {ta tb : TE} {pos : Pos}
theorem IxR.or {r r' : R2} (h : IxR X r) (h' : IxR X r') : IxR X (fun x y H Q => r x y H Q ∨ r' x y H Q) := by
  intro value slice pins s σ H x y v u Q I rx ry q hs
  rcases q with q | q
  · exact h value slice pins s σ H x y v u Q I rx ry q hs
  · exact h' value slice pins s σ H x y v u Q I rx ry q hs
theorem MtR.or {id : String} {r r' : V → List V → Hp → VK → Prop} (h : MtR X id r) (h' : MtR X id r') : MtR X id (fun x xs H Q => r x xs H Q ∨ r' x xs H Q) := by
  intro pins s σ H x xs v us Q I rx rs q
  rcases q with q | q
  · exact h pins s σ H x xs v us Q I rx rs q
  · exact h' pins s σ H x xs v us Q I rx rs q
theorem pe_ix {r : R2} (hr : IxR X r) (ha : PE X a ta) (hb : PE X b tb) (hs : PlainIx b) : PE X (.Subscript a b pos) (tOp r ta tb) := by
  intro pins s σ H Q I h
  exact Subscript_ (binT ha hb I h fun v u s2 x y H2 I2 rx ry q => hr a b pins s2 σ H2 x y v u Q I2 rx ry q (hs _ _))
def rIxL (K : PySem.W.Frag) : R2 := fun x y H Q => ∃ p xs i v, x = .ref p ∧ y = .int i ∧ SqL K H p xs ∧ atI xs i = some v ∧ Q v H
def rIxT (K : PySem.W.Frag) : R2 := fun x y H Q => ∃ p xs i v, x = .ref p ∧ y = .int i ∧ SqT K H p xs ∧ atI xs i = some v ∧ Q v H
def rIxS : R2 := fun x y H Q => ∃ z i c, x = .str z ∧ y = .int i ∧ z.length ≤ sizeLine ∧ atI z.cps.toList i = some c ∧ Q (.str ⟨#[c]⟩) H
theorem ix_list : IxR X (rIxL X.K) := by
  intro value slice pins s σ H x y v u Q I rx ry h hs
  obtain ⟨p, xs, i, z, rfl, rfl, hq, he, q⟩ := h
  cases rx
  obtain ⟨t, rfl⟩ := ry
  obtain ⟨its, r, pl, hz⟩ := I.list hq
  obtain ⟨j, h1, h2, h3, h4, h5⟩ := atI_get he
  obtain ⟨w, ew, rw'⟩ := r.get h2
  have hl := r.length
  have hn := line63
  have fin : EP X pins σ Q w s := ⟨z, H, I, rw', q⟩
  by_cases h0 : 0 ≤ i
  · have hj : i.toNat = j := by
      rw [seqIndex_of h0 h5] at h1
      exact Option.some.inj h1
    exact item_listR pl.isList h0 (by omega) (by rw [hj]; simpa using ew) fin hs
  · have hj : (i + (its.toArray.size : Int)).toNat = j := by
      rw [seqIndex_neg (by omega) h4] at h1
      rw [List.size_toArray, ← hl]
      exact Option.some.inj h1
    exact subscriptTail_builtinR (x := w) pl.isList.typeIs slot_list_getitem.lookup
      (wpAny_getItem_list_neg (Q := fun r s' => r = w ∧ EP X pins σ Q r s') pl.isList (by omega) (by rw [List.size_toArray] <;> omega) (by omega) (by rw [hj]; simpa using ew) ⟨rfl, fin⟩) hs
theorem ix_tup : IxR X (rIxT X.K) := by
  intro value slice pins s σ H x y v u Q I rx ry h hs
  obtain ⟨p, xs, i, z, rfl, rfl, hq, he, q⟩ := h
  cases rx
  obtain ⟨t, rfl⟩ := ry
  obtain ⟨its, r, pl, hz⟩ := I.tuple hq
  obtain ⟨j, h1, h2, h3, h4, h5⟩ := atI_get he
  obtain ⟨w, ew, rw'⟩ := r.get h2
  have hl := r.length
  have hn := line63
  have fin : EP X pins σ Q w s := ⟨z, H, I, rw', q⟩
  exact subscriptTail_builtinR (x := w) pl.typeIs slot_tuple_getitem.lookup
    (getItem_tuple (j := j) (Q := fun r s' => r = w ∧ EP X pins σ Q r s') pl (by omega) (by omega) (by rw [List.size_toArray, ← hl]; exact h1) (by simpa using ew) ⟨rfl, fin⟩) hs
theorem ix_str : IxR X rIxS := by
  intro value slice pins s σ H x y v u Q I rx ry h hs
  obtain ⟨z, i, c, rfl, rfl, hz, he, q⟩ := h
  obtain ⟨t, rfl⟩ := rx
  obtain ⟨t', rfl⟩ := ry
  obtain ⟨j, h1, h2, h3, h4, h5⟩ := atI_get he
  have hl : z.cps.toList.length = z.length := by simp [Str.length]
  rw [hl] at h1 h4 h5
  have hn := line63
  exact tail_any (typeIs_str s z t) slot_str_getitem.lookup (getItem_str (c := c) (by
    have e1 : decide (i < -(2 ^ 63 : Int)) = false := decide_eq_false (by omega)
    have e2 : decide (i ≥ 2 ^ 63) = false := decide_eq_false (by omega)
    rw [e1, e2, Bool.or_false]) (by rw [h1]; simpa using h2) ⟨.str ⟨#[c]⟩, H, I.tok _, ⟨_, rfl⟩, q⟩) hs
def rIx (K : PySem.W.Frag) : R2 := fun x y H Q => rIxL K x y H Q ∨ rIxT K x y H Q ∨ rIxS x y H Q
theorem ix_seq : IxR X (rIx X.K) := ix_list.or (ix_tup.or ix_str)
theorem mapSeq_set (its : List Value) (n j : Nat) (u : Value) : Obj.mapSeq (·.setIfInBounds j u) { cls := .type "list", data := .seq its.toArray n } = { cls := .type "list", data := .seq (its.set j u).toArray n } := by
  simp [Obj.mapSeq]
theorem Inv.lst {pins : List (Addr × Obj)} {σ : St} {H : Hp} {s : Shared} {p : Addr} {xs : List V} (I : Inv X pins σ H s) (h : H p = some (.lst xs)) :
    ∃ (its : List Value) (n : Nat), Vals xs its ∧ s.heap.get? p = some { cls := .type "list", data := .seq its.toArray n } ∧ xs.length ≤ sizeLine := by
  obtain ⟨z, its, n, r, e⟩ := I.hok p _ h
  exact ⟨its, n, r, e, z⟩
theorem Inv.lstUpd {pins : List (Addr × Obj)} {σ : St} {H : Hp} {s : Shared} {p : Addr} {xs ys : List V} {its its' : List Value} {n n' : Nat} {f : Obj → Obj} (I : Inv X pins σ H s) (h : H p = some (.lst xs))
    (ho : s.heap.get? p = some { cls := .type "list", data := .seq its.toArray n }) (hf : f { cls := .type "list", data := .seq its.toArray n } = { cls := .type "list", data := .seq its'.toArray n' }) (r : Vals ys its') (hz : ys.length ≤ sizeLine) (t : Nat) :
    Inv X pins σ (upd H p (.lst ys)) { s with heap := s.heap.update p f, toks := t } := by
  have e : (s.heap.update p f).get? p = some { cls := .type "list", data := .seq its'.toArray n' } := by
    rw [Heap.get?_update_self f ho (by rw [hf] <;> rfl), hf]
  refine I.write (x := p) (e := p) (by rw [h]; trivial) (.inl rfl) (fun b u hb q => (Heap.get?_update_other _ _ (Ne.symm hb)).trans q) ⟨_, e⟩ ?_
  exact ⟨hz, its', n', r, e⟩
def rSetL : V → V → V → Hp → (Hp → Prop) → Prop := fun o i v H Q => ∃ p xs k j, o = .ref p ∧ i = .int k ∧ H p = some (.lst xs) ∧ ixN xs.length k = some j ∧ Q (upd H p (.lst (xs.set j v)))
theorem set_list : PSet X rSetL := by
  intro pins s σ H o i v ov iv u Q I ro ri rv h
  obtain ⟨p, xs, k, j, rfl, rfl, hp, hj, q⟩ := h
  cases ro
  obtain ⟨t, rfl⟩ := ri
  obtain ⟨its, n, r, ho, hz⟩ := I.lst hp
  obtain ⟨h1, h2, h3, h4⟩ := ixN_seq hj
  have hl := r.length
  have hn := line63
  have I' : Inv X pins σ (upd H p (.lst (xs.set j v))) { s with heap := s.heap.update p (Obj.mapSeq (·.setIfInBounds j u)) } :=
    I.lstUpd hp ho (mapSeq_set its n j u) (r.set rv j) (by rw [List.length_set]; exact hz) s.toks
  by_cases h0 : 0 ≤ k
  · have hk : k.toNat = j := by
      rw [seqIndex_of h0 h4] at h1
      exact Option.some.inj h1
    exact PySem.W.ki_setAt ho h0 (by omega) (by rw [List.size_toArray, ← hl]; exact h4) (by rw [hk]; exact ⟨_, I', q⟩)
  · have hk : (k + (its.toArray.size : Int)).toNat = j := by
      rw [seqIndex_neg (by omega) h3] at h1
      rw [List.size_toArray, ← hl]
      exact Option.some.inj h1
    exact PySem.W.ki_setBack ho (by omega) (by rw [List.size_toArray, ← hl]; exact h3) (by omega) (by rw [hk]; exact ⟨_, I', q⟩)
def flatV : V → Bool
  | .non => true
  | .bl _ => true
  | .int _ => true
  | .str _ => true
  | _ => false
def eqV : V → V → Bool
  | .non, .non => true
  | .bl a, .bl b => a == b
  | .bl a, .int b => (if a then 1 else 0) == b
  | .int a, .bl b => a == (if b then 1 else 0)
  | .int a, .int b => a == b
  | .str a, .str b => a == b
  | _, _ => false
def inV (x : V) (xs : List V) : Bool := xs.any fun y => eqV y x
def rIn (K : PySem.W.Frag) (neg : Bool) : R2 := fun x y H Q => ∃ p xs, y = .ref p ∧ (SqL K H p xs ∨ SqT K H p xs) ∧ flatV x = true ∧ xs.all flatV = true ∧ Q (.bl (if neg then !inV x xs else inV x xs)) H
theorem call_len_seq : CallR X (.builtin "len") (fun xs H Q => ∃ p ys, xs = [.ref p] ∧ (SqL X.K H p ys ∨ SqT X.K H p ys) ∧ Q (.int ys.length) H) := by
  intro pins s σ H xs us Q I r h
  obtain ⟨p, ys, rfl, hq, q⟩ := h
  obtain ⟨u, rfl, rx⟩ := vals1 r
  cases rx
  have hn := line63
  rcases hq with hq | hq
  · obtain ⟨its, r', pl, hz⟩ := I.list hq
    have hlen := r'.length
    exact Calls.call_len_list pl.isList (by simp only [List.size_toArray] <;> omega) ⟨.int ys.length, H, I.tok _, ⟨s.toks + 1, by rw [List.size_toArray, hlen]⟩, q⟩
  · obtain ⟨its, r', pl, hz⟩ := I.tuple hq
    have hlen := r'.length
    exact len_tuple pl (by simp only [List.size_toArray] <;> omega) ⟨.int ys.length, H, I.tok _, ⟨s.toks + 1, by rw [List.size_toArray, hlen]⟩, q⟩
theorem call_len_str : CallR X (.builtin "len") (fun xs H Q => ∃ z, xs = [.str z] ∧ z.length ≤ sizeLine ∧ Q (.int z.length) H) := by
  intro pins s σ H xs us Q I r h
  obtain ⟨z, rfl, hz, q⟩ := h
  obtain ⟨u, rfl, t, rfl⟩ := vals1 r
  have hn := line63
  exact len_str (by omega) ⟨.int z.length, H, I.tok _, ⟨_, rfl⟩, q⟩
theorem CallR.or {f : Value} {r r' : List V → Hp → VK → Prop} (h : CallR X f r) (h' : CallR X f r') : CallR X f (fun xs H Q => r xs H Q ∨ r' xs H Q) := by
  intro pins s σ H xs us Q I rs q
  rcases q with q | q
  · exact h pins s σ H xs us Q I rs q
  · exact h' pins s σ H xs us Q I rs q
theorem call_tuple_of : CallR X (.type "tuple") (fun xs H Q => ∃ p ys, xs = [.ref p] ∧ ((SqL X.K H p ys ∧ ∀ l, H l = none → Q (.ref l) (upd H l (.tup ys))) ∨ (SqT X.K H p ys ∧ Q (.ref p) H))) := by
  intro pins s σ H xs us Q I r h
  obtain ⟨p, ys, rfl, h⟩ := h
  obtain ⟨u, rfl, rx⟩ := vals1 r
  cases rx
  rcases h with ⟨hq, q⟩ | ⟨hq, q⟩
  · obtain ⟨its, r', pl, hz⟩ := I.list hq
    have hlen := r'.length
    refine call_tuple_list pl.isList (fun h' kp => ?_) (by simp only [List.size_toArray] <;> omega)
    have I1 : Inv X pins σ H { s with heap := h' } := I.kept (t' := s.toks) kp
    have I2 : Inv X pins σ (upd H h'.objs.size (.tup ys)) { s with heap := h'.push { cls := .type "tuple", data := .seq its.toArray } } :=
      I1.laid (t' := s.toks) (fun b o e => Heap.get?_push_of_some _ e) (Nat.le_refl _) (show ObjOk X.prog X.w _ _ _ (.tup ys) from ⟨hz, its, r', IsTup.new _ _⟩)
    exact ⟨.ref h'.objs.size, _, I2, rfl, q _ (I1.hok.fresh (Nat.le_refl _))⟩
  · obtain ⟨its, r', pl, hz⟩ := I.tuple hq
    exact call_tuple_same pl ⟨.ref p, H, I, rfl, q⟩
def tyV (K : PySem.W.Frag) (T : String) (x : V) (H : Hp) : Prop := match x with
  | .str _ => T = "str"
  | .int _ => T = "int"
  | .ref p => (T = "list" ∧ ∃ xs, SqL K H p xs) ∨ (T = "tuple" ∧ ∃ o, K.lookup p = some o ∧ o.cls = .type "tuple" ∧ o.dict = none) ∨
      (T = "dict" ∧ ((∃ kvs, H p = some (.dK kvs)) ∨ ∃ kvs, H p = some (.dT kvs))) ∨ (T = "set" ∧ ∃ S n, H p = some (.set S n))
  | _ => False
theorem tyV_is {pins : List (Addr × Obj)} {σ : St} {H : Hp} {s : Shared} {T : String} {x : V} {v : Value} (I : Inv X pins σ H s) (r : RelV x v) (ty : tyV X.K T x H) :
    s.TypeIs v T ∧ ∀ a, v = .ref a → ∃ ob, s.heap.get? a = some ob ∧ ob.dict = none := by
  cases x with
  | str z =>
    obtain ⟨t, rfl⟩ := r
    cases (show T = "str" from ty)
    exact ⟨typeIs_str s z t, fun _ e => nomatch e⟩
  | int i =>
    obtain ⟨t, rfl⟩ := r
    cases (show T = "int" from ty)
    exact ⟨typeIs_int s i t, fun _ e => nomatch e⟩
  | ref p =>
    cases r
    rcases ty with ⟨rfl, xs, hq⟩ | ⟨rfl, o, hk, hc, hd⟩ | ⟨rfl, hk⟩ | ⟨rfl, S, n, hk⟩
    · obtain ⟨its, _, pl, _⟩ := I.list hq
      refine ⟨pl.isList.typeIs, fun a e => ?_⟩
      cases e
      obtain ⟨o, n, e, c, hd, _⟩ := pl
      exact ⟨o, e, hd⟩
    · refine ⟨⟨o, I.kIn p o hk, hc⟩, fun a e => ?_⟩
      cases e
      exact ⟨o, I.kIn _ o hk, hd⟩
    · have z : ∃ o, s.heap.get? p = some o ∧ o.ExactDict := by
        rcases hk with ⟨kvs, hk⟩ | ⟨kvs, hk⟩
        · obtain ⟨_, _, _, _, o, _, _, e, ex, _⟩ := I.hok p _ hk
          exact ⟨o, e, ex⟩
        · obtain ⟨_, _, _, _, o, _, _, e, ex, _⟩ := I.hok p _ hk
          exact ⟨o, e, ex⟩
      obtain ⟨o, e, ex⟩ := z
      refine ⟨⟨o, e, ex.1⟩, fun a e2 => ?_⟩
      cases e2
      exact ⟨o, e, ex.2.1⟩
    · obtain ⟨o, _, _, _, e, ex, _⟩ := I.hok p _ hk
      refine ⟨⟨o, e, ex.1⟩, fun a e2 => ?_⟩
      cases e2
      exact ⟨o, e, ex.2.1⟩
  | _ => exact False.elim ty
def tBM (K : PySem.W.Frag) (T : String) (r : V → List V → Hp → VK → Prop) (to : TE) (t : TA) : TE := fun σ H Q => to σ H fun x H1 => tyV K T x H1 ∧ t σ H1 fun xs H2 => r x xs H2 Q
variable {o e : Expr} {es : List Expr} {to : TE} {t : TA} {name : Str} {apos cpos : Pos} {T id : String} {r : V → List V → Hp → VK → Prop}
theorem pe_bm (pa : PlainAttrs T) (slot : Slot T name id) (hty : typeOf (.builtin id) = pure (.type "method_descriptor")) (hm : MtR X id r) (ho : PE X o to) (ha : PA X (e :: es) t)
    (hbase : attributeBase o name X.env (eval o X.env) = eval o X.env := by rfl)
    (hfew : ((backTo cpos (starEach (e :: es) X.env)).all (fun x => !x.1) && (backToKw cpos (keywordEach [] X.env)).all (fun x => x.1.isSome)
      && decide ((e :: es).length + ([] : List Keyword).length + (if ([] : List Keyword).isEmpty then 0 else 1) < 30)) = true := by rfl)
    (hline : (apos.endLine == cpos.line) = true := by rfl) (hs : starEach (e :: es) X.env = (false, eval e X.env) :: starEach es X.env := by rfl) (hplain : (backTo cpos (starEach es X.env)).any (·.1) = false := by rfl) :
    PE X (.Call (.Attribute o name apos) (e :: es) [] cpos) (tBM X.K T r to t) := by
  intro pins s σ H Q I h
  refine wpAny_Call_method_late hbase hfew hline rfl (thn (ho pins s σ H _ I h) fun v s1 ⟨x, H1, I1, r1, ty, q1⟩ => ?_)
  obtain ⟨h1, h2⟩ := tyV_is I1 r1 ty
  refine ⟨T, id, pa, slot, hty, h1, h2, ?_⟩
  have hA := ha cpos pins s1 σ H1 _ I1 q1
  rw [hs] at hA ⊢
  refine Calls.callWith_builtin (by show (false || (backTo cpos (starEach es X.env)).any (·.1)) = false; rw [hplain] <;> rfl) (Calls.evalArgs_plain ?_)
  exact thn hA fun us s2 ⟨vs, H2, I2, r2, q2⟩ => hm pins s2 σ H2 x vs v us Q I2 r1 r2 q2
/- xs.append(e), list.index on a module's tuple .. are MtR facts of 06m -/
end
end L2
namespace L2
open PySem PySem.Spec PyProof.Rows
def MtM (X : Cx) (id : String) (r : V → List V → Hp → VK → Prop) : Prop :=
  ∀ (pins : List (Addr × Obj)) (s : Shared) (σ : St) (H : Hp) (x : V) (xs : List V) (v : Value) (us : List Value) (Q : VK), Inv X pins σ H s → RelV x v → Vals xs us → r x xs H Q →
    wpAny (model X.prog X.w) X.A (call (.builtin id) (v :: us)) (EP X pins σ Q) X.xe s
theorem Vals.one : ∀ {x : V} {us : List Value}, Vals [x] us → ∃ u, us = [u] ∧ RelV x u
  | _, _, .cons r .nil => ⟨_, rfl, r⟩
theorem Vals.zero : ∀ {us : List Value}, Vals [] us → us = []
  | _, .nil => rfl
theorem Vals.eraseIdx : ∀ {xs : List V} {us : List Value} (i : Nat), Vals xs us → Vals (xs.eraseIdx i) (us.eraseIdx i)
  | _, _, _, .nil => .nil
  | _, _, 0, .cons _ t => t
  | _, _, i + 1, .cons r t => .cons r (Vals.eraseIdx i t)
theorem Vals.reverse {xs : List V} {us : List Value} (h : Vals xs us) : Vals xs.reverse us.reverse := by
  induction h with
  | nil => exact .nil
  | cons r t ih => rw [List.reverse_cons, List.reverse_cons]; exact Vals.append ih (.cons r .nil)
theorem Vals.rep {xs : List V} {us : List Value} (h : Vals xs us) : ∀ k : Nat, Vals (List.replicate k xs).flatten (List.replicate k us).flatten
  | 0 => .nil
  | k + 1 => by
    rw [List.replicate_succ, List.replicate_succ, List.flatten_cons, List.flatten_cons]
    exact Vals.append h (Vals.rep h k)
section
variable {X : Cx} {pins : List (Addr × Obj)} {σ : St} {H : Hp} {s : Shared} {l b : Addr} {xs ys zs : List V}
theorem Inv.lset {its its' : List Value} {n : Nat} {f : Array Value → Array Value} {t' : Nat} (I : Inv X pins σ H s) (hH : H l = some (.lst xs))
    (e : s.heap.get? l = some { cls := .type "list", data := .seq its.toArray n }) (hf : f its.toArray = its'.toArray) (hv : Vals ys its') (hz : ys.length ≤ sizeLine) :
    Inv X pins σ (upd H l (.lst ys)) { s with heap := s.heap.update l (Obj.mapSeq f), toks := t' } := by
  have q := PySem.IsL.update e f
  rw [hf] at q
  refine I.write (x := l) (e := l) (by rw [hH]; exact trivial) (.inl rfl) (fun b' u hb hu => (Heap.get?_update_other s.heap (Obj.mapSeq f) (Ne.symm hb)).trans hu) ⟨_, q⟩ ?_
  exact ⟨hz, its', _, hv, q⟩
theorem Inv.lnew {its : List Value} {t' : Nat} (I : Inv X pins σ H s) (hv : Vals ys its) (hz : ys.length ≤ sizeLine) :
    Inv X pins σ (upd H s.heap.objs.size (.lst ys)) { s with heap := s.heap.push { cls := .type "list", data := .seq its.toArray }, toks := t' } :=
  I.laid (fun _ _ q => Heap.get?_push_of_some _ q) (Nat.le_refl _) ⟨hz, its, 0, hv, Heap.get?_push_size _ rfl⟩
theorem Inv.fresh (I : Inv X pins σ H s) : H s.heap.objs.size = none := I.hok.fresh (Nat.le_refl _)
theorem Inv.lstM (I : Inv X pins σ H s) (hH : H l = some (.lst xs)) : xs.length ≤ sizeLine ∧ ∃ (its : List Value) (n : Nat), Vals xs its ∧ xs.length = its.length ∧ s.heap.get? l = some { cls := .type "list", data := .seq its.toArray n } := by
  obtain ⟨z, its, n, r, e⟩ := I.hok l _ hH
  exact ⟨z, its, n, r, r.length, e⟩
theorem notLongL {n : Nat} (h : n ≤ sizeLine) : Builtin.List.listTooLong n = false := by
  unfold Builtin.List.listTooLong
  exact decide_eq_false (by omega)
end
section
variable {X : Cx}
def rAppend : V → List V → Hp → VK → Prop := fun x vs H Q => ∃ l xs y, x = .ref l ∧ vs = [y] ∧ H l = some (.lst xs) ∧ xs.length < sizeLine ∧ Q .non (upd H l (.lst (xs ++ [y])))
theorem mt_append : MtM X "list.append" rAppend := by
  intro pins s σ H x vs v us Q I rx rv h
  obtain ⟨l, xs, y, rfl, rfl, hH, hz, q⟩ := h
  cases rx
  obtain ⟨u, rfl, ru⟩ := rv.one
  obtain ⟨z, its, n, r, hl, e⟩ := I.lstM hH
  refine call_meets F.slot_list_append ⟨_, e, rfl⟩ F.entry_list_append (F.args_list_append_2 _ _) (PySem.list_append l its.toArray n u (by rw [List.size_toArray]; omega)) ⟨e, ?_⟩
  refine ⟨.non, _, I.lset (its' := its ++ [u]) hH e (by simp) (r.append (.cons ru .nil)) ?_, rfl, q⟩
  rw [List.length_append, List.length_singleton]
  omega
end
section
variable {prog : Program} {w : World} {A : Around} {E : Value → Shared → Prop} {s : Shared}
theorem bounds_run {a c n : Nat} (hac : a ≤ c) (hc : c ≤ n) : sliceBounds (some (a : Int)) (some (c : Int)) none n = ((a : Int), (c : Int), 1) := by
  simp only [sliceBounds, Option.getD_none]
  have h1 : ¬ ((a : Int) < 0) := by omega
  have h2 : ¬ ((c : Int) < 0) := by omega
  simp only [h1, h2, if_false, show (1 : Int) > 0 by decide, if_true]
  congr 1
  · omega
  · congr 1; omega
set_option maxRecDepth 100000 in
theorem setItem_slice {l b sl : Addr} {items new : Array Value} {n n2 : Nat} {vl vu : Value} {a c : Nat} {Q : Unit → Shared → Prop}
    (e : s.heap.get? l = some { cls := .type "list", data := .seq items n }) (e2 : s.heap.get? b = some { cls := .type "list", data := .seq new n2 }) (hne : l ≠ b)
    (hs : s.heap.IsSliceOf sl vl vu .none) (pl : IsPart vl (some (a : Int))) (pu : IsPart vu (some (c : Int))) (hac : a ≤ c) (hc : c ≤ items.size)
    (hsz : items.size + new.size ≤ sizeLine) (h : Q () { s with heap := s.heap.update l (Obj.mapSeq fun xs => xs.extract 0 a ++ new ++ xs.extract c xs.size) }) :
    wpAny (model prog w) A (setItem (.ref l) (.ref sl) (.ref b)) Q E s := by
  have hl : s.heap.IsList l items := PySem.IsL.isList e
  have hb : s.heap.IsList b new := PySem.IsL.isList e2
  obtain ⟨os, hos, hcs, hds⟩ := id hs
  have hTs : s.TypeIs (.ref sl) "slice" := ⟨os, hos, hcs⟩
  have hstep : ¬ ((rawPart none == rawInt 0) = true) := Bool.false_ne_true
  have hsame : Builtin.List.listSameRef (.ref l) (.ref b) = false := by
    unfold Builtin.List.listSameRef
    exact beq_eq_false_iff_ne.mpr hne
  have hmax : (max (a : Int) (c : Int)).toNat = c := by omega
  have hz' : ((fun xs : Array Value => xs.extract 0 a ++ new ++ xs.extract c xs.size) items).size ≤ sizeLine + 1 := by
    simp only [Array.size_append, Array.size_extract]
    omega
  unfold setItem
  try with_reducible refine wpAny_holding ?_
  first | refine wpAny_bind (wpAny_pure ?_) | skip
  refine wpAny_bind (wpAny_sequenceKey hl.typeIs (by decide) ?_)
  refine wpAny_bind (wpAny_callSpecial?_slot (name := Str.ofString "__setitem__") hl.typeIs slot_list_setitem
    (wpAny_call_entry slot_list_setitem hl.typeIs entry_list_setitem ?_ (args_list_setitem _ _ _)))
  show wpAny _ _ (Builtin.List.listSubscript? (.ref sl) >>= _) _ _ s
  refine wpAny_bind ?_
  unfold Builtin.List.listSubscript?
  refine wpAny_bind (wpAny_specialOf hTs slice_no_index ?_)
  simp only [Option.isNone_none, if_true]
  refine wpAny_pure ?_
  show wpAny _ _ (typeOf (.ref sl) >>= _) _ _ s
  refine wpAny_bind (wpAny_typeOf hTs ?_)
  first
    | rw [if_neg (by decide)]
    | refine PySem.W.KFB.if_not (by decide) ?_
  rw [listSliceParts_eq]
  refine wpAny_bind (wpAny_bind (wpAny_field hos hds (x := .none) rfl (wpAny_bind (wpAny_listPart .none ?_))))
  rw [if_neg hstep]
  refine wpAny_bind (wpAny_field hos hds (x := vl) rfl (wpAny_bind (wpAny_listPart pl ?_)))
  refine wpAny_bind (wpAny_field hos hds (x := vu) rfl (wpAny_bind (wpAny_listPart pu (wpAny_pure ?_))))
  first
    | simp only [hsame, Bool.false_eq_true, if_false]
    | refine PySem.W.KFB.if_not hsame ?_
    | (dsimp only
       rw [if_neg (by rw [hsame]; exact Bool.false_ne_true)])
  refine wpAny_bind (m := Builtin.List.listAllItems (.ref b) "must assign iterable to extended slice") ?_
  unfold Builtin.List.listAllItems
  refine wpAny_bind (wpAny_typeOf hb.typeIs ?_)
  first
    | refine PySem.W.KFB.if_so (by decide) ?_
    | rw [if_pos (by decide)]
    | simp only [beq_self_eq_true, Bool.true_or, if_true]
  unfold Builtin.List.listItems
  refine wpAny_bind (wpAny_seqItems e2 rfl (wpAny_pure ?_))
  refine wpAny_bind (wpAny_bind (wpAny_seqItems e rfl (wpAny_pure ?_)))
  refine wpAny_bind (wpAny_of_eq ((sliceIndices_raw (some (a : Int)) (some (c : Int)) none items.size (by simp)).trans (congrArg (pure : Int × Int × Int → Sem (Int × Int × Int)) (bounds_run hac hc))) ?_)
  show wpAny _ _ (if ((1 : Int) == 1) = true then _ else _) _ _ s
  rw [if_pos (by decide)]
  refine wpAny_bind (wpAny_rule ?_)
  first
    | simp only [notLongL hsz, Bool.false_eq_true, if_false]
    | refine PySem.W.KFB.if_not (notLongL hsz) ?_
  first | refine wpAny_bind (wpAny_pure ?_) | skip
  show wpAny _ _ (updateSeq l (fun xs => xs.extract 0 ((a : Int)).toNat ++ new ++ xs.extract (max (a : Int) (c : Int)).toNat xs.size) >>= _) _ _ s
  rw [hmax, Int.toNat_natCast]
  refine wpAny_bind (wpAny_updateSeq (hz := Nat.le_trans (Nat.le_add_right _ _) hsz) (_hz' := hz') e rfl ?_)
  refine wpAny_bind (wpAny_letGo ?_)
  first
    | exact wpAny_bind (wpAny_pure (wpAny_pure ⟨.none, rfl, wpAny_pure h⟩))
    | exact wpAny_pure ⟨.none, rfl, wpAny_pure h⟩
end
section
variable {X : Cx}
end
end L2
namespace Att
open PySem PySem.W PySem.Calls PyProof.Rows
theorem ints_of_wellAll {P : Params} {h : Heap} : ∀ (ns : List Int) (vs : List Value), WellAll P h vs (ns.map WData.int) → IntsAre vs ns := by
  intro ns
  induction ns with
  | nil =>
    intro vs w
    rw [List.map_nil] at w
    cases w
    exact .nil
  | cons n ns ih =>
    intro vs w
    rw [List.map_cons] at w
    cases w with
    | cons a b =>
      cases a
      exact .cons _ _ (ih _ b)
theorem script_of {l : OpenLaw} {n : Nat} (hn : l.most = some n) {P : Params} {h : Heap} {args : List WData} {vals : List Value}
    (hpre : l.row.toRowW.claim.pre args = true) (hwl : WellAll P h vals args) :
    ∃ a vs ns, vals = [Value.ref a] ∧ args = [WData.list (ns.map WData.int)] ∧ h.get? a = some { cls := .type "list", data := .seq vs.toArray } ∧ IntsAre vs ns ∧ ns.length ≤ n := by
  have hsh : WShape.hasAll [] args [.list .int] = true := (pre_splitW hpre).1
  have hc : l.pre.holds [] { args := args } = true := (pre_splitW hpre).2
  obtain ⟨d, r, rfl, h1, h2⟩ := hasAllW_cons hsh
  obtain rfl := hasAllW_nil h2
  obtain ⟨xs, rfl, h3⟩ := hasW_list h1
  obtain ⟨ns, rfl⟩ := items_int h3
  have hlen : ns.length ≤ n := by
    unfold OpenLaw.pre at hc
    have h4 : (WTm.not (.lt (.lit (.int (n : Int))) (.len (.arg 0)))).holds [] { args := [.list (ns.map .int)] } = true := by
      have h4 := (holds_andW hc).1
      rw [hn] at h4
      exact h4
    have h5 := condW_of h4 (w_not (w_lt w_lit (w_len_list (w_arg rfl))))
    rw [List.length_map] at h5
    refine Nat.le_of_not_lt fun q => ?_
    have q' : (n : Int) < ((ns.length : Nat) : Int) := by omega
    first
      | (rw [decide_eq_true q'] at h5; exact absurd h5 (by decide))
      | (simp at h5; omega)
  cases hwl with
  | cons w1 w2 =>
    cases w2
    cases w1 with
    | list ho hall => exact ⟨_, _, ns, rfl, rfl, ho, ints_of_wellAll ns _ hall, hlen⟩
theorem post_true (l : OpenLaw) (args : List WData) : l.row.toRowW.claim.post args (.bool true) args = true :=
  postW_of (r := l.row.toRowW) (X := (true == true))
    (show WShape.has [] (.bool true) .bool = true by first | rfl | decide | simp [WShape.has, WShape.arms, WShape.armsAll])
    (show (WTm.eq .res (.lit (.bool true))).value [] { args := args, res := some (.bool true), after := args } = some (.bool (true == true)) from w_eq_bool (w_res rfl) w_lit) rfl
theorem attach_call {l : OpenLaw} {n : Nat} {q : Program} {loose : List Str} {XP : (Str → Option Value) → Heap → Prop} {YP : World → Heap → Prop} {d : DefRec}
    (hn : l.most = some n) (hdf : d.params.defaults = [])
    (call : ∀ (w : World) (s₀ s₁ : Shared) (mg mb : Str → Option Value) (fa : Addr) (o : Obj) (pm cd doc : Value) (a : Addr) (vs : List Value) (ns : List Int),
      Ground q loose [] XP w s₀ mg mb s₁.heap → YP w s₁.heap →
      s₁.heap.get? fa = some o → o.data = .func (docDef d.name d.params d.body d.scope pm cd doc) → s₁.heap.CodeRec cd d.name → mg d.name = some (.ref fa) →
      s₁.heap.get? a = some { cls := .type "list", data := .seq vs.toArray } → IntsAre vs ns → ns.length ≤ n → s₁.gens = #[] →
      codeAny (model l.prog w) callerA (.call (.ref fa) ⟨[.ref a], []⟩) (fun r s' => r = .ok (.ret (.bool true)) ∧ OldK s₁.heap s'.heap ∧ s'.os = s₁.os ∧ AllBare s'.gens) s₁) :
    WalkO q loose XP YP l.row.toRowW d [] (fun f vs => PySem.call f vs) := by
  intro w s₀ s₁ mg mb G Y fa o pm cd doc dV kV ho hd hcd hD hmg hg args vals as hpre hlay hrd hwl hlo
  obtain rfl : dV = .none := Dflts.none hD hdf
  obtain rfl : kV = .none := Dflts.noKw hD
  obtain ⟨a, vs, ns, rfl, rfl, hobj, hints, hlen⟩ := script_of hn hpre hwl
  refine enter_call (codeAny_mono (call w s₀ s₁ mg mb fa o pm cd doc a vs ns G Y ho (fd_plain hd) hcd hmg hobj hints hlen hg) fun r s' hq => ?_)
  obtain ⟨rfl, h2, h3, h4⟩ := hq
  exact ⟨.inl ⟨.bool true, .bool true, [], rfl, fun _ => rfl, .bool true, post_true l _, fun _ => ⟨List.Pairwise.nil, fun _ hm => (nomatch hm)⟩⟩, h2, h3, h4⟩
section
variable {prog : Program} {w : World} {A : Around} {E : Value → Shared → Prop} {s : Shared} {K : Frag}
end
end Att
namespace L2
open PySem PySem.Spec PyProof.Rows
theorem vals_ints : ∀ {vs : List Value} {ns : List Int}, IntsAre vs ns → Vals (ns.map V.int) vs
  | _, _, .nil => .nil
  | _, _, .cons n t h => .cons ⟨t, rfl⟩ (vals_ints h)
def Only (H : Hp) : Prop := ∀ b, H b = none ∨ ∃ o xs, H b = some (.frz o (.lst xs))
theorem law_call {P : Program} {w : World} {K : PySem.W.Frag} {mg mb : Str → Option Value} {CX : CXT} {k : Nat} {fa a : Addr} {fd : FuncData} {x : Str} {sp : Sp} {s₁ : Shared} {vs : List Value} {ns : List Int}
    (KX : K.In s₁.heap) (hns : s₁.heap.Ns mainGlobals mg) (hb : s₁.heap.Ns builtinsNs mb) (hbb : ∀ x : Str, x ≠ "__name__" → mb x = bootBuiltins x) (hlim : s₁.heap.NoLimit) (hg : s₁.gens = #[])
    (ha : s₁.heap.get? a = some { cls := .type "list", data := .seq vs.toArray }) (hi : IntsAre vs ns) (hl : ns.length ≤ sizeLine) (hr : Room k callerA)
    (F : ∀ base : Heap, K.In base → base.Ns mainGlobals mg → FnOk P w K mg base CX k fa fd [x] sp) (hbind : ∀ (s : Shared) (u : Value), BindsTo s fd ⟨[u], []⟩ [(x, u)])
    (hsp : ∀ H : Hp, Only H → SqL K H a (ns.map V.int) → sp [.ref a] H (fun v _ => v = .bl true) fun _ _ _ => False)
    (hCX : ∀ H e s', CX [] H s₁ (fun _ _ _ => False) e s' → False) :
    codeAny (model P w) callerA (.call (.ref fa) ⟨[.ref a], []⟩) (fun r s' => r = .ok (.ret (.bool true)) ∧ OldK s₁.heap s'.heap ∧ s'.os = s₁.os ∧ AllBare s'.gens) s₁ := by
  have rv := vals_ints hi
  have lenV := hi.length
  -- from an abstract heap in which nothing but the script may be tracked
  have core : ∀ H : Hp, Only H → SqL K H a (ns.map V.int) → HOk P w H s₁.heap → (∀ b, H b ≠ none → b = a) → (H a ≠ none → K.lookup a = none) →
      codeAny (model P w) callerA (.call (.ref fa) ⟨[.ref a], []⟩) (fun r s' => r = .ok (.ret (.bool true)) ∧ OldK s₁.heap s'.heap ∧ s'.os = s₁.os ∧ AllBare s'.gens) s₁ := by
    intro H hO hS hok hA hK
    have base_of : ∀ {b : Addr} {o : Obj}, s₁.heap.get? b = some o → H b = none → (hidT s₁.heap H).get? b = some o := fun e n => hidT_get e n
    have noA : ∀ {b : Addr} {o : Obj} {es : Array DictEntry} {ep : Nat}, s₁.heap.get? b = some o → o.data = .dict es ep → H b = none := fun {b o es ep} e d => by
      cases q : H b with
      | none => rfl
      | some u =>
        have e' : b = a := hA b (by rw [q]; simp)
        subst e'
        rw [ha] at e; cases e
        have d' : Data.seq vs.toArray _ = Data.dict es ep := d
        cases d'
    have nsK : ∀ {b : Addr} {m : Str → Option Value}, s₁.heap.Ns b m → (hidT s₁.heap H).Ns b m := fun {b m} ⟨o, es, ep, e, d, r⟩ => ⟨o, es, ep, base_of e (noA e d), d, r⟩
    have hKb : K.In (hidT s₁.heap H) := fun b o e => base_of (KX b o e) (by
      cases q : H b with
      | none => rfl
      | some u =>
        have e' : b = a := hA b (by rw [q]; simp)
        subst e'
        rw [hK (by rw [q]; simp)] at e; cases e)
    have hM : Mod K mg (hidT s₁.heap H) := ⟨hKb, nsK hns, ⟨mb, nsK hb, hbb⟩, let ⟨mc, h1, h2⟩ := hlim; ⟨mc, nsK h1, h2⟩⟩
    have e0 : Env0 P w K mg (hidT s₁.heap H) callerA [] s₁ H := ⟨rfl, hM, fun b o e => of_hidT e, Nat.le_of_eq (hidT_size _ _), trivial, fun b hb => absurd (show b ∈ ([] : List Addr) from hb) (by simp), hok, .of_eq hg⟩
    refine codeAny_mono ((F _ hKb (nsK hns)).run callerA [] s₁ H ⟨[.ref a], []⟩ [.ref a] [.ref a] _ _ hr e0 (hbind s₁ (.ref a)) (.cons rfl .nil) (hsp H hO hS)) fun r s' h => ?_
    cases r with
    | error e => exact (hCX H e s' h).elim
    | ok fl =>
      cases fl with
      | next => exact False.elim h
      | brk => exact False.elim h
      | cont => exact False.elim h
      | ret u =>
        obtain ⟨v, H', os, bare, un, hok', r', q⟩ := h
        have q' : v = .bl true := q
        subst q'
        obtain rfl : u = Value.bool true := r'
        refine ⟨rfl, OldK.of_keep fun b o e => ?_, os, bare⟩
        cases q : H b with
        | none => exact un.keep b o e q (by intro z; exact absurd (show b ∈ ([] : List Addr) from z) (by simp)) (by simp)
        | some u =>
          rcases hO b with z | ⟨ob, xs, z⟩
          · rw [q] at z; cases z
          · have z2 := un.frzs b ob _ z
            obtain ⟨e1, _⟩ := hok b _ z
            obtain ⟨e2, _⟩ := hok' b _ z2
            rw [e] at e1; cases e1
            exact e2
  cases hk : K.lookup a with
  | some o =>
    -- the script is one of the module's own objects
    have e := KX a o hk
    rw [ha] at e
    cases e
    refine core (fun _ => none) (fun _ => .inl rfl) (.inr ⟨_, vs.toArray, _, hk, rfl, rfl, rfl, by rw [List.size_toArray, lenV]; exact hl, by simpa using rv⟩) (fun b u z => by have z' : (none : Option HO) = some u := z; cases z') (fun b z => absurd rfl z) fun z => absurd rfl z
  | none =>
    refine core (fun b => if b = a then some (.frz { cls := .type "list", data := .seq vs.toArray } (.lst (ns.map V.int))) else none) (fun b => ?_) (.inl (.inr ⟨{ cls := .type "list", data := .seq vs.toArray }, if_pos rfl⟩)) (fun b u z => ?_) (fun b z => ?_) fun _ => hk
    · by_cases hb : b = a
      · exact .inr ⟨_, _, if_pos hb⟩
      · exact .inl (if_neg hb)
    · by_cases hb : b = a
      · have z' := (if_pos hb).symm.trans z
        cases z'
        subst hb
        exact ⟨ha, by rw [List.length_map]; exact hl, vs, _, rv, ha⟩
      · have z' := (if_neg hb).symm.trans z
        cases z'
    · by_cases hb : b = a
      · exact hb
      · exact absurd (if_neg hb) z
end L2
namespace L2
open PySem PySem.Spec PyProof.Rows
abbrev KOf {K : PySem.W.Frag} {h : Heap} (_ : K.In h) : PySem.W.Frag := K
theorem walk_of {l : PySem.W.OpenLaw} {n k : Nat} {q : Program} {loose : List Str} {XP : (Str → Option Value) → Heap → Prop} {YP : World → Heap → Prop} {d : DefRec} {K : Params → PySem.W.Frag} {CX : World → CXT} {sp : World → Sp} {x : Str}
    (hn : l.most = some n) (hn2 : n ≤ sizeLine) (hdf : d.params.defaults = []) (hr : Room k callerA)
    (hY : ∀ (w : World) (h : Heap), YP w h → (K w.params).In h)
    (F : ∀ (w : World) (mg : Str → Option Value) (fa : Addr) (h : Heap), (K w.params).In h → h.Ns mainGlobals mg → mg d.name = some (.ref fa) →
      ∃ fd : FuncData, (∀ (s : Shared) (u : Value), BindsTo s fd ⟨[u], []⟩ [(x, u)]) ∧
        ∀ base : Heap, (K w.params).In base → base.Ns mainGlobals mg → FnOk l.prog w (K w.params) mg base (CX w) k fa fd [x] (sp w))
    (hsp : ∀ (w : World) (H : Hp) (a : Addr) (ns : List Int), ns.length ≤ n → Only H → SqL (K w.params) H a (ns.map V.int) → sp w [.ref a] H (fun v _ => v = .bl true) fun _ _ _ => False)
    (hCX : ∀ (w : World) (H : Hp) (s : Shared) (e : Value) (s' : Shared), CX w [] H s (fun _ _ _ => False) e s' → False) :
    PySem.W.WalkO q loose XP YP l.row.toRowW d [] (fun f vs => PySem.call f vs) := by
  refine Att.attach_call hn hdf fun w s₀ s₁ mg mb fa o pm cd doc a vs ns G Y ho hd hcd hmg hobj hints hlen hg => ?_
  have KX := hY w _ Y
  obtain ⟨fd, hb, hF⟩ := F w mg fa _ KX G.T.g hmg
  exact law_call KX G.T.g G.T.b G.T.builtins G.T.nolimit hg hobj hints (Nat.le_trans hlen hn2) hr hF hb (fun H hO hS => hsp w H a ns hlen hO hS) fun H e s' => hCX w H s₁ e s'
end L2
/- THE LAST THEOREM (shape; LID, My.* are yours):
   My.Adr: a structure of the addresses that your layer names (classes, functions); My.Txt K t: a structure (Prop) of the equations over K;
   My.txt_mk : {K} {implicit addresses ..} (e1 : nsIn K mainGlobals "law" = some (some (.ref f))) (e2 : K.lookup f = some ⟨oc, od, .func (fnOf "law" "law" params body scope dV kV doc pm an cdv ct), sl⟩) (e3 : codeIn K cdv "law" = true) .. : ∃ t, My.Txt K t
set_option maxRecDepth 100000 in
set_option maxHeartbeats 0 in
theorem PySem.Challenge.cw_LID_holds : PySem.Challenge.rw_LID.Holds := by
  w_on; o_law; k_head; (case hw => w_witness2)
  k_fill
  refine L2.walk_of (l := PySem.Challenge.rw_LID) (n := 63) (k := 40) (x := "script") (CX := fun w => ..) (sp := fun _ => My.sp_law) rfl (by decide) rfl ⟨rfl, by decide, by decide⟩ (fun w h Y => PySem.W.kIn_of Y) ?F ?S ?C
  case F =>
    intro w mg fa h KX G hmg
    have T : ∃ t, My.Txt (L2.KOf KX) t := by
      dsimp only [L2.KOf]                          -- K must stand as «<heap const> w.params» for k_is
      refine' My.txt_mk ?e1 ?e2 ?e3 ..
      (case e1 => PySem.W.k_is)                    -- in the order: a name -> its address -> its object -> its parts
      (case e2 => PySem.W.k_is)
      ..
    obtain ⟨t, T⟩ := T
    have e0 := hmg.symm.trans (PySem.W.mg_of KX G T.law)
    cases e0                                       -- fa is the law's own address
    exact ⟨_, fun s u => .of_eq rfl, fun base kb nb => My.law_fn T kb nb⟩     -- if «.of_eq rfl» comes too early: refine' ⟨_, ?b, fun base kb nb => My.law_fn T kb nb⟩; exact fun s u => .of_eq rfl
  case S => exact fun w H a ns hl hO hS => ..
  case C => exact ..
(the tactic k_is has no namespace: write k_is) -/
namespace L2
open PySem PySem.Spec PyProof.Rows
def defArgs (s : Stmt) : Arguments := match s with
  | .FunctionDef _ a _ _ _ _ _ _ _ _ => a
  | _ => { posonlyargs := [], args := [], vararg := none, kwonlyargs := [], kw_defaults := [], kwarg := none, defaults := [] }
def defBody (s : Stmt) : List Stmt := match s with
  | .FunctionDef _ _ b _ _ _ _ _ _ _ => b
  | _ => []
def defScope (s : Stmt) : Scope := match s with
  | .FunctionDef _ _ _ _ _ _ sc _ _ _ => sc
  | _ => { kind := .function, names := [], isGenerator := false, isCoroutine := false }
abbrev CX0 : CXT := fun _ _ _ _ _ _ => False
abbrev E0 : XK := fun _ _ _ => False
theorem pass0 {X : Cx} : Passes CX0 X E0 := fun _ _ _ _ _ _ _ h => h.elim
structure Fun (K : PySem.W.Frag) (x qual : Str) (st : Stmt) (f : Addr) (fd : FuncData) : Prop where
  ex : ∃ (oc : Value) (od : Option Addr) (kV doc pm : Value) (an : Option Addr) (cdv ct : Value) (osl : Array (Option Value)),
    fd = PySem.W.fnOf x qual (defArgs st) (defBody st) (defScope st) .none kV doc pm an cdv ct ∧ K.lookup f = some ⟨oc, od, .func fd, osl⟩ ∧ PySem.W.codeIn K cdv qual = true
  kp : PySem.W.keepIn K (.ref f) = true
section
variable {P : Program} {w : World} {K : PySem.W.Frag} {mg : Str → Option Value} {base : Heap}
theorem Fun.ok {x qual : Str} {st : Stmt} {f : Addr} {fd : FuncData} {N ps : List Str} {k : Nat} {sp : Sp} (F : Fun K x qual st f fd) (S : FnScope N ps (defScope st)) (len : ∀ vs H Q E, sp vs H Q E → vs.length = ps.length)
    (hbody : ∀ (cdv : Value) (A : Around) (outer : List Env) (s : Shared) (H : Hp) (vs : List V) (Q : VK) (E : XK), Room k (A.deeper (envOfC qual (defScope st) s.heap.objs.size f cdv)) → sp vs H Q E →
      ∃ t, PSs (cxOf CX0 P w K mg base N qual (defScope st) f cdv A outer s H E).nox (defBody st) t ∧ t { nx := fun _ H' => Q .non H', rt := Q } (start N vs) H) : FnOk P w K mg base CX0 (k + 1) f fd ps sp := by
  obtain ⟨oc, od, kV, doc, pm, an, cdv, ct, osl, rfl, lk, hcd⟩ := F.ex
  refine fn_of lk hcd S len fun A outer s H vs Q E hr hsp => ?_
  obtain ⟨t, h, q⟩ := hbody cdv A outer s H vs Q E hr hsp
  exact ⟨t, h.nox, q⟩
theorem Fun.binds {x qual : Str} {st : Stmt} {f : Addr} {fd : FuncData} {ps : List Str} (F : Fun K x qual st f fd)
    (h : ∀ (kV doc pm : Value) (an : Option Addr) (cdv ct : Value) (us : List Value), us.length = ps.length → bindArgs (PySem.W.fnOf x qual (defArgs st) (defBody st) (defScope st) .none kV doc pm an cdv ct) ⟨us, []⟩ = pure (ps.zip us)) : Binds K fd ps [] := by
  obtain ⟨oc, od, kV, doc, pm, an, cdv, ct, osl, rfl, lk, hcd⟩ := F.ex
  exact .all (h kV doc pm an cdv ct)
theorem fun_mk {x qual : Str} {st : Stmt} {f : Addr} {oc : Value} {od an : Option Addr} {osl : Array (Option Value)} {kV doc pm cdv ct : Value} (l : K.lookup f = some ⟨oc, od, .func (PySem.W.fnOf x qual (defArgs st) (defBody st) (defScope st) .none kV doc pm an cdv ct), osl⟩)
    (c : PySem.W.codeIn K cdv qual = true) (k : PySem.W.keepIn K (.ref f) = true) : Fun K x qual st f (PySem.W.fnOf x qual (defArgs st) (defBody st) (defScope st) .none kV doc pm an cdv ct) := ⟨⟨oc, od, kV, doc, pm, an, cdv, ct, osl, rfl, l, c⟩, k⟩
end
section
variable {X : Cx}
theorem pv (i : Nat) {x : Str} {pos : Pos} (hN : X.N[i]? = some x := by rfl) (hv : Vis X.env.scope x := by first | exact Or.inl rfl | exact Or.inr (Or.inl rfl) | exact Or.inr (Or.inr rfl)) (hd : (x == ("__debug__" : Str)) = false := by decide)
    (hcd : (x == ("__classdict__" : Str)) = false := by decide) : PE X (.Name x pos) (tVar i) := pe_var hN hv hd hcd
end
theorem iteF {A B : Prop} (h : B) : if false = true then A else B := by
  rw [if_neg Bool.false_ne_true]
  exact h
theorem iteT {A B : Prop} (h : A) : if true = true then A else B := by
  rw [if_pos rfl]
  exact h
def Same (H H' : Hp) : Prop := ∀ b o, H b = some o → H' b = some o
theorem Same.refl (H : Hp) : Same H H := fun _ _ h => h
theorem Same.trans {H H1 H2 : Hp} (a : Same H H1) (b : Same H1 H2) : Same H H2 := fun c o h => b c o (a c o h)
theorem Same.free {H H' : Hp} (e : Same H H') {l : Addr} (h : H' l = Option.none) : H l = Option.none := by
  cases q : H l with
  | none => rfl
  | some o =>
    rw [e l o q] at h
    cases h
theorem Same.seq {K : PySem.W.Frag} {H H' : Hp} {a : Addr} {xs : List V} (e : Same H H') (h : SqL K H a xs) : SqL K H' a xs := by
  rcases h with (h | ⟨o, h⟩) | h
  · exact .inl (.inl (e _ _ h))
  · exact .inl (.inr ⟨o, e _ _ h⟩)
  · exact .inr h
end L2
set_option Elab.async false
set_option linter.all false
set_option maxRecDepth 100000
namespace L3
open PySem
inductive D where
  | non | bl (b : Bool) | int (i : Int) | str (x : Str) | ty (n : String) | tup (ds : List D) | ls (ds : List D) | obj (a : Addr)
inductive MO where
  | lst (ds : List D)
  | dct (kvs : List (L2.Key × D))
abbrev Mu := Addr → Option MO
def up (μ : Mu) (a : Addr) (o : MO) : Mu := fun b => if b = a then some o else μ b
theorem up_same {μ : Mu} {a : Addr} {o : MO} : up μ a o a = some o := by unfold up; rw [if_pos rfl]
theorem up_ne {μ : Mu} {a b : Addr} {o : MO} (h : b ≠ a) : up μ a o b = μ b := by unfold up; rw [if_neg h]
theorem up_up {μ : Mu} {a : Addr} {o u : MO} : up (up μ a o) a u = up μ a u := by
  funext b; unfold up; split <;> rfl
abbrev ST := List (Option D)
abbrev DK := D → Mu → Prop
abbrev ETr := ST → Mu → DK → Prop
abbrev TTr := ST → Mu → (Bool → Mu → Prop) → Prop
abbrev ATr := ST → Mu → (List D → Mu → Prop) → Prop
abbrev DR := D → Mu → DK → Prop
abbrev DR2 := D → D → Mu → DK → Prop
abbrev FSp := List D → Mu → DK → Prop
structure En where
  nx : ST → Mu → Prop
  rt : DK
  bk : ST → Mu → Prop := fun _ _ => False
  ct : ST → Mu → Prop := fun _ _ => False
abbrev STr := En → ST → Mu → Prop
abbrev GTr := D → ST → Mu → (ST → Mu → Prop) → Prop
def kIf (c : Bool) (A B : Prop) : Prop := match c with
  | true => A
  | false => B
def kB (x : D) (f : Bool → Prop) : Prop := match x with
  | .bl c => f c
  | _ => False
def kI (x : D) (f : Int → Prop) : Prop := match x with
  | .int c => f c
  | _ => False
def kO (x : Option D) (f : D → Prop) : Prop := match x with
  | some d => f d
  | none => False
def kS (x : D) (f : List D → Prop) : Prop := match x with
  | .tup ds => f ds
  | .ls ds => f ds
  | _ => False
def k2 (ds : List D) (f : D → D → Prop) : Prop := match ds with
  | [v, w] => f v w
  | _ => False
def kL (μ : Mu) (a : Addr) (f : List D → Prop) : Prop := match μ a with
  | some (.lst ds) => f ds
  | _ => False
def kD (μ : Mu) (a : Addr) (f : List (L2.Key × D) → Prop) : Prop := match μ a with
  | some (.dct ds) => f ds
  | _ => False
def kN (x : Option Nat) (f : Nat → Prop) : Prop := match x with
  | some d => f d
  | none => False
def lk : ST → Nat → Option D
  | [], _ => none
  | o :: _, 0 => o
  | _ :: r, n + 1 => lk r n
def TVar (i : Nat) : ETr := fun ρ μ Q => kO (lk ρ i) fun d => Q d μ
def TC (d : D) : ETr := fun _ μ Q => Q d μ
def TBin (r : DR2) (a b : ETr) : ETr := fun ρ μ Q => a ρ μ fun x μ1 => b ρ μ1 fun y μ2 => r x y μ2 Q
def TUn (r : DR) (a : ETr) : ETr := fun ρ μ Q => a ρ μ fun x μ1 => r x μ1 Q
def S64 (i : Int) : Prop := -18446744073709551616 < i ∧ i < 18446744073709551616
def M256 (i : Int) : Prop := -115792089237316195423570985008687907853269984665640564039457584007913129639936 < i ∧ i < 115792089237316195423570985008687907853269984665640564039457584007913129639936
def MulOk (i j : Int) : Prop := (S64 i ∨ S64 j) ∨ (M256 i ∧ M256 j)
def DivOk (j : Int) : Prop := j ≠ 0 ∧ M256 j
def PowOk (i j : Int) : Prop := 0 ≤ j ∧ j ≤ 1000000 ∧ i.natAbs < 18446744073709551616
def rSub : DR2 := fun x y μ Q => match x, y with
  | .int i, .int j => Q (.int (i - j)) μ
  | _, _ => False
def rMul : DR2 := fun x y μ Q => match x, y with
  | .int i, .int j => MulOk i j ∧ Q (.int (i * j)) μ
  | _, _ => False
def rDiv : DR2 := fun x y μ Q => match x, y with
  | .int i, .int j => DivOk j ∧ Q (.int (i.fdiv j)) μ
  | _, _ => False
def rMod : DR2 := fun x y μ Q => match x, y with
  | .int i, .int j => j ≠ 0 ∧ Q (.int (i.fmod j)) μ
  | _, _ => False
def rPow : DR2 := fun x y μ Q => match x, y with
  | .int i, .int j => PowOk i j ∧ Q (.int (i ^ j.toNat)) μ
  | _, _ => False
def rNeg : DR := fun x μ Q => match x with
  | .int i => Q (.int (-i)) μ
  | _ => False
def rCmp (p : Int → Int → Bool) : DR2 := fun x y μ Q => match x, y with
  | .int i, .int j => Q (.bl (p i j)) μ
  | _, _ => False
def rLt : DR2 := rCmp fun i j => decide (i < j)
def rLe : DR2 := rCmp fun i j => decide (i ≤ j)
def rGt : DR2 := rCmp fun i j => decide (j < i)
def rGe : DR2 := rCmp fun i j => decide (j ≤ i)
mutual
def eqD : D → D → Bool
  | .non, .non => true
  | .bl a, .bl b => a == b
  | .int a, .int b => decide (a = b)
  | .bl a, .int b => decide ((if a then 1 else 0 : Int) = b)
  | .int a, .bl b => decide (a = (if b then 1 else 0 : Int))
  | .str a, .str b => decide (a = b)
  | .tup a, .tup b => eqDs a b
  | .ls a, .ls b => eqDs a b
  | _, _ => false
def eqDs : List D → List D → Bool
  | [], [] => true
  | a :: r, b :: s => eqD a b && eqDs r s
  | _, _ => false
end
mutual
def okD : Nat → D → Bool
  | _, .non => true
  | _, .bl _ => true
  | _, .int _ => true
  | _, .str x => PyData.strOk x
  | n + 1, .tup ds => okDs n ds
  | n + 1, .ls ds => okDs n ds
  | _, _ => false
def okDs : Nat → List D → Bool
  | _, [] => true
  | n, d :: ds => okD n d && okDs n ds
end
def rEq : DR2 := fun x y μ Q => (okD 40 x = true ∧ okD 40 y = true) ∧ Q (.bl (eqD x y)) μ
def rNe : DR2 := fun x y μ Q => (okD 40 x = true ∧ okD 40 y = true) ∧ Q (.bl (!eqD x y)) μ
def rIs : DR2 := fun x y μ Q => match y with
  | .non => (match x with
    | .non => Q (.bl true) μ
    | _ => Q (.bl false) μ)
  | _ => False
def rIsNot : DR2 := fun x y μ Q => match y with
  | .non => (match x with
    | .non => Q (.bl false) μ
    | _ => Q (.bl true) μ)
  | _ => False
def TAndV (a b : ETr) : ETr := fun ρ μ Q => a ρ μ fun x μ1 => kB x fun c => kIf c (b ρ μ1 Q) (Q (.bl false) μ1)
def TOrV (a b : ETr) : ETr := fun ρ μ Q => a ρ μ fun x μ1 => kB x fun c => kIf c (Q (.bl true) μ1) (b ρ μ1 Q)
def TNotV (a : ETr) : ETr := fun ρ μ Q => a ρ μ fun x μ1 => kB x fun c => Q (.bl (!c)) μ1
def TB (t : ETr) : TTr := fun ρ μ Q => t ρ μ fun x μ1 => kB x fun c => Q c μ1
def TAnd (t u : TTr) : TTr := fun ρ μ Q => t ρ μ fun c μ1 => kIf c (u ρ μ1 Q) (Q false μ1)
def TOr (t u : TTr) : TTr := fun ρ μ Q => t ρ μ fun c μ1 => kIf c (Q true μ1) (u ρ μ1 Q)
def TNot (t : TTr) : TTr := fun ρ μ Q => t ρ μ fun c μ1 => Q (!c) μ1
def TIfE (c : TTr) (a b : ETr) : ETr := fun ρ μ Q => c ρ μ fun k μ1 => kIf k (a ρ μ1 Q) (b ρ μ1 Q)
def TChain (r r' : DR2) (a b c : ETr) : ETr := fun ρ μ Q => a ρ μ fun x μ1 => b ρ μ1 fun y μ2 => r x y μ2 fun z μ3 => kB z fun k => kIf k (c ρ μ3 fun y' μ4 => r' y y' μ4 Q) (Q (.bl false) μ3)
def TNil : ATr := fun _ μ Q => Q [] μ
def TCons (a : ETr) (r : ATr) : ATr := fun ρ μ Q => a ρ μ fun x μ1 => r ρ μ1 fun xs μ2 => Q (x :: xs) μ2
def TTup (t : ATr) : ETr := fun ρ μ Q => t ρ μ fun ds μ1 => ds.length ≤ 1000000 ∧ Q (.tup ds) μ1
def TLsV (t : ATr) : ETr := fun ρ μ Q => t ρ μ fun ds μ1 => ds.length ≤ 1000000 ∧ Q (.ls ds) μ1
def TLsM (t : ATr) : ETr := fun ρ μ Q => t ρ μ fun ds μ1 => ds.length ≤ 1000000 ∧ ∀ p, μ1 p = none → Q (.obj p) (up μ1 p (.lst ds))
def TCall (sp : FSp) (t : ATr) : ETr := fun ρ μ Q => t ρ μ fun ds μ1 => sp ds μ1 Q
def atD (ds : List D) (i : Int) : Option D := L2.atI ds i
def rIx : DR2 := fun x y μ Q => match x, y with
  | .tup ds, .int i => kO (atD ds i) fun d => Q d μ
  | .ls ds, .int i => kO (atD ds i) fun d => Q d μ
  | .obj a, .int i => kL μ a fun ds => kO (atD ds i) fun d => Q d μ
  | _, _ => False
def bAbs : FSp := fun ds μ Q => match ds with
  | [.int i] => Q (.int (if i < 0 then -i else i)) μ
  | _ => False
def bMax2 : FSp := fun ds μ Q => match ds with
  | [.int i, .int j] => Q (.int (if j > i then j else i)) μ
  | _ => False
def bMin2 : FSp := fun ds μ Q => match ds with
  | [.int i, .int j] => Q (.int (if j < i then j else i)) μ
  | _ => False
def bInt : FSp := fun ds μ Q => match ds with
  | [.int i] => Q (.int i) μ
  | [.bl k] => Q (.int (if k then 1 else 0)) μ
  | _ => False
def bLen : FSp := fun ds μ Q => match ds with
  | [.tup xs] => Q (.int xs.length) μ
  | [.ls xs] => Q (.int xs.length) μ
  | [.str x] => x.length ≤ 1000000 ∧ Q (.int x.length) μ
  | [.obj a] => kL μ a fun xs => Q (.int xs.length) μ
  | _ => False
def tyD : D → Option String
  | .non => some "NoneType"
  | .bl _ => some "bool"
  | .int _ => some "int"
  | .str _ => some "str"
  | .tup _ => some "tuple"
  | .ls _ => some "list"
  | _ => none
def isTy (t c : String) : Bool := t == c || (t == "bool" && c == "int")
def rIsI (c : String) : DR := fun x μ Q => match tyD x with
  | some t => Q (.bl (isTy t c)) μ
  | none => False
def TNext : STr := fun E ρ μ => E.nx ρ μ
def TSeq (t u : STr) : STr := fun E ρ μ => t { E with nx := u E } ρ μ
def TBreak : STr := fun E ρ μ => E.bk ρ μ
def TCont : STr := fun E ρ μ => E.ct ρ μ
def TDrop (e : ETr) : STr := fun E ρ μ => e ρ μ fun _ μ1 => E.nx ρ μ1
def TRet (e : ETr) : STr := fun E ρ μ => e ρ μ E.rt
def TRetN : STr := fun E _ μ => E.rt .non μ
def TIfS (c : TTr) (t u : STr) : STr := fun E ρ μ => c ρ μ fun b μ1 => kIf b (t E ρ μ1) (u E ρ μ1)
def GName (i : Nat) : GTr := fun d ρ μ k => k (ρ.set i (some d)) μ
def TAsg (e : ETr) (g : GTr) : STr := fun E ρ μ => e ρ μ fun d μ1 => g d ρ μ1 E.nx
def TPar (i j : Nat) (a : ATr) : STr := fun E ρ μ => a ρ μ fun ds μ1 => k2 ds fun v w => E.nx ((ρ.set i (some v)).set j (some w)) μ1
def kSet (x z y : D) (μ : Mu) (f : Mu → Prop) : Prop := match x, z with
  | .obj a, .int n => kL μ a fun ds => kN (L2.ixN ds.length n) fun j => f (up μ a (.lst (ds.set j y)))
  | _, _ => False
def TSetIx (o k e : ETr) : STr := fun E ρ μ => e ρ μ fun y μ1 => o ρ μ1 fun x μ2 => k ρ μ2 fun z μ3 => kSet x z y μ3 fun μ4 => E.nx ρ μ4
def TWhile (c : TTr) (b : STr) : STr := fun E ρ μ => ∃ (P : ST → Mu → Prop) (m : ST → Mu → Nat), P ρ μ ∧ ∀ ρ μ, P ρ μ →
  c ρ μ fun k μ1 => kIf k (b { E with nx := fun ρ' μ' => P ρ' μ' ∧ m ρ' μ' < m ρ μ, ct := fun ρ' μ' => P ρ' μ' ∧ m ρ' μ' < m ρ μ, bk := E.nx } ρ μ1) (E.nx ρ μ1)
def forR (g : GTr) (b : STr) (E : En) : List D → ST → Mu → Prop
  | [], ρ, μ => E.nx ρ μ
  | d :: r, ρ, μ => g d ρ μ fun ρ1 μ1 => b { E with nx := forR g b E r, ct := forR g b E r, bk := E.nx } ρ1 μ1
def TFor (it : ATr) (g : GTr) (b : STr) : STr := fun E ρ μ => it ρ μ fun ds μ1 => forR g b E ds ρ μ1
def rangeD (lo : Int) (n : Nat) : List D := (List.range n).map fun i => .int (lo + (i : Nat))
def IRange1 (a : ETr) : ATr := fun ρ μ Q => a ρ μ fun x μ1 => kI x fun j => (-4611686018427387904 ≤ j ∧ j < 4611686018427387904) ∧ Q (rangeD 0 j.toNat) μ1
def ISeq (a : ETr) : ATr := fun ρ μ Q => a ρ μ fun x μ1 => kS x fun ds => Q ds μ1
def dn (μ : Mu) (a : Addr) : Mu := fun b => if b = a then none else μ b
def capD (ρ : ST) (n : Nat) (caps : List Nat) : ST := List.replicate n none ++ caps.map (lk ρ)
def compR (p : Addr) (G : GTr) (tt : TTr) (te : ETr) (ρc : ST) (K : Mu → Prop) : List D → Mu → Prop
  | [], μ => K μ
  | d :: r, μ => G d ρc μ fun ρ1 μ1 => tt ρ1 μ1 fun b μ2 => kIf b (te ρ1 μ2 fun y μ3 => kL μ3 p fun zs => zs.length < 1000000 ∧ compR p G tt te ρc K r (up μ3 p (.lst (zs ++ [y])))) (compR p G tt te ρc K r μ2)
def TComp (it : ATr) (G : GTr) (tt : TTr) (te : ETr) (n : Nat) (caps : List Nat) : ETr := fun ρ μ Q => it ρ μ fun ds μ1 => ∀ p, μ1 p = none →
  compR p G tt te (capD ρ n caps) (fun μ' => kL μ' p fun zs => Q (.ls zs) (dn μ' p)) ds (up μ1 p (.lst []))
def TYes : TTr := fun _ μ Q => Q true μ
theorem forR_ind {g : GTr} {b : STr} {E : En} (P : List D → ST → Mu → Prop) (hnil : ∀ ρ μ, P [] ρ μ → E.nx ρ μ)
    (hcons : ∀ d r ρ μ (N : ST → Mu → Prop), P (d :: r) ρ μ → (∀ ρ' μ', P r ρ' μ' → N ρ' μ') → g d ρ μ fun ρ1 μ1 => b { E with nx := N, ct := N, bk := E.nx } ρ1 μ1) :
    ∀ (ds : List D) (ρ : ST) (μ : Mu), P ds ρ μ → forR g b E ds ρ μ
  | [], ρ, μ, h => hnil ρ μ h
  | d :: r, ρ, μ, h => hcons d r ρ μ _ h fun ρ' μ' q => forR_ind P hnil hcons r ρ' μ' q
end L3
set_option Elab.async false
set_option linter.all false
set_option maxRecDepth 100000
set_option maxHeartbeats 4000000
namespace L3
open PySem PySem.Spec PyProof.Rows L2
def SqF (K : PySem.W.Frag) (H : Hp) (a : Addr) (xs : List V) : Prop :=
  (∃ o, H a = some (.frz o (.lst xs))) ∨
    ∃ (o : Obj) (its : Array Value) (n : Nat), K.lookup a = some o ∧ o.cls = .type "list" ∧ o.dict = none ∧ o.data = .seq its n ∧ its.size ≤ sizeLine ∧ Vals xs its.toList
theorem SqF.sq {K : PySem.W.Frag} {H : Hp} {a : Addr} {xs : List V} (h : SqF K H a xs) : SqL K H a xs := by
  rcases h with h | h
  · exact .inl (.inr h)
  · exact .inr h
mutual
inductive Dp (K : PySem.W.Frag) (H : Hp) : V → D → Prop
  | non : Dp K H .non .non
  | bl (b : Bool) : Dp K H (.bl b) (.bl b)
  | int (n : Int) : Dp K H (.int n) (.int n)
  | str (z : Str) : Dp K H (.str z) (.str z)
  | ty (n : String) : Dp K H (.ty n) (.ty n)
  | tup {a : Addr} {xs : List V} {ds : List D} : SqT K H a xs → DpL K H xs ds → Dp K H (.ref a) (.tup ds)
  | ls {a : Addr} {xs : List V} {ds : List D} : SqF K H a xs → DpL K H xs ds → Dp K H (.ref a) (.ls ds)
  | obj (a : Addr) : Dp K H (.ref a) (.obj a)
inductive DpL (K : PySem.W.Frag) (H : Hp) : List V → List D → Prop
  | nil : DpL K H [] []
  | cons {v : V} {d : D} {vs : List V} {ds : List D} : Dp K H v d → DpL K H vs ds → DpL K H (v :: vs) (d :: ds)
end
structure Tk (H H' : Hp) : Prop where
  tup : ∀ a xs, H a = some (.tup xs) → H' a = some (.tup xs)
  frz : ∀ a o u, H a = some (.frz o u) → H' a = some (.frz o u)
theorem Tk.refl (H : Hp) : Tk H H := ⟨fun _ _ h => h, fun _ _ _ h => h⟩
theorem Tk.trans {H H1 H2 : Hp} (a : Tk H H1) (b : Tk H1 H2) : Tk H H2 := ⟨fun c xs h => b.tup c xs (a.tup c xs h), fun c o u h => b.frz c o u (a.frz c o u h)⟩
theorem Tk.upd {H : Hp} {a : Addr} {o : HO} (h1 : ∀ xs, H a ≠ some (.tup xs)) (h2 : ∀ o u, H a ≠ some (.frz o u)) : Tk H (L2.upd H a o) :=
  ⟨fun b xs h => by rw [upd_ne (fun z => by subst z; exact h1 _ h)]; exact h, fun b o u h => by rw [upd_ne (fun z => by subst z; exact h2 _ _ h)]; exact h⟩
theorem Tk.new {H : Hp} {a : Addr} {o : HO} (h : H a = none) : Tk H (L2.upd H a o) := .upd (fun _ e => by rw [h] at e; cases e) fun _ _ e => by rw [h] at e; cases e
theorem Tk.sqT {K : PySem.W.Frag} {H H' : Hp} {a : Addr} {xs : List V} (t : Tk H H') (h : SqT K H a xs) : SqT K H' a xs := by
  rcases h with (h | ⟨o, h⟩) | h
  · exact .inl (.inl (t.tup _ _ h))
  · exact .inl (.inr ⟨o, t.frz _ _ _ h⟩)
  · exact .inr h
theorem Tk.sqF {K : PySem.W.Frag} {H H' : Hp} {a : Addr} {xs : List V} (t : Tk H H') (h : SqF K H a xs) : SqF K H' a xs := by
  rcases h with ⟨o, h⟩ | h
  · exact .inl ⟨o, t.frz _ _ _ h⟩
  · exact .inr h
mutual
theorem Dp.mono {K : PySem.W.Frag} {H H' : Hp} (t : Tk H H') : ∀ {v : V} {d : D}, Dp K H v d → Dp K H' v d
  | _, _, .non => .non
  | _, _, .bl b => .bl b
  | _, _, .int i => .int i
  | _, _, .str x => .str x
  | _, _, .ty n => .ty n
  | _, _, .tup h l => .tup (t.sqT h) (DpL.mono t l)
  | _, _, .ls h l => .ls (t.sqF h) (DpL.mono t l)
  | _, _, .obj a => .obj a
theorem DpL.mono {K : PySem.W.Frag} {H H' : Hp} (t : Tk H H') : ∀ {vs : List V} {ds : List D}, DpL K H vs ds → DpL K H' vs ds
  | _, _, .nil => .nil
  | _, _, .cons h l => .cons (Dp.mono t h) (DpL.mono t l)
end
theorem DpL.length {K : PySem.W.Frag} {H : Hp} : ∀ {vs : List V} {ds : List D}, DpL K H vs ds → vs.length = ds.length
  | _, _, .nil => rfl
  | _, _, .cons _ l => by rw [List.length_cons, List.length_cons, DpL.length l]
theorem DpL.get {K : PySem.W.Frag} {H : Hp} : ∀ {vs : List V} {ds : List D} {i : Nat} {d : D}, DpL K H vs ds → ds[i]? = some d → ∃ v, vs[i]? = some v ∧ Dp K H v d
  | _, _, _, _, .nil, e => by simp at e
  | _, _, 0, _, .cons h _, e => by simp at e; subst e; exact ⟨_, rfl, h⟩
  | _, _, i + 1, d, .cons _ l, e => by
    obtain ⟨v, e1, h⟩ := DpL.get (i := i) (d := d) l (by simpa using e)
    exact ⟨v, by simpa using e1, h⟩
theorem DpL.get' {K : PySem.W.Frag} {H : Hp} : ∀ {vs : List V} {ds : List D} {i : Nat} {v : V}, DpL K H vs ds → vs[i]? = some v → ∃ d, ds[i]? = some d ∧ Dp K H v d
  | _, _, _, _, .nil, e => by simp at e
  | _, _, 0, _, .cons h _, e => by simp at e; subst e; exact ⟨_, rfl, h⟩
  | _, _, i + 1, d, .cons _ l, e => by
    obtain ⟨v, e1, h⟩ := DpL.get' (i := i) (v := d) l (by simpa using e)
    exact ⟨v, by simpa using e1, h⟩
theorem DpL.set {K : PySem.W.Frag} {H : Hp} {v : V} {d : D} (h : Dp K H v d) : ∀ {vs : List V} {ds : List D} (i : Nat), DpL K H vs ds → DpL K H (vs.set i v) (ds.set i d)
  | _, _, _, .nil => .nil
  | _, _, 0, .cons _ l => .cons h l
  | _, _, i + 1, .cons q l => .cons q (DpL.set h i l)
theorem DpL.append {K : PySem.W.Frag} {H : Hp} : ∀ {vs ws : List V} {ds es : List D}, DpL K H vs ds → DpL K H ws es → DpL K H (vs ++ ws) (ds ++ es)
  | _, _, _, _, .nil, s => s
  | _, _, _, _, .cons h l, s => .cons h (DpL.append l s)
theorem DpL.at {K : PySem.W.Frag} {H : Hp} {vs : List V} {ds : List D} {i : Int} {d : D} (l : DpL K H vs ds) (e : atD ds i = some d) : ∃ v, atI vs i = some v ∧ Dp K H v d := by
  unfold atD atI at e
  unfold atI
  rw [l.length]
  cases q : ixN ds.length i with
  | none => rw [q] at e; cases e
  | some j =>
    rw [q] at e
    exact l.get e
def DpK (K : PySem.W.Frag) (H : Hp) (xs : List (Key × V)) (kvs : List (Key × D)) : Prop := xs.map (·.1) = kvs.map (·.1) ∧ DpL K H (xs.map (·.2)) (kvs.map (·.2))
theorem DpK.mono {K : PySem.W.Frag} {H H' : Hp} (t : Tk H H') {xs : List (Key × V)} {kvs : List (Key × D)} (h : DpK K H xs kvs) : DpK K H' xs kvs := ⟨h.1, h.2.mono t⟩
def MRel (K : PySem.W.Frag) (H : Hp) (a : Addr) : MO → Prop
  | .lst ds => ∃ xs, H a = some (.lst xs) ∧ DpL K H xs ds
  | .dct kvs => ∃ xs, H a = some (.dK xs) ∧ DpK K H xs kvs
theorem MRel.go {K : PySem.W.Frag} {H H' : Hp} {a : Addr} {o : MO} (h : MRel K H a o) (t : Tk H H') (k : ∀ u, H a = some u → H' a = some u) : MRel K H' a o := by
  cases o with
  | lst ds => obtain ⟨xs, z, l⟩ := h; exact ⟨xs, k _ z, l.mono t⟩
  | dct kvs => obtain ⟨xs, z, l⟩ := h; exact ⟨xs, k _ z, l.mono t⟩
theorem MRel.ne {K : PySem.W.Frag} {H : Hp} {a q : Addr} {o : MO} {u : HO} (h : MRel K H a o) (t : Tk H (L2.upd H q u)) (k : a ≠ q) : MRel K (L2.upd H q u) a o := h.go t fun _ e => by rw [upd_ne k]; exact e
def MuOk (K : PySem.W.Frag) (H : Hp) (μ : Mu) : Prop := ∀ a o, μ a = some o → MRel K H a o
theorem MuOk.free {K : PySem.W.Frag} {H : Hp} {μ : Mu} (h : MuOk K H μ) {a : Addr} (e : H a = none) : μ a = none := by
  cases q : μ a with
  | none => rfl
  | some o =>
    cases o with
    | lst ds => obtain ⟨xs, z, _⟩ := h a _ q; rw [e] at z; cases z
    | dct ds => obtain ⟨xs, z, _⟩ := h a _ q; rw [e] at z; cases z
theorem MuOk.keep {K : PySem.W.Frag} {H H' : Hp} {μ : Mu} (h : MuOk K H μ) (t : Tk H H') (k : ∀ a u, μ a ≠ none → H a = some u → H' a = some u) : MuOk K H' μ := fun a o e => by
  exact (h a _ e).go t fun u z => k a u (by rw [e]; simp) z
def Sub (μ μ' : Mu) : Prop := ∀ a o, μ a = some o → μ' a = some o
theorem Sub.refl (μ : Mu) : Sub μ μ := fun _ _ h => h
theorem Sub.new {μ : Mu} {p : Addr} {o : MO} (h : μ p = none) : Sub μ (up μ p o) := fun a u e => by
  rw [up_ne (fun z => by subst z; rw [h] at e; cases e)]; exact e
theorem Sub.trans {μ μ1 μ2 : Mu} (a : Sub μ μ1) (b : Sub μ1 μ2) : Sub μ μ2 := fun c o h => b c o (a c o h)
theorem MuOk.sub {K : PySem.W.Frag} {H : Hp} {μ μ' : Mu} (h : MuOk K H μ') (s : Sub μ μ') : MuOk K H μ := fun a o e => h a o (s a o e)
structure Rl (K : PySem.W.Frag) (σ : L2.St) (H : Hp) (ρ : ST) (μ : Mu) : Prop where
  len : ρ.length = σ.length
  loc : ∀ i d, lk ρ i = some d → ∃ v, σ[i]? = some (some v) ∧ Dp K H v d
  mu : MuOk K H μ
theorem Rl.go {K : PySem.W.Frag} {σ : L2.St} {H H' : Hp} {ρ : ST} {μ μ' : Mu} (r : Rl K σ H ρ μ) (t : Tk H H') (m : MuOk K H' μ') : Rl K σ H' ρ μ' :=
  ⟨r.len, fun i d e => let ⟨v, h1, h2⟩ := r.loc i d e; ⟨v, h1, h2.mono t⟩, m⟩
theorem lk_set : ∀ (ρ : ST) (i j : Nat) (d : D), lk (ρ.set i (some d)) j = if i = j ∧ i < ρ.length then some d else lk ρ j
  | [], i, j, d => by simp [lk]
  | o :: r, 0, 0, d => by simp [lk]
  | o :: r, 0, j + 1, d => by simp [lk]
  | o :: r, i + 1, 0, d => by simp [lk]
  | o :: r, i + 1, j + 1, d => by
    show lk (r.set i (some d)) j = _
    rw [lk_set r i j d]
    simp [lk]
theorem Rl.set {K : PySem.W.Frag} {σ : L2.St} {H : Hp} {ρ : ST} {μ : Mu} (r : Rl K σ H ρ μ) {v : V} {d : D} (h : Dp K H v d) (i : Nat) : Rl K (σ.set i (some v)) H (ρ.set i (some d)) μ := by
  refine ⟨by simp [r.len], fun j e q => ?_, r.mu⟩
  rw [lk_set] at q
  split at q
  · rename_i hc
    obtain ⟨rfl, hlt⟩ := hc
    cases q
    exact ⟨v, by rw [List.getElem?_set_self (by rw [← r.len]; exact hlt)], h⟩
  · rename_i hc
    obtain ⟨u, h1, h2⟩ := r.loc j e q
    by_cases hij : i = j
    · subst hij
      have : ¬ i < ρ.length := fun z => hc ⟨rfl, z⟩
      have hn : σ[i]? = none := List.getElem?_eq_none_iff.mpr (by rw [← r.len]; omega)
      rw [hn] at h1; cases h1
    · exact ⟨u, by rw [List.getElem?_set_ne hij]; exact h1, h2⟩
abbrev VPost (K : PySem.W.Frag) (H : Hp) (Q : DK) (Q' : VK) : Prop := ∀ v H' d μ', Tk H H' → MuOk K H' μ' → Dp K H' v d → Q d μ' → Q' v H'
def Sim (K : PySem.W.Frag) (t : TE) (T : ETr) : Prop := ∀ σ H ρ μ (Q : DK) (Q' : VK), Rl K σ H ρ μ → T ρ μ Q → VPost K H Q Q' → t σ H Q'
def SimT (K : PySem.W.Frag) (t : TT) (T : TTr) : Prop := ∀ σ H ρ μ (Q : Bool → Mu → Prop) (Q' : Bool → Hp → Prop), Rl K σ H ρ μ → T ρ μ Q → (∀ b H' μ', Tk H H' → MuOk K H' μ' → Q b μ' → Q' b H') → t σ H Q'
def SimA (K : PySem.W.Frag) (t : TA) (T : ATr) : Prop := ∀ σ H ρ μ (Q : List D → Mu → Prop) (Q' : List V → Hp → Prop), Rl K σ H ρ μ → T ρ μ Q → (∀ vs H' ds μ', Tk H H' → MuOk K H' μ' → DpL K H' vs ds → Q ds μ' → Q' vs H') → t σ H Q'
abbrev SPost (K : PySem.W.Frag) (H : Hp) (N : ST → Mu → Prop) (N' : L2.St → Hp → Prop) : Prop := ∀ σ' H' ρ' μ', Tk H H' → Rl K σ' H' ρ' μ' → N ρ' μ' → N' σ' H'
structure EnOk (K : PySem.W.Frag) (H : Hp) (E : En) (E' : Ends) : Prop where
  nx : SPost K H E.nx E'.nx
  rt : VPost K H E.rt E'.rt
  bk : SPost K H E.bk E'.bk
  ct : SPost K H E.ct E'.ct
theorem EnOk.go {K : PySem.W.Frag} {H H1 : Hp} {E : En} {E' : Ends} (e : EnOk K H E E') (t : Tk H H1) : EnOk K H1 E E' :=
  ⟨fun _ _ _ _ t' => e.nx _ _ _ _ (t.trans t'), fun _ _ _ _ t' => e.rt _ _ _ _ (t.trans t'), fun _ _ _ _ t' => e.bk _ _ _ _ (t.trans t'), fun _ _ _ _ t' => e.ct _ _ _ _ (t.trans t')⟩
def SimS (K : PySem.W.Frag) (t : TS) (T : STr) : Prop := ∀ σ H ρ μ (E : En) (E' : Ends), Rl K σ H ρ μ → T E ρ μ → EnOk K H E E' → t E' σ H
def SimG (K : PySem.W.Frag) (g : TG) (G : GTr) : Prop := ∀ σ H ρ μ v d (k : ST → Mu → Prop) (k' : L2.St → Hp → Prop), Rl K σ H ρ μ → Dp K H v d → G d ρ μ k → SPost K H k k' → g v σ H k'
structure LE (X : Cx) (e : Expr) (T : ETr) : Prop where
  ex : ∃ t, PE X e t ∧ Sim X.K t T
structure LT (X : Cx) (e : Expr) (T : TTr) : Prop where
  ex : ∃ t, PT X e t ∧ SimT X.K t T
structure LW (X : Cx) (e : Expr) (T : TTr) : Prop where
  ex : ∃ t, PW X e t ∧ SimT X.K t T
structure LA (X : Cx) (es : List Expr) (T : ATr) : Prop where
  ex : ∃ t, PA X es t ∧ SimA X.K t T
structure LS (X : Cx) (st : Stmt) (T : STr) : Prop where
  ex : ∃ t, PS X st t ∧ SimS X.K t T
structure LSs (X : Cx) (sts : List Stmt) (T : STr) : Prop where
  ex : ∃ t, PSs X sts t ∧ SimS X.K t T
structure LG (X : Cx) (tg : Expr) (G : GTr) : Prop where
  ex : ∃ g, PG X tg g ∧ SimG X.K g G
section
variable {X : Cx} {a b c e : Expr} {Ta Tb Tc : ETr} {pos : Pos}
theorem le_var (i : Nat) {x : Str} (hN : X.N[i]? = some x := by rfl) (hv : Vis X.env.scope x := by first | exact Or.inl rfl | exact Or.inr (Or.inl rfl) | exact Or.inr (Or.inr rfl)) (hd : (x == ("__debug__" : Str)) = false := by decide)
    (hcd : (x == ("__classdict__" : Str)) = false := by decide) : LE X (.Name x pos) (TVar i) :=
  ⟨_, pe_var hN hv hd hcd, fun σ H ρ μ Q Q' r h k => by
    have h : kO (lk ρ i) fun d => Q d μ := h
    cases q : lk ρ i with
    | none => rw [q] at h; exact False.elim h
    | some d =>
      rw [q] at h
      have h : Q d μ := h
      obtain ⟨v, e1, p⟩ := r.loc i d q
      exact ⟨v, e1, k v H d μ (.refl H) r.mu p h⟩⟩
theorem le_int {i : Int} {j} : LE X (.Constant (.int i) j pos) (TC (.int i)) := ⟨_, pe_int, fun σ H ρ μ Q Q' r h k => k _ H _ μ (.refl H) r.mu (.int i) h⟩
theorem le_bl {b : Bool} {j} : LE X (.Constant (.bool b) j pos) (TC (.bl b)) := ⟨_, pe_bl, fun σ H ρ μ Q Q' r h k => k _ H _ μ (.refl H) r.mu (.bl b) h⟩
theorem le_non {j} : LE X (.Constant .none j pos) (TC .non) := ⟨_, pe_non, fun σ H ρ μ Q Q' r h k => k _ H _ μ (.refl H) r.mu .non h⟩
theorem le_str {x : Str} {j} : LE X (.Constant (.str x) j pos) (TC (.str x)) := ⟨_, pe_str, fun σ H ρ μ Q Q' r h k => k _ H _ μ (.refl H) r.mu (.str x) h⟩
def SimR2 (K : PySem.W.Frag) (r : R2) (R : DR2) : Prop := ∀ H μ x y dx dy (Q : DK) (Q' : VK), MuOk K H μ → Dp K H x dx → Dp K H y dy → R dx dy μ Q → VPost K H Q Q' → r x y H Q'
def SimR (K : PySem.W.Frag) (r : V → Hp → VK → Prop) (R : DR) : Prop := ∀ H μ x dx (Q : DK) (Q' : VK), MuOk K H μ → Dp K H x dx → R dx μ Q → VPost K H Q Q' → r x H Q'
theorem VPost.go {K : PySem.W.Frag} {H H1 : Hp} {Q : DK} {Q' : VK} (k : VPost K H Q Q') (t : Tk H H1) : VPost K H1 Q Q' := fun v H' d μ' t' => k v H' d μ' (t.trans t')
theorem sim_bin {K : PySem.W.Frag} {r : R2} {R : DR2} {ta tb : TE} (hr : SimR2 K r R) (ha : Sim K ta Ta) (hb : Sim K tb Tb) : Sim K (tOp r ta tb) (TBin R Ta Tb) := fun σ H ρ μ Q Q' rl h k =>
  ha σ H ρ μ _ _ rl h fun x H1 dx μ1 t1 m1 p1 h1 => hb σ H1 ρ μ1 _ _ (rl.go t1 m1) h1 fun y H2 dy μ2 t2 m2 p2 h2 => hr H2 μ2 x y dx dy Q Q' m2 (p1.mono t2) p2 h2 (k.go (t1.trans t2))
theorem le_bin {op : Operator} {r : R2} {R : DR2} (ho : OpR X (binaryOp op) r) (hr : SimR2 X.K r R) (ha : LE X a Ta) (hb : LE X b Tb) : LE X (.BinOp a op b pos) (TBin R Ta Tb) := by
  obtain ⟨ta, pa, sa⟩ := ha.ex
  obtain ⟨tb, pb, sb⟩ := hb.ex
  exact ⟨_, pe_op ho pa pb, sim_bin hr sa sb⟩
theorem le_cmp0 {op : CmpOp} {r : R2} {R : DR2} (ho : OpR X (compareOp op) r) (hr : SimR2 X.K r R) (ha : LE X a Ta) (hb : LE X b Tb) (hm : behindInMarks op b = false) : LE X (.Compare a [op] [b] pos) (TBin R Ta Tb) := by
  obtain ⟨ta, pa, sa⟩ := ha.ex
  obtain ⟨tb, pb, sb⟩ := hb.ex
  exact ⟨_, pe_cmpR ho pa pb hm, sim_bin hr sa sb⟩
theorem sim_tb {K : PySem.W.Frag} {t : TE} {T : ETr} (h : Sim K t T) : SimT K (tTest t) (TB T) := fun σ H ρ μ Q Q' rl hh k =>
  h σ H ρ μ _ _ rl hh fun v H' d μ' t' m' p' h' => by
    cases p' with
    | bl c => exact ⟨c, rfl, k c H' μ' t' m' h'⟩
    | _ => exact False.elim h'
theorem sim_tB {K : PySem.W.Frag} {t : TE} {T : ETr} (h : Sim K t T) : SimT K (tB t) (TB T) := fun σ H ρ μ Q Q' rl hh k =>
  h σ H ρ μ _ _ rl hh fun v H' d μ' t' m' p' h' => by
    cases p' with
    | bl c => exact ⟨c, rfl, k c H' μ' t' m' h'⟩
    | _ => exact False.elim h'
theorem lt_cmp0 {op : CmpOp} {r : R2} {R : DR2} (ho : OpR X (compareOp op) r) (hr : SimR2 X.K r R) (ha : LE X a Ta) (hb : LE X b Tb) (hm : behindInMarks op b = false) : LT X (.Compare a [op] [b] pos) (TB (TBin R Ta Tb)) := by
  obtain ⟨ta, pa, sa⟩ := ha.ex
  obtain ⟨tb, pb, sb⟩ := hb.ex
  exact ⟨_, pt_cmpR ho pa pb hm, sim_tb (sim_bin hr sa sb)⟩
theorem OpR.or {f : Value → Value → Sem Value} {r r' : R2} (h : OpR X f r) (h' : OpR X f r') : OpR X f (fun x y H Q => r x y H Q ∨ r' x y H Q) := fun pins s σ H x y v u Q I rx ry q => by
  rcases q with q | q
  · exact h pins s σ H x y v u Q I rx ry q
  · exact h' pins s σ H x y v u Q I rx ry q
theorem sim_ii {K : PySem.W.Frag} {C : Int → Int → Prop} {g : Int → Int → V} {R : DR2} (f : Int → Int → D) (hg : ∀ H i j, Dp K H (g i j) (f i j)) (hR : ∀ i j μ Q, R (.int i) (.int j) μ Q → C i j ∧ Q (f i j) μ)
    (hn : ∀ dx dy μ Q, R dx dy μ Q → (∃ i, dx = .int i) ∧ ∃ j, dy = .int j) : SimR2 K (rI C g) R := fun H μ x y dx dy Q Q' m px py h k => by
  obtain ⟨⟨i, rfl⟩, j, rfl⟩ := hn _ _ _ _ h
  cases px; cases py
  obtain ⟨h1, h2⟩ := hR _ _ _ _ h
  exact ⟨i, j, rfl, rfl, h1, k _ H _ μ (.refl H) m (hg H i j) h2⟩
theorem sim_ii0 {K : PySem.W.Frag} {g : Int → Int → V} {R : DR2} (f : Int → Int → D) (hg : ∀ H i j, Dp K H (g i j) (f i j)) (hR : ∀ i j μ Q, R (.int i) (.int j) μ Q → Q (f i j) μ)
    (hn : ∀ dx dy μ Q, R dx dy μ Q → (∃ i, dx = .int i) ∧ ∃ j, dy = .int j) : SimR2 K (rI0 g) R := fun H μ x y dx dy Q Q' m px py h k => by
  obtain ⟨⟨i, rfl⟩, j, rfl⟩ := hn _ _ _ _ h
  cases px; cases py
  exact ⟨i, j, rfl, rfl, k _ H _ μ (.refl H) m (hg H i j) (hR _ _ _ _ h)⟩
theorem le_sub (ha : LE X a Ta) (hb : LE X b Tb) : LE X (.BinOp a .Sub b pos) (TBin rSub Ta Tb) := le_bin op_sub (sim_ii0 (fun i j => .int (i - j)) (fun _ _ _ => .int _) (fun _ _ _ _ h => h) (fun dx dy μ Q h => by cases dx <;> cases dy <;> first | exact ⟨⟨_, rfl⟩, _, rfl⟩ | exact False.elim h)) ha hb
theorem M256.abs {j : Int} (h : M256 j) : j.natAbs < 2 ^ 256 := by
  have e : (2 : Nat) ^ 256 = 115792089237316195423570985008687907853269984665640564039457584007913129639936 := by decide +kernel
  rw [e]
  obtain ⟨h1, h2⟩ := h
  omega
theorem MulOk.ok {i j : Int} (h : MulOk i j) : IntMulOk i j := by
  rcases h with (⟨h1, h2⟩ | ⟨h1, h2⟩) | ⟨h1, h2⟩
  · exact .of_left (intBits_le_64 h1 h2)
  · exact .of_right (intBits_le_64 h1 h2)
  · exact .of_le (PyProof.Rows.intBits_le h1.abs) (PyProof.Rows.intBits_le h2.abs) (by decide)
theorem op_mulM : OpR X (binaryOp .Mult) (rI MulOk fun i j => .int (i * j)) := opI fun _ _ _ _ _ _ _ hc q => mul_int q hc.ok
theorem DivOk.np {i j : Int} (h : DivOk j) : Builtin.divisionGoesByPylong i j = false := by
  refine PyProof.noPylong_of_log2 ?_
  have h0 : j.natAbs ≠ 0 := by have := h.1; omega
  have := (Nat.log2_lt h0).mpr h.2.abs
  omega
theorem op_divM : OpR X (binaryOp .FloorDiv) (rI (fun _ j => DivOk j) fun i j => .int (i.fdiv j)) := opI fun _ _ _ _ _ _ _ hc q => floordiv_int hc.1 q (.inl hc.np)
theorem le_div (ha : LE X a Ta) (hb : LE X b Tb) : LE X (.BinOp a .FloorDiv b pos) (TBin rDiv Ta Tb) := le_bin op_divM (sim_ii (fun i j => .int (i.fdiv j)) (fun _ _ _ => .int _) (fun _ _ _ _ h => ⟨h.1, h.2⟩) (fun dx dy μ Q h => by cases dx <;> cases dy <;> first | exact ⟨⟨_, rfl⟩, _, rfl⟩ | exact False.elim h)) ha hb
theorem le_mul (ha : LE X a Ta) (hb : LE X b Tb) : LE X (.BinOp a .Mult b pos) (TBin rMul Ta Tb) := le_bin op_mulM (sim_ii (fun i j => .int (i * j)) (fun _ _ _ => .int _) (fun _ _ _ _ h => ⟨h.1, h.2⟩) (fun dx dy μ Q h => by cases dx <;> cases dy <;> first | exact ⟨⟨_, rfl⟩, _, rfl⟩ | exact False.elim h)) ha hb
theorem le_mod (ha : LE X a Ta) (hb : LE X b Tb) : LE X (.BinOp a .Mod b pos) (TBin rMod Ta Tb) := le_bin op_modN (sim_ii (fun i j => .int (i.fmod j)) (fun _ _ _ => .int _) (fun _ _ _ _ h => ⟨h.1, h.2⟩) (fun dx dy μ Q h => by cases dx <;> cases dy <;> first | exact ⟨⟨_, rfl⟩, _, rfl⟩ | exact False.elim h)) ha hb
theorem le_pow (ha : LE X a Ta) (hb : LE X b Tb) : LE X (.BinOp a .Pow b pos) (TBin rPow Ta Tb) := le_bin op_pow (sim_ii (fun i j => .int (i ^ j.toNat)) (fun _ _ _ => .int _) (fun _ _ _ _ h => ⟨h.1, h.2⟩) (fun dx dy μ Q h => by cases dx <;> cases dy <;> first | exact ⟨⟨_, rfl⟩, _, rfl⟩ | exact False.elim h)) ha hb
theorem sim_cmp {K : PySem.W.Frag} (p : Int → Int → Bool) : SimR2 K (rI0 fun i j => .bl (p i j)) (rCmp p) := sim_ii0 (fun i j => .bl (p i j)) (fun _ _ _ => .bl _) (fun _ _ _ _ h => h) (fun dx dy μ Q h => by cases dx <;> cases dy <;> first | exact ⟨⟨_, rfl⟩, _, rfl⟩ | exact False.elim h)
theorem le_lt (ha : LE X a Ta) (hb : LE X b Tb) : LE X (.Compare a [.Lt] [b] pos) (TBin rLt Ta Tb) := le_cmp0 op_lt (sim_cmp _) ha hb (nomark _)
theorem le_ge (ha : LE X a Ta) (hb : LE X b Tb) : LE X (.Compare a [.GtE] [b] pos) (TBin rGe Ta Tb) := le_cmp0 op_ge (sim_cmp _) ha hb (nomark _)
theorem lt_lt (ha : LE X a Ta) (hb : LE X b Tb) : LT X (.Compare a [.Lt] [b] pos) (TB (TBin rLt Ta Tb)) := lt_cmp0 op_lt (sim_cmp _) ha hb (nomark _)
theorem lt_le (ha : LE X a Ta) (hb : LE X b Tb) : LT X (.Compare a [.LtE] [b] pos) (TB (TBin rLe Ta Tb)) := lt_cmp0 op_le (sim_cmp _) ha hb (nomark _)
theorem lt_gt (ha : LE X a Ta) (hb : LE X b Tb) : LT X (.Compare a [.Gt] [b] pos) (TB (TBin rGt Ta Tb)) := lt_cmp0 op_gt (sim_cmp _) ha hb (nomark _)
theorem le_un {op : UnaryOp} {r : V → Hp → VK → Prop} {R : DR} (ho : UnR X (unaryOp op) r) (hr : SimR X.K r R) (ha : LE X a Ta) : LE X (.UnaryOp op a pos) (TUn R Ta) := by
  obtain ⟨ta, pa, sa⟩ := ha.ex
  exact ⟨_, pe_un ho pa, fun σ H ρ μ Q Q' rl h k => sa σ H ρ μ _ _ rl h fun x H1 dx μ1 t1 m1 p1 h1 => hr H1 μ1 x dx Q Q' m1 p1 h1 (k.go t1)⟩
theorem lt_val (ha : LE X a Ta) (he : ∀ whole, isTrue a X.env whole = (do let v ← whole; standAt a.pos; holding [v] (truthy v)) := by intro _; rfl) : LT X a (TB Ta) := by
  obtain ⟨ta, pa, sa⟩ := ha.ex
  exact ⟨_, pt_val pa he, sim_tB sa⟩
variable {tA tB' tC' : TTr} {rest : List Expr}
theorem lt_not (ha : LT X a tA) : LT X (.UnaryOp .Not a pos) (TNot tA) := by
  obtain ⟨ta, pa, sa⟩ := ha.ex
  exact ⟨_, pt_not pa, fun σ H ρ μ Q Q' rl h k => sa σ H ρ μ _ _ rl h fun c H1 μ1 t1 m1 h1 => k (!c) H1 μ1 t1 m1 h1⟩
theorem LW.lt (h : LW X a tA) : LT X a tA := by
  obtain ⟨ta, pa, sa⟩ := h.ex
  exact ⟨_, pa.pt, sa⟩
theorem lw_and1 (ha : LT X a tA) : LW X (.BoolOp .And [a] pos) tA := by
  obtain ⟨ta, pa, sa⟩ := ha.ex
  exact ⟨_, pw_and1 pa, sa⟩
theorem lw_or1 (ha : LT X a tA) : LW X (.BoolOp .Or [a] pos) tA := by
  obtain ⟨ta, pa, sa⟩ := ha.ex
  exact ⟨_, pw_or1 pa, sa⟩
theorem lw_and (ha : LT X a tA) (hb : LW X (.BoolOp .And (b :: rest) pos) tB') : LW X (.BoolOp .And (a :: b :: rest) pos) (TAnd tA tB') := by
  obtain ⟨ta, pa, sa⟩ := ha.ex
  obtain ⟨tb, pb, sb⟩ := hb.ex
  refine ⟨_, pw_and pa pb, fun σ H ρ μ Q Q' rl h k => sa σ H ρ μ _ _ rl h fun c H1 μ1 t1 m1 h1 => ?_⟩
  cases c with
  | true => exact iteT (sb σ H1 ρ μ1 Q Q' (rl.go t1 m1) h1 fun b H2 μ2 t2 => k b H2 μ2 (t1.trans t2))
  | false => exact iteF (k false H1 μ1 t1 m1 h1)
theorem lw_or (ha : LT X a tA) (hb : LW X (.BoolOp .Or (b :: rest) pos) tB') : LW X (.BoolOp .Or (a :: b :: rest) pos) (TOr tA tB') := by
  obtain ⟨ta, pa, sa⟩ := ha.ex
  obtain ⟨tb, pb, sb⟩ := hb.ex
  refine ⟨_, pw_or pa pb, fun σ H ρ μ Q Q' rl h k => sa σ H ρ μ _ _ rl h fun c H1 μ1 t1 m1 h1 => ?_⟩
  cases c with
  | true => exact iteT (k true H1 μ1 t1 m1 h1)
  | false => exact iteF (sb σ H1 ρ μ1 Q Q' (rl.go t1 m1) h1 fun b H2 μ2 t2 => k b H2 μ2 (t1.trans t2))
theorem le_one {op} (h : LE X a Ta) : LE X (.BoolOp op [a] pos) Ta := by
  obtain ⟨ta, pa, sa⟩ := h.ex
  exact ⟨_, pe_one pa, sa⟩
theorem le_or (ha : LE X a Ta) (hb : LE X (.BoolOp .Or (b :: rest) pos) Tb) : LE X (.BoolOp .Or (a :: b :: rest) pos) (TOrV Ta Tb) := by
  obtain ⟨ta, pa, sa⟩ := ha.ex
  obtain ⟨tb, pb, sb⟩ := hb.ex
  refine ⟨_, pe_or pa pb, fun σ H ρ μ Q Q' rl h k => sa σ H ρ μ _ _ rl h fun x H1 dx μ1 t1 m1 p1 h1 => ?_⟩
  cases p1 with
  | bl c =>
    refine ⟨c, rfl, ?_⟩
    cases c with
    | true => exact iteT (k _ H1 _ μ1 t1 m1 (.bl _) h1)
    | false => exact iteF (sb σ H1 ρ μ1 Q Q' (rl.go t1 m1) h1 (k.go t1))
  | _ => exact False.elim h1
theorem le_ifE (hc : LT X c tC') (ha : LE X a Ta) (hb : LE X b Tb) : LE X (.IfExp c a b pos) (TIfE tC' Ta Tb) := by
  obtain ⟨tc, pc, sc⟩ := hc.ex
  obtain ⟨ta, pa, sa⟩ := ha.ex
  obtain ⟨tb, pb, sb⟩ := hb.ex
  refine ⟨_, pe_ifExp pc pa pb, fun σ H ρ μ Q Q' rl h k => sc σ H ρ μ _ _ rl h fun q H1 μ1 t1 m1 h1 => ?_⟩
  cases q with
  | true => exact iteT (sa σ H1 ρ μ1 Q Q' (rl.go t1 m1) h1 (k.go t1))
  | false => exact iteF (sb σ H1 ρ μ1 Q Q' (rl.go t1 m1) h1 (k.go t1))
variable {es : List Expr} {At : ATr}
theorem la_nil : LA X [] TNil := ⟨_, pa_nil, fun σ H ρ μ Q Q' rl h k => k [] H [] μ (.refl H) rl.mu .nil h⟩
theorem la_cons (ha : LE X e Ta) (hr : LA X es At) (hs : starEach (e :: es) X.env = (false, eval e X.env) :: starEach es X.env := by rfl) : LA X (e :: es) (TCons Ta At) := by
  obtain ⟨ta, pa, sa⟩ := ha.ex
  obtain ⟨tr, pr, sr⟩ := hr.ex
  exact ⟨_, pa_cons pa pr hs, fun σ H ρ μ Q Q' rl h k => sa σ H ρ μ _ _ rl h fun x H1 dx μ1 t1 m1 p1 h1 => sr σ H1 ρ μ1 _ _ (rl.go t1 m1) h1 fun xs H2 ds μ2 t2 m2 p2 h2 => k _ H2 _ μ2 (t1.trans t2) m2 (.cons (p1.mono t2) p2) h2⟩
theorem mu_new {K : PySem.W.Frag} {H : Hp} {μ : Mu} {p : Addr} {o : HO} (m : MuOk K H μ) (hp : H p = none) : MuOk K (L2.upd H p o) μ := m.keep (.new hp) fun a' xs' _ e => by rw [upd_ne (ne_of_none e hp)]; exact e
theorem big {n : Nat} (h : n ≤ 1000000) : n ≤ sizeLine := Nat.le_trans h (by decide)
theorem le_tup {x1} (h : LA X es At) : LE X (.Tuple es x1 pos) (TTup At) := by
  obtain ⟨ta, pa, sa⟩ := h.ex
  refine ⟨_, pe_tup pa, fun σ H ρ μ Q Q' rl h k => sa σ H ρ μ _ _ rl h fun xs H1 ds μ1 t1 m1 p1 h1 => ⟨by rw [p1.length]; exact big h1.1, fun p hp => ?_⟩⟩
  exact k _ _ _ μ1 (t1.trans (.new hp)) (mu_new m1 hp) (.tup (SqT.of upd_same) (p1.mono (.new hp))) h1.2
theorem le_lsM (h : LA X es At) : LE X (.List es pos) (TLsM At) := by
  obtain ⟨ta, pa, sa⟩ := h.ex
  refine ⟨_, pe_lst pa, fun σ H ρ μ Q Q' rl h k => sa σ H ρ μ _ _ rl h fun xs H1 ds μ1 t1 m1 p1 h1 => ⟨by rw [p1.length]; exact big h1.1, fun p hp => ?_⟩⟩
  refine k _ _ _ (up μ1 p (.lst ds)) (t1.trans (.new hp)) (fun a o e => ?_) (.obj p) (h1.2 p (m1.free hp))
  by_cases ha : a = p
  · subst ha
    rw [up_same] at e; cases e
    exact ⟨xs, upd_same, p1.mono (.new hp)⟩
  · rw [up_ne ha] at e
    exact mu_new m1 hp a o e
def tFrz (t : TE) : TE := fun σ H Q => t σ H fun v H1 => ∃ a xs, v = .ref a ∧ H1 a = some (.lst xs) ∧ ∀ o, Q v (L2.upd H1 a (.frz o (.lst xs)))
theorem pe_frz {t : TE} (h : PE X e t) : PE X e (tFrz t) := by
  intro pins s σ H Q I hh
  refine thn (h pins s σ H _ I hh) fun u s1 ⟨v, H1, I1, r, a, xs, ev, ea, q⟩ => ?_
  obtain ⟨z, its, n, rv, hg⟩ := (show ObjOk X.prog X.w H1 s1.heap a (.lst xs) from I1.hok a _ ea)
  have nl : ∀ b o, H1 b = some o → (∀ ys, o ≠ .lst ys) → b ≠ a := fun b o e1 e2 z => by subst z; rw [ea] at e1; cases e1; exact e2 _ rfl
  refine ⟨v, _, I1.un (h' := s1.heap) (t' := s1.toks) (H' := L2.upd H1 a (.frz { cls := .type "list", data := .seq its.toArray n } (.lst xs))) ⟨fun b o e _ _ _ => e, fun b o e _ _ _ => ⟨o.slots, e⟩, fun b o e n _ => ?_, fun b o e _ => ⟨o, e⟩, fun b ys e => ?_, fun b o u e => ?_, fun b ps e => ⟨#[], ?_⟩⟩ (fun b u e => ?_), r, q _⟩
  · rw [upd_ne (fun z => by subst z; rw [ea] at n; cases n)]; exact n
  · rw [upd_ne (nl b _ e (fun _ => nofun))]; exact e
  · rw [upd_ne (nl b _ e (fun _ => nofun))]; exact e
  · rw [upd_ne (nl b _ e (fun _ => nofun)), e]; simp
  · by_cases hb : b = a
    · subst hb
      rw [upd_same] at e; cases e
      exact ⟨hg, z, its, n, rv, hg⟩
    · rw [upd_ne hb] at e
      refine (I1.hok b u e).stay (fun c w _ q => q) (fun c q => ?_) fun c ys q => ?_
      · rw [upd_ne (nl c _ q (fun _ => nofun))]; exact q
      · rw [upd_ne (nl c _ q (fun _ => nofun))]; exact q
theorem le_lsV (h : LA X es At) : LE X (.List es pos) (TLsV At) := by
  obtain ⟨ta, pa, sa⟩ := h.ex
  refine ⟨_, pe_frz (pe_lst pa), fun σ H ρ μ Q Q' rl h k => sa σ H ρ μ _ _ rl h fun xs H1 ds μ1 t1 m1 p1 h1 => ⟨by rw [p1.length]; exact big h1.1, fun p hp => ⟨p, xs, rfl, upd_same, fun o => ?_⟩⟩⟩
  have e : L2.upd (L2.upd H1 p (.lst xs)) p (.frz o (.lst xs)) = L2.upd H1 p (.frz o (.lst xs)) := upd_upd
  rw [e]
  exact k _ _ _ μ1 (t1.trans (.new hp)) (mu_new m1 hp) (.ls (.inl ⟨o, upd_same⟩) (p1.mono (.new hp))) h1.2
end
end L3
set_option Elab.async false
set_option linter.all false
set_option maxRecDepth 100000
set_option maxHeartbeats 4000000
namespace L3
open PySem PySem.Spec PyProof.Rows L2
mutual
def toP : D → PyData
  | .non => .none
  | .bl b => .bool b
  | .int i => .int i
  | .str x => .str x
  | .tup ds => .tuple (toPs ds)
  | .ls ds => .list (toPs ds)
  | .ty _ => .none
  | .obj _ => .none
def toPs : List D → List PyData
  | [] => []
  | d :: r => toP d :: toPs r
end
mutual
theorem toP_lay : ∀ (n : Nat) (d : D), okD n d = true → (toP d).canLay0 = true ∧ (toP d).depth ≤ n
  | n, .non, _ => ⟨rfl, Nat.zero_le _⟩
  | n, .bl b, _ => ⟨rfl, Nat.zero_le _⟩
  | n, .int i, _ => ⟨rfl, Nat.zero_le _⟩
  | n, .str x, h => ⟨by cases n <;> exact h, Nat.zero_le _⟩
  | n + 1, .tup ds, h => by
    obtain ⟨h1, h2⟩ := toPs_lay n ds h
    exact ⟨h1, Nat.succ_le_succ h2⟩
  | n + 1, .ls ds, h => by
    obtain ⟨h1, h2⟩ := toPs_lay n ds h
    exact ⟨h1, Nat.succ_le_succ h2⟩
  | 0, .tup ds, h => by cases h
  | 0, .ls ds, h => by cases h
  | n, .ty _, h => by cases n <;> cases h
  | n, .obj _, h => by cases n <;> cases h
theorem toPs_lay : ∀ (n : Nat) (ds : List D), okDs n ds = true → PyData.canLayAll0 (toPs ds) = true ∧ PyData.depthAll (toPs ds) ≤ n
  | n, [], _ => ⟨rfl, Nat.zero_le _⟩
  | n, d :: r, h => by
    have h' : okD n d = true ∧ okDs n r = true := by simpa [okDs] using h
    obtain ⟨a1, a2⟩ := toP_lay n d h'.1
    obtain ⟨b1, b2⟩ := toPs_lay n r h'.2
    refine ⟨?_, ?_⟩
    · show (PyData.canLay0 (toP d) && PyData.canLayAll0 (toPs r)) = true
      rw [a1, b1]; rfl
    · show max (PyData.depth (toP d)) (PyData.depthAll (toPs r)) ≤ n
      exact Nat.max_le.mpr ⟨a2, b2⟩
end
theorem str_beq (a b : Str) : (a == b) = decide (a = b) := by
  by_cases h : a = b
  · subst h; simp
  · rw [decide_eq_false h]; exact beq_eq_false_iff_ne.mpr h
mutual
theorem eqv_toP : ∀ (n m : Nat) (a b : D), okD n a = true → okD m b = true → PyData.eqv (toP a) (toP b) = eqD a b
  | n, m, .non, b, _, hb => by cases b <;> first | rfl | (cases m <;> cases hb)
  | n, m, .bl x, b, _, hb => by
    cases b with
    | int y => simp only [toP, PyData.eqv, eqD]; rw [Bool.beq_eq_decide_eq]
    | ty _ => cases m <;> cases hb
    | obj _ => cases m <;> cases hb
    | _ => rfl
  | n, m, .int x, b, _, hb => by
    cases b with
    | int y => simp only [toP, PyData.eqv, eqD]; rw [Bool.beq_eq_decide_eq]
    | bl y => simp only [toP, PyData.eqv, eqD]; rw [Bool.beq_eq_decide_eq]
    | ty _ => cases m <;> cases hb
    | obj _ => cases m <;> cases hb
    | _ => rfl
  | n, m, .str x, b, _, hb => by
    cases b with
    | str y => simp only [toP, PyData.eqv, eqD]; exact str_beq x y
    | ty _ => cases m <;> cases hb
    | obj _ => cases m <;> cases hb
    | _ => rfl
  | n + 1, m, .tup xs, b, ha, hb => by
    cases b with
    | tup ys =>
      cases m with
      | zero => cases hb
      | succ m => simp only [toP, PyData.eqv, eqD]; exact eqv_toPs n m xs ys ha hb
    | ty _ => cases m <;> cases hb
    | obj _ => cases m <;> cases hb
    | _ => rfl
  | n + 1, m, .ls xs, b, ha, hb => by
    cases b with
    | ls ys =>
      cases m with
      | zero => cases hb
      | succ m => simp only [toP, PyData.eqv, eqD]; exact eqv_toPs n m xs ys ha hb
    | ty _ => cases m <;> cases hb
    | obj _ => cases m <;> cases hb
    | _ => rfl
  | 0, _, .tup ds, _, h, _ => by cases h
  | 0, _, .ls ds, _, h, _ => by cases h
  | n, _, .ty _, _, h, _ => by cases n <;> cases h
  | n, _, .obj _, _, h, _ => by cases n <;> cases h
theorem eqv_toPs : ∀ (n m : Nat) (a b : List D), okDs n a = true → okDs m b = true → PyData.eqvAll (toPs a) (toPs b) = eqDs a b
  | _, _, [], [], _, _ => rfl
  | _, _, [], _ :: _, _, _ => by simp [toPs, PyData.eqvAll, eqDs]
  | _, _, _ :: _, [], _, _ => by simp [toPs, PyData.eqvAll, eqDs]
  | n, m, a :: r, b :: s, ha, hb => by
    have ha' : okD n a = true ∧ okDs n r = true := by simpa [okDs] using ha
    have hb' : okD m b = true ∧ okDs m s = true := by simpa [okDs] using hb
    show (PyData.eqv (toP a) (toP b) && PyData.eqvAll (toPs r) (toPs s)) = (eqD a b && eqDs r s)
    rw [eqv_toP n m a b ha'.1 hb'.1, eqv_toPs n m r s ha'.2 hb'.2]
end
section
variable {X : Cx} {pins : List (Addr × Obj)} {σ : L2.St} {H : Hp} {s : Shared}
mutual
theorem reads_of (I : Inv X pins σ H s) : ∀ {n : Nat} {v : V} {d : D} {u : Value}, Dp X.K H v d → okD n d = true → RelV v u → ∃ as, Reads s.heap u (toP d) as
  | n, _, _, u, .non, _, r => by cases (show u = Value.none from r); exact ⟨_, .none⟩
  | n, _, _, u, .bl b, _, r => by cases (show u = Value.bool b from r); exact ⟨_, .bool b⟩
  | n, _, _, u, .int i, _, r => by obtain ⟨t, e⟩ := (show ∃ t, u = Value.int i t from r); subst e; exact ⟨_, .int i t⟩
  | n, _, _, u, .str x, _, r => by obtain ⟨t, e⟩ := (show ∃ t, u = Value.str x t from r); subst e; exact ⟨_, .str x t⟩
  | n, _, _, u, .ty _, h, _ => by cases n <;> cases h
  | n + 1, _, _, u, @Dp.tup _ _ a xs ds q l, h, r => by
    cases (show u = Value.ref a from r)
    obtain ⟨its, rv, ⟨o, e1, e2, k, e3⟩, _⟩ := I.tuple q
    obtain ⟨as, ra⟩ := readsAll_of I (n := n) l h rv
    exact ⟨_, .tuple e1 e2 e3 (by simpa using ra)⟩
  | n + 1, _, _, u, @Dp.ls _ _ a xs ds q l, h, r => by
    cases (show u = Value.ref a from r)
    obtain ⟨its, rv, ⟨o, k, e1, e2, _, e3⟩, _⟩ := I.list q.sq
    obtain ⟨as, ra⟩ := readsAll_of I (n := n) l h rv
    exact ⟨_, .list e1 e2 e3 (by simpa using ra)⟩
  | 0, _, _, u, @Dp.tup _ _ a xs ds q l, h, r => by cases h
  | 0, _, _, u, @Dp.ls _ _ a xs ds q l, h, r => by cases h
  | n, _, _, u, .obj _, h, _ => by cases n <;> cases h
theorem readsAll_of (I : Inv X pins σ H s) : ∀ {n : Nat} {vs : List V} {ds : List D} {us : List Value}, DpL X.K H vs ds → okDs n ds = true → Vals vs us → ∃ as, ReadsAll s.heap us (toPs ds) as
  | n, _, _, _, .nil, _, .nil => ⟨_, .nil⟩
  | n, _, _, _, @DpL.cons _ _ v d vs ds h l, ho, .cons r rs => by
    have ho' : okD n d = true ∧ okDs n ds = true := by simpa [okDs] using ho
    obtain ⟨as, ra⟩ := reads_of I h ho'.1 r
    obtain ⟨bs, rb⟩ := readsAll_of I l ho'.2 rs
    exact ⟨_, .cons ra rb⟩
end
end
def rEqL (K : PySem.W.Frag) (f : Bool → Bool) : R2 := fun x y H Q => ∃ dx dy, Dp K H x dx ∧ Dp K H y dy ∧ okD 40 dx = true ∧ okD 40 dy = true ∧ Q (.bl (f (eqD dx dy))) H
section
variable {X : Cx} {a b c e : Expr} {Ta Tb Tc : ETr} {pos : Pos}
theorem op_eqD (hu : X.A.units + 64 < cLine) : OpR X (compareOp .Eq) (rEqL X.K id) := fun pins s σ H x y v u Q I rx ry ⟨dx, dy, px, py, ox, oy, q⟩ => by
  obtain ⟨as, ra⟩ := reads_of I px ox rx
  obtain ⟨bs, rb⟩ := reads_of I py oy ry
  obtain ⟨l1, d1⟩ := toP_lay 40 dx ox
  obtain ⟨l2, d2⟩ := toP_lay 40 dy oy
  exact SeqAt.compareEq_reads ra rb l1 l2 (by have := Nat.min_le_left (toP dx).depth (toP dy).depth; omega) ⟨.bl _, H, I, rfl, by rw [eqv_toP 40 40 dx dy ox oy]; exact q⟩
theorem op_neD (hu : X.A.units + 64 < cLine) : OpR X (compareOp .NotEq) (rEqL X.K not) := fun pins s σ H x y v u Q I rx ry ⟨dx, dy, px, py, ox, oy, q⟩ => by
  obtain ⟨as, ra⟩ := reads_of I px ox rx
  obtain ⟨bs, rb⟩ := reads_of I py oy ry
  obtain ⟨l1, d1⟩ := toP_lay 40 dx ox
  obtain ⟨l2, d2⟩ := toP_lay 40 dy oy
  exact SeqAt.compareNe_reads ra rb l1 l2 (by have := Nat.min_le_left (toP dx).depth (toP dy).depth; omega) ⟨.bl _, H, I, rfl, by rw [eqv_toP 40 40 dx dy ox oy]; exact q⟩
theorem sim_eq {K : PySem.W.Frag} : SimR2 K (rEqL K id) rEq := fun H μ x y dx dy Q Q' m px py h k => ⟨dx, dy, px, py, h.1.1, h.1.2, k _ H _ μ (.refl H) m (.bl _) h.2⟩
theorem sim_ne {K : PySem.W.Frag} : SimR2 K (rEqL K not) rNe := fun H μ x y dx dy Q Q' m px py h k => ⟨dx, dy, px, py, h.1.1, h.1.2, k _ H _ μ (.refl H) m (.bl _) h.2⟩
theorem le_eq (hu : X.A.units + 64 < cLine) (ha : LE X a Ta) (hb : LE X b Tb) : LE X (.Compare a [.Eq] [b] pos) (TBin rEq Ta Tb) := le_cmp0 (op_eqD hu) sim_eq ha hb (nomark _)
theorem lt_eq (hu : X.A.units + 64 < cLine) (ha : LE X a Ta) (hb : LE X b Tb) : LT X (.Compare a [.Eq] [b] pos) (TB (TBin rEq Ta Tb)) := lt_cmp0 (op_eqD hu) sim_eq ha hb (nomark _)
theorem lt_ne (hu : X.A.units + 64 < cLine) (ha : LE X a Ta) (hb : LE X b Tb) : LT X (.Compare a [.NotEq] [b] pos) (TB (TBin rNe Ta Tb)) := lt_cmp0 (op_neD hu) sim_ne ha hb (nomark _)
theorem sim_is {K : PySem.W.Frag} : SimR2 K (fun x y H Q => y = .non ∧ Q (.bl (decide (x = .non))) H) rIs := fun H μ x y dx dy Q Q' m px py h k => by
  cases py with
  | non =>
    refine ⟨rfl, ?_⟩
    cases px with
    | non => exact k _ H _ μ (.refl H) m (.bl _) h
    | _ => exact k _ H _ μ (.refl H) m (.bl _) h
  | _ => exact False.elim h
theorem lt_is (ha : LE X a Ta) (hb : LE X b Tb) : LT X (.Compare a [.Is] [b] pos) (TB (TBin rIs Ta Tb)) := lt_cmp0 op_isN sim_is ha hb (nomark _)
theorem sim_neg {K : PySem.W.Frag} : SimR K (rU fun i => .int (-i)) rNeg := fun H μ x dx Q Q' m px h k => by
  cases px with
  | int i => exact ⟨i, rfl, k _ H _ μ (.refl H) m (.int _) h⟩
  | _ => exact False.elim h
theorem le_neg (ha : LE X a Ta) : LE X (.UnaryOp .USub a pos) (TUn rNeg Ta) := le_un un_neg sim_neg ha
theorem kO_get {o : Option D} {f : D → Prop} (h : kO o f) : ∃ d, o = some d ∧ f d := by
  cases o with
  | none => exact False.elim h
  | some d => exact ⟨d, rfl, h⟩
theorem kL_get {μ : Mu} {a : Addr} {f : List D → Prop} (h : kL μ a f) : ∃ ds, μ a = some (.lst ds) ∧ f ds := by
  unfold kL at h
  cases e : μ a with
  | none => rw [e] at h; exact False.elim h
  | some o => cases o with
    | lst ds => rw [e] at h; exact ⟨ds, rfl, h⟩
    | dct ds => rw [e] at h; exact False.elim h
theorem kN_get {o : Option Nat} {f : Nat → Prop} (h : kN o f) : ∃ d, o = some d ∧ f d := by
  cases o with
  | none => exact False.elim h
  | some d => exact ⟨d, rfl, h⟩
theorem sim_ix {K : PySem.W.Frag} : SimR2 K (L2.rIx K) L3.rIx := fun H μ x y dx dy Q Q' m px py h k => by
  cases px with
  | @tup a xs ds q l =>
    cases py with
    | int i =>
      obtain ⟨d, e, h'⟩ := kO_get h
      obtain ⟨v, e1, p⟩ := l.at e
      exact .inr (.inl ⟨a, xs, i, v, rfl, rfl, q, e1, k _ H _ μ (.refl H) m p h'⟩)
    | _ => exact False.elim h
  | @ls a xs ds q l =>
    cases py with
    | int i =>
      obtain ⟨d, e, h'⟩ := kO_get h
      obtain ⟨v, e1, p⟩ := l.at e
      exact .inl ⟨a, xs, i, v, rfl, rfl, q.sq, e1, k _ H _ μ (.refl H) m p h'⟩
    | _ => exact False.elim h
  | obj a =>
    cases py with
    | int i =>
      obtain ⟨ds, e0, h1⟩ := kL_get h
      obtain ⟨d, e, h'⟩ := kO_get h1
      obtain ⟨xs, ex, l⟩ := m a _ e0
      obtain ⟨v, e1, p⟩ := l.at e
      exact .inl ⟨a, xs, i, v, rfl, rfl, SqL.of ex, e1, k _ H _ μ (.refl H) m p h'⟩
    | _ => exact False.elim h
  | _ => cases py <;> exact False.elim h
theorem le_ix (ha : LE X a Ta) (hb : LE X b Tb) (hs : PlainIx b := by intro _ _; rfl) : LE X (.Subscript a b pos) (TBin L3.rIx Ta Tb) := by
  obtain ⟨ta, pa, sa⟩ := ha.ex
  obtain ⟨tb, pb, sb⟩ := hb.ex
  exact ⟨_, pe_ix ix_seq pa pb hs, sim_bin sim_ix sa sb⟩
variable {es : List Expr} {At : ATr} {x : Str} {p : Pos} {id T : String}
def SimC (K : PySem.W.Frag) (r : List V → Hp → VK → Prop) (R : FSp) : Prop := ∀ H μ xs ds (Q : DK) (Q' : VK), MuOk K H μ → DpL K H xs ds → R ds μ Q → VPost K H Q Q' → r xs H Q'
theorem sim_callB {K : PySem.W.Frag} {r : List V → Hp → VK → Prop} {R : FSp} {ta : TA} (hr : SimC K r R) (ha : SimA K ta At) : Sim K (tCB r ta) (TCall R At) := fun σ H ρ μ Q Q' rl h k =>
  ha σ H ρ μ _ _ rl h fun xs H1 ds μ1 t1 m1 p1 h1 => hr H1 μ1 xs ds Q Q' m1 p1 h1 (k.go t1)
theorem le_callB {r : List V → Hp → VK → Prop} {R : FSp} (hc : CallR X (.builtin id) r) (hr : SimC X.K r R) (hg : Gl X x) (hm : X.mg x = none) (hv : bootBuiltins x = some (.builtin id)) (ha : LA X (e :: es) At) (hn : x ≠ "__name__" := by decide) (hdb : (x == ("__debug__" : Str)) = false := by decide)
    (h1 : starEach (e :: es) X.env = (false, eval e X.env) :: starEach es X.env := by rfl) (h2 : (backTo pos (starEach es X.env)).any (·.1) = false := by rfl) : LE X (.Call (.Name x p) (e :: es) [] pos) (TCall R At) := by
  obtain ⟨ta, pa, sa⟩ := ha.ex
  exact ⟨_, pe_callB hc hg hm hv pa hn hdb h1 h2, sim_callB hr sa⟩
theorem le_callTy {r : List V → Hp → VK → Prop} {R : FSp} (hc : CallR X (.type T) r) (hr : SimC X.K r R) (hg : Gl X x) (hm : X.mg x = none) (hv : bootBuiltins x = some (.type T)) (ha : LA X (e :: es) At) (hn : x ≠ "__name__" := by decide) (hdb : (x == ("__debug__" : Str)) = false := by decide)
    (h1 : starEach (e :: es) X.env = (false, eval e X.env) :: starEach es X.env := by rfl) (h2 : (backTo pos (starEach es X.env)).any (·.1) = false := by rfl) : LE X (.Call (.Name x p) (e :: es) [] pos) (TCall R At) := by
  obtain ⟨ta, pa, sa⟩ := ha.ex
  exact ⟨_, pe_callTy hc hg hm hv pa hn hdb h1 h2, sim_callB hr sa⟩
theorem sim_abs {K : PySem.W.Frag} : SimC K (fun xs H Q => ∃ i, xs = [.int i] ∧ Q (.int (if i < 0 then -i else i)) H) bAbs := fun H μ xs ds Q Q' m p h k => by
  unfold bAbs at h
  split at h
  · cases p with | cons p1 p2 => cases p2; cases p1; exact ⟨_, rfl, k _ H _ μ (.refl H) m (.int _) h⟩
  · exact False.elim h
theorem sim_max2 {K : PySem.W.Frag} : SimC K (fun xs H Q => ∃ i j, xs = [.int i, .int j] ∧ Q (.int (if j > i then j else i)) H) bMax2 := fun H μ xs ds Q Q' m p h k => by
  unfold bMax2 at h
  split at h
  · cases p with | cons p1 p2 => cases p2 with | cons p2 p3 => cases p3; cases p1; cases p2; exact ⟨_, _, rfl, k _ H _ μ (.refl H) m (.int _) h⟩
  · exact False.elim h
theorem sim_min2 {K : PySem.W.Frag} : SimC K (fun xs H Q => ∃ i j, xs = [.int i, .int j] ∧ Q (.int (if j < i then j else i)) H) bMin2 := fun H μ xs ds Q Q' m p h k => by
  unfold bMin2 at h
  split at h
  · cases p with | cons p1 p2 => cases p2 with | cons p2 p3 => cases p3; cases p1; cases p2; exact ⟨_, _, rfl, k _ H _ μ (.refl H) m (.int _) h⟩
  · exact False.elim h
theorem sim_int {K : PySem.W.Frag} : SimC K (fun xs H Q => (∃ i, xs = [.int i] ∧ Q (.int i) H) ∨ ∃ k, xs = [.bl k] ∧ Q (.int (if k then 1 else 0)) H) bInt := fun H μ xs ds Q Q' m p h k => by
  unfold bInt at h
  split at h
  · cases p with | cons p1 p2 => cases p2; cases p1; exact .inl ⟨_, rfl, k _ H _ μ (.refl H) m (.int _) h⟩
  · cases p with | cons p1 p2 => cases p2; cases p1; exact .inr ⟨_, rfl, k _ H _ μ (.refl H) m (.int _) h⟩
  · exact False.elim h
theorem CallR.or {f : Value} {r r' : List V → Hp → VK → Prop} (h : CallR X f r) (h' : CallR X f r') : CallR X f (fun xs H Q => r xs H Q ∨ r' xs H Q) := fun pins s σ H xs us Q I rx q => by
  rcases q with q | q
  · exact h pins s σ H xs us Q I rx q
  · exact h' pins s σ H xs us Q I rx q
theorem sim_len {K : PySem.W.Frag} : SimC K (fun xs H Q => (∃ p ys, xs = [.ref p] ∧ (SqL K H p ys ∨ SqT K H p ys) ∧ Q (.int ys.length) H) ∨ ∃ z, xs = [.str z] ∧ z.length ≤ sizeLine ∧ Q (.int z.length) H) bLen := fun H μ xs ds Q Q' m p h k => by
  unfold bLen at h
  split at h
  · cases p with | cons p1 p2 => cases p2; cases p1 with | tup q l => exact .inl ⟨_, _, rfl, .inr q, k _ H _ μ (.refl H) m (by rw [l.length]; exact .int _) h⟩
  · cases p with | cons p1 p2 => cases p2; cases p1 with | ls q l => exact .inl ⟨_, _, rfl, .inl q.sq, k _ H _ μ (.refl H) m (by rw [l.length]; exact .int _) h⟩
  · cases p with | cons p1 p2 => cases p2; cases p1; exact .inr ⟨_, rfl, big h.1, k _ H _ μ (.refl H) m (.int _) h.2⟩
  · rename_i a
    cases p with | cons p1 p2 =>
    cases p2; cases p1
    obtain ⟨ys, e0, h⟩ := kL_get h
    obtain ⟨xs, ex, l⟩ := m a _ e0
    exact .inl ⟨_, _, rfl, .inl (SqL.of ex), k _ H _ μ (.refl H) m (by rw [l.length]; exact .int _) h⟩
  · exact False.elim h
theorem call_len2 : CallR X (.builtin "len") (fun xs H Q => (∃ p ys, xs = [.ref p] ∧ (SqL X.K H p ys ∨ SqT X.K H p ys) ∧ Q (.int ys.length) H) ∨ ∃ z, xs = [.str z] ∧ z.length ≤ sizeLine ∧ Q (.int z.length) H) := CallR.or call_len_seq call_len_str
end
end L3
set_option Elab.async false
set_option linter.all false
set_option maxRecDepth 100000
set_option maxHeartbeats 4000000
namespace L3
open PySem PySem.Spec PyProof.Rows L2
def tys : List String := ["NoneType", "bool", "int", "str", "tuple", "list"]
def cls5 : List String := ["bool", "int", "str", "tuple", "list", "dict"]
theorem kit_tab (K : PySem.W.Frag) : ∀ t ∈ tys, ∀ c ∈ cls5, PySem.W.kitOne K (.type t) (.type c) = some (isTy t c) := by
  intro t ht c hc
  simp only [tys, List.mem_cons, List.not_mem_nil, or_false] at ht
  simp only [cls5, List.mem_cons, List.not_mem_nil, or_false] at hc
  rcases ht with rfl | rfl | rfl | rfl | rfl | rfl <;> rcases hc with rfl | rfl | rfl | rfl | rfl | rfl <;> with_unfolding_all rfl
theorem tyD_in {d : D} {t : String} (h : tyD d = some t) : t ∈ tys := by
  cases d <;> simp [tyD] at h <;> subst h <;> decide
def rIsIL (K : PySem.W.Frag) : List V → Hp → VK → Prop := fun xs H Q => ∃ x d t c, xs = [x, .ty c] ∧ Dp K H x d ∧ tyD d = some t ∧ c ∈ cls5 ∧ Q (.bl (isTy t c)) H
theorem call_isI {X : Cx} : CallR X (.builtin "isinstance") (rIsIL X.K) := fun pins s σ H xs us Q I rx ⟨x, d, t, c, ex, px, et, hc, q⟩ => by
  subst ex
  cases rx with | @cons _ u _ _ r1 r2 => cases r2 with | cons r2 r3 =>
  cases r3
  cases (show _ = Value.type c from r2)
  have e := kit_tab X.K t (tyD_in et) c hc
  have fin : ∀ tk, EP X pins σ Q (.bool (isTy t c)) { s with toks := tk } := fun tk => ⟨.bl _, H, I.tok tk, rfl, q⟩
  cases px with
  | non => cases et; cases (show u = Value.none from r1); exact PySem.W.kia_one PySem.W.kitx_none I.kIn True.intro e (fun z => nomatch z) fin
  | bl y => cases et; cases (show u = Value.bool y from r1); exact PySem.W.kia_one PySem.W.kitx_bool I.kIn True.intro e (fun z => nomatch z) fin
  | int i => cases et; obtain ⟨t, z⟩ := (show ∃ t, u = Value.int i t from r1); cases z; exact PySem.W.kia_one PySem.W.kitx_int I.kIn True.intro e (fun z => nomatch z) fin
  | str y => cases et; obtain ⟨t, z⟩ := (show ∃ t, u = Value.str y t from r1); cases z; exact PySem.W.kia_one PySem.W.kitx_str I.kIn True.intro e (fun z => nomatch z) fin
  | ty _ => cases et
  | obj _ => cases et
  | @tup a xs ds sq l =>
    cases et
    cases (show u = Value.ref a from r1)
    obtain ⟨its, _, ⟨o, h1, h2, _⟩, _⟩ := I.tuple sq
    exact PySem.W.kia_one PySem.W.kitx_tuple I.kIn ⟨o, h1, h2⟩ e (fun z => nomatch z) fin
  | @ls a xs ds sq l =>
    cases et
    cases (show u = Value.ref a from r1)
    obtain ⟨its, _, ⟨o, n, h1, h2, _⟩, _⟩ := I.list sq.sq
    exact PySem.W.kia_one PySem.W.kitx_list I.kIn ⟨o, h1, h2⟩ e (fun z => nomatch z) fin
theorem le_isI {X : Cx} {x y : Str} {p p2 pos : Pos} {c : String} {e : Expr} {Ta : ETr} (hg : Gl X x) (hm : X.mg x = none) (hv : bootBuiltins x = some (.builtin "isinstance")) (ha : LE X e Ta) (hg2 : Gl X y) (hm2 : X.mg y = none) (hv2 : bootBuiltins y = some (.type c)) (hc : c ∈ cls5 := by decide)
    (hn : x ≠ "__name__" := by decide) (hdb : (x == ("__debug__" : Str)) = false := by decide) (hn2 : y ≠ "__name__" := by decide) (hdb2 : (y == ("__debug__" : Str)) = false := by decide)
    (h0 : starEach [.Name y p2] X.env = [(false, eval (.Name y p2) X.env)] := by rfl) (h1 : starEach (e :: [.Name y p2]) X.env = (false, eval e X.env) :: starEach [.Name y p2] X.env := by rfl) (h2 : (backTo pos (starEach [.Name y p2] X.env)).any (·.1) = false := by rfl) :
    LE X (.Call (.Name x p) [e, .Name y p2] [] pos) (TUn (rIsI c) Ta) := by
  obtain ⟨ta, pa, sa⟩ := ha.ex
  refine ⟨_, pe_callB call_isI hg hm hv (pa_cons pa (pa_cons (pe_bltn hg2 hm2 hv2 (v := .ty c) rfl hn2 hdb2) pa_nil h0) h1) hn hdb h1 h2, fun σ H ρ μ Q Q' rl h k => sa σ H ρ μ _ _ rl h fun v H1 d μ1 t1 m1 p1 h1 => ?_⟩
  have h1' : (match tyD d with | some t => Q (.bl (isTy t c)) μ1 | none => False) := h1
  cases et : tyD d with
  | none => rw [et] at h1'; exact False.elim h1'
  | some t => rw [et] at h1'; exact ⟨v, d, t, c, rfl, p1, et, hc, k _ H1 _ μ1 t1 m1 (.bl _) h1'⟩
section
variable {X : Cx} {a b c e tg o : Expr} {Ta Tb Tc : ETr} {pos : Pos} {es : List Expr} {At : ATr} {x : Str} {p : Pos} {id T : String} {st : Stmt} {rest : List Stmt} {T1 T2 : STr} {tA : TTr}
theorem lss_nil : LSs X [] TNext := ⟨_, pss_nil, fun σ H ρ μ E E' rl h k => k.nx _ _ _ _ (.refl H) rl h⟩
theorem lss_cons (h1 : LS X st T1) (h2 : LSs X rest T2) : LSs X (st :: rest) (TSeq T1 T2) := by
  obtain ⟨t1, p1, s1⟩ := h1.ex
  obtain ⟨t2, p2, s2⟩ := h2.ex
  exact ⟨_, pss_cons p1 p2, fun σ H ρ μ E E' rl h k => s1 σ H ρ μ _ _ rl h ⟨fun σ' H' ρ' μ' t' r' q => s2 σ' H' ρ' μ' E E' r' q (k.go t'), k.rt, k.bk, k.ct⟩⟩
theorem lss_one (h1 : LS X st T1) : LSs X [st] T1 := by
  obtain ⟨t1, p1, s1⟩ := h1.ex
  exact ⟨_, pss_one p1, s1⟩
theorem ls_expr (he : LE X e Ta) (hs : swapsWith e none pos.line X.env = pure false := by rfl) : LS X (.Expr e pos) (TDrop Ta) := by
  obtain ⟨ta, pa, sa⟩ := he.ex
  exact ⟨_, ps_expr pa hs, fun σ H ρ μ E E' rl h k => sa σ H ρ μ _ _ rl h fun v H' d μ' t' m' p' h' => k.nx _ _ _ _ t' (rl.go t' m') h'⟩
theorem ls_ret (he : LE X e Ta) : LS X (.Return (some e) pos) (TRet Ta) := by
  obtain ⟨ta, pa, sa⟩ := he.ex
  exact ⟨_, ps_ret pa, fun σ H ρ μ E E' rl h k => sa σ H ρ μ _ _ rl h k.rt⟩
theorem ls_if {sa sb : List Stmt} (hc : LT X c tA) (ha : LSs X sa T1) (hb : LSs X sb T2) : LS X (.If c sa sb pos) (TIfS tA T1 T2) := by
  obtain ⟨tc, pc, sc⟩ := hc.ex
  obtain ⟨t1, p1, s1⟩ := ha.ex
  obtain ⟨t2, p2, s2⟩ := hb.ex
  refine ⟨_, ps_if pc p1 p2, fun σ H ρ μ E E' rl h k => sc σ H ρ μ _ _ rl h fun q H1 μ1 t1' m1 h1 => ?_⟩
  cases q with
  | true => exact iteT (s1 σ H1 ρ μ1 E E' (rl.go t1' m1) h1 (k.go t1'))
  | false => exact iteF (s2 σ H1 ρ μ1 E E' (rl.go t1' m1) h1 (k.go t1'))
theorem sim_gname {K : PySem.W.Frag} (i : Nat) : SimG K (gName i) (GName i) := fun σ H ρ μ v d k k' rl p h q => q _ _ _ _ (.refl H) (rl.set p i) h
theorem lg_name (i : Nat) (hN : X.N.Nodup) (hi : X.N[i]? = some x := by rfl) (hx : Loc X.env.scope x := by first | exact Or.inl rfl | exact Or.inr rfl) (hf : X.fn x = true ∨ X.env.scope.names.lookup x = some .local := by first | exact .inl rfl | exact .inr rfl | assumption) : LG X (.Name x pos) (GName i) :=
  ⟨_, pg_name hN hi hx hf, sim_gname i⟩
theorem ls_set (i : Nat) {pos' : Pos} (hN : X.N.Nodup) (he : LE X e Ta) (hi : X.N[i]? = some x := by rfl) (hx : Loc X.env.scope x := by first | exact Or.inl rfl | exact Or.inr rfl) (hs : swapsWith e (some (.Name x pos')) pos.line X.env = pure false := by rfl)
    (hf : X.fn x = true ∨ X.env.scope.names.lookup x = some .local := by first | exact .inl rfl | exact .inr rfl | assumption) : LS X (.Assign [.Name x pos'] e pos) (TAsg Ta (GName i)) := by
  obtain ⟨ta, pa, sa⟩ := he.ex
  exact ⟨_, ps_set hN hi hx pa hs hf, fun σ H ρ μ E E' rl h k => sa σ H ρ μ _ _ rl h fun v H' d μ' t' m' p' h' => sim_gname i σ H' ρ μ' v d _ _ (rl.go t' m') p' h' (k.go t').nx⟩
theorem ls_par (i j : Nat) {y : Str} {px py pt : Pos} {kt k2 pt2} (hc : X.calm = true) (hN : X.N.Nodup) (ha : LA X [a, b] At) (hi : X.N[i]? = some x := by rfl) (hj : X.N[j]? = some y := by rfl) (hij : i ≠ j := by decide)
    (hx : X.env.scope.names.lookup x = some .local := by rfl) (hy : X.env.scope.names.lookup y = some .local := by rfl)
    (hw : swappedStores [.Tuple [.Name x px, .Name y py] kt pt] (.Tuple [a, b] k2 pt2) X.env = pure (some [x, y]) := by rfl)
    (hs : swapsWithSole [.Tuple [.Name x px, .Name y py] kt pt] (.Tuple [a, b] k2 pt2) pos.line X.env = pure false := by rfl) :
    LS X (.Assign [.Tuple [.Name x px, .Name y py] kt pt] (.Tuple [a, b] k2 pt2) pos) (TPar i j At) := by
  obtain ⟨ta, pa, sa⟩ := ha.ex
  refine ⟨_, ps_par hc hN hi hj hij hx hy pa hw hs, fun σ H ρ μ E E' rl h k => sa σ H ρ μ _ _ rl h fun vs H' ds μ' t' m' p' h' => ?_⟩
  unfold L3.k2 at h'
  split at h'
  · rename_i dv dw
    cases p' with | cons p1 p2 => cases p2 with | cons p2 p3 =>
    cases p3
    exact ⟨_, _, rfl, k.nx _ _ _ _ t' (((rl.go t' m').set p1 i).set p2 j) h'⟩
  · exact False.elim h'
theorem ls_setIx {Tk' : ETr} {tpos : Pos} (ho : LE X o Ta) (hi : LE X b Tk') (he : LE X e Tb)
    (ha : ∀ v, assign (.Subscript o b tpos) X.env v = (do
      let ov ← holding [v] (eval o X.env)
      let iv ← holding [v, ov] (eval b X.env)
      standAt tpos
      holding [v, ov, iv] (setItem ov iv v)
      release [v, ov, iv] []) := by intro _; rfl)
    (hs : swapsWithSole [.Subscript o b tpos] e pos.line X.env = pure false := by rfl) (hw : swappedStores [.Subscript o b tpos] e X.env = pure none := by rfl)
    (h1 : (assignEach [.Subscript o b tpos] X.env).map (·.2) = [assign (.Subscript o b tpos) X.env] := by rfl) : LS X (.Assign [.Subscript o b tpos] e pos) (TSetIx Ta Tk' Tb) := by
  obtain ⟨to, po, so⟩ := ho.ex
  obtain ⟨ti, pi, si⟩ := hi.ex
  obtain ⟨te, pe, se⟩ := he.ex
  refine ⟨_, ps_asg pe (pg_sub po pi set_list ha) hs hw h1, fun σ H ρ μ E E' rl h k => se σ H ρ μ _ _ rl h fun y H1 dy μ1 t1 m1 p1 h1 => so σ H1 ρ μ1 _ _ (rl.go t1 m1) h1 fun ov H2 dov μ2 t2 m2 p2 h2 =>
    si σ H2 ρ μ2 _ _ (rl.go (t1.trans t2) m2) h2 fun iv H3 div μ3 t3 m3 p3 h3 => ?_⟩
  cases p2 with
  | obj q =>
    cases p3 with
    | int n =>
      obtain ⟨ds, e0, h3'⟩ := kL_get h3
      obtain ⟨j, e1, h4⟩ := kN_get h3'
      obtain ⟨xs, ex, l⟩ := m3 q _ e0
      refine ⟨q, xs, n, j, rfl, rfl, ex, by rw [l.length]; exact e1, ?_⟩
      have t4 : Tk H3 (L2.upd H3 q (.lst (xs.set j y))) := .upd (fun ys z => by rw [ex] at z; cases z) fun o' u z => by rw [ex] at z; cases z
      have t14 := t1.trans (t2.trans (t3.trans t4))
      refine k.nx _ _ ρ _ t14 (rl.go t14 (fun a' o' e' => ?_)) h4
      by_cases haq : a' = q
      · subst haq
        rw [up_same] at e'; cases e'
        exact ⟨_, upd_same, (l.set (p1.mono (t2.trans t3)) j).mono t4⟩
      · rw [up_ne haq] at e'
        exact (m3 a' _ e').ne t4 haq
    | _ => exact False.elim h3
  | _ => cases p3 <;> exact False.elim h3
theorem ls_while {body : List Stmt} (hp : PassesOwn (model X.prog X.w) X.A X.env X.xe) (hc : LT X c tA) (hb : LSs X body T1) : LS X (.While c body [] pos) (TWhile tA T1) := by
  obtain ⟨tc, pc, sc⟩ := hc.ex
  obtain ⟨t1, p1, s1⟩ := hb.ex
  refine ⟨_, ps_while hp pc p1, fun σ H ρ μ E E' rl h k => ?_⟩
  obtain ⟨P, m, h0, hs⟩ := h
  refine ⟨fun n σ' H' => ∃ ρ' μ', Tk H H' ∧ Rl X.K σ' H' ρ' μ' ∧ P ρ' μ' ∧ n = m ρ' μ', ⟨_, ρ, μ, .refl H, rl, h0, rfl⟩, ?_⟩
  rintro n σ1 H1 ⟨ρ1, μ1, t1', rl1, hP, rfl⟩
  refine sc σ1 H1 ρ1 μ1 _ _ rl1 (hs ρ1 μ1 hP) fun q H2 μ2 t2 m2 h2 => ?_
  have t12 := t1'.trans t2
  cases q with
  | true =>
    refine iteT ⟨fun σ' H' => ∃ ρ' μ', Tk H H' ∧ Rl X.K σ' H' ρ' μ' ∧ P ρ' μ' ∧ m ρ' μ' < m ρ1 μ1, fun σ' H' ⟨ρ', μ', a1, a2, a3, a4⟩ => ⟨_, a4, ρ', μ', a1, a2, a3, rfl⟩, ?_⟩
    have h2' := h2
    refine s1 σ1 H2 ρ1 μ2 _ _ (rl1.go t2 m2) h2' ⟨fun σ' H' ρ' μ' t' r' q => ⟨ρ', μ', t12.trans t', r', q.1, q.2⟩, (k.go t12).rt, (k.go t12).nx, fun σ' H' ρ' μ' t' r' q => ⟨ρ', μ', t12.trans t', r', q.1, q.2⟩⟩
  | false => exact iteF (k.nx _ _ _ _ t12 (rl1.go t2 m2) h2)
end
def lift (K : PySem.W.Frag) (sp : FSp) : Sp := fun vs H Q _ => ∃ ds μ QQ, DpL K H vs ds ∧ MuOk K H μ ∧ sp ds μ QQ ∧ VPost K H QQ Q
def RT (Q : DK) : DK := fun d μ' => ∃ μ, Sub μ μ' ∧ Q d μ
def ini (n : Nat) (ds : List D) : ST := ds.map some ++ List.replicate (n - ds.length) none
theorem lk_ini : ∀ (ds : List D) (n i : Nat) (d : D), lk (ini n ds) i = some d → ds[i]? = some d := by
  intro ds
  have rep : ∀ m i (d : D), lk (List.replicate m none) i = some d → False := by
    intro m
    induction m with
    | zero => intro i d h; cases i <;> cases h
    | succ m ih => intro i d h; cases i with
      | zero => cases h
      | succ i => exact ih i d h
  have gen : ∀ (ds : List D) m i d, lk (ds.map some ++ List.replicate m none) i = some d → ds[i]? = some d := by
    intro ds
    induction ds with
    | nil => intro m i d h; exact (rep m i d h).elim
    | cons x r ih => intro m i d h; cases i with
      | zero => simpa [lk] using h
      | succ i => simpa using ih m i d h
  exact fun n i d h => gen ds _ i d h
section
variable {P : Program} {w : World} {K : PySem.W.Frag} {mg : Str → Option Value} {base : Heap}
theorem fn_ok {x qual : Str} {st : Stmt} {f : Addr} {fd : FuncData} {N ps : List Str} {k : Nat} {sp : FSp} {T : STr} (F : Fun K x qual st f fd) (S : FnScope N ps (defScope st)) (len : ∀ ds μ Q, sp ds μ Q → ds.length = ps.length)
    (hb : ∀ (cdv : Value) (A : Around) (outer : List Env) (s : Shared) (H : Hp) (E : XK), Room k (A.deeper (envOfC qual (defScope st) s.heap.objs.size f cdv)) →
      LSs (cxOf CX0 P w K mg base N qual (defScope st) f cdv A outer s H E).nox (defBody st) T)
    (hr : ∀ ds μ Q, sp ds μ Q → T { nx := fun _ μ' => RT Q .non μ', rt := RT Q } (ini N.length ds) μ) : FnOk P w K mg base CX0 (k + 1) f fd ps (lift K sp) := by
  refine F.ok S (fun vs H Q E h => ?_) (fun cdv A outer s H vs Q E hroom h => ?_)
  · obtain ⟨ds, μ, QQ, l, m, h1, k⟩ := h
    rw [l.length]; exact len ds μ QQ h1
  · obtain ⟨ds, μ, QQ, l, m, h1, k⟩ := h
    obtain ⟨t, pt, stt⟩ := (hb cdv A outer s H E hroom).ex
    have hl : vs.length = ds.length := l.length
    refine ⟨t, pt, stt (L2.start N vs) H (ini N.length ds) μ _ _ ⟨?_, fun i d e => ?_, m⟩ (hr ds μ QQ h1) ⟨fun σ' H' ρ' μ' t' r' q => ?_, fun v H' d μ' t' m' p' q => ?_, fun _ _ _ _ _ _ q => q, fun _ _ _ _ _ _ q => q⟩⟩
    · unfold ini L2.start; simp [hl]
    · have e' := lk_ini ds _ i d e
      obtain ⟨v, e1, p⟩ := l.get e'
      refine ⟨v, ?_, p⟩
      unfold L2.start
      have hi : i < vs.length := (List.getElem?_eq_some_iff.mp e1).1
      rw [List.getElem?_append_left (by simpa using hi), List.getElem?_map, e1]
      rfl
    · obtain ⟨μ2, s2, q2⟩ := q
      exact k _ _ _ μ2 t' (r'.mu.sub s2) .non q2
    · obtain ⟨μ2, s2, q2⟩ := q
      exact k _ _ _ μ2 t' (m'.sub s2) p' q2
end
section
variable {X : Cx} {k : Nat} {f : Addr} {fd : FuncData} {ps : List Str} {sp : FSp} {x : Str} {p pos : Pos} {e : Expr} {es : List Expr} {At : ATr}
theorem le_call (F : FnOk X.prog X.w X.K X.mg X.base CX0 k f fd ps (lift X.K sp)) (hr : Room k X.A) (hg : Gl X x) (hm : X.mg x = some (.ref f)) (hk : PySem.W.keepIn X.K (.ref f) = true) (hb : Binds X.K fd ps [])
    (ha : LA X (e :: es) At) (hdb : (x == ("__debug__" : Str)) = false := by decide) (he : starEach (e :: es) X.env = (false, eval e X.env) :: starEach es X.env := by rfl) (hpl : (backTo pos (starEach es X.env)).any (·.1) = false := by rfl) :
    LE X (.Call (.Name x p) (e :: es) [] pos) (TCall sp At) := by
  obtain ⟨ta, pa, sa⟩ := ha.ex
  refine ⟨_, pe_call F hr hg hm hk hb .nil pass0 pa hdb he hpl, fun σ H ρ μ Q Q' rl h k => sa σ H ρ μ _ _ rl h fun xs H1 ds μ1 t1 m1 p1 h1 => ?_⟩
  rw [List.append_nil]
  exact ⟨ds, μ1, Q, p1, m1, h1, k.go t1⟩
end
end L3
set_option Elab.async false
set_option linter.all false
set_option maxRecDepth 100000
set_option maxHeartbeats 4000000
namespace L3
open PySem PySem.Spec PyProof.Rows L2
theorem DpL.ints {K : PySem.W.Frag} {H : Hp} : ∀ ns : List Int, DpL K H (ns.map V.int) (ns.map D.int)
  | [] => .nil
  | n :: r => .cons (.int n) (DpL.ints r)
theorem SqF.only {K : PySem.W.Frag} {H : Hp} {a : Addr} {xs : List V} (hO : Only H) (h : SqL K H a xs) : SqF K H a xs := by
  rcases h with (h | h) | h
  · rcases hO a with z | ⟨o, ys, z⟩
    · rw [h] at z; cases z
    · rw [h] at z; cases z
  · exact .inl h
  · exact .inr h
theorem walk3 {l : PySem.W.OpenLaw} {k : Nat} {q : Program} {loose : List Str} {XP : (Str → Option Value) → Heap → Prop} {YP : World → Heap → Prop} {d : DefRec} {K : Params → PySem.W.Frag} {sp : FSp} {x : Str}
    (hn : l.most = some 63) (hdf : d.params.defaults = []) (hr : Room k callerA) (hY : ∀ (w : World) (h : Heap), YP w h → (K w.params).In h)
    (hl : ∀ ns : List Int, ns.length ≤ 63 → ∀ μ, sp [.ls (ns.map .int)] μ (fun d _ => d = .bl true))
    (F : ∀ (w : World) (mg : Str → Option Value) (fa : Addr) (h : Heap), (K w.params).In h → h.Ns mainGlobals mg → mg d.name = some (.ref fa) →
      ∃ fd : FuncData, (∀ (s : Shared) (u : Value), BindsTo s fd ⟨[u], []⟩ [(x, u)]) ∧ ∀ base : Heap, (K w.params).In base → base.Ns mainGlobals mg → FnOk l.prog w (K w.params) mg base CX0 k fa fd [x] (lift (K w.params) sp)) :
    PySem.W.WalkO q loose XP YP l.row.toRowW d [] (fun f vs => PySem.call f vs) :=
  L2.walk_of (n := 63) (k := k) (x := x) (CX := fun _ => CX0) (sp := fun w => lift (K w.params) sp) hn (by decide) hdf hr hY F
    (fun w H a ns hl' hO hS => ⟨[.ls (ns.map .int)], fun _ => none, _, .cons (.ls (.only hO hS) (.ints ns)) .nil, (fun a o e => by cases e), hl ns hl' _, fun v H' d μ' _ _ p e => by
      have e' : d = .bl true := e
      subst e'
      cases p; rfl⟩) fun _ _ _ _ _ z => z
end L3
set_option Elab.async false
set_option linter.all false
set_option maxRecDepth 100000
set_option maxHeartbeats 4000000
namespace L3
open PySem PySem.Spec PyProof.Rows L2
def compCx (X : Cx) (scope : Scope) (Nc : List Str) (cl : List (Str × Addr)) (C : Addr) (s₀ : Shared) (H₀ : Hp) (ex : List Addr) : Cx :=
  { X with env := compEnvC scope cl C X.env, N := Nc, s₀ := s₀, H₀ := H₀, outer := X.stack, ex := ex, fn := fun _ => false, pn := [] }
theorem closure_of {scope : Scope} {env : Env} (h : ∀ y ∈ scope.names, y.2 = .free → ∃ c, env.cells.lookup y.1 = some c) :
    ∃ cl, closureFor scope env = pure cl ∧ (∀ x c, cl.lookup x = some c → env.cells.lookup x = some c) ∧ ∀ y ∈ scope.names, y.2 = .free → ∃ c, cl.lookup y.1 = some c := by
  have gen : ∀ (ns : List (Str × NameKind)) (cs : List (Str × Addr)), (∀ y ∈ ns, y.2 = .free → ∃ c, env.cells.lookup y.1 = some c) → (∀ x c, cs.lookup x = some c → env.cells.lookup x = some c) →
      ∃ cl, (forIn ns cs fun x r => if (x.2 == NameKind.free) = true then do let c ← cellOf env x.1; pure (ForInStep.yield ((x.1, c) :: r)) else pure (ForInStep.yield r) : Sem _) = pure cl ∧ (∀ x c, cl.lookup x = some c → env.cells.lookup x = some c) ∧
        (∀ x, (cs.lookup x).isSome = true → (cl.lookup x).isSome = true) ∧ ∀ y ∈ ns, y.2 = .free → ∃ c, cl.lookup y.1 = some c := by
    intro ns
    induction ns with
    | nil => intro cs _ h2; exact ⟨cs, rfl, h2, fun _ z => z, fun _ z => nomatch z⟩
    | cons y r ih =>
      intro cs h1 h2
      obtain ⟨n, k⟩ := y
      by_cases hk : k = .free
      · subst hk
        obtain ⟨c, hc⟩ := h1 (n, .free) List.mem_cons_self rfl
        have h2' : ∀ x c', ((n, c) :: cs).lookup x = some c' → env.cells.lookup x = some c' := fun x c' e => by
          rw [List.lookup_cons] at e
          split at e
          · rename_i hx
            cases e
            have : x = n := by simpa using hx
            subst this; exact hc
          · exact h2 x c' e
        obtain ⟨cl, e1, e2, e3, e4⟩ := ih ((n, c) :: cs) (fun y hy => h1 y (List.mem_cons_of_mem _ hy)) h2'
        refine ⟨cl, ?_, e2, fun x hx => e3 x ?_, fun y hy hf => ?_⟩
        · rw [List.forIn_cons]
          have : cellOf env n = pure c := by unfold cellOf; rw [hc]
          simp only [beq_self_eq_true, if_true, this, pure_bind]
          exact e1
        · rw [List.lookup_cons]; split
          · rfl
          · exact hx
        · obtain rfl | hy := List.mem_cons.mp hy
          · have : (cl.lookup n).isSome = true := e3 n (by simp [List.lookup_cons])
            exact Option.isSome_iff_exists.mp this
          · exact e4 y hy hf
      · obtain ⟨cl, e1, e2, e3, e4⟩ := ih cs (fun y hy => h1 y (List.mem_cons_of_mem _ hy)) h2
        refine ⟨cl, ?_, e2, e3, fun y hy hf => ?_⟩
        · rw [List.forIn_cons]
          have : (k == NameKind.free) = false := by simpa using hk
          simp only [this, Bool.false_eq_true, if_false, pure_bind]
          exact e1
        · obtain rfl | hy := List.mem_cons.mp hy
          · exact absurd hf hk
          · exact e4 y hy hf
  obtain ⟨cl, e1, e2, _, e4⟩ := gen scope.names [] h fun x c e => by cases e
  refine ⟨cl, ?_, e2, e4⟩
  show ((forIn scope.names ([] : List (Str × Addr)) fun x r => if (x.2 == NameKind.free) = true then do let c ← cellOf env x.1; pure (ForInStep.yield ((x.1, c) :: r)) else pure (ForInStep.yield r) : Sem _) >>= fun s => pure s) = pure cl
  rw [e1]
  rfl
def PIfs (Y : Cx) (ifs : List Expr) (t : TT) : Prop :=
  ∀ (pins : List (Addr × Obj)) (s : Shared) (σ : L2.St) (H : Hp) (Q : Bool → Hp → Prop), Inv Y pins σ H s → t σ H Q →
    wpAny (model Y.prog Y.w) Y.A (forIn ifs true fun c r => if r = true then do let ok ← isTrue c Y.env (eval c Y.env); pure (ForInStep.yield ok) else pure (ForInStep.yield r)) (TP Y pins σ Q) Y.xe s
def tYes : TT := fun _ H Q => Q true H
theorem pif_nil {Y : Cx} : PIfs Y [] tYes := fun pins s σ H Q I h => wpAny_tests_nil ⟨H, I, h⟩
def capS (σ : L2.St) (n : Nat) (caps : List Nat) : L2.St := List.replicate n none ++ caps.map fun i => (σ[i]?).join
def Wk (σ' σ : L2.St) : Prop := σ'.length = σ.length ∧ ∀ (i : Nat) v, σ'[i]? = some (some v) → σ[i]? = some (some v)
def tComp (wi : TI) (g : TG) (tt : TT) (te : TE) (n : Nat) (caps : List Nat) : TE := fun σ H Q => wi σ H fun J H1 => ∀ D, H1 D = none →
  ∃ W : Nat → Nat → List V → Hp → Prop, (∃ m, W 0 m [] (L2.upd H1 D (.lst []))) ∧ ∀ i m ys H2, W i m ys H2 →
    (J.stop i H2 ∧ Q (.ref D) H2) ∨ (J.go i H2 ∧ ∃ N : List V → Hp → Prop, (∀ ys' H', N ys' H' → ∃ m', m' < m ∧ W (i + 1) m' ys' H') ∧
      ∀ x H3, J.yld i H2 x H3 → g x (capS σ n caps) H3 fun σ4 H4 => Wk (capS σ n caps) σ4 ∧ tt σ4 H4 fun b H5 => if b = true then te σ4 H5 fun y H6 => ∃ zs, H6 D = some (.lst zs) ∧ zs.length < sizeLine ∧ N (zs ++ [y]) (L2.upd H6 D (.lst (zs ++ [y]))) else N ys H5)
theorem comp_loop {prog : Program} {w : World} {A : Around} {R : Result → Shared → Prop} {s : Shared} {elt target iter : Expr} {ifs : List Expr} {scope : Scope} {pos : Pos} {it acc : Value} {env : Env} (J : Nat → Shared → Prop)
    (turn : ∀ n s, J n s → wpAny (model prog w) A (pyNext it) (fun o t₁ => match o with
      | none => R (.ok .next) t₁
      | some v => wpAny (model prog w) A (letOwnedTupleGo target it v) (fun _ t₁ => wpAny (model prog w) A (assign target env v) (fun _ t₂ =>
          wpAny (model prog w) A (forIn ifs true fun c r =>
            if r = true then do let ok ← isTrue c env (eval c env); pure (ForInStep.yield ok) else pure (ForInStep.yield r)) (fun ok t₃ =>
            if ok = true then wpAny (model prog w) A (eval elt env) (fun x t₄ =>
              wpAny (model prog w) A (call (.builtin "list.append") [acc, x]) (fun _ t₅ => ∃ m, m < n ∧ J m t₅) (fun _ _ => False) t₄) (fun _ _ => False) t₃
            else ∃ m, m < n ∧ J m t₃) (fun _ _ => False) t₂) (fun _ _ => False) t₁) (fun _ _ => False) t₁) (fun _ _ => False) s)
    (n : Nat) (h : J n s) : codeAny (model prog w) A (.compLoop (.ListComp elt [⟨target, iter, ifs, 0⟩] scope pos) 0 it acc env) R s := by
  refine codeAny_loop rfl J (fun n s hJ => ?_) n h
  show wpAny _ A ((compTurn (.ListComp elt [⟨target, iter, ifs, 0⟩] scope pos) 0 it acc env).onRaise
    (fun x => do noteFrame x env; theTreesLotGoes x)) _ _ s
  refine wpAny_noted ?_
  rw [compTurn_list]
  refine wpAny_bind (wpAny_standAt (wpAny_bind (wpAny_mono (turn n s hJ) (fun r t₁ g₁ => ?_) fun _ _ h' => h'.elim)))
  cases r with
  | none => exact wpAny_pure g₁
  | some v =>
    refine wpAny_bind (wpAny_mono g₁ (fun _ t₁' g₁' => ?_) fun _ _ h' => h'.elim)
    refine wpAny_bind (wpAny_mono g₁' (fun _ t₂ g₂ => wpAny_bind (wpAny_mono g₂ (fun ok t₃ g₃ => ?_) fun _ _ h' => h'.elim)) fun _ _ h' => h'.elim)
    cases ok with
    | false => exact wpAny_pure ⟨rfl, g₃⟩
    | true =>
      exact wpAny_bind (wpAny_bind (wpAny_mono g₃ (fun x t₄ g₄ => wpAny_bind (wpAny_mono g₄ (fun _ t₅ g₅ => wpAny_pure (wpAny_pure ⟨rfl, g₅⟩)) fun _ _ h' => h'.elim)) fun _ _ h' => h'.elim))
theorem capS_get {σ : L2.St} {n : Nat} {caps : List Nat} {i : Nat} {v : V} (h : (capS σ n caps)[i]? = some (some v)) : ∃ j k, i = n + j ∧ caps[j]? = some k ∧ σ[k]? = some (some v) := by
  unfold capS at h
  by_cases hi : i < n
  · rw [List.getElem?_append_left (by simpa using hi), List.getElem?_replicate, if_pos hi] at h
    cases h
  · rw [List.getElem?_append_right (by simpa using hi)] at h
    rw [List.length_replicate, List.getElem?_map] at h
    cases e : caps[i - n]? with
    | none => rw [e] at h; cases h
    | some k =>
      rw [e] at h
      have h' : (σ[k]?).join = some v := Option.some.inj h
      cases e2 : σ[k]? with
      | none => rw [e2] at h'; cases h'
      | some o =>
        rw [e2] at h'
        have h'' : o = some v := h'
        subst h''
        exact ⟨i - n, k, by omega, e, e2⟩
theorem lookup_relabel_free {env : Env} (hk : env.scope.kind = .function) : ∀ {names : List (Str × NameKind)} {x : Str}, env.kindOf x = some .cell → names.lookup x = some .free →
    (names.map fun (n, k) => if (k == NameKind.free && env.scope.kind == .function && env.kindOf n == some .cell) then (n, NameKind.cell) else (n, k)).lookup x = some .cell
  | [], _, _, h => by simp at h
  | (n, k) :: r, x, hc, h => by
    have ih := @lookup_relabel_free env hk r x hc
    show List.lookup x ((if (k == NameKind.free && env.scope.kind == .function && env.kindOf n == some .cell) = true
      then (n, NameKind.cell) else (n, k)) :: _) = _
    cases hx : x == n with
    | true =>
      simp only [hx, List.lookup_cons] at h
      cases h
      have e : x = n := by simpa using hx
      subst e
      simp [List.lookup_cons, hk, hc]
    | false =>
      simp only [hx, List.lookup_cons] at h
      by_cases hcc : (k == NameKind.free && env.scope.kind == .function && env.kindOf n == some .cell) = true
      · rw [if_pos hcc]; simp only [List.lookup_cons, hx]; exact ih h
      · rw [if_neg hcc]; simp only [List.lookup_cons, hx]; exact ih h
theorem relabel_mem {env : Env} : ∀ {names : List (Str × NameKind)} {x : Str} {k' : NameKind}, (∀ y ∈ names, y.2 ≠ .cell) → (k' = .cell ∨ k' = .free) →
    (x, k') ∈ (names.map fun (n, k) => if (k == NameKind.free && env.scope.kind == .function && env.kindOf n == some .cell) then (n, NameKind.cell) else (n, k)) → (x, NameKind.free) ∈ names := by
  intro names x k' hn hk h
  obtain ⟨⟨n, k⟩, hm, e⟩ := List.mem_map.mp h
  dsimp only at e
  split at e
  · rename_i hc
    cases e
    have : k = .free := by simp at hc; exact hc.1.1
    subst this; exact hm
  · cases e
    rcases hk with rfl | rfl
    · exact absurd rfl (hn _ hm)
    · exact hm
theorem pe_comp {X : Cx} {tg iter elt : Expr} {ifs : List Expr} {scope : Scope} {pos : Pos} {wi : TI} {g : TG} {tt : TT} {te : TE} {Nc : List Str} {n : Nat} {caps : List Nat}
    (hxe : X.xe = fun _ _ => False) (hcalm : X.calm = true) (hi : PI X tg iter wi)
    (hbody : ∀ (cl : List (Str × Addr)) (C : Addr) (s₀ : Shared) (H₀ : Hp) (ex : List Addr), PG (compCx X scope Nc cl C s₀ H₀ ex) tg g ∧ PIfs (compCx X scope Nc cl C s₀ H₀ ex) ifs tt ∧ PE (compCx X scope Nc cl C s₀ H₀ ex) elt te)
    (hfree : ∀ y ∈ scope.names, y.2 = .free → X.env.kindOf y.1 = some .cell) (hcell : ∀ y ∈ scope.names, y.2 ≠ .cell) (hkind : scope.kind = .function)
    (hnames : ∀ y ∈ scope.names, y.2 = .local → scope.names.lookup y.1 = some .local) (hlen : Nc.length = n + caps.length)
    (hcap : ∀ (j k : Nat), caps[j]? = some k → ∃ x, Nc[n + j]? = some x ∧ X.N[k]? = some x ∧ scope.names.lookup x = some .free)
    (hs : ∀ x, foldedSetIterable iter X.env x = pure x := by intro _; rfl) :
    PE X (.ListComp elt [⟨tg, iter, ifs, 0⟩] scope pos) (tComp wi g tt te n caps) := by
  intro pins s σ H Q I h
  rw [hxe]
  obtain ⟨cl, hclos, clin, clfree⟩ := closure_of (scope := scope) (env := X.env) fun y hy hf => I.ok.has y.1 (.inl (hfree y hy hf))
  rw [eval_ListComp]
  refine wpAny_comprehension_free (use := none) rfl hs hclos hkind hnames ?_
  have hi' := hi pins s σ H _ I h
  rw [hxe] at hi'
  refine wpAny_mono hi' (fun xv s1 h1 => wpAny_mono h1 (fun itv s2 h2 => ?_) fun _ _ z => z) fun _ _ z => z
  obtain ⟨it, fp, tn, J, H1, rfl, I2, T, st2, f2, hh⟩ := h2
  -- the new list
  refine wpAny_newObj_type ?_
  have hD : H1 s2.heap.objs.size = none := I2.hok.fresh (Nat.le_refl _)
  obtain ⟨W, ⟨m0, w0⟩, turn⟩ := hh _ hD
  have I3 : Inv X pins σ (L2.upd H1 s2.heap.objs.size (.lst [])) { s2 with heap := s2.heap.push { cls := .type "list", dict := none, data := .seq ([] : List Value).toArray } } :=
    I2.laid (t' := s2.toks) (fun b u e => Heap.get?_push_of_some _ e) (Nat.le_refl _) ⟨Nat.zero_le _, [], 0, .nil, Heap.get?_push_size _ rfl⟩
  have k3 : ∀ b u, s2.heap.get? b = some u → (s2.heap.push { cls := .type "list", dict := none, data := .seq ([] : List Value).toArray }).get? b = some u := fun b u e => Heap.get?_push_of_some _ e
  have fne : ∀ b ∈ fp, b ≠ s2.heap.objs.size := fun b hb => by
    obtain ⟨o, ho, _⟩ := T.obj 0 _ st2 b hb
    exact Nat.ne_of_lt (Heap.lt_size ho)
  generalize eD : s2.heap.objs.size = D at *
  generalize eh3 : s2.heap.push { cls := .type "list", dict := none, data := .seq ([] : List Value).toArray } = h3 at *
  generalize eH3 : L2.upd H1 D (.lst []) = H3 at *
  have st3 : tn 0 h3 := T.keep 0 _ _ st2 fun b hb o e => k3 b o e
  have f3 : ∀ b ∈ fp, FpOk X pins H3 b := fun b hb => ⟨by rw [← eH3, upd_ne (fne b hb)]; exact (f2 b hb).1, (f2 b hb).2⟩
  have lt3 : ∀ b ∈ fp, b < h3.objs.size := fun b hb => by
    obtain ⟨o, ho, _⟩ := T.obj 0 _ st3 b hb
    exact Heap.lt_size ho
  generalize es3 : ({ s2 with heap := h3 } : Shared) = s3 at *
  have hs3 : s3.heap = h3 := by rw [← es3]
  refine wpAny_newFunctionEnv hcell (fun y hy => (by cases hy)) (fun h4 hns hsb => ?_) hkind
  show codeAny _ _ (.compStart _ 0 (.ref it) (.ref D) (compEnvC scope cl s3.heap.objs.size X.env)) (compPost _ _ _ none _ (.ref D) s3.heap.objs.size) _
  have k4 : ∀ b u, s3.heap.get? b = some u → h4.get? b = some u := fun b u e => hsb.extBut b u (Nat.ne_of_lt (Heap.lt_size e)) (Heap.get?_push_of_some _ e)
  have okY : (compCx X scope Nc cl s3.heap.objs.size s3 H3 fp).Ok := by
    refine ⟨I3.ok.mod, hkind, I3.ok.glob, I3.ok.blt, Nat.le_refl _, fun x y c e1 e2 => I3.ok.inj x y c (clin _ _ e1) (clin _ _ e2), fun x hx => ?_, fun x c hf => (by cases hf), I3.ok.hd, I3.ok.frames, .inl rfl, fun b hb => ⟨?_, fun x c e z => ?_⟩, I3.bs, Nat.le_trans I3.ok.bsz I3.sz, fun b o e hb => ?_, fun b hb hz => ?_, I3.stack, I3.stkFree⟩
    · have hx' : (relabel scope X.env).names.lookup x = some .cell ∨ (relabel scope X.env).names.lookup x = some .free := hx
      have hm : (x, NameKind.free) ∈ scope.names := by
        rcases hx' with q | q
        · exact relabel_mem hcell (.inl rfl) (PySem.mem_of_lookup q)
        · exact relabel_mem hcell (.inr rfl) (PySem.mem_of_lookup q)
      exact clfree _ hm rfl
    · show b ≠ s3.heap.objs.size
      rw [hs3]; exact Nat.ne_of_lt (lt3 b hb)
    · exact (f3 b hb).2.2.2.2.1 x c (clin _ _ e) z
    · rcases (f3 b hb).2.2.2.1 with z | z
      · exact I3.ok.noex b o e z
      · exact absurd (Nat.lt_of_lt_of_le (Heap.lt_size e) (Nat.le_trans I3.ok.bsz z)) (Nat.lt_irrefl _)
    · rcases List.mem_cons.mp (I3.stkSub b hz) with z | z
      · exact (f3 b hb).2.1 z
      · exact (f3 b hb).2.2.1 z
  have celk : ∀ c v, s3.heap.IsCell c v → h4.IsCell c v := fun c v ⟨o, ho, hd⟩ => ⟨o, k4 c o ho, hd⟩
  have J0 : Inv (compCx X scope Nc cl s3.heap.objs.size s3 H3 fp) [] (capS σ n caps) H3 { s3 with heap := h4, toks := s3.toks + ([] : List (Str × Value)).length } := by
    refine ⟨okY, rfl, I3.bare, Un.kept k4, ⟨_, hns, fun i x v e1 e2 e3 => ?_⟩, fun x c e => ?_, I3.hok.fresh (Nat.le_refl _), fun x c e => I3.freeC x c (clin _ _ e), (fun p hp => (by cases hp)), I3.hok.kept k4, ?_⟩
    · obtain ⟨j, k, rfl, ej, ek⟩ := capS_get e2
      obtain ⟨x', n1, n2, n3⟩ := hcap j k ej
      have e1' : Nc[n + j]? = some x := e1
      rw [n1] at e1'; cases e1'
      have hmem : (x, NameKind.free) ∈ scope.names := PySem.mem_of_lookup n3
      have hcellx : X.env.kindOf x = some .cell := hfree _ hmem rfl
      obtain ⟨m, hn, hl⟩ := I3.loc
      obtain ⟨u, ru, lk⟩ := hl k x v n2 ek (.inr (.inl hcellx))
      refine ⟨u, ru, .inr ⟨.inl (lookup_relabel_free I3.ok.kind hcellx n3), ?_⟩⟩
      rcases lk with ⟨q, _⟩ | ⟨_, c, ec, ic⟩
      · rw [hcellx] at q; cases q
      · obtain ⟨c', ec'⟩ := clfree _ hmem rfl
        have := clin _ _ ec'
        rw [ec] at this; cases this
        exact ⟨c, ec', celk _ _ ic⟩
    · obtain ⟨v, q⟩ := I3.cell x c (clin _ _ e)
      exact ⟨v, celk _ _ q⟩
    · unfold capS
      show _ = Nc.length
      rw [List.length_append, List.length_replicate, List.length_map, hlen]
  obtain ⟨pg, pifs, pelt⟩ := hbody cl s3.heap.objs.size s3 H3 fp
  generalize eY : compCx X scope Nc cl s3.heap.objs.size s3 H3 fp = Y at *
  have yP : Y.prog = X.prog := by rw [← eY]; rfl
  have yw : Y.w = X.w := by rw [← eY]; rfl
  have yK : Y.K = X.K := by rw [← eY]; rfl
  have yA : Y.A = X.A := by rw [← eY]; rfl
  have yx : Y.xe = fun _ _ => False := by rw [← eY]; exact hxe
  have yc : Y.calm = true := by rw [← eY]; exact hcalm
  have ye : Y.env = compEnvC scope cl s3.heap.objs.size X.env := by rw [← eY]; rfl
  have yfs : Y.fs = frs X.stack := by rw [← eY]; rfl
  have yex : Y.ex = fp := by rw [← eY]; rfl
  have ys0 : Y.s₀ = s3 := by rw [← eY]; rfl
  have yH0 : Y.H₀ = H3 := by rw [← eY]; rfl
  have ypn : Y.pn = [] := by rw [← eY]; rfl
  have stat : ∀ {H' : Hp}, (∀ b ∈ fp, H' b = none) → ∀ b ∈ fp, FpOk Y [] H' b := fun hn b hb => ⟨hn b hb, by rw [ye]; show b ≠ s3.heap.objs.size; rw [hs3]; exact Nat.ne_of_lt (lt3 b hb), okY.exfs b (by rw [yex]; exact hb), .inl (by rw [yex]; exact hb),
    fun x c e => by rw [ye] at e; exact (f3 b hb).2.2.2.2.1 x c (clin _ _ e), fun p hp => by rw [ypn] at hp; exact nomatch hp⟩
  have tn4 : ∀ t, tn 0 ({ s3 with heap := h4, toks := t } : Shared).heap := fun t => T.keep 0 _ _ st3 fun b hb o e => k4 b o (by rw [hs3]; exact e)
  -- the end
  have fin : ∀ (s5 : Shared) (H5 : Hp), Inv Y [] (capS σ n caps) H5 s5 → Q (.ref D) H5 → compPost (model X.prog X.w) X.A (fun _ _ => False) none (EP X pins σ Q) (.ref D) s3.heap.objs.size (.ok .next) s5 := fun s5 H5 I5 q5 => by
    obtain ⟨m, hn, _⟩ := I5.loc
    rw [ye] at hn
    refine ⟨m, hn, fun h6 hs6 => ⟨.ref D, H5, ?_, rfl, q5⟩⟩
    have nC : ∀ b o, s3.heap.get? b = some o → b ≠ s3.heap.objs.size := fun b o e => Nat.ne_of_lt (Heap.lt_size e)
    have un := I5.base
    rw [yfs, yex, yH0, ys0] at un
    have hfreeC0 := I5.free
    rw [ye] at hfreeC0
    have hfreeC : H5 s3.heap.objs.size = none := hfreeC0
    refine I3.call' (ch := fp) (s' := { s5 with heap := h6 }) (by have := I5.os; rw [ys0] at this; exact this) ⟨fun b o e n1 n2 n3 => (hs6.2 b (nC b o e)).trans (un.keep b o e n1 n2 n3), fun b o e n1 n2 n3 => ?_, un.free, fun b o e n1 => ?_, un.tups, un.frzs, un.tbls⟩ (fun b u e => ?_) I5.bare fun b hb => ?_
    · obtain ⟨sl, q⟩ := un.slot b o e n1 n2 n3
      exact ⟨sl, (hs6.2 b (nC b o e)).trans q⟩
    · obtain ⟨o', q⟩ := un.there b o e n1
      exact ⟨o', (hs6.2 b (nC b o e)).trans q⟩
    · have hok5 := I5.hok
      rw [yP, yw] at hok5
      refine (hok5 b u e).stay (fun c w' hc q => (hs6.2 c ?_).trans q) (fun _ q => q) fun _ _ q => q
      rintro rfl
      rcases hc with z | z
      · rw [← z, hfreeC] at e; cases e
      · rw [hfreeC] at z; cases z
    · exact ⟨(f3 b hb).2.2.2.1, (f3 b hb).2.1, (f3 b hb).2.2.2.2.1, (f3 b hb).2.2.2.2.2⟩
  have loop : codeAny (model X.prog X.w) X.A (.compLoop (.ListComp elt [⟨tg, iter, ifs, 0⟩] scope pos) 0 (.ref it) (.ref D) (compEnvC scope cl s3.heap.objs.size X.env)) (compPost (model X.prog X.w) X.A (fun _ _ => False) none (EP X pins σ Q) (.ref D) s3.heap.objs.size)
      { s3 with heap := h4, toks := s3.toks + ([] : List (Str × Value)).length } := by
    refine comp_loop (fun k s' => ∃ i ys H', Inv Y [] (capS σ n caps) H' s' ∧ tn i s'.heap ∧ (∀ b ∈ fp, H' b = none) ∧ W i k ys H') ?_ m0 ⟨0, [], H3, J0, tn4 _, fun b hb => (f3 b hb).1, w0⟩
    rintro k s5 ⟨i, ys, H5, I5, st5, fr5, w5⟩
    rcases turn i k ys H5 w5 with ⟨stop, q⟩ | ⟨go, N, hN, step⟩
    · have d := T.done Y yP yw yK yc i [] s5 _ H5 (fun _ _ => False) I5 (stat fr5) st5 stop
      rw [yA] at d
      refine thn d fun r s6 ⟨hr, I6⟩ => ?_
      subst hr
      exact fin s6 H5 I6 q
    · have d := T.item Y yP yw yK yc i [] s5 _ H5 (fun _ _ => False) I5 (stat fr5) st5 go
      rw [yA] at d
      refine thn d fun r s6 ⟨u, hr, h6⟩ => ?_
      subst hr
      refine thn h6 fun _ s7 ⟨x, H7, I7, r7, y7, st7, fr7⟩ => ?_
      have I7' := I7.pinned (stat fr7) (T.obj _ _ st7)
      have a := pg _ s7 _ H7 x u _ I7' r7 (step x H7 y7)
      rw [yP, yw, yA, yx, ye] at a
      refine thn a fun _ s8 ⟨σ8, H8, I8, wk, q8⟩ => ?_
      have b := pifs _ s8 σ8 H8 _ I8 q8
      rw [yP, yw, yA, yx, ye] at b
      have again : ∀ {s9 : Shared} {ys9 : List V} {H9 : Hp}, Inv Y ([] ++ pinsAt fp s7.heap) σ8 H9 s9 → N ys9 H9 → ∃ m, m < k ∧ ∃ i ys H', Inv Y [] (capS σ n caps) H' s9 ∧ tn i s9.heap ∧ (∀ b ∈ fp, H' b = none) ∧ W i m ys H' := fun {s9 ys9 H9} I9 n9 => by
        obtain ⟨m', hm, w9⟩ := hN ys9 H9 n9
        have hp : ∀ b ∈ fp, ∀ o, s7.heap.get? b = some o → s9.heap.get? b = some o ∧ H9 b = none := fun b hb o e =>
          ⟨(I9.pin (b, o) (List.mem_append_right _ (List.mem_append_right _ (mem_pinsAt hb e)))).1, (I9.pin (b, o) (List.mem_append_right _ (List.mem_append_right _ (mem_pinsAt hb e)))).2.1⟩
        refine ⟨m', hm, i + 1, ys9, H9, I9.unpinned.weak wk.1 wk.2, T.keep _ _ _ st7 fun b hb o e => (hp b hb o e).1, fun b hb => ?_, w9⟩
        obtain ⟨o, e, _⟩ := T.obj _ _ st7 b hb
        exact (hp b hb o e).2
      refine thn b fun ok s9 ⟨H9, I9, q9⟩ => ?_
      cases ok with
      | false =>
        rw [if_neg Bool.false_ne_true] at q9 ⊢
        exact again I9 q9
      | true =>
        rw [if_pos rfl] at q9 ⊢
        have c := pelt _ s9 σ8 H9 _ I9 q9
        rw [yP, yw, yA, yx, ye] at c
        refine thn c fun v s10 ⟨y, H10, I10, r10, zs, ez, lz, n10⟩ => ?_
        have d := mt_append (X := Y) _ s10 σ8 H10 (.ref D) [y] (.ref D) [v] (fun _ H' => N (zs ++ [y]) H') I10 rfl (.cons r10 .nil) ⟨D, zs, y, rfl, rfl, ez, lz, n10⟩
        rw [yP, yw, yA, yx] at d
        exact thn d fun _ s11 ⟨_, H11, I11, _, q11⟩ => again I11 q11
  refine codeAny_compStart_list loop ?_
  exact T.self X.A 0 _ _ _ (tn4 _) loop
end L3
set_option Elab.async false
set_option linter.all false
set_option maxRecDepth 100000
set_option maxHeartbeats 4000000
namespace L3
open PySem PySem.Spec PyProof.Rows L2
structure Ylds (K : PySem.W.Frag) (J : It) (H1 : Hp) (ds : List D) : Prop where
  go : ∀ i H', Tk H1 H' → i < ds.length → J.go i H'
  yld : ∀ i H' x H'', Tk H1 H' → i < ds.length → J.yld i H' x H'' → Tk H' H'' ∧ (∃ d, ds[i]? = some d ∧ Dp K H'' x d) ∧ ∀ μ, MuOk K H' μ → MuOk K H'' μ
  stop : ∀ i H', Tk H1 H' → ds.length ≤ i → J.stop i H'
def SimI (K : PySem.W.Frag) (wi : TI) (It' : ATr) : Prop := ∀ σ H ρ μ (Q : List D → Mu → Prop) (R : It → Hp → Prop), Rl K σ H ρ μ → It' ρ μ Q → (∀ J H1 ds μ1, Tk H H1 → MuOk K H1 μ1 → Ylds K J H1 ds → Q ds μ1 → R J H1) → wi σ H R
structure LI (X : Cx) (tg iter : Expr) (It' : ATr) : Prop where
  ex : ∃ wi, PI X tg iter wi ∧ SimI X.K wi It'
section
variable {X : Cx} {tg a b c e elt iter : Expr} {Ta Tb Te : ETr} {Tt : TTr} {pos : Pos} {It' : ATr} {G : GTr}
theorem ylds_tup {K : PySem.W.Frag} {H : Hp} {p : Addr} {xs : List V} {ds : List D} (q : SqT K H p xs) (l : DpL K H xs ds) : Ylds K (Itt K p) H ds where
  go := fun i H' t hi => by
    have hl := l.length
    exact ⟨xs, xs[i], t.sqT q, by simp [show i < xs.length by omega]⟩
  yld := fun i H' x H'' t hi ⟨e, y⟩ => by
    subst e
    have ex := y xs (t.sqT q)
    obtain ⟨d, ed, p⟩ := l.get' ex
    exact ⟨.refl _, ⟨d, ed, p.mono t⟩, fun _ m => m⟩
  stop := fun i H' t hi => ⟨xs, t.sqT q, by rw [l.length]; exact hi⟩
theorem ylds_ls {K : PySem.W.Frag} {H : Hp} {p : Addr} {xs : List V} {ds : List D} (q : SqF K H p xs) (l : DpL K H xs ds) : Ylds K (Itl K p) H ds where
  go := fun i H' t hi => by
    have hl := l.length
    exact ⟨xs, xs[i], (t.sqF q).sq, by simp [show i < xs.length by omega]⟩
  yld := fun i H' x H'' t hi ⟨e, y⟩ => by
    subst e
    have ex := y xs (t.sqF q).sq
    obtain ⟨d, ed, p⟩ := l.get' ex
    exact ⟨.refl _, ⟨d, ed, p.mono t⟩, fun _ m => m⟩
  stop := fun i H' t hi => ⟨xs, (t.sqF q).sq, by rw [l.length]; exact hi⟩
theorem rangeD_len (lo : Int) (n : Nat) : (rangeD lo n).length = n := by unfold rangeD; simp
theorem ylds_rng {K : PySem.W.Frag} {H : Hp} (lo : Int) (n : Nat) : Ylds K (Itr lo n) H (rangeD lo n) where
  go := fun i H' t hi => by rw [rangeD_len] at hi; exact hi
  yld := fun i H' x H'' t hi ⟨e, y⟩ => by
    rw [rangeD_len] at hi
    subst e y
    exact ⟨.refl _, ⟨.int (lo + i), by unfold rangeD; simp [hi], .int _⟩, fun _ m => m⟩
  stop := fun i H' t hi => by rw [rangeD_len] at hi; exact hi
def ITup (a : ETr) : ATr := fun ρ μ Q => a ρ μ fun x μ1 => match x with
  | .tup ds => Q ds μ1
  | _ => False
def ILs (a : ETr) : ATr := fun ρ μ Q => a ρ μ fun x μ1 => match x with
  | .ls ds => Q ds μ1
  | _ => False
theorem li_range1 {rp rpos : Pos} (hg : Gl X "range") (hm : X.mg "range" = none) (ha : LE X a Ta) (hs : starEach [a] X.env = [(false, eval a X.env)] := by rfl) : LI X tg (.Call (.Name "range" rp) [a] [] rpos) (IRange1 Ta) := by
  obtain ⟨ta, pa, sa⟩ := ha.ex
  refine ⟨_, pi_range1 hg hm (pa_cons pa pa_nil hs) hs, fun σ H ρ μ Q R rl h k => sa σ H ρ μ _ _ rl h fun x H1 d μ1 t1 m1 p1 h1 => ?_⟩
  cases p1 with
  | int j =>
    obtain ⟨⟨h2, h3⟩, h4⟩ := h1
    exact ⟨j, rfl, by simpa using h2, by simpa using h3, k _ H1 _ μ1 t1 m1 (ylds_rng 0 _) h4⟩
  | _ => exact False.elim h1
theorem for_y {t1 : TS} {T1 : STr} {g : TG} {E : En} {E' : Ends} {K : PySem.W.Frag} {H0 H1 : Hp} {J : It} {ds : List D} (sg : SimG K g G) (s1 : SimS K t1 T1) (k : EnOk K H0 E E') (Y : Ylds K J H1 ds) {σ : L2.St} {ρ : ST} {μ : Mu} (t0 : Tk H0 H1) (rl : Rl K σ H1 ρ μ) (h : forR G T1 E ds ρ μ) :
    ∃ W : Nat → Nat → L2.St → Hp → Prop, (∃ m, W 0 m σ H1) ∧ ∀ i m σ H, W i m σ H →
      (J.stop i H ∧ E'.nx σ H) ∨ (J.go i H ∧ ∃ N : L2.St → Hp → Prop, (∀ σ' H', N σ' H' → ∃ m', m' < m ∧ W (i + 1) m' σ' H') ∧ ∀ x H', J.yld i H x H' → g x σ H' fun σ2 H2 => t1 { E' with nx := N, ct := N, bk := E'.nx } σ2 H2) := by
  refine ⟨fun i m σ' H' => m = ds.length - i ∧ i ≤ ds.length ∧ Tk H1 H' ∧ ∃ ρ' μ', Rl K σ' H' ρ' μ' ∧ forR G T1 E (ds.drop i) ρ' μ', ⟨ds.length, by simp, Nat.zero_le _, .refl _, ρ, μ, rl, by simpa using h⟩, ?_⟩
  rintro i m σ1 H2 ⟨rfl, hi, t12, ρ1, μ1, r1, h1⟩
  by_cases hlt : i < ds.length
  · refine .inr ⟨Y.go i H2 t12 hlt, fun σ' H' => Tk H1 H' ∧ ∃ ρ' μ', Rl K σ' H' ρ' μ' ∧ forR G T1 E (ds.drop (i + 1)) ρ' μ', fun σ' H' ⟨t', ρ', μ', r', h'⟩ => ⟨ds.length - (i + 1), by omega, rfl, hlt, t', ρ', μ', r', h'⟩, fun x H3 y => ?_⟩
    obtain ⟨t23, ⟨d, ed, pd⟩, mk⟩ := Y.yld i H2 x H3 t12 hlt y
    have e : ds.drop i = d :: ds.drop (i + 1) := by
      refine (List.drop_eq_getElem_cons hlt).trans ?_
      congr 1
      rw [List.getElem?_eq_getElem hlt] at ed
      exact Option.some.inj ed
    rw [e] at h1
    have t13 := t12.trans t23
    refine sg σ1 H3 ρ1 μ1 _ _ _ _ (r1.go t23 (mk _ r1.mu)) pd h1 fun σ4 H4 ρ4 μ4 t4 r4 h4 => ?_
    have t14 := t13.trans t4
    have t04 := t0.trans t14
    exact s1 σ4 H4 ρ4 μ4 _ _ r4 h4 ⟨fun σ' H' ρ' μ' t' r' q => ⟨t14.trans t', ρ', μ', r', q⟩, (k.go t04).rt, (k.go t04).nx, fun σ' H' ρ' μ' t' r' q => ⟨t14.trans t', ρ', μ', r', q⟩⟩
  · have e : i = ds.length := by omega
    subst e
    rw [List.drop_length] at h1
    exact .inl ⟨Y.stop _ H2 t12 (Nat.le_refl _), k.nx _ _ _ _ (t0.trans t12) r1 h1⟩
theorem ls_for {body : List Stmt} {T1 : STr} (hp : PassesOwn (model X.prog X.w) X.A X.env X.xe) (hc : X.calm = true) (hi : LI X tg iter It') (hG : LG X tg G) (hb : LSs X body T1) (hf : ∀ x, foldedSetIterable iter X.env x = pure x := by intro _; rfl) :
    LS X (.For tg iter body [] pos) (TFor It' G T1) := by
  obtain ⟨wi, pi, si⟩ := hi.ex
  obtain ⟨g, pg, sg⟩ := hG.ex
  obtain ⟨t1, p1, s1⟩ := hb.ex
  exact ⟨_, ps_for hp hc pi pg p1 hf, fun σ H ρ μ E E' rl h k => si σ H ρ μ _ _ rl h fun J H1 ds μ1 t1' m1 Y h1 => for_y sg s1 k Y t1' (rl.go t1' m1) h1⟩
def liftE (K : PySem.W.Frag) (T : ETr) : TE := fun σ H Q' => ∃ ρ μ Q, Rl K σ H ρ μ ∧ T ρ μ Q ∧ VPost K H Q Q'
def liftT (K : PySem.W.Frag) (T : TTr) : TT := fun σ H Q' => ∃ ρ μ Q, Rl K σ H ρ μ ∧ T ρ μ Q ∧ ∀ b H' μ', Tk H H' → MuOk K H' μ' → Q b μ' → Q' b H'
abbrev GPost (K : PySem.W.Frag) (n : Nat) (σ : L2.St) (H : Hp) (k : ST → Mu → Prop) (k' : L2.St → Hp → Prop) : Prop := ∀ σ' H' ρ' μ', Tk H H' → Rl K σ' H' ρ' μ' → (σ'.length = σ.length ∧ ∀ j, n ≤ j → σ'[j]? = σ[j]?) → k ρ' μ' → k' σ' H'
def liftG (K : PySem.W.Frag) (n : Nat) (G : GTr) : TG := fun v σ H k' => ∃ ρ μ d k, Rl K σ H ρ μ ∧ Dp K H v d ∧ G d ρ μ k ∧ GPost K n σ H k k'
theorem LE.pe (h : LE X e Te) : PE X e (liftE X.K Te) := by
  obtain ⟨t, p, s⟩ := h.ex
  exact fun pins st σ H Q I ⟨ρ, μ, Q0, rl, hT, k⟩ => p pins st σ H Q I (s σ H ρ μ Q0 Q rl hT k)
structure LIfs (X : Cx) (ifs : List Expr) (Tt : TTr) : Prop where
  pe : PIfs X ifs (liftT X.K Tt)
theorem lif_nil : LIfs X [] TYes := ⟨fun pins s σ H Q I ⟨ρ, μ, Q0, rl, hT, k⟩ => pif_nil pins s σ H Q I (k true H μ (.refl H) rl.mu hT)⟩
structure LGc (X : Cx) (n : Nat) (tg : Expr) (G : GTr) : Prop where
  pe : PG X tg (liftG X.K n G)
theorem lgc_name {x : Str} {n : Nat} (i : Nat) (hN : X.N.Nodup) (hin : i < n := by decide) (hi : X.N[i]? = some x := by rfl) (hx : Loc X.env.scope x := by first | exact Or.inl rfl | exact Or.inr rfl) (hf : X.fn x = true ∨ X.env.scope.names.lookup x = some .local := by first | exact .inr rfl | exact .inl rfl | assumption) : LGc X n (.Name x pos) (GName i) :=
  ⟨fun pins s σ H v u k' I r ⟨ρ, μ, d, k, rl, p, h, post⟩ => pg_name hN hi hx hf pins s σ H v u k' I r (post _ H _ μ (.refl H) (rl.set p i) ⟨by simp, fun j hj => by rw [List.getElem?_set_ne (by omega)]⟩ h)⟩
theorem capS_rl {K : PySem.W.Frag} {σ : L2.St} {H : Hp} {ρ : ST} {μ : Mu} (rl : Rl K σ H ρ μ) (n : Nat) (caps : List Nat) : Rl K (capS σ n caps) H (capD ρ n caps) μ := by
  refine ⟨by unfold capS capD; simp, fun i d e => ?_, rl.mu⟩
  have gen : ∀ (n i : Nat), lk (List.replicate n none ++ caps.map (lk ρ)) i = some d → ∃ j, i = n + j ∧ ∃ k, caps[j]? = some k ∧ lk ρ k = some d := by
    intro n
    induction n with
    | zero =>
      intro i h
      have h' : lk (caps.map (lk ρ)) i = some d := by simpa using h
      have g2 : ∀ (cs : List Nat) (i : Nat), lk (cs.map (lk ρ)) i = some d → ∃ k, cs[i]? = some k ∧ lk ρ k = some d := by
        intro cs
        induction cs with
        | nil => intro i h; cases i <;> cases h
        | cons c r ih => intro i h; cases i with
          | zero => exact ⟨c, rfl, h⟩
          | succ i => simpa using ih i h
      exact ⟨i, by omega, g2 caps i h'⟩
    | succ n ih =>
      intro i h
      cases i with
      | zero => cases h
      | succ i =>
        obtain ⟨j, rfl, k, h1, h2⟩ := ih i h
        exact ⟨j, by omega, k, h1, h2⟩
  obtain ⟨j, rfl, k, h1, h2⟩ := gen n i e
  obtain ⟨v, h3, h4⟩ := rl.loc k d h2
  refine ⟨v, ?_, h4⟩
  unfold capS
  rw [List.getElem?_append_right (by simp)]
  simp [h1, h3]
theorem le_comp {ifs : List Expr} {scope : Scope} {Nc : List Str} {n : Nat} {caps : List Nat} (hxe : X.xe = fun _ _ => False) (hcalm : X.calm = true) (hi : LI X tg iter It')
    (hbody : ∀ (cl : List (Str × Addr)) (C : Addr) (s₀ : Shared) (H₀ : Hp) (ex : List Addr), LGc (compCx X scope Nc cl C s₀ H₀ ex) n tg G ∧ LIfs (compCx X scope Nc cl C s₀ H₀ ex) ifs Tt ∧ LE (compCx X scope Nc cl C s₀ H₀ ex) elt Te)
    (hfree : ∀ y ∈ scope.names, y.2 = .free → X.env.kindOf y.1 = some .cell) (hcell : ∀ y ∈ scope.names, y.2 ≠ .cell) (hkind : scope.kind = .function)
    (hnames : ∀ y ∈ scope.names, y.2 = .local → scope.names.lookup y.1 = some .local) (hlen : Nc.length = n + caps.length)
    (hcap : ∀ (j k : Nat), caps[j]? = some k → ∃ x, Nc[n + j]? = some x ∧ X.N[k]? = some x ∧ scope.names.lookup x = some .free)
    (hs : ∀ x, foldedSetIterable iter X.env x = pure x := by intro _; rfl) :
    LE X (.ListComp elt [⟨tg, iter, ifs, 0⟩] scope pos) (TComp It' G Tt Te n caps) := by
  obtain ⟨wi, pi, si⟩ := hi.ex
  refine ⟨_, pe_frz (pe_comp (g := liftG X.K n G) (tt := liftT X.K Tt) (te := liftE X.K Te) hxe hcalm pi (fun cl C s₀ H₀ ex => let ⟨h1, h2, h3⟩ := hbody cl C s₀ H₀ ex; ⟨h1.pe, h2.pe, h3.pe⟩) hfree hcell hkind hnames hlen hcap hs), ?_⟩
  intro σ H ρ μ Q Q' rl h k
  refine si σ H ρ μ _ _ rl h fun J H1 ds μ1 t1 m1 Y h1 D hD => ?_
  have hp := h1 D (m1.free hD)
  have tD : Tk H1 (L2.upd H1 D (.lst [])) := .new hD
  have mD : MuOk X.K (L2.upd H1 D (.lst [])) (up μ1 D (.lst [])) := fun a o e => by
    by_cases ha : a = D
    · subst ha
      rw [up_same] at e; cases e
      exact ⟨[], upd_same, .nil⟩
    · rw [up_ne ha] at e
      exact mu_new m1 hD a o e
  refine ⟨fun i m ys H2 => m = ds.length - i ∧ i ≤ ds.length ∧ Tk H1 H2 ∧ ∃ μ2, MuOk X.K H2 μ2 ∧ compR D G Tt Te (capD ρ n caps) (fun μ' => kL μ' D fun zs => Q (.ls zs) (dn μ' D)) (ds.drop i) μ2,
    ⟨ds.length, by simp, Nat.zero_le _, tD, _, mD, by simpa using hp⟩, ?_⟩
  rintro i m ys H2 ⟨rfl, hi, t12, μ2, m2, h2⟩
  by_cases hlt : i < ds.length
  · refine .inr ⟨Y.go i H2 t12 hlt, fun ys' H' => Tk H1 H' ∧ ∃ μ', MuOk X.K H' μ' ∧ compR D G Tt Te (capD ρ n caps) (fun μ' => kL μ' D fun zs => Q (.ls zs) (dn μ' D)) (ds.drop (i + 1)) μ', fun ys' H' ⟨t', μ', m', h'⟩ => ⟨ds.length - (i + 1), by omega, rfl, hlt, t', μ', m', h'⟩, fun x H3 y => ?_⟩
    obtain ⟨t23, ⟨d, ed, pd⟩, mk⟩ := Y.yld i H2 x H3 t12 hlt y
    have e : ds.drop i = d :: ds.drop (i + 1) := by
      refine (List.drop_eq_getElem_cons hlt).trans ?_
      congr 1
      rw [List.getElem?_eq_getElem hlt] at ed
      exact Option.some.inj ed
    rw [e] at h2
    have t13 := t12.trans t23
    have r3 : Rl X.K (capS σ n caps) H3 (capD ρ n caps) μ2 := capS_rl (rl.go (t1.trans t13) (mk _ m2)) n caps
    refine ⟨_, _, d, _, r3, pd, h2, fun σ4 H4 ρ4 μ4 t4 r4 kp h4 => ⟨⟨kp.1.symm, fun j v ej => ?_⟩, _, _, _, r4, h4, fun b H5 μ5 t5 m5 h5 => ?_⟩⟩
    · by_cases hj : n ≤ j
      · rw [kp.2 j hj]; exact ej
      · obtain ⟨j', k', e1, _⟩ := capS_get ej
        omega
    · have t15 := t13.trans (t4.trans t5)
      cases b with
      | false => exact iteF ⟨t15, μ5, m5, h5⟩
      | true =>
        refine iteT ⟨_, _, _, r4.go t5 m5, h5, fun v H6 d6 μ6 t6 m6 p6 h6 => ?_⟩
        obtain ⟨zs, ez, lz, h7⟩ := kL_get h6
        obtain ⟨xs, ex, lx⟩ := m6 D _ ez
        have t67 : Tk H6 (L2.upd H6 D (.lst (xs ++ [v]))) := .upd (fun ys z => by rw [ex] at z; cases z) fun o' u z => by rw [ex] at z; cases z
        refine ⟨xs, ex, by rw [lx.length]; exact Nat.lt_of_lt_of_le lz (by decide), (t15.trans t6).trans t67, up μ6 D (.lst (zs ++ [d6])), fun a o ea => ?_, h7⟩
        by_cases ha : a = D
        · subst ha
          rw [up_same] at ea; cases ea
          exact ⟨_, upd_same, (lx.append (.cons p6 .nil)).mono t67⟩
        · rw [up_ne ha] at ea
          exact (m6 a _ ea).ne t67 ha
  · have e : i = ds.length := by omega
    subst e
    rw [List.drop_length] at h2
    obtain ⟨zs, ez, hq⟩ := kL_get (show kL μ2 D fun zs => Q (.ls zs) (dn μ2 D) from h2)
    obtain ⟨xs, ex, lx⟩ := m2 D _ ez
    refine .inl ⟨Y.stop _ H2 t12 (Nat.le_refl _), D, xs, rfl, ex, fun o => ?_⟩
    have t2f : Tk H2 (L2.upd H2 D (.frz o (.lst xs))) := .upd (fun ys z => by rw [ex] at z; cases z) fun o' u z => by rw [ex] at z; cases z
    refine k _ _ _ (dn μ2 D) ((t1.trans t12).trans t2f) (fun a o' ea => ?_) (.ls (.inl ⟨o, upd_same⟩) (lx.mono t2f)) hq
    have ha : a ≠ D := fun z => by subst z; unfold dn at ea; rw [if_pos rfl] at ea; cases ea
    have ea' : μ2 a = some o' := by unfold dn at ea; rw [if_neg ha] at ea; exact ea
    exact (m2 a _ ea').ne t2f ha
end
end L3
set_option Elab.async false
set_option linter.all false
set_option maxRecDepth 100000
set_option maxHeartbeats 4000000
namespace L3
open PySem PySem.Spec PyProof.Rows L2
def compOk (fn : List (Str × NameKind)) (XN : List Str) (sc : Scope) (Nc : List Str) (n : Nat) (caps : List Nat) : Bool :=
  sc.names.all (fun y => (y.2 != .free || fn.lookup y.1 == some .cell) && y.2 != .cell && (y.2 != .local || sc.names.lookup y.1 == some .local)) && sc.kind == .function && Nc.length == n + caps.length &&
  (List.range caps.length).all fun j => match caps[j]? with
    | some k => (match XN[k]? with
      | some x => Nc[n + j]? == some x && sc.names.lookup x == some .free
      | none => false)
    | none => false
section
variable {X : Cx} {tg a b c e elt iter : Expr} {Ta Tb Te : ETr} {Tt : TTr} {pos : Pos} {It' : ATr} {G : GTr}
theorem le_compC {ifs : List Expr} {scope fsc : Scope} (XN Nc : List Str) (n : Nat) (caps : List Nat) (hxe : X.xe = fun _ _ => False) (hcalm : X.calm = true) (hi : LI X tg iter It')
    (hbody : ∀ (cl : List (Str × Addr)) (C : Addr) (s₀ : Shared) (H₀ : Hp) (ex : List Addr), LGc (compCx X scope Nc cl C s₀ H₀ ex) n tg G ∧ LIfs (compCx X scope Nc cl C s₀ H₀ ex) ifs Tt ∧ LE (compCx X scope Nc cl C s₀ H₀ ex) elt Te)
    (hsc : X.env.scope = fsc) (hXN : X.N = XN) (hok : compOk fsc.names XN scope Nc n caps = true)
    (hs : ∀ x, foldedSetIterable iter X.env x = pure x := by intro _; rfl) :
    LE X (.ListComp elt [⟨tg, iter, ifs, 0⟩] scope pos) (TComp It' G Tt Te n caps) := by
  unfold compOk at hok
  simp only [Bool.and_eq_true, List.all_eq_true] at hok
  obtain ⟨⟨⟨h1, h2⟩, h3⟩, h4⟩ := hok
  refine le_comp hxe hcalm hi hbody (fun y hy hf => ?_) (fun y hy hf => ?_) (by simpa using h2) (fun y hy hf => ?_) (by simpa using h3) (fun j k hj => ?_) hs
  · have := (h1 y hy).1.1
    show X.env.scope.names.lookup y.1 = _
    rw [hsc]
    simpa [hf] using this
  · have := (h1 y hy).1.2
    simp [hf] at this
  · have := (h1 y hy).2
    simpa [hf] using this
  · have hl : j < caps.length := (List.getElem?_eq_some_iff.mp hj).1
    have := h4 j (List.mem_range.mpr hl)
    rw [hj] at this
    dsimp only at this
    rw [hXN]
    cases e : XN[k]? with
    | none => rw [e] at this; cases this
    | some x =>
      rw [e] at this
      dsimp only at this
      rw [Bool.and_eq_true] at this
      exact ⟨x, by simpa using this.1, rfl, by simpa using this.2⟩
end
end L3
set_option Elab.async false
set_option linter.all false
set_option maxRecDepth 100000
set_option maxHeartbeats 4000000
namespace L3
open PySem PySem.Spec PyProof.Rows L2
def GV (K : PySem.W.Frag) (mg : Str → Option Value) (x : Str) (d : D) : Prop := ∃ u v, mg x = some u ∧ RelV v u ∧ ∀ H, Dp K H v d
theorem le_gv {X : Cx} {x : Str} {pos : Pos} {d : D} (hg : Gl X x) (h : GV X.K X.mg x d) (hd : (x == ("__debug__" : Str)) = false := by decide) : LE X (.Name x pos) (TC d) := by
  obtain ⟨u, v, hm, r, p⟩ := h
  exact ⟨_, pe_glob hg hm r hd, fun σ H ρ μ Q Q' rl h k => k v H d μ (.refl H) rl.mu (p H) h⟩
section
variable {K : PySem.W.Frag} {h : Heap} {mg : Str → Option Value} {x : Str}
theorem gv_tup {p : Addr} {o : Obj} {its : Array Value} {n : Nat} {xs : List V} {ds : List D} (X : K.In h) (G : h.Ns mainGlobals mg) (a : PySem.W.nsIn K mainGlobals x = some (some (.ref p))) (l : K.lookup p = some o) (c : o.cls = .type "tuple") (d : o.data = .seq its n)
    (z : its.size ≤ sizeLine) (r : Vals xs its.toList) (q : ∀ H, DpL K H xs ds) : GV K mg x (.tup ds) := ⟨_, .ref p, PySem.W.mg_of X G a, rfl, fun H => .tup (.inr ⟨o, its, n, l, c, d, z, r⟩) (q H)⟩
end
def setAll : ST → List Nat → List D → ST
  | ρ, i :: is, d :: ds => setAll (ρ.set i (some d)) is ds
  | ρ, _, _ => ρ
def GTup (is : List Nat) : GTr := fun d ρ μ k => match d with
  | .tup ds => ds.length = is.length ∧ k (setAll ρ is ds) μ
  | _ => False
def SimGs (K : PySem.W.Frag) (t : TGs) (is : List Nat) : Prop := ∀ σ H ρ μ vs ds (k : ST → Mu → Prop) (k' : L2.St → Hp → Prop), Rl K σ H ρ μ → DpL K H vs ds → ds.length = is.length → k (setAll ρ is ds) μ → SPost K H k k' → t vs σ H k'
structure LGs (X : Cx) (es : List Expr) (is : List Nat) : Prop where
  ex : ∃ t, PGs X es t ∧ SimGs X.K t is
section
variable {X : Cx} {e tg : Expr} {es : List Expr} {is : List Nat} {pos : Pos} {x : Str} {Ta : ETr} {G : GTr}
theorem lgs_nil : LGs X [] [] := ⟨_, pgs_nil, fun σ H ρ μ vs ds k k' rl l hl h q => by
  cases ds with
  | nil => cases l; exact ⟨rfl, q _ _ _ _ (.refl H) rl h⟩
  | cons => cases hl⟩
theorem lgs_cons (i : Nat) (hN : X.N.Nodup) (h2 : LGs X es is) (hi : X.N[i]? = some x := by rfl) (hx : Loc X.env.scope x := by first | exact Or.inl rfl | exact Or.inr rfl) (hf : X.fn x = true ∨ X.env.scope.names.lookup x = some .local := by first | exact .inl rfl | exact .inr rfl | assumption)
    (hs : (assignEach (.Name x pos :: es) X.env).map (·.2) = assign (.Name x pos) X.env :: (assignEach es X.env).map (·.2) := by rfl) : LGs X (.Name x pos :: es) (i :: is) := by
  obtain ⟨t, pt, st⟩ := h2.ex
  refine ⟨_, pgs_cons (pg_name hN hi hx hf) pt hs, fun σ H ρ μ vs ds k k' rl l hl h q => ?_⟩
  cases l with
  | nil => cases hl
  | @cons v d vs ds p l => exact ⟨v, vs, rfl, st _ H _ μ vs ds k k' (rl.set p i) l (by simpa using hl) h q⟩
theorem lg_tup {k : Nat} (hc : X.calm = true) (h : LGs X es is) (hn : (assignEach es X.env).length = is.length := by rfl) (hst : (assignEach es X.env).findIdx? (·.1) = none := by rfl) : LG X (.Tuple es k pos) (GTup is) := by
  obtain ⟨t, pt, st⟩ := h.ex
  refine ⟨_, pg_tup hc pt hn hst, fun σ H ρ μ v d k k' rl p h q => ?_⟩
  cases p with
  | @tup a xs ds sq l => exact ⟨a, xs, rfl, sq, by rw [l.length]; exact h.1, st σ H ρ μ xs ds k k' rl l h.1 h.2 q⟩
  | _ => exact False.elim h
theorem ls_asg (he : LE X e Ta) (hG : LG X tg G) (hs : swapsWithSole [tg] e pos.line X.env = pure false := by rfl) (hw : swappedStores [tg] e X.env = pure none := by rfl)
    (h1 : (assignEach [tg] X.env).map (·.2) = [assign tg X.env] := by rfl) : LS X (.Assign [tg] e pos) (TAsg Ta G) := by
  obtain ⟨ta, pa, sa⟩ := he.ex
  obtain ⟨g, pg, sg⟩ := hG.ex
  exact ⟨_, ps_asg pa pg hs hw h1, fun σ H ρ μ E E' rl h k => sa σ H ρ μ _ _ rl h fun v H' d μ' t' m' p' h' => sg σ H' ρ μ' v d _ _ (rl.go t' m') p' h' (k.go t').nx⟩
end
end L3
set_option Elab.async false
set_option linter.all false
set_option maxRecDepth 100000
set_option maxHeartbeats 4000000
namespace L3
open PySem PySem.Spec PyProof.Rows L2
def ItAt (tp : Bool) (h : Heap) (it a : Addr) (i : Nat) : Prop := match tp with
  | true => h.IsTupleIter it a i
  | false => h.IsListIter it a i
def SeAt (tp : Bool) (h : Heap) (a : Addr) (xs : Array Value) : Prop := match tp with
  | true => h.IsTuple a xs
  | false => h.IsList a xs
theorem ItAt.at {tp : Bool} {h g : Heap} {it a : Addr} {i : Nat} (x : ItAt tp h it a i) (k : ∀ o, h.get? it = some o → g.get? it = some o) : ItAt tp g it a i := by
  cases tp with
  | true => obtain ⟨o, e, r⟩ := x; exact ⟨o, k o e, r⟩
  | false => obtain ⟨o, e, r⟩ := x; exact ⟨o, k o e, r⟩
theorem SeAt.at {tp : Bool} {h g : Heap} {a : Addr} {xs : Array Value} (x : SeAt tp h a xs) (k : ∀ o, h.get? a = some o → g.get? a = some o) : SeAt tp g a xs := by
  cases tp with
  | true => obtain ⟨o, e, r⟩ := x; exact ⟨o, k o e, r⟩
  | false => obtain ⟨o, e, r⟩ := x; exact ⟨o, k o e, r⟩
theorem ItAt.ex {tp : Bool} {h : Heap} {it a : Addr} {i : Nat} (x : ItAt tp h it a i) : ∃ o, h.get? it = some o ∧ ∃ vs, o.data = .fields vs := by
  cases tp with
  | true => obtain ⟨o, e, _, d⟩ := x; exact ⟨o, e, _, d⟩
  | false => obtain ⟨o, e, _, d⟩ := x; exact ⟨o, e, _, d⟩
section
variable {prog : Program} {w : World} {A : Around} {E : Value → Shared → Prop} {s : Shared}
end
def Sq (tp : Bool) (K : PySem.W.Frag) (H : Hp) (a : Addr) (xs : List V) : Prop := match tp with
  | true => SqT K H a xs
  | false => SqF K H a xs
theorem Inv.sq {X : Cx} {pins : List (Addr × Obj)} {σ : L2.St} {H : Hp} {s : Shared} {tp : Bool} {a : Addr} {xs : List V} (I : Inv X pins σ H s) (h : Sq tp X.K H a xs) : ∃ its : List Value, Vals xs its ∧ SeAt tp s.heap a its.toArray := by
  cases tp with
  | true => obtain ⟨its, r, p, _⟩ := I.tuple h; exact ⟨its, r, p⟩
  | false =>
    obtain ⟨its, r, ⟨o, n, e1, e2, _, e3⟩, _⟩ := I.list (SqF.sq h)
    exact ⟨its, r, o, e1, e2, n, e3⟩
section
variable {X : Cx} {ea eb : Expr} {es : List Expr} {ek : Nat} {ep p pos : Pos}
def kQ (tp : Bool) (x : D) (f : List D → Prop) : Prop := match tp, x with
  | true, .tup ds => f ds
  | false, .ls ds => f ds
  | _, _ => False
def IZip (ta tb : Bool) (t : ATr) : ATr := fun ρ μ Q => t ρ μ fun vs μ1 => k2 vs fun x y => kQ ta x fun ds => kQ tb y fun es => Q (List.zipWith (fun d e => .tup [d, e]) ds es) μ1
theorem Tk.sq {K : PySem.W.Frag} {H H' : Hp} {tp : Bool} {a : Addr} {xs : List V} (t : Tk H H') (h : Sq tp K H a xs) : Sq tp K H' a xs := by
  cases tp with
  | true => exact t.sqT h
  | false => exact t.sqF h
end
end L3
set_option Elab.async false
set_option linter.all false
set_option maxRecDepth 100000
set_option maxHeartbeats 4000000
namespace L3
open PySem PySem.Spec PyProof.Rows L2
def kObj (x : D) (f : Addr → Prop) : Prop := match x with
  | .obj a => f a
  | _ => False
theorem kObj_o (a : Addr) (f) : kObj (.obj a) f = f a := rfl
section
variable {X : Cx} {o a b c e : Expr} {To Ta Tb Tc Te T T' : ETr} {pos : Pos}
theorem tk_lst {H : Hp} {q : Addr} {u : HO} {xs : List V} (ex : H q = some (.lst xs)) : Tk H (L2.upd H q u) :=
  .upd (fun ys z => by rw [ex] at z; cases z) fun o' w z => by rw [ex] at z; cases z
theorem mu_up {K : PySem.W.Frag} {H : Hp} {μ : Mu} {q : Addr} {xs ys : List V} {ds : List D} (m : MuOk K H μ) (ex : H q = some (.lst xs)) (l : DpL K H ys ds) : MuOk K (L2.upd H q (.lst ys)) (up μ q (.lst ds)) := fun z y ez => by
  by_cases zq : z = q
  · subst zq
    rw [up_same] at ez; cases ez
    exact ⟨ys, upd_same, l.mono (tk_lst ex)⟩
  · rw [up_ne zq] at ez
    exact (m z _ ez).ne (tk_lst ex) zq
def TFrz (T : ETr) : ETr := fun ρ μ Q => T ρ μ fun x μ1 => kObj x fun a => kL μ1 a fun ds => Q (.ls ds) (dn μ1 a)
def TApp (To Te : ETr) : ETr := fun ρ μ Q => To ρ μ fun x μ1 => kObj x fun a => kL μ1 a fun _ => Te ρ μ1 fun y μ2 => kL μ2 a fun ds => ds.length < 1000000 ∧ Q .non (up μ2 a (.lst (ds ++ [y])))
theorem le_app {apos cpos : Pos} (ho : LE X o To) (he : LE X e Te)
    (hbase : attributeBase o (Str.ofString "append") X.env (eval o X.env) = eval o X.env := by rfl)
    (hfew : ((backTo cpos (starEach [e] X.env)).all (fun x => !x.1) && (backToKw cpos (keywordEach [] X.env)).all (fun x => x.1.isSome)
      && decide ([e].length + ([] : List Keyword).length + (if ([] : List Keyword).isEmpty then 0 else 1) < 30)) = true := by rfl)
    (hline : (apos.endLine == cpos.line) = true := by rfl) (hs : starEach [e] X.env = (false, eval e X.env) :: starEach [] X.env := by rfl) (hplain : (backTo cpos (starEach [] X.env)).any (·.1) = false := by rfl) :
    LE X (.Call (.Attribute o (Str.ofString "append") apos) [e] [] cpos) (TApp To Te) := by
  obtain ⟨to, po, so⟩ := ho.ex
  obtain ⟨te, pe, se⟩ := he.ex
  refine ⟨_, pe_bm PySem.F.plainAttrs_list PySem.F.slot_list_append PySem.F.type_list_append mt_append po (pa_cons pe pa_nil hs) hbase hfew hline hs hplain, fun σ H ρ μ Q Q' rl h k => so σ H ρ μ _ _ rl h fun x H1 dx μ1 t1 m1 p1 h1 => ?_⟩
  cases p1 with
  | obj q =>
    obtain ⟨ds0, e0, h2⟩ := kL_get h1
    obtain ⟨xs0, ex0, _⟩ := m1 q _ e0
    refine ⟨.inl ⟨rfl, _, SqL.of ex0⟩, se σ H1 ρ μ1 _ _ (rl.go t1 m1) h2 fun y H2 dy μ2 t2 m2 p2 h3 => ?_⟩
    obtain ⟨ds, e1, lz, h4⟩ := kL_get h3
    obtain ⟨xs, ex, l⟩ := m2 q _ e1
    exact ⟨q, xs, y, rfl, rfl, ex, by rw [l.length]; exact Nat.lt_of_lt_of_le lz (by decide), k _ _ _ _ ((t1.trans t2).trans (tk_lst ex)) (mu_up m2 ex (l.append (.cons p2 .nil))) .non h4⟩
  | _ => exact False.elim h1
def bTuple : FSp := fun ds μ Q => match ds with
  | [.tup xs] => Q (.tup xs) μ
  | [.ls xs] => Q (.tup xs) μ
  | [.obj a] => kL μ a fun xs => Q (.tup xs) μ
  | _ => False
theorem sim_tuple {K : PySem.W.Frag} : SimC K (fun xs H Q => ∃ p ys, xs = [.ref p] ∧ ((SqL K H p ys ∧ ∀ l, H l = none → Q (.ref l) (L2.upd H l (.tup ys))) ∨ (SqT K H p ys ∧ Q (.ref p) H))) bTuple := fun H μ xs ds Q Q' m p h k => by
  unfold bTuple at h
  split at h
  · cases p with | cons p1 p2 => cases p2; cases p1 with | tup q l => exact ⟨_, _, rfl, .inr ⟨q, k _ H _ μ (.refl H) m (.tup q l) h⟩⟩
  · cases p with | cons p1 p2 => cases p2; cases p1 with | ls q l => exact ⟨_, _, rfl, .inl ⟨q.sq, fun z hz => k _ _ _ μ (.new hz) (mu_new m hz) (.tup (SqT.of upd_same) (l.mono (.new hz))) h⟩⟩
  · rename_i q
    cases p with | cons p1 p2 =>
    cases p2; cases p1
    obtain ⟨ys, e0, h⟩ := kL_get h
    obtain ⟨xs, ex, l⟩ := m q _ e0
    exact ⟨_, _, rfl, .inl ⟨SqL.of ex, fun z hz => k _ _ _ μ (.new hz) (mu_new m hz) (.tup (SqT.of upd_same) (l.mono (.new hz))) h⟩⟩
  · exact False.elim h
def bListM : FSp := fun ds μ Q => match ds with
  | [.tup xs] => ∀ p, μ p = none → Q (.obj p) (up μ p (.lst xs))
  | [.ls xs] => ∀ p, μ p = none → Q (.obj p) (up μ p (.lst xs))
  | [.obj a] => kL μ a fun xs => ∀ p, μ p = none → Q (.obj p) (up μ p (.lst xs))
  | _ => False
def bListV : FSp := fun ds μ Q => match ds with
  | [.tup xs] => Q (.ls xs) μ
  | [.ls xs] => Q (.ls xs) μ
  | [.obj a] => kL μ a fun xs => Q (.ls xs) μ
  | _ => False
def frzK (Q : VK) : VK := fun v H1 => ∃ a xs, v = .ref a ∧ H1 a = some (.lst xs) ∧ ∀ o, Q v (L2.upd H1 a (.frz o (.lst xs)))
theorem frz_new {K : PySem.W.Frag} {H : Hp} {μ : Mu} {ys : List V} {ds : List D} {Q : DK} {Q' : VK} {z : Addr} (m : MuOk K H μ) (l : DpL K H ys ds) (h : Q (.ls ds) μ) (k : VPost K H Q Q') (hz : H z = none) : frzK Q' (.ref z) (L2.upd H z (.lst ys)) :=
  ⟨z, ys, rfl, upd_same, fun o => by
    have e : L2.upd (L2.upd H z (.lst ys)) z (.frz o (.lst ys)) = L2.upd H z (.frz o (.lst ys)) := upd_upd
    rw [e]
    exact k _ _ _ μ (.new hz) (mu_new m hz) (.ls (.inl ⟨o, upd_same⟩) (l.mono (.new hz))) h⟩
def flatD : D → Bool
  | .non => true
  | .bl _ => true
  | .int _ => true
  | .str _ => true
  | _ => false
def inD (x : D) (xs : List D) : Bool := xs.any fun y => eqD y x
def rIn (neg : Bool) : DR2 := fun x y μ Q => match y with
  | .tup xs => (flatD x = true ∧ xs.all flatD = true) ∧ Q (.bl (if neg then !inD x xs else inD x xs)) μ
  | .ls xs => (flatD x = true ∧ xs.all flatD = true) ∧ Q (.bl (if neg then !inD x xs else inD x xs)) μ
  | .obj a => kL μ a fun xs => (flatD x = true ∧ xs.all flatD = true) ∧ Q (.bl (if neg then !inD x xs else inD x xs)) μ
  | _ => False
end
end L3
set_option Elab.async false
set_option linter.all false
set_option maxRecDepth 100000
set_option maxHeartbeats 4000000
namespace L3
open PySem PySem.Spec PyProof.Rows L2
section
variable {X : Cx} {a b e : Expr} {Ta Tb T : ETr} {pos : Pos}
def tFrzO (t : TE) : TE := fun σ H Q => t σ H fun v H1 => Q v H1 ∨ frzK Q v H1
theorem pe_frzO {t : TE} (h : PE X e t) : PE X e (tFrzO t) := by
  have g : PE X e (fun σ H Q => ∃ P : VK, tFrz t σ H P ∧ ∀ v H', P v H' → Q v H') := fun pins s σ H Q I ⟨P, hP, k⟩ =>
    thn (pe_frz h pins s σ H P I hP) fun u s1 ⟨v, H1, I1, r, q⟩ => ⟨v, H1, I1, r, k _ _ q⟩
  intro pins s σ H Q I hh
  refine thn (h pins s σ H _ I hh) fun u s1 ⟨v, H1, I1, r, q⟩ => ?_
  rcases q with q | ⟨c, xs, rfl, ec, q⟩
  · exact ⟨v, H1, I1, r, q⟩
  · have hz := I1.hok c _ ec
    obtain ⟨z, its, n, rv, hg⟩ := hz
    have nl : ∀ d o, H1 d = some o → (∀ ys, o ≠ .lst ys) → d ≠ c := fun d o e1 e2 w => by subst w; rw [ec] at e1; cases e1; exact e2 _ rfl
    refine ⟨.ref c, _, I1.un (h' := s1.heap) (t' := s1.toks) (H' := L2.upd H1 c (.frz { cls := .type "list", data := .seq its.toArray n } (.lst xs))) ⟨fun d o e _ _ _ => e, fun d o e _ _ _ => ⟨o.slots, e⟩, fun d o e w _ => ?_, fun d o e _ => ⟨o, e⟩, fun d ys e => ?_, fun d o u e => ?_, fun d ps e => ⟨#[], ?_⟩⟩ (fun d u e => ?_), r, q _⟩
    · rw [upd_ne (fun z => by subst z; rw [ec] at w; cases w)]; exact w
    · rw [upd_ne (nl d _ e (fun _ => nofun))]; exact e
    · rw [upd_ne (nl d _ e (fun _ => nofun))]; exact e
    · rw [upd_ne (nl d _ e (fun _ => nofun)), e]; simp
    · by_cases hd : d = c
      · subst hd
        rw [upd_same] at e; cases e
        exact ⟨hg, z, its, n, rv, hg⟩
      · rw [upd_ne hd] at e
        refine (I1.hok d u e).stay (fun k w _ q => q) (fun k q => ?_) fun k ys q => ?_
        · rw [upd_ne (nl k _ q (fun _ => nofun))]; exact q
        · rw [upd_ne (nl k _ q (fun _ => nofun))]; exact q
def rCat0 (K : PySem.W.Frag) : R2 := fun x y H Q => ∃ p q ys, x = .ref p ∧ y = .ref q ∧ SqT K H p [] ∧ SqT K H q ys ∧ Q (.ref q) H
theorem op_cat0 : OpR X (binaryOp .Add) (rCat0 X.K) := fun pins s σ H x y v u Q I rx ry ⟨p, q, ys, e1, e2, hp, hq, h⟩ => by
  subst e1 e2
  cases rx
  cases ry
  obtain ⟨its, r1, p1, _⟩ := I.tuple hp
  obtain ⟨its2, r2, p2, _⟩ := I.tuple hq
  cases r1
  obtain ⟨⟨c1, d1, t1, l1⟩, ho, hc, n, hd⟩ := id p1
  obtain ⟨⟨c2, d2, t2, l2⟩, ho2, hc2, n2, hd2⟩ := id p2
  simp only at hc hd hc2 hd2
  subst hc hd hc2 hd2
  exact concat_meets ⟨_, ho, rfl⟩ ⟨_, ho2, rfl⟩ noFill_tuple_add seq_tuple_add PySem.F.slot_tuple_add PySem.F.entry_tuple_add (PySem.F.args_tuple_add_2 _ _)
    (tuple_addW0 p q #[] its2.toArray n n2 d1 d2 l1 l2 rfl) ⟨ho, ho2, ⟨.ref q, H, I, rfl, h⟩⟩
def rCatL (K : PySem.W.Frag) : R2 := fun x y H Q => ∃ p q xs ys, x = .ref p ∧ y = .ref q ∧ SqL K H p xs ∧ SqL K H q ys ∧ xs.length + ys.length ≤ sizeLine ∧ ∀ z, H z = none → Q (.ref z) (L2.upd H z (.lst (xs ++ ys)))
theorem op_catL : OpR X (binaryOp .Add) (rCatL X.K) := fun pins s σ H x y v u Q I rx ry ⟨p, q, xs, ys, e1, e2, hp, hq, hz, h⟩ => by
  subst e1 e2
  cases rx
  cases ry
  obtain ⟨its, r1, p1, _⟩ := I.list hp
  obtain ⟨its2, r2, p2, _⟩ := I.list hq
  obtain ⟨⟨c1, d1, t1, l1⟩, n, ho, hc, hx, hd⟩ := id p1
  obtain ⟨⟨c2, d2, t2, l2⟩, n2, ho2, hc2, hx2, hd2⟩ := id p2
  simp only at hc hd hc2 hd2
  subst hc hd hc2 hd2
  have z1 := r1.length
  have z2 := r2.length
  refine concat_meets ⟨_, ho, rfl⟩ ⟨_, ho2, rfl⟩ PySem.noFill_list_add PySem.seq_list_add PySem.F.slot_list_add PySem.F.entry_list_add (PySem.F.args_list_add_2 _ _)
    (list_addW p q its.toArray its2.toArray n n2 d1 d2 l1 l2 (by rw [List.size_toArray, List.size_toArray]; omega)) ⟨ho, ho2, ?_⟩
  have ea : its.toArray ++ its2.toArray = (its ++ its2).toArray := by simp
  rw [ea]
  exact ⟨.ref _, _, I.lnew (t' := s.toks) (r1.append r2) (by rw [List.length_append]; omega), rfl, h _ I.fresh⟩
def rPlus : DR2 := fun x y μ Q => match x, y with
  | .int i, .int j => Q (.int (i + j)) μ
  | .str i, .str j => i.length + j.length ≤ 1000000 ∧ Q (.str (i ++ j)) μ
  | .tup a, .tup b => a.length + b.length ≤ 1000000 ∧ Q (.tup (a ++ b)) μ
  | .ls a, .ls b => a.length + b.length ≤ 1000000 ∧ Q (.ls (a ++ b)) μ
  | _, _ => False
def rPl (K : PySem.W.Frag) : R2 := fun x y H Q => (rI0 fun i j => .int (i + j)) x y H Q ∨ (∃ i j, x = .str i ∧ y = .str j ∧ i.length + j.length ≤ sizeLine ∧ Q (.str (i ++ j)) H) ∨ rCatT K x y H Q ∨ rCat0 K x y H Q ∨ rCatL K x y H Q
theorem op_plus : OpR X (binaryOp .Add) (rPl X.K) := fun pins s σ H x y v u Q I rx ry h => by
  rcases h with h | h | h | h | h
  · exact op_add pins s σ H x y v u Q I rx ry h
  · exact op_add_str pins s σ H x y v u Q I rx ry h
  · exact op_catT pins s σ H x y v u Q I rx ry h
  · exact op_cat0 pins s σ H x y v u Q I rx ry h
  · exact op_catL pins s σ H x y v u Q I rx ry h
theorem le_plus (ha : LE X a Ta) (hb : LE X b Tb) : LE X (.BinOp a .Add b pos) (TBin rPlus Ta Tb) := by
  obtain ⟨ta, pa, sa⟩ := ha.ex
  obtain ⟨tb, pb, sb⟩ := hb.ex
  refine ⟨_, pe_frzO (pe_op op_plus pa pb), fun σ H ρ μ Q Q' rl h k => sa σ H ρ μ _ _ rl h fun x H1 dx μ1 t1 m1 p1 h1 => sb σ H1 ρ μ1 _ _ (rl.go t1 m1) h1 fun y H2 dy μ2 t2 m2 p2 h2 => ?_⟩
  have p1 := p1.mono t2
  have k := k.go (t1.trans t2)
  cases p1 with
  | int i =>
    cases p2 with
    | int j => exact .inl ⟨i, j, rfl, rfl, .inl (k _ H2 _ μ2 (.refl H2) m2 (.int _) h2)⟩
    | _ => exact False.elim h2
  | str i =>
    cases p2 with
    | str j => exact .inr (.inl ⟨i, j, rfl, rfl, big h2.1, .inl (k _ H2 _ μ2 (.refl H2) m2 (.str _) h2.2)⟩)
    | _ => exact False.elim h2
  | @tup q xs ds sq l =>
    cases p2 with
    | @tup q' ys es sq' l' =>
      obtain ⟨hz, h3⟩ := h2
      by_cases hx : xs = []
      · subst hx
        cases l
        exact .inr (.inr (.inr (.inl ⟨q, q', ys, rfl, rfl, sq, sq', .inl (k _ H2 _ μ2 (.refl H2) m2 (.tup sq' l') h3)⟩)))
      · refine .inr (.inr (.inl ⟨q, q', xs, ys, rfl, rfl, sq, sq', hx, by rw [l.length, l'.length]; exact big hz, fun hy => ?_, fun _ z hzn => .inl ?_⟩))
        · subst hy
          cases l'
          rw [List.append_nil] at h3
          exact .inl (k _ H2 _ μ2 (.refl H2) m2 (.tup sq l) h3)
        · exact k _ _ _ μ2 (.new hzn) (mu_new m2 hzn) (.tup (SqT.of upd_same) ((l.append l').mono (.new hzn))) h3
    | _ => exact False.elim h2
  | @ls q xs ds sq l =>
    cases p2 with
    | @ls q' ys es sq' l' => exact .inr (.inr (.inr (.inr ⟨q, q', xs, ys, rfl, rfl, sq.sq, sq'.sq, by rw [l.length, l'.length]; exact big h2.1, fun z hz => .inr (frz_new m2 (l.append l') h2.2 k hz)⟩)))
    | _ => exact False.elim h2
  | _ => cases p2 <;> exact False.elim h2
abbrev OTr := ST → Mu → (Option Int → Mu → Prop) → Prop
def ONo : OTr := fun _ μ Q => Q none μ
def OInt (T : ETr) : OTr := fun ρ μ Q => T ρ μ fun x μ1 => kI x fun i => Q (some i) μ1
def cutD {α : Type} (xs : List α) (lo hi : Option Int) : List α := (xs.drop (HT.sIx xs.length 0 lo)).take (HT.sIx xs.length xs.length hi - HT.sIx xs.length 0 lo)
theorem DpL.take {K : PySem.W.Frag} {H : Hp} : ∀ {vs : List V} {ds : List D} (n : Nat), DpL K H vs ds → DpL K H (vs.take n) (ds.take n)
  | _, _, 0, _ => .nil
  | _, _, _ + 1, .nil => .nil
  | _, _, n + 1, .cons h l => .cons h (DpL.take n l)
theorem DpL.drop {K : PySem.W.Frag} {H : Hp} : ∀ {vs : List V} {ds : List D} (n : Nat), DpL K H vs ds → DpL K H (vs.drop n) (ds.drop n)
  | _, _, 0, l => l
  | _, _, _ + 1, .nil => .nil
  | _, _, n + 1, .cons _ l => DpL.drop n l
def rSl : D → Option Int → Option Int → Mu → DK → Prop := fun x lo hi μ Q => match x with
  | .tup xs => Q (.tup (cutD xs lo hi)) μ
  | .ls xs => Q (.ls (cutD xs lo hi)) μ
  | .obj a => kL μ a fun xs => Q (.ls (cutD xs lo hi)) μ
  | _ => False
def TSl (a : ETr) (lo hi : OTr) : ETr := fun ρ μ Q => a ρ μ fun x μ1 => lo ρ μ1 fun l μ2 => hi ρ μ2 fun h μ3 => rSl x l h μ3 Q
end
end L3
set_option Elab.async false
set_option linter.all false
set_option maxRecDepth 100000
set_option maxHeartbeats 4000000
namespace L3
open PySem PySem.Spec PyProof.Rows L2
end L3
set_option Elab.async false
set_option linter.all false
set_option maxRecDepth 100000
set_option maxHeartbeats 4000000
namespace L3
open PySem PySem.Spec PyProof.Rows L2
theorem _root_.L2.Inv.frz {X : Cx} {pins : List (Addr × Obj)} {σ : L2.St} {H : Hp} {s : Shared} {c : Addr} {xs : List V} (I1 : Inv X pins σ H s) (ec : H c = some (.lst xs)) : ∃ o, Inv X pins σ (L2.upd H c (.frz o (.lst xs))) s := by
  obtain ⟨z, its, n, rv, hg⟩ := I1.hok c _ ec
  have nl : ∀ d o, H d = some o → (∀ ys, o ≠ .lst ys) → d ≠ c := fun d o e1 e2 w => by subst w; rw [ec] at e1; cases e1; exact e2 _ rfl
  refine ⟨_, I1.un (h' := s.heap) (t' := s.toks) (H' := L2.upd H c (.frz { cls := .type "list", data := .seq its.toArray n } (.lst xs))) ⟨fun d o e _ _ _ => e, fun d o e _ _ _ => ⟨o.slots, e⟩, fun d o e w _ => ?_, fun d o e _ => ⟨o, e⟩, fun d ys e => ?_, fun d o u e => ?_, fun d ps e => ⟨#[], ?_⟩⟩ (fun d u e => ?_)⟩
  · rw [upd_ne (fun z => by subst z; rw [ec] at w; cases w)]; exact w
  · rw [upd_ne (nl d _ e (fun _ => nofun))]; exact e
  · rw [upd_ne (nl d _ e (fun _ => nofun))]; exact e
  · rw [upd_ne (nl d _ e (fun _ => nofun)), e]; simp
  · by_cases hd : d = c
    · subst hd
      rw [upd_same] at e; cases e
      exact ⟨hg, z, its, n, rv, hg⟩
    · rw [upd_ne hd] at e
      refine (I1.hok d u e).stay (fun k w _ q => q) (fun k q => ?_) fun k ys q => ?_
      · rw [upd_ne (nl k _ q (fun _ => nofun))]; exact q
      · rw [upd_ne (nl k _ q (fun _ => nofun))]; exact q
end L3
set_option Elab.async false
set_option linter.all false
set_option maxRecDepth 100000
set_option maxHeartbeats 4000000
namespace L3
open PySem PySem.Spec PyProof.Rows L2
section
variable {X : Cx} {ea : Expr} {es : List Expr} {ek : Nat} {ep p pos : Pos}
def enumD (ds : List D) : List D := (List.range ds.length).zipWith (fun i d => .tup [.int (i : Nat), d]) ds
def IEnum (t : ATr) : ATr := fun ρ μ Q => t ρ μ fun vs μ1 => match vs with
  | [.ls ds] => Q (enumD ds) μ1
  | _ => False
variable {eb : Expr} {tg : Expr} {Ta Tb : ETr}
def IRange2 (a b : ETr) : ATr := fun ρ μ Q => a ρ μ fun x μ1 => b ρ μ1 fun y μ2 => kI x fun i => kI y fun j => ((-4611686018427387904 ≤ i ∧ i < 4611686018427387904) ∧ -4611686018427387904 ≤ j ∧ j < 4611686018427387904) ∧ Q (rangeD i (j - i).toNat) μ2
theorem li_range2 {rp rpos : Pos} (hg : Gl X "range") (hm : X.mg "range" = none) (ha : LE X ea Ta) (hb : LE X eb Tb) (hs : starEach [ea, eb] X.env = [(false, eval ea X.env), (false, eval eb X.env)] := by rfl) (hs2 : starEach [eb] X.env = [(false, eval eb X.env)] := by rfl) : LI X tg (.Call (.Name "range" rp) [ea, eb] [] rpos) (IRange2 Ta Tb) := by
  obtain ⟨ta, pa, sa⟩ := ha.ex
  obtain ⟨tb, pb, sb⟩ := hb.ex
  refine ⟨_, pi_range2 hg hm (pa_cons pa (pa_cons pb pa_nil hs2) (by rw [hs, hs2])) hs hs2, fun σ H ρ μ Q R rl h k => sa σ H ρ μ _ _ rl h fun x H1 d μ1 t1 m1 p1 h1 => sb σ H1 ρ μ1 _ _ (rl.go t1 m1) h1 fun y H2 d2 μ2 t2 m2 p2 h2 => ?_⟩
  cases p1 with
  | int i =>
    cases p2 with
    | int j =>
      obtain ⟨⟨⟨h3, h4⟩, h5, h6⟩, h7⟩ := h2
      exact ⟨i, j, rfl, ⟨by simpa using h3, by simpa using h4, by simpa using h5, by simpa using h6⟩, k _ H2 _ μ2 (t1.trans t2) m2 (ylds_rng i _) h7⟩
    | _ => exact False.elim h2
  | _ => exact False.elim h2
end
end L3
set_option Elab.async false
set_option linter.all false
set_option maxRecDepth 100000
set_option maxHeartbeats 4000000
namespace L3
open PySem PySem.Spec PyProof PyProof.Rows L2
section
variable {X : Cx} {a b : Expr} {Ta Tb : ETr} {pos : Pos}
end
end L3
set_option Elab.async false
set_option linter.all false
set_option maxRecDepth 100000
namespace L3
open PySem
theorem rPlus_i (i j : Int) (μ Q) : rPlus (.int i) (.int j) μ Q = Q (.int (i + j)) μ := rfl
theorem rPlus_s (i j : Str) (μ Q) : rPlus (.str i) (.str j) μ Q = (i.length + j.length ≤ 1000000 ∧ Q (.str (i ++ j)) μ) := rfl
theorem rPlus_t (a b : List D) (μ Q) : rPlus (.tup a) (.tup b) μ Q = (a.length + b.length ≤ 1000000 ∧ Q (.tup (a ++ b)) μ) := rfl
theorem rPlus_l (a b : List D) (μ Q) : rPlus (.ls a) (.ls b) μ Q = (a.length + b.length ≤ 1000000 ∧ Q (.ls (a ++ b)) μ) := rfl
theorem bTuple_t (a : List D) (μ Q) : bTuple [.tup a] μ Q = Q (.tup a) μ := rfl
theorem bTuple_l (a : List D) (μ Q) : bTuple [.ls a] μ Q = Q (.tup a) μ := rfl
theorem bTuple_o (a : Addr) (μ Q) : bTuple [.obj a] μ Q = kL μ a fun xs => Q (.tup xs) μ := rfl
theorem bListV_t (a : List D) (μ Q) : bListV [.tup a] μ Q = Q (.ls a) μ := rfl
theorem bListV_l (a : List D) (μ Q) : bListV [.ls a] μ Q = Q (.ls a) μ := rfl
theorem bListV_o (a : Addr) (μ Q) : bListV [.obj a] μ Q = kL μ a fun xs => Q (.ls xs) μ := rfl
theorem bListM_t (a : List D) (μ Q) : bListM [.tup a] μ Q = ∀ p, μ p = none → Q (.obj p) (up μ p (.lst a)) := rfl
theorem bListM_l (a : List D) (μ Q) : bListM [.ls a] μ Q = ∀ p, μ p = none → Q (.obj p) (up μ p (.lst a)) := rfl
theorem bListM_o (a : Addr) (μ Q) : bListM [.obj a] μ Q = kL μ a fun xs => ∀ p, μ p = none → Q (.obj p) (up μ p (.lst xs)) := rfl
theorem rSl_t (a : List D) (lo hi) (μ Q) : rSl (.tup a) lo hi μ Q = Q (.tup (cutD a lo hi)) μ := rfl
theorem rSl_l (a : List D) (lo hi) (μ Q) : rSl (.ls a) lo hi μ Q = Q (.ls (cutD a lo hi)) μ := rfl
theorem rSl_o (a : Addr) (lo hi) (μ Q) : rSl (.obj a) lo hi μ Q = kL μ a fun xs => Q (.ls (cutD xs lo hi)) μ := rfl
theorem rIn_t (n : Bool) (x : D) (a : List D) (μ Q) : L3.rIn n x (.tup a) μ Q = ((flatD x = true ∧ a.all flatD = true) ∧ Q (.bl (if n then !inD x a else inD x a)) μ) := rfl
theorem rIn_l (n : Bool) (x : D) (a : List D) (μ Q) : L3.rIn n x (.ls a) μ Q = ((flatD x = true ∧ a.all flatD = true) ∧ Q (.bl (if n then !inD x a else inD x a)) μ) := rfl
theorem rIn_o (n : Bool) (x : D) (a : Addr) (μ Q) : L3.rIn n x (.obj a) μ Q = kL μ a fun xs => (flatD x = true ∧ xs.all flatD = true) ∧ Q (.bl (if n then !inD x xs else inD x xs)) μ := rfl
theorem bLen_o (a : Addr) (μ Q) : bLen [.obj a] μ Q = kL μ a fun xs => Q (.int xs.length) μ := rfl
theorem bLen_s (x : Str) (μ Q) : bLen [.str x] μ Q = (x.length ≤ 1000000 ∧ Q (.int x.length) μ) := rfl
theorem rIs_n (μ Q) : rIs .non .non μ Q = Q (.bl true) μ := rfl
theorem rIs_i (i : Int) (μ Q) : rIs (.int i) .non μ Q = Q (.bl false) μ := rfl
theorem rIs_t (i : List D) (μ Q) : rIs (.tup i) .non μ Q = Q (.bl false) μ := rfl
theorem rIsNot_n (μ Q) : rIsNot .non .non μ Q = Q (.bl false) μ := rfl
theorem rIsNot_i (i : Int) (μ Q) : rIsNot (.int i) .non μ Q = Q (.bl true) μ := rfl
theorem rIsNot_t (i : List D) (μ Q) : rIsNot (.tup i) .non μ Q = Q (.bl true) μ := rfl
theorem rIsI_l (c : String) (i : List D) (μ Q) : rIsI c (.ls i) μ Q = Q (.bl (isTy "list" c)) μ := rfl
theorem rIsI_s (c : String) (i : Str) (μ Q) : rIsI c (.str i) μ Q = Q (.bl (isTy "str" c)) μ := rfl
theorem rIsI_n (c : String) (μ Q) : rIsI c .non μ Q = Q (.bl (isTy "NoneType" c)) μ := rfl
end L3
set_option Elab.async false
set_option linter.all false
set_option maxRecDepth 100000
set_option maxHeartbeats 4000000
namespace L3
open PySem
theorem atD_lit (k : Nat) (ds : List D) : atD ds (k : Int) = ds[k]? := by
  unfold atD L2.atI L2.ixN
  rw [if_pos (Int.natCast_nonneg k)]
  by_cases h : k < ds.length
  · rw [if_pos (by omega)]; simp
  · rw [if_neg (by omega)]; simp; omega
theorem atD_0 (ds : List D) : atD ds 0 = ds[0]? := atD_lit 0 ds
theorem atD_1 (ds : List D) : atD ds 1 = ds[1]? := atD_lit 1 ds
theorem atD_2 (ds : List D) : atD ds 2 = ds[2]? := atD_lit 2 ds
theorem atD_3 (ds : List D) : atD ds 3 = ds[3]? := atD_lit 3 ds
theorem atD_4 (ds : List D) : atD ds 4 = ds[4]? := atD_lit 4 ds
theorem atD_5 (ds : List D) : atD ds 5 = ds[5]? := atD_lit 5 ds
theorem ixN_lit (n k : Nat) : L2.ixN n (k : Int) = if k < n then some k else none := by
  unfold L2.ixN
  rw [if_pos (Int.natCast_nonneg k)]
  by_cases h : k < n
  · rw [if_pos (by omega), if_pos h]; simp
  · rw [if_neg (by omega), if_neg h]
theorem ixN_0 (n : Nat) : L2.ixN n 0 = if 0 < n then some 0 else none := ixN_lit n 0
theorem ixN_1 (n : Nat) : L2.ixN n 1 = if 1 < n then some 1 else none := ixN_lit n 1
theorem ixN_2 (n : Nat) : L2.ixN n 2 = if 2 < n then some 2 else none := ixN_lit n 2
theorem isTy_ii : isTy "int" "int" = true := by decide
theorem isTy_ib : isTy "int" "bool" = false := by decide
theorem isTy_bb : isTy "bool" "bool" = true := by decide
theorem isTy_bi : isTy "bool" "int" = true := by decide
theorem isTy_tt : isTy "tuple" "tuple" = true := by decide
theorem isTy_it : isTy "int" "tuple" = false := by decide
theorem isTy_bt : isTy "bool" "tuple" = false := by decide
theorem fm0 {a n : Int} (h : 0 < n) : 0 ≤ a.fmod n := Int.fmod_nonneg_of_pos a h
theorem fm1 {a n : Int} (h : 0 < n) : a.fmod n < n := Int.fmod_lt_of_pos a h
theorem kIf_t (A B : Prop) : kIf true A B = A := rfl
theorem kIf_f (A B : Prop) : kIf false A B = B := rfl
theorem kIf_d (p : Prop) [Decidable p] (A B : Prop) : kIf (decide p) A B = if p then A else B := by by_cases h : p <;> simp [h, kIf]
theorem kIf_n (c : Bool) (A B : Prop) : kIf (!c) A B = kIf c B A := by cases c <;> rfl
theorem kB_bl (c : Bool) (f) : kB (.bl c) f = f c := rfl
theorem kI_int (c : Int) (f) : kI (.int c) f = f c := rfl
theorem kO_some (c : D) (f) : kO (some c) f = f c := rfl
theorem kS_tup (c : List D) (f) : kS (.tup c) f = f c := rfl
theorem kS_ls (c : List D) (f) : kS (.ls c) f = f c := rfl
theorem k2_two (a b : D) (f) : k2 [a, b] f = f a b := rfl
theorem kN_some (c : Nat) (f) : kN (some c) f = f c := rfl
theorem kL_up (μ : Mu) (a : Addr) (ds : List D) (f) : kL (up μ a (.lst ds)) a f = f ds := by unfold kL; rw [up_same]
theorem kL_of {μ : Mu} {a : Addr} {ds : List D} (h : μ a = some (.lst ds)) (f) : kL μ a f = f ds := by unfold kL; rw [h]
theorem kSet_obj (a : Addr) (n : Int) (y : D) (μ : Mu) (f) : kSet (.obj a) (.int n) y μ f = kL μ a fun ds => kN (L2.ixN ds.length n) fun j => f (up μ a (.lst (ds.set j y))) := rfl
theorem rSub_i (i j : Int) (μ Q) : rSub (.int i) (.int j) μ Q = Q (.int (i - j)) μ := rfl
theorem rMul_i (i j : Int) (μ Q) : rMul (.int i) (.int j) μ Q = (MulOk i j ∧ Q (.int (i * j)) μ) := rfl
theorem rDiv_i (i j : Int) (μ Q) : rDiv (.int i) (.int j) μ Q = (DivOk j ∧ Q (.int (i.fdiv j)) μ) := rfl
theorem rMod_i (i j : Int) (μ Q) : rMod (.int i) (.int j) μ Q = (j ≠ 0 ∧ Q (.int (i.fmod j)) μ) := rfl
theorem rPow_i (i j : Int) (μ Q) : rPow (.int i) (.int j) μ Q = (PowOk i j ∧ Q (.int (i ^ j.toNat)) μ) := rfl
theorem rNeg_i (i : Int) (μ Q) : rNeg (.int i) μ Q = Q (.int (-i)) μ := rfl
theorem rLt_i (i j : Int) (μ Q) : rLt (.int i) (.int j) μ Q = Q (.bl (decide (i < j))) μ := rfl
theorem rLe_i (i j : Int) (μ Q) : rLe (.int i) (.int j) μ Q = Q (.bl (decide (i ≤ j))) μ := rfl
theorem rGt_i (i j : Int) (μ Q) : rGt (.int i) (.int j) μ Q = Q (.bl (decide (j < i))) μ := rfl
theorem rGe_i (i j : Int) (μ Q) : rGe (.int i) (.int j) μ Q = Q (.bl (decide (j ≤ i))) μ := rfl
theorem rEq_d (x y : D) (μ Q) : L3.rEq x y μ Q = ((okD 40 x = true ∧ okD 40 y = true) ∧ Q (.bl (eqD x y)) μ) := rfl
theorem rNe_d (x y : D) (μ Q) : L3.rNe x y μ Q = ((okD 40 x = true ∧ okD 40 y = true) ∧ Q (.bl (!eqD x y)) μ) := rfl
theorem rIx_t (ds : List D) (i : Int) (μ Q) : L3.rIx (.tup ds) (.int i) μ Q = kO (atD ds i) fun d => Q d μ := rfl
theorem rIx_l (ds : List D) (i : Int) (μ Q) : L3.rIx (.ls ds) (.int i) μ Q = kO (atD ds i) fun d => Q d μ := rfl
theorem rIx_o (a : Addr) (i : Int) (μ Q) : L3.rIx (.obj a) (.int i) μ Q = kL μ a fun ds => kO (atD ds i) fun d => Q d μ := rfl
theorem rIsI_i (c : String) (i : Int) (μ Q) : rIsI c (.int i) μ Q = Q (.bl (isTy "int" c)) μ := rfl
theorem rIsI_b (c : String) (i : Bool) (μ Q) : rIsI c (.bl i) μ Q = Q (.bl (isTy "bool" c)) μ := rfl
theorem rIsI_t (c : String) (i : List D) (μ Q) : rIsI c (.tup i) μ Q = Q (.bl (isTy "tuple" c)) μ := rfl
theorem bAbs_i (i : Int) (μ Q) : bAbs [.int i] μ Q = Q (.int (if i < 0 then -i else i)) μ := rfl
theorem bMax_i (i j : Int) (μ Q) : bMax2 [.int i, .int j] μ Q = Q (.int (if j > i then j else i)) μ := rfl
theorem bMin_i (i j : Int) (μ Q) : bMin2 [.int i, .int j] μ Q = Q (.int (if j < i then j else i)) μ := rfl
theorem bInt_i (i : Int) (μ Q) : bInt [.int i] μ Q = Q (.int i) μ := rfl
theorem bInt_b (i : Bool) (μ Q) : bInt [.bl i] μ Q = Q (.int (if i then 1 else 0)) μ := rfl
theorem bLen_t (i : List D) (μ Q) : bLen [.tup i] μ Q = Q (.int i.length) μ := rfl
theorem bLen_l (i : List D) (μ Q) : bLen [.ls i] μ Q = Q (.int i.length) μ := rfl
local macro_rules | `(tactic| walk_at "rd") => `(tactic| try simp only [TVar, TC, TBin, TUn, TAndV, TOrV, TNotV, TB, TAnd, TOr, TNot, TIfE, TChain, TNil, TCons, TTup, TLsV, TLsM, TCall, TNext, TSeq, TBreak, TCont, TDrop, TRet, TRetN, TIfS, GName, TAsg, TPar, TSetIx, TFor, IRange1, ISeq, 
  kIf_t, kIf_f, kIf_d, kIf_n, kB_bl, kI_int, kO_some, kS_tup, kS_ls, k2_two, kN_some, kL_up, kSet_obj, rPlus_i, rPlus_s, rPlus_t, rPlus_l, TApp, kObj_o, TFrz, bTuple_t, bTuple_l, bTuple_o, bListV_t, bListV_l, bListV_o, bListM_t, bListM_l, bListM_o, TSl, ONo, OInt, rSl_t, rSl_l, rSl_o, rIn_t, rIn_l, rIn_o, bLen_o, bLen_s, rIs_n, rIs_i, rIs_t, rIsNot_n, rIsNot_i, rIsNot_t, rIsI_l, rIsI_s, rIsI_n, rSub_i, rMul_i, rDiv_i, rMod_i, rPow_i, rNeg_i, rLt_i, rLe_i, rGt_i, rGe_i, rEq_d, rNe_d, rIx_t, rIx_l, rIx_o, rIsI_i, rIsI_b, rIsI_t, bAbs_i, bMax_i, bMin_i, bInt_i, bInt_b, bLen_t, bLen_l,
  lk, ini, List.map, List.length, List.replicate, List.append, List.set, List.cons_append, List.nil_append, Nat.sub_self, Nat.reduceSub, Nat.reduceAdd,
  atD_0, atD_1, atD_2, atD_3, atD_4, atD_5, ixN_0, ixN_1, ixN_2, List.getElem?_cons_zero, List.getElem?_cons_succ, up_same, Nat.reduceLT, Nat.reduceLeDiff, if_true, if_false, true_and, and_true, Bool.not_true, Bool.not_false, Nat.lt_add_one, Nat.zero_lt_succ, Nat.succ_lt_succ_iff, Nat.zero_lt_one,
  decide_eq_true_eq, Bool.false_eq_true, ite_false, ite_true, ne_eq, not_false_eq_true, Int.reduceToNat, Int.reducePow, Int.reduceNeg, Int.reduceSub, Int.reduceAdd, Int.reduceMul, Int.reduceEq, okD, okDs, eqD, eqDs, Bool.and_self, Bool.and_true, Bool.true_and, isTy_ii, isTy_ib, isTy_bb, isTy_bi, isTy_tt, isTy_it, isTy_bt])
local macro_rules | `(tactic| walk_at "ok") => `(tactic| (simp only [L3.DivOk, L3.MulOk, L3.S64, L3.M256, L3.PowOk] at *; omega))
def Box (μ : Mu) (b : Addr) : Prop := ∃ g s c : Int, μ b = some (.lst [.int g, .int s, .int c]) ∧ 0 ≤ s ∧ s < 2147483647
structure BoxTo (b : Addr) (μ μ' : Mu) : Prop where
  box : Box μ' b
  oth : ∀ a, a ≠ b → μ' a = μ a
theorem BoxTo.trans {b : Addr} {μ μ1 μ2 : Mu} (x : BoxTo b μ μ1) (y : BoxTo b μ1 μ2) : BoxTo b μ μ2 := ⟨y.box, fun a h => (y.oth a h).trans (x.oth a h)⟩
def sp_low : FSp := fun ds μ Q => match ds with
  | [.int a, .int b] => (0 < b ∧ M256 b) ∧ Q (.tup [.int (a.fdiv (Int.gcd a b)), .int (b.fdiv (Int.gcd a b))]) μ
  | _ => False
theorem len_low : ∀ ds μ Q, sp_low ds μ Q → ds.length = 2 := by
  intro ds μ Q h
  unfold sp_low at h
  split at h
  · rfl
  · exact h.elim
def t_low : STr := TSeq (TPar 2 3 (TCons (TCall bAbs (TCons (TVar 0) (TNil))) (TCons (TVar 1) (TNil)))) (TSeq (TWhile (TB (TBin rGt (TVar 3) (TC (.int 0)))) (TPar 2 3 (TCons (TVar 3) (TCons (TBin rMod (TVar 2) (TVar 3)) (TNil))))) (TRet (TTup (TCons (TBin rDiv (TVar 0) (TVar 2)) (TCons (TBin rDiv (TVar 1) (TVar 2)) (TNil))))))
theorem gcd_fmod (x y : Int) : Int.gcd y (x.fmod y) = Int.gcd x y := by
  rw [Int.fmod_def, Int.gcd_sub_mul_left_right, Int.gcd_comm]
theorem abs_if (a : Int) : (if a < 0 then -a else a) = (a.natAbs : Int) := by
  split <;> omega
def mz (i : Nat) : ST → Mu → Nat := fun ρ _ => match lk ρ i with
  | some (.int z) => z.toNat
  | _ => 0
theorem rd_low : ∀ ds μ Q, sp_low ds μ Q → t_low { nx := fun _ μ' => RT Q .non μ', rt := RT Q } (ini 4 ds) μ := by
  intro ds μ Q h
  unfold sp_low at h
  split at h
  case h_2 => exact h.elim
  rename_i a b
  obtain ⟨⟨b0, b1⟩, k⟩ := h
  unfold t_low
  walk_at "rd"
  refine ⟨fun ρ μ' => μ' = μ ∧ ∃ x y : Int, ρ = [some (.int a), some (.int b), some (.int x), some (.int y)] ∧ 0 ≤ x ∧ 0 ≤ y ∧ Int.gcd x y = Int.gcd a b, mz 3, ⟨rfl, _, b, rfl, ?_, by omega, ?_⟩, ?_⟩
  · split <;> omega
  · rw [abs_if]; unfold Int.gcd; rw [Int.natAbs_natCast]
  · rintro ρ _ ⟨rfl, x, y, rfl, x0, y0, e⟩
    walk_at "rd"
    split
    · rename_i hy
      refine ⟨by omega, ⟨_, _, rfl, y0, fm0 hy, ?_⟩, ?_⟩
      · rw [gcd_fmod]; exact e
      · have := fm1 (a := x) hy
        have := fm0 (a := x) hy
        simp only [mz, lk]
        omega
    · rename_i hy
      have hy0 : y = 0 := by omega
      subst hy0
      rw [Int.gcd_zero_right] at e
      have hx : x = (Int.gcd a b : Int) := by omega
      subst hx
      have gp : 0 < Int.gcd a b := Int.gcd_pos_of_ne_zero_right a (by omega)
      have gl : (Int.gcd a b : Int) ≤ b := Int.gcd_le_right a b0
      have dv : DivOk (Int.gcd a b : Int) := by walk_at "ok"
      exact ⟨dv, dv, _, .refl _, k⟩
structure Fr (p q : Int) : Prop where
  q0 : 0 < q
  q1 : q < 100000000000
  p0 : -100000000000 < p
  p1 : p < 100000000000
  g : Int.gcd p q = 1
theorem fdiv_pos {a b : Int} (h : 0 < b) : a.fdiv b = a / b := Int.fdiv_eq_ediv_of_nonneg a (Int.le_of_lt h)
theorem at4 {a b c d : D} {k : Int} (h0 : 0 ≤ k) (h1 : k < 4) : atD [a, b, c, d] k = some a ∨ atD [a, b, c, d] k = some b ∨ atD [a, b, c, d] k = some c ∨ atD [a, b, c, d] k = some d := by
  have : k = 0 ∨ k = 1 ∨ k = 2 ∨ k = 3 := by omega
  rcases this with rfl | rfl | rfl | rfl
  · exact .inl (by rw [atD_0]; rfl)
  · exact .inr (.inl (by rw [atD_1]; rfl))
  · exact .inr (.inr (.inl (by rw [atD_2]; rfl)))
  · exact .inr (.inr (.inr (by rw [atD_3]; rfl)))
theorem at4s {a b c d k M : Int} (h0 : 0 ≤ k) (h1 : k < 4) (ha : 0 < a ∧ a ≤ M) (hb : 0 < b ∧ b ≤ M) (hc : 0 < c ∧ c ≤ M) (hd : 0 < d ∧ d ≤ M) : ∃ n : Int, atD [.int a, .int b, .int c, .int d] k = some (.int n) ∧ 0 < n ∧ n ≤ M := by
  rcases at4 (a := .int a) (b := .int b) (c := .int c) (d := .int d) h0 h1 with e | e | e | e
  · exact ⟨a, e, ha⟩
  · exact ⟨b, e, hb⟩
  · exact ⟨c, e, hc⟩
  · exact ⟨d, e, hd⟩
theorem atD_ints {ns : List Int} {k : Int} (h0 : 0 ≤ k) (h1 : k < (ns.length : Int)) : ∃ z, atD (ns.map D.int) k = some (.int z) := by
  rcases Int.eq_ofNat_of_zero_le h0 with ⟨j, rfl⟩
  rw [atD_lit]
  have hj : j < ns.length := by omega
  exact ⟨ns[j], by simp [hj]⟩
theorem mem_rangeD {lo : Int} {n : Nat} {d : D} (h : d ∈ rangeD lo n) : ∃ k : Int, d = .int k ∧ lo ≤ k ∧ k < lo + n := by
  unfold rangeD at h
  rcases List.mem_map.mp h with ⟨i, hi, rfl⟩
  have := List.mem_range.mp hi
  exact ⟨_, rfl, by omega, by omega⟩
def sp_law : FSp := fun ds μ Q => match ds with
  | [.ls xs] => (∃ ns : List Int, xs = ns.map .int ∧ ns.length ≤ 63) ∧ ∀ μ', Q (.bl true) μ'
  | _ => False
theorem len_law : ∀ ds μ Q, sp_law ds μ Q → ds.length = 1 := by
  intro ds μ Q h
  unfold sp_law at h
  split at h
  · rfl
  · exact h.elim
theorem law_holds (ns : List Int) (h : ns.length ≤ 63) (μ : Mu) : sp_law [.ls (ns.map .int)] μ (fun d _ => d = .bl true) := ⟨⟨ns, rfl, h⟩, fun _ => rfl⟩
end L3
set_option Elab.async false
set_option linter.all false
set_option maxRecDepth 100000
set_option maxHeartbeats 4000000
namespace L3
open PySem
local macro_rules | `(tactic| walk_at "rd") => `(tactic| try simp only [TVar, TC, TBin, TUn, TAndV, TOrV, TNotV, TB, TAnd, TOr, TNot, TIfE, TChain, TNil, TCons, TTup, TLsV, TLsM, TCall, TNext, TSeq, TBreak, TCont, TDrop, TRet, TRetN, TIfS, GName, TAsg, TPar, TSetIx, TFor, IRange1, ISeq, TComp, compR, capD, TYes, ITup, ILs,
  kIf_t, kIf_f, kIf_d, kIf_n, kB_bl, kI_int, kO_some, kS_tup, kS_ls, k2_two, kN_some, kL_up, kSet_obj, rPlus_i, rPlus_s, rPlus_t, rPlus_l, TApp, kObj_o, TFrz, bTuple_t, bTuple_l, bTuple_o, bListV_t, bListV_l, bListV_o, bListM_t, bListM_l, bListM_o, TSl, ONo, OInt, rSl_t, rSl_l, rSl_o, rIn_t, rIn_l, rIn_o, bLen_o, bLen_s, rIs_n, rIs_i, rIs_t, rIsNot_n, rIsNot_i, rIsNot_t, rIsI_l, rIsI_s, rIsI_n, rSub_i, rMul_i, rDiv_i, rMod_i, rPow_i, rNeg_i, rLt_i, rLe_i, rGt_i, rGe_i, rEq_d, rNe_d, rIx_t, rIx_l, rIx_o, rIsI_i, rIsI_b, rIsI_t, bAbs_i, bMax_i, bMin_i, bInt_i, bInt_b, bLen_t, bLen_l,
  lk, ini, List.map, List.length, List.replicate, List.append, List.set, List.cons_append, List.nil_append, Nat.sub_self, Nat.reduceSub, Nat.reduceAdd,
  atD_0, atD_1, atD_2, atD_3, atD_4, atD_5, ixN_0, ixN_1, ixN_2, List.getElem?_cons_zero, List.getElem?_cons_succ, up_same, up_up, Nat.reduceLT, Nat.reduceLeDiff, if_true, if_false, true_and, and_true, Bool.not_true, Bool.not_false, Nat.lt_add_one, Nat.zero_lt_succ, Nat.succ_lt_succ_iff, Nat.zero_lt_one,
  decide_eq_true_eq, Bool.false_eq_true, ite_false, ite_true, ne_eq, not_false_eq_true, Int.reduceToNat, Int.reducePow, Int.reduceNeg, Int.reduceSub, Int.reduceAdd, Int.reduceMul, Int.reduceEq, okD, okDs, eqD, eqDs, Bool.and_self, Bool.and_true, Bool.true_and, isTy_ii, isTy_ib, isTy_bb, isTy_bi, isTy_tt, isTy_it, isTy_bt])
local macro_rules | `(tactic| walk_at "ok") => `(tactic| (simp only [L3.DivOk, L3.MulOk, L3.S64, L3.M256, L3.PowOk] at *; omega))
structure IsPart (a b p q : Int) : Prop where
  q0 : 0 < q
  g : Int.gcd p q = 1
  e : p * b = a * q
  pa : p.natAbs ≤ a.natAbs
  qb : q.natAbs ≤ b.natAbs
theorem abs_le_mul {g c : Int} (hg : 0 < g) : c.natAbs ≤ (g * c).natAbs := by
  rw [Int.natAbs_mul]
  exact Nat.le_mul_of_pos_left _ (by omega)
theorem part_mk {a b : Int} (hb : b ≠ 0) : IsPart a b (a.fdiv (if b < 0 then -(Int.gcd a b : Int) else Int.gcd a b)) (b.fdiv (if b < 0 then -(Int.gcd a b : Int) else Int.gcd a b)) := by
  have gp : 0 < Int.gcd a b := Int.gcd_pos_of_ne_zero_right a hb
  have gz : 0 < (Int.gcd a b : Int) := by omega
  obtain ⟨c, hc⟩ := Int.gcd_dvd_left a b
  obtain ⟨d, hd⟩ := Int.gcd_dvd_right a b
  have g1 := Int.gcd_ediv_gcd_ediv_gcd gp
  have e1 : a / (Int.gcd a b : Int) = c := Int.ediv_eq_of_eq_mul_right (by omega) hc
  have e2 : b / (Int.gcd a b : Int) = d := Int.ediv_eq_of_eq_mul_right (by omega) hd
  rw [e1, e2] at g1
  generalize (Int.gcd a b : Int) = g at *
  clear e1 e2 gp
  subst hc hd
  have p1 := abs_le_mul (c := c) gz
  have p2 := abs_le_mul (c := d) gz
  split
  · rename_i hneg
    have d0 : d < 0 := by
      rcases Int.lt_trichotomy d 0 with h | h | h
      · exact h
      · subst h; omega
      · have := Int.mul_pos gz h; omega
    have x1 : (g * c).fdiv (-g) = -c := by rw [show g * c = -g * -c by rw [Int.neg_mul_neg]]; exact Int.mul_fdiv_cancel_left _ (by omega)
    have x2 : (g * d).fdiv (-g) = -d := by rw [show g * d = -g * -d by rw [Int.neg_mul_neg]]; exact Int.mul_fdiv_cancel_left _ (by omega)
    rw [x1, x2]
    refine ⟨by omega, by rw [Int.neg_gcd, Int.gcd_neg]; exact g1, ?_, by omega, by omega⟩
    rw [Int.neg_mul, Int.mul_neg, Int.mul_left_comm, Int.mul_assoc]
  · rename_i hneg
    have d0 : 0 < d := by
      rcases Int.lt_trichotomy d 0 with h | h | h
      · have := Int.mul_neg_of_pos_of_neg gz h; omega
      · subst h; omega
      · exact h
    have x1 : (g * c).fdiv g = c := Int.mul_fdiv_cancel_left _ (by omega)
    have x2 : (g * d).fdiv g = d := Int.mul_fdiv_cancel_left _ (by omega)
    rw [x1, x2]
    refine ⟨d0, g1, ?_, by omega, by omega⟩
    rw [Int.mul_left_comm, Int.mul_assoc]
theorem low_one {p q p' q' : Int} (q0 : 0 < q) (q0' : 0 < q') (g : Int.gcd p q = 1) (g' : Int.gcd p' q' = 1) (e : p * q' = p' * q) : p = p' ∧ q = q' := by
  have h1 : q ∣ q' := by
    have : q ∣ p * q' := ⟨p', by rw [e, Int.mul_comm]⟩
    have h := Int.dvd_gcd_mul_iff_dvd_mul.mpr this
    rw [Int.gcd_comm, g] at h
    simpa using h
  have h2 : q' ∣ q := by
    have : q' ∣ p' * q := ⟨p, by rw [← e, Int.mul_comm]⟩
    have h := Int.dvd_gcd_mul_iff_dvd_mul.mpr this
    rw [Int.gcd_comm, g'] at h
    simpa using h
  have e3 : q = q' := Int.dvd_antisymm (by omega) (by omega) h1 h2
  subst e3
  exact ⟨Int.eq_of_mul_eq_mul_right (by omega) e, rfl⟩
theorem IsPart.same {a b p q a' b' p' q' : Int} (h : IsPart a b p q) (h' : IsPart a' b' p' q') (hb : b ≠ 0) (hb' : b' ≠ 0) (e : a * b' = a' * b) : p = p' ∧ q = q' := by
  refine low_one h.q0 h'.q0 h.g h'.g ?_
  have e1 := h.e
  have e2 := h'.e
  have x : (p * q') * (b * b') = (p' * q) * (b * b') := by
    calc (p * q') * (b * b') = (p * b) * (q' * b') := by ac_rfl
      _ = (a * q) * (q' * b') := by rw [e1]
      _ = (a * b') * (q * q') := by ac_rfl
      _ = (a' * b) * (q * q') := by rw [e]
      _ = (a' * q') * (q * b) := by ac_rfl
      _ = (p' * b') * (q * b) := by rw [e2]
      _ = (p' * q) * (b * b') := by ac_rfl
  exact Int.eq_of_mul_eq_mul_right (Int.mul_ne_zero hb hb') x
def sp_common_of : FSp := fun ds μ Q => match ds with
  | [.int a, .int b] => Q (.int (Int.gcd a b)) μ
  | _ => False
theorem len_common_of : ∀ ds μ Q, sp_common_of ds μ Q → ds.length = 2 := by
  intro ds μ Q h
  unfold sp_common_of at h
  split at h
  · rfl
  · exact h.elim
def t_common_of : STr := TSeq (TAsg (TCall bAbs (TCons (TVar 0) (TNil))) (GName 2)) (TSeq (TAsg (TCall bAbs (TCons (TVar 1) (TNil))) (GName 3)) (TSeq (TWhile (TB (TBin rGt (TVar 3) (TC (.int 0)))) (TSeq (TAsg (TBin rMod (TVar 2) (TVar 3)) (GName 4)) (TSeq (TAsg (TVar 3) (GName 2)) (TAsg (TVar 4) (GName 3))))) (TRet (TVar 2))))
theorem rd_common_of : ∀ ds μ Q, sp_common_of ds μ Q → t_common_of { nx := fun _ μ' => RT Q .non μ', rt := RT Q } (ini 5 ds) μ := by
  intro ds μ Q k
  unfold sp_common_of at k
  split at k
  case h_2 => exact k.elim
  rename_i a b
  unfold t_common_of
  walk_at "rd"
  refine ⟨fun ρ μ' => μ' = μ ∧ ∃ (x y : Int) (z : Option D), ρ = [some (.int a), some (.int b), some (.int x), some (.int y), z] ∧ 0 ≤ x ∧ 0 ≤ y ∧ Int.gcd x y = Int.gcd a b, mz 3, ⟨rfl, _, _, _, rfl, ?_, ?_, ?_⟩, ?_⟩
  · split <;> omega
  · split <;> omega
  · rw [abs_if, abs_if]; unfold Int.gcd; rw [Int.natAbs_natCast, Int.natAbs_natCast]
  · rintro ρ _ ⟨rfl, x, y, z, rfl, x0, y0, e⟩
    walk_at "rd"
    split
    · rename_i hy
      refine ⟨by omega, ⟨_, _, _, rfl, y0, fm0 hy, ?_⟩, ?_⟩
      · rw [gcd_fmod]; exact e
      · have := fm1 (a := x) hy
        have := fm0 (a := x) hy
        simp only [mz, lk]
        omega
    · rename_i hy
      have hy0 : y = 0 := by omega
      subst hy0
      rw [Int.gcd_zero_right] at e
      have hx : x = (Int.gcd a b : Int) := by omega
      subst hx
      exact ⟨_, .refl _, k⟩
def sp_part : FSp := fun ds μ Q => match ds with
  | [.int a, .int b] => (b ≠ 0 ∧ M256 b) ∧ ∀ p q, IsPart a b p q → Q (.tup [.int p, .int q]) μ
  | _ => False
theorem len_part : ∀ ds μ Q, sp_part ds μ Q → ds.length = 2 := by
  intro ds μ Q h
  unfold sp_part at h
  split at h
  · rfl
  · exact h.elim
def t_part : STr := TSeq (TAsg (TCall sp_common_of (TCons (TVar 0) (TCons (TVar 1) (TNil)))) (GName 2)) (TSeq (TIfS (TB (TBin rLt (TVar 1) (TC (.int 0)))) (TAsg (TUn rNeg (TVar 2)) (GName 2)) (TNext)) (TRet (TTup (TCons (TBin rDiv (TVar 0) (TVar 2)) (TCons (TBin rDiv (TVar 1) (TVar 2)) (TNil))))))
theorem rd_part : ∀ ds μ Q, sp_part ds μ Q → t_part { nx := fun _ μ' => RT Q .non μ', rt := RT Q } (ini 3 ds) μ := by
  intro ds μ Q h
  unfold sp_part at h
  split at h
  case h_2 => exact h.elim
  rename_i a b
  obtain ⟨⟨hb, hm⟩, k⟩ := h
  have P := k _ _ (part_mk (a := a) hb)
  have gp : 0 < Int.gcd a b := Int.gcd_pos_of_ne_zero_right a hb
  have gl : Int.gcd a b ≤ b.natAbs := Int.gcd_le_natAbs_right a hb
  unfold t_part
  walk_at "rd"
  show (if b < 0 then _ else _)
  split
  · rename_i hn
    rw [if_pos hn] at P
    have dv : DivOk (-(Int.gcd a b : Int)) := by walk_at "ok"
    exact ⟨dv, dv, _, .refl _, P⟩
  · rename_i hn
    rw [if_neg hn] at P
    have dv : DivOk (Int.gcd a b : Int) := by walk_at "ok"
    exact ⟨dv, dv, _, .refl _, P⟩
end L3
set_option Elab.async false
set_option linter.all false
set_option maxRecDepth 100000
set_option maxHeartbeats 4000000
namespace L3
open PySem
local macro_rules | `(tactic| walk_at "rd") => `(tactic| try simp only [TVar, TC, TBin, TUn, TAndV, TOrV, TNotV, TB, TAnd, TOr, TNot, TIfE, TChain, TNil, TCons, TTup, TLsV, TLsM, TCall, TNext, TSeq, TBreak, TCont, TDrop, TRet, TRetN, TIfS, GName, TAsg, TPar, TSetIx, TFor, IRange1, ISeq, TComp, compR, capD, TYes, ITup, ILs,
  kIf_t, kIf_f, kIf_d, kIf_n, kB_bl, kI_int, kO_some, kS_tup, kS_ls, k2_two, kN_some, kL_up, kSet_obj, rPlus_i, rPlus_s, rPlus_t, rPlus_l, TApp, kObj_o, TFrz, bTuple_t, bTuple_l, bTuple_o, bListV_t, bListV_l, bListV_o, bListM_t, bListM_l, bListM_o, TSl, ONo, OInt, rSl_t, rSl_l, rSl_o, rIn_t, rIn_l, rIn_o, bLen_o, bLen_s, rIs_n, rIs_i, rIs_t, rIsNot_n, rIsNot_i, rIsNot_t, rIsI_l, rIsI_s, rIsI_n, rSub_i, rMul_i, rDiv_i, rMod_i, rPow_i, rNeg_i, rLt_i, rLe_i, rGt_i, rGe_i, rEq_d, rNe_d, rIx_t, rIx_l, rIx_o, rIsI_i, rIsI_b, rIsI_t, bAbs_i, bMax_i, bMin_i, bInt_i, bInt_b, bLen_t, bLen_l,
  lk, ini, List.map, List.length, List.replicate, List.append, List.set, List.cons_append, List.nil_append, Nat.sub_self, Nat.reduceSub, Nat.reduceAdd,
  atD_0, atD_1, atD_2, atD_3, atD_4, atD_5, ixN_0, ixN_1, ixN_2, List.getElem?_cons_zero, List.getElem?_cons_succ, up_same, up_up, Nat.reduceLT, Nat.reduceLeDiff, if_true, if_false, true_and, and_true, Bool.not_true, Bool.not_false, Nat.lt_add_one, Nat.zero_lt_succ, Nat.succ_lt_succ_iff, Nat.zero_lt_one,
  decide_eq_true_eq, Bool.false_eq_true, ite_false, ite_true, ne_eq, not_false_eq_true, Int.reduceToNat, Int.reducePow, Int.reduceNeg, Int.reduceSub, Int.reduceAdd, Int.reduceMul, Int.reduceEq, okD, okDs, eqD, eqDs, Bool.and_self, Bool.and_true, Bool.true_and, isTy_ii, isTy_ib, isTy_bb, isTy_bi, isTy_tt, isTy_it, isTy_bt])
local macro_rules | `(tactic| walk_at "ok") => `(tactic| (simp only [L3.DivOk, L3.MulOk, L3.S64, L3.M256, L3.PowOk] at *; omega))
def sp_pot : FSp := fun ds μ Q => match ds with
  | [.ls xs, .int k] => (∃ ns : List Int, xs = ns.map .int ∧ 0 ≤ k ∧ k ≤ 1000) ∧ ∀ p μ', μ p = none → Box μ' p → (∀ a, a ≠ p → μ' a = μ a) → Q (.obj p) μ'
  | _ => False
theorem len_pot : ∀ ds μ Q, sp_pot ds μ Q → ds.length = 2 := by
  intro ds μ Q h
  unfold sp_pot at h
  split at h
  · rfl
  · exact h.elim
def t_pot : STr := TSeq (TAsg (TC (.int 0)) (GName 2)) (TSeq (TIfS (TB (TBin rLt (TVar 1) (TCall bLen (TCons (TVar 0) (TNil))))) (TAsg (TBin L3.rIx (TVar 0) (TVar 1)) (GName 2)) (TNext)) (TSeq (TAsg (TBin rMul (TCall bAbs (TCons (TVar 2) (TNil))) (TCall bInt (TCons (TBin rGe (TCall bAbs (TCons (TVar 2) (TNil))) (TBin rPow (TC (.int 10)) (TC (.int 18)))) (TNil)))) (GName 3)) (TRet (TLsM (TCons (TVar 3) (TCons (TBin rMod (TBin rMul (TBin rPlus (TBin rPlus (TBin rMod (TVar 2) (TC (.int 2147483647))) (TBin rMul (TC (.int 7919)) (TVar 1))) (TC (.int 11))) (TC (.int 48271))) (TC (.int 2147483629))) (TCons (TC (.int 60)) (TNil))))))))
theorem rd_pot : ∀ ds μ Q, sp_pot ds μ Q → t_pot { nx := fun _ μ' => RT Q .non μ', rt := RT Q } (ini 4 ds) μ := by
  intro ds μ Q h
  unfold sp_pot at h
  split at h
  case h_2 => exact h.elim
  rename_i xs k
  unfold t_pot
  walk_at "rd"
  obtain ⟨⟨ns, rfl, k0, k1⟩, hk⟩ := h
  have fin : ∀ c : Int, PowOk 10 18 ∧ MulOk (if c < 0 then -c else c) (if 1000000000000000000 ≤ (if c < 0 then -c else c) then 1 else 0) ∧ MulOk 7919 k ∧ MulOk (c.fmod 2147483647 + 7919 * k + 11) 48271 := fun c =>
    ⟨by walk_at "ok", by split <;> walk_at "ok", by walk_at "ok", .inl (.inr (by unfold S64; omega))⟩
  have go : ∀ g s : Int, 0 ≤ s → s < 2147483629 → ∀ p, μ p = none → RT Q (.obj p) (up μ p (.lst [.int g, .int s, .int 60])) := fun g s s0 s1 p hp =>
    ⟨_, .refl _, hk p _ hp ⟨g, s, 60, up_same, s0, by omega⟩ fun a ha => up_ne ha⟩
  split
  · rename_i hlt
    rw [List.length_map] at hlt
    obtain ⟨z, ez⟩ := atD_ints k0 hlt
    rw [ez]
    walk_at "rd"
    obtain ⟨f1, f2, f3, f5⟩ := fin z
    exact ⟨f1, f2, f3, f5, fun p hp => go _ _ (fm0 (by decide)) (fm1 (by decide)) p hp⟩
  · obtain ⟨f1, f2, f3, f5⟩ := fin 0
    exact ⟨f1, f2, f3, f5, fun p hp => go _ _ (fm0 (by decide)) (fm1 (by decide)) p hp⟩
def sp_draw : FSp := fun ds μ Q => match ds with
  | [.obj b, .int n] => (Box μ b ∧ 0 < n ∧ n < 18446744073709551616) ∧ ∀ k μ', 0 ≤ k → k < n → BoxTo b μ μ' → Q (.int k) μ'
  | _ => False
theorem draw_intro {μ : Mu} {b : Addr} {n : Int} {Q : DK} (hB : Box μ b) (h0 : 0 < n) (h1 : n < 18446744073709551616) (h : ∀ k μ', 0 ≤ k → k < n → BoxTo b μ μ' → Q (.int k) μ') : sp_draw [.obj b, .int n] μ Q := ⟨⟨hB, h0, h1⟩, h⟩
theorem len_draw : ∀ ds μ Q, sp_draw ds μ Q → ds.length = 2 := by
  intro ds μ Q h
  unfold sp_draw at h
  split at h
  · rfl
  · exact h.elim
def t_draw : STr := TSeq (TIfS (TAnd (TB (TBin rGt (TBin L3.rIx (TVar 0) (TC (.int 0))) (TC (.int 0)))) (TB (TBin rGt (TBin L3.rIx (TVar 0) (TC (.int 2))) (TC (.int 0))))) (TSeq (TAsg (TBin rMod (TBin L3.rIx (TVar 0) (TC (.int 0))) (TVar 1)) (GName 2)) (TSeq (TSetIx (TVar 0) (TC (.int 0)) (TBin rDiv (TBin L3.rIx (TVar 0) (TC (.int 0))) (TVar 1))) (TSeq (TSetIx (TVar 0) (TC (.int 2)) (TBin rSub (TBin L3.rIx (TVar 0) (TC (.int 2))) (TC (.int 1)))) (TRet (TVar 2))))) (TNext)) (TSeq (TSetIx (TVar 0) (TC (.int 1)) (TBin rMod (TBin rMul (TBin rPlus (TBin L3.rIx (TVar 0) (TC (.int 1))) (TC (.int 39373))) (TC (.int 48271))) (TC (.int 2147483647)))) (TSeq (TAsg (TBin rMod (TBin rMul (TBin L3.rIx (TVar 0) (TC (.int 1))) (TBin rPlus (TBin rMod (TBin L3.rIx (TVar 0) (TC (.int 1))) (TC (.int 40009))) (TC (.int 7)))) (TC (.int 2147483629))) (GName 3)) (TRet (TBin rMod (TBin rDiv (TBin rMod (TBin rMul (TVar 3) (TBin rPlus (TBin rMod (TVar 3) (TC (.int 1009))) (TC (.int 3)))) (TC (.int 998244353))) (TC (.int 7))) (TVar 1)))))
theorem rd_draw : ∀ ds μ Q, sp_draw ds μ Q → t_draw { nx := fun _ μ' => RT Q .non μ', rt := RT Q } (ini 4 ds) μ := by
  intro ds μ Q h
  unfold sp_draw at h
  split at h
  case h_2 => exact h.elim
  rename_i b n
  unfold t_draw
  walk_at "rd"
  obtain ⟨⟨⟨g, s, c, hb, s0, s1⟩, n0, n1⟩, k⟩ := h
  repeat (simp only [kL_of hb]; walk_at "rd")
  have dv : DivOk n := by walk_at "ok"
  have n2 : n ≠ 0 := by omega
  have fin : ∀ g' s' c' : Int, ∀ d : Int, 0 ≤ s' → s' < 2147483647 → 0 ≤ d → d < n → RT Q (.int d) (up μ b (.lst [.int g', .int s', .int c'])) := fun g' s' c' d h1 h2 h3 h4 =>
    ⟨_, .refl _, k d _ h3 h4 ⟨⟨g', s', c', up_same, h1, h2⟩, fun a ha => up_ne ha⟩⟩
  have z0 := fm0 (a := (s + 39373) * 48271) (n := 2147483647) (by decide)
  have z1 := fm1 (a := (s + 39373) * 48271) (n := 2147483647) (by decide)
  have m1 : MulOk (s + 39373) 48271 := by walk_at "ok"
  generalize ((s + 39373) * 48271).fmod 2147483647 = z at *
  have m2 : MulOk z (z.fmod 40009 + 7) := by walk_at "ok"
  have y0 := fm0 (a := z * (z.fmod 40009 + 7)) (n := 2147483629) (by decide)
  have y1 := fm1 (a := z * (z.fmod 40009 + 7)) (n := 2147483629) (by decide)
  generalize (z * (z.fmod 40009 + 7)).fmod 2147483629 = y at *
  have m3 : MulOk y (y.fmod 1009 + 3) := by walk_at "ok"
  have els := fun g' c' => And.intro m1 (And.intro m2 (And.intro m3 (And.intro (show DivOk 7 by walk_at "ok") (And.intro n2 (fin g' z c' (((y * (y.fmod 1009 + 3)).fmod 998244353).fdiv 7 |>.fmod n) z0 z1 (fm0 n0) (fm1 n0))))))
  split
  · split
    · exact ⟨n2, dv, fin _ _ _ _ s0 s1 (fm0 n0) (fm1 n0)⟩
    · exact els g c
  · exact els g c
abbrev sp_low2 : FSp := sp_low
theorem len_low2 : ∀ ds μ Q, sp_low2 ds μ Q → ds.length = 2 := len_low
def t_low2 : STr := TSeq (TAsg (TCall bAbs (TCons (TVar 0) (TNil))) (GName 2)) (TSeq (TAsg (TVar 1) (GName 3)) (TSeq (TWhile (TB (TBin rGt (TVar 3) (TC (.int 0)))) (TPar 2 3 (TCons (TVar 3) (TCons (TBin rMod (TVar 2) (TVar 3)) (TNil))))) (TRet (TTup (TCons (TBin rDiv (TVar 0) (TVar 2)) (TCons (TBin rDiv (TVar 1) (TVar 2)) (TNil)))))))
theorem rd_low2 : ∀ ds μ Q, sp_low2 ds μ Q → t_low2 { nx := fun _ μ' => RT Q .non μ', rt := RT Q } (ini 4 ds) μ := by
  intro ds μ Q h
  have h0 := rd_low ds μ Q h
  unfold sp_low2 sp_low at h
  split at h
  case h_2 => exact h.elim
  unfold t_low at h0
  unfold t_low2
  simp only [TVar, TC, TCons, TNil, TCall, bAbs_i, TSeq, TPar, TAsg, GName, ini, lk, List.map, List.length, Nat.reduceSub, Nat.reduceAdd, List.replicate, List.cons_append, List.nil_append, kO_some, k2_two, List.set] at h0 ⊢
  exact h0
structure FrB (lo hi p q : Int) : Prop where
  q0 : 0 < q
  q1 : q ≤ 10000002
  g : Int.gcd p q = 1
  ge : lo * q ≤ p
  le : p ≤ hi * q
structure FrA (lo hi p q : Int) : Prop extends FrB lo hi p q where
  ab : lo * q < p
structure FrL (hi p q : Int) : Prop extends FrB 0 hi p q where
  ab : 0 < p
  be : p < hi * q
theorem low_parts {a b : Int} (b0 : 0 < b) : ∃ g p q : Int, 0 < g ∧ a = g * p ∧ b = g * q ∧ a.fdiv (Int.gcd a b) = p ∧ b.fdiv (Int.gcd a b) = q ∧ 0 < q ∧ q ≤ b ∧ Int.gcd p q = 1 := by
  have gp : 0 < Int.gcd a b := Int.gcd_pos_of_ne_zero_right a (by omega)
  have gz : 0 < (Int.gcd a b : Int) := by omega
  obtain ⟨c, hc⟩ := Int.gcd_dvd_left a b
  obtain ⟨d, hd⟩ := Int.gcd_dvd_right a b
  have g1 := Int.gcd_ediv_gcd_ediv_gcd gp
  have e1 : a / (Int.gcd a b : Int) = c := Int.ediv_eq_of_eq_mul_right (by omega) hc
  have e2 : b / (Int.gcd a b : Int) = d := Int.ediv_eq_of_eq_mul_right (by omega) hd
  rw [e1, e2] at g1
  refine ⟨_, c, d, gz, hc, hd, by rw [fdiv_pos gz]; exact e1, by rw [fdiv_pos gz]; exact e2, ?_, ?_, g1⟩
  all_goals generalize (Int.gcd a b : Int) = g at *
  · rcases Int.lt_trichotomy d 0 with h | h | h
    · have := Int.mul_neg_of_pos_of_neg gz h; omega
    · subst h; omega
    · exact h
  · have d0 : 0 < d := by
      rcases Int.lt_trichotomy d 0 with h | h | h
      · have := Int.mul_neg_of_pos_of_neg gz h; omega
      · subst h; omega
      · exact h
    have h := Int.mul_le_mul_of_nonneg_right (show (1 : Int) ≤ g by omega) (show (0 : Int) ≤ d by omega)
    omega
theorem low_b {lo hi a b : Int} (b0 : 0 < b) (b1 : b ≤ 10000002) (h1 : lo * b ≤ a) (h2 : a ≤ hi * b) : FrB lo hi (a.fdiv (Int.gcd a b)) (b.fdiv (Int.gcd a b)) := by
  obtain ⟨g, p, q, g0, ea, eb, ep, eq, q0, qb, gg⟩ := low_parts (a := a) b0
  rw [ep, eq]
  subst ea
  have e1 : lo * b = g * (lo * q) := by rw [eb]; ac_rfl
  have e2 : hi * b = g * (hi * q) := by rw [eb]; ac_rfl
  exact ⟨q0, by omega, gg, Int.le_of_mul_le_mul_left (by rw [← e1]; exact h1) g0, Int.le_of_mul_le_mul_left (by rw [← e2]; exact h2) g0⟩
theorem low_a {lo hi a b : Int} (b0 : 0 < b) (b1 : b ≤ 10000002) (h1 : lo * b < a) (h2 : a ≤ hi * b) : FrA lo hi (a.fdiv (Int.gcd a b)) (b.fdiv (Int.gcd a b)) := by
  refine ⟨low_b b0 b1 (by omega) h2, ?_⟩
  obtain ⟨g, p, q, g0, ea, eb, ep, eq, q0, qb, gg⟩ := low_parts (a := a) b0
  rw [ep, eq]
  have e1 : lo * b = g * (lo * q) := by rw [eb]; ac_rfl
  exact Int.lt_of_mul_lt_mul_left (by rw [← e1, ← ea]; exact h1) (by omega)
theorem low_l {hi a b : Int} (b0 : 0 < b) (b1 : b ≤ 10000002) (h1 : 0 < a) (h2 : a < hi * b) : FrL hi (a.fdiv (Int.gcd a b)) (b.fdiv (Int.gcd a b)) := by
  refine ⟨low_b b0 b1 (by omega) (by omega), ?_, ?_⟩
  all_goals
    obtain ⟨g, p, q, g0, ea, eb, ep, eq, q0, qb, gg⟩ := low_parts (a := a) b0
  · rw [ep]
    exact Int.lt_of_mul_lt_mul_left (a := g) (by rw [← ea]; simpa using h1) (by omega)
  · rw [ep, eq]
    have e1 : hi * b = g * (hi * q) := by rw [eb]; ac_rfl
    exact Int.lt_of_mul_lt_mul_left (by rw [← e1, ← ea]; exact h2) (by omega)
def sp_bot : FSp := fun ds μ Q => match ds with
  | [.obj b] => Box μ b ∧ ∀ z μ', 0 < z → z ≤ 10000001 → BoxTo b μ μ' → Q (.int z) μ'
  | _ => False
theorem len_bot : ∀ ds μ Q, sp_bot ds μ Q → ds.length = 1 := by
  intro ds μ Q h
  unfold sp_bot at h
  split at h
  · rfl
  · exact h.elim
def t_bot : STr := TRet (TBin L3.rIx (TLsV (TCons (TC (.int 1)) (TCons (TC (.int 2)) (TCons (TBin rPlus (TC (.int 1)) (TCall sp_draw (TCons (TVar 0) (TCons (TC (.int 12)) (TNil))))) (TCons (TBin rPlus (TC (.int 1)) (TCall sp_draw (TCons (TVar 0) (TCons (TBin rPow (TC (.int 10)) (TC (.int 7))) (TNil))))) (TNil)))))) (TCall sp_draw (TCons (TVar 0) (TCons (TC (.int 4)) (TNil)))))
theorem rd_bot : ∀ ds μ Q, sp_bot ds μ Q → t_bot { nx := fun _ μ' => RT Q .non μ', rt := RT Q } (ini 1 ds) μ := by
  intro ds μ Q h
  unfold sp_bot at h
  split at h
  case h_2 => exact h.elim
  rename_i b
  unfold t_bot
  walk_at "rd"
  obtain ⟨hB, k⟩ := h
  refine draw_intro hB (by decide) (by decide) fun k1 μ1 k10 k11 B1 => ?_
  walk_at "rd"
  refine ⟨⟨by decide, by decide, by decide⟩, draw_intro B1.box (by decide) (by decide) fun k2 μ2 k20 k21 B2 => ?_⟩
  walk_at "rd"
  refine draw_intro B2.box (by decide) (by decide) fun k3 μ3 k30 k31 B3 => ?_
  walk_at "rd"
  obtain ⟨n, en, n0, n1⟩ := at4s (M := 10000001) k30 k31 (a := 1) (b := 2) (c := 1 + k1) (d := 1 + k2) (by decide) (by decide) (by omega) (by omega)
  rw [en]
  walk_at "rd"
  exact ⟨_, .refl _, k _ _ n0 n1 (B1.trans (B2.trans B3))⟩
def sp_between : FSp := fun ds μ Q => match ds with
  | [.obj b, .int lo, .int hi] => (Box μ b ∧ 0 ≤ lo ∧ lo ≤ hi ∧ hi ≤ 100) ∧ ∀ p q μ', FrB lo hi p q → BoxTo b μ μ' → Q (.tup [.int p, .int q]) μ'
  | _ => False
theorem len_between : ∀ ds μ Q, sp_between ds μ Q → ds.length = 3 := by
  intro ds μ Q h
  unfold sp_between at h
  split at h
  · rfl
  · exact h.elim
def t_between : STr := TSeq (TAsg (TCall sp_bot (TCons (TVar 0) (TNil))) (GName 3)) (TSeq (TAsg (TBin rMul (TVar 3) (TBin rSub (TVar 2) (TVar 1))) (GName 4)) (TSeq (TAsg (TCall sp_draw (TCons (TVar 0) (TCons (TBin rPlus (TVar 4) (TC (.int 1))) (TNil)))) (GName 5)) (TRet (TCall sp_low2 (TCons (TBin rPlus (TBin rMul (TVar 3) (TVar 1)) (TBin L3.rIx (TLsV (TCons (TC (.int 0)) (TCons (TVar 4) (TCons (TVar 5) (TCons (TVar 5) (TNil)))))) (TCall sp_draw (TCons (TVar 0) (TCons (TC (.int 4)) (TNil)))))) (TCons (TVar 3) (TNil)))))))
theorem rd_between : ∀ ds μ Q, sp_between ds μ Q → t_between { nx := fun _ μ' => RT Q .non μ', rt := RT Q } (ini 6 ds) μ := by
  intro ds μ Q h
  unfold sp_between at h
  split at h
  case h_2 => exact h.elim
  rename_i b lo hi
  unfold t_between
  walk_at "rd"
  obtain ⟨⟨hB, l0, lh, h1⟩, k⟩ := h
  refine ⟨hB, fun z μ1 z0 z1 B1 => ?_⟩
  have f0 : 0 ≤ z * (hi - lo) := Int.mul_nonneg (by omega) (by omega)
  have f1 : z * (hi - lo) ≤ 10000001 * 100 := Int.mul_le_mul z1 (by omega) (by omega) (by decide)
  have f2 : z * (hi - lo) = hi * z - lo * z := by rw [Int.mul_sub, Int.mul_comm z hi, Int.mul_comm z lo]
  walk_at "rd"
  refine ⟨by walk_at "ok", draw_intro B1.box (by omega) (by omega) fun k2 μ2 k20 k21 B2 => ?_⟩
  walk_at "rd"
  refine ⟨by walk_at "ok", draw_intro B2.box (by decide) (by decide) fun k3 μ3 k30 k31 B3 => ?_⟩
  obtain ⟨n, en, n0, n1⟩ : ∃ n : Int, atD [.int 0, .int (z * (hi - lo)), .int k2, .int k2] k3 = some (.int n) ∧ 0 ≤ n ∧ n ≤ z * (hi - lo) := by
    rcases at4 (a := .int 0) (b := .int (z * (hi - lo))) (c := .int k2) (d := .int k2) k30 k31 with e | e | e | e
    · exact ⟨_, e, by omega, by omega⟩
    · exact ⟨_, e, by omega, by omega⟩
    · exact ⟨_, e, by omega, by omega⟩
    · exact ⟨_, e, by omega, by omega⟩
  walk_at "rd"
  rw [en]
  walk_at "rd"
  have c1 : lo * z ≤ z * lo + n := by rw [Int.mul_comm z lo]; omega
  have c2 : z * lo + n ≤ hi * z := by rw [Int.mul_comm z lo]; omega
  exact ⟨⟨z0, by walk_at "ok"⟩, _, .refl _, k _ _ _ (low_b z0 (by omega) c1 c2) (B1.trans (B2.trans B3))⟩
def sp_above : FSp := fun ds μ Q => match ds with
  | [.obj b, .int lo, .int hi] => (Box μ b ∧ 0 ≤ lo ∧ lo < hi ∧ hi ≤ 100) ∧ ∀ p q μ', FrA lo hi p q → BoxTo b μ μ' → Q (.tup [.int p, .int q]) μ'
  | _ => False
theorem len_above : ∀ ds μ Q, sp_above ds μ Q → ds.length = 3 := by
  intro ds μ Q h
  unfold sp_above at h
  split at h
  · rfl
  · exact h.elim
def t_above : STr := TSeq (TAsg (TCall sp_bot (TCons (TVar 0) (TNil))) (GName 3)) (TSeq (TAsg (TBin rMul (TVar 3) (TBin rSub (TVar 2) (TVar 1))) (GName 4)) (TSeq (TAsg (TBin rPlus (TC (.int 1)) (TCall sp_draw (TCons (TVar 0) (TCons (TVar 4) (TNil))))) (GName 5)) (TRet (TCall sp_low2 (TCons (TBin rPlus (TBin rMul (TVar 3) (TVar 1)) (TBin L3.rIx (TLsV (TCons (TC (.int 1)) (TCons (TVar 4) (TCons (TVar 5) (TCons (TVar 5) (TNil)))))) (TCall sp_draw (TCons (TVar 0) (TCons (TC (.int 4)) (TNil)))))) (TCons (TVar 3) (TNil)))))))
theorem rd_above : ∀ ds μ Q, sp_above ds μ Q → t_above { nx := fun _ μ' => RT Q .non μ', rt := RT Q } (ini 6 ds) μ := by
  intro ds μ Q h
  unfold sp_above at h
  split at h
  case h_2 => exact h.elim
  rename_i b lo hi
  unfold t_above
  walk_at "rd"
  obtain ⟨⟨hB, l0, lh, h1⟩, k⟩ := h
  refine ⟨hB, fun z μ1 z0 z1 B1 => ?_⟩
  have f0 : 0 < z * (hi - lo) := Int.mul_pos (by omega) (by omega)
  have f1 : z * (hi - lo) ≤ 10000001 * 100 := Int.mul_le_mul z1 (by omega) (by omega) (by decide)
  have f2 : z * (hi - lo) = hi * z - lo * z := by rw [Int.mul_sub, Int.mul_comm z hi, Int.mul_comm z lo]
  walk_at "rd"
  refine ⟨by walk_at "ok", draw_intro B1.box f0 (by omega) fun k2 μ2 k20 k21 B2 => ?_⟩
  walk_at "rd"
  refine ⟨by walk_at "ok", draw_intro B2.box (by decide) (by decide) fun k3 μ3 k30 k31 B3 => ?_⟩
  obtain ⟨n, en, n0, n1⟩ : ∃ n : Int, atD [.int 1, .int (z * (hi - lo)), .int (1 + k2), .int (1 + k2)] k3 = some (.int n) ∧ 0 < n ∧ n ≤ z * (hi - lo) := by
    rcases at4 (a := .int 1) (b := .int (z * (hi - lo))) (c := .int (1 + k2)) (d := .int (1 + k2)) k30 k31 with e | e | e | e
    · exact ⟨_, e, by omega, by omega⟩
    · exact ⟨_, e, by omega, by omega⟩
    · exact ⟨_, e, by omega, by omega⟩
    · exact ⟨_, e, by omega, by omega⟩
  walk_at "rd"
  rw [en]
  walk_at "rd"
  have c1 : lo * z < z * lo + n := by rw [Int.mul_comm z lo]; omega
  have c2 : z * lo + n ≤ hi * z := by rw [Int.mul_comm z lo]; omega
  exact ⟨⟨z0, by walk_at "ok"⟩, _, .refl _, k _ _ _ (low_a z0 (by omega) c1 c2) (B1.trans (B2.trans B3))⟩
def sp_lto : FSp := fun ds μ Q => match ds with
  | [.obj b] => Box μ b ∧ ∀ p q μ', FrL 1 p q → BoxTo b μ μ' → Q (.tup [.int p, .int q]) μ'
  | _ => False
theorem len_lto : ∀ ds μ Q, sp_lto ds μ Q → ds.length = 1 := by
  intro ds μ Q h
  unfold sp_lto at h
  split at h
  · rfl
  · exact h.elim
def t_lto : STr := TSeq (TAsg (TBin rPlus (TC (.int 1)) (TCall sp_bot (TCons (TVar 0) (TNil)))) (GName 1)) (TSeq (TAsg (TBin rPlus (TC (.int 1)) (TCall sp_draw (TCons (TVar 0) (TCons (TBin rSub (TVar 1) (TC (.int 1))) (TNil))))) (GName 2)) (TRet (TCall sp_low2 (TCons (TBin L3.rIx (TLsV (TCons (TC (.int 1)) (TCons (TBin rSub (TVar 1) (TC (.int 1))) (TCons (TVar 2) (TCons (TVar 2) (TNil)))))) (TCall sp_draw (TCons (TVar 0) (TCons (TC (.int 4)) (TNil))))) (TCons (TVar 1) (TNil))))))
theorem rd_lto : ∀ ds μ Q, sp_lto ds μ Q → t_lto { nx := fun _ μ' => RT Q .non μ', rt := RT Q } (ini 3 ds) μ := by
  intro ds μ Q h
  unfold sp_lto at h
  split at h
  case h_2 => exact h.elim
  rename_i b
  unfold t_lto
  walk_at "rd"
  obtain ⟨hB, k⟩ := h
  refine ⟨hB, fun z μ1 z0 z1 B1 => ?_⟩
  walk_at "rd"
  refine draw_intro B1.box (by omega) (by omega) fun k2 μ2 k20 k21 B2 => ?_
  walk_at "rd"
  refine draw_intro B2.box (by decide) (by decide) fun k3 μ3 k30 k31 B3 => ?_
  obtain ⟨n, en, n0, n1⟩ : ∃ n : Int, atD [.int 1, .int (1 + z - 1), .int (1 + k2), .int (1 + k2)] k3 = some (.int n) ∧ 0 < n ∧ n ≤ z := by
    rcases at4 (a := .int 1) (b := .int (1 + z - 1)) (c := .int (1 + k2)) (d := .int (1 + k2)) k30 k31 with e | e | e | e
    · exact ⟨_, e, by omega, by omega⟩
    · exact ⟨_, e, by omega, by omega⟩
    · exact ⟨_, e, by omega, by omega⟩
    · exact ⟨_, e, by omega, by omega⟩
  walk_at "rd"
  rw [en]
  walk_at "rd"
  exact ⟨⟨by omega, by walk_at "ok"⟩, _, .refl _, k _ _ _ (low_l (by omega) (by omega) n0 (by omega)) (B1.trans (B2.trans B3))⟩
theorem ne_still_step : (Str.ofString "still" = Str.ofString "step") = False := eq_false (by decide +kernel)
theorem ne_still_swell : (Str.ofString "still" = Str.ofString "swell") = False := eq_false (by decide +kernel)
theorem ne_still_heed : (Str.ofString "still" = Str.ofString "heed") = False := eq_false (by decide +kernel)
theorem ne_still_calm : (Str.ofString "still" = Str.ofString "calm") = False := eq_false (by decide +kernel)
theorem ne_step_still : (Str.ofString "step" = Str.ofString "still") = False := eq_false (by decide +kernel)
theorem ne_step_swell : (Str.ofString "step" = Str.ofString "swell") = False := eq_false (by decide +kernel)
theorem ne_step_heed : (Str.ofString "step" = Str.ofString "heed") = False := eq_false (by decide +kernel)
theorem ne_step_calm : (Str.ofString "step" = Str.ofString "calm") = False := eq_false (by decide +kernel)
theorem ne_swell_still : (Str.ofString "swell" = Str.ofString "still") = False := eq_false (by decide +kernel)
theorem ne_swell_step : (Str.ofString "swell" = Str.ofString "step") = False := eq_false (by decide +kernel)
theorem ne_swell_heed : (Str.ofString "swell" = Str.ofString "heed") = False := eq_false (by decide +kernel)
theorem ne_swell_calm : (Str.ofString "swell" = Str.ofString "calm") = False := eq_false (by decide +kernel)
theorem ne_heed_still : (Str.ofString "heed" = Str.ofString "still") = False := eq_false (by decide +kernel)
theorem ne_heed_step : (Str.ofString "heed" = Str.ofString "step") = False := eq_false (by decide +kernel)
theorem ne_heed_swell : (Str.ofString "heed" = Str.ofString "swell") = False := eq_false (by decide +kernel)
theorem ne_heed_calm : (Str.ofString "heed" = Str.ofString "calm") = False := eq_false (by decide +kernel)
theorem ne_calm_still : (Str.ofString "calm" = Str.ofString "still") = False := eq_false (by decide +kernel)
theorem ne_calm_step : (Str.ofString "calm" = Str.ofString "step") = False := eq_false (by decide +kernel)
theorem ne_calm_swell : (Str.ofString "calm" = Str.ofString "swell") = False := eq_false (by decide +kernel)
theorem ne_calm_heed : (Str.ofString "calm" = Str.ofString "heed") = False := eq_false (by decide +kernel)
theorem sok_still : PyData.strOk (Str.ofString "still") = true := by decide +kernel
theorem sok_step : PyData.strOk (Str.ofString "step") = true := by decide +kernel
theorem sok_swell : PyData.strOk (Str.ofString "swell") = true := by decide +kernel
theorem sok_heed : PyData.strOk (Str.ofString "heed") = true := by decide +kernel
theorem sok_calm : PyData.strOk (Str.ofString "calm") = true := by decide +kernel
abbrev fr (p q : Int) : D := .tup [.int p, .int q]
inductive Rule : Str → D → Prop
  | still {p q : Int} (w : FrB 1 60 p q) : Rule (Str.ofString "still") (.tup [.str (Str.ofString "still"), fr p q])
  | calm {p q r s x y l h : Int} (w : FrB 1 60 p q) (t : FrB 1 60 r s) (wt : p * s ≤ r * q) (u : FrA 0 60 x y) (l0 : 0 ≤ l) (lh : l ≤ h) (h1 : h ≤ 60) : Rule (Str.ofString "calm") (.tup [.str (Str.ofString "calm"), fr p q, fr x y, .int l, .int h, fr r s])
  | heed {p q r s x y a b : Int} (w : FrB 1 60 p q) (t : FrB 1 60 r s) (wt : p * s ≤ r * q) (u : FrA 0 60 x y) (g : FrA 0 1 a b) : Rule (Str.ofString "heed") (.tup [.str (Str.ofString "heed"), fr p q, fr x y, fr a b, fr r s])
  | step {p q r s x y a b : Int} (w : FrB 1 60 p q) (t : FrB 1 60 r s) (wt : p * s ≤ r * q) (u : FrA 0 60 x y) (g : FrL 1 a b) : Rule (Str.ofString "step") (.tup [.str (Str.ofString "step"), fr p q, fr x y, fr a b, fr r s])
  | swell {p q r s x y a b : Int} (w : FrB 1 60 p q) (t : FrB 1 60 r s) (wt : p * s ≤ r * q) (u : FrA 1 60 x y) (g : FrL 1 a b) : Rule (Str.ofString "swell") (.tup [.str (Str.ofString "swell"), fr p q, fr x y, fr a b, fr r s])
def words5 : List Str := [Str.ofString "still", Str.ofString "step", Str.ofString "swell", Str.ofString "heed", Str.ofString "calm"]
theorem frb_s {lo hi p q : Int} (h : FrB lo hi p q) (h0 : 0 ≤ lo) (h1 : hi ≤ 100) : S64 p ∧ S64 q := by
  have := h.q0; have := h.q1
  have e1 := h.ge; have e2 := h.le
  have a1 : 0 ≤ lo * q := Int.mul_nonneg h0 (by omega)
  have a2 : hi * q ≤ 100 * q := Int.mul_le_mul_of_nonneg_right h1 (by omega)
  unfold S64; omega
def sp_rule : FSp := fun ds μ Q => match ds with
  | [.obj b, .str w] => (Box μ b ∧ w ∈ words5) ∧ ∀ d μ', Rule w d → BoxTo b μ μ' → Q d μ'
  | _ => False
theorem len_rule : ∀ ds μ Q, sp_rule ds μ Q → ds.length = 2 := by
  intro ds μ Q h
  unfold sp_rule at h
  split at h
  · rfl
  · exact h.elim
def t_rule : STr := TSeq (TAsg (TCall sp_between (TCons (TVar 0) (TCons (TC (.int 1)) (TCons (TC (.int 60)) (TNil))))) (GName 2)) (TSeq (TAsg (TCall sp_between (TCons (TVar 0) (TCons (TC (.int 1)) (TCons (TC (.int 60)) (TNil))))) (GName 3)) (TSeq (TIfS (TB (TBin rGt (TBin rMul (TBin L3.rIx (TVar 2) (TC (.int 0))) (TBin L3.rIx (TVar 3) (TC (.int 1)))) (TBin rMul (TBin L3.rIx (TVar 3) (TC (.int 0))) (TBin L3.rIx (TVar 2) (TC (.int 1)))))) (TPar 2 3 (TCons (TVar 3) (TCons (TVar 2) (TNil)))) (TNext)) (TSeq (TIfS (TB (TBin rEq (TVar 1) (TC (.str (Str.ofString "still"))))) (TRet (TTup (TCons (TVar 1) (TCons (TVar 2) (TNil))))) (TNext)) (TSeq (TIfS (TB (TBin rEq (TVar 1) (TC (.str (Str.ofString "calm"))))) (TSeq (TAsg (TCall sp_draw (TCons (TVar 0) (TCons (TC (.int 61)) (TNil)))) (GName 4)) (TSeq (TAsg (TBin rPlus (TVar 4) (TCall sp_draw (TCons (TVar 0) (TCons (TBin rSub (TC (.int 61)) (TVar 4)) (TNil))))) (GName 5)) (TRet (TTup (TCons (TVar 1) (TCons (TVar 2) (TCons (TCall sp_above (TCons (TVar 0) (TCons (TC (.int 0)) (TCons (TC (.int 60)) (TNil))))) (TCons (TVar 4) (TCons (TVar 5) (TCons (TVar 3) (TNil))))))))))) (TNext)) (TSeq (TIfS (TB (TBin rEq (TVar 1) (TC (.str (Str.ofString "heed"))))) (TRet (TTup (TCons (TVar 1) (TCons (TVar 2) (TCons (TCall sp_above (TCons (TVar 0) (TCons (TC (.int 0)) (TCons (TC (.int 60)) (TNil))))) (TCons (TCall sp_above (TCons (TVar 0) (TCons (TC (.int 0)) (TCons (TC (.int 1)) (TNil))))) (TCons (TVar 3) (TNil)))))))) (TNext)) (TSeq (TAsg (TCall sp_above (TCons (TVar 0) (TCons (TCall bInt (TCons (TBin rEq (TVar 1) (TC (.str (Str.ofString "swell")))) (TNil))) (TCons (TC (.int 60)) (TNil))))) (GName 6)) (TRet (TTup (TCons (TVar 1) (TCons (TVar 2) (TCons (TVar 6) (TCons (TCall sp_lto (TCons (TVar 0) (TNil))) (TCons (TVar 3) (TNil))))))))))))))
theorem rd_rule : ∀ ds μ Q, sp_rule ds μ Q → t_rule { nx := fun _ μ' => RT Q .non μ', rt := RT Q } (ini 7 ds) μ := by
  intro ds μ Q h
  unfold sp_rule at h
  split at h
  case h_2 => exact h.elim
  rename_i b w
  unfold t_rule
  walk_at "rd"
  obtain ⟨⟨hB, hw⟩, k⟩ := h
  refine ⟨⟨hB, by decide, by decide, by decide⟩, fun p0 q0 μ1 F0 B1 => ?_⟩
  refine ⟨⟨B1.box, by decide, by decide, by decide⟩, fun r0 s0 μ2 G0 B2 => ?_⟩
  have B12 := B1.trans B2
  walk_at "rd"
  obtain ⟨P1, P2⟩ := frb_s F0 (by decide) (by decide)
  obtain ⟨R1, R2⟩ := frb_s G0 (by decide) (by decide)
  refine ⟨.inl (.inl P1), .inl (.inl R1), ?_⟩
  simp only [words5, List.mem_cons, List.not_mem_nil, or_false] at hw
  split
  all_goals
    rename_i hc
    have wt1 := Int.le_of_lt (show (0 : Int) < 1 by decide)
    rcases hw with rfl | rfl | rfl | rfl | rfl
    all_goals simp only [ne_still_step, ne_still_swell, ne_still_heed, ne_still_calm, ne_step_still, ne_step_swell, ne_step_heed, ne_step_calm, ne_swell_still, ne_swell_step, ne_swell_heed, ne_swell_calm, ne_heed_still, ne_heed_step, ne_heed_swell, ne_heed_calm, ne_calm_still, ne_calm_step, ne_calm_swell, ne_calm_heed, sok_still, sok_step, sok_swell, sok_heed, sok_calm, eq_self, if_true, if_false, and_self, true_and, and_true]
  · exact ⟨_, .refl _, k _ _ (.still G0) B12⟩
  · refine ⟨⟨B2.box, by decide, by decide, by decide⟩, fun x y μ3 U B3 => ⟨B3.box, fun a c μ4 L B4 => ⟨_, .refl _, k _ _ (.step G0 F0 (by omega) U L) (B12.trans (B3.trans B4))⟩⟩⟩
  · refine ⟨⟨B2.box, by decide, by decide, by decide⟩, fun x y μ3 U B3 => ⟨B3.box, fun a c μ4 L B4 => ⟨_, .refl _, k _ _ (.swell G0 F0 (by omega) U L) (B12.trans (B3.trans B4))⟩⟩⟩
  · refine ⟨⟨B2.box, by decide, by decide, by decide⟩, fun x y μ3 U B3 => ⟨⟨B3.box, by decide, by decide, by decide⟩, fun a c μ4 L B4 => ⟨_, .refl _, k _ _ (.heed G0 F0 (by omega) U L) (B12.trans (B3.trans B4))⟩⟩⟩
  · refine draw_intro B2.box (by decide) (by decide) fun l μ3 l0 l1 B3 => ?_
    walk_at "rd"
    refine draw_intro B3.box (by omega) (by omega) fun e μ4 e0 e1 B4 => ?_
    walk_at "rd"
    refine ⟨⟨B4.box, by decide, by decide, by decide⟩, fun x y μ5 U B5 => ⟨_, .refl _, k _ _ (.calm G0 F0 (by omega) U l0 (by omega) (by omega)) (B12.trans (B3.trans (B4.trans B5)))⟩⟩
  · exact ⟨_, .refl _, k _ _ (.still F0) B12⟩
  · refine ⟨⟨B2.box, by decide, by decide, by decide⟩, fun x y μ3 U B3 => ⟨B3.box, fun a c μ4 L B4 => ⟨_, .refl _, k _ _ (.step F0 G0 (by omega) U L) (B12.trans (B3.trans B4))⟩⟩⟩
  · refine ⟨⟨B2.box, by decide, by decide, by decide⟩, fun x y μ3 U B3 => ⟨B3.box, fun a c μ4 L B4 => ⟨_, .refl _, k _ _ (.swell F0 G0 (by omega) U L) (B12.trans (B3.trans B4))⟩⟩⟩
  · refine ⟨⟨B2.box, by decide, by decide, by decide⟩, fun x y μ3 U B3 => ⟨⟨B3.box, by decide, by decide, by decide⟩, fun a c μ4 L B4 => ⟨_, .refl _, k _ _ (.heed F0 G0 (by omega) U L) (B12.trans (B3.trans B4))⟩⟩⟩
  · refine draw_intro B2.box (by decide) (by decide) fun l μ3 l0 l1 B3 => ?_
    walk_at "rd"
    refine draw_intro B3.box (by omega) (by omega) fun e μ4 e0 e1 B4 => ?_
    walk_at "rd"
    refine ⟨⟨B4.box, by decide, by decide, by decide⟩, fun x y μ5 U B5 => ⟨_, .refl _, k _ _ (.calm F0 G0 (by omega) U l0 (by omega) (by omega)) (B12.trans (B3.trans (B4.trans B5)))⟩⟩
end L3
set_option Elab.async false
set_option linter.all false
namespace L3
open PySem
theorem de_still_step (i : Decidable (Str.ofString "still" = Str.ofString "step")) : @decide (Str.ofString "still" = Str.ofString "step") i = false := by cases i with | isTrue h => exact absurd h (by rw [ne_still_step]; exact not_false) | isFalse _ => rfl
theorem de_still_swell (i : Decidable (Str.ofString "still" = Str.ofString "swell")) : @decide (Str.ofString "still" = Str.ofString "swell") i = false := by cases i with | isTrue h => exact absurd h (by rw [ne_still_swell]; exact not_false) | isFalse _ => rfl
theorem de_still_heed (i : Decidable (Str.ofString "still" = Str.ofString "heed")) : @decide (Str.ofString "still" = Str.ofString "heed") i = false := by cases i with | isTrue h => exact absurd h (by rw [ne_still_heed]; exact not_false) | isFalse _ => rfl
theorem de_still_calm (i : Decidable (Str.ofString "still" = Str.ofString "calm")) : @decide (Str.ofString "still" = Str.ofString "calm") i = false := by cases i with | isTrue h => exact absurd h (by rw [ne_still_calm]; exact not_false) | isFalse _ => rfl
theorem de_step_still (i : Decidable (Str.ofString "step" = Str.ofString "still")) : @decide (Str.ofString "step" = Str.ofString "still") i = false := by cases i with | isTrue h => exact absurd h (by rw [ne_step_still]; exact not_false) | isFalse _ => rfl
theorem de_step_swell (i : Decidable (Str.ofString "step" = Str.ofString "swell")) : @decide (Str.ofString "step" = Str.ofString "swell") i = false := by cases i with | isTrue h => exact absurd h (by rw [ne_step_swell]; exact not_false) | isFalse _ => rfl
theorem de_step_heed (i : Decidable (Str.ofString "step" = Str.ofString "heed")) : @decide (Str.ofString "step" = Str.ofString "heed") i = false := by cases i with | isTrue h => exact absurd h (by rw [ne_step_heed]; exact not_false) | isFalse _ => rfl
theorem de_step_calm (i : Decidable (Str.ofString "step" = Str.ofString "calm")) : @decide (Str.ofString "step" = Str.ofString "calm") i = false := by cases i with | isTrue h => exact absurd h (by rw [ne_step_calm]; exact not_false) | isFalse _ => rfl
theorem de_swell_still (i : Decidable (Str.ofString "swell" = Str.ofString "still")) : @decide (Str.ofString "swell" = Str.ofString "still") i = false := by cases i with | isTrue h => exact absurd h (by rw [ne_swell_still]; exact not_false) | isFalse _ => rfl
theorem de_swell_step (i : Decidable (Str.ofString "swell" = Str.ofString "step")) : @decide (Str.ofString "swell" = Str.ofString "step") i = false := by cases i with | isTrue h => exact absurd h (by rw [ne_swell_step]; exact not_false) | isFalse _ => rfl
theorem de_swell_heed (i : Decidable (Str.ofString "swell" = Str.ofString "heed")) : @decide (Str.ofString "swell" = Str.ofString "heed") i = false := by cases i with | isTrue h => exact absurd h (by rw [ne_swell_heed]; exact not_false) | isFalse _ => rfl
theorem de_swell_calm (i : Decidable (Str.ofString "swell" = Str.ofString "calm")) : @decide (Str.ofString "swell" = Str.ofString "calm") i = false := by cases i with | isTrue h => exact absurd h (by rw [ne_swell_calm]; exact not_false) | isFalse _ => rfl
theorem de_heed_still (i : Decidable (Str.ofString "heed" = Str.ofString "still")) : @decide (Str.ofString "heed" = Str.ofString "still") i = false := by cases i with | isTrue h => exact absurd h (by rw [ne_heed_still]; exact not_false) | isFalse _ => rfl
theorem de_heed_step (i : Decidable (Str.ofString "heed" = Str.ofString "step")) : @decide (Str.ofString "heed" = Str.ofString "step") i = false := by cases i with | isTrue h => exact absurd h (by rw [ne_heed_step]; exact not_false) | isFalse _ => rfl
theorem de_heed_swell (i : Decidable (Str.ofString "heed" = Str.ofString "swell")) : @decide (Str.ofString "heed" = Str.ofString "swell") i = false := by cases i with | isTrue h => exact absurd h (by rw [ne_heed_swell]; exact not_false) | isFalse _ => rfl
theorem de_heed_calm (i : Decidable (Str.ofString "heed" = Str.ofString "calm")) : @decide (Str.ofString "heed" = Str.ofString "calm") i = false := by cases i with | isTrue h => exact absurd h (by rw [ne_heed_calm]; exact not_false) | isFalse _ => rfl
theorem de_calm_still (i : Decidable (Str.ofString "calm" = Str.ofString "still")) : @decide (Str.ofString "calm" = Str.ofString "still") i = false := by cases i with | isTrue h => exact absurd h (by rw [ne_calm_still]; exact not_false) | isFalse _ => rfl
theorem de_calm_step (i : Decidable (Str.ofString "calm" = Str.ofString "step")) : @decide (Str.ofString "calm" = Str.ofString "step") i = false := by cases i with | isTrue h => exact absurd h (by rw [ne_calm_step]; exact not_false) | isFalse _ => rfl
theorem de_calm_swell (i : Decidable (Str.ofString "calm" = Str.ofString "swell")) : @decide (Str.ofString "calm" = Str.ofString "swell") i = false := by cases i with | isTrue h => exact absurd h (by rw [ne_calm_swell]; exact not_false) | isFalse _ => rfl
theorem de_calm_heed (i : Decidable (Str.ofString "calm" = Str.ofString "heed")) : @decide (Str.ofString "calm" = Str.ofString "heed") i = false := by cases i with | isTrue h => exact absurd h (by rw [ne_calm_heed]; exact not_false) | isFalse _ => rfl
theorem de_same (a : Str) (i : Decidable (a = a)) : @decide (a = a) i = true := by cases i with | isTrue _ => rfl | isFalse h => exact absurd rfl h
end L3
set_option Elab.async false
set_option linter.all false
set_option maxRecDepth 100000
set_option maxHeartbeats 4000000
namespace L3
open PySem
theorem IsPart.of_eq {a b c d x y : Int} (h : IsPart a b x y) (hb : 0 < b) (hd : 0 < d) (e : a * d = c * b) : IsPart c d x y := by
  have xd : x * d = c * y := by
    refine Int.eq_of_mul_eq_mul_right (a := b) (by omega) ?_
    calc x * d * b = (x * b) * d := by ac_rfl
      _ = (a * y) * d := by rw [h.e]
      _ = (a * d) * y := by ac_rfl
      _ = (c * b) * y := by rw [e]
      _ = c * y * b := by ac_rfl
  have y0 := h.q0
  have dx : x ∣ c := by
    have : x ∣ y * c := ⟨d, by rw [Int.mul_comm y c]; exact xd.symm⟩
    have h' := Int.dvd_gcd_mul_iff_dvd_mul.mpr this
    rw [h.g] at h'
    simpa using h'
  have dy : y ∣ d := by
    have : y ∣ x * d := ⟨c, by rw [xd, Int.mul_comm]⟩
    have h' := Int.dvd_gcd_mul_iff_dvd_mul.mpr this
    rw [Int.gcd_comm, h.g] at h'
    simpa using h'
  refine ⟨h.q0, h.g, xd, ?_, Nat.le_of_dvd (by omega) (Int.natAbs_dvd_natAbs.mpr dy)⟩
  by_cases hc : c = 0
  · subst hc
    have : x = 0 := by
      rcases Int.mul_eq_zero.mp (show x * d = 0 by rw [xd, Int.zero_mul]) with z | z
      · exact z
      · omega
    rw [this]; exact Nat.le_refl _
  · exact Nat.le_of_dvd (by omega) (Int.natAbs_dvd_natAbs.mpr dx)
structure Vl (d : D) (a b : Int) : Prop where
  ex : ∃ p q, d = fr p q ∧ IsPart a b p q
  b0 : 0 < b
theorem Vl.of_eq {d : D} {a b a' b' : Int} (h : Vl d a b) (hb : 0 < b') (e : a * b' = a' * b) : Vl d a' b' := by
  obtain ⟨⟨p, q, rfl, P⟩, b0⟩ := h
  exact ⟨⟨p, q, rfl, P.of_eq b0 hb e⟩, hb⟩
theorem Vl.uniq {d d' : D} {a b : Int} (h : Vl d a b) (h' : Vl d' a b) : d = d' := by
  obtain ⟨⟨p, q, rfl, P⟩, b0⟩ := h
  obtain ⟨⟨p', q', rfl, P'⟩, _⟩ := h'
  obtain ⟨rfl, rfl⟩ := P.same P' (by omega) (by omega) rfl
  rfl
theorem vl_low (a : Int) {b : Int} (b0 : 0 < b) : Vl (.tup [.int (a.fdiv (Int.gcd a b)), .int (b.fdiv (Int.gcd a b))]) a b := by
  have h := part_mk (a := a) (b := b) (by omega)
  rw [if_neg (by omega)] at h
  exact ⟨⟨_, _, rfl, h⟩, b0⟩
theorem vl_frb {lo hi p q : Int} (h : FrB lo hi p q) : Vl (fr p q) p q := ⟨⟨p, q, rfl, h.q0, h.g, rfl, Nat.le_refl _, Nat.le_refl _⟩, h.q0⟩
theorem vl_part {a b x y : Int} (h : IsPart a b x y) (b0 : 0 < b) : Vl (fr x y) a b := ⟨⟨x, y, rfl, h⟩, b0⟩
theorem fl_eq {p q a b : Int} (g : Int) (q0 : 0 < q) (b0 : 0 < b) (e : p * b = a * q) : p * g / q = a * g / b := by
  calc p * g / q = (p * g) * b / (q * b) := (Int.mul_ediv_mul_of_pos_left _ _ b0).symm
    _ = (a * g) * q / (b * q) := by rw [show p * g * b = (p * b) * g by ac_rfl, e, Int.mul_comm q b, show a * q * g = a * g * q by ac_rfl]
    _ = a * g / b := Int.mul_ediv_mul_of_pos_left _ _ q0
theorem fr_lt {p q r s a b c e : Int} (q0 : 0 < q) (s0 : 0 < s) (b0 : 0 < b) (e0 : 0 < e) (h1 : p * b = a * q) (h2 : r * e = c * s) : (p * s < r * q) ↔ (a * e < c * b) := by
  have k1 : (p * s) * (b * e) = (a * e) * (q * s) := by
    calc (p * s) * (b * e) = (p * b) * (s * e) := by ac_rfl
      _ = (a * q) * (s * e) := by rw [h1]
      _ = (a * e) * (q * s) := by ac_rfl
  have k2 : (r * q) * (b * e) = (c * b) * (q * s) := by
    calc (r * q) * (b * e) = (r * e) * (q * b) := by ac_rfl
      _ = (c * s) * (q * b) := by rw [h2]
      _ = (c * b) * (q * s) := by ac_rfl
  have be : 0 < b * e := Int.mul_pos b0 e0
  have qs : 0 < q * s := Int.mul_pos q0 s0
  constructor
  · intro h
    have := Int.mul_lt_mul_of_pos_right h be
    rw [k1, k2] at this
    exact Int.lt_of_mul_lt_mul_right this (Int.le_of_lt qs)
  · intro h
    have := Int.mul_lt_mul_of_pos_right h qs
    rw [← k1, ← k2] at this
    exact Int.lt_of_mul_lt_mul_right this (Int.le_of_lt be)
def Le (a A : Int) : Prop := -A ≤ a ∧ a ≤ A
theorem Le.mono {a A B : Int} (h : Le a A) (hb : A ≤ B) : Le a B := ⟨by have := h.1; omega, by have := h.2; omega⟩
theorem Le.of {a A : Int} (h0 : 0 ≤ a) (h1 : a ≤ A) : Le a A := ⟨by omega, h1⟩
theorem Le.add {a b A B : Int} (h : Le a A) (k : Le b B) : Le (a + b) (A + B) := ⟨by have := h.1; have := k.1; omega, by have := h.2; have := k.2; omega⟩
theorem Le.sub {a b A B : Int} (h : Le a A) (k : Le b B) : Le (a - b) (A + B) := ⟨by have := h.1; have := k.2; omega, by have := h.2; have := k.1; omega⟩
theorem Le.neg {a A : Int} (h : Le a A) : Le (-a) A := ⟨by have := h.2; omega, by have := h.1; omega⟩
theorem Le.abs {a A : Int} (h : Le a A) : (a.natAbs : Int) ≤ A := by have := h.1; have := h.2; omega
theorem Le.ofAbs {a A : Int} (h : (a.natAbs : Int) ≤ A) : Le a A := ⟨by omega, by omega⟩
theorem Le.mul {a b A B : Int} (h : Le a A) (k : Le b B) : Le (a * b) (A * B) := by
  refine .ofAbs ?_
  rw [Int.natAbs_mul, Int.natCast_mul]
  have a0 : (0 : Int) ≤ (a.natAbs : Int) := Int.natCast_nonneg _
  have b0 : (0 : Int) ≤ (b.natAbs : Int) := Int.natCast_nonneg _
  exact Int.mul_le_mul h.abs k.abs b0 (Int.le_trans a0 h.abs)
abbrev Bd (a : Int) : Prop := Le a 1000000000000000000000000000000
theorem Bd.m {a : Int} (h : Bd a) : M256 a := by have := h.1; have := h.2; unfold M256; omega
theorem Bd.mm {a b : Int} (h : Bd a) (k : Bd b) : M256 (a * b) := by
  have := (h.mul k).1; have := (h.mul k).2
  unfold M256; omega
theorem Bd.mul {a b : Int} (h : Bd a) (k : Bd b) : MulOk a b := .inr ⟨h.m, k.m⟩
theorem IsPart.bp {a b x y : Int} (h : IsPart a b x y) (ha : Bd a) : Bd x := .ofAbs (by have := h.pa; have := ha.abs; omega)
theorem IsPart.bq {a b x y : Int} (h : IsPart a b x y) (hb : Bd b) : Bd y := .ofAbs (by have := h.qb; have := hb.abs; omega)
inductive Wd | still | step | swell | heed | calm
  deriving DecidableEq
structure RN where
  wd : Wd
  p : Int
  q : Int
  x : Int
  y : Int
  a : Int
  b : Int
  l : Int
  h : Int
  r : Int
  s : Int
def Wd.str : Wd → Str
  | .still => Str.ofString "still"
  | .step => Str.ofString "step"
  | .swell => Str.ofString "swell"
  | .heed => Str.ofString "heed"
  | .calm => Str.ofString "calm"
def RN.toD (R : RN) : D := match R.wd with
  | .still => .tup [.str (Str.ofString "still"), fr R.p R.q]
  | .step => .tup [.str (Str.ofString "step"), fr R.p R.q, fr R.x R.y, fr R.a R.b, fr R.r R.s]
  | .swell => .tup [.str (Str.ofString "swell"), fr R.p R.q, fr R.x R.y, fr R.a R.b, fr R.r R.s]
  | .heed => .tup [.str (Str.ofString "heed"), fr R.p R.q, fr R.x R.y, fr R.a R.b, fr R.r R.s]
  | .calm => .tup [.str (Str.ofString "calm"), fr R.p R.q, fr R.x R.y, .int R.l, .int R.h, fr R.r R.s]
structure RN.Ok (R : RN) : Prop where
  w : FrB 1 60 R.p R.q
  t : FrB 1 60 R.r R.s
  wt : R.p * R.s ≤ R.r * R.q
  u : FrA 0 60 R.x R.y
  u1 : R.wd = .swell → R.y < R.x
  g : FrA 0 1 R.a R.b
  d1 : R.wd = .step ∨ R.wd = .swell → R.a < R.b
  l0 : 0 ≤ R.l
  lh : R.l ≤ R.h
  h1 : R.h ≤ 60
  st : R.wd = .still → R.r = R.p ∧ R.s = R.q
theorem one1 {lo hi : Int} (h0 : lo < 1) (h1 : 1 ≤ hi) : FrA lo hi 1 1 := ⟨⟨by decide, by decide, by decide, by omega, by omega⟩, by omega⟩
theorem frl_a {p q : Int} (h : FrL 1 p q) : FrA 0 1 p q := ⟨h.toFrB, by have := h.ab; omega⟩
theorem Rule.rn {w : Str} {d : D} (h : Rule w d) : ∃ R : RN, R.Ok ∧ d = R.toD ∧ R.wd.str = w := by
  cases h with
  | @still p q w => exact ⟨⟨.still, p, q, 1, 1, 1, 1, 0, 0, p, q⟩, ⟨w, w, Int.le_refl _, one1 (by decide) (by decide), nofun, one1 (by decide) (by decide), (fun z => by rcases z with z | z <;> cases z), Int.le_refl 0, Int.le_refl 0, (show (0 : Int) ≤ 60 by decide), fun _ => ⟨rfl, rfl⟩⟩, rfl, rfl⟩
  | @calm p q r s x y l h w t wt u l0 lh h1 => exact ⟨⟨.calm, p, q, x, y, 1, 1, l, h, r, s⟩, ⟨w, t, wt, u, nofun, one1 (by decide) (by decide), (fun z => by rcases z with z | z <;> cases z), l0, lh, h1, nofun⟩, rfl, rfl⟩
  | @heed p q r s x y a b w t wt u g => exact ⟨⟨.heed, p, q, x, y, a, b, 0, 0, r, s⟩, ⟨w, t, wt, u, nofun, g, (fun z => by rcases z with z | z <;> cases z), Int.le_refl 0, Int.le_refl 0, (show (0 : Int) ≤ 60 by decide), nofun⟩, rfl, rfl⟩
  | @step p q r s x y a b w t wt u g =>
    have d1 : a < b := by have := g.be; omega
    exact ⟨⟨.step, p, q, x, y, a, b, 0, 0, r, s⟩, ⟨w, t, wt, u, nofun, frl_a g, fun _ => d1, Int.le_refl 0, Int.le_refl 0, (show (0 : Int) ≤ 60 by decide), nofun⟩, rfl, rfl⟩
  | @swell p q r s x y a b w t wt u g =>
    have d1 : a < b := by have := g.be; omega
    have y0 := u.q0
    have u2 := u.ab
    have u3 : FrA 0 60 x y := ⟨⟨u.q0, u.q1, u.g, by omega, u.le⟩, by omega⟩
    exact ⟨⟨.swell, p, q, x, y, a, b, 0, 0, r, s⟩, ⟨w, t, wt, u3, fun _ => (by omega : y < x), frl_a g, fun _ => d1, Int.le_refl 0, Int.le_refl 0, (show (0 : Int) ≤ 60 by decide), nofun⟩, rfl, rfl⟩
structure Hd where
  good : Int
  mark : Int
  lost : Int
  wt : Int
structure Hd.Ok (h : Hd) : Prop where
  g0 : 0 ≤ h.good
  g1 : h.good ≤ 1000000
  m0 : 0 ≤ h.mark
  m1 : h.mark ≤ 1000000
  l0 : 0 ≤ h.lost
  l1 : h.lost ≤ 1000000
  w0 : 0 ≤ h.wt
def Hd.toD (h : Hd) : D := .tup [.int h.good, .int h.mark, .int h.lost, .int h.wt]
def Hd.bad (h : Hd) : Int := h.mark + h.lost
def Hd.many (h : Hd) : Int := h.good + h.bad
def RN.idle (R : RN) (h : Hd) : Prop := R.wd = .still ∨ h.good + h.mark + h.lost = 0
instance (R : RN) (h : Hd) : Decidable (R.idle h) := by unfold RN.idle; infer_instance
def RN.cap (R : RN) (g : Int) : Int := R.r * g / R.s
def RN.shr (R : RN) (g S : Int) (h : Hd) : Int := if R.wd = .heed then (S * R.b * h.many + R.a * (h.bad * g - S * h.many)) / (R.b * h.many) else S
def RN.fac (R : RN) (g S : Int) (h : Hd) : Option (Int × Int) := match R.wd with
  | .still => none
  | .calm => if 0 < h.lost then some (1, 2) else none
  | .heed => if h.bad = 0 then none else some (2 * g - S, 2 * g)
  | .swell => if h.bad = 0 then some (R.x, R.y) else some (R.a, R.b)
  | .step => if h.bad = 0 then none else some (R.a, R.b)
def RN.mvd (R : RN) (g W : Int) (h : Hd) : Int := if R.wd = .calm then (if h.wt < R.l then W * R.y + g * R.x else if R.h < h.wt then W * R.y - g * R.x else W * R.y) else W * R.y + g * R.x
def RN.mv (R : RN) (g W S : Int) (h : Hd) : Int := match R.fac g S h with
  | some f => W * f.1 / f.2
  | none => R.mvd g W h / R.y
def RN.clip (R : RN) (g z : Int) : Int := min (max z g) (R.cap g)
def RN.beh (R : RN) (g W S : Int) (h : Hd) : Int × Int := if R.idle h then (W, S) else (R.clip g (R.mv g W (R.shr g S h) h), R.shr g S h)
theorem cap_ge {R : RN} (k : R.Ok) {g : Int} (g0 : 0 < g) : g ≤ R.cap g := by
  unfold RN.cap
  rw [Int.le_ediv_iff_mul_le k.t.q0]
  have := Int.mul_le_mul_of_nonneg_right k.t.ge (show 0 ≤ g by omega)
  have e : g * R.s = 1 * R.s * g := by rw [Int.one_mul, Int.mul_comm]
  omega
theorem cap_le {R : RN} (k : R.Ok) {g : Int} (g0 : 0 < g) : R.cap g ≤ 60 * g := by
  unfold RN.cap
  refine Int.ediv_le_of_le_mul k.t.q0 ?_
  have := Int.mul_le_mul_of_nonneg_right k.t.le (show 0 ≤ g by omega)
  have e : 60 * g * R.s = 60 * R.s * g := by ac_rfl
  omega
theorem Le.div {a b A : Int} (h : Le a A) (hb : 0 < b) (hA : 0 ≤ A) : Le (a / b) A := by
  constructor
  · rw [Int.le_ediv_iff_mul_le hb]
    have := h.1
    have : A * 1 ≤ A * b := Int.mul_le_mul_of_nonneg_left (by omega) hA
    rw [Int.neg_mul]; omega
  · refine Int.ediv_le_of_le_mul hb ?_
    have := h.2
    have : A * 1 ≤ A * b := Int.mul_le_mul_of_nonneg_left (by omega) hA
    omega
theorem shr_in {R : RN} (k : R.Ok) {g S : Int} {h : Hd} (H : h.Ok) (hn : ¬ R.idle h) (g0 : 0 < g) (S0 : 0 ≤ S) (S1 : S ≤ g) : 0 ≤ R.shr g S h ∧ R.shr g S h ≤ g := by
  unfold RN.shr
  split
  · rename_i hw
    have m0 : 0 < h.many := by
      unfold RN.idle at hn
      unfold Hd.many Hd.bad
      have := H.g0; have := H.m0; have := H.l0
      have : ¬ (h.good + h.mark + h.lost = 0) := fun z => hn (.inr z)
      omega
    have bb : h.bad ≤ h.many := by unfold Hd.many; have := H.g0; omega
    have b0 : 0 ≤ h.bad := by unfold Hd.bad; have := H.m0; have := H.l0; omega
    have q0 := k.g.q0
    have a0 : 0 < R.a := by have := k.g.ab; omega
    have ab : R.a ≤ R.b := by have := k.g.le; omega
    have Y : 0 < R.b * h.many := Int.mul_pos q0 m0
    have e : S * R.b * h.many + R.a * (h.bad * g - S * h.many) = (R.b - R.a) * (S * h.many) + R.a * (h.bad * g) := by
      rw [Int.mul_sub, Int.sub_mul, show S * R.b * h.many = R.b * (S * h.many) by ac_rfl]; omega
    have z1 : 0 ≤ (R.b - R.a) * (S * h.many) := Int.mul_nonneg (by omega) (Int.mul_nonneg S0 (by omega))
    have z2 : 0 ≤ R.a * (h.bad * g) := Int.mul_nonneg (by omega) (Int.mul_nonneg b0 (by omega))
    have z3 : (R.b - R.a) * (S * h.many) ≤ (R.b - R.a) * (g * h.many) := Int.mul_le_mul_of_nonneg_left (Int.mul_le_mul_of_nonneg_right S1 (by omega)) (by omega)
    have z4 : R.a * (h.bad * g) ≤ R.a * (h.many * g) := Int.mul_le_mul_of_nonneg_left (Int.mul_le_mul_of_nonneg_right bb (by omega)) (by omega)
    have e2 : (R.b - R.a) * (g * h.many) + R.a * (h.many * g) = g * (R.b * h.many) := by
      rw [Int.sub_mul, show R.b * (g * h.many) = g * (R.b * h.many) by ac_rfl, show R.a * (h.many * g) = R.a * (g * h.many) by ac_rfl]; omega
    rw [e]
    exact ⟨Int.ediv_nonneg (by omega) (by omega), Int.ediv_le_of_le_mul Y (by omega)⟩
  · exact ⟨S0, S1⟩
end L3
set_option Elab.async false
set_option linter.all false
set_option maxRecDepth 100000
set_option maxHeartbeats 4000000
namespace L3
open PySem
local macro_rules | `(tactic| walk_at "rd") => `(tactic| try simp only [TVar, TC, TBin, TUn, TAndV, TOrV, TNotV, TB, TAnd, TOr, TNot, TIfE, TChain, TNil, TCons, TTup, TLsV, TLsM, TCall, TNext, TSeq, TBreak, TCont, TDrop, TRet, TRetN, TIfS, GName, TAsg, TPar, TSetIx, TFor, IRange1, ISeq, TComp, compR, capD, TYes, ITup, ILs,
  kIf_t, kIf_f, kIf_d, kIf_n, kB_bl, kI_int, kO_some, kS_tup, kS_ls, k2_two, kN_some, kL_up, kSet_obj, rPlus_i, rPlus_s, rPlus_t, rPlus_l, TApp, kObj_o, TFrz, bTuple_t, bTuple_l, bTuple_o, bListV_t, bListV_l, bListV_o, bListM_t, bListM_l, bListM_o, TSl, ONo, OInt, rSl_t, rSl_l, rSl_o, rIn_t, rIn_l, rIn_o, bLen_o, bLen_s, rIs_n, rIs_i, rIs_t, rIsNot_n, rIsNot_i, rIsNot_t, rIsI_l, rIsI_s, rIsI_n, rSub_i, rMul_i, rDiv_i, rMod_i, rPow_i, rNeg_i, rLt_i, rLe_i, rGt_i, rGe_i, rEq_d, rNe_d, rIx_t, rIx_l, rIx_o, rIsI_i, rIsI_b, rIsI_t, bAbs_i, bMax_i, bMin_i, bInt_i, bInt_b, bLen_t, bLen_l,
  lk, ini, List.map, List.length, List.replicate, List.append, List.set, List.cons_append, List.nil_append, Nat.sub_self, Nat.reduceSub, Nat.reduceAdd,
  atD_0, atD_1, atD_2, atD_3, atD_4, atD_5, ixN_0, ixN_1, ixN_2, List.getElem?_cons_zero, List.getElem?_cons_succ, up_same, up_up, Nat.reduceLT, Nat.reduceLeDiff, if_true, if_false, true_and, and_true, Bool.not_true, Bool.not_false, Nat.lt_add_one, Nat.zero_lt_succ, Nat.succ_lt_succ_iff, Nat.zero_lt_one,
  decide_eq_true_eq, Bool.false_eq_true, ite_false, ite_true, ne_eq, not_false_eq_true, Int.reduceToNat, Int.reducePow, Int.reduceNeg, Int.reduceSub, Int.reduceAdd, Int.reduceMul, Int.reduceEq, okD, okDs, eqD, eqDs, Bool.and_self, Bool.and_true, Bool.true_and, GTup, setAll, decide_true, decide_false, Bool.or_true, Bool.or_false, Bool.true_or, Bool.false_or, Bool.and_false, Bool.false_and, and_self, de_still_step, de_still_swell, de_still_heed, de_still_calm, de_step_still, de_step_swell, de_step_heed, de_step_calm, de_swell_still, de_swell_step, de_swell_heed, de_swell_calm, de_heed_still, de_heed_step, de_heed_swell, de_heed_calm, de_calm_still, de_calm_step, de_calm_swell, de_calm_heed, de_same, sok_still, sok_step, sok_swell, sok_heed, sok_calm, isTy_ii, isTy_ib, isTy_bb, isTy_bi, isTy_tt, isTy_it, isTy_bt])
local macro_rules | `(tactic| walk_at "ok") => `(tactic| (simp only [L3.DivOk, L3.MulOk, L3.S64, L3.M256, L3.PowOk] at *; omega))
def sp_plus : FSp := fun ds μ Q => match ds with
  | [d1, d2] => ∃ a b c e, ((Vl d1 a b ∧ Vl d2 c e) ∧ Bd a ∧ Bd b ∧ Bd c ∧ Bd e) ∧ ∀ z, Vl z (a * e + c * b) (b * e) → Q z μ
  | _ => False
theorem len_plus : ∀ ds μ Q, sp_plus ds μ Q → ds.length = 2 := by
  intro ds μ Q h
  unfold sp_plus at h
  split at h
  · rfl
  · exact h.elim
def t_plus : STr := TRet (TCall sp_part (TCons (TBin rPlus (TBin rMul (TBin L3.rIx (TVar 0) (TC (.int 0))) (TBin L3.rIx (TVar 1) (TC (.int 1)))) (TBin rMul (TBin L3.rIx (TVar 1) (TC (.int 0))) (TBin L3.rIx (TVar 0) (TC (.int 1))))) (TCons (TBin rMul (TBin L3.rIx (TVar 0) (TC (.int 1))) (TBin L3.rIx (TVar 1) (TC (.int 1)))) (TNil))))
theorem rd_plus : ∀ ds μ Q, sp_plus ds μ Q → t_plus { nx := fun _ μ' => RT Q .non μ', rt := RT Q } (ini 2 ds) μ := by
  intro ds μ Q h
  unfold sp_plus at h
  split at h
  case h_2 => exact h.elim
  rename_i d1 d2
  unfold t_plus
  walk_at "rd"
  obtain ⟨a, b, c, e, ⟨⟨V1, V2⟩, Ba, Bb, Bc, Be⟩, k⟩ := h
  obtain ⟨⟨p, q, rfl, P⟩, b0⟩ := V1
  obtain ⟨⟨r, s, rfl, S⟩, e0⟩ := V2
  have q0 := P.q0
  have s0 := S.q0
  have be : 0 < b * e := Int.mul_pos b0 e0
  have qs : 0 < q * s := Int.mul_pos q0 s0
  have Bp := P.bp Ba
  have Bq := P.bq Bb
  have Br := S.bp Bc
  have Bs := S.bq Be
  walk_at "rd"
  refine ⟨Bp.mul Bs, Br.mul Bq, Bq.mul Bs, ⟨by omega, Bq.mm Bs⟩, fun x y Pt => ⟨_, .refl _, k _ ⟨⟨x, y, rfl, Pt.of_eq qs be ?_⟩, be⟩⟩⟩
  calc (p * s + r * q) * (b * e) = (p * b) * (s * e) + (r * e) * (q * b) := by rw [Int.add_mul]; congr 1 <;> ac_rfl
    _ = (a * q) * (s * e) + (c * s) * (q * b) := by rw [P.e, S.e]
    _ = (a * e + c * b) * (q * s) := by rw [Int.add_mul]; congr 1 <;> ac_rfl
def sp_minus : FSp := fun ds μ Q => match ds with
  | [d1, d2] => ∃ a b c e, ((Vl d1 a b ∧ Vl d2 c e) ∧ Bd a ∧ Bd b ∧ Bd c ∧ Bd e) ∧ ∀ z, Vl z (a * e - c * b) (b * e) → Q z μ
  | _ => False
theorem len_minus : ∀ ds μ Q, sp_minus ds μ Q → ds.length = 2 := by
  intro ds μ Q h
  unfold sp_minus at h
  split at h
  · rfl
  · exact h.elim
def t_minus : STr := TRet (TCall sp_part (TCons (TBin rSub (TBin rMul (TBin L3.rIx (TVar 0) (TC (.int 0))) (TBin L3.rIx (TVar 1) (TC (.int 1)))) (TBin rMul (TBin L3.rIx (TVar 1) (TC (.int 0))) (TBin L3.rIx (TVar 0) (TC (.int 1))))) (TCons (TBin rMul (TBin L3.rIx (TVar 0) (TC (.int 1))) (TBin L3.rIx (TVar 1) (TC (.int 1)))) (TNil))))
theorem rd_minus : ∀ ds μ Q, sp_minus ds μ Q → t_minus { nx := fun _ μ' => RT Q .non μ', rt := RT Q } (ini 2 ds) μ := by
  intro ds μ Q h
  unfold sp_minus at h
  split at h
  case h_2 => exact h.elim
  rename_i d1 d2
  unfold t_minus
  walk_at "rd"
  obtain ⟨a, b, c, e, ⟨⟨V1, V2⟩, Ba, Bb, Bc, Be⟩, k⟩ := h
  obtain ⟨⟨p, q, rfl, P⟩, b0⟩ := V1
  obtain ⟨⟨r, s, rfl, S⟩, e0⟩ := V2
  have q0 := P.q0
  have s0 := S.q0
  have be : 0 < b * e := Int.mul_pos b0 e0
  have qs : 0 < q * s := Int.mul_pos q0 s0
  have Bp := P.bp Ba
  have Bq := P.bq Bb
  have Br := S.bp Bc
  have Bs := S.bq Be
  walk_at "rd"
  refine ⟨Bp.mul Bs, Br.mul Bq, Bq.mul Bs, ⟨by omega, Bq.mm Bs⟩, fun x y Pt => ⟨_, .refl _, k _ ⟨⟨x, y, rfl, Pt.of_eq qs be ?_⟩, be⟩⟩⟩
  calc (p * s - r * q) * (b * e) = (p * b) * (s * e) - (r * e) * (q * b) := by rw [Int.sub_mul]; congr 1 <;> ac_rfl
    _ = (a * q) * (s * e) - (c * s) * (q * b) := by rw [P.e, S.e]
    _ = (a * e - c * b) * (q * s) := by rw [Int.sub_mul]; congr 1 <;> ac_rfl
def sp_times : FSp := fun ds μ Q => match ds with
  | [d1, d2] => ∃ a b c e, ((Vl d1 a b ∧ Vl d2 c e) ∧ Bd a ∧ Bd b ∧ Bd c ∧ Bd e) ∧ ∀ z, Vl z (a * c) (b * e) → Q z μ
  | _ => False
theorem len_times : ∀ ds μ Q, sp_times ds μ Q → ds.length = 2 := by
  intro ds μ Q h
  unfold sp_times at h
  split at h
  · rfl
  · exact h.elim
def t_times : STr := TRet (TCall sp_part (TCons (TBin rMul (TBin L3.rIx (TVar 0) (TC (.int 0))) (TBin L3.rIx (TVar 1) (TC (.int 0)))) (TCons (TBin rMul (TBin L3.rIx (TVar 0) (TC (.int 1))) (TBin L3.rIx (TVar 1) (TC (.int 1)))) (TNil))))
theorem rd_times : ∀ ds μ Q, sp_times ds μ Q → t_times { nx := fun _ μ' => RT Q .non μ', rt := RT Q } (ini 2 ds) μ := by
  intro ds μ Q h
  unfold sp_times at h
  split at h
  case h_2 => exact h.elim
  rename_i d1 d2
  unfold t_times
  walk_at "rd"
  obtain ⟨a, b, c, e, ⟨⟨V1, V2⟩, Ba, Bb, Bc, Be⟩, k⟩ := h
  obtain ⟨⟨p, q, rfl, P⟩, b0⟩ := V1
  obtain ⟨⟨r, s, rfl, S⟩, e0⟩ := V2
  have q0 := P.q0
  have s0 := S.q0
  have be : 0 < b * e := Int.mul_pos b0 e0
  have qs : 0 < q * s := Int.mul_pos q0 s0
  have Bp := P.bp Ba
  have Bq := P.bq Bb
  have Br := S.bp Bc
  have Bs := S.bq Be
  walk_at "rd"
  refine ⟨Bp.mul Br, Bq.mul Bs, ⟨by omega, Bq.mm Bs⟩, fun x y Pt => ⟨_, .refl _, k _ ⟨⟨x, y, rfl, Pt.of_eq qs be ?_⟩, be⟩⟩⟩
  calc (p * r) * (b * e) = (p * b) * (r * e) := by ac_rfl
    _ = (a * q) * (c * s) := by rw [P.e, S.e]
    _ = (a * c) * (q * s) := by ac_rfl
def sp_less : FSp := fun ds μ Q => match ds with
  | [d1, d2] => ∃ a b c e, ((Vl d1 a b ∧ Vl d2 c e) ∧ Bd a ∧ Bd b ∧ Bd c ∧ Bd e) ∧ Q (.bl (decide (a * e < c * b))) μ
  | _ => False
theorem len_less : ∀ ds μ Q, sp_less ds μ Q → ds.length = 2 := by
  intro ds μ Q h
  unfold sp_less at h
  split at h
  · rfl
  · exact h.elim
def t_less : STr := TRet (TBin rLt (TBin rMul (TBin L3.rIx (TVar 0) (TC (.int 0))) (TBin L3.rIx (TVar 1) (TC (.int 1)))) (TBin rMul (TBin L3.rIx (TVar 1) (TC (.int 0))) (TBin L3.rIx (TVar 0) (TC (.int 1)))))
theorem rd_less : ∀ ds μ Q, sp_less ds μ Q → t_less { nx := fun _ μ' => RT Q .non μ', rt := RT Q } (ini 2 ds) μ := by
  intro ds μ Q h
  unfold sp_less at h
  split at h
  case h_2 => exact h.elim
  rename_i d1 d2
  unfold t_less
  walk_at "rd"
  obtain ⟨a, b, c, e, ⟨⟨V1, V2⟩, Ba, Bb, Bc, Be⟩, k⟩ := h
  obtain ⟨⟨p, q, rfl, P⟩, b0⟩ := V1
  obtain ⟨⟨r, s, rfl, S⟩, e0⟩ := V2
  walk_at "rd"
  refine ⟨(P.bp Ba).mul (S.bq Be), (S.bp Bc).mul (P.bq Bb), _, .refl _, ?_⟩
  rw [show decide (p * s < r * q) = decide (a * e < c * b) from decide_eq_decide.mpr (fr_lt P.q0 S.q0 b0 e0 P.e S.e)]
  exact k
def sp_cut_by : FSp := fun ds μ Q => match ds with
  | [d1, .int g] => ∃ a b, (Vl d1 a b ∧ Bd a ∧ Bd b ∧ 0 < g ∧ g ≤ 1000000) ∧ ∀ z, Vl z (a * g / b) g → Q z μ
  | _ => False
theorem len_cut_by : ∀ ds μ Q, sp_cut_by ds μ Q → ds.length = 2 := by
  intro ds μ Q h
  unfold sp_cut_by at h
  split at h
  · rfl
  · exact h.elim
def t_cut_by : STr := TRet (TCall sp_part (TCons (TBin rDiv (TBin rMul (TBin L3.rIx (TVar 0) (TC (.int 0))) (TVar 1)) (TBin L3.rIx (TVar 0) (TC (.int 1)))) (TCons (TVar 1) (TNil))))
theorem rd_cut_by : ∀ ds μ Q, sp_cut_by ds μ Q → t_cut_by { nx := fun _ μ' => RT Q .non μ', rt := RT Q } (ini 2 ds) μ := by
  intro ds μ Q h
  unfold sp_cut_by at h
  split at h
  case h_2 => exact h.elim
  rename_i d1 g
  unfold t_cut_by
  walk_at "rd"
  obtain ⟨a, b, ⟨⟨⟨p, q, rfl, P⟩, b0⟩, Ba, Bb, g0, g1⟩, k⟩ := h
  have q0 := P.q0
  walk_at "rd"
  rw [fdiv_pos q0, fl_eq g q0 b0 P.e]
  exact ⟨.inl (.inr (by unfold S64; omega)), ⟨by omega, (P.bq Bb).m⟩, ⟨by omega, by unfold M256; omega⟩, fun x y Pt => ⟨_, .refl _, k _ (vl_part Pt g0)⟩⟩
theorem atD_last {xs : List D} {d : D} (h : xs[xs.length - 1]? = some d) (h0 : xs ≠ []) : atD xs ((xs.length : Int) - 1) = some d := by
  have : 0 < xs.length := List.length_pos_iff.mpr h0
  have e : ((xs.length : Int) - 1) = ((xs.length - 1 : Nat) : Int) := by omega
  rw [e, atD_lit, h]
theorem atD_neg1 {xs : List D} {d : D} (h : xs[xs.length - 1]? = some d) (h0 : xs ≠ []) : atD xs (-1) = some d := by
  have : 0 < xs.length := List.length_pos_iff.mpr h0
  unfold atD L2.atI L2.ixN
  rw [if_neg (by decide), if_pos (by omega)]
  have e : (-1 + (xs.length : Int)).toNat = xs.length - 1 := by omega
  show xs[(-1 + (xs.length : Int)).toNat]? = some d
  rw [e]; exact h
theorem RN.tup (R : RN) (hst : R.wd = .still → R.r = R.p ∧ R.s = R.q) : ∃ xs, R.toD = .tup xs ∧ xs[0]? = some (.str R.wd.str) ∧ xs[1]? = some (fr R.p R.q) ∧ xs[xs.length - 1]? = some (fr R.r R.s) ∧ xs ≠ [] := by
  obtain ⟨wd, p, q, x, y, a, b, l, h, r, s⟩ := R
  cases wd
  · obtain ⟨e1, e2⟩ := hst rfl
    dsimp only at e1 e2
    subst e1 e2
    exact ⟨_, rfl, rfl, rfl, rfl, nofun⟩
  all_goals exact ⟨_, rfl, rfl, rfl, rfl, nofun⟩
def sp_top_of : FSp := fun ds μ Q => match ds with
  | [d] => ∃ R : RN, (R.Ok ∧ d = R.toD) ∧ Q (fr R.r R.s) μ
  | _ => False
theorem len_top_of : ∀ ds μ Q, sp_top_of ds μ Q → ds.length = 1 := by
  intro ds μ Q h
  unfold sp_top_of at h
  split at h
  · rfl
  · exact h.elim
def t_top_of : STr := TRet (TBin L3.rIx (TVar 0) (TBin rSub (TCall bLen (TCons (TVar 0) (TNil))) (TC (.int 1))))
theorem rd_top_of : ∀ ds μ Q, sp_top_of ds μ Q → t_top_of { nx := fun _ μ' => RT Q .non μ', rt := RT Q } (ini 1 ds) μ := by
  intro ds μ Q h
  unfold sp_top_of at h
  split at h
  case h_2 => exact h.elim
  rename_i d
  unfold t_top_of
  walk_at "rd"
  obtain ⟨R, ⟨K, rfl⟩, k⟩ := h
  obtain ⟨xs, e, _, _, e3, e4⟩ := R.tup K.st
  rw [e]
  walk_at "rd"
  rw [atD_last e3 e4]
  exact ⟨_, .refl _, k⟩
def sp_is_idle : FSp := fun ds μ Q => match ds with
  | [d, e] => ∃ (R : RN) (h : Hd), (d = R.toD ∧ e = h.toD) ∧ Q (.bl (decide (R.idle h))) μ
  | _ => False
theorem len_is_idle : ∀ ds μ Q, sp_is_idle ds μ Q → ds.length = 2 := by
  intro ds μ Q h
  unfold sp_is_idle at h
  split at h
  · rfl
  · exact h.elim
def t_is_idle : STr := TRet (TOrV (TBin rEq (TBin L3.rIx (TVar 0) (TC (.int 0))) (TC (.str (Str.ofString "still")))) (TBin rEq (TBin rPlus (TBin rPlus (TBin L3.rIx (TVar 1) (TC (.int 0))) (TBin L3.rIx (TVar 1) (TC (.int 1)))) (TBin L3.rIx (TVar 1) (TC (.int 2)))) (TC (.int 0))))
theorem rd_is_idle : ∀ ds μ Q, sp_is_idle ds μ Q → t_is_idle { nx := fun _ μ' => RT Q .non μ', rt := RT Q } (ini 2 ds) μ := by
  intro ds μ Q h
  unfold sp_is_idle at h
  split at h
  case h_2 => exact h.elim
  rename_i d e
  unfold t_is_idle
  walk_at "rd"
  obtain ⟨R, h, ⟨rfl, rfl⟩, k⟩ := h
  obtain ⟨wd, p, q, x, y, a, b, l, hh, r, s⟩ := R
  obtain ⟨good, mark, lost, wt⟩ := h
  unfold RN.idle at k
  cases wd
  all_goals
    simp only [RN.toD, Hd.toD, fr]
    walk_at "rd"
    refine ⟨_, .refl _, ?_⟩
    simpa using k
def Gd (g : Int) : Prop := 1 ≤ g ∧ g ≤ 60
theorem many_pos {R : RN} {h : Hd} (H : h.Ok) (hn : ¬ R.idle h) : 0 < h.many ∧ h.many ≤ 3000000 := by
  have := H.g0; have := H.m0; have := H.l0; have := H.g1; have := H.m1; have := H.l1
  have : ¬ (h.good + h.mark + h.lost = 0) := fun z => hn (.inr z)
  unfold Hd.many Hd.bad
  omega
theorem FrB.bd {lo hi p q : Int} (h : FrB lo hi p q) (l0 : 0 ≤ lo) (h1 : hi ≤ 60) : Le p 600000120 ∧ Le q 10000002 := by
  have := h.q0; have := h.q1
  have e1 := h.ge; have e2 := h.le
  have a1 : 0 ≤ lo * q := Int.mul_nonneg l0 (by omega)
  have a2 : hi * q ≤ 60 * q := Int.mul_le_mul_of_nonneg_right h1 (by omega)
  exact ⟨.of (by omega) (by omega), .of (by omega) (by omega)⟩
theorem heed_share {R : RN} {g S : Int} {h : Hd} (hw : R.wd = .heed) (g0 : 0 < g) (Y : 0 < R.b * h.many) : (S * (R.b * (h.many * g)) + R.a * (h.bad * g - S * h.many) * g) * g / (g * (R.b * (h.many * g))) = R.shr g S h := by
  unfold RN.shr
  rw [if_pos hw]
  have e1 : (S * (R.b * (h.many * g)) + R.a * (h.bad * g - S * h.many) * g) * g = (S * R.b * h.many + R.a * (h.bad * g - S * h.many)) * (g * g) := by
    rw [Int.add_mul, Int.add_mul]; congr 1 <;> ac_rfl
  have e2 : g * (R.b * (h.many * g)) = (R.b * h.many) * (g * g) := by ac_rfl
  rw [e1, e2]
  exact Int.mul_ediv_mul_of_pos_left _ _ (Int.mul_pos g0 g0)
def sp_share_behind : FSp := fun ds μ Q => match ds with
  | [d, .int g, sd, e] => ∃ (R : RN) (S : Int) (h : Hd), ((d = R.toD ∧ e = h.toD) ∧ R.Ok ∧ h.Ok ∧ Gd g ∧ Vl sd S g ∧ (0 ≤ S ∧ S ≤ g) ∧ ¬ R.idle h) ∧ ∀ z, Vl z (R.shr g S h) g → Q z μ
  | _ => False
theorem len_share_behind : ∀ ds μ Q, sp_share_behind ds μ Q → ds.length = 4 := by
  intro ds μ Q h
  unfold sp_share_behind at h
  split at h
  · rfl
  · exact h.elim
def t_share_behind : STr := TSeq (TIfS (TB (TBin rNe (TBin L3.rIx (TVar 0) (TC (.int 0))) (TC (.str (Str.ofString "heed"))))) (TRet (TVar 2)) (TNext)) (TSeq (TAsg (TBin rPlus (TBin L3.rIx (TVar 3) (TC (.int 1))) (TBin L3.rIx (TVar 3) (TC (.int 2)))) (GName 4)) (TSeq (TAsg (TCall sp_times (TCons (TBin L3.rIx (TVar 0) (TC (.int 3))) (TCons (TCall sp_minus (TCons (TCall sp_part (TCons (TVar 4) (TCons (TBin rPlus (TBin L3.rIx (TVar 3) (TC (.int 0))) (TVar 4)) (TNil)))) (TCons (TVar 2) (TNil)))) (TNil)))) (GName 5)) (TRet (TCall sp_cut_by (TCons (TCall sp_plus (TCons (TVar 2) (TCons (TVar 5) (TNil)))) (TCons (TVar 1) (TNil)))))))
theorem rd_share_behind : ∀ ds μ Q, sp_share_behind ds μ Q → t_share_behind { nx := fun _ μ' => RT Q .non μ', rt := RT Q } (ini 6 ds) μ := by
  intro ds μ Q h
  unfold sp_share_behind at h
  split at h
  case h_2 => exact h.elim
  rename_i d g sd e
  unfold t_share_behind
  walk_at "rd"
  obtain ⟨R, S, h, ⟨⟨rfl, rfl⟩, K, H, ⟨g0, g1⟩, VS, ⟨S0, S1⟩, hn⟩, k⟩ := h
  obtain ⟨m0, m1⟩ := many_pos H hn
  have hb0 := H.m0; have hb1 := H.m1; have hc0 := H.l0; have hc1 := H.l1; have hg0 := H.g0; have hg1 := H.g1
  have GB := K.g.toFrB.bd (by decide) (by decide)
  have gp := K.g.q0
  obtain ⟨wd, p, q, x, y, a, b, l, hh, r, s⟩ := R
  cases wd
  case heed =>
    have sh := fun Y => heed_share (R := ⟨.heed, p, q, x, y, a, b, l, hh, r, s⟩) (g := g) (S := S) (h := h) rfl (by omega) Y
    have k' := k
    generalize RN.shr ⟨.heed, p, q, x, y, a, b, l, hh, r, s⟩ g S h = Z at sh k'
    dsimp only at sh GB gp
    obtain ⟨good, mark, lost, wt⟩ := h
    simp only [Hd.many, Hd.bad] at sh m0 m1
    dsimp only at m0 m1 hb0 hb1 hc0 hc1 hg0 hg1
    simp only [RN.toD, Hd.toD, fr]
    walk_at "rd"
    have L1 : Le (mark + lost) 2000000 := .of (by omega) (by omega)
    have L2 : Le (good + (mark + lost)) 3000000 := .of (by omega) (by omega)
    have LS : Le S 60 := .of S0 (by omega)
    have Lg : Le g 60 := .of (by omega) g1
    have e1 := L1.mul Lg
    have e2 := LS.mul L2
    have e3 := L2.mul Lg
    have e4 := e1.sub e2
    have e5 := GB.1.mul e4
    have e6 := GB.2.mul e3
    have mg : 0 < (good + (mark + lost)) * g := Int.mul_pos m0 (by omega)
    refine ⟨⟨by omega, Bd.m (L2.mono (by decide))⟩, fun u v Pt => ⟨_, _, _, _, ⟨⟨vl_part Pt m0, VS⟩, L1.mono (by decide), L2.mono (by decide), LS.mono (by decide), Lg.mono (by decide)⟩, fun z1 V1 => ?_⟩⟩
    refine ⟨a, b, _, _, ⟨⟨vl_frb K.g.toFrB, V1⟩, GB.1.mono (by decide), GB.2.mono (by decide), e4.mono (by decide), e3.mono (by decide)⟩, fun z2 V2 => ?_⟩
    walk_at "rd"
    refine ⟨_, _, _, _, ⟨⟨VS, V2⟩, LS.mono (by decide), Lg.mono (by decide), e5.mono (by decide), e6.mono (by decide)⟩, fun z3 V3 => ?_⟩
    refine ⟨_, _, ⟨V3, ((LS.mul e6).add (e5.mul Lg)).mono (by decide), (Lg.mul e6).mono (by decide), by omega, by omega⟩, fun z V => ⟨_, .refl _, k' z ?_⟩⟩
    rw [sh (Int.mul_pos gp m0)] at V
    exact V
  all_goals
    simp only [RN.toD, Hd.toD, fr]
    walk_at "rd"
    refine ⟨_, .refl _, k _ ?_⟩
    exact VS
def sp_factor_of : FSp := fun ds μ Q => match ds with
  | [d, sd, e] => ∃ (R : RN) (g S : Int) (h : Hd), ((d = R.toD ∧ e = h.toD) ∧ R.Ok ∧ h.Ok ∧ Gd g ∧ Vl sd S g ∧ (0 ≤ S ∧ S ≤ g) ∧ ¬ R.idle h) ∧ (R.fac g S h = none → Q .non μ) ∧ ∀ f, R.fac g S h = some f → ∀ z, Vl z f.1 f.2 → Q z μ
  | _ => False
theorem len_factor_of : ∀ ds μ Q, sp_factor_of ds μ Q → ds.length = 3 := by
  intro ds μ Q h
  unfold sp_factor_of at h
  split at h
  · rfl
  · exact h.elim
def t_factor_of : STr := TSeq (TIfS (TB (TBin rEq (TBin L3.rIx (TVar 0) (TC (.int 0))) (TC (.str (Str.ofString "calm"))))) (TRet (TIfE (TB (TBin rGt (TBin L3.rIx (TVar 2) (TC (.int 2))) (TC (.int 0)))) (TC (.tup [.int 1, .int 2])) (TC .non))) (TNext)) (TSeq (TIfS (TB (TBin rEq (TBin rPlus (TBin L3.rIx (TVar 2) (TC (.int 1))) (TBin L3.rIx (TVar 2) (TC (.int 2)))) (TC (.int 0)))) (TRet (TIfE (TB (TBin rEq (TBin L3.rIx (TVar 0) (TC (.int 0))) (TC (.str (Str.ofString "swell"))))) (TBin L3.rIx (TVar 0) (TC (.int 2))) (TC .non))) (TNext)) (TSeq (TIfS (TB (TBin rEq (TBin L3.rIx (TVar 0) (TC (.int 0))) (TC (.str (Str.ofString "heed"))))) (TRet (TCall sp_minus (TCons (TC (.tup [.int 1, .int 1])) (TCons (TCall sp_times (TCons (TC (.tup [.int 1, .int 2])) (TCons (TVar 1) (TNil)))) (TNil))))) (TNext)) (TRet (TBin L3.rIx (TVar 0) (TC (.int 3))))))
theorem rd_factor_of : ∀ ds μ Q, sp_factor_of ds μ Q → t_factor_of { nx := fun _ μ' => RT Q .non μ', rt := RT Q } (ini 3 ds) μ := by
  intro ds μ Q h
  unfold sp_factor_of at h
  split at h
  case h_2 => exact h.elim
  rename_i d sd e
  unfold t_factor_of
  walk_at "rd"
  obtain ⟨R, g, S, h, ⟨⟨rfl, rfl⟩, K, H, ⟨g0, g1⟩, VS, ⟨S0, S1⟩, hn⟩, k1, k2⟩ := h
  have hb0 := H.m0; have hb1 := H.m1; have hc0 := H.l0; have hc1 := H.l1; have hg0 := H.g0; have hg1 := H.g1
  have VG := vl_frb K.g.toFrB
  have VU := vl_frb K.u.toFrB
  have LS : Le S 60 := .of S0 (by omega)
  have Lg : Le g 60 := .of (by omega) g1
  have V12 : Vl (fr 1 2) 1 2 := vl_frb (lo := 0) (hi := 1) ⟨by decide, by decide, by decide, by decide, by decide⟩
  have V11 : Vl (fr 1 1) 1 1 := vl_frb (one1 (lo := 0) (hi := 1) (by decide) (by decide)).toFrB
  obtain ⟨wd, p, q, x, y, a, b, l, hh, r, s⟩ := R
  obtain ⟨good, mark, lost, wt⟩ := h
  dsimp only at hb0 hb1 hc0 hc1 hg0 hg1 VG VU
  simp only [RN.fac, Hd.bad] at k1 k2
  cases wd
  case still => exact absurd (Or.inl rfl) hn
  case calm =>
    simp only [RN.toD, Hd.toD, fr]
    walk_at "rd"
    split
    · rename_i hl
      exact ⟨_, .refl _, k2 (1, 2) (if_pos hl) _ V12⟩
    · rename_i hl
      exact ⟨_, .refl _, k1 (if_neg hl)⟩
  case heed =>
    simp only [RN.toD, Hd.toD, fr]
    walk_at "rd"
    split
    · rename_i hl
      exact ⟨_, .refl _, k1 (if_pos hl)⟩
    · rename_i hl
      refine ⟨1, 2, S, g, ⟨⟨V12, VS⟩, .of (by decide) (by decide), .of (by decide) (by decide), LS.mono (by decide), Lg.mono (by decide)⟩, fun z1 V1 => ?_⟩
      refine ⟨1, 1, _, _, ⟨⟨V11, V1⟩, .of (by decide) (by decide), .of (by decide) (by decide), ?_, ?_⟩, fun z2 V2 => ⟨_, .refl _, k2 (2 * g - S, 2 * g) (if_neg hl) _ ?_⟩⟩
      · rw [Int.one_mul]; exact LS.mono (by decide)
      · exact .of (by omega) (by omega)
      · simpa using V2
  case step =>
    simp only [RN.toD, Hd.toD, fr]
    walk_at "rd"
    split
    · rename_i hl
      exact ⟨_, .refl _, k1 (if_pos hl)⟩
    · rename_i hl
      exact ⟨_, .refl _, k2 (a, b) (if_neg hl) _ VG⟩
  case swell =>
    simp only [RN.toD, Hd.toD, fr]
    walk_at "rd"
    split
    · rename_i hl
      exact ⟨_, .refl _, k2 (x, y) (if_pos hl) _ VU⟩
    · rename_i hl
      exact ⟨_, .refl _, k2 (a, b) (if_neg hl) _ VG⟩
def sp_moved : FSp := fun ds μ Q => match ds with
  | [d, wd, e] => ∃ (R : RN) (g W : Int) (h : Hd), ((d = R.toD ∧ e = h.toD) ∧ R.Ok ∧ Gd g ∧ Vl wd W g ∧ Le W 1000000 ∧ ¬ R.idle h) ∧ ∀ z, Vl z (R.mvd g W h) (g * R.y) → Q z μ
  | _ => False
theorem len_moved : ∀ ds μ Q, sp_moved ds μ Q → ds.length = 3 := by
  intro ds μ Q h
  unfold sp_moved at h
  split at h
  · rfl
  · exact h.elim
def t_moved : STr := TSeq (TIfS (TOr (TB (TBin rNe (TBin L3.rIx (TVar 0) (TC (.int 0))) (TC (.str (Str.ofString "calm"))))) (TB (TBin rLt (TBin L3.rIx (TVar 2) (TC (.int 3))) (TBin L3.rIx (TVar 0) (TC (.int 3)))))) (TRet (TCall sp_plus (TCons (TVar 1) (TCons (TBin L3.rIx (TVar 0) (TC (.int 2))) (TNil))))) (TNext)) (TSeq (TIfS (TB (TBin rGt (TBin L3.rIx (TVar 2) (TC (.int 3))) (TBin L3.rIx (TVar 0) (TC (.int 4))))) (TRet (TCall sp_minus (TCons (TVar 1) (TCons (TBin L3.rIx (TVar 0) (TC (.int 2))) (TNil))))) (TNext)) (TRet (TVar 1)))
theorem rd_moved : ∀ ds μ Q, sp_moved ds μ Q → t_moved { nx := fun _ μ' => RT Q .non μ', rt := RT Q } (ini 3 ds) μ := by
  intro ds μ Q h
  unfold sp_moved at h
  split at h
  case h_2 => exact h.elim
  rename_i d wd e
  unfold t_moved
  walk_at "rd"
  obtain ⟨R, g, W, h, ⟨⟨rfl, rfl⟩, K, ⟨g0, g1⟩, VW, LW, hn⟩, k⟩ := h
  have VU := vl_frb K.u.toFrB
  have UB := K.u.toFrB.bd (by decide) (by decide)
  have y0 := K.u.q0
  have Lg : Le g 60 := .of (by omega) g1
  obtain ⟨wd', p, q, x, y, a, b, l, hh, r, s⟩ := R
  obtain ⟨good, mark, lost, wt⟩ := h
  dsimp only at VU UB y0
  simp only [RN.mvd] at k
  have up : ∀ Q' : DK, (∀ z, Vl z (W * y + g * x) (g * y) → Q' z μ) → sp_plus [wd, fr x y] μ Q' := fun Q' kk =>
    ⟨W, g, x, y, ⟨⟨VW, VU⟩, LW.mono (by decide), Lg.mono (by decide), UB.1.mono (by decide), UB.2.mono (by decide)⟩, fun z V => kk z (by rw [Int.mul_comm g x]; exact V)⟩
  cases wd'
  case still => exact absurd (Or.inl rfl) hn
  case calm =>
    simp only [if_true] at k
    simp only [RN.toD, Hd.toD, fr]
    walk_at "rd"
    split
    · rename_i hl
      rw [if_pos hl] at k
      exact up _ fun z V => ⟨_, .refl _, k z V⟩
    · rename_i hl
      rw [if_neg hl] at k
      split
      · rename_i hm
        rw [if_pos hm] at k
        exact ⟨W, g, x, y, ⟨⟨VW, VU⟩, LW.mono (by decide), Lg.mono (by decide), UB.1.mono (by decide), UB.2.mono (by decide)⟩, fun z V => ⟨_, .refl _, k z (by rw [Int.mul_comm g x]; exact V)⟩⟩
      · rename_i hm
        rw [if_neg hm] at k
        exact ⟨_, .refl _, k _ (VW.of_eq (Int.mul_pos (by omega) y0) (by ac_rfl))⟩
  all_goals
    simp only [reduceCtorEq, if_false] at k
    simp only [RN.toD, Hd.toD, fr]
    walk_at "rd"
    exact up _ fun z V => ⟨_, .refl _, k z V⟩
def sp_held : FSp := fun ds μ Q => match ds with
  | [d, .int g, wd] => ∃ (R : RN) (N M : Int), (d = R.toD ∧ R.Ok ∧ Gd g ∧ Vl wd N M ∧ Bd N ∧ Bd M) ∧ ∀ z, Vl z (R.clip g (N * g / M)) g → Q z μ
  | _ => False
theorem len_held : ∀ ds μ Q, sp_held ds μ Q → ds.length = 3 := by
  intro ds μ Q h
  unfold sp_held at h
  split at h
  · rfl
  · exact h.elim
def t_held : STr := TSeq (TIfS (TB (TCall sp_less (TCons (TVar 2) (TCons (TC (.tup [.int 1, .int 1])) (TNil))))) (TRet (TC (.tup [.int 1, .int 1]))) (TNext)) (TSeq (TIfS (TB (TCall sp_less (TCons (TCall sp_top_of (TCons (TVar 0) (TNil))) (TCons (TVar 2) (TNil))))) (TRet (TCall sp_cut_by (TCons (TCall sp_top_of (TCons (TVar 0) (TNil))) (TCons (TVar 1) (TNil))))) (TNext)) (TRet (TCall sp_cut_by (TCons (TVar 2) (TCons (TVar 1) (TNil))))))
theorem rd_held : ∀ ds μ Q, sp_held ds μ Q → t_held { nx := fun _ μ' => RT Q .non μ', rt := RT Q } (ini 3 ds) μ := by
  intro ds μ Q h
  unfold sp_held at h
  split at h
  case h_2 => exact h.elim
  rename_i d g wd
  unfold t_held
  walk_at "rd"
  obtain ⟨R, N, M, ⟨rfl, K, ⟨g0, g1⟩, V, BN, BM⟩, k⟩ := h
  have M0 := V.b0
  have V11 : Vl (fr 1 1) 1 1 := vl_frb (one1 (lo := 0) (hi := 1) (by decide) (by decide)).toFrB
  have TB := K.t.bd (by decide) (by decide)
  have VT := vl_frb K.t
  have s0 := K.t.q0
  have cg := cap_ge K (g := g) (by omega)
  refine ⟨N, M, 1, 1, ⟨⟨V, V11⟩, BN, BM, .of (by decide) (by decide), .of (by decide) (by decide)⟩, ?_⟩
  walk_at "rd"
  rw [Int.mul_one, Int.one_mul]
  have key : ∀ z, Vl z (R.clip g (N * g / M)) g → RT Q z μ := fun z V => ⟨_, .refl _, k z V⟩
  unfold RN.clip at key
  split
  · rename_i hl
    have f : N * g / M < g := by
      rw [Int.ediv_lt_iff_lt_mul M0, Int.mul_comm g M]
      exact Int.mul_lt_mul_of_pos_right hl (by omega)
    rw [show min (max (N * g / M) g) (R.cap g) = g by omega] at key
    exact key _ (V11.of_eq (by omega) (by omega))
  · rename_i hl
    refine ⟨R, ⟨K, rfl⟩, R.r, R.s, N, M, ⟨⟨VT, V⟩, TB.1.mono (by decide), TB.2.mono (by decide), BN, BM⟩, ?_⟩
    walk_at "rd"
    have f1 : g ≤ N * g / M := by
      rw [Int.le_ediv_iff_mul_le M0, Int.mul_comm g M]
      exact Int.mul_le_mul_of_nonneg_right (by omega) (by omega)
    split
    · rename_i ht
      have f2 : R.cap g ≤ N * g / M := by
        unfold RN.cap
        rw [Int.le_ediv_iff_mul_le M0]
        have d := Int.ediv_mul_le (R.r * g) (show R.s ≠ 0 by omega)
        have e1 : R.r * g / R.s * M * R.s ≤ N * g * R.s := by
          calc R.r * g / R.s * M * R.s = (R.r * g / R.s * R.s) * M := by ac_rfl
            _ ≤ (R.r * g) * M := Int.mul_le_mul_of_nonneg_right d (by omega)
            _ = (R.r * M) * g := by ac_rfl
            _ ≤ (N * R.s) * g := Int.mul_le_mul_of_nonneg_right (by omega) (by omega)
            _ = N * g * R.s := by ac_rfl
        exact Int.le_of_mul_le_mul_right e1 s0
      rw [show min (max (N * g / M) g) (R.cap g) = R.cap g by omega] at key
      exact ⟨R, ⟨K, rfl⟩, R.r, R.s, ⟨VT, TB.1.mono (by decide), TB.2.mono (by decide), by omega, by omega⟩, fun z V => key z V⟩
    · rename_i ht
      have f2 : N * g / M ≤ R.cap g := by
        unfold RN.cap
        rw [Int.le_ediv_iff_mul_le s0]
        have d := Int.ediv_mul_le (N * g) (show M ≠ 0 by omega)
        have e1 : N * g / M * R.s * M ≤ R.r * g * M := by
          calc N * g / M * R.s * M = (N * g / M * M) * R.s := by ac_rfl
            _ ≤ (N * g) * R.s := Int.mul_le_mul_of_nonneg_right d (by omega)
            _ = (N * R.s) * g := by ac_rfl
            _ ≤ (R.r * M) * g := Int.mul_le_mul_of_nonneg_right (by omega) (by omega)
            _ = R.r * g * M := by ac_rfl
        exact Int.le_of_mul_le_mul_right e1 M0
      rw [show min (max (N * g / M) g) (R.cap g) = N * g / M by omega] at key
      exact ⟨N, M, ⟨V, BN, BM, by omega, by omega⟩, fun z V => key z V⟩
theorem RN.fac_ok {R : RN} (K : R.Ok) {g S : Int} {h : Hd} (G : Gd g) (S0 : 0 ≤ S) (S1 : S ≤ g) {f : Int × Int} (e : R.fac g S h = some f) : 0 < f.1 ∧ 0 < f.2 ∧ Le f.1 600000120 ∧ Le f.2 10000002 := by
  obtain ⟨g0, g1⟩ := G
  have UB := K.u.toFrB.bd (by decide) (by decide)
  have GB := K.g.toFrB.bd (by decide) (by decide)
  have h1 := K.u.q0; have h2 := K.u.ab; have h3 := K.g.q0; have h4 := K.g.ab
  unfold RN.fac at e
  split at e
  · cases e
  · split at e
    · cases e; exact ⟨by decide, by decide, .of (by decide) (by decide), .of (by decide) (by decide)⟩
    · cases e
  · split at e
    · cases e
    · cases e; exact ⟨by show 0 < 2 * g - S; omega, by show 0 < 2 * g; omega, .of (by show 0 ≤ 2 * g - S; omega) (by show 2 * g - S ≤ _; omega), .of (by show 0 ≤ 2 * g; omega) (by show 2 * g ≤ _; omega)⟩
  · split at e
    · cases e; exact ⟨by show 0 < R.x; omega, h1, UB.1, UB.2⟩
    · cases e; exact ⟨by show 0 < R.a; omega, h3, GB.1, GB.2⟩
  · split at e
    · cases e
    · cases e; exact ⟨by show 0 < R.a; omega, h3, GB.1, GB.2⟩
theorem RN.mvd_le {R : RN} (K : R.Ok) {g W : Int} {h : Hd} (G : Gd g) (L : Le W 1000000) : Bd (R.mvd g W h) := by
  obtain ⟨g0, g1⟩ := G
  have UB := K.u.toFrB.bd (by decide) (by decide)
  have Lg : Le g 60 := .of (by omega) g1
  have e1 := L.mul UB.2
  have e2 := Lg.mul UB.1
  unfold RN.mvd
  split
  · split
    · exact (e1.add e2).mono (by decide)
    · split
      · exact (e1.sub e2).mono (by decide)
      · exact e1.mono (by decide)
  · exact (e1.add e2).mono (by decide)
def sp_heard_by : FSp := fun ds μ Q => match ds with
  | [d, .int g, wd, sd, e] => ∃ (R : RN) (W S : Int) (h : Hd), ((d = R.toD ∧ e = h.toD) ∧ R.Ok ∧ h.Ok ∧ Gd g ∧ (Vl wd W g ∧ Le W 1000000) ∧ Vl sd S g ∧ (0 ≤ S ∧ S ≤ g)) ∧ ∀ w z, Vl w (R.beh g W S h).1 g → Vl z (R.beh g W S h).2 g → Q (.tup [w, z]) μ
  | _ => False
theorem len_heard_by : ∀ ds μ Q, sp_heard_by ds μ Q → ds.length = 5 := by
  intro ds μ Q h
  unfold sp_heard_by at h
  split at h
  · rfl
  · exact h.elim
def t_heard_by : STr := TSeq (TIfS (TB (TCall sp_is_idle (TCons (TVar 0) (TCons (TVar 4) (TNil))))) (TRet (TTup (TCons (TVar 2) (TCons (TVar 3) (TNil))))) (TNext)) (TSeq (TAsg (TCall sp_share_behind (TCons (TVar 0) (TCons (TVar 1) (TCons (TVar 3) (TCons (TVar 4) (TNil)))))) (GName 5)) (TSeq (TAsg (TCall sp_factor_of (TCons (TVar 0) (TCons (TVar 5) (TCons (TVar 4) (TNil))))) (GName 6)) (TSeq (TIfS (TB (TBin rIs (TVar 6) (TC .non))) (TRet (TTup (TCons (TCall sp_held (TCons (TVar 0) (TCons (TVar 1) (TCons (TCall sp_moved (TCons (TVar 0) (TCons (TVar 2) (TCons (TVar 4) (TNil))))) (TNil))))) (TCons (TVar 5) (TNil))))) (TNext)) (TRet (TTup (TCons (TCall sp_held (TCons (TVar 0) (TCons (TVar 1) (TCons (TCall sp_times (TCons (TVar 2) (TCons (TVar 6) (TNil)))) (TNil))))) (TCons (TVar 5) (TNil))))))))
theorem rd_heard_by : ∀ ds μ Q, sp_heard_by ds μ Q → t_heard_by { nx := fun _ μ' => RT Q .non μ', rt := RT Q } (ini 7 ds) μ := by
  intro ds μ Q h
  unfold sp_heard_by at h
  split at h
  case h_2 => exact h.elim
  rename_i d g wd sd e
  unfold t_heard_by
  walk_at "rd"
  obtain ⟨R, W, S, h, ⟨⟨rfl, rfl⟩, K, H, G, ⟨VW, LW⟩, VS, S0, S1⟩, k⟩ := h
  have g0 := G.1
  have g1 := G.2
  have Lg : Le g 60 := .of (by omega) g1
  refine ⟨R, h, ⟨rfl, rfl⟩, ?_⟩
  walk_at "rd"
  unfold RN.beh at k
  split
  · rename_i hi
    rw [if_pos hi] at k
    exact ⟨_, .refl _, k _ _ VW VS⟩
  · rename_i hi
    rw [if_neg hi] at k
    refine ⟨R, S, h, ⟨⟨rfl, rfl⟩, K, H, G, VS, ⟨S0, S1⟩, hi⟩, fun z VZ => ?_⟩
    walk_at "rd"
    have sin := shr_in K H hi (by omega) S0 S1
    unfold RN.mv at k
    refine ⟨R, g, _, h, ⟨⟨rfl, rfl⟩, K, H, G, VZ, sin, hi⟩, fun hf => ?_, fun f hf v VF => ?_⟩
    · rw [hf] at k
      walk_at "rd"
      have y0 := K.u.q0
      refine ⟨R, g, W, h, ⟨⟨rfl, rfl⟩, K, G, VW, LW, hi⟩, fun w Vw => ?_⟩
      refine ⟨R, _, _, ⟨rfl, K, G, Vw, RN.mvd_le K G LW, ?_⟩, fun w2 Vw2 => ?_⟩
      · exact (Lg.mul (K.u.toFrB.bd (by decide) (by decide)).2).mono (by decide)
      · walk_at "rd"
        refine ⟨_, .refl _, k _ _ ?_ VZ⟩
        rw [show R.mvd g W h * g / (g * R.y) = R.mvd g W h / R.y by rw [Int.mul_comm g R.y]; exact Int.mul_ediv_mul_of_pos_left _ _ (by omega)] at Vw2
        exact Vw2
    · rw [hf] at k
      obtain ⟨f1, f2, F1, F2⟩ := RN.fac_ok K G sin.1 sin.2 hf
      obtain ⟨⟨p, q, rfl, P⟩, b0⟩ := id VF
      walk_at "rd"
      refine ⟨W, g, f.1, f.2, ⟨⟨VW, VF⟩, LW.mono (by decide), Lg.mono (by decide), F1.mono (by decide), F2.mono (by decide)⟩, fun w Vw => ?_⟩
      refine ⟨R, _, _, ⟨rfl, K, G, Vw, (LW.mul F1).mono (by decide), (Lg.mul F2).mono (by decide)⟩, fun w2 Vw2 => ?_⟩
      walk_at "rd"
      refine ⟨_, .refl _, k _ _ ?_ VZ⟩
      rw [show W * f.1 * g / (g * f.2) = W * f.1 / f.2 by rw [Int.mul_comm g f.2]; exact Int.mul_ediv_mul_of_pos_left _ _ (by omega)] at Vw2
      exact Vw2
end L3
set_option Elab.async false
set_option linter.all false
set_option maxRecDepth 100000
namespace L3
open PySem
def kTup (x : D) (f : List D → Prop) : Prop := match x with
  | .tup ds => f ds
  | _ => False
def kLs (x : D) (f : List D → Prop) : Prop := match x with
  | .ls ds => f ds
  | _ => False
def CALL (sp : FSp) (ds : List D) (μ : Mu) (Q : DK) : Prop := sp ds μ Q
def LEN (ds : List D) (P : Prop) : Prop := ds.length ≤ 1000000 ∧ P
theorem TVar_0 (d : D) (r : ST) (μ : Mu) (Q : DK) : TVar 0 (some d :: r) μ Q = Q d μ := propext Iff.rfl
theorem GName_0 (x0 : Option D) (r : ST) (d : D) (μ : Mu) (k : ST → Mu → Prop) : GName 0 d (x0 :: r) μ k = k (some d :: r) μ := propext Iff.rfl
theorem TVar_1 (x0 : Option D) (d : D) (r : ST) (μ : Mu) (Q : DK) : TVar 1 (x0 :: some d :: r) μ Q = Q d μ := propext Iff.rfl
theorem GName_1 (x0 x1 : Option D) (r : ST) (d : D) (μ : Mu) (k : ST → Mu → Prop) : GName 1 d (x0 :: x1 :: r) μ k = k (x0 :: some d :: r) μ := propext Iff.rfl
theorem TVar_2 (x0 x1 : Option D) (d : D) (r : ST) (μ : Mu) (Q : DK) : TVar 2 (x0 :: x1 :: some d :: r) μ Q = Q d μ := propext Iff.rfl
theorem GName_2 (x0 x1 x2 : Option D) (r : ST) (d : D) (μ : Mu) (k : ST → Mu → Prop) : GName 2 d (x0 :: x1 :: x2 :: r) μ k = k (x0 :: x1 :: some d :: r) μ := propext Iff.rfl
theorem TVar_3 (x0 x1 x2 : Option D) (d : D) (r : ST) (μ : Mu) (Q : DK) : TVar 3 (x0 :: x1 :: x2 :: some d :: r) μ Q = Q d μ := propext Iff.rfl
theorem GName_3 (x0 x1 x2 x3 : Option D) (r : ST) (d : D) (μ : Mu) (k : ST → Mu → Prop) : GName 3 d (x0 :: x1 :: x2 :: x3 :: r) μ k = k (x0 :: x1 :: x2 :: some d :: r) μ := propext Iff.rfl
theorem TVar_4 (x0 x1 x2 x3 : Option D) (d : D) (r : ST) (μ : Mu) (Q : DK) : TVar 4 (x0 :: x1 :: x2 :: x3 :: some d :: r) μ Q = Q d μ := propext Iff.rfl
theorem GName_4 (x0 x1 x2 x3 x4 : Option D) (r : ST) (d : D) (μ : Mu) (k : ST → Mu → Prop) : GName 4 d (x0 :: x1 :: x2 :: x3 :: x4 :: r) μ k = k (x0 :: x1 :: x2 :: x3 :: some d :: r) μ := propext Iff.rfl
theorem TVar_5 (x0 x1 x2 x3 x4 : Option D) (d : D) (r : ST) (μ : Mu) (Q : DK) : TVar 5 (x0 :: x1 :: x2 :: x3 :: x4 :: some d :: r) μ Q = Q d μ := propext Iff.rfl
theorem GName_5 (x0 x1 x2 x3 x4 x5 : Option D) (r : ST) (d : D) (μ : Mu) (k : ST → Mu → Prop) : GName 5 d (x0 :: x1 :: x2 :: x3 :: x4 :: x5 :: r) μ k = k (x0 :: x1 :: x2 :: x3 :: x4 :: some d :: r) μ := propext Iff.rfl
theorem TVar_6 (x0 x1 x2 x3 x4 x5 : Option D) (d : D) (r : ST) (μ : Mu) (Q : DK) : TVar 6 (x0 :: x1 :: x2 :: x3 :: x4 :: x5 :: some d :: r) μ Q = Q d μ := propext Iff.rfl
theorem GName_6 (x0 x1 x2 x3 x4 x5 x6 : Option D) (r : ST) (d : D) (μ : Mu) (k : ST → Mu → Prop) : GName 6 d (x0 :: x1 :: x2 :: x3 :: x4 :: x5 :: x6 :: r) μ k = k (x0 :: x1 :: x2 :: x3 :: x4 :: x5 :: some d :: r) μ := propext Iff.rfl
theorem TVar_7 (x0 x1 x2 x3 x4 x5 x6 : Option D) (d : D) (r : ST) (μ : Mu) (Q : DK) : TVar 7 (x0 :: x1 :: x2 :: x3 :: x4 :: x5 :: x6 :: some d :: r) μ Q = Q d μ := propext Iff.rfl
theorem GName_7 (x0 x1 x2 x3 x4 x5 x6 x7 : Option D) (r : ST) (d : D) (μ : Mu) (k : ST → Mu → Prop) : GName 7 d (x0 :: x1 :: x2 :: x3 :: x4 :: x5 :: x6 :: x7 :: r) μ k = k (x0 :: x1 :: x2 :: x3 :: x4 :: x5 :: x6 :: some d :: r) μ := propext Iff.rfl
theorem TVar_8 (x0 x1 x2 x3 x4 x5 x6 x7 : Option D) (d : D) (r : ST) (μ : Mu) (Q : DK) : TVar 8 (x0 :: x1 :: x2 :: x3 :: x4 :: x5 :: x6 :: x7 :: some d :: r) μ Q = Q d μ := propext Iff.rfl
theorem GName_8 (x0 x1 x2 x3 x4 x5 x6 x7 x8 : Option D) (r : ST) (d : D) (μ : Mu) (k : ST → Mu → Prop) : GName 8 d (x0 :: x1 :: x2 :: x3 :: x4 :: x5 :: x6 :: x7 :: x8 :: r) μ k = k (x0 :: x1 :: x2 :: x3 :: x4 :: x5 :: x6 :: x7 :: some d :: r) μ := propext Iff.rfl
theorem TVar_9 (x0 x1 x2 x3 x4 x5 x6 x7 x8 : Option D) (d : D) (r : ST) (μ : Mu) (Q : DK) : TVar 9 (x0 :: x1 :: x2 :: x3 :: x4 :: x5 :: x6 :: x7 :: x8 :: some d :: r) μ Q = Q d μ := propext Iff.rfl
theorem GName_9 (x0 x1 x2 x3 x4 x5 x6 x7 x8 x9 : Option D) (r : ST) (d : D) (μ : Mu) (k : ST → Mu → Prop) : GName 9 d (x0 :: x1 :: x2 :: x3 :: x4 :: x5 :: x6 :: x7 :: x8 :: x9 :: r) μ k = k (x0 :: x1 :: x2 :: x3 :: x4 :: x5 :: x6 :: x7 :: x8 :: some d :: r) μ := propext Iff.rfl
theorem TVar_10 (x0 x1 x2 x3 x4 x5 x6 x7 x8 x9 : Option D) (d : D) (r : ST) (μ : Mu) (Q : DK) : TVar 10 (x0 :: x1 :: x2 :: x3 :: x4 :: x5 :: x6 :: x7 :: x8 :: x9 :: some d :: r) μ Q = Q d μ := propext Iff.rfl
theorem GName_10 (x0 x1 x2 x3 x4 x5 x6 x7 x8 x9 x10 : Option D) (r : ST) (d : D) (μ : Mu) (k : ST → Mu → Prop) : GName 10 d (x0 :: x1 :: x2 :: x3 :: x4 :: x5 :: x6 :: x7 :: x8 :: x9 :: x10 :: r) μ k = k (x0 :: x1 :: x2 :: x3 :: x4 :: x5 :: x6 :: x7 :: x8 :: x9 :: some d :: r) μ := propext Iff.rfl
theorem TVar_11 (x0 x1 x2 x3 x4 x5 x6 x7 x8 x9 x10 : Option D) (d : D) (r : ST) (μ : Mu) (Q : DK) : TVar 11 (x0 :: x1 :: x2 :: x3 :: x4 :: x5 :: x6 :: x7 :: x8 :: x9 :: x10 :: some d :: r) μ Q = Q d μ := propext Iff.rfl
theorem GName_11 (x0 x1 x2 x3 x4 x5 x6 x7 x8 x9 x10 x11 : Option D) (r : ST) (d : D) (μ : Mu) (k : ST → Mu → Prop) : GName 11 d (x0 :: x1 :: x2 :: x3 :: x4 :: x5 :: x6 :: x7 :: x8 :: x9 :: x10 :: x11 :: r) μ k = k (x0 :: x1 :: x2 :: x3 :: x4 :: x5 :: x6 :: x7 :: x8 :: x9 :: x10 :: some d :: r) μ := propext Iff.rfl
theorem TVar_12 (x0 x1 x2 x3 x4 x5 x6 x7 x8 x9 x10 x11 : Option D) (d : D) (r : ST) (μ : Mu) (Q : DK) : TVar 12 (x0 :: x1 :: x2 :: x3 :: x4 :: x5 :: x6 :: x7 :: x8 :: x9 :: x10 :: x11 :: some d :: r) μ Q = Q d μ := propext Iff.rfl
theorem GName_12 (x0 x1 x2 x3 x4 x5 x6 x7 x8 x9 x10 x11 x12 : Option D) (r : ST) (d : D) (μ : Mu) (k : ST → Mu → Prop) : GName 12 d (x0 :: x1 :: x2 :: x3 :: x4 :: x5 :: x6 :: x7 :: x8 :: x9 :: x10 :: x11 :: x12 :: r) μ k = k (x0 :: x1 :: x2 :: x3 :: x4 :: x5 :: x6 :: x7 :: x8 :: x9 :: x10 :: x11 :: some d :: r) μ := propext Iff.rfl
theorem TVar_13 (x0 x1 x2 x3 x4 x5 x6 x7 x8 x9 x10 x11 x12 : Option D) (d : D) (r : ST) (μ : Mu) (Q : DK) : TVar 13 (x0 :: x1 :: x2 :: x3 :: x4 :: x5 :: x6 :: x7 :: x8 :: x9 :: x10 :: x11 :: x12 :: some d :: r) μ Q = Q d μ := propext Iff.rfl
theorem GName_13 (x0 x1 x2 x3 x4 x5 x6 x7 x8 x9 x10 x11 x12 x13 : Option D) (r : ST) (d : D) (μ : Mu) (k : ST → Mu → Prop) : GName 13 d (x0 :: x1 :: x2 :: x3 :: x4 :: x5 :: x6 :: x7 :: x8 :: x9 :: x10 :: x11 :: x12 :: x13 :: r) μ k = k (x0 :: x1 :: x2 :: x3 :: x4 :: x5 :: x6 :: x7 :: x8 :: x9 :: x10 :: x11 :: x12 :: some d :: r) μ := propext Iff.rfl
theorem TVar_14 (x0 x1 x2 x3 x4 x5 x6 x7 x8 x9 x10 x11 x12 x13 : Option D) (d : D) (r : ST) (μ : Mu) (Q : DK) : TVar 14 (x0 :: x1 :: x2 :: x3 :: x4 :: x5 :: x6 :: x7 :: x8 :: x9 :: x10 :: x11 :: x12 :: x13 :: some d :: r) μ Q = Q d μ := propext Iff.rfl
theorem GName_14 (x0 x1 x2 x3 x4 x5 x6 x7 x8 x9 x10 x11 x12 x13 x14 : Option D) (r : ST) (d : D) (μ : Mu) (k : ST → Mu → Prop) : GName 14 d (x0 :: x1 :: x2 :: x3 :: x4 :: x5 :: x6 :: x7 :: x8 :: x9 :: x10 :: x11 :: x12 :: x13 :: x14 :: r) μ k = k (x0 :: x1 :: x2 :: x3 :: x4 :: x5 :: x6 :: x7 :: x8 :: x9 :: x10 :: x11 :: x12 :: x13 :: some d :: r) μ := propext Iff.rfl
theorem TVar_15 (x0 x1 x2 x3 x4 x5 x6 x7 x8 x9 x10 x11 x12 x13 x14 : Option D) (d : D) (r : ST) (μ : Mu) (Q : DK) : TVar 15 (x0 :: x1 :: x2 :: x3 :: x4 :: x5 :: x6 :: x7 :: x8 :: x9 :: x10 :: x11 :: x12 :: x13 :: x14 :: some d :: r) μ Q = Q d μ := propext Iff.rfl
theorem GName_15 (x0 x1 x2 x3 x4 x5 x6 x7 x8 x9 x10 x11 x12 x13 x14 x15 : Option D) (r : ST) (d : D) (μ : Mu) (k : ST → Mu → Prop) : GName 15 d (x0 :: x1 :: x2 :: x3 :: x4 :: x5 :: x6 :: x7 :: x8 :: x9 :: x10 :: x11 :: x12 :: x13 :: x14 :: x15 :: r) μ k = k (x0 :: x1 :: x2 :: x3 :: x4 :: x5 :: x6 :: x7 :: x8 :: x9 :: x10 :: x11 :: x12 :: x13 :: x14 :: some d :: r) μ := propext Iff.rfl
theorem TVar_16 (x0 x1 x2 x3 x4 x5 x6 x7 x8 x9 x10 x11 x12 x13 x14 x15 : Option D) (d : D) (r : ST) (μ : Mu) (Q : DK) : TVar 16 (x0 :: x1 :: x2 :: x3 :: x4 :: x5 :: x6 :: x7 :: x8 :: x9 :: x10 :: x11 :: x12 :: x13 :: x14 :: x15 :: some d :: r) μ Q = Q d μ := propext Iff.rfl
theorem GName_16 (x0 x1 x2 x3 x4 x5 x6 x7 x8 x9 x10 x11 x12 x13 x14 x15 x16 : Option D) (r : ST) (d : D) (μ : Mu) (k : ST → Mu → Prop) : GName 16 d (x0 :: x1 :: x2 :: x3 :: x4 :: x5 :: x6 :: x7 :: x8 :: x9 :: x10 :: x11 :: x12 :: x13 :: x14 :: x15 :: x16 :: r) μ k = k (x0 :: x1 :: x2 :: x3 :: x4 :: x5 :: x6 :: x7 :: x8 :: x9 :: x10 :: x11 :: x12 :: x13 :: x14 :: x15 :: some d :: r) μ := propext Iff.rfl
theorem TVar_17 (x0 x1 x2 x3 x4 x5 x6 x7 x8 x9 x10 x11 x12 x13 x14 x15 x16 : Option D) (d : D) (r : ST) (μ : Mu) (Q : DK) : TVar 17 (x0 :: x1 :: x2 :: x3 :: x4 :: x5 :: x6 :: x7 :: x8 :: x9 :: x10 :: x11 :: x12 :: x13 :: x14 :: x15 :: x16 :: some d :: r) μ Q = Q d μ := propext Iff.rfl
theorem GName_17 (x0 x1 x2 x3 x4 x5 x6 x7 x8 x9 x10 x11 x12 x13 x14 x15 x16 x17 : Option D) (r : ST) (d : D) (μ : Mu) (k : ST → Mu → Prop) : GName 17 d (x0 :: x1 :: x2 :: x3 :: x4 :: x5 :: x6 :: x7 :: x8 :: x9 :: x10 :: x11 :: x12 :: x13 :: x14 :: x15 :: x16 :: x17 :: r) μ k = k (x0 :: x1 :: x2 :: x3 :: x4 :: x5 :: x6 :: x7 :: x8 :: x9 :: x10 :: x11 :: x12 :: x13 :: x14 :: x15 :: x16 :: some d :: r) μ := propext Iff.rfl
theorem TVar_18 (x0 x1 x2 x3 x4 x5 x6 x7 x8 x9 x10 x11 x12 x13 x14 x15 x16 x17 : Option D) (d : D) (r : ST) (μ : Mu) (Q : DK) : TVar 18 (x0 :: x1 :: x2 :: x3 :: x4 :: x5 :: x6 :: x7 :: x8 :: x9 :: x10 :: x11 :: x12 :: x13 :: x14 :: x15 :: x16 :: x17 :: some d :: r) μ Q = Q d μ := propext Iff.rfl
theorem GName_18 (x0 x1 x2 x3 x4 x5 x6 x7 x8 x9 x10 x11 x12 x13 x14 x15 x16 x17 x18 : Option D) (r : ST) (d : D) (μ : Mu) (k : ST → Mu → Prop) : GName 18 d (x0 :: x1 :: x2 :: x3 :: x4 :: x5 :: x6 :: x7 :: x8 :: x9 :: x10 :: x11 :: x12 :: x13 :: x14 :: x15 :: x16 :: x17 :: x18 :: r) μ k = k (x0 :: x1 :: x2 :: x3 :: x4 :: x5 :: x6 :: x7 :: x8 :: x9 :: x10 :: x11 :: x12 :: x13 :: x14 :: x15 :: x16 :: x17 :: some d :: r) μ := propext Iff.rfl
theorem TVar_19 (x0 x1 x2 x3 x4 x5 x6 x7 x8 x9 x10 x11 x12 x13 x14 x15 x16 x17 x18 : Option D) (d : D) (r : ST) (μ : Mu) (Q : DK) : TVar 19 (x0 :: x1 :: x2 :: x3 :: x4 :: x5 :: x6 :: x7 :: x8 :: x9 :: x10 :: x11 :: x12 :: x13 :: x14 :: x15 :: x16 :: x17 :: x18 :: some d :: r) μ Q = Q d μ := propext Iff.rfl
theorem GName_19 (x0 x1 x2 x3 x4 x5 x6 x7 x8 x9 x10 x11 x12 x13 x14 x15 x16 x17 x18 x19 : Option D) (r : ST) (d : D) (μ : Mu) (k : ST → Mu → Prop) : GName 19 d (x0 :: x1 :: x2 :: x3 :: x4 :: x5 :: x6 :: x7 :: x8 :: x9 :: x10 :: x11 :: x12 :: x13 :: x14 :: x15 :: x16 :: x17 :: x18 :: x19 :: r) μ k = k (x0 :: x1 :: x2 :: x3 :: x4 :: x5 :: x6 :: x7 :: x8 :: x9 :: x10 :: x11 :: x12 :: x13 :: x14 :: x15 :: x16 :: x17 :: x18 :: some d :: r) μ := propext Iff.rfl
theorem TVar_20 (x0 x1 x2 x3 x4 x5 x6 x7 x8 x9 x10 x11 x12 x13 x14 x15 x16 x17 x18 x19 : Option D) (d : D) (r : ST) (μ : Mu) (Q : DK) : TVar 20 (x0 :: x1 :: x2 :: x3 :: x4 :: x5 :: x6 :: x7 :: x8 :: x9 :: x10 :: x11 :: x12 :: x13 :: x14 :: x15 :: x16 :: x17 :: x18 :: x19 :: some d :: r) μ Q = Q d μ := propext Iff.rfl
theorem GName_20 (x0 x1 x2 x3 x4 x5 x6 x7 x8 x9 x10 x11 x12 x13 x14 x15 x16 x17 x18 x19 x20 : Option D) (r : ST) (d : D) (μ : Mu) (k : ST → Mu → Prop) : GName 20 d (x0 :: x1 :: x2 :: x3 :: x4 :: x5 :: x6 :: x7 :: x8 :: x9 :: x10 :: x11 :: x12 :: x13 :: x14 :: x15 :: x16 :: x17 :: x18 :: x19 :: x20 :: r) μ k = k (x0 :: x1 :: x2 :: x3 :: x4 :: x5 :: x6 :: x7 :: x8 :: x9 :: x10 :: x11 :: x12 :: x13 :: x14 :: x15 :: x16 :: x17 :: x18 :: x19 :: some d :: r) μ := propext Iff.rfl
theorem TVar_21 (x0 x1 x2 x3 x4 x5 x6 x7 x8 x9 x10 x11 x12 x13 x14 x15 x16 x17 x18 x19 x20 : Option D) (d : D) (r : ST) (μ : Mu) (Q : DK) : TVar 21 (x0 :: x1 :: x2 :: x3 :: x4 :: x5 :: x6 :: x7 :: x8 :: x9 :: x10 :: x11 :: x12 :: x13 :: x14 :: x15 :: x16 :: x17 :: x18 :: x19 :: x20 :: some d :: r) μ Q = Q d μ := propext Iff.rfl
theorem GName_21 (x0 x1 x2 x3 x4 x5 x6 x7 x8 x9 x10 x11 x12 x13 x14 x15 x16 x17 x18 x19 x20 x21 : Option D) (r : ST) (d : D) (μ : Mu) (k : ST → Mu → Prop) : GName 21 d (x0 :: x1 :: x2 :: x3 :: x4 :: x5 :: x6 :: x7 :: x8 :: x9 :: x10 :: x11 :: x12 :: x13 :: x14 :: x15 :: x16 :: x17 :: x18 :: x19 :: x20 :: x21 :: r) μ k = k (x0 :: x1 :: x2 :: x3 :: x4 :: x5 :: x6 :: x7 :: x8 :: x9 :: x10 :: x11 :: x12 :: x13 :: x14 :: x15 :: x16 :: x17 :: x18 :: x19 :: x20 :: some d :: r) μ := propext Iff.rfl
theorem TVar_22 (x0 x1 x2 x3 x4 x5 x6 x7 x8 x9 x10 x11 x12 x13 x14 x15 x16 x17 x18 x19 x20 x21 : Option D) (d : D) (r : ST) (μ : Mu) (Q : DK) : TVar 22 (x0 :: x1 :: x2 :: x3 :: x4 :: x5 :: x6 :: x7 :: x8 :: x9 :: x10 :: x11 :: x12 :: x13 :: x14 :: x15 :: x16 :: x17 :: x18 :: x19 :: x20 :: x21 :: some d :: r) μ Q = Q d μ := propext Iff.rfl
theorem GName_22 (x0 x1 x2 x3 x4 x5 x6 x7 x8 x9 x10 x11 x12 x13 x14 x15 x16 x17 x18 x19 x20 x21 x22 : Option D) (r : ST) (d : D) (μ : Mu) (k : ST → Mu → Prop) : GName 22 d (x0 :: x1 :: x2 :: x3 :: x4 :: x5 :: x6 :: x7 :: x8 :: x9 :: x10 :: x11 :: x12 :: x13 :: x14 :: x15 :: x16 :: x17 :: x18 :: x19 :: x20 :: x21 :: x22 :: r) μ k = k (x0 :: x1 :: x2 :: x3 :: x4 :: x5 :: x6 :: x7 :: x8 :: x9 :: x10 :: x11 :: x12 :: x13 :: x14 :: x15 :: x16 :: x17 :: x18 :: x19 :: x20 :: x21 :: some d :: r) μ := propext Iff.rfl
theorem TVar_23 (x0 x1 x2 x3 x4 x5 x6 x7 x8 x9 x10 x11 x12 x13 x14 x15 x16 x17 x18 x19 x20 x21 x22 : Option D) (d : D) (r : ST) (μ : Mu) (Q : DK) : TVar 23 (x0 :: x1 :: x2 :: x3 :: x4 :: x5 :: x6 :: x7 :: x8 :: x9 :: x10 :: x11 :: x12 :: x13 :: x14 :: x15 :: x16 :: x17 :: x18 :: x19 :: x20 :: x21 :: x22 :: some d :: r) μ Q = Q d μ := propext Iff.rfl
theorem GName_23 (x0 x1 x2 x3 x4 x5 x6 x7 x8 x9 x10 x11 x12 x13 x14 x15 x16 x17 x18 x19 x20 x21 x22 x23 : Option D) (r : ST) (d : D) (μ : Mu) (k : ST → Mu → Prop) : GName 23 d (x0 :: x1 :: x2 :: x3 :: x4 :: x5 :: x6 :: x7 :: x8 :: x9 :: x10 :: x11 :: x12 :: x13 :: x14 :: x15 :: x16 :: x17 :: x18 :: x19 :: x20 :: x21 :: x22 :: x23 :: r) μ k = k (x0 :: x1 :: x2 :: x3 :: x4 :: x5 :: x6 :: x7 :: x8 :: x9 :: x10 :: x11 :: x12 :: x13 :: x14 :: x15 :: x16 :: x17 :: x18 :: x19 :: x20 :: x21 :: x22 :: some d :: r) μ := propext Iff.rfl
theorem TC_e (d : D) (ρ : ST) (μ : Mu) (Q : DK) : TC d ρ μ Q = Q d μ := propext Iff.rfl
theorem TBin_e (r : DR2) (a b : ETr) (ρ : ST) (μ : Mu) (Q : DK) : TBin r a b ρ μ Q = a ρ μ fun x μ1 => b ρ μ1 fun y μ2 => r x y μ2 Q := propext Iff.rfl
theorem TUn_e (r : DR) (a : ETr) (ρ : ST) (μ : Mu) (Q : DK) : TUn r a ρ μ Q = a ρ μ fun x μ1 => r x μ1 Q := propext Iff.rfl
theorem TAndV_e (a b : ETr) (ρ : ST) (μ : Mu) (Q : DK) : TAndV a b ρ μ Q = a ρ μ fun x μ1 => kB x fun c => kIf c (b ρ μ1 Q) (Q (.bl false) μ1) := propext Iff.rfl
theorem TOrV_e (a b : ETr) (ρ : ST) (μ : Mu) (Q : DK) : TOrV a b ρ μ Q = a ρ μ fun x μ1 => kB x fun c => kIf c (Q (.bl true) μ1) (b ρ μ1 Q) := propext Iff.rfl
theorem TNotV_e (a : ETr) (ρ : ST) (μ : Mu) (Q : DK) : TNotV a ρ μ Q = a ρ μ fun x μ1 => kB x fun c => Q (.bl (!c)) μ1 := propext Iff.rfl
theorem TB_e (t : ETr) (ρ : ST) (μ : Mu) (Q : Bool → Mu → Prop) : TB t ρ μ Q = t ρ μ fun x μ1 => kB x fun c => Q c μ1 := propext Iff.rfl
theorem TAnd_e (t u : TTr) (ρ : ST) (μ : Mu) (Q : Bool → Mu → Prop) : TAnd t u ρ μ Q = t ρ μ fun c μ1 => kIf c (u ρ μ1 Q) (Q false μ1) := propext Iff.rfl
theorem TOr_e (t u : TTr) (ρ : ST) (μ : Mu) (Q : Bool → Mu → Prop) : TOr t u ρ μ Q = t ρ μ fun c μ1 => kIf c (Q true μ1) (u ρ μ1 Q) := propext Iff.rfl
theorem TNot_e (t : TTr) (ρ : ST) (μ : Mu) (Q : Bool → Mu → Prop) : TNot t ρ μ Q = t ρ μ fun c μ1 => Q (!c) μ1 := propext Iff.rfl
theorem TIfE_e (c : TTr) (a b : ETr) (ρ : ST) (μ : Mu) (Q : DK) : TIfE c a b ρ μ Q = c ρ μ fun k μ1 => kIf k (a ρ μ1 Q) (b ρ μ1 Q) := propext Iff.rfl
theorem TChain_e (r r' : DR2) (a b c : ETr) (ρ : ST) (μ : Mu) (Q : DK) : TChain r r' a b c ρ μ Q = a ρ μ fun x μ1 => b ρ μ1 fun y μ2 => r x y μ2 fun z μ3 => kB z fun k => kIf k (c ρ μ3 fun y' μ4 => r' y y' μ4 Q) (Q (.bl false) μ3) := propext Iff.rfl
theorem TNil_e (ρ : ST) (μ : Mu) (Q : List D → Mu → Prop) : TNil ρ μ Q = Q [] μ := propext Iff.rfl
theorem TCons_e (a : ETr) (r : ATr) (ρ : ST) (μ : Mu) (Q : List D → Mu → Prop) : TCons a r ρ μ Q = a ρ μ fun x μ1 => r ρ μ1 fun xs μ2 => Q (x :: xs) μ2 := propext Iff.rfl
theorem TTup_e (t : ATr) (ρ : ST) (μ : Mu) (Q : DK) : TTup t ρ μ Q = t ρ μ fun ds μ1 => LEN ds (Q (.tup ds) μ1) := propext Iff.rfl
theorem TLsV_e (t : ATr) (ρ : ST) (μ : Mu) (Q : DK) : TLsV t ρ μ Q = t ρ μ fun ds μ1 => LEN ds (Q (.ls ds) μ1) := propext Iff.rfl
theorem TLsM_e (t : ATr) (ρ : ST) (μ : Mu) (Q : DK) : TLsM t ρ μ Q = t ρ μ fun ds μ1 => LEN ds (∀ p, μ1 p = none → Q (.obj p) (up μ1 p (.lst ds))) := propext Iff.rfl
theorem TCall_e (sp : FSp) (t : ATr) (ρ : ST) (μ : Mu) (Q : DK) : TCall sp t ρ μ Q = t ρ μ fun ds μ1 => CALL sp ds μ1 Q := propext Iff.rfl
theorem TNext_e (nx : ST → Mu → Prop) (rt : DK) (bk ct : ST → Mu → Prop) (ρ : ST) (μ : Mu) : TNext ⟨nx, rt, bk, ct⟩ ρ μ = nx ρ μ := propext Iff.rfl
theorem TSeq_e (t u : STr) (nx : ST → Mu → Prop) (rt : DK) (bk ct : ST → Mu → Prop) (ρ : ST) (μ : Mu) : TSeq t u ⟨nx, rt, bk, ct⟩ ρ μ = t ⟨u ⟨nx, rt, bk, ct⟩, rt, bk, ct⟩ ρ μ := propext Iff.rfl
theorem TBreak_e (nx : ST → Mu → Prop) (rt : DK) (bk ct : ST → Mu → Prop) (ρ : ST) (μ : Mu) : TBreak ⟨nx, rt, bk, ct⟩ ρ μ = bk ρ μ := propext Iff.rfl
theorem TCont_e (nx : ST → Mu → Prop) (rt : DK) (bk ct : ST → Mu → Prop) (ρ : ST) (μ : Mu) : TCont ⟨nx, rt, bk, ct⟩ ρ μ = ct ρ μ := propext Iff.rfl
theorem TDrop_e (e : ETr) (nx : ST → Mu → Prop) (rt : DK) (bk ct : ST → Mu → Prop) (ρ : ST) (μ : Mu) : TDrop e ⟨nx, rt, bk, ct⟩ ρ μ = e ρ μ fun _ μ1 => nx ρ μ1 := propext Iff.rfl
theorem TRet_e (e : ETr) (nx : ST → Mu → Prop) (rt : DK) (bk ct : ST → Mu → Prop) (ρ : ST) (μ : Mu) : TRet e ⟨nx, rt, bk, ct⟩ ρ μ = e ρ μ rt := propext Iff.rfl
theorem TRetN_e (nx : ST → Mu → Prop) (rt : DK) (bk ct : ST → Mu → Prop) (ρ : ST) (μ : Mu) : TRetN ⟨nx, rt, bk, ct⟩ ρ μ = rt .non μ := propext Iff.rfl
theorem TIfS_e (c : TTr) (t u : STr) (nx : ST → Mu → Prop) (rt : DK) (bk ct : ST → Mu → Prop) (ρ : ST) (μ : Mu) : TIfS c t u ⟨nx, rt, bk, ct⟩ ρ μ = c ρ μ fun b μ1 => kIf b (t ⟨nx, rt, bk, ct⟩ ρ μ1) (u ⟨nx, rt, bk, ct⟩ ρ μ1) := propext Iff.rfl
theorem TAsg_e (e : ETr) (g : GTr) (nx : ST → Mu → Prop) (rt : DK) (bk ct : ST → Mu → Prop) (ρ : ST) (μ : Mu) : TAsg e g ⟨nx, rt, bk, ct⟩ ρ μ = e ρ μ fun d μ1 => g d ρ μ1 nx := propext Iff.rfl
theorem TPar_e (i j : Nat) (a : ATr) (nx : ST → Mu → Prop) (rt : DK) (bk ct : ST → Mu → Prop) (ρ : ST) (μ : Mu) : TPar i j a ⟨nx, rt, bk, ct⟩ ρ μ = a ρ μ fun ds μ1 => k2 ds fun v w => GName i v ρ μ1 fun ρ2 μ2 => GName j w ρ2 μ2 nx := propext Iff.rfl
theorem TSetIx_e (o k e : ETr) (nx : ST → Mu → Prop) (rt : DK) (bk ct : ST → Mu → Prop) (ρ : ST) (μ : Mu) : TSetIx o k e ⟨nx, rt, bk, ct⟩ ρ μ = e ρ μ fun y μ1 => o ρ μ1 fun x μ2 => k ρ μ2 fun z μ3 => kSet x z y μ3 fun μ4 => nx ρ μ4 := propext Iff.rfl
theorem TFor_e (it : ATr) (g : GTr) (b : STr) (nx : ST → Mu → Prop) (rt : DK) (bk ct : ST → Mu → Prop) (ρ : ST) (μ : Mu) : TFor it g b ⟨nx, rt, bk, ct⟩ ρ μ = it ρ μ fun ds μ1 => forR g b ⟨nx, rt, bk, ct⟩ ds ρ μ1 := propext Iff.rfl
theorem IRange1_e (a : ETr) (ρ : ST) (μ : Mu) (Q : List D → Mu → Prop) : IRange1 a ρ μ Q = a ρ μ fun x μ1 => kI x fun j => (-4611686018427387904 ≤ j ∧ j < 4611686018427387904) ∧ Q (rangeD 0 j.toNat) μ1 := propext Iff.rfl
theorem ITup_e (a : ETr) (ρ : ST) (μ : Mu) (Q : List D → Mu → Prop) : ITup a ρ μ Q = a ρ μ fun x μ1 => kTup x fun ds => Q ds μ1 := propext Iff.rfl
theorem ILs_e (a : ETr) (ρ : ST) (μ : Mu) (Q : List D → Mu → Prop) : ILs a ρ μ Q = a ρ μ fun x μ1 => kLs x fun ds => Q ds μ1 := propext Iff.rfl
theorem IZip_e (ta tb : Bool) (t : ATr) (ρ : ST) (μ : Mu) (Q : List D → Mu → Prop) : IZip ta tb t ρ μ Q = t ρ μ fun vs μ1 => k2 vs fun x y => kQ ta x fun ds => kQ tb y fun es => Q (List.zipWith (fun d e => .tup [d, e]) ds es) μ1 := propext Iff.rfl
theorem IEnum_e (a : ETr) (ρ : ST) (μ : Mu) (Q : List D → Mu → Prop) : IEnum (TCons a TNil) ρ μ Q = a ρ μ fun x μ1 => kLs x fun ds => Q (enumD ds) μ1 := propext (Iff.of_eq (congrArg (a ρ μ) (funext fun x => funext fun μ1 => by cases x <;> rfl)))
theorem IRange2_e (a b : ETr) (ρ : ST) (μ : Mu) (Q : List D → Mu → Prop) : IRange2 a b ρ μ Q = a ρ μ fun x μ1 => b ρ μ1 fun y μ2 => kI x fun i => kI y fun j => ((-4611686018427387904 ≤ i ∧ i < 4611686018427387904) ∧ -4611686018427387904 ≤ j ∧ j < 4611686018427387904) ∧ Q (rangeD i (j - i).toNat) μ2 := propext Iff.rfl
theorem TFrz_e (a : ETr) (ρ : ST) (μ : Mu) (Q : DK) : TFrz a ρ μ Q = a ρ μ fun x μ1 => kObj x fun b => kL μ1 b fun ds => Q (.ls ds) (dn μ1 b) := propext Iff.rfl
theorem TApp_e (To Te : ETr) (ρ : ST) (μ : Mu) (Q : DK) : TApp To Te ρ μ Q = To ρ μ fun x μ1 => kObj x fun a => kL μ1 a fun _ => Te ρ μ1 fun y μ2 => kL μ2 a fun ds => ds.length < 1000000 ∧ Q .non (up μ2 a (.lst (ds ++ [y]))) := propext Iff.rfl
theorem TSl_e (a : ETr) (lo hi : OTr) (ρ : ST) (μ : Mu) (Q : DK) : TSl a lo hi ρ μ Q = a ρ μ fun x μ1 => lo ρ μ1 fun l μ2 => hi ρ μ2 fun h μ3 => rSl x l h μ3 Q := propext Iff.rfl
theorem ONo_e (ρ : ST) (μ : Mu) (Q : Option Int → Mu → Prop) : ONo ρ μ Q = Q none μ := propext Iff.rfl
theorem OInt_e (T : ETr) (ρ : ST) (μ : Mu) (Q : Option Int → Mu → Prop) : OInt T ρ μ Q = T ρ μ fun x μ1 => kI x fun i => Q (some i) μ1 := propext Iff.rfl
theorem GTup_2 (i0 i1 : Nat) (d0 d1 : D) (ρ : ST) (μ : Mu) (k : ST → Mu → Prop) : GTup [i0, i1] (.tup [d0, d1]) ρ μ k = GName i0 d0 ρ μ fun ρ1 _ => GName i1 d1 ρ1 μ fun ρ2 _ => k ρ2 μ := by simp [GTup, setAll, GName]
theorem GTup_3 (i0 i1 i2 : Nat) (d0 d1 d2 : D) (ρ : ST) (μ : Mu) (k : ST → Mu → Prop) : GTup [i0, i1, i2] (.tup [d0, d1, d2]) ρ μ k = GName i0 d0 ρ μ fun ρ1 _ => GName i1 d1 ρ1 μ fun ρ2 _ => GName i2 d2 ρ2 μ fun ρ3 _ => k ρ3 μ := by simp [GTup, setAll, GName]
theorem GTup_4 (i0 i1 i2 i3 : Nat) (d0 d1 d2 d3 : D) (ρ : ST) (μ : Mu) (k : ST → Mu → Prop) : GTup [i0, i1, i2, i3] (.tup [d0, d1, d2, d3]) ρ μ k = GName i0 d0 ρ μ fun ρ1 _ => GName i1 d1 ρ1 μ fun ρ2 _ => GName i2 d2 ρ2 μ fun ρ3 _ => GName i3 d3 ρ3 μ fun ρ4 _ => k ρ4 μ := by simp [GTup, setAll, GName]
theorem GTup_5 (i0 i1 i2 i3 i4 : Nat) (d0 d1 d2 d3 d4 : D) (ρ : ST) (μ : Mu) (k : ST → Mu → Prop) : GTup [i0, i1, i2, i3, i4] (.tup [d0, d1, d2, d3, d4]) ρ μ k = GName i0 d0 ρ μ fun ρ1 _ => GName i1 d1 ρ1 μ fun ρ2 _ => GName i2 d2 ρ2 μ fun ρ3 _ => GName i3 d3 ρ3 μ fun ρ4 _ => GName i4 d4 ρ4 μ fun ρ5 _ => k ρ5 μ := by simp [GTup, setAll, GName]
theorem GTup_6 (i0 i1 i2 i3 i4 i5 : Nat) (d0 d1 d2 d3 d4 d5 : D) (ρ : ST) (μ : Mu) (k : ST → Mu → Prop) : GTup [i0, i1, i2, i3, i4, i5] (.tup [d0, d1, d2, d3, d4, d5]) ρ μ k = GName i0 d0 ρ μ fun ρ1 _ => GName i1 d1 ρ1 μ fun ρ2 _ => GName i2 d2 ρ2 μ fun ρ3 _ => GName i3 d3 ρ3 μ fun ρ4 _ => GName i4 d4 ρ4 μ fun ρ5 _ => GName i5 d5 ρ5 μ fun ρ6 _ => k ρ6 μ := by simp [GTup, setAll, GName]
theorem GTup_7 (i0 i1 i2 i3 i4 i5 i6 : Nat) (d0 d1 d2 d3 d4 d5 d6 : D) (ρ : ST) (μ : Mu) (k : ST → Mu → Prop) : GTup [i0, i1, i2, i3, i4, i5, i6] (.tup [d0, d1, d2, d3, d4, d5, d6]) ρ μ k = GName i0 d0 ρ μ fun ρ1 _ => GName i1 d1 ρ1 μ fun ρ2 _ => GName i2 d2 ρ2 μ fun ρ3 _ => GName i3 d3 ρ3 μ fun ρ4 _ => GName i4 d4 ρ4 μ fun ρ5 _ => GName i5 d5 ρ5 μ fun ρ6 _ => GName i6 d6 ρ6 μ fun ρ7 _ => k ρ7 μ := by simp [GTup, setAll, GName]
theorem GTup_8 (i0 i1 i2 i3 i4 i5 i6 i7 : Nat) (d0 d1 d2 d3 d4 d5 d6 d7 : D) (ρ : ST) (μ : Mu) (k : ST → Mu → Prop) : GTup [i0, i1, i2, i3, i4, i5, i6, i7] (.tup [d0, d1, d2, d3, d4, d5, d6, d7]) ρ μ k = GName i0 d0 ρ μ fun ρ1 _ => GName i1 d1 ρ1 μ fun ρ2 _ => GName i2 d2 ρ2 μ fun ρ3 _ => GName i3 d3 ρ3 μ fun ρ4 _ => GName i4 d4 ρ4 μ fun ρ5 _ => GName i5 d5 ρ5 μ fun ρ6 _ => GName i6 d6 ρ6 μ fun ρ7 _ => GName i7 d7 ρ7 μ fun ρ8 _ => k ρ8 μ := by simp [GTup, setAll, GName]
theorem LEN_0 (P : Prop) : LEN [] P = P := by simp [LEN]
theorem cLen_t0 (μ : Mu) (Q : DK) : CALL bLen [.tup []] μ Q = Q (.int 0) μ := propext Iff.rfl
theorem cLen_l0 (μ : Mu) (Q : DK) : CALL bLen [.ls []] μ Q = Q (.int 0) μ := propext Iff.rfl
theorem LEN_1 (x0 : D) (P : Prop) : LEN [x0] P = P := by simp [LEN]
theorem cLen_t1 (x0 : D) (μ : Mu) (Q : DK) : CALL bLen [.tup [x0]] μ Q = Q (.int 1) μ := propext Iff.rfl
theorem cLen_l1 (x0 : D) (μ : Mu) (Q : DK) : CALL bLen [.ls [x0]] μ Q = Q (.int 1) μ := propext Iff.rfl
theorem LEN_2 (x0 x1 : D) (P : Prop) : LEN [x0, x1] P = P := by simp [LEN]
theorem cLen_t2 (x0 x1 : D) (μ : Mu) (Q : DK) : CALL bLen [.tup [x0, x1]] μ Q = Q (.int 2) μ := propext Iff.rfl
theorem cLen_l2 (x0 x1 : D) (μ : Mu) (Q : DK) : CALL bLen [.ls [x0, x1]] μ Q = Q (.int 2) μ := propext Iff.rfl
theorem LEN_3 (x0 x1 x2 : D) (P : Prop) : LEN [x0, x1, x2] P = P := by simp [LEN]
theorem cLen_t3 (x0 x1 x2 : D) (μ : Mu) (Q : DK) : CALL bLen [.tup [x0, x1, x2]] μ Q = Q (.int 3) μ := propext Iff.rfl
theorem cLen_l3 (x0 x1 x2 : D) (μ : Mu) (Q : DK) : CALL bLen [.ls [x0, x1, x2]] μ Q = Q (.int 3) μ := propext Iff.rfl
theorem LEN_4 (x0 x1 x2 x3 : D) (P : Prop) : LEN [x0, x1, x2, x3] P = P := by simp [LEN]
theorem cLen_t4 (x0 x1 x2 x3 : D) (μ : Mu) (Q : DK) : CALL bLen [.tup [x0, x1, x2, x3]] μ Q = Q (.int 4) μ := propext Iff.rfl
theorem cLen_l4 (x0 x1 x2 x3 : D) (μ : Mu) (Q : DK) : CALL bLen [.ls [x0, x1, x2, x3]] μ Q = Q (.int 4) μ := propext Iff.rfl
theorem LEN_5 (x0 x1 x2 x3 x4 : D) (P : Prop) : LEN [x0, x1, x2, x3, x4] P = P := by simp [LEN]
theorem cLen_t5 (x0 x1 x2 x3 x4 : D) (μ : Mu) (Q : DK) : CALL bLen [.tup [x0, x1, x2, x3, x4]] μ Q = Q (.int 5) μ := propext Iff.rfl
theorem cLen_l5 (x0 x1 x2 x3 x4 : D) (μ : Mu) (Q : DK) : CALL bLen [.ls [x0, x1, x2, x3, x4]] μ Q = Q (.int 5) μ := propext Iff.rfl
theorem LEN_6 (x0 x1 x2 x3 x4 x5 : D) (P : Prop) : LEN [x0, x1, x2, x3, x4, x5] P = P := by simp [LEN]
theorem cLen_t6 (x0 x1 x2 x3 x4 x5 : D) (μ : Mu) (Q : DK) : CALL bLen [.tup [x0, x1, x2, x3, x4, x5]] μ Q = Q (.int 6) μ := propext Iff.rfl
theorem cLen_l6 (x0 x1 x2 x3 x4 x5 : D) (μ : Mu) (Q : DK) : CALL bLen [.ls [x0, x1, x2, x3, x4, x5]] μ Q = Q (.int 6) μ := propext Iff.rfl
theorem LEN_7 (x0 x1 x2 x3 x4 x5 x6 : D) (P : Prop) : LEN [x0, x1, x2, x3, x4, x5, x6] P = P := by simp [LEN]
theorem cLen_t7 (x0 x1 x2 x3 x4 x5 x6 : D) (μ : Mu) (Q : DK) : CALL bLen [.tup [x0, x1, x2, x3, x4, x5, x6]] μ Q = Q (.int 7) μ := propext Iff.rfl
theorem cLen_l7 (x0 x1 x2 x3 x4 x5 x6 : D) (μ : Mu) (Q : DK) : CALL bLen [.ls [x0, x1, x2, x3, x4, x5, x6]] μ Q = Q (.int 7) μ := propext Iff.rfl
theorem LEN_8 (x0 x1 x2 x3 x4 x5 x6 x7 : D) (P : Prop) : LEN [x0, x1, x2, x3, x4, x5, x6, x7] P = P := by simp [LEN]
theorem cLen_t8 (x0 x1 x2 x3 x4 x5 x6 x7 : D) (μ : Mu) (Q : DK) : CALL bLen [.tup [x0, x1, x2, x3, x4, x5, x6, x7]] μ Q = Q (.int 8) μ := propext Iff.rfl
theorem cLen_l8 (x0 x1 x2 x3 x4 x5 x6 x7 : D) (μ : Mu) (Q : DK) : CALL bLen [.ls [x0, x1, x2, x3, x4, x5, x6, x7]] μ Q = Q (.int 8) μ := propext Iff.rfl
theorem LEN_9 (x0 x1 x2 x3 x4 x5 x6 x7 x8 : D) (P : Prop) : LEN [x0, x1, x2, x3, x4, x5, x6, x7, x8] P = P := by simp [LEN]
theorem cLen_t9 (x0 x1 x2 x3 x4 x5 x6 x7 x8 : D) (μ : Mu) (Q : DK) : CALL bLen [.tup [x0, x1, x2, x3, x4, x5, x6, x7, x8]] μ Q = Q (.int 9) μ := propext Iff.rfl
theorem cLen_l9 (x0 x1 x2 x3 x4 x5 x6 x7 x8 : D) (μ : Mu) (Q : DK) : CALL bLen [.ls [x0, x1, x2, x3, x4, x5, x6, x7, x8]] μ Q = Q (.int 9) μ := propext Iff.rfl
theorem LEN_10 (x0 x1 x2 x3 x4 x5 x6 x7 x8 x9 : D) (P : Prop) : LEN [x0, x1, x2, x3, x4, x5, x6, x7, x8, x9] P = P := by simp [LEN]
theorem cLen_t10 (x0 x1 x2 x3 x4 x5 x6 x7 x8 x9 : D) (μ : Mu) (Q : DK) : CALL bLen [.tup [x0, x1, x2, x3, x4, x5, x6, x7, x8, x9]] μ Q = Q (.int 10) μ := propext Iff.rfl
theorem cLen_l10 (x0 x1 x2 x3 x4 x5 x6 x7 x8 x9 : D) (μ : Mu) (Q : DK) : CALL bLen [.ls [x0, x1, x2, x3, x4, x5, x6, x7, x8, x9]] μ Q = Q (.int 10) μ := propext Iff.rfl
theorem LEN_11 (x0 x1 x2 x3 x4 x5 x6 x7 x8 x9 x10 : D) (P : Prop) : LEN [x0, x1, x2, x3, x4, x5, x6, x7, x8, x9, x10] P = P := by simp [LEN]
theorem cLen_t11 (x0 x1 x2 x3 x4 x5 x6 x7 x8 x9 x10 : D) (μ : Mu) (Q : DK) : CALL bLen [.tup [x0, x1, x2, x3, x4, x5, x6, x7, x8, x9, x10]] μ Q = Q (.int 11) μ := propext Iff.rfl
theorem cLen_l11 (x0 x1 x2 x3 x4 x5 x6 x7 x8 x9 x10 : D) (μ : Mu) (Q : DK) : CALL bLen [.ls [x0, x1, x2, x3, x4, x5, x6, x7, x8, x9, x10]] μ Q = Q (.int 11) μ := propext Iff.rfl
theorem LEN_12 (x0 x1 x2 x3 x4 x5 x6 x7 x8 x9 x10 x11 : D) (P : Prop) : LEN [x0, x1, x2, x3, x4, x5, x6, x7, x8, x9, x10, x11] P = P := by simp [LEN]
theorem cLen_t12 (x0 x1 x2 x3 x4 x5 x6 x7 x8 x9 x10 x11 : D) (μ : Mu) (Q : DK) : CALL bLen [.tup [x0, x1, x2, x3, x4, x5, x6, x7, x8, x9, x10, x11]] μ Q = Q (.int 12) μ := propext Iff.rfl
theorem cLen_l12 (x0 x1 x2 x3 x4 x5 x6 x7 x8 x9 x10 x11 : D) (μ : Mu) (Q : DK) : CALL bLen [.ls [x0, x1, x2, x3, x4, x5, x6, x7, x8, x9, x10, x11]] μ Q = Q (.int 12) μ := propext Iff.rfl
theorem LEN_13 (x0 x1 x2 x3 x4 x5 x6 x7 x8 x9 x10 x11 x12 : D) (P : Prop) : LEN [x0, x1, x2, x3, x4, x5, x6, x7, x8, x9, x10, x11, x12] P = P := by simp [LEN]
theorem cLen_t13 (x0 x1 x2 x3 x4 x5 x6 x7 x8 x9 x10 x11 x12 : D) (μ : Mu) (Q : DK) : CALL bLen [.tup [x0, x1, x2, x3, x4, x5, x6, x7, x8, x9, x10, x11, x12]] μ Q = Q (.int 13) μ := propext Iff.rfl
theorem cLen_l13 (x0 x1 x2 x3 x4 x5 x6 x7 x8 x9 x10 x11 x12 : D) (μ : Mu) (Q : DK) : CALL bLen [.ls [x0, x1, x2, x3, x4, x5, x6, x7, x8, x9, x10, x11, x12]] μ Q = Q (.int 13) μ := propext Iff.rfl
theorem rIx_t0 (x0 : D) (r : List D) (μ : Mu) (Q : DK) : L3.rIx (.tup (x0 :: r)) (.int 0) μ Q = Q x0 μ := by rw [rIx_t]; exact congrArg (fun o => kO o fun d => Q d μ) (atD_lit 0 _)
theorem rIx_l0 (x0 : D) (r : List D) (μ : Mu) (Q : DK) : L3.rIx (.ls (x0 :: r)) (.int 0) μ Q = Q x0 μ := by rw [rIx_l]; exact congrArg (fun o => kO o fun d => Q d μ) (atD_lit 0 _)
theorem rIx_t1 (x0 x1 : D) (r : List D) (μ : Mu) (Q : DK) : L3.rIx (.tup (x0 :: x1 :: r)) (.int 1) μ Q = Q x1 μ := by rw [rIx_t]; exact congrArg (fun o => kO o fun d => Q d μ) (atD_lit 1 _)
theorem rIx_l1 (x0 x1 : D) (r : List D) (μ : Mu) (Q : DK) : L3.rIx (.ls (x0 :: x1 :: r)) (.int 1) μ Q = Q x1 μ := by rw [rIx_l]; exact congrArg (fun o => kO o fun d => Q d μ) (atD_lit 1 _)
theorem rIx_t2 (x0 x1 x2 : D) (r : List D) (μ : Mu) (Q : DK) : L3.rIx (.tup (x0 :: x1 :: x2 :: r)) (.int 2) μ Q = Q x2 μ := by rw [rIx_t]; exact congrArg (fun o => kO o fun d => Q d μ) (atD_lit 2 _)
theorem rIx_l2 (x0 x1 x2 : D) (r : List D) (μ : Mu) (Q : DK) : L3.rIx (.ls (x0 :: x1 :: x2 :: r)) (.int 2) μ Q = Q x2 μ := by rw [rIx_l]; exact congrArg (fun o => kO o fun d => Q d μ) (atD_lit 2 _)
theorem rIx_t3 (x0 x1 x2 x3 : D) (r : List D) (μ : Mu) (Q : DK) : L3.rIx (.tup (x0 :: x1 :: x2 :: x3 :: r)) (.int 3) μ Q = Q x3 μ := by rw [rIx_t]; exact congrArg (fun o => kO o fun d => Q d μ) (atD_lit 3 _)
theorem rIx_l3 (x0 x1 x2 x3 : D) (r : List D) (μ : Mu) (Q : DK) : L3.rIx (.ls (x0 :: x1 :: x2 :: x3 :: r)) (.int 3) μ Q = Q x3 μ := by rw [rIx_l]; exact congrArg (fun o => kO o fun d => Q d μ) (atD_lit 3 _)
theorem rIx_t4 (x0 x1 x2 x3 x4 : D) (r : List D) (μ : Mu) (Q : DK) : L3.rIx (.tup (x0 :: x1 :: x2 :: x3 :: x4 :: r)) (.int 4) μ Q = Q x4 μ := by rw [rIx_t]; exact congrArg (fun o => kO o fun d => Q d μ) (atD_lit 4 _)
theorem rIx_l4 (x0 x1 x2 x3 x4 : D) (r : List D) (μ : Mu) (Q : DK) : L3.rIx (.ls (x0 :: x1 :: x2 :: x3 :: x4 :: r)) (.int 4) μ Q = Q x4 μ := by rw [rIx_l]; exact congrArg (fun o => kO o fun d => Q d μ) (atD_lit 4 _)
theorem rIx_t5 (x0 x1 x2 x3 x4 x5 : D) (r : List D) (μ : Mu) (Q : DK) : L3.rIx (.tup (x0 :: x1 :: x2 :: x3 :: x4 :: x5 :: r)) (.int 5) μ Q = Q x5 μ := by rw [rIx_t]; exact congrArg (fun o => kO o fun d => Q d μ) (atD_lit 5 _)
theorem rIx_l5 (x0 x1 x2 x3 x4 x5 : D) (r : List D) (μ : Mu) (Q : DK) : L3.rIx (.ls (x0 :: x1 :: x2 :: x3 :: x4 :: x5 :: r)) (.int 5) μ Q = Q x5 μ := by rw [rIx_l]; exact congrArg (fun o => kO o fun d => Q d μ) (atD_lit 5 _)
theorem rIx_t6 (x0 x1 x2 x3 x4 x5 x6 : D) (r : List D) (μ : Mu) (Q : DK) : L3.rIx (.tup (x0 :: x1 :: x2 :: x3 :: x4 :: x5 :: x6 :: r)) (.int 6) μ Q = Q x6 μ := by rw [rIx_t]; exact congrArg (fun o => kO o fun d => Q d μ) (atD_lit 6 _)
theorem rIx_l6 (x0 x1 x2 x3 x4 x5 x6 : D) (r : List D) (μ : Mu) (Q : DK) : L3.rIx (.ls (x0 :: x1 :: x2 :: x3 :: x4 :: x5 :: x6 :: r)) (.int 6) μ Q = Q x6 μ := by rw [rIx_l]; exact congrArg (fun o => kO o fun d => Q d μ) (atD_lit 6 _)
theorem rIx_t7 (x0 x1 x2 x3 x4 x5 x6 x7 : D) (r : List D) (μ : Mu) (Q : DK) : L3.rIx (.tup (x0 :: x1 :: x2 :: x3 :: x4 :: x5 :: x6 :: x7 :: r)) (.int 7) μ Q = Q x7 μ := by rw [rIx_t]; exact congrArg (fun o => kO o fun d => Q d μ) (atD_lit 7 _)
theorem rIx_l7 (x0 x1 x2 x3 x4 x5 x6 x7 : D) (r : List D) (μ : Mu) (Q : DK) : L3.rIx (.ls (x0 :: x1 :: x2 :: x3 :: x4 :: x5 :: x6 :: x7 :: r)) (.int 7) μ Q = Q x7 μ := by rw [rIx_l]; exact congrArg (fun o => kO o fun d => Q d μ) (atD_lit 7 _)
theorem rIx_t8 (x0 x1 x2 x3 x4 x5 x6 x7 x8 : D) (r : List D) (μ : Mu) (Q : DK) : L3.rIx (.tup (x0 :: x1 :: x2 :: x3 :: x4 :: x5 :: x6 :: x7 :: x8 :: r)) (.int 8) μ Q = Q x8 μ := by rw [rIx_t]; exact congrArg (fun o => kO o fun d => Q d μ) (atD_lit 8 _)
theorem rIx_l8 (x0 x1 x2 x3 x4 x5 x6 x7 x8 : D) (r : List D) (μ : Mu) (Q : DK) : L3.rIx (.ls (x0 :: x1 :: x2 :: x3 :: x4 :: x5 :: x6 :: x7 :: x8 :: r)) (.int 8) μ Q = Q x8 μ := by rw [rIx_l]; exact congrArg (fun o => kO o fun d => Q d μ) (atD_lit 8 _)
theorem rIx_t9 (x0 x1 x2 x3 x4 x5 x6 x7 x8 x9 : D) (r : List D) (μ : Mu) (Q : DK) : L3.rIx (.tup (x0 :: x1 :: x2 :: x3 :: x4 :: x5 :: x6 :: x7 :: x8 :: x9 :: r)) (.int 9) μ Q = Q x9 μ := by rw [rIx_t]; exact congrArg (fun o => kO o fun d => Q d μ) (atD_lit 9 _)
theorem rIx_l9 (x0 x1 x2 x3 x4 x5 x6 x7 x8 x9 : D) (r : List D) (μ : Mu) (Q : DK) : L3.rIx (.ls (x0 :: x1 :: x2 :: x3 :: x4 :: x5 :: x6 :: x7 :: x8 :: x9 :: r)) (.int 9) μ Q = Q x9 μ := by rw [rIx_l]; exact congrArg (fun o => kO o fun d => Q d μ) (atD_lit 9 _)
theorem rIx_t10 (x0 x1 x2 x3 x4 x5 x6 x7 x8 x9 x10 : D) (r : List D) (μ : Mu) (Q : DK) : L3.rIx (.tup (x0 :: x1 :: x2 :: x3 :: x4 :: x5 :: x6 :: x7 :: x8 :: x9 :: x10 :: r)) (.int 10) μ Q = Q x10 μ := by rw [rIx_t]; exact congrArg (fun o => kO o fun d => Q d μ) (atD_lit 10 _)
theorem rIx_l10 (x0 x1 x2 x3 x4 x5 x6 x7 x8 x9 x10 : D) (r : List D) (μ : Mu) (Q : DK) : L3.rIx (.ls (x0 :: x1 :: x2 :: x3 :: x4 :: x5 :: x6 :: x7 :: x8 :: x9 :: x10 :: r)) (.int 10) μ Q = Q x10 μ := by rw [rIx_l]; exact congrArg (fun o => kO o fun d => Q d μ) (atD_lit 10 _)
theorem rIx_t11 (x0 x1 x2 x3 x4 x5 x6 x7 x8 x9 x10 x11 : D) (r : List D) (μ : Mu) (Q : DK) : L3.rIx (.tup (x0 :: x1 :: x2 :: x3 :: x4 :: x5 :: x6 :: x7 :: x8 :: x9 :: x10 :: x11 :: r)) (.int 11) μ Q = Q x11 μ := by rw [rIx_t]; exact congrArg (fun o => kO o fun d => Q d μ) (atD_lit 11 _)
theorem rIx_l11 (x0 x1 x2 x3 x4 x5 x6 x7 x8 x9 x10 x11 : D) (r : List D) (μ : Mu) (Q : DK) : L3.rIx (.ls (x0 :: x1 :: x2 :: x3 :: x4 :: x5 :: x6 :: x7 :: x8 :: x9 :: x10 :: x11 :: r)) (.int 11) μ Q = Q x11 μ := by rw [rIx_l]; exact congrArg (fun o => kO o fun d => Q d μ) (atD_lit 11 _)
theorem rIx_t12 (x0 x1 x2 x3 x4 x5 x6 x7 x8 x9 x10 x11 x12 : D) (r : List D) (μ : Mu) (Q : DK) : L3.rIx (.tup (x0 :: x1 :: x2 :: x3 :: x4 :: x5 :: x6 :: x7 :: x8 :: x9 :: x10 :: x11 :: x12 :: r)) (.int 12) μ Q = Q x12 μ := by rw [rIx_t]; exact congrArg (fun o => kO o fun d => Q d μ) (atD_lit 12 _)
theorem rIx_l12 (x0 x1 x2 x3 x4 x5 x6 x7 x8 x9 x10 x11 x12 : D) (r : List D) (μ : Mu) (Q : DK) : L3.rIx (.ls (x0 :: x1 :: x2 :: x3 :: x4 :: x5 :: x6 :: x7 :: x8 :: x9 :: x10 :: x11 :: x12 :: r)) (.int 12) μ Q = Q x12 μ := by rw [rIx_l]; exact congrArg (fun o => kO o fun d => Q d μ) (atD_lit 12 _)
theorem kTup_t (ds : List D) (f) : kTup (.tup ds) f = f ds := propext Iff.rfl
theorem kLs_l (ds : List D) (f) : kLs (.ls ds) f = f ds := propext Iff.rfl
theorem kQ_t (ds : List D) (f) : kQ true (.tup ds) f = f ds := propext Iff.rfl
theorem kQ_l (ds : List D) (f) : kQ false (.ls ds) f = f ds := propext Iff.rfl
theorem rEq_ii (i j : Int) (μ : Mu) (Q : DK) : L3.rEq (.int i) (.int j) μ Q = Q (.bl (decide (i = j))) μ := by simp [L3.rEq, okD, eqD]
theorem rNe_ii (i j : Int) (μ : Mu) (Q : DK) : L3.rNe (.int i) (.int j) μ Q = Q (.bl (!decide (i = j))) μ := by simp [L3.rNe, okD, eqD]
theorem rEq_ss (i j : Str) (μ : Mu) (Q : DK) : L3.rEq (.str i) (.str j) μ Q = ((PyData.strOk i = true ∧ PyData.strOk j = true) ∧ Q (.bl (decide (i = j))) μ) := by simp [L3.rEq, okD, eqD]
theorem rNe_ss (i j : Str) (μ : Mu) (Q : DK) : L3.rNe (.str i) (.str j) μ Q = ((PyData.strOk i = true ∧ PyData.strOk j = true) ∧ Q (.bl (!decide (i = j))) μ) := by simp [L3.rNe, okD, eqD]
theorem rEq_bb (i j : Bool) (μ : Mu) (Q : DK) : L3.rEq (.bl i) (.bl j) μ Q = Q (.bl (i == j)) μ := by simp [L3.rEq, okD, eqD]
theorem rNe_bb (i j : Bool) (μ : Mu) (Q : DK) : L3.rNe (.bl i) (.bl j) μ Q = Q (.bl (!(i == j))) μ := by simp [L3.rNe, okD, eqD]
theorem cAbs_i (i : Int) (μ : Mu) (Q : DK) : CALL bAbs [.int i] μ Q = Q (.int (if i < 0 then -i else i)) μ := propext Iff.rfl
theorem cMax_i (i j : Int) (μ : Mu) (Q : DK) : CALL bMax2 [.int i, .int j] μ Q = Q (.int (max i j)) μ := by show Q (.int (if j > i then j else i)) μ = _; congr 2; omega
theorem cMin_i (i j : Int) (μ : Mu) (Q : DK) : CALL bMin2 [.int i, .int j] μ Q = Q (.int (min i j)) μ := by show Q (.int (if j < i then j else i)) μ = _; congr 2; omega
theorem cInt_i (i : Int) (μ : Mu) (Q : DK) : CALL bInt [.int i] μ Q = Q (.int i) μ := propext Iff.rfl
theorem cInt_b (i : Bool) (μ : Mu) (Q : DK) : CALL bInt [.bl i] μ Q = Q (.int (if i then 1 else 0)) μ := propext Iff.rfl
theorem cTuple_t (a : List D) (μ : Mu) (Q : DK) : CALL bTuple [.tup a] μ Q = Q (.tup a) μ := propext Iff.rfl
theorem cTuple_l (a : List D) (μ : Mu) (Q : DK) : CALL bTuple [.ls a] μ Q = Q (.tup a) μ := propext Iff.rfl
theorem cTuple_o (a : Addr) (μ : Mu) (Q : DK) : CALL bTuple [.obj a] μ Q = kL μ a fun xs => Q (.tup xs) μ := propext Iff.rfl
theorem cListV_t (a : List D) (μ : Mu) (Q : DK) : CALL bListV [.tup a] μ Q = Q (.ls a) μ := propext Iff.rfl
theorem cListV_l (a : List D) (μ : Mu) (Q : DK) : CALL bListV [.ls a] μ Q = Q (.ls a) μ := propext Iff.rfl
theorem cListV_o (a : Addr) (μ : Mu) (Q : DK) : CALL bListV [.obj a] μ Q = kL μ a fun xs => Q (.ls xs) μ := propext Iff.rfl
theorem cListM_t (a : List D) (μ : Mu) (Q : DK) : CALL bListM [.tup a] μ Q = ∀ p, μ p = none → Q (.obj p) (up μ p (.lst a)) := propext Iff.rfl
theorem cListM_l (a : List D) (μ : Mu) (Q : DK) : CALL bListM [.ls a] μ Q = ∀ p, μ p = none → Q (.obj p) (up μ p (.lst a)) := propext Iff.rfl
theorem cLen_o (a : Addr) (μ : Mu) (Q : DK) : CALL bLen [.obj a] μ Q = kL μ a fun xs => Q (.int xs.length) μ := propext Iff.rfl
theorem cLen_s (x : Str) (μ : Mu) (Q : DK) : CALL bLen [.str x] μ Q = (x.length ≤ 1000000 ∧ Q (.int x.length) μ) := propext Iff.rfl
theorem cLen_t (a : List D) (μ : Mu) (Q : DK) : CALL bLen [.tup a] μ Q = Q (.int a.length) μ := propext Iff.rfl
theorem cLen_l (a : List D) (μ : Mu) (Q : DK) : CALL bLen [.ls a] μ Q = Q (.int a.length) μ := propext Iff.rfl
theorem ok_i (n : Nat) (i : Int) : okD n (.int i) = true := by cases n <;> simp [okD]
theorem ok_b (n : Nat) (i : Bool) : okD n (.bl i) = true := by cases n <;> simp [okD]
theorem ok_n (n : Nat) : okD n .non = true := by cases n <;> simp [okD]
theorem ok_s (n : Nat) (x : Str) : okD n (.str x) = PyData.strOk x := by cases n <;> simp [okD]
theorem ok_t (n : Nat) (ds : List D) : okD (n + 1) (.tup ds) = okDs n ds := by simp [okD]
theorem ok_l (n : Nat) (ds : List D) : okD (n + 1) (.ls ds) = okDs n ds := by simp [okD]
theorem oks_nil (n : Nat) : okDs n [] = true := by simp [okDs]
theorem oks_cons (n : Nat) (d : D) (r : List D) : okDs n (d :: r) = (okD n d && okDs n r) := by simp [okDs]
theorem eq_ii (i j : Int) : eqD (.int i) (.int j) = decide (i = j) := by simp [eqD]
theorem eq_ss (i j : Str) : eqD (.str i) (.str j) = decide (i = j) := by simp [eqD]
theorem eq_bb (i j : Bool) : eqD (.bl i) (.bl j) = (i == j) := by simp [eqD]
theorem eq_tt (a b : List D) : eqD (.tup a) (.tup b) = eqDs a b := by simp [eqD]
theorem eq_ll (a b : List D) : eqD (.ls a) (.ls b) = eqDs a b := by simp [eqD]
theorem eq_nn  : eqD .non .non = true := by simp [eqD]
theorem eqs_nil  : eqDs [] [] = true := by simp [eqDs]
theorem eqs_cons (a b : D) (r s : List D) : eqDs (a :: r) (b :: s) = (eqD a b && eqDs r s) := by simp [eqDs]
theorem eqs_nc (b : D) (s : List D) : eqDs [] (b :: s) = false := by simp [eqDs]
theorem eqs_cn (b : D) (s : List D) : eqDs (b :: s) [] = false := by simp [eqDs]
theorem v_kIf_t (A B : Prop) : kIf true A B = A := propext Iff.rfl
theorem v_kIf_f (A B : Prop) : kIf false A B = B := propext Iff.rfl
theorem v_kB_bl (c : Bool) (f) : kB (.bl c) f = f c := propext Iff.rfl
theorem v_kI_int (c : Int) (f) : kI (.int c) f = f c := propext Iff.rfl
theorem v_kO_some (c : D) (f) : kO (some c) f = f c := propext Iff.rfl
theorem v_kS_tup (c : List D) (f) : kS (.tup c) f = f c := propext Iff.rfl
theorem v_kS_ls (c : List D) (f) : kS (.ls c) f = f c := propext Iff.rfl
theorem v_k2_two (a b : D) (f) : k2 [a, b] f = f a b := propext Iff.rfl
theorem v_kN_some (c : Nat) (f) : kN (some c) f = f c := propext Iff.rfl
theorem v_kSet_obj (a : Addr) (n : Int) (y : D) (μ : Mu) (f) : kSet (.obj a) (.int n) y μ f = kL μ a fun ds => kN (L2.ixN ds.length n) fun j => f (up μ a (.lst (ds.set j y))) := propext Iff.rfl
theorem v_rPlus_i (i j : Int) (μ Q) : rPlus (.int i) (.int j) μ Q = Q (.int (i + j)) μ := propext Iff.rfl
theorem v_rPlus_s (i j : Str) (μ Q) : rPlus (.str i) (.str j) μ Q = (i.length + j.length ≤ 1000000 ∧ Q (.str (i ++ j)) μ) := propext Iff.rfl
theorem v_rPlus_t (a b : List D) (μ Q) : rPlus (.tup a) (.tup b) μ Q = (a.length + b.length ≤ 1000000 ∧ Q (.tup (a ++ b)) μ) := propext Iff.rfl
theorem v_rPlus_l (a b : List D) (μ Q) : rPlus (.ls a) (.ls b) μ Q = (a.length + b.length ≤ 1000000 ∧ Q (.ls (a ++ b)) μ) := propext Iff.rfl
theorem v_rSub_i (i j : Int) (μ Q) : rSub (.int i) (.int j) μ Q = Q (.int (i - j)) μ := propext Iff.rfl
theorem v_rMul_i (i j : Int) (μ Q) : rMul (.int i) (.int j) μ Q = (MulOk i j ∧ Q (.int (i * j)) μ) := propext Iff.rfl
theorem v_rDiv_i (i j : Int) (μ Q) : rDiv (.int i) (.int j) μ Q = (DivOk j ∧ Q (.int (i.fdiv j)) μ) := propext Iff.rfl
theorem v_rMod_i (i j : Int) (μ Q) : rMod (.int i) (.int j) μ Q = (j ≠ 0 ∧ Q (.int (i.fmod j)) μ) := propext Iff.rfl
theorem v_rPow_i (i j : Int) (μ Q) : rPow (.int i) (.int j) μ Q = (PowOk i j ∧ Q (.int (i ^ j.toNat)) μ) := propext Iff.rfl
theorem v_rNeg_i (i : Int) (μ Q) : rNeg (.int i) μ Q = Q (.int (-i)) μ := propext Iff.rfl
theorem v_rLt_i (i j : Int) (μ Q) : rLt (.int i) (.int j) μ Q = Q (.bl (decide (i < j))) μ := propext Iff.rfl
theorem v_rLe_i (i j : Int) (μ Q) : rLe (.int i) (.int j) μ Q = Q (.bl (decide (i ≤ j))) μ := propext Iff.rfl
theorem v_rGt_i (i j : Int) (μ Q) : rGt (.int i) (.int j) μ Q = Q (.bl (decide (j < i))) μ := propext Iff.rfl
theorem v_rGe_i (i j : Int) (μ Q) : rGe (.int i) (.int j) μ Q = Q (.bl (decide (j ≤ i))) μ := propext Iff.rfl
theorem v_rIx_o (a : Addr) (i : Int) (μ Q) : L3.rIx (.obj a) (.int i) μ Q = kL μ a fun ds => kO (atD ds i) fun d => Q d μ := propext Iff.rfl
theorem v_rIsI_i (c : String) (i : Int) (μ Q) : rIsI c (.int i) μ Q = Q (.bl (isTy "int" c)) μ := propext Iff.rfl
theorem v_rIsI_b (c : String) (i : Bool) (μ Q) : rIsI c (.bl i) μ Q = Q (.bl (isTy "bool" c)) μ := propext Iff.rfl
theorem v_rIsI_t (c : String) (i : List D) (μ Q) : rIsI c (.tup i) μ Q = Q (.bl (isTy "tuple" c)) μ := propext Iff.rfl
theorem v_rIsI_l (c : String) (i : List D) (μ Q) : rIsI c (.ls i) μ Q = Q (.bl (isTy "list" c)) μ := propext Iff.rfl
theorem v_rIsI_s (c : String) (i : Str) (μ Q) : rIsI c (.str i) μ Q = Q (.bl (isTy "str" c)) μ := propext Iff.rfl
theorem v_rIsI_n (c : String) (μ Q) : rIsI c .non μ Q = Q (.bl (isTy "NoneType" c)) μ := propext Iff.rfl
theorem v_rIs_n (μ Q) : rIs .non .non μ Q = Q (.bl true) μ := propext Iff.rfl
theorem v_rIs_i (i : Int) (μ Q) : rIs (.int i) .non μ Q = Q (.bl false) μ := propext Iff.rfl
theorem v_rIs_t (i : List D) (μ Q) : rIs (.tup i) .non μ Q = Q (.bl false) μ := propext Iff.rfl
theorem v_rIsNot_n (μ Q) : rIsNot .non .non μ Q = Q (.bl false) μ := propext Iff.rfl
theorem v_rIsNot_i (i : Int) (μ Q) : rIsNot (.int i) .non μ Q = Q (.bl true) μ := propext Iff.rfl
theorem v_rIsNot_t (i : List D) (μ Q) : rIsNot (.tup i) .non μ Q = Q (.bl true) μ := propext Iff.rfl
theorem v_rSl_t (a : List D) (lo hi) (μ Q) : rSl (.tup a) lo hi μ Q = Q (.tup (cutD a lo hi)) μ := propext Iff.rfl
theorem v_rSl_l (a : List D) (lo hi) (μ Q) : rSl (.ls a) lo hi μ Q = Q (.ls (cutD a lo hi)) μ := propext Iff.rfl
theorem v_rSl_o (a : Addr) (lo hi) (μ Q) : rSl (.obj a) lo hi μ Q = kL μ a fun xs => Q (.ls (cutD xs lo hi)) μ := propext Iff.rfl
theorem v_rIn_t (n : Bool) (x : D) (a : List D) (μ Q) : L3.rIn n x (.tup a) μ Q = ((flatD x = true ∧ a.all flatD = true) ∧ Q (.bl (if n then !inD x a else inD x a)) μ) := propext Iff.rfl
theorem v_rIn_l (n : Bool) (x : D) (a : List D) (μ Q) : L3.rIn n x (.ls a) μ Q = ((flatD x = true ∧ a.all flatD = true) ∧ Q (.bl (if n then !inD x a else inD x a)) μ) := propext Iff.rfl
theorem v_rIn_o (n : Bool) (x : D) (a : Addr) (μ Q) : L3.rIn n x (.obj a) μ Q = kL μ a fun xs => (flatD x = true ∧ xs.all flatD = true) ∧ Q (.bl (if n then !inD x xs else inD x xs)) μ := propext Iff.rfl
theorem v_rIx_t (ds : List D) (i : Int) (μ Q) : L3.rIx (.tup ds) (.int i) μ Q = kO (atD ds i) fun d => Q d μ := propext Iff.rfl
theorem v_rIx_l (ds : List D) (i : Int) (μ Q) : L3.rIx (.ls ds) (.int i) μ Q = kO (atD ds i) fun d => Q d μ := propext Iff.rfl
theorem v_rEq_d (x y : D) (μ Q) : L3.rEq x y μ Q = ((okD 40 x = true ∧ okD 40 y = true) ∧ Q (.bl (eqD x y)) μ) := propext Iff.rfl
theorem v_rNe_d (x y : D) (μ Q) : L3.rNe x y μ Q = ((okD 40 x = true ∧ okD 40 y = true) ∧ Q (.bl (!eqD x y)) μ) := propext Iff.rfl
theorem kif {p : Prop} [Decidable p] {A B : Prop} (h1 : p → A) (h2 : ¬ p → B) : kIf (decide p) A B := by
  by_cases h : p
  · rw [decide_eq_true h]; exact h1 h
  · rw [decide_eq_false h]; exact h2 h
theorem kifn {p : Prop} [Decidable p] {A B : Prop} (h1 : ¬ p → A) (h2 : p → B) : kIf (!decide p) A B := by
  by_cases h : p
  · rw [decide_eq_true h]; exact h2 h
  · rw [decide_eq_false h]; exact h1 h
theorem kif_f {p : Prop} [Decidable p] {A B : Prop} (h : ¬ p) (hB : B) : kIf (decide p) A B := by rw [decide_eq_false h]; exact hB
theorem kif_b {c : Bool} {A B : Prop} (h1 : c = true → A) (h2 : c = false → B) : kIf c A B := by
  cases c
  · exact h2 rfl
  · exact h1 rfl
theorem kO_at {o : Option D} {d : D} {f : D → Prop} (e : o = some d) (h : f d) : kO o f := by rw [e]; exact h
theorem kL_at {μ : Mu} {a : Addr} {ds : List D} {f : List D → Prop} (e : μ a = some (.lst ds)) (h : f ds) : kL μ a f := by rw [kL_of e]; exact h
end L3
set_option Elab.async false
set_option linter.all false
set_option maxRecDepth 100000
set_option maxHeartbeats 4000000
namespace L3
open PySem
local macro_rules | `(tactic| walk_at "go") => `(tactic| try simp only [↓TVar_0, ↓GName_0, ↓TVar_1, ↓GName_1, ↓TVar_2, ↓GName_2, ↓TVar_3, ↓GName_3, ↓TVar_4, ↓GName_4, ↓TVar_5, ↓GName_5, ↓TVar_6, ↓GName_6, ↓TVar_7, ↓GName_7, ↓TVar_8, ↓GName_8, ↓TVar_9, ↓GName_9, ↓TVar_10, ↓GName_10, ↓TVar_11, ↓GName_11, ↓TVar_12, ↓GName_12, ↓TVar_13, ↓GName_13, ↓TVar_14, ↓GName_14, ↓TVar_15, ↓GName_15, ↓TVar_16, ↓GName_16, ↓TVar_17, ↓GName_17, ↓TVar_18, ↓GName_18, ↓TVar_19, ↓GName_19, ↓TVar_20, ↓GName_20, ↓TVar_21, ↓GName_21, ↓TVar_22, ↓GName_22, ↓TVar_23, ↓GName_23, ↓TC_e, ↓TBin_e, ↓TUn_e, ↓TAndV_e, ↓TOrV_e, ↓TNotV_e, ↓TB_e, ↓TAnd_e, ↓TOr_e, ↓TNot_e, ↓TIfE_e, ↓TChain_e, ↓TNil_e, ↓TCons_e, ↓TTup_e, ↓TLsV_e, ↓TLsM_e, ↓TCall_e, ↓TNext_e, ↓TSeq_e, ↓TBreak_e, ↓TCont_e, ↓TDrop_e, ↓TRet_e, ↓TRetN_e, ↓TIfS_e, ↓TAsg_e, ↓TPar_e, ↓TSetIx_e, ↓TFor_e, ↓IRange1_e, ↓ITup_e, ↓ILs_e, ↓IZip_e, ↓IEnum_e, ↓IRange2_e, ↓TFrz_e, ↓TApp_e, ↓TSl_e, ↓ONo_e, ↓OInt_e, ↓GTup_2, ↓GTup_3, ↓GTup_4, ↓GTup_5, ↓GTup_6, ↓GTup_7, ↓GTup_8, ↓LEN_0, ↓cLen_t0, ↓cLen_l0, ↓LEN_1, ↓cLen_t1, ↓cLen_l1, ↓LEN_2, ↓cLen_t2, ↓cLen_l2, ↓LEN_3, ↓cLen_t3, ↓cLen_l3, ↓LEN_4, ↓cLen_t4, ↓cLen_l4, ↓LEN_5, ↓cLen_t5, ↓cLen_l5, ↓LEN_6, ↓cLen_t6, ↓cLen_l6, ↓LEN_7, ↓cLen_t7, ↓cLen_l7, ↓LEN_8, ↓cLen_t8, ↓cLen_l8, ↓LEN_9, ↓cLen_t9, ↓cLen_l9, ↓LEN_10, ↓cLen_t10, ↓cLen_l10, ↓LEN_11, ↓cLen_t11, ↓cLen_l11, ↓LEN_12, ↓cLen_t12, ↓cLen_l12, ↓LEN_13, ↓cLen_t13, ↓cLen_l13, ↓rIx_t0, ↓rIx_l0, ↓rIx_t1, ↓rIx_l1, ↓rIx_t2, ↓rIx_l2, ↓rIx_t3, ↓rIx_l3, ↓rIx_t4, ↓rIx_l4, ↓rIx_t5, ↓rIx_l5, ↓rIx_t6, ↓rIx_l6, ↓rIx_t7, ↓rIx_l7, ↓rIx_t8, ↓rIx_l8, ↓rIx_t9, ↓rIx_l9, ↓rIx_t10, ↓rIx_l10, ↓rIx_t11, ↓rIx_l11, ↓rIx_t12, ↓rIx_l12, ↓v_kIf_t, ↓v_kIf_f, ↓v_kB_bl, ↓v_kI_int, ↓v_kO_some, ↓v_kS_tup, ↓v_kS_ls, ↓v_k2_two, ↓v_kN_some, ↓kL_up, ↓kObj_o, ↓v_kSet_obj, ↓kTup_t, ↓kLs_l, ↓kQ_t, ↓kQ_l, ↓v_rPlus_i, ↓v_rPlus_s, ↓v_rPlus_t, ↓v_rPlus_l, ↓v_rSub_i, ↓v_rMul_i, ↓v_rDiv_i, ↓v_rMod_i, ↓v_rPow_i, ↓v_rNeg_i, ↓v_rLt_i, ↓v_rLe_i, ↓v_rGt_i, ↓v_rGe_i, ↓v_rIx_o, ↓v_rIsI_i, ↓v_rIsI_b, ↓v_rIsI_t, ↓v_rIsI_l, ↓v_rIsI_s, ↓v_rIsI_n, ↓v_rIs_n, ↓v_rIs_i, ↓v_rIs_t, ↓v_rIsNot_n, ↓v_rIsNot_i, ↓v_rIsNot_t, ↓v_rSl_t, ↓v_rSl_l, ↓v_rSl_o, ↓v_rIn_t, ↓v_rIn_l, ↓v_rIn_o, ↓rEq_ii, ↓rNe_ii, ↓rEq_ss, ↓rNe_ss, ↓rEq_bb, ↓rNe_bb, ↓cAbs_i, ↓cMax_i, ↓cMin_i, ↓cInt_i, ↓cInt_b, ↓cTuple_t, ↓cTuple_l, ↓cTuple_o, ↓cListV_t, ↓cListV_l, ↓cListV_o, ↓cListM_t, ↓cListM_l, ↓cLen_o, ↓cLen_s, ok_i, ok_b, ok_n, ok_s, ok_t, ok_l, oks_nil, oks_cons, eq_ii, eq_ss, eq_bb, eq_tt, eq_ll, eq_nn, eqs_nil, eqs_cons, eqs_nc, eqs_cn, cLen_t, cLen_l, v_rIx_t, v_rIx_l, v_rEq_d, v_rNe_d, true_and, and_true, and_self, Bool.not_true, Bool.not_false, decide_true, decide_false, Bool.or_true, Bool.or_false, Bool.true_or, Bool.false_or, Bool.and_false, Bool.false_and, Bool.and_true, Bool.true_and, Int.reduceToNat, Int.reducePow, Int.reduceNeg, Int.reduceSub, Int.reduceAdd, Int.reduceMul, Int.reduceEq, Int.reduceLT, Int.reduceLE, Int.reduceBEq, up_up, isTy_ii, isTy_ib, isTy_bb, isTy_bi, isTy_tt, isTy_it, isTy_bt, if_true, if_false, Bool.false_eq_true, reduceCtorEq, decide_eq_true_eq, de_still_step, de_still_swell, de_still_heed, de_still_calm, de_step_still, de_step_swell, de_step_heed, de_step_calm, de_swell_still, de_swell_step, de_swell_heed, de_swell_calm, de_heed_still, de_heed_step, de_heed_swell, de_heed_calm, de_calm_still, de_calm_step, de_calm_swell, de_calm_heed, de_same, sok_still, sok_step, sok_swell, sok_heed, sok_calm])
local macro_rules | `(tactic| walk_at "ok") => `(tactic| (simp only [L3.DivOk, L3.MulOk, L3.S64, L3.M256, L3.PowOk] at *; omega))
local macro_rules | `(tactic| walk_at "ini") => `(tactic| simp only [ini, List.map, List.length, List.replicate, Nat.reduceSub, Nat.reduceAdd, Nat.sub_self, List.cons_append, List.nil_append, List.append_nil])
theorem at_all {xs : List D} {P : D → Prop} (h : ∀ d ∈ xs, P d) {k : Int} (k0 : 0 ≤ k) (k1 : k < xs.length) : ∃ d, atD xs k = some d ∧ P d := by
  obtain ⟨j, rfl⟩ := Int.eq_ofNat_of_zero_le k0
  rw [atD_lit]
  have hj : j < xs.length := by omega
  exact ⟨xs[j], by simp [hj], h _ (List.getElem_mem hj)⟩
def IsB (lo hi : Int) (d : D) : Prop := ∃ p q, d = fr p q ∧ FrB lo hi p q
def IsA (lo hi : Int) (d : D) : Prop := ∃ p q, d = fr p q ∧ FrA lo hi p q
def IsL (hi : Int) (d : D) : Prop := ∃ p q, d = fr p q ∧ FrL hi p q
def IsI (lo hi : Int) (d : D) : Prop := ∃ i : Int, d = .int i ∧ lo ≤ i ∧ i ≤ hi
theorem fc_nil {P : D → Prop} : ∀ d ∈ ([] : List D), P d := fun _ h => nomatch h
theorem fc_cons {P : D → Prop} {a : D} {xs : List D} (h : P a) (k : ∀ d ∈ xs, P d) : ∀ d ∈ a :: xs, P d := fun d hd => by
  rcases List.mem_cons.mp hd with e | e
  · rw [e]; exact h
  · exact k d e
local macro_rules | `(tactic| walk_at "all") => `(tactic| repeat' (first | exact fc_nil | refine fc_cons ?_ ?_))
theorem all_w : ∀ d ∈ ([fr 1 1, fr 2 1, fr 3 1, fr 3 2, fr 5 2, fr 4 1, fr 10 1] : List D), IsB 1 60 d := by
  walk_at "all"
  all_goals exact ⟨_, _, rfl, ⟨by decide, by decide, by decide, by decide, by decide⟩⟩
theorem all_t {w : D} (hw : IsB 1 60 w) : ∀ d ∈ ([fr 4 1, fr 9 2, fr 8 1, fr 12 1, fr 25 2, fr 60 1, w] : List D), IsB 1 60 d := by
  walk_at "all"
  all_goals first | exact hw | exact ⟨_, _, rfl, ⟨by decide, by decide, by decide, by decide, by decide⟩⟩
theorem all_u : ∀ d ∈ ([fr 1 1, fr 1 2, fr 2 1, fr 1 3, fr 1 60, fr 60 1, fr 7 4] : List D), IsA 0 60 d := by
  walk_at "all"
  all_goals exact ⟨_, _, rfl, ⟨⟨by decide, by decide, by decide, by decide, by decide⟩, by decide⟩⟩
theorem all_v : ∀ d ∈ ([fr 2 1, fr 3 2, fr 11 10, fr 60 1, fr 61 60] : List D), IsA 1 60 d := by
  walk_at "all"
  all_goals exact ⟨_, _, rfl, ⟨⟨by decide, by decide, by decide, by decide, by decide⟩, by decide⟩⟩
theorem all_g : ∀ d ∈ ([fr 1 1, fr 1 2, fr 1 16, fr 1 60, fr 3 4] : List D), IsA 0 1 d := by
  walk_at "all"
  all_goals exact ⟨_, _, rfl, ⟨⟨by decide, by decide, by decide, by decide, by decide⟩, by decide⟩⟩
theorem all_d : ∀ d ∈ ([fr 1 2, fr 3 4, fr 1 60, fr 59 60, fr 7 8] : List D), IsL 1 d := by
  walk_at "all"
  all_goals exact ⟨_, _, rfl, ⟨⟨by decide, by decide, by decide, by decide, by decide⟩, by decide, by decide⟩⟩
theorem all_l : ∀ d ∈ ([.int 0, .int 1, .int 2, .int 3, .int 8] : List D), IsI 0 8 d := by
  walk_at "all"
  all_goals exact ⟨_, rfl, by decide, by decide⟩
theorem all_h : ∀ d ∈ ([.int 0, .int 1, .int 2, .int 9, .int 50] : List D), IsI 0 50 d := by
  walk_at "all"
  all_goals exact ⟨_, rfl, by decide, by decide⟩
def sp_plain : FSp := fun ds μ Q => match ds with
  | [.obj b, .str w] => (Box μ b ∧ w ∈ words5) ∧ ∀ d μ', Rule w d → BoxTo b μ μ' → Q d μ'
  | _ => False
theorem len_plain : ∀ ds μ Q, sp_plain ds μ Q → ds.length = 2 := by
  intro ds μ Q h
  unfold sp_plain at h
  split at h
  · rfl
  · exact h.elim
def t_plain_c3 : STr := TSeq (TAsg (TBin L3.rIx (TLsV (TCons (TTup (TCons (TC (.int 1)) (TCons (TC (.int 1)) (TNil)))) (TCons (TTup (TCons (TC (.int 1)) (TCons (TC (.int 2)) (TNil)))) (TCons (TTup (TCons (TC (.int 2)) (TCons (TC (.int 1)) (TNil)))) (TCons (TTup (TCons (TC (.int 1)) (TCons (TC (.int 3)) (TNil)))) (TCons (TTup (TCons (TC (.int 1)) (TCons (TC (.int 60)) (TNil)))) (TCons (TTup (TCons (TC (.int 60)) (TCons (TC (.int 1)) (TNil)))) (TCons (TTup (TCons (TC (.int 7)) (TCons (TC (.int 4)) (TNil)))) (TNil))))))))) (TCall sp_draw (TCons (TVar 0) (TCons (TC (.int 7)) (TNil))))) (GName 4)) (TSeq (TIfS (TB (TBin rEq (TVar 1) (TC (.str (Str.ofString "still"))))) (TRet (TTup (TCons (TVar 1) (TCons (TVar 2) (TNil))))) (TNext)) (TSeq (TIfS (TB (TBin rEq (TVar 1) (TC (.str (Str.ofString "calm"))))) (TSeq (TAsg (TBin L3.rIx (TLsV (TCons (TC (.int 0)) (TCons (TC (.int 1)) (TCons (TC (.int 2)) (TCons (TC (.int 3)) (TCons (TC (.int 8)) (TNil))))))) (TCall sp_draw (TCons (TVar 0) (TCons (TC (.int 5)) (TNil))))) (GName 5)) (TRet (TTup (TCons (TVar 1) (TCons (TVar 2) (TCons (TVar 4) (TCons (TVar 5) (TCons (TBin rPlus (TVar 5) (TBin L3.rIx (TLsV (TCons (TC (.int 0)) (TCons (TC (.int 1)) (TCons (TC (.int 2)) (TCons (TC (.int 9)) (TCons (TC (.int 50)) (TNil))))))) (TCall sp_draw (TCons (TVar 0) (TCons (TC (.int 5)) (TNil)))))) (TCons (TVar 3) (TNil)))))))))) (TNext)) (TSeq (TIfS (TB (TBin rEq (TVar 1) (TC (.str (Str.ofString "heed"))))) (TSeq (TAsg (TBin L3.rIx (TLsV (TCons (TTup (TCons (TC (.int 1)) (TCons (TC (.int 1)) (TNil)))) (TCons (TTup (TCons (TC (.int 1)) (TCons (TC (.int 2)) (TNil)))) (TCons (TTup (TCons (TC (.int 1)) (TCons (TC (.int 16)) (TNil)))) (TCons (TTup (TCons (TC (.int 1)) (TCons (TC (.int 60)) (TNil)))) (TCons (TTup (TCons (TC (.int 3)) (TCons (TC (.int 4)) (TNil)))) (TNil))))))) (TCall sp_draw (TCons (TVar 0) (TCons (TC (.int 5)) (TNil))))) (GName 6)) (TRet (TTup (TCons (TVar 1) (TCons (TVar 2) (TCons (TVar 4) (TCons (TVar 6) (TCons (TVar 3) (TNil))))))))) (TNext)) (TSeq (TIfS (TB (TBin rEq (TVar 1) (TC (.str (Str.ofString "swell"))))) (TAsg (TBin L3.rIx (TLsV (TCons (TTup (TCons (TC (.int 2)) (TCons (TC (.int 1)) (TNil)))) (TCons (TTup (TCons (TC (.int 3)) (TCons (TC (.int 2)) (TNil)))) (TCons (TTup (TCons (TC (.int 11)) (TCons (TC (.int 10)) (TNil)))) (TCons (TTup (TCons (TC (.int 60)) (TCons (TC (.int 1)) (TNil)))) (TCons (TTup (TCons (TC (.int 61)) (TCons (TC (.int 60)) (TNil)))) (TNil))))))) (TCall sp_draw (TCons (TVar 0) (TCons (TC (.int 5)) (TNil))))) (GName 4)) (TNext)) (TSeq (TAsg (TBin L3.rIx (TLsV (TCons (TTup (TCons (TC (.int 1)) (TCons (TC (.int 2)) (TNil)))) (TCons (TTup (TCons (TC (.int 3)) (TCons (TC (.int 4)) (TNil)))) (TCons (TTup (TCons (TC (.int 1)) (TCons (TC (.int 60)) (TNil)))) (TCons (TTup (TCons (TC (.int 59)) (TCons (TC (.int 60)) (TNil)))) (TCons (TTup (TCons (TC (.int 7)) (TCons (TC (.int 8)) (TNil)))) (TNil))))))) (TCall sp_draw (TCons (TVar 0) (TCons (TC (.int 5)) (TNil))))) (GName 7)) (TRet (TTup (TCons (TVar 1) (TCons (TVar 2) (TCons (TVar 4) (TCons (TVar 7) (TCons (TVar 3) (TNil)))))))))))))
def t_plain : STr := TSeq (TAsg (TBin L3.rIx (TLsV (TCons (TTup (TCons (TC (.int 1)) (TCons (TC (.int 1)) (TNil)))) (TCons (TTup (TCons (TC (.int 2)) (TCons (TC (.int 1)) (TNil)))) (TCons (TTup (TCons (TC (.int 3)) (TCons (TC (.int 1)) (TNil)))) (TCons (TTup (TCons (TC (.int 3)) (TCons (TC (.int 2)) (TNil)))) (TCons (TTup (TCons (TC (.int 5)) (TCons (TC (.int 2)) (TNil)))) (TCons (TTup (TCons (TC (.int 4)) (TCons (TC (.int 1)) (TNil)))) (TCons (TTup (TCons (TC (.int 10)) (TCons (TC (.int 1)) (TNil)))) (TNil))))))))) (TCall sp_draw (TCons (TVar 0) (TCons (TC (.int 7)) (TNil))))) (GName 2)) (TSeq (TAsg (TBin L3.rIx (TLsV (TCons (TTup (TCons (TC (.int 4)) (TCons (TC (.int 1)) (TNil)))) (TCons (TTup (TCons (TC (.int 9)) (TCons (TC (.int 2)) (TNil)))) (TCons (TTup (TCons (TC (.int 8)) (TCons (TC (.int 1)) (TNil)))) (TCons (TTup (TCons (TC (.int 12)) (TCons (TC (.int 1)) (TNil)))) (TCons (TTup (TCons (TC (.int 25)) (TCons (TC (.int 2)) (TNil)))) (TCons (TTup (TCons (TC (.int 60)) (TCons (TC (.int 1)) (TNil)))) (TCons (TVar 2) (TNil))))))))) (TCall sp_draw (TCons (TVar 0) (TCons (TC (.int 7)) (TNil))))) (GName 3)) (TSeq (TIfS (TB (TBin rLt (TBin rMul (TBin L3.rIx (TVar 3) (TC (.int 0))) (TBin L3.rIx (TVar 2) (TC (.int 1)))) (TBin rMul (TBin L3.rIx (TVar 2) (TC (.int 0))) (TBin L3.rIx (TVar 3) (TC (.int 1)))))) (TAsg (TVar 2) (GName 3)) (TNext)) (t_plain_c3)))
theorem rd_plain : ∀ ds μ Q, sp_plain ds μ Q → t_plain { nx := fun _ μ' => RT Q .non μ', rt := RT Q } (ini 8 ds) μ := by
  intro ds μ Q h
  unfold sp_plain at h
  split at h
  case h_2 => exact h.elim
  rename_i b w
  walk_at "ini"
  unfold t_plain
  walk_at "go"
  obtain ⟨⟨hB, hw⟩, k⟩ := h
  refine draw_intro hB (by decide) (by decide) fun k1 μ1 k10 k11 B1 => ?_
  obtain ⟨_, e1, p, q, rfl, FW⟩ := at_all all_w k10 k11
  walk_at "go"
  simp only [fr] at e1
  rw [e1]
  walk_at "go"
  refine draw_intro B1.box (by decide) (by decide) fun k2 μ2 k20 k21 B2 => ?_
  obtain ⟨_, e2, r, s, rfl, FT⟩ := at_all (all_t ⟨p, q, rfl, FW⟩) k20 k21
  simp only [fr] at e2
  walk_at "go"
  rw [e2]
  walk_at "go"
  have B12 := B1.trans B2
  obtain ⟨P1, P2⟩ := frb_s FW (by decide) (by decide)
  obtain ⟨R1, R2⟩ := frb_s FT (by decide) (by decide)
  refine ⟨.inl (.inl R1), .inl (.inl P1), ?_⟩
  simp only [words5, List.mem_cons, List.not_mem_nil, or_false] at hw
  -- the top that is taken
  have go : ∀ r s : Int, FrB 1 60 r s → p * s ≤ r * q → t_plain_c3 { nx := fun _ μ' => RT Q .non μ', rt := RT Q } [some (.obj b), some (.str w), some (fr p q), some (fr r s), none, none, none, none] μ2 := by
    intro r s FT wt
    rcases hw with rfl | rfl | rfl | rfl | rfl
    all_goals
      unfold t_plain_c3
      walk_at "go"
      refine draw_intro B2.box (by decide) (by decide) fun k3 μ3 k30 k31 B3 => ?_
      obtain ⟨_, e3, x, y, rfl, FU⟩ := at_all all_u k30 k31
      simp only [fr] at e3
      walk_at "go"
      rw [e3]
      walk_at "go"
      have B13 := B12.trans B3
    · walk_at "go"
      exact ⟨_, .refl _, k _ _ (.still FW) B13⟩
    · walk_at "go"
      refine draw_intro B3.box (by decide) (by decide) fun k4 μ4 k40 k41 B4 => ?_
      obtain ⟨_, e4, a, c, rfl, FD⟩ := at_all all_d k40 k41
      simp only [fr] at e4
      walk_at "go"
      rw [e4]
      walk_at "go"
      exact ⟨_, .refl _, k _ _ (.step FW FT wt FU FD) (B13.trans B4)⟩
    · walk_at "go"
      refine draw_intro B3.box (by decide) (by decide) fun k4 μ4 k40 k41 B4 => ?_
      obtain ⟨_, e4, x', y', rfl, FV⟩ := at_all all_v k40 k41
      simp only [fr] at e4
      walk_at "go"
      rw [e4]
      walk_at "go"
      refine draw_intro B4.box (by decide) (by decide) fun k5 μ5 k50 k51 B5 => ?_
      obtain ⟨_, e5, a, c, rfl, FD⟩ := at_all all_d k50 k51
      simp only [fr] at e5
      walk_at "go"
      rw [e5]
      walk_at "go"
      exact ⟨_, .refl _, k _ _ (.swell FW FT wt FV FD) (B13.trans (B4.trans B5))⟩
    · walk_at "go"
      refine draw_intro B3.box (by decide) (by decide) fun k4 μ4 k40 k41 B4 => ?_
      obtain ⟨_, e4, a, c, rfl, FG⟩ := at_all all_g k40 k41
      simp only [fr] at e4
      walk_at "go"
      rw [e4]
      walk_at "go"
      exact ⟨_, .refl _, k _ _ (.heed FW FT wt FU FG) (B13.trans B4)⟩
    · walk_at "go"
      refine draw_intro B3.box (by decide) (by decide) fun k4 μ4 k40 k41 B4 => ?_
      obtain ⟨_, e4, i, rfl, i0, i1⟩ := at_all all_l k40 k41
      walk_at "go"
      rw [e4]
      walk_at "go"
      refine draw_intro B4.box (by decide) (by decide) fun k5 μ5 k50 k51 B5 => ?_
      obtain ⟨_, e5, j, rfl, j0, j1⟩ := at_all all_h k50 k51
      walk_at "go"
      rw [e5]
      walk_at "go"
      exact ⟨_, .refl _, k _ _ (.calm FW FT wt FU i0 (by omega) (by omega)) (B13.trans (B4.trans B5))⟩
  exact kif (fun hc => go p q FW (by omega)) (fun hc => go r s FT (by omega))
def sp_any_rule : FSp := fun ds μ Q => match ds with
  | [.obj b, .str w] => (Box μ b ∧ w ∈ words5) ∧ ∀ R μ', RN.Ok R → R.wd.str = w → BoxTo b μ μ' → Q R.toD μ'
  | _ => False
theorem len_any_rule : ∀ ds μ Q, sp_any_rule ds μ Q → ds.length = 2 := by
  intro ds μ Q h
  unfold sp_any_rule at h
  split at h
  · rfl
  · exact h.elim
def t_any_rule : STr := TSeq (TIfS (TB (TBin rEq (TCall sp_draw (TCons (TVar 0) (TCons (TC (.int 2)) (TNil)))) (TC (.int 0)))) (TRet (TCall sp_plain (TCons (TVar 0) (TCons (TVar 1) (TNil))))) (TNext)) (TRet (TCall sp_rule (TCons (TVar 0) (TCons (TVar 1) (TNil)))))
theorem rd_any_rule : ∀ ds μ Q, sp_any_rule ds μ Q → t_any_rule { nx := fun _ μ' => RT Q .non μ', rt := RT Q } (ini 2 ds) μ := by
  intro ds μ Q h
  unfold sp_any_rule at h
  split at h
  case h_2 => exact h.elim
  rename_i b w
  walk_at "ini"
  unfold t_any_rule
  walk_at "go"
  obtain ⟨⟨hB, hw⟩, k⟩ := h
  refine draw_intro hB (by decide) (by decide) fun k1 μ1 k10 k11 B1 => ?_
  walk_at "go"
  have fin : ∀ d μ', Rule w d → BoxTo b μ1 μ' → RT Q d μ' := fun d μ' hr B => by
    obtain ⟨R, K, rfl, e⟩ := hr.rn
    exact ⟨_, .refl _, k R μ' K e (B1.trans B)⟩
  exact kif (fun _ => ⟨⟨B1.box, hw⟩, fin⟩) (fun _ => ⟨⟨B1.box, hw⟩, fin⟩)
def sp_grid : FSp := fun ds μ Q => match ds with
  | [.obj b] => Box μ b ∧ ∀ g μ', Gd g → BoxTo b μ μ' → Q (.int g) μ'
  | _ => False
theorem len_grid : ∀ ds μ Q, sp_grid ds μ Q → ds.length = 1 := by
  intro ds μ Q h
  unfold sp_grid at h
  split at h
  · rfl
  · exact h.elim
def t_grid : STr := TRet (TBin L3.rIx (TLsV (TCons (TC (.int 1)) (TCons (TC (.int 2)) (TCons (TC (.int 3)) (TCons (TC (.int 60)) (TCons (TBin rPlus (TC (.int 1)) (TCall sp_draw (TCons (TVar 0) (TCons (TC (.int 60)) (TNil))))) (TNil))))))) (TCall sp_draw (TCons (TVar 0) (TCons (TC (.int 5)) (TNil)))))
theorem rd_grid : ∀ ds μ Q, sp_grid ds μ Q → t_grid { nx := fun _ μ' => RT Q .non μ', rt := RT Q } (ini 1 ds) μ := by
  intro ds μ Q h
  unfold sp_grid at h
  split at h
  case h_2 => exact h.elim
  rename_i b
  walk_at "ini"
  unfold t_grid
  walk_at "go"
  obtain ⟨hB, k⟩ := h
  refine draw_intro hB (by decide) (by decide) fun k1 μ1 k10 k11 B1 => ?_
  walk_at "go"
  refine draw_intro B1.box (by decide) (by decide) fun k2 μ2 k20 k21 B2 => ?_
  have al : ∀ d ∈ ([.int 1, .int 2, .int 3, .int 60, .int (1 + k1)] : List D), IsI 1 60 d := by
    walk_at "all"
    all_goals exact ⟨_, rfl, by omega, by omega⟩
  obtain ⟨_, e, i, rfl, i0, i1⟩ := at_all al k20 k21
  walk_at "go"
  rw [e]
  exact ⟨_, .refl _, k i _ ⟨i0, i1⟩ (B1.trans B2)⟩
structure BoxL (b p : Addr) (xs : List D) (μ μ' : Mu) : Prop where
  box : Box μ' b
  ne : p ≠ b
  new : μ p = none
  at' : μ' p = some (.lst xs)
  oth : ∀ a, a ≠ b → a ≠ p → μ' a = μ a
theorem BoxL.mk' {b p : Addr} {xs : List D} {μ : Mu} (hB : Box μ b) (hp : μ p = none) : BoxL b p xs μ (up μ p (.lst xs)) := by
  have ne : p ≠ b := fun z => by subst z; obtain ⟨_, _, _, e, _⟩ := hB; rw [hp] at e; cases e
  obtain ⟨g, s, c, e, h⟩ := hB
  exact ⟨⟨g, s, c, by rw [up_ne ne.symm]; exact e, h⟩, ne, hp, up_same, fun a _ h => up_ne h⟩
theorem BoxL.go {b p : Addr} {xs : List D} {μ μ1 μ2 : Mu} (h : BoxL b p xs μ μ1) (B : BoxTo b μ1 μ2) : BoxL b p xs μ μ2 :=
  ⟨B.box, h.ne, h.new, by rw [B.oth p h.ne]; exact h.at', fun a h1 h2 => by rw [B.oth a h1]; exact h.oth a h1 h2⟩
theorem BoxL.set {b p : Addr} {xs ys : List D} {μ μ1 : Mu} (h : BoxL b p xs μ μ1) : BoxL b p ys μ (up μ1 p (.lst ys)) := by
  obtain ⟨g, s, c, e, hh⟩ := h.box
  exact ⟨⟨g, s, c, by rw [up_ne h.ne.symm]; exact e, hh⟩, h.ne, h.new, up_same, fun a h1 h2 => by rw [up_ne h2]; exact h.oth a h1 h2⟩
theorem sub_dn (μ : Mu) (p : Addr) : Sub (dn μ p) μ := fun a o e => by
  unfold dn at e
  split at e
  · cases e
  · exact e
theorem BoxL.fin {b p : Addr} {xs : List D} {μ μ1 : Mu} (h : BoxL b p xs μ μ1) : BoxTo b μ (dn μ1 p) := by
  obtain ⟨g, s, c, e, hh⟩ := h.box
  refine ⟨⟨g, s, c, ?_, hh⟩, fun a ha => ?_⟩
  · unfold dn; rw [if_neg h.ne.symm]; exact e
  · unfold dn
    split
    · rename_i z; subst z; exact h.new.symm
    · rename_i z; exact h.oth a ha z
theorem BoxL.rt {b p : Addr} {xs : List D} {μ μ1 : Mu} {Q : DK} {d : D} (h : BoxL b p xs μ μ1) (k : ∀ μ', BoxTo b μ μ' → Q d μ') : RT Q d μ1 := ⟨_, sub_dn μ1 p, k _ h.fin⟩
def sp_heard : FSp := fun ds μ Q => match ds with
  | [.obj b] => Box μ b ∧ ∀ h μ', Hd.Ok h → BoxTo b μ μ' → Q h.toD μ'
  | _ => False
theorem len_heard : ∀ ds μ Q, sp_heard ds μ Q → ds.length = 1 := by
  intro ds μ Q h
  unfold sp_heard at h
  split at h
  · rfl
  · exact h.elim
def t_heard : STr := TSeq (TAsg (TLsM (TNil)) (GName 1)) (TSeq (TFor (IRange1 (TC (.int 4))) (GName 2) (TSeq (TAsg (TLsV (TCons (TC (.int 0)) (TCons (TC (.int 0)) (TCons (TC (.int 1)) (TCons (TCall sp_draw (TCons (TVar 0) (TCons (TC (.int 9)) (TNil)))) (TCons (TCall sp_draw (TCons (TVar 0) (TCons (TC (.int 61)) (TNil)))) (TCons (TCall sp_draw (TCons (TVar 0) (TCons (TBin rPow (TC (.int 10)) (TC (.int 6))) (TNil)))) (TNil)))))))) (GName 3)) (TDrop (TApp (TVar 1) (TBin L3.rIx (TVar 3) (TCall sp_draw (TCons (TVar 0) (TCons (TC (.int 6)) (TNil))))))))) (TSeq (TIfS (TB (TBin rEq (TBin rPlus (TBin L3.rIx (TVar 1) (TC (.int 0))) (TBin L3.rIx (TVar 1) (TC (.int 1)))) (TC (.int 0)))) (TSetIx (TVar 1) (TC (.int 3)) (TC (.int 0))) (TNext)) (TRet (TCall bTuple (TCons (TVar 1) (TNil))))))
theorem rd_heard : ∀ ds μ Q, sp_heard ds μ Q → t_heard { nx := fun _ μ' => RT Q .non μ', rt := RT Q } (ini 4 ds) μ := by
  intro ds μ Q h
  unfold sp_heard at h
  split at h
  case h_2 => exact h.elim
  rename_i b
  walk_at "ini"
  unfold t_heard
  walk_at "go"
  obtain ⟨hB, k⟩ := h
  intro p hp
  walk_at "go"
  refine forR_ind (fun r ρ μ' => ∃ (is : List Int) (v2 v3 : Option D), ρ = [some (.obj b), some (.obj p), v2, v3] ∧ BoxL b p (is.map .int) μ μ' ∧ (∀ i ∈ is, 0 ≤ i ∧ i ≤ 1000000) ∧ is.length + r.length = 4) ?_ ?_ _ _ _ ⟨[], _, _, rfl, BoxL.mk' hB hp, fun _ h => (nomatch h), rfl⟩
  · rintro ρ μ' ⟨is, v2, v3, rfl, BL, hi, hl⟩
    obtain ⟨g, m, l, w, rfl⟩ : ∃ g m l w, is = [g, m, l, w] := by
      match is, hl with
      | [g, m, l, w], _ => exact ⟨g, m, l, w, rfl⟩
    have h0 := hi g (by simp); have h1 := hi m (by simp); have h2 := hi l (by simp); have h3 := hi w (by simp)
    have A := BL.at'
    simp only [List.map] at A
    have K1 : Hd.Ok ⟨g, m, l, w⟩ := ⟨h0.1, h0.2, h1.1, h1.2, h2.1, h2.2, h3.1⟩
    have K2 : Hd.Ok ⟨g, m, l, 0⟩ := ⟨h0.1, h0.2, h1.1, h1.2, h2.1, h2.2, Int.le_refl 0⟩
    walk_at "go"
    refine kL_at A (kO_at (atD_0 _) (kL_at A (kO_at (atD_1 _) ?_)))
    walk_at "go"
    refine kif (fun _ => ?_) (fun _ => ?_)
    · refine kL_at A ?_
      simp only [List.length, show L2.ixN (0 + 1 + 1 + 1 + 1) 3 = some 3 from rfl, kN_some, List.set]
      walk_at "go"
      exact BL.set.rt fun μ'' B => k ⟨g, m, l, 0⟩ _ K2 B
    · refine kL_at A ?_
      exact BL.rt fun μ'' B => k ⟨g, m, l, w⟩ _ K1 B
  · rintro d r ρ μ' N ⟨is, v2, v3, rfl, BL, hi, hl⟩ hN
    walk_at "go"
    refine draw_intro BL.box (by decide) (by decide) fun k1 μ1 k10 k11 B1 => ?_
    walk_at "go"
    refine draw_intro B1.box (by decide) (by decide) fun k2 μ2 k20 k21 B2 => ?_
    walk_at "go"
    refine ⟨⟨by decide, by decide, by decide⟩, draw_intro B2.box (by decide) (by decide) fun k3 μ3 k30 k31 B3 => ?_⟩
    have BL3 := ((BL.go B1).go B2).go B3
    walk_at "go"
    refine kL_at BL3.at' ?_
    refine draw_intro B3.box (by decide) (by decide) fun k4 μ4 k40 k41 B4 => ?_
    have BL4 := BL3.go B4
    have al : ∀ d ∈ ([.int 0, .int 0, .int 1, .int k1, .int k2, .int k3] : List D), IsI 0 1000000 d := by
      walk_at "all"
      all_goals exact ⟨_, rfl, by omega, by omega⟩
    obtain ⟨_, e, i, rfl, i0, i1⟩ := at_all al k40 k41
    walk_at "go"
    rw [e]
    refine kL_at BL4.at' ⟨by rw [List.length_map]; rw [List.length_cons] at hl; omega, ?_⟩
    refine hN _ _ ⟨is ++ [i], _, _, rfl, ?_, fun j hj => ?_, by rw [List.length_append]; rw [List.length_cons] at hl; simp; omega⟩
    · rw [List.map_append]; exact BL4.set
    · rcases List.mem_append.mp hj with z | z
      · exact hi j z
      · have : j = i := by simpa using z
        subst this; exact ⟨i0, i1⟩
end L3
set_option Elab.async false
set_option linter.all false
set_option maxRecDepth 100000
set_option maxHeartbeats 4000000
namespace L3
open PySem
local macro_rules | `(tactic| walk_at "go") => `(tactic| try simp only [↓TVar_0, ↓GName_0, ↓TVar_1, ↓GName_1, ↓TVar_2, ↓GName_2, ↓TVar_3, ↓GName_3, ↓TVar_4, ↓GName_4, ↓TVar_5, ↓GName_5, ↓TVar_6, ↓GName_6, ↓TVar_7, ↓GName_7, ↓TVar_8, ↓GName_8, ↓TVar_9, ↓GName_9, ↓TVar_10, ↓GName_10, ↓TVar_11, ↓GName_11, ↓TVar_12, ↓GName_12, ↓TVar_13, ↓GName_13, ↓TVar_14, ↓GName_14, ↓TVar_15, ↓GName_15, ↓TVar_16, ↓GName_16, ↓TVar_17, ↓GName_17, ↓TVar_18, ↓GName_18, ↓TVar_19, ↓GName_19, ↓TVar_20, ↓GName_20, ↓TVar_21, ↓GName_21, ↓TVar_22, ↓GName_22, ↓TVar_23, ↓GName_23, ↓TC_e, ↓TBin_e, ↓TUn_e, ↓TAndV_e, ↓TOrV_e, ↓TNotV_e, ↓TB_e, ↓TAnd_e, ↓TOr_e, ↓TNot_e, ↓TIfE_e, ↓TChain_e, ↓TNil_e, ↓TCons_e, ↓TTup_e, ↓TLsV_e, ↓TLsM_e, ↓TCall_e, ↓TNext_e, ↓TSeq_e, ↓TBreak_e, ↓TCont_e, ↓TDrop_e, ↓TRet_e, ↓TRetN_e, ↓TIfS_e, ↓TAsg_e, ↓TPar_e, ↓TSetIx_e, ↓TFor_e, ↓IRange1_e, ↓ITup_e, ↓ILs_e, ↓IZip_e, ↓IEnum_e, ↓IRange2_e, ↓TFrz_e, ↓TApp_e, ↓TSl_e, ↓ONo_e, ↓OInt_e, ↓GTup_2, ↓GTup_3, ↓GTup_4, ↓GTup_5, ↓GTup_6, ↓GTup_7, ↓GTup_8, ↓LEN_0, ↓cLen_t0, ↓cLen_l0, ↓LEN_1, ↓cLen_t1, ↓cLen_l1, ↓LEN_2, ↓cLen_t2, ↓cLen_l2, ↓LEN_3, ↓cLen_t3, ↓cLen_l3, ↓LEN_4, ↓cLen_t4, ↓cLen_l4, ↓LEN_5, ↓cLen_t5, ↓cLen_l5, ↓LEN_6, ↓cLen_t6, ↓cLen_l6, ↓LEN_7, ↓cLen_t7, ↓cLen_l7, ↓LEN_8, ↓cLen_t8, ↓cLen_l8, ↓LEN_9, ↓cLen_t9, ↓cLen_l9, ↓LEN_10, ↓cLen_t10, ↓cLen_l10, ↓LEN_11, ↓cLen_t11, ↓cLen_l11, ↓LEN_12, ↓cLen_t12, ↓cLen_l12, ↓LEN_13, ↓cLen_t13, ↓cLen_l13, ↓rIx_t0, ↓rIx_l0, ↓rIx_t1, ↓rIx_l1, ↓rIx_t2, ↓rIx_l2, ↓rIx_t3, ↓rIx_l3, ↓rIx_t4, ↓rIx_l4, ↓rIx_t5, ↓rIx_l5, ↓rIx_t6, ↓rIx_l6, ↓rIx_t7, ↓rIx_l7, ↓rIx_t8, ↓rIx_l8, ↓rIx_t9, ↓rIx_l9, ↓rIx_t10, ↓rIx_l10, ↓rIx_t11, ↓rIx_l11, ↓rIx_t12, ↓rIx_l12, ↓v_kIf_t, ↓v_kIf_f, ↓v_kB_bl, ↓v_kI_int, ↓v_kO_some, ↓v_kS_tup, ↓v_kS_ls, ↓v_k2_two, ↓v_kN_some, ↓kL_up, ↓kObj_o, ↓v_kSet_obj, ↓kTup_t, ↓kLs_l, ↓kQ_t, ↓kQ_l, ↓v_rPlus_i, ↓v_rPlus_s, ↓v_rPlus_t, ↓v_rPlus_l, ↓v_rSub_i, ↓v_rMul_i, ↓v_rDiv_i, ↓v_rMod_i, ↓v_rPow_i, ↓v_rNeg_i, ↓v_rLt_i, ↓v_rLe_i, ↓v_rGt_i, ↓v_rGe_i, ↓v_rIx_o, ↓v_rIsI_i, ↓v_rIsI_b, ↓v_rIsI_t, ↓v_rIsI_l, ↓v_rIsI_s, ↓v_rIsI_n, ↓v_rIs_n, ↓v_rIs_i, ↓v_rIs_t, ↓v_rIsNot_n, ↓v_rIsNot_i, ↓v_rIsNot_t, ↓v_rSl_t, ↓v_rSl_l, ↓v_rSl_o, ↓v_rIn_t, ↓v_rIn_l, ↓v_rIn_o, ↓rEq_ii, ↓rNe_ii, ↓rEq_ss, ↓rNe_ss, ↓rEq_bb, ↓rNe_bb, ↓cAbs_i, ↓cMax_i, ↓cMin_i, ↓cInt_i, ↓cInt_b, ↓cTuple_t, ↓cTuple_l, ↓cTuple_o, ↓cListV_t, ↓cListV_l, ↓cListV_o, ↓cListM_t, ↓cListM_l, ↓cLen_o, ↓cLen_s, ok_i, ok_b, ok_n, ok_s, ok_t, ok_l, oks_nil, oks_cons, eq_ii, eq_ss, eq_bb, eq_tt, eq_ll, eq_nn, eqs_nil, eqs_cons, eqs_nc, eqs_cn, cLen_t, cLen_l, v_rIx_t, v_rIx_l, v_rEq_d, v_rNe_d, true_and, and_true, and_self, Bool.not_true, Bool.not_false, decide_true, decide_false, Bool.or_true, Bool.or_false, Bool.true_or, Bool.false_or, Bool.and_false, Bool.false_and, Bool.and_true, Bool.true_and, Int.reduceToNat, Int.reducePow, Int.reduceNeg, Int.reduceSub, Int.reduceAdd, Int.reduceMul, Int.reduceEq, Int.reduceLT, Int.reduceLE, Int.reduceBEq, up_up, isTy_ii, isTy_ib, isTy_bb, isTy_bi, isTy_tt, isTy_it, isTy_bt, if_true, if_false, Bool.false_eq_true, reduceCtorEq, decide_eq_true_eq, de_still_step, de_still_swell, de_still_heed, de_still_calm, de_step_still, de_step_swell, de_step_heed, de_step_calm, de_swell_still, de_swell_step, de_swell_heed, de_swell_calm, de_heed_still, de_heed_step, de_heed_swell, de_heed_calm, de_calm_still, de_calm_step, de_calm_swell, de_calm_heed, de_same, sok_still, sok_step, sok_swell, sok_heed, sok_calm])
local macro_rules | `(tactic| walk_at "ok") => `(tactic| (simp only [L3.DivOk, L3.MulOk, L3.S64, L3.M256, L3.PowOk] at *; omega))
local macro_rules | `(tactic| walk_at "ini") => `(tactic| simp only [ini, List.map, List.length, List.replicate, Nat.reduceSub, Nat.reduceAdd, Nat.sub_self, List.cons_append, List.nil_append, List.append_nil])
abbrev rowD (hs : List Hd) : List D := hs.map Hd.toD
theorem compR_ind {p : Addr} {G : GTr} {tt : TTr} {te : ETr} {ρc : ST} {K : Mu → Prop} (P : List D → Mu → Prop) (hnil : ∀ μ, P [] μ → K μ)
    (hcons : ∀ d r μ (N : Mu → Prop), P (d :: r) μ → (∀ μ', P r μ' → N μ') → G d ρc μ fun ρ1 μ1 => tt ρ1 μ1 fun b μ2 => kIf b (te ρ1 μ2 fun y μ3 => kL μ3 p fun zs => zs.length < 1000000 ∧ N (up μ3 p (.lst (zs ++ [y])))) (N μ2)) :
    ∀ (ds : List D) (μ : Mu), P ds μ → compR p G tt te ρc K ds μ
  | [], μ, h => hnil μ h
  | d :: r, μ, h => hcons d r μ _ h fun μ' q => compR_ind P hnil hcons r μ' q
def sp_lrow : FSp := fun ds μ Q => match ds with
  | [.obj b, .int m] => (Box μ b ∧ 0 ≤ m ∧ m ≤ 100) ∧ ∀ (hs : List Hd) μ', (∀ h ∈ hs, h.Ok) → (hs.length : Int) ≤ m → BoxTo b μ μ' → Q (.ls (rowD hs)) μ'
  | _ => False
theorem len_lrow : ∀ ds μ Q, sp_lrow ds μ Q → ds.length = 2 := by
  intro ds μ Q h
  unfold sp_lrow at h
  split at h
  · rfl
  · exact h.elim
def t_lrow : STr := TRet (TComp (IRange1 (TCall sp_draw (TCons (TVar 0) (TCons (TBin rPlus (TVar 1) (TC (.int 1))) (TNil))))) (GName 0) (TYes) (TCall sp_heard (TCons (TVar 1) (TNil))) 1 [0])
theorem rd_lrow : ∀ ds μ Q, sp_lrow ds μ Q → t_lrow { nx := fun _ μ' => RT Q .non μ', rt := RT Q } (ini 2 ds) μ := by
  intro ds μ Q h
  unfold sp_lrow at h
  split at h
  case h_2 => exact h.elim
  rename_i b m
  walk_at "ini"
  unfold t_lrow
  walk_at "go"
  obtain ⟨⟨hB, m0, m1⟩, k⟩ := h
  unfold TComp
  walk_at "go"
  refine draw_intro hB (by omega) (by omega) fun k1 μ1 k10 k11 B1 => ?_
  walk_at "go"
  refine ⟨⟨by omega, by omega⟩, fun p hp => ?_⟩
  simp only [capD, List.map, List.replicate, List.cons_append, List.nil_append, lk]
  refine compR_ind (fun r μ' => ∃ hs : List Hd, (∀ h ∈ hs, h.Ok) ∧ BoxL b p (rowD hs) μ1 μ' ∧ hs.length + r.length = k1.toNat) ?_ ?_ _ _ ⟨[], fun _ h => (nomatch h), BoxL.mk' B1.box hp, by simp [rangeD]⟩
  · rintro μ' ⟨hs, Hs, BL, e⟩
    refine kL_at BL.at' ⟨_, .refl _, k hs _ Hs ?_ (B1.trans BL.fin)⟩
    simp at e; omega
  · rintro d r μ' N ⟨hs, Hs, BL, e⟩ hN
    rw [List.length_cons] at e
    walk_at "go"
    simp only [TYes]
    walk_at "go"
    refine ⟨BL.box, fun h μ2 H B2 => ?_⟩
    have BL2 := BL.go B2
    refine kL_at BL2.at' ⟨by rw [List.length_map]; omega, hN _ ⟨hs ++ [h], fun x hx => ?_, ?_, by simp; omega⟩⟩
    · rcases List.mem_append.mp hx with z | z
      · exact Hs x z
      · have : x = h := by simpa using z
        subst this; exact H
    · have := BL2.set (ys := rowD hs ++ [h.toD])
      simpa [rowD] using this
end L3
set_option Elab.async false
set_option linter.all false
set_option maxRecDepth 100000
namespace L2
open PySem PySem.Spec PyProof.Rows
section
variable {κ : Type} [DecidableEq κ]
def valV (kvs : List (κ × V)) (k : κ) : Option V := (kvs.find? fun kv => decide (kv.1 = k)).map (·.2)
def putK (kvs : List (κ × V)) (k : κ) (v : V) : List (κ × V) :=
  if (kvs.any fun kv => decide (kv.1 = k)) = true then kvs.map (fun kv => if kv.1 = k then (kv.1, v) else kv) else kvs ++ [(k, v)]
def dropK (kvs : List (κ × V)) (k : κ) : List (κ × V) := kvs.filter fun kv => decide (kv.1 ≠ k)
theorem valV_pos {p : κ × V} {r : List (κ × V)} {k : κ} (e : p.1 = k) : valV (p :: r) k = some p.2 := by simp [valV, List.find?_cons, e]
theorem valV_neg {p : κ × V} {r : List (κ × V)} {k : κ} (e : ¬ p.1 = k) : valV (p :: r) k = valV r k := by simp [valV, List.find?_cons, e]
theorem RelO.getD {o : Option V} {u : Option Value} {d : V} {d' : Value} (r : RelO o u) (rd : RelV d d') : RelV (o.getD d) (u.getD d') := by
  cases o with
  | none => cases u with
    | none => exact rd
    | some _ => exact (show False from r).elim
  | some _ => cases u with
    | none => exact (show False from r).elim
    | some _ => exact r
theorem KV.val {kvs : List (κ × V)} {vs : List (κ × Value)} (r : KV kvs vs) (k : κ) : RelO (valV kvs k) (valueAt vs k) := by
  unfold KV at r
  induction r with
  | nil => exact True.intro
  | @cons p q ps qs h t ih =>
    obtain ⟨h1, h2⟩ := h
    by_cases e : p.1 = k
    · have e' : q.1 = k := h1.symm.trans e
      have b : valueAt (q :: qs) k = some q.2 := by simp [valueAt, List.find?_cons, e']
      rw [valV_pos e, b]; exact h2
    · have e' : ¬ q.1 = k := fun z => e (h1.trans z)
      have b : valueAt (q :: qs) k = valueAt qs k := by simp [valueAt, List.find?_cons, e']
      rw [valV_neg e, b]; exact ih
theorem KV.any {kvs : List (κ × V)} {vs : List (κ × Value)} (r : KV kvs vs) (k : κ) : (kvs.any fun kv => decide (kv.1 = k)) = vs.any fun kv => decide (kv.1 = k) := by
  unfold KV at r
  induction r with
  | nil => rfl
  | cons h t ih => rw [List.any_cons, List.any_cons, ih, h.1]
theorem KV.drop {kvs : List (κ × V)} {vs : List (κ × Value)} (r : KV kvs vs) (k : κ) : KV (dropK kvs k) (without vs k) := by
  unfold KV at r ⊢
  unfold dropK without
  induction r with
  | nil => exact .nil
  | @cons p q ps qs h t ih =>
    obtain ⟨h1, h2⟩ := h
    rw [List.filter_cons, List.filter_cons]
    by_cases e : p.1 = k
    · have a : ¬ decide (p.1 ≠ k) = true := by simp [e]
      have b : ¬ decide (q.1 ≠ k) = true := by simp [h1.symm.trans e]
      rw [if_neg a, if_neg b]; exact ih
    · have e' : ¬ q.1 = k := fun z => e (h1.trans z)
      have a : decide (p.1 ≠ k) = true := by simp [e]
      have b : decide (q.1 ≠ k) = true := by simp [e']
      rw [if_pos a, if_pos b]; exact .cons ⟨h1, h2⟩ ih
theorem KV.length {kvs : List (κ × V)} {vs : List (κ × Value)} (r : KV kvs vs) : kvs.length = vs.length := Paired.length r
end
theorem kV_is {P : Program} {w : World} {k : Key} {u : Value} (r : RelV (kV k) u) : (mixKind P w).is k u = true := by
  cases k with
  | inl i => obtain ⟨t, e⟩ := (show ∃ t, u = Value.int i t from r); subst e; exact mixKind_int P w i t
  | inr x => obtain ⟨t, e⟩ := (show ∃ t, u = Value.str x t from r); subst e; exact mixKind_str P w x t
abbrev KT (H : Hp) : List (List Key × V) → List (List Key × Addr × Value) → Prop := Paired fun p q => p.1 = q.1 ∧ H q.2.1 = some (.tup (p.1.map kV)) ∧ RelV p.2 q.2.2
theorem KT.val {H : Hp} {kvs : List (List Key × V)} {xs : List (List Key × Addr × Value)} (r : KT H kvs xs) (k : List Key) : RelO (valV kvs k) ((atKey xs k).map (·.2)) := by
  induction r with
  | nil => exact True.intro
  | @cons p q ps qs h t ih =>
    obtain ⟨h1, _, h2⟩ := h
    by_cases e : p.1 = k
    · have e' : q.1 = k := h1.symm.trans e
      have b : atKey (q :: qs) k = some q.2 := by simp [atKey, List.find?_cons, e']
      rw [valV_pos e, b]; exact h2
    · have e' : ¬ q.1 = k := fun z => e (h1.trans z)
      have b : atKey (q :: qs) k = atKey qs k := by simp [atKey, List.find?_cons, e']
      rw [valV_neg e, b]; exact ih
theorem KT.keeps {H H' : Hp} {kvs : List (List Key × V)} {xs : List (List Key × Addr × Value)} (r : KT H kvs xs) (ht : ∀ b ys, H b = some (.tup ys) → H' b = some (.tup ys)) : KT H' kvs xs :=
  Paired.mapP r fun _ _ z => ⟨z.1, ht _ _ z.2.1, z.2.2⟩
section
variable {P : Program} {w : World} {H : Hp} {h : Heap} {a : Addr}
end
def DGet (H : Hp) (a : Addr) (y : V) (r : Option V) : Prop :=
  (∃ kvs k, Rd H a (.dK kvs) ∧ y = kV k ∧ r = valV kvs k) ∨ ∃ kvs k b, Rd H a (.dT kvs) ∧ y = .ref b ∧ H b = some (.tup (k.map kV)) ∧ r = valV kvs k
def DPut (H : Hp) (a : Addr) (y v : V) (H' : Hp) : Prop :=
  (∃ kvs k, H a = some (.dK kvs) ∧ y = kV k ∧ kvs.length < sizeLine ∧ H' = upd H a (.dK (putK kvs k v))) ∨
  ∃ kvs k b, H a = some (.dT kvs) ∧ y = .ref b ∧ H b = some (.tup (k.map kV)) ∧ kvs.length < sizeLine ∧ H' = upd H a (.dT (putK kvs k v))
theorem DGet.k {H : Hp} {a : Addr} {kvs : List (Key × V)} {k : Key} (e : H a = some (.dK kvs)) : DGet H a (kV k) (valV kvs k) := .inl ⟨kvs, k, .inl e, rfl, rfl⟩
theorem DGet.t {H : Hp} {a b : Addr} {kvs : List (List Key × V)} {k : List Key} (e : H a = some (.dT kvs)) (eb : H b = some (.tup (k.map kV))) : DGet H a (.ref b) (valV kvs k) := .inr ⟨kvs, k, b, .inl e, rfl, eb, rfl⟩
theorem DPut.k {H : Hp} {a : Addr} {kvs : List (Key × V)} {k : Key} {v : V} (e : H a = some (.dK kvs)) (hl : kvs.length < sizeLine) : DPut H a (kV k) v (upd H a (.dK (putK kvs k v))) := .inl ⟨kvs, k, e, rfl, hl, rfl⟩
theorem DPut.t {H : Hp} {a b : Addr} {kvs : List (List Key × V)} {k : List Key} {v : V} (e : H a = some (.dT kvs)) (eb : H b = some (.tup (k.map kV))) (hl : kvs.length < sizeLine) :
    DPut H a (.ref b) v (upd H a (.dT (putK kvs k v))) := .inr ⟨kvs, k, b, e, rfl, eb, hl, rfl⟩
section
variable {X : Cx} {pins : List (Addr × Obj)} {σ : St} {H : Hp} {s : Shared} {a : Addr} {y v : V} {u r : Value} {o : Option V} {A : Around} {E : Value → Shared → Prop}
theorem Inv.big (I : Inv X pins σ H s) : sysModules < s.heap.objs.size := by
  have h : mainGlobals < s.heap.objs.size := (I.mod.glob.keeps I.bk).lt
  exact Nat.lt_trans (by decide) h
end
section
variable {X : Cx} {pins : List (Addr × Obj)} {σ : St} {H : Hp} {s : Shared} {a : Addr} {kvs : List (Key × V)} {k : Key} {u : Value} {A : Around} {E : Value → Shared → Prop}
end
section
variable {X : Cx} {o i e value : Expr} {pos pos' tpos : Pos} {td ty tv : TE}
end
section
variable {X : Cx} {pos : Pos}
end
section
variable {X : Cx} {pins : List (Addr × Obj)} {σ : St} {H : Hp} {s : Shared} {a : Addr} {y d : V} {u r : Value} {o : Option V} {A : Around} {E : Value → Shared → Prop}
end
section
variable {X : Cx} {o e f : Expr} {apos cpos : Pos} {td ty tx : TE}
end
section
variable {X : Cx} {pins : List (Addr × Obj)} {σ : St} {H : Hp} {s : Shared} {a : Addr} {kvs : List (Key × V)} {A : Around} {E : Value → Shared → Prop}
end
section
variable {X : Cx} {pins : List (Addr × Obj)} {σ : St} {H : Hp} {s : Shared} {a : Addr} {y : V} {u : Value} {A : Around} {E : Value → Shared → Prop}
end
end L2
set_option Elab.async false
set_option linter.all false
set_option maxRecDepth 100000
set_option maxHeartbeats 4000000
namespace L3
open PySem PySem.Spec PyProof.Rows L2
def kStr (x : D) (f : Str → Prop) : Prop := match x with
  | .str s => f s
  | _ => False
def lookS (kvs : List (Str × D)) (s : Str) : Option D := (kvs.find? fun kv => decide (kv.1 = s)).map (·.2)
def RowsD (K : PySem.W.Frag) : List DictEntry → List (Str × D) → Prop
  | [], [] => True
  | e :: es, (x, d) :: r => (∃ t, e.key = .str x t) ∧ (∃ v, RelV v e.val ∧ ∀ H, Dp K H v d) ∧ RowsD K es r
  | _, _ => False
theorem isStrOf_str (s x : Str) (t : Tok) : Value.isStrOf s (.str x t) = decide (x = s) := by
  by_cases h : x = s
  · subst h; simp [Value.isStrOf]
  · rw [decide_eq_false h]; simp [Value.isStrOf]; first | exact h | exact fun z => h z.symm
theorem RowsD.find {K : PySem.W.Frag} (s : Str) : ∀ {es : List DictEntry} {kvs : List (Str × D)}, RowsD K es kvs →
    match lookS kvs s with
    | none => (es.find? fun e => Value.isStrOf s e.key) = none
    | some d => ∃ e v, (es.find? fun e => Value.isStrOf s e.key) = some e ∧ RelV v e.val ∧ ∀ H, Dp K H v d
  | [], [], _ => rfl
  | e :: es, (x, d) :: r, h => by
    obtain ⟨⟨t, ht⟩, ⟨v, rv, pv⟩, hr⟩ := h
    have ih := RowsD.find s hr
    unfold lookS at ih ⊢
    rw [List.find?_cons, List.find?_cons, ht, isStrOf_str]
    by_cases hx : x = s
    · simp only [decide_eq_true hx, Option.map_some]
      exact ⟨e, v, rfl, rv, pv⟩
    · simp only [decide_eq_false hx]
      exact ih
  | [], _ :: _, h => False.elim h
  | _ :: _, [], h => False.elim h
structure GT (P : Params) (K : PySem.W.Frag) (mg : Str → Option Value) (x : Str) (kvs : List (Str × D)) : Prop where
  ex : ∃ (a : Addr) (es : Array DictEntry) (n : Nat), mg x = some (.ref a) ∧ K.lookup a = some ⟨.type "dict", none, .dict es n, #[]⟩ ∧ PySem.W.KeysLit P es.toList ∧ (a == sysModules) = false ∧ RowsD K es.toList kvs
section
variable {X : Cx} {a b c e : Expr} {Ta Tb Te : ETr} {pos gpos : Pos} {x : Str} {kvs : List (Str × D)}
theorem ld_tab {K : PySem.W.Frag} {es : Array DictEntry} {s : Str} (h : RowsD K es.toList kvs) : match lookS kvs s with
    | none => findBy Value.isStrOf es s = none
    | some d => ∃ u v, findBy Value.isStrOf es s = some u ∧ RelV v u ∧ ∀ H, Dp K H v d := by
  have q := h.find s
  have e : findBy Value.isStrOf es s = (es.toList.find? fun e => Value.isStrOf s e.key).map (·.val) := by
    unfold findBy; rw [← Array.find?_toList]
  rw [e]
  split at q
  · rw [q]; rfl
  · rename_i d hn
    obtain ⟨e, v, h1, h2, h3⟩ := q
    exact ⟨_, v, by rw [h1]; rfl, h2, h3⟩
def rTabIx (p : Addr) (es : Array DictEntry) : L2.R2 := fun x y H Q => ∃ s u v, x = .ref p ∧ y = .str s ∧ findBy Value.isStrOf es s = some u ∧ RelV v u ∧ Q v H
theorem ix_tab {p : Addr} {es : Array DictEntry} {n : Nat} (hl : X.K.lookup p = some ⟨.type "dict", none, .dict es n, #[]⟩) (hk : PySem.W.KeysLit X.w.params es.toList) : IxR X (rTabIx p es) := by
  intro value slice pins s σ H x y v u Q I rx ry h hs
  obtain ⟨z, u', v', rfl, rfl, hf, rv, q⟩ := h
  cases (show v = Value.ref p from rx)
  obtain ⟨t, rfl⟩ := (show ∃ t, u = Value.str z t from ry)
  have hm := PySem.W.mapOf_K (prog := X.prog) I.kIn hl hk
  exact tail_any hm.typeIs slot_dict_getitem.lookup (wpAny_getItem_of (strKind_is X.prog X.w z t) hm hf ⟨v', H, I.tok _, rv, q⟩) hs
def TTabIx (kvs : List (Str × D)) (Te : ETr) : ETr := fun ρ μ Q => Te ρ μ fun x μ1 => kStr x fun s => kO (lookS kvs s) fun d => Q d μ1
theorem le_tabIx (hg : Gl X x) (h : GT X.w.params X.K X.mg x kvs) (hb : LE X b Tb) (hs : PlainIx b := by intro _ _; rfl) (hd : (x == ("__debug__" : Str)) = false := by decide) : LE X (.Subscript (.Name x gpos) b pos) (TTabIx kvs Tb) := by
  obtain ⟨p, es, n, hm, hl, hk, hn, hr⟩ := h.ex
  obtain ⟨tb, pb, sb⟩ := hb.ex
  refine ⟨_, pe_ix (ix_tab hl hk) (pe_glob hg hm (v := .ref p) rfl hd) pb hs, fun σ H ρ μ Q Q' rl hh k => sb σ H ρ μ _ _ rl hh fun y H2 dy μ2 t2 m2 p2 h2 => ?_⟩
  cases p2 with
  | str s =>
    have q := ld_tab (s := s) hr
    obtain ⟨d, ed, h3⟩ := kO_get (show kO (lookS kvs s) fun d => Q d μ2 from h2)
    rw [ed] at q
    obtain ⟨u, v, h4, h5, h6⟩ := q
    exact ⟨s, u, v, rfl, rfl, h4, h5, k v H2 d μ2 t2 m2 (h6 H2) h3⟩
  | _ => exact False.elim h2
def TTabIn (neg : Bool) (kvs : List (Str × D)) (Te : ETr) : ETr := fun ρ μ Q => Te ρ μ fun x μ1 => kStr x fun s => Q (.bl (if neg then !(lookS kvs s).isSome else (lookS kvs s).isSome)) μ1
end
mutual
def lookV (K : PySem.W.Frag) : Nat → Value → D → Bool
  | _, .none, .non => true
  | _, .bool b, .bl c => b == c
  | _, .int i _, .int j => decide (i = j)
  | _, .str x _, .str y => decide (x = y)
  | n + 1, .ref a, .tup ds => match K.lookup a with
    | some ⟨.type "tuple", _, .seq its _, _⟩ => decide (its.size ≤ sizeLine) && lookVs K n its.toList ds
    | _ => false
  | _, _, _ => false
def lookVs (K : PySem.W.Frag) : Nat → List Value → List D → Bool
  | _, [], [] => true
  | n, u :: us, d :: ds => lookV K n u d && lookVs K n us ds
  | _, _, _ => false
end
mutual
theorem lookV_ok {K : PySem.W.Frag} : ∀ {n : Nat} {u : Value} {d : D}, lookV K n u d = true → ∃ v, RelV v u ∧ ∀ H, Dp K H v d := by
  intro n u d h
  unfold lookV at h
  split at h
  · exact ⟨.non, rfl, fun _ => .non⟩
  · obtain rfl := beq_iff_eq.mp h; exact ⟨.bl _, rfl, fun _ => .bl _⟩
  · obtain rfl := of_decide_eq_true h; exact ⟨.int _, ⟨_, rfl⟩, fun _ => .int _⟩
  · obtain rfl := of_decide_eq_true h; exact ⟨.str _, ⟨_, rfl⟩, fun _ => .str _⟩
  · split at h
    · rename_i hl
      simp only [Bool.and_eq_true, decide_eq_true_eq] at h
      obtain ⟨vs, r, p⟩ := lookVs_ok h.2
      exact ⟨.ref _, rfl, fun H => .tup (.inr ⟨_, _, _, hl, rfl, rfl, h.1, r⟩) (p H)⟩
    · cases h
  · cases h
theorem lookVs_ok {K : PySem.W.Frag} : ∀ {n : Nat} {us : List Value} {ds : List D}, lookVs K n us ds = true → ∃ vs, Vals vs us ∧ ∀ H, DpL K H vs ds := by
  intro n us ds h
  unfold lookVs at h
  split at h
  · exact ⟨[], .nil, fun _ => .nil⟩
  · simp only [Bool.and_eq_true] at h
    obtain ⟨v, r, p⟩ := lookV_ok h.1
    obtain ⟨vs, rs, ps⟩ := lookVs_ok h.2
    exact ⟨v :: vs, .cons r rs, fun H => .cons (p H) (ps H)⟩
  · cases h
end
def rowsV (K : PySem.W.Frag) : List DictEntry → List (Str × D) → Bool
  | [], [] => true
  | e :: es, (x, d) :: r => (match e.key with
    | .str y _ => decide (y = x)
    | _ => false) && lookV K 9 e.val d && rowsV K es r
  | _, _ => false
theorem rowsV_ok {K : PySem.W.Frag} : ∀ {es : List DictEntry} {kvs : List (Str × D)}, rowsV K es kvs = true → RowsD K es kvs
  | [], [], _ => True.intro
  | e :: es, (x, d) :: r, h => by
    unfold rowsV at h
    simp only [Bool.and_eq_true] at h
    obtain ⟨⟨h1, h2⟩, h3⟩ := h
    refine ⟨?_, lookV_ok h2, rowsV_ok h3⟩
    split at h1
    · rename_i y t hk
      obtain rfl := of_decide_eq_true h1
      exact ⟨t, hk⟩
    · cases h1
  | [], _ :: _, h => by simp [rowsV] at h
  | _ :: _, [], h => by simp [rowsV] at h
theorem gt_of {K : PySem.W.Frag} {w : World} {h : Heap} {mg : Str → Option Value} {x : Str} {p : Addr} {es : Array DictEntry} {n : Nat} {kvs : List (Str × D)} (X : K.In h) (G : h.Ns mainGlobals mg) (a : PySem.W.nsIn K mainGlobals x = some (some (.ref p)))
    (l : K.lookup p = some ⟨.type "dict", none, .dict es n, #[]⟩) (hk : PySem.W.KeysLit w.params es.toList) (hn : (p == sysModules) = false) (r : rowsV K es.toList kvs = true) : GT w.params K mg x kvs := ⟨p, es, n, PySem.W.mg_of X G a, l, hk, hn, rowsV_ok r⟩
def isBl (b : Bool) : D → Bool
  | .bl c => c == b
  | _ => false
def rIsB (neg : Bool) : DR2 := fun x y μ Q => match y with
  | .bl b => Q (.bl (if neg then !isBl b x else isBl b x)) μ
  | _ => False
def isBlV (b : Bool) : V → Bool
  | .bl c => c == b
  | _ => false
theorem isBl_rel {K : PySem.W.Frag} {H : Hp} {v : V} {d : D} (b : Bool) (h : Dp K H v d) : isBlV b v = isBl b d := by cases h <;> rfl
theorem isBl_val {v : V} {u : Value} (b : Bool) (r : RelV v u) : plainIs u (.bool b) = true ∧ (u == .bool b) = isBlV b v := by
  cases v with
  | bl c => cases r; exact ⟨rfl, by cases b <;> cases c <;> decide⟩
  | int i => obtain ⟨t, rfl⟩ := r; exact ⟨rfl, by simp [isBlV, beq_eq_false_iff_ne]⟩
  | str i => obtain ⟨t, rfl⟩ := r; exact ⟨rfl, by simp [isBlV, beq_eq_false_iff_ne]⟩
  | flt i => obtain ⟨t, rfl⟩ := r; exact ⟨rfl, by simp [isBlV, beq_eq_false_iff_ne]⟩
  | byt i => obtain ⟨t, rfl⟩ := r; exact ⟨rfl, by simp [isBlV, beq_eq_false_iff_ne]⟩
  | _ => cases r; exact ⟨rfl, by simp [isBlV, beq_eq_false_iff_ne]⟩
theorem op_notB {X : Cx} : OpR X (compareOp .IsNot) (fun x y H Q => ∃ b, y = .bl b ∧ Q (.bl (!isBlV b x)) H) := by
  intro pins s σ H x y v u Q I rx ry h
  obtain ⟨b, rfl, q⟩ := h
  cases (show u = Value.bool b from ry)
  obtain ⟨h1, h2⟩ := isBl_val b rx
  exact wpAny_isNot_plain h1 (by rw [h2]; exact ⟨.bl _, H, I, rfl, q⟩)
theorem sim_notB {K : PySem.W.Frag} : SimR2 K (fun x y H Q => ∃ b, y = .bl b ∧ Q (.bl (!isBlV b x)) H) (rIsB true) := fun H μ x y dx dy Q Q' m px py h k => by
  cases py with
  | bl b => exact ⟨b, rfl, k _ H _ μ (.refl H) m (by rw [isBl_rel b px]; exact .bl _) h⟩
  | _ => exact False.elim h
section
variable {X : Cx} {a b : Expr} {Ta Tb : ETr} {pos : Pos}
theorem lt_notB (ha : LE X a Ta) (hb : LE X b Tb) : LT X (.Compare a [.IsNot] [b] pos) (TB (TBin (rIsB true) Ta Tb)) := lt_cmp0 op_notB sim_notB ha hb (nomark _)
end
end L3
set_option Elab.async false
set_option linter.all false
set_option maxRecDepth 100000
set_option maxHeartbeats 4000000
namespace L3
open PySem PySem.Spec PyProof.Rows L2
def lookD (kvs : List (Key × D)) (k : Key) : Option D := (kvs.find? fun kv => decide (kv.1 = k)).map (·.2)
def putD (kvs : List (Key × D)) (k : Key) (v : D) : List (Key × D) :=
  if (kvs.any fun kv => decide (kv.1 = k)) = true then kvs.map (fun kv => if kv.1 = k then (kv.1, v) else kv) else kvs ++ [(k, v)]
def kKey (x : D) (f : Key → Prop) : Prop := match x with
  | .int i => f (.inl i)
  | .str s => f (.inr s)
  | _ => False
theorem DpK.nil {K : PySem.W.Frag} {H : Hp} : DpK K H [] [] := ⟨rfl, .nil⟩
theorem DpK.cons {K : PySem.W.Frag} {H : Hp} {k : Key} {v : V} {d : D} {xs : List (Key × V)} {kvs : List (Key × D)} (h : Dp K H v d) (r : DpK K H xs kvs) : DpK K H ((k, v) :: xs) ((k, d) :: kvs) :=
  ⟨by simp [r.1], .cons h r.2⟩
theorem DpK.ind {K : PySem.W.Frag} {H : Hp} {P : List (Key × V) → List (Key × D) → Prop} (h0 : P [] []) (h1 : ∀ k v d xs kvs, Dp K H v d → DpK K H xs kvs → P xs kvs → P ((k, v) :: xs) ((k, d) :: kvs)) :
    ∀ {xs : List (Key × V)} {kvs : List (Key × D)}, DpK K H xs kvs → P xs kvs
  | [], [], _ => h0
  | [], _ :: _, h => by cases h.1
  | _ :: _, [], h => by cases h.1
  | (k, v) :: xs, (k', d) :: kvs, h => by
    obtain ⟨h2, h3⟩ := h
    simp only [List.map_cons, List.cons.injEq] at h2
    obtain ⟨rfl, h2⟩ := h2
    cases h3 with
    | cons p l => exact h1 k v d xs kvs p ⟨h2, l⟩ (DpK.ind h0 h1 ⟨h2, l⟩)
theorem DpK.any {K : PySem.W.Frag} {H : Hp} {xs : List (Key × V)} {kvs : List (Key × D)} (h : DpK K H xs kvs) (k : Key) : (xs.any fun kv => decide (kv.1 = k)) = kvs.any fun kv => decide (kv.1 = k) := by
  refine DpK.ind (P := fun xs kvs => (xs.any fun kv => decide (kv.1 = k)) = kvs.any fun kv => decide (kv.1 = k)) rfl (fun j v d xs kvs p _ ih => ?_) h
  rw [List.any_cons, List.any_cons, ih]
theorem DpK.length {K : PySem.W.Frag} {H : Hp} {xs : List (Key × V)} {kvs : List (Key × D)} (h : DpK K H xs kvs) : xs.length = kvs.length := by
  have := h.2.length
  simpa using this
section
variable {X : Cx} {o i a b c e value : Expr} {To Ti Ta Tb Te : ETr} {pos tpos : Pos}
def TDGet (To Ti : ETr) : ETr := fun ρ μ Q => To ρ μ fun x μ1 => Ti ρ μ1 fun y μ2 => kObj x fun a => kD μ2 a fun kvs => kKey y fun k => kO (lookD kvs k) fun d => Q d μ2
def TDIn (neg : Bool) (Ti To : ETr) : ETr := fun ρ μ Q => Ti ρ μ fun y μ1 => To ρ μ1 fun x μ2 => kObj x fun a => kD μ2 a fun kvs => kKey y fun k => Q (.bl (if neg then !(lookD kvs k).isSome else (lookD kvs k).isSome)) μ2
def TDPut (To Ti Te : ETr) : STr := fun E ρ μ => Te ρ μ fun v μ1 => To ρ μ1 fun x μ2 => Ti ρ μ2 fun y μ3 => kObj x fun a => kD μ3 a fun kvs => kKey y fun k => kvs.length < 1000000 ∧ E.nx ρ (up μ3 a (.dct (putD kvs k v)))
def TDAug (f : Int → Int → Int) (To Ti Te : ETr) : STr := fun E ρ μ => To ρ μ fun x μ1 => Ti ρ μ1 fun y μ2 => kObj x fun a => kD μ2 a fun kvs => kKey y fun k => kO (lookD kvs k) fun d => kI d fun m =>
  Te ρ μ2 fun w μ3 => kI w fun n => kD μ3 a fun kvs3 => kvs3.length < 1000000 ∧ E.nx ρ (up μ3 a (.dct (putD kvs3 k (.int (f m n)))))
def TAug (f : Int → Int → Int) (i : Nat) (Te : ETr) : STr := fun E ρ μ => kO (lk ρ i) fun d => kI d fun m => Te ρ μ fun w μ1 => kI w fun n => GName i (.int (f m n)) ρ μ1 E.nx
def TDisp (ks : List Key) (At : ATr) : ETr := fun ρ μ Q => ∀ p, μ p = none → At ρ (up μ p (.dct [])) fun ds μ2 => kD μ2 p fun kvs => kvs = [] ∧ Q (.obj p) (up μ2 p (.dct (ks.zip ds)))
theorem DpK.zip {K : PySem.W.Frag} {H : Hp} : ∀ {ks : List Key} {vs : List V} {ds : List D}, DpL K H vs ds → DpK K H (ks.zip vs) (ks.zip ds)
  | [], _, _, _ => by simp; exact .nil
  | _ :: _, _, _, .nil => by simp; exact .nil
  | k :: ks, _, _, .cons p l => .cons p (DpK.zip l)
end
end L3
set_option Elab.async false
set_option linter.all false
set_option maxRecDepth 100000
set_option maxHeartbeats 4000000
namespace L3
open PySem PySem.Spec PyProof.Rows L2
inductive PairsAt {prog : Program} {w : World} {κ : Type} [DecidableEq κ] (knd : KeyKind prog w κ) (h : Heap) : List Value → List (κ × Value) → Prop
  | nil : PairsAt knd h [] []
  | cons {a : Addr} {u v : Value} {k : κ} {us : List Value} {r : List (κ × Value)} : IsTup h a #[u, v] → knd.is k u = true → PairsAt knd h us r → PairsAt knd h (.ref a :: us) ((k, v) :: r)
section
variable {prog : Program} {w : World} {κ : Type} [DecidableEq κ] {knd : KeyKind prog w κ}
theorem PairsAt.keeps {h h' : Heap} (kp : ∀ b o, h.get? b = some o → o.cls = .type "tuple" → h'.get? b = some o) : ∀ {us : List Value} {r : List (κ × Value)}, PairsAt knd h us r → PairsAt knd h' us r
  | _, _, .nil => .nil
  | _, _, .cons t k r => .cons (by obtain ⟨o, e, c, n, d⟩ := t; exact ⟨o, kp _ o e c, c, n, d⟩) k (r.keeps kp)
end
end L3
set_option Elab.async false
set_option linter.all false
set_option maxRecDepth 100000
set_option maxHeartbeats 4000000
namespace L3
open PySem PySem.Spec PyProof.Rows L2
section
variable {prog : Program} {w : World} {κ : Type} [DecidableEq κ] {knd : KeyKind prog w κ}
end
def dK : Key → D
  | .inl i => .int i
  | .inr s => .str s
def pairD2 (kv : Key × D) : D := .tup [dK kv.1, kv.2]
def mergeD (kvs more : List (Key × D)) : List (Key × D) := more.foldl (fun acc kv => putD acc kv.1 kv.2) kvs
inductive PairsV (K : PySem.W.Frag) (H : Hp) : List V → List (Key × V) → Prop
  | nil : PairsV K H [] []
  | cons {a : Addr} {k : Key} {v : V} {ys : List V} {r : List (Key × V)} : SqT K H a [kV k, v] → PairsV K H ys r → PairsV K H (.ref a :: ys) ((k, v) :: r)
theorem PairsV.at {X : Cx} {pins : List (Addr × Obj)} {σ : L2.St} {H : Hp} {s : Shared} (I : Inv X pins σ H s) : ∀ {ys : List V} {kvs : List (Key × V)} {us : List Value}, PairsV X.K H ys kvs → Vals ys us → ∃ r, PairsAt (mixKind X.prog X.w) s.heap us r ∧ KV kvs r
  | _, _, _, .nil, .nil => ⟨[], .nil, .nil⟩
  | _, _, _, @PairsV.cons _ _ a k v ys r sq h, .cons ru rs => by
    cases (show _ = Value.ref a from ru)
    obtain ⟨r, p, q⟩ := h.at I rs
    obtain ⟨its, vs, it, _⟩ := I.tuple sq
    cases vs with | @cons _ u1 _ _ r1 vs => cases vs with | @cons _ u2 _ _ r2 vs =>
    cases vs
    exact ⟨(k, u2) :: r, .cons it (kV_is r1) p, .cons ⟨rfl, r2⟩ q⟩
def bDict : FSp := fun ds μ Q => match ds with
  | [.ls xs] => ∃ kvs : List (Key × D), xs = kvs.map pairD2 ∧ kvs.length ≤ 1000000 ∧ ∀ p, μ p = none → Q (.obj p) (up μ p (.dct (mergeD [] kvs)))
  | _ => False
theorem dK_inv {K : PySem.W.Frag} {H : Hp} {v : V} {k : Key} (h : Dp K H v (dK k)) : v = kV k := by
  cases k with
  | inl i => cases h; rfl
  | inr s => cases h; rfl
theorem PairsV.of {K : PySem.W.Frag} {H : Hp} : ∀ {kvs : List (Key × D)} {xs : List V}, DpL K H xs (kvs.map pairD2) → ∃ r, PairsV K H xs r ∧ DpK K H r kvs
  | [], _, h => by cases h; exact ⟨[], .nil, .nil⟩
  | kv :: kvs, _, h => by
    obtain ⟨k, d⟩ := kv
    cases h with
    | cons p l =>
      obtain ⟨r, h1, h2⟩ := PairsV.of l
      cases p with
      | tup sq lp =>
        cases lp with | cons p1 lp => cases lp with | cons p2 lp =>
        cases lp
        cases dK_inv p1
        exact ⟨(k, _) :: r, .cons sq h1, .cons p2 h2⟩
end L3
set_option Elab.async false
set_option linter.all false
set_option maxRecDepth 100000
set_option maxHeartbeats 4000000
namespace L3
open PySem PySem.Spec PyProof.Rows L2
def bIsIT (cs : List String) : FSp := fun ds μ Q => match ds with
  | [x, .tup ts] => (ts = cs.map .ty ∧ ∀ c ∈ cs, c ∈ cls5) ∧ (match tyD x with
    | some t => Q (.bl (cs.any fun c => isTy t c)) μ
    | none => False)
  | _ => False
section
variable {X : Cx} {o i a b c e value : Expr} {To Ti Ta Tb Te : ETr} {pos tpos apos cpos : Pos}
def TPop (To Ti : ETr) : ETr := fun ρ μ Q => To ρ μ fun x μ1 => kObj x fun a => kL μ1 a fun _ => Ti ρ μ1 fun y μ2 => kI y fun j => (-9223372036854775808 ≤ j ∧ j < 9223372036854775808) ∧ kL μ2 a fun ds => kN (L2.ixN ds.length j) fun k => kO ds[k]? fun d => Q d (up μ2 a (.lst (ds.eraseIdx k)))
end
noncomputable def eqRd (h : Heap) (dx : PyData) (y : Value) : Bool := @decide (∃ d as, Reads h y d as ∧ PyData.canLay0 d = true ∧ PyData.eqv d dx = true) (Classical.propDecidable _)
theorem eqRd_of {h : Heap} {dx d : PyData} {y : Value} {as : List Addr} (r : Reads h y d as) (hd : d.canLay0 = true) : eqRd h dx y = PyData.eqv d dx := by
  unfold eqRd
  cases e : PyData.eqv d dx with
  | true => exact @decide_eq_true _ (Classical.propDecidable _) ⟨d, as, r, hd, e⟩
  | false =>
    refine @decide_eq_false _ (Classical.propDecidable _) ?_
    rintro ⟨d', as', r', hd', e'⟩
    cases SeqAt.Reads.unique _ _ _ _ _ hd r r'
    rw [e] at e'; cases e'
theorem oks_mem {n : Nat} : ∀ {ds : List D} {d : D}, okDs n ds = true → d ∈ ds → okD n d = true
  | x :: r, d, h, hm => by
    have h' : okD n x = true ∧ okDs n r = true := by simpa [okDs] using h
    rcases List.mem_cons.mp hm with rfl | hm
    · exact h'.1
    · exact oks_mem h'.2 hm
section
variable {X : Cx} {pins : List (Addr × Obj)} {σ : L2.St} {H : Hp} {s : Shared}
theorem item_at (I : Inv X pins σ H s) {vs : List V} {ds : List D} {us : List Value} (l : DpL X.K H vs ds) (r : Vals vs us) (ok : okDs 38 ds = true) {dy : D} {y : Value} {bs : List Addr} (oy : okD 38 dy = true) (ry : Reads s.heap y (toP dy) bs) (hu : X.A.units + 64 < cLine)
    {m : Nat} {u : Value} (hm : us[m]? = some u) : ∃ d, ds[m]? = some d ∧ eqRd s.heap (toP dy) u = eqD d dy ∧ SeqAt.EqAt X.A.in1 s u y (eqRd s.heap (toP dy) u) := by
  have hlt : m < vs.length := by rw [r.length]; exact (List.getElem?_eq_some_iff.mp hm).1
  obtain ⟨u', e1, rv⟩ := r.get (List.getElem?_eq_getElem hlt)
  rw [hm] at e1; cases e1
  obtain ⟨d, ed, pd⟩ := l.get' (List.getElem?_eq_getElem hlt)
  have od := oks_mem ok (List.mem_of_getElem? ed)
  obtain ⟨as, ra⟩ := reads_of I pd od rv
  obtain ⟨l1, d1⟩ := toP_lay 38 d od
  obtain ⟨l2, d2⟩ := toP_lay 38 dy oy
  have e := eqRd_of (dx := toP dy) ra l1
  refine ⟨d, ed, by rw [e, eqv_toP 38 38 d dy od oy], ?_⟩
  rw [e]
  exact SeqAt.eqAt_reads _ _ _ s _ _ _ _ ra ry l1 l2 (by have := Nat.min_le_left (toP d).depth (toP dy).depth; rw [Around.in1_units]; omega)
end
def idxD (ds : List D) (x : D) : Option Nat := ds.findIdx? fun y => eqD y x
section
variable {X : Cx} {o i a b c e value : Expr} {To Ti Ta Tb Te : ETr} {pos tpos apos cpos : Pos}
def kLst (μ : Mu) (x : D) (f : List D → Prop) : Prop := match x with
  | .ls ds => f ds
  | .obj a => kL μ a f
  | _ => False
def TIndex (To Ti : ETr) : ETr := fun ρ μ Q => To ρ μ fun x μ1 => kLst μ1 x fun _ => Ti ρ μ1 fun y μ2 => kLst μ2 x fun ds => (okDs 38 ds = true ∧ okD 38 y = true) ∧ kN (idxD ds y) fun j => j < 1000000 ∧ Q (.int j) μ2
def inG (x : D) (ds : List D) : Bool := ds.any fun y => eqD y x
def rInGL (K : PySem.W.Frag) (neg : Bool) : L2.R2 := fun x y H Q => ∃ p xs ds dx, y = .ref p ∧ (SqL K H p xs ∨ SqT K H p xs) ∧ DpL K H xs ds ∧ Dp K H x dx ∧ okDs 38 ds = true ∧ okD 38 dx = true ∧ Q (.bl (if neg then !inG dx ds else inG dx ds)) H
theorem any_at {pins : List (Addr × Obj)} {σ : L2.St} {H : Hp} {s : Shared} (I : Inv X pins σ H s) (hu : X.A.units + 64 < cLine) {vs : List V} {ds : List D} {us : List Value} (l : DpL X.K H vs ds) (r : Vals vs us) (ok : okDs 38 ds = true) {dy : D} {y : Value} {bs : List Addr} (oy : okD 38 dy = true) (ry : Reads s.heap y (toP dy) bs) :
    (∀ w, w ∈ us.toArray → SeqAt.EqAt X.A.in1 s w y (eqRd s.heap (toP dy) w)) ∧ us.toArray.any (eqRd s.heap (toP dy)) = inG dy ds := by
  have hl : ds.length = us.length := by rw [← l.length, r.length]
  constructor
  · intro w hw
    obtain ⟨m, hm, rfl⟩ := Array.mem_iff_getElem.mp hw
    obtain ⟨d, _, _, e3⟩ := item_at I l r ok oy ry hu (m := m) (u := us.toArray[m]) (by simp at hm ⊢)
    exact e3
  · unfold inG
    rw [show us.toArray.any (eqRd s.heap (toP dy)) = us.any (eqRd s.heap (toP dy)) by simp]
    rw [Bool.eq_iff_iff, List.any_eq_true, List.any_eq_true]
    constructor
    · rintro ⟨w, hw, e⟩
      obtain ⟨m, hm, rfl⟩ := List.mem_iff_getElem.mp hw
      obtain ⟨d, e1, e2, _⟩ := item_at I l r ok oy ry hu (m := m) (u := us[m]) (by simp)
      exact ⟨d, List.mem_of_getElem? e1, by rw [← e2]; exact e⟩
    · rintro ⟨d, hd, e⟩
      obtain ⟨m, hm, rfl⟩ := List.mem_iff_getElem.mp hd
      obtain ⟨d', e1, e2, _⟩ := item_at I l r ok oy ry hu (m := m) (u := us[m]'(by omega)) (by simp)
      rw [List.getElem?_eq_getElem hm] at e1; cases e1
      exact ⟨us[m]'(by omega), List.getElem_mem _, by rw [e2]; exact e⟩
theorem op_inG (hu : X.A.units + 64 < cLine) : OpR X (compareOp .In) (rInGL X.K false) := by
  intro pins s σ H x y v u Q I rx ry h
  obtain ⟨p, xs, ds, dx, rfl, hq, l, px, o1, o2, q⟩ := h
  cases (show u = Value.ref p from ry)
  obtain ⟨bs, rb⟩ := reads_of I px o2 rx
  rcases hq with hq | hq
  · obtain ⟨its, r, pl, hz⟩ := I.list hq
    obtain ⟨h1, h2⟩ := any_at I hu l r o1 o2 rb
    exact SeqAt.in_listAt _ pl.isList h1 ⟨.bl _, H, I, rfl, by rw [h2]; exact q⟩
  · obtain ⟨its, r, pl, hz⟩ := I.tuple hq
    obtain ⟨h1, h2⟩ := any_at I hu l r o1 o2 rb
    exact SeqAt.in_tupleAt _ pl h1 ⟨.bl _, H, I, rfl, by rw [h2]; exact q⟩
def kSeq (μ : Mu) (x : D) (f : List D → Prop) : Prop := match x with
  | .tup ds => f ds
  | .ls ds => f ds
  | .obj a => kL μ a f
  | _ => False
def rInG (neg : Bool) : DR2 := fun x y μ Q => kSeq μ y fun ds => (okDs 38 ds = true ∧ okD 38 x = true) ∧ Q (.bl (if neg then !inG x ds else inG x ds)) μ
theorem sim_inG {K : PySem.W.Frag} (neg : Bool) : SimR2 K (rInGL K neg) (rInG neg) := fun H μ x y dx dy Q Q' m px py h k => by
  cases py with
  | tup sq l => exact ⟨_, _, _, dx, rfl, .inr sq, l, px, h.1.1, h.1.2, k _ H _ μ (.refl H) m (.bl _) h.2⟩
  | ls sq l => exact ⟨_, _, _, dx, rfl, .inl sq.sq, l, px, h.1.1, h.1.2, k _ H _ μ (.refl H) m (.bl _) h.2⟩
  | obj q =>
    obtain ⟨ds, e0, h⟩ := kL_get (show kL μ q _ from h)
    obtain ⟨xs, ex, l⟩ := m q _ e0
    exact ⟨_, _, _, dx, rfl, .inl (SqL.of ex), l, px, h.1.1, h.1.2, k _ H _ μ (.refl H) m (.bl _) h.2⟩
  | _ => exact False.elim h
theorem lt_inG (hu : X.A.units + 64 < cLine) (ha : LE X a Ta) (hb : LE X b Tb) (hm : behindInMarks .In b = false := by rfl) : LT X (.Compare a [.In] [b] pos) (TB (TBin (rInG false) Ta Tb)) := lt_cmp0 (op_inG hu) (sim_inG false) ha hb hm
end
end L3
set_option Elab.async false
set_option linter.all false
set_option maxRecDepth 100000
set_option maxHeartbeats 4000000
namespace L3
open PySem PySem.Spec PyProof.Rows L2
section
variable {X : Cx} {e tg : Expr} {es : List Expr} {is : List Nat} {pos : Pos} {x : Str} {n : Nat}
end
section
variable {X : Cx} {o i a b c e value : Expr} {To Ti Ta Tb Te : ETr} {pos tpos apos cpos : Pos}
def TExt (To Ti : ETr) : ETr := fun ρ μ Q => To ρ μ fun x μ1 => kObj x fun a => kL μ1 a fun _ => Ti ρ μ1 fun y μ2 => kLst μ2 y fun es => kL μ2 a fun ds => ds.length + es.length ≤ 1000000 ∧ Q .non (up μ2 a (.lst (ds ++ es)))
end
section
variable {P : Program} {w : World} {K : PySem.W.Frag} {mg : Str → Option Value} {base : Heap}
end
end L3
set_option Elab.async false
set_option linter.all false
set_option maxRecDepth 100000
set_option maxHeartbeats 4000000
namespace L3
open PySem PySem.Spec PyProof.Rows L2
section
variable {X : Cx} {tg a ea eb : Expr} {Ta : ETr} {es : List Expr} {ek : Nat} {ep p pos : Pos}
def iSeq (K : PySem.W.Frag) (tl : TE) : TI := fun σ H R => tl σ H fun x H1 => ∃ q, x = .ref q ∧ (((∃ xs, SqL K H1 q xs) ∧ R (Itl K q) H1) ∨ ((∃ xs, SqT K H1 q xs) ∧ R (Itt K q) H1))
theorem pi_seq {tl : TE} (hl : PE X a tl) : PI X tg a (iSeq X.K tl) := by
  intro pins s σ H R I h
  refine thn (hl pins s σ H _ I h) fun v s1 ⟨x, H1, I1, r1, q, ex, qq⟩ => ?_
  subst ex
  cases (show v = Value.ref q from r1)
  have fp : ∀ b ∈ [s1.heap.objs.size], _ := fun b hb => by
    have e : b = s1.heap.objs.size := by simpa using hb
    subst e
    exact I1.fpOk (Nat.le_refl _) (I1.hok.fresh (Nat.le_refl _))
  rcases qq with ⟨⟨xs, sq⟩, qq⟩ | ⟨⟨xs, sq⟩, qq⟩
  · obtain ⟨its, rv, pl, hz⟩ := I1.list sq
    exact wpAny_pyIter_list pl.isList ⟨s1.heap.objs.size, [s1.heap.objs.size], _, _, H1, rfl, I1.kept (t' := s1.toks) (fun b o e => Heap.get?_push_of_some _ e), turn_list q _, ⟨_, Heap.get?_push_size _ rfl, rfl, rfl⟩, fp, qq⟩
  · obtain ⟨its, rv, pl, hz⟩ := I1.tuple sq
    exact wpAny_pyIter_tuple (show s1.heap.IsTuple q its.toArray from pl) ⟨s1.heap.objs.size, [s1.heap.objs.size], _, _, H1, rfl, I1.kept (t' := s1.toks) (fun b o e => Heap.get?_push_of_some _ e), turn_tuple q _, ⟨_, Heap.get?_push_size _ rfl, rfl, rfl⟩, fp, qq⟩
theorem li_seq (ha : LE X a Ta) : LI X tg a (ISeq Ta) := by
  obtain ⟨ta, pa, sa⟩ := ha.ex
  refine ⟨_, pi_seq pa, fun σ H ρ μ Q R rl h k => sa σ H ρ μ _ _ rl h fun x H1 d μ1 t1 m1 p1 h1 => ?_⟩
  cases p1 with
  | @tup p xs ds q l => exact ⟨p, rfl, .inr ⟨⟨xs, q⟩, k _ H1 ds μ1 t1 m1 (ylds_tup q l) h1⟩⟩
  | @ls p xs ds q l => exact ⟨p, rfl, .inl ⟨⟨xs, q.sq⟩, k _ H1 ds μ1 t1 m1 (ylds_ls q l) h1⟩⟩
  | _ => exact False.elim h1
def IZipG (t : ATr) : ATr := fun ρ μ Q => t ρ μ fun vs μ1 => k2 vs fun x y => kS x fun ds => kS y fun es => Q (List.zipWith (fun d e => .tup [d, e]) ds es) μ1
variable {i o : Expr} {Ti To : ETr}
end
end L3
set_option Elab.async false
set_option linter.all false
set_option maxRecDepth 100000
set_option maxHeartbeats 4000000
namespace L3
open PySem PySem.Spec PyProof.Rows L2
def ltS (x y : Str) : Bool := decide (x.cps.toList < y.cps.toList)
section
variable {X : Cx} {e a b : Expr} {x : Str} {p pos : Pos} {At : ATr} {Ta Tb : ETr}
def rCmpS (f : Str → Str → Bool) : DR2 := fun x y μ Q => match x, y with
  | .str i, .str j => Q (.bl (f i j)) μ
  | _, _ => False
def rGtS : DR2 := rCmpS fun i j => ltS j i
def rLtS : DR2 := rCmpS fun i j => ltS i j
end
end L3
set_option Elab.async false
set_option linter.all false
set_option maxRecDepth 100000
set_option maxHeartbeats 4000000
namespace L3
open PySem PySem.Spec PyProof.Rows L2
def compRG (C : Mu → Prop) (p : Addr) (G : GTr) (tt : TTr) (te : ETr) (ρc : ST) (K : Mu → Prop) : List D → Mu → Prop
  | [], μ => C μ ∧ K μ
  | d :: r, μ => C μ ∧ G d ρc μ fun ρ1 μ1 => tt ρ1 μ1 fun b μ2 => kIf b (te ρ1 μ2 fun y μ3 => kL μ3 p fun zs => zs.length < 1000000 ∧ compRG C p G tt te ρc K r (up μ3 p (.lst (zs ++ [y])))) (compRG C p G tt te ρc K r μ2)
def TCompO (To : ETr) (G : GTr) (tt : TTr) (te : ETr) (n : Nat) (caps : List Nat) : ETr := fun ρ μ Q => To ρ μ fun x μ1 => kObj x fun a => kL μ1 a fun ds => ∀ p, μ1 p = none →
  compRG (fun μ => μ a = some (.lst ds)) p G tt te (capD ρ n caps) (fun μ' => kL μ' p fun zs => Q (.ls zs) (dn μ' p)) ds (up μ1 p (.lst []))
end L3
set_option Elab.async false
set_option linter.all false
set_option maxRecDepth 100000
namespace L3
open PySem
theorem TTabIx_e (kvs : List (Str × D)) (e : ETr) (ρ : ST) (μ : Mu) (Q : DK) : TTabIx kvs e ρ μ Q = e ρ μ fun x μ1 => kStr x fun s => kO (lookS kvs s) fun d => Q d μ1 := propext Iff.rfl
theorem TTabIn_e (n : Bool) (kvs : List (Str × D)) (e : ETr) (ρ : ST) (μ : Mu) (Q : DK) : TTabIn n kvs e ρ μ Q = e ρ μ fun x μ1 => kStr x fun s => Q (.bl (if n then !(lookS kvs s).isSome else (lookS kvs s).isSome)) μ1 := propext Iff.rfl
theorem w_kStr_s (s : Str) (f : Str → Prop) : kStr (.str s) f = f s := propext Iff.rfl
theorem rIsB_t (c b : Bool) (μ : Mu) (Q : DK) : rIsB true (.bl c) (.bl b) μ Q = Q (.bl (!(c == b))) μ := propext Iff.rfl
theorem rIsB_f (c b : Bool) (μ : Mu) (Q : DK) : rIsB false (.bl c) (.bl b) μ Q = Q (.bl (c == b)) μ := propext Iff.rfl
theorem TDGet_e (a b : ETr) (ρ : ST) (μ : Mu) (Q : DK) : TDGet a b ρ μ Q = a ρ μ fun x μ1 => b ρ μ1 fun y μ2 => kObj x fun a => kD μ2 a fun kvs => kKey y fun k => kO (lookD kvs k) fun d => Q d μ2 := propext Iff.rfl
theorem TDIn_e (n : Bool) (a b : ETr) (ρ : ST) (μ : Mu) (Q : DK) : TDIn n a b ρ μ Q = a ρ μ fun y μ1 => b ρ μ1 fun x μ2 => kObj x fun a => kD μ2 a fun kvs => kKey y fun k => Q (.bl (if n then !(lookD kvs k).isSome else (lookD kvs k).isSome)) μ2 := propext Iff.rfl
theorem TDPut_e (a b e : ETr) (nx : ST → Mu → Prop) (rt : DK) (bk ct : ST → Mu → Prop) (ρ : ST) (μ : Mu) : TDPut a b e ⟨nx, rt, bk, ct⟩ ρ μ = e ρ μ fun v μ1 => a ρ μ1 fun x μ2 => b ρ μ2 fun y μ3 => kObj x fun a => kD μ3 a fun kvs => kKey y fun k => kvs.length < 1000000 ∧ nx ρ (up μ3 a (.dct (putD kvs k v))) := propext Iff.rfl
theorem TDAug_e (f : Int → Int → Int) (a b e : ETr) (nx : ST → Mu → Prop) (rt : DK) (bk ct : ST → Mu → Prop) (ρ : ST) (μ : Mu) : TDAug f a b e ⟨nx, rt, bk, ct⟩ ρ μ = a ρ μ fun x μ1 => b ρ μ1 fun y μ2 => kObj x fun a => kD μ2 a fun kvs => kKey y fun k => kO (lookD kvs k) fun d => kI d fun m => e ρ μ2 fun w μ3 => kI w fun n => kD μ3 a fun kvs3 => kvs3.length < 1000000 ∧ nx ρ (up μ3 a (.dct (putD kvs3 k (.int (f m n))))) := propext Iff.rfl
theorem TAug_e (f : Int → Int → Int) (i : Nat) (e : ETr) (nx : ST → Mu → Prop) (rt : DK) (bk ct : ST → Mu → Prop) (ρ : ST) (μ : Mu) : TAug f i e ⟨nx, rt, bk, ct⟩ ρ μ = TVar i ρ μ fun d _ => kI d fun m => e ρ μ fun w μ1 => kI w fun n => GName i (.int (f m n)) ρ μ1 nx := propext Iff.rfl
theorem TDisp_e (ks : List L2.Key) (t : ATr) (ρ : ST) (μ : Mu) (Q : DK) : TDisp ks t ρ μ Q = ∀ p, μ p = none → t ρ (up μ p (.dct [])) fun ds μ2 => kD μ2 p fun kvs => kvs = [] ∧ Q (.obj p) (up μ2 p (.dct (ks.zip ds))) := propext Iff.rfl
theorem TPop_e (a b : ETr) (ρ : ST) (μ : Mu) (Q : DK) : TPop a b ρ μ Q = a ρ μ fun x μ1 => kObj x fun a => kL μ1 a fun _ => b ρ μ1 fun y μ2 => kI y fun j => (-9223372036854775808 ≤ j ∧ j < 9223372036854775808) ∧ kL μ2 a fun ds => kN (L2.ixN ds.length j) fun k => kO ds[k]? fun d => Q d (up μ2 a (.lst (ds.eraseIdx k))) := propext Iff.rfl
theorem TIndex_e (a b : ETr) (ρ : ST) (μ : Mu) (Q : DK) : TIndex a b ρ μ Q = a ρ μ fun x μ1 => kLst μ1 x fun _ => b ρ μ1 fun y μ2 => kLst μ2 x fun ds => (okDs 38 ds = true ∧ okD 38 y = true) ∧ kN (idxD ds y) fun j => j < 1000000 ∧ Q (.int j) μ2 := propext Iff.rfl
theorem TExt_e (a b : ETr) (ρ : ST) (μ : Mu) (Q : DK) : TExt a b ρ μ Q = a ρ μ fun x μ1 => kObj x fun a => kL μ1 a fun _ => b ρ μ1 fun y μ2 => kLst μ2 y fun es => kL μ2 a fun ds => ds.length + es.length ≤ 1000000 ∧ Q .non (up μ2 a (.lst (ds ++ es))) := propext Iff.rfl
theorem ISeq_e (a : ETr) (ρ : ST) (μ : Mu) (Q : List D → Mu → Prop) : ISeq a ρ μ Q = a ρ μ fun x μ1 => kS x fun ds => Q ds μ1 := propext Iff.rfl
theorem IZipG_e (t : ATr) (ρ : ST) (μ : Mu) (Q : List D → Mu → Prop) : IZipG t ρ μ Q = t ρ μ fun vs μ1 => k2 vs fun x y => kS x fun ds => kS y fun es => Q (List.zipWith (fun d e => .tup [d, e]) ds es) μ1 := propext Iff.rfl
theorem rInG_t (n : Bool) (x : D) (ds : List D) (μ : Mu) (Q : DK) : rInG n x (.tup ds) μ Q = ((okDs 38 ds = true ∧ okD 38 x = true) ∧ Q (.bl (if n then !inG x ds else inG x ds)) μ) := propext Iff.rfl
theorem rInG_l (n : Bool) (x : D) (ds : List D) (μ : Mu) (Q : DK) : rInG n x (.ls ds) μ Q = ((okDs 38 ds = true ∧ okD 38 x = true) ∧ Q (.bl (if n then !inG x ds else inG x ds)) μ) := propext Iff.rfl
theorem rInG_o (n : Bool) (x : D) (a : Addr) (μ : Mu) (Q : DK) : rInG n x (.obj a) μ Q = kL μ a fun ds => (okDs 38 ds = true ∧ okD 38 x = true) ∧ Q (.bl (if n then !inG x ds else inG x ds)) μ := propext Iff.rfl
theorem kLst_l (μ : Mu) (ds : List D) (f : List D → Prop) : kLst μ (.ls ds) f = f ds := propext Iff.rfl
theorem kLst_o (μ : Mu) (a : Addr) (f : List D → Prop) : kLst μ (.obj a) f = kL μ a f := propext Iff.rfl
theorem kKey_i (i : Int) (f : L2.Key → Prop) : kKey (.int i) f = f (.inl i) := propext Iff.rfl
theorem kKey_s (s : Str) (f : L2.Key → Prop) : kKey (.str s) f = f (.inr s) := propext Iff.rfl
theorem kD_of {μ : Mu} {a : Addr} {ds : List (L2.Key × D)} (h : μ a = some (.dct ds)) (f) : kD μ a f = f ds := by unfold kD; rw [h]
theorem kD_up (μ : Mu) (a : Addr) (ds : List (L2.Key × D)) (f : List (L2.Key × D) → Prop) : kD (up μ a (.dct ds)) a f = f ds := kD_of up_same f
theorem cIsIT_e (cs : List String) (x : D) (ts : List D) (μ : Mu) (Q : DK) : CALL (bIsIT cs) [x, .tup ts] μ Q = ((ts = cs.map .ty ∧ ∀ c ∈ cs, c ∈ cls5) ∧ (match tyD x with | some t => Q (.bl (cs.any fun c => isTy t c)) μ | none => False)) := propext Iff.rfl
theorem cDict_e (xs : List D) (μ : Mu) (Q : DK) : CALL bDict [.ls xs] μ Q = (∃ kvs : List (L2.Key × D), xs = kvs.map pairD2 ∧ kvs.length ≤ 1000000 ∧ ∀ p, μ p = none → Q (.obj p) (up μ p (.dct (mergeD [] kvs)))) := propext Iff.rfl
theorem rGtS_s (i j : Str) (μ : Mu) (Q : DK) : rGtS (.str i) (.str j) μ Q = Q (.bl (ltS j i)) μ := propext Iff.rfl
theorem rLtS_s (i j : Str) (μ : Mu) (Q : DK) : rLtS (.str i) (.str j) μ Q = Q (.bl (ltS i j)) μ := propext Iff.rfl
end L3
set_option Elab.async false
set_option linter.all false
set_option maxRecDepth 100000
namespace L3
open PySem
theorem kO_c0 (d0 : D) (r : List D) (f : D → Prop) : kO (atD (d0 :: r) 0) f = f d0 := by rw [atD_0]; rfl
theorem kO_c1 (d0 d1 : D) (r : List D) (f : D → Prop) : kO (atD (d0 :: d1 :: r) 1) f = f d1 := by rw [atD_1]; rfl
theorem kO_c2 (d0 d1 d2 : D) (r : List D) (f : D → Prop) : kO (atD (d0 :: d1 :: d2 :: r) 2) f = f d2 := by rw [atD_2]; rfl
theorem kO_c3 (d0 d1 d2 d3 : D) (r : List D) (f : D → Prop) : kO (atD (d0 :: d1 :: d2 :: d3 :: r) 3) f = f d3 := by rw [atD_3]; rfl
theorem kO_c4 (d0 d1 d2 d3 d4 : D) (r : List D) (f : D → Prop) : kO (atD (d0 :: d1 :: d2 :: d3 :: d4 :: r) 4) f = f d4 := by rw [atD_4]; rfl
theorem kO_c5 (d0 d1 d2 d3 d4 d5 : D) (r : List D) (f : D → Prop) : kO (atD (d0 :: d1 :: d2 :: d3 :: d4 :: d5 :: r) 5) f = f d5 := by rw [atD_5]; rfl
def COMP (G : GTr) (tt : TTr) (te : ETr) (ρc : ST) (ds : List D) (μ : Mu) (Q : DK) : Prop := ∀ p, μ p = none → compR p G tt te ρc (fun μ' => kL μ' p fun zs => Q (.ls zs) (dn μ' p)) ds (up μ p (.lst []))
theorem TComp_e (it : ATr) (G : GTr) (tt : TTr) (te : ETr) (n : Nat) (caps : List Nat) (ρ : ST) (μ : Mu) (Q : DK) : TComp it G tt te n caps ρ μ Q = it ρ μ fun ds μ1 => COMP G tt te (capD ρ n caps) ds μ1 Q := propext Iff.rfl
theorem TYes_e (ρ : ST) (μ : Mu) (Q : Bool → Mu → Prop) : TYes ρ μ Q = Q true μ := propext Iff.rfl
section
variable {G : GTr} {tt : TTr} {te : ETr} {ρc : ST} {ds : List D} {μ : Mu} {Q : DK}
def COMPO (a : Addr) (full : List D) (G : GTr) (tt : TTr) (te : ETr) (ρc : ST) (ds : List D) (μ : Mu) (Q : DK) : Prop := ∀ p, μ p = none → compRG (fun μ => μ a = some (.lst full)) p G tt te ρc (fun μ' => kL μ' p fun zs => Q (.ls zs) (dn μ' p)) ds (up μ p (.lst []))
theorem TCompO_e (To : ETr) (G : GTr) (tt : TTr) (te : ETr) (n : Nat) (caps : List Nat) (ρ : ST) (μ : Mu) (Q : DK) : TCompO To G tt te n caps ρ μ Q = To ρ μ fun x μ1 => kObj x fun a => kL μ1 a fun ds => COMPO a ds G tt te (capD ρ n caps) ds μ1 Q := propext Iff.rfl
end
end L3
set_option Elab.async false
set_option linter.all false
set_option maxRecDepth 100000
set_option maxHeartbeats 4000000
namespace L3
open PySem
def RN.sh1 (R : RN) (g S : Int) (h : Hd) : Int := if R.idle h then S else R.shr g S h
theorem beh_snd (R : RN) (g W S : Int) (h : Hd) : (R.beh g W S h).2 = R.sh1 g S h := by
  unfold RN.beh RN.sh1; split <;> rfl
theorem sh1_in {R : RN} (k : R.Ok) {g S : Int} {h : Hd} (H : h.Ok) (g0 : 0 < g) (S0 : 0 ≤ S) (S1 : S ≤ g) : 0 ≤ R.sh1 g S h ∧ R.sh1 g S h ≤ g := by
  unfold RN.sh1
  split
  · exact ⟨S0, S1⟩
  · rename_i hn; exact shr_in k H hn g0 S0 S1
theorem clip_in {R : RN} (K : R.Ok) {g : Int} (g0 : 0 < g) (x : Int) : g ≤ R.clip g x ∧ R.clip g x ≤ R.cap g := by
  have c2 := cap_ge K (g := g) g0
  unfold RN.clip; omega
end L3
set_option Elab.async false
set_option linter.all false
set_option maxRecDepth 100000
set_option maxHeartbeats 4000000
namespace L3
open PySem
def RN.walk (R : RN) (g : Int) : List Hd → Int → Int → List (Int × Int)
  | [], W, S => [(W, S)]
  | h :: r, W, S => (W, S) :: RN.walk R g r (R.beh g W S h).1 (R.beh g W S h).2
structure Wn (R : RN) (g W S : Int) : Prop where
  w0 : g ≤ W
  w1 : W ≤ R.cap g
  s0 : 0 ≤ S
  s1 : S ≤ g
theorem Wn.beh {R : RN} (K : R.Ok) {g W S : Int} {h : Hd} (H : h.Ok) (G : Gd g) (n : Wn R g W S) : Wn R g (R.beh g W S h).1 (R.beh g W S h).2 := by
  have gp : 0 < g := by have := G.1; omega
  have s := sh1_in K H gp n.s0 n.s1
  rw [← beh_snd R g W S h] at s
  refine ⟨?_, ?_, s.1, s.2⟩
  · unfold RN.beh; split
    · exact n.w0
    · exact (clip_in K gp _).1
  · unfold RN.beh; split
    · exact n.w1
    · exact (clip_in K gp _).2
theorem walk_at {R : RN} (K : R.Ok) {g : Int} (G : Gd g) : ∀ {hs : List Hd} {W S : Int} {k : Nat} {h : Hd}, (∀ x ∈ hs, x.Ok) → Wn R g W S → hs[k]? = some h → ∃ A B, (R.walk g hs W S)[k]? = some (A, B) ∧ (R.walk g hs W S)[k + 1]? = some (R.beh g A B h) ∧ Wn R g A B
  | [], W, S, k, h, _, _, e => by cases k <;> cases e
  | x :: r, W, S, 0, h, H, n, e => by
    cases e
    refine ⟨W, S, rfl, ?_, n⟩
    show (R.walk g r _ _)[0]? = _
    cases r <;> rfl
  | x :: r, W, S, k + 1, h, H, n, e => by
    obtain ⟨A, B, e1, e2, n'⟩ := walk_at (hs := r) K G (fun y hy => H y (List.mem_cons_of_mem _ hy)) (n.beh K (H x List.mem_cons_self) G) (show r[k]? = some h from e)
    exact ⟨A, B, e1, e2, n'⟩
theorem up_div {W y c : Int} (y0 : 0 < y) : (W * y + c) / y = W + c / y := by
  rw [Int.add_comm, Int.add_mul_ediv_right _ _ (by omega)]; omega
end L3
set_option Elab.async false
set_option linter.all false
set_option maxRecDepth 100000
set_option maxHeartbeats 4000000
namespace L3
open PySem
structure Gnt (A R : RN) : Prop where
  wd : A.wd = R.wd
  w : A.p * R.q ≤ R.p * A.q
  t : A.r * R.s ≤ R.r * A.s
  u : A.x * R.y ≤ R.x * A.y
  g : A.a * R.b ≤ R.a * A.b
  gh : R.wd = .heed → A.a = R.a ∧ A.b = R.b
  cc : R.wd = .calm → (A.x = R.x ∧ A.y = R.y) ∧ A.l = R.l ∧ A.h = R.h
theorem Gnt.refl (R : RN) : Gnt R R := ⟨rfl, Int.le_refl _, Int.le_refl _, Int.le_refl _, Int.le_refl _, fun _ => ⟨rfl, rfl⟩, fun _ => ⟨⟨rfl, rfl⟩, rfl, rfl⟩⟩
theorem frac_mono {W V a b c d : Int} (W0 : 0 ≤ W) (h : W ≤ V) (c0 : 0 ≤ c) (b0 : 0 < b) (d0 : 0 < d) (e : a * d ≤ c * b) : W * a / b ≤ V * c / d := by
  rw [Int.le_ediv_iff_mul_le d0]
  refine Int.le_of_mul_le_mul_right (a := b) ?_ b0
  have h1 := Int.ediv_mul_le (W * a) (show b ≠ 0 by omega)
  have h2 := Int.mul_le_mul_of_nonneg_right h1 (show 0 ≤ d by omega)
  have h3 := Int.mul_le_mul_of_nonneg_left e W0
  have h4 := Int.mul_le_mul_of_nonneg_right h (show 0 ≤ c * b from Int.mul_nonneg c0 (by omega))
  calc W * a / b * d * b = W * a / b * b * d := by ac_rfl
    _ ≤ W * a * d := h2
    _ = W * (a * d) := by ac_rfl
    _ ≤ W * (c * b) := h3
    _ ≤ V * (c * b) := h4
    _ = V * c * b := by ac_rfl
theorem Gnt.cap {A R : RN} (n : Gnt A R) (KA : A.Ok) (KR : R.Ok) {g : Int} (g0 : 0 < g) : A.cap g ≤ R.cap g := by
  unfold RN.cap
  rw [Int.mul_comm A.r, Int.mul_comm R.r]
  refine frac_mono (by omega) (Int.le_refl _) ?_ KA.t.q0 KR.t.q0 n.t
  have := KR.t.ge; have := KR.t.q0; omega
theorem Gnt.beg {A R : RN} (n : Gnt A R) (KA : A.Ok) (KR : R.Ok) {g : Int} (g0 : 0 < g) : A.p * g / A.q ≤ R.p * g / R.q := by
  rw [Int.mul_comm A.p, Int.mul_comm R.p]
  refine frac_mono (by omega) (Int.le_refl _) ?_ KA.w.q0 KR.w.q0 n.w
  have := KR.w.ge; have := KR.w.q0; omega
theorem Gnt.idle {A R : RN} (n : Gnt A R) (h : Hd) : A.idle h ↔ R.idle h := by unfold RN.idle; rw [n.wd]
theorem Gnt.shr {A R : RN} (n : Gnt A R) (g S : Int) (h : Hd) : A.shr g S h = R.shr g S h := by
  unfold RN.shr
  rw [n.wd]
  split
  · rename_i hw
    obtain ⟨e1, e2⟩ := n.gh hw
    rw [e1, e2]
  · rfl
theorem Gnt.mv {A R : RN} (n : Gnt A R) (KA : A.Ok) (KR : R.Ok) {g W V S : Int} {h : Hd} (G : Gd g) (W0 : 0 ≤ W) (hW : W ≤ V) (S0 : 0 ≤ S) (S1 : S ≤ g) (hst : R.wd ≠ .still) : A.mv g W S h ≤ R.mv g V S h := by
  obtain ⟨g0, g1⟩ := id G
  have y0 := KA.u.q0
  have y1 := KR.u.q0
  have x1 : 0 < R.x := by have := KR.u.ab; omega
  have b0 := KA.g.q0
  have b1 := KR.g.q0
  have a1 : 0 < R.a := by have := KR.g.ab; omega
  have wd := n.wd
  have up : W + g * A.x / A.y ≤ V + g * R.x / R.y := by
    have := frac_mono (W := g) (V := g) (by omega) (Int.le_refl _) (show 0 ≤ R.x by omega) y0 y1 n.u
    omega
  have e1 : A.wd ≠ .calm → A.mvd g W h / A.y = W + g * A.x / A.y := fun c => by unfold RN.mvd; rw [if_neg c]; exact up_div y0
  have e2 : R.wd ≠ .calm → R.mvd g V h / R.y = V + g * R.x / R.y := fun c => by unfold RN.mvd; rw [if_neg c]; exact up_div y1
  unfold RN.mv
  cases hw : R.wd with
  | still => exact absurd hw hst
  | calm =>
    rw [hw] at wd
    obtain ⟨⟨ex, ey⟩, el, eh⟩ := n.cc hw
    unfold RN.fac
    rw [wd, hw]
    dsimp only
    by_cases hl : 0 < h.lost
    · rw [if_pos hl]
      dsimp only
      exact frac_mono W0 hW (by decide) (by decide) (by decide) (by decide)
    · rw [if_neg hl]
      dsimp only
      unfold RN.mvd
      rw [if_pos wd, if_pos hw, ex, ey, el, eh]
      have m := Int.mul_le_mul_of_nonneg_right hW (show 0 ≤ R.y by omega)
      split
      · exact Int.ediv_le_ediv y1 (by omega)
      · split
        · exact Int.ediv_le_ediv y1 (by omega)
        · exact Int.ediv_le_ediv y1 (by omega)
  | heed =>
    rw [hw] at wd
    unfold RN.fac
    rw [wd, hw]
    dsimp only
    by_cases hb : h.bad = 0
    · rw [if_pos hb]
      dsimp only
      rw [e1 (by rw [wd]; decide), e2 (by rw [hw]; decide)]
      exact up
    · rw [if_neg hb]
      dsimp only
      exact frac_mono W0 hW (by omega) (by omega) (by omega) (Int.le_refl _)
  | step =>
    rw [hw] at wd
    unfold RN.fac
    rw [wd, hw]
    dsimp only
    by_cases hb : h.bad = 0
    · rw [if_pos hb, if_pos hb]
      dsimp only
      rw [e1 (by rw [wd]; decide), e2 (by rw [hw]; decide)]
      exact up
    · rw [if_neg hb, if_neg hb]
      dsimp only
      exact frac_mono W0 hW (by omega) b0 b1 n.g
  | swell =>
    rw [hw] at wd
    unfold RN.fac
    rw [wd, hw]
    dsimp only
    by_cases hb : h.bad = 0
    · rw [if_pos hb, if_pos hb]
      dsimp only
      exact frac_mono W0 hW (by omega) y0 y1 n.u
    · rw [if_neg hb, if_neg hb]
      dsimp only
      exact frac_mono W0 hW (by omega) b0 b1 n.g
theorem Gnt.beh {A R : RN} (n : Gnt A R) (KA : A.Ok) (KR : R.Ok) {g W V S : Int} {h : Hd} (H : h.Ok) (G : Gd g) (W0 : g ≤ W) (hW : W ≤ V) (S0 : 0 ≤ S) (S1 : S ≤ g) :
    (g ≤ (A.beh g W S h).1 ∧ (A.beh g W S h).1 ≤ (R.beh g V S h).1) ∧ (A.beh g W S h).2 = (R.beh g V S h).2 := by
  obtain ⟨g0, g1⟩ := id G
  by_cases hi : R.idle h
  · unfold RN.beh
    rw [if_pos hi, if_pos ((n.idle h).mpr hi)]
    exact ⟨⟨W0, hW⟩, rfl⟩
  · have s := shr_in KR H hi (by omega) S0 S1
    have m := n.mv KA KR (h := h) G (show 0 ≤ W by omega) hW s.1 s.2 (fun z => hi (.inl z))
    have c := n.cap KA KR (g := g) (by omega)
    have i := clip_in KA (g := g) (by omega) (A.mv g W (R.shr g S h) h)
    unfold RN.beh
    rw [if_neg hi, if_neg (fun z => hi ((n.idle h).mp z)), n.shr]
    refine ⟨⟨i.1, ?_⟩, rfl⟩
    show A.clip g _ ≤ R.clip g _
    unfold RN.clip
    omega
end L3
set_option Elab.async false
set_option linter.all false
set_option maxRecDepth 100000
set_option maxHeartbeats 4000000
namespace Kk
open PySem L3
local macro_rules | `(tactic| walk_at "go") => `(tactic| try simp only [↓kO_c0, ↓kO_c1, ↓kO_c2, ↓kO_c3, ↓kO_c4, ↓kO_c5, ↓TComp_e, ↓TCompO_e, ↓TYes_e, capD, List.map_cons, List.map_nil, List.replicate, List.cons_append, List.nil_append, lk, ↓TTabIx_e, ↓TTabIn_e, ↓w_kStr_s, ↓rIsB_t, ↓rIsB_f, ↓TDGet_e, ↓TDIn_e, ↓TDPut_e, ↓TDAug_e, ↓TAug_e, ↓TDisp_e, ↓TPop_e, ↓TIndex_e, ↓TExt_e, ↓ISeq_e, ↓IZipG_e, ↓rInG_t, ↓rInG_l, ↓rInG_o, ↓kLst_l, ↓kLst_o, ↓kKey_i, ↓kKey_s, ↓kD_up, ↓cIsIT_e, ↓cDict_e, ↓rGtS_s, ↓rLtS_s, ↓TVar_0, ↓GName_0, ↓TVar_1, ↓GName_1, ↓TVar_2, ↓GName_2, ↓TVar_3, ↓GName_3, ↓TVar_4, ↓GName_4, ↓TVar_5, ↓GName_5, ↓TVar_6, ↓GName_6, ↓TVar_7, ↓GName_7, ↓TVar_8, ↓GName_8, ↓TVar_9, ↓GName_9, ↓TVar_10, ↓GName_10, ↓TVar_11, ↓GName_11, ↓TVar_12, ↓GName_12, ↓TVar_13, ↓GName_13, ↓TVar_14, ↓GName_14, ↓TVar_15, ↓GName_15, ↓TVar_16, ↓GName_16, ↓TVar_17, ↓GName_17, ↓TVar_18, ↓GName_18, ↓TVar_19, ↓GName_19, ↓TVar_20, ↓GName_20, ↓TVar_21, ↓GName_21, ↓TVar_22, ↓GName_22, ↓TVar_23, ↓GName_23, ↓TC_e, ↓TBin_e, ↓TUn_e, ↓TAndV_e, ↓TOrV_e, ↓TNotV_e, ↓TB_e, ↓TAnd_e, ↓TOr_e, ↓TNot_e, ↓TIfE_e, ↓TChain_e, ↓TNil_e, ↓TCons_e, ↓TTup_e, ↓TLsV_e, ↓TLsM_e, ↓TCall_e, ↓TNext_e, ↓TSeq_e, ↓TBreak_e, ↓TCont_e, ↓TDrop_e, ↓TRet_e, ↓TRetN_e, ↓TIfS_e, ↓TAsg_e, ↓TPar_e, ↓TSetIx_e, ↓TFor_e, ↓IRange1_e, ↓ITup_e, ↓ILs_e, ↓IZip_e, ↓IEnum_e, ↓IRange2_e, ↓TFrz_e, ↓TApp_e, ↓TSl_e, ↓ONo_e, ↓OInt_e, ↓GTup_2, ↓GTup_3, ↓GTup_4, ↓GTup_5, ↓GTup_6, ↓GTup_7, ↓GTup_8, ↓LEN_0, ↓cLen_t0, ↓cLen_l0, ↓LEN_1, ↓cLen_t1, ↓cLen_l1, ↓LEN_2, ↓cLen_t2, ↓cLen_l2, ↓LEN_3, ↓cLen_t3, ↓cLen_l3, ↓LEN_4, ↓cLen_t4, ↓cLen_l4, ↓LEN_5, ↓cLen_t5, ↓cLen_l5, ↓LEN_6, ↓cLen_t6, ↓cLen_l6, ↓LEN_7, ↓cLen_t7, ↓cLen_l7, ↓LEN_8, ↓cLen_t8, ↓cLen_l8, ↓LEN_9, ↓cLen_t9, ↓cLen_l9, ↓LEN_10, ↓cLen_t10, ↓cLen_l10, ↓LEN_11, ↓cLen_t11, ↓cLen_l11, ↓LEN_12, ↓cLen_t12, ↓cLen_l12, ↓LEN_13, ↓cLen_t13, ↓cLen_l13, ↓rIx_t0, ↓rIx_l0, ↓rIx_t1, ↓rIx_l1, ↓rIx_t2, ↓rIx_l2, ↓rIx_t3, ↓rIx_l3, ↓rIx_t4, ↓rIx_l4, ↓rIx_t5, ↓rIx_l5, ↓rIx_t6, ↓rIx_l6, ↓rIx_t7, ↓rIx_l7, ↓rIx_t8, ↓rIx_l8, ↓rIx_t9, ↓rIx_l9, ↓rIx_t10, ↓rIx_l10, ↓rIx_t11, ↓rIx_l11, ↓rIx_t12, ↓rIx_l12, ↓v_kIf_t, ↓v_kIf_f, ↓v_kB_bl, ↓v_kI_int, ↓v_kO_some, ↓v_kS_tup, ↓v_kS_ls, ↓v_k2_two, ↓v_kN_some, ↓kL_up, ↓kObj_o, ↓v_kSet_obj, ↓kTup_t, ↓kLs_l, ↓kQ_t, ↓kQ_l, ↓v_rPlus_i, ↓v_rPlus_s, ↓v_rPlus_t, ↓v_rPlus_l, ↓v_rSub_i, ↓v_rMul_i, ↓v_rDiv_i, ↓v_rMod_i, ↓v_rPow_i, ↓v_rNeg_i, ↓v_rLt_i, ↓v_rLe_i, ↓v_rGt_i, ↓v_rGe_i, ↓v_rIx_o, ↓v_rIsI_i, ↓v_rIsI_b, ↓v_rIsI_t, ↓v_rIsI_l, ↓v_rIsI_s, ↓v_rIsI_n, ↓v_rIs_n, ↓v_rIs_i, ↓v_rIs_t, ↓v_rIsNot_n, ↓v_rIsNot_i, ↓v_rIsNot_t, ↓v_rSl_t, ↓v_rSl_l, ↓v_rSl_o, ↓v_rIn_t, ↓v_rIn_l, ↓v_rIn_o, ↓rEq_ii, ↓rNe_ii, ↓rEq_ss, ↓rNe_ss, ↓rEq_bb, ↓rNe_bb, ↓cAbs_i, ↓cMax_i, ↓cMin_i, ↓cInt_i, ↓cInt_b, ↓cTuple_t, ↓cTuple_l, ↓cTuple_o, ↓cListV_t, ↓cListV_l, ↓cListV_o, ↓cListM_t, ↓cListM_l, ↓cLen_o, ↓cLen_s, ok_i, ok_b, ok_n, ok_s, ok_t, ok_l, oks_nil, oks_cons, eq_ii, eq_ss, eq_bb, eq_tt, eq_ll, eq_nn, eqs_nil, eqs_cons, eqs_nc, eqs_cn, cLen_t, cLen_l, v_rIx_t, v_rIx_l, v_rEq_d, v_rNe_d, true_and, and_true, and_self, Bool.not_true, Bool.not_false, decide_true, decide_false, Bool.or_true, Bool.or_false, Bool.true_or, Bool.false_or, Bool.and_false, Bool.false_and, Bool.and_true, Bool.true_and, Int.reduceToNat, Int.reducePow, Int.reduceNeg, Int.reduceSub, Int.reduceAdd, Int.reduceMul, Int.reduceEq, Int.reduceLT, Int.reduceLE, Int.reduceBEq, up_up, isTy_ii, isTy_ib, isTy_bb, isTy_bi, isTy_tt, isTy_it, isTy_bt, if_true, if_false, Bool.false_eq_true, reduceCtorEq, decide_eq_true_eq, de_still_step, de_still_swell, de_still_heed, de_still_calm, de_step_still, de_step_swell, de_step_heed, de_step_calm, de_swell_still, de_swell_step, de_swell_heed, de_swell_calm, de_heed_still, de_heed_step, de_heed_swell, de_heed_calm, de_calm_still, de_calm_step, de_calm_swell, de_calm_heed, de_same, sok_still, sok_step, sok_swell, sok_heed, sok_calm])
local macro_rules | `(tactic| walk_at "ok") => `(tactic| (simp only [L3.DivOk, L3.MulOk, L3.S64, L3.M256, L3.PowOk] at *; omega))
local macro_rules | `(tactic| walk_at "ini") => `(tactic| simp only [ini, List.map, List.length, List.replicate, Nat.reduceSub, Nat.reduceAdd, Nat.sub_self, List.cons_append, List.nil_append, List.append_nil])
abbrev sp_common_of : FSp := L3.sp_common_of
def t_common_of : STr := TSeq (TAsg (TCall bAbs (TCons (TVar 0) (TNil))) (GName 2)) (TSeq (TAsg (TCall bAbs (TCons (TVar 1) (TNil))) (GName 3)) (TSeq (TWhile (TB (TBin rGt (TVar 3) (TC (.int 0)))) (TSeq (TAsg (TBin rMod (TVar 2) (TVar 3)) (GName 4)) (TSeq (TAsg (TVar 3) (GName 2)) (TAsg (TVar 4) (GName 3))))) (TRet (TVar 2))))
theorem len_common_of : ∀ ds μ Q, sp_common_of ds μ Q → ds.length = 2 := L3.len_common_of
theorem rd_common_of : ∀ ds μ Q, sp_common_of ds μ Q → t_common_of { nx := fun _ μ' => RT Q .non μ', rt := RT Q } (ini 5 ds) μ := L3.rd_common_of
abbrev sp_part : FSp := L3.sp_part
def t_part : STr := TSeq (TAsg (TCall L3.sp_common_of (TCons (TVar 0) (TCons (TVar 1) (TNil)))) (GName 2)) (TSeq (TIfS (TB (TBin rLt (TVar 1) (TC (.int 0)))) (TAsg (TUn rNeg (TVar 2)) (GName 2)) (TNext)) (TRet (TTup (TCons (TBin rDiv (TVar 0) (TVar 2)) (TCons (TBin rDiv (TVar 1) (TVar 2)) (TNil))))))
theorem len_part : ∀ ds μ Q, sp_part ds μ Q → ds.length = 2 := L3.len_part
theorem rd_part : ∀ ds μ Q, sp_part ds μ Q → t_part { nx := fun _ μ' => RT Q .non μ', rt := RT Q } (ini 3 ds) μ := L3.rd_part
abbrev sp_plus : FSp := L3.sp_plus
def t_plus : STr := TRet (TCall L3.sp_part (TCons (TBin rPlus (TBin rMul (TBin L3.rIx (TVar 0) (TC (.int 0))) (TBin L3.rIx (TVar 1) (TC (.int 1)))) (TBin rMul (TBin L3.rIx (TVar 1) (TC (.int 0))) (TBin L3.rIx (TVar 0) (TC (.int 1))))) (TCons (TBin rMul (TBin L3.rIx (TVar 0) (TC (.int 1))) (TBin L3.rIx (TVar 1) (TC (.int 1)))) (TNil))))
theorem len_plus : ∀ ds μ Q, sp_plus ds μ Q → ds.length = 2 := L3.len_plus
theorem rd_plus : ∀ ds μ Q, sp_plus ds μ Q → t_plus { nx := fun _ μ' => RT Q .non μ', rt := RT Q } (ini 2 ds) μ := L3.rd_plus
abbrev sp_minus : FSp := L3.sp_minus
def t_minus : STr := TRet (TCall L3.sp_part (TCons (TBin rSub (TBin rMul (TBin L3.rIx (TVar 0) (TC (.int 0))) (TBin L3.rIx (TVar 1) (TC (.int 1)))) (TBin rMul (TBin L3.rIx (TVar 1) (TC (.int 0))) (TBin L3.rIx (TVar 0) (TC (.int 1))))) (TCons (TBin rMul (TBin L3.rIx (TVar 0) (TC (.int 1))) (TBin L3.rIx (TVar 1) (TC (.int 1)))) (TNil))))
theorem len_minus : ∀ ds μ Q, sp_minus ds μ Q → ds.length = 2 := L3.len_minus
theorem rd_minus : ∀ ds μ Q, sp_minus ds μ Q → t_minus { nx := fun _ μ' => RT Q .non μ', rt := RT Q } (ini 2 ds) μ := L3.rd_minus
abbrev sp_times : FSp := L3.sp_times
def t_times : STr := TRet (TCall L3.sp_part (TCons (TBin rMul (TBin L3.rIx (TVar 0) (TC (.int 0))) (TBin L3.rIx (TVar 1) (TC (.int 0)))) (TCons (TBin rMul (TBin L3.rIx (TVar 0) (TC (.int 1))) (TBin L3.rIx (TVar 1) (TC (.int 1)))) (TNil))))
theorem len_times : ∀ ds μ Q, sp_times ds μ Q → ds.length = 2 := L3.len_times
theorem rd_times : ∀ ds μ Q, sp_times ds μ Q → t_times { nx := fun _ μ' => RT Q .non μ', rt := RT Q } (ini 2 ds) μ := L3.rd_times
abbrev sp_less : FSp := L3.sp_less
def t_less : STr := TRet (TBin rLt (TBin rMul (TBin L3.rIx (TVar 0) (TC (.int 0))) (TBin L3.rIx (TVar 1) (TC (.int 1)))) (TBin rMul (TBin L3.rIx (TVar 1) (TC (.int 0))) (TBin L3.rIx (TVar 0) (TC (.int 1)))))
theorem len_less : ∀ ds μ Q, sp_less ds μ Q → ds.length = 2 := L3.len_less
theorem rd_less : ∀ ds μ Q, sp_less ds μ Q → t_less { nx := fun _ μ' => RT Q .non μ', rt := RT Q } (ini 2 ds) μ := L3.rd_less
abbrev sp_cut_by : FSp := L3.sp_cut_by
def t_cut_by : STr := TRet (TCall L3.sp_part (TCons (TBin rDiv (TBin rMul (TBin L3.rIx (TVar 0) (TC (.int 0))) (TVar 1)) (TBin L3.rIx (TVar 0) (TC (.int 1)))) (TCons (TVar 1) (TNil))))
theorem len_cut_by : ∀ ds μ Q, sp_cut_by ds μ Q → ds.length = 2 := L3.len_cut_by
theorem rd_cut_by : ∀ ds μ Q, sp_cut_by ds μ Q → t_cut_by { nx := fun _ μ' => RT Q .non μ', rt := RT Q } (ini 2 ds) μ := L3.rd_cut_by
abbrev sp_top_of : FSp := L3.sp_top_of
def t_top_of : STr := TRet (TBin L3.rIx (TVar 0) (TBin rSub (TCall bLen (TCons (TVar 0) (TNil))) (TC (.int 1))))
theorem len_top_of : ∀ ds μ Q, sp_top_of ds μ Q → ds.length = 1 := L3.len_top_of
theorem rd_top_of : ∀ ds μ Q, sp_top_of ds μ Q → t_top_of { nx := fun _ μ' => RT Q .non μ', rt := RT Q } (ini 1 ds) μ := L3.rd_top_of
theorem wd_still (R : RN) : decide (R.wd.str = Str.ofString "still") = decide (R.wd = .still) := by
  cases R.wd <;> simp [Wd.str, ne_step_still, ne_swell_still, ne_heed_still, ne_calm_still]
theorem wd_sok (R : RN) : PyData.strOk R.wd.str = true := by
  cases R.wd <;> simp [Wd.str, sok_still, sok_step, sok_swell, sok_heed, sok_calm]
theorem at0 {R : RN} {xs : List D} (e : xs[0]? = some (.str R.wd.str)) (P : D → Prop) : kO (atD xs 0) P = P (.str R.wd.str) := by rw [atD_0, e]; rfl
theorem atm1 {xs : List D} {d : D} (h : xs[xs.length - 1]? = some d) (h0 : xs ≠ []) (P : D → Prop) : kO (atD xs (-1)) P = P d := by rw [atD_neg1 h h0]; rfl
theorem beh_ok {R : RN} (K : R.Ok) {g W S : Int} {h : Hd} (H : h.Ok) (G : Gd g) (LW : Le W 1000000) (S0 : 0 ≤ S) (S1 : S ≤ g) : Le (R.beh g W S h).1 1000000 ∧ 0 ≤ (R.beh g W S h).2 ∧ (R.beh g W S h).2 ≤ g := by
  obtain ⟨g0, g1⟩ := G
  unfold RN.beh
  split
  · exact ⟨LW, S0, S1⟩
  · rename_i hn
    have c1 := cap_le K (g := g) (by omega)
    have c2 := cap_ge K (g := g) (by omega)
    have s := shr_in K H hn (by omega) S0 S1
    refine ⟨?_, s.1, s.2⟩
    show Le (R.clip g _) _
    unfold RN.clip
    exact .of (by omega) (by omega)
theorem part_div {W g p q : Int} (P : IsPart W g p q) (g0 : 0 < g) : g.fmod q = 0 ∧ p * (g.fdiv q) = W := by
  have q0 := P.q0
  have d : q ∣ g := by
    have : q ∣ p * g := ⟨W, by rw [P.e, Int.mul_comm]⟩
    have h := Int.dvd_gcd_mul_iff_dvd_mul.mpr this
    rw [Int.gcd_comm, P.g] at h
    simpa using h
  obtain ⟨c, hc⟩ := d
  have e1 : g.fdiv q = c := by rw [fdiv_pos q0, hc, Int.mul_ediv_cancel_left _ (by omega)]
  refine ⟨by rw [Int.fmod_eq_emod_of_nonneg _ (by omega), hc, Int.mul_emod_right], ?_⟩
  rw [e1]
  have := P.e
  rw [hc] at this
  refine Int.eq_of_mul_eq_mul_right (a := q) (by omega) ?_
  calc p * c * q = p * (q * c) := by ac_rfl
    _ = W * q := this
def sp_begun_by : FSp := fun ds μ Q => match ds with
  | [d, .int g] => ∃ R : RN, (d = R.toD ∧ R.Ok ∧ Gd g) ∧ ∀ w, Vl w (R.p * g / R.q) g → Q (.tup [w, fr 0 1]) μ
  | _ => False
theorem len_begun_by : ∀ ds μ Q, sp_begun_by ds μ Q → ds.length = 2 := by
  intro ds μ Q h
  unfold sp_begun_by at h
  split at h
  · rfl
  · exact h.elim
def t_begun_by : STr := TRet (TTup (TCons (TCall L3.sp_cut_by (TCons (TBin L3.rIx (TVar 0) (TC (.int 1))) (TCons (TVar 1) (TNil)))) (TCons (TC (.tup [.int 0, .int 1])) (TNil))))
theorem rd_begun_by : ∀ ds μ Q, sp_begun_by ds μ Q → t_begun_by { nx := fun _ μ' => RT Q .non μ', rt := RT Q } (ini 2 ds) μ := by
  intro ds μ Q h
  unfold sp_begun_by at h
  split at h
  case h_2 => exact h.elim
  rename_i d g
  walk_at "ini"
  unfold t_begun_by
  walk_at "go"
  obtain ⟨R, ⟨rfl, K, g0, g1⟩, k⟩ := h
  obtain ⟨xs, e, e0, e1, e3, e4⟩ := R.tup K.st
  have WB := K.w.bd (by decide) (by decide)
  rw [e]
  walk_at "go"
  rw [atD_1, e1]
  walk_at "go"
  refine ⟨R.p, R.q, ⟨vl_frb K.w, WB.1.mono (by decide), WB.2.mono (by decide), by omega, by omega⟩, fun w V => ?_⟩
  walk_at "go"
  exact ⟨_, .refl _, k w V⟩
abbrev sp_is_idle : FSp := L3.sp_is_idle
def t_is_idle : STr := TRet (TOrV (TBin rEq (TBin L3.rIx (TVar 0) (TC (.int 0))) (TC (.str (Str.ofString "still")))) (TBin rEq (TBin rPlus (TBin rPlus (TBin L3.rIx (TVar 1) (TC (.int 0))) (TBin L3.rIx (TVar 1) (TC (.int 1)))) (TBin L3.rIx (TVar 1) (TC (.int 2)))) (TC (.int 0))))
theorem len_is_idle : ∀ ds μ Q, sp_is_idle ds μ Q → ds.length = 2 := L3.len_is_idle
theorem rd_is_idle : ∀ ds μ Q, sp_is_idle ds μ Q → t_is_idle { nx := fun _ μ' => RT Q .non μ', rt := RT Q } (ini 2 ds) μ := L3.rd_is_idle
abbrev sp_share_behind : FSp := L3.sp_share_behind
def t_share_behind : STr := TSeq (TIfS (TB (TBin rNe (TBin L3.rIx (TVar 0) (TC (.int 0))) (TC (.str (Str.ofString "heed"))))) (TRet (TVar 2)) (TNext)) (TSeq (TAsg (TBin rPlus (TBin L3.rIx (TVar 3) (TC (.int 1))) (TBin L3.rIx (TVar 3) (TC (.int 2)))) (GName 4)) (TSeq (TAsg (TCall L3.sp_times (TCons (TBin L3.rIx (TVar 0) (TC (.int 3))) (TCons (TCall L3.sp_minus (TCons (TCall L3.sp_part (TCons (TVar 4) (TCons (TBin rPlus (TBin L3.rIx (TVar 3) (TC (.int 0))) (TVar 4)) (TNil)))) (TCons (TVar 2) (TNil)))) (TNil)))) (GName 5)) (TRet (TCall L3.sp_cut_by (TCons (TCall L3.sp_plus (TCons (TVar 2) (TCons (TVar 5) (TNil)))) (TCons (TVar 1) (TNil)))))))
theorem len_share_behind : ∀ ds μ Q, sp_share_behind ds μ Q → ds.length = 4 := L3.len_share_behind
theorem rd_share_behind : ∀ ds μ Q, sp_share_behind ds μ Q → t_share_behind { nx := fun _ μ' => RT Q .non μ', rt := RT Q } (ini 6 ds) μ := L3.rd_share_behind
abbrev sp_factor_of : FSp := L3.sp_factor_of
def t_factor_of : STr := TSeq (TIfS (TB (TBin rEq (TBin L3.rIx (TVar 0) (TC (.int 0))) (TC (.str (Str.ofString "calm"))))) (TRet (TIfE (TB (TBin rGt (TBin L3.rIx (TVar 2) (TC (.int 2))) (TC (.int 0)))) (TC (.tup [.int 1, .int 2])) (TC .non))) (TNext)) (TSeq (TIfS (TB (TBin rEq (TBin rPlus (TBin L3.rIx (TVar 2) (TC (.int 1))) (TBin L3.rIx (TVar 2) (TC (.int 2)))) (TC (.int 0)))) (TRet (TIfE (TB (TBin rEq (TBin L3.rIx (TVar 0) (TC (.int 0))) (TC (.str (Str.ofString "swell"))))) (TBin L3.rIx (TVar 0) (TC (.int 2))) (TC .non))) (TNext)) (TSeq (TIfS (TB (TBin rEq (TBin L3.rIx (TVar 0) (TC (.int 0))) (TC (.str (Str.ofString "heed"))))) (TRet (TCall L3.sp_minus (TCons (TC (.tup [.int 1, .int 1])) (TCons (TCall L3.sp_times (TCons (TC (.tup [.int 1, .int 2])) (TCons (TVar 1) (TNil)))) (TNil))))) (TNext)) (TRet (TBin L3.rIx (TVar 0) (TC (.int 3))))))
theorem len_factor_of : ∀ ds μ Q, sp_factor_of ds μ Q → ds.length = 3 := L3.len_factor_of
theorem rd_factor_of : ∀ ds μ Q, sp_factor_of ds μ Q → t_factor_of { nx := fun _ μ' => RT Q .non μ', rt := RT Q } (ini 3 ds) μ := L3.rd_factor_of
abbrev sp_moved : FSp := L3.sp_moved
def t_moved : STr := TSeq (TIfS (TOr (TB (TBin rNe (TBin L3.rIx (TVar 0) (TC (.int 0))) (TC (.str (Str.ofString "calm"))))) (TB (TBin rLt (TBin L3.rIx (TVar 2) (TC (.int 3))) (TBin L3.rIx (TVar 0) (TC (.int 3)))))) (TRet (TCall L3.sp_plus (TCons (TVar 1) (TCons (TBin L3.rIx (TVar 0) (TC (.int 2))) (TNil))))) (TNext)) (TSeq (TIfS (TB (TBin rGt (TBin L3.rIx (TVar 2) (TC (.int 3))) (TBin L3.rIx (TVar 0) (TC (.int 4))))) (TRet (TCall L3.sp_minus (TCons (TVar 1) (TCons (TBin L3.rIx (TVar 0) (TC (.int 2))) (TNil))))) (TNext)) (TRet (TVar 1)))
theorem len_moved : ∀ ds μ Q, sp_moved ds μ Q → ds.length = 3 := L3.len_moved
theorem rd_moved : ∀ ds μ Q, sp_moved ds μ Q → t_moved { nx := fun _ μ' => RT Q .non μ', rt := RT Q } (ini 3 ds) μ := L3.rd_moved
abbrev sp_held : FSp := L3.sp_held
def t_held : STr := TSeq (TIfS (TB (TCall L3.sp_less (TCons (TVar 2) (TCons (TC (.tup [.int 1, .int 1])) (TNil))))) (TRet (TC (.tup [.int 1, .int 1]))) (TNext)) (TSeq (TIfS (TB (TCall L3.sp_less (TCons (TCall L3.sp_top_of (TCons (TVar 0) (TNil))) (TCons (TVar 2) (TNil))))) (TRet (TCall L3.sp_cut_by (TCons (TCall L3.sp_top_of (TCons (TVar 0) (TNil))) (TCons (TVar 1) (TNil))))) (TNext)) (TRet (TCall L3.sp_cut_by (TCons (TVar 2) (TCons (TVar 1) (TNil))))))
theorem len_held : ∀ ds μ Q, sp_held ds μ Q → ds.length = 3 := L3.len_held
theorem rd_held : ∀ ds μ Q, sp_held ds μ Q → t_held { nx := fun _ μ' => RT Q .non μ', rt := RT Q } (ini 3 ds) μ := L3.rd_held
abbrev sp_heard_by : FSp := L3.sp_heard_by
def t_heard_by : STr := TSeq (TIfS (TB (TCall L3.sp_is_idle (TCons (TVar 0) (TCons (TVar 4) (TNil))))) (TRet (TTup (TCons (TVar 2) (TCons (TVar 3) (TNil))))) (TNext)) (TSeq (TAsg (TCall L3.sp_share_behind (TCons (TVar 0) (TCons (TVar 1) (TCons (TVar 3) (TCons (TVar 4) (TNil)))))) (GName 5)) (TSeq (TAsg (TCall L3.sp_factor_of (TCons (TVar 0) (TCons (TVar 5) (TCons (TVar 4) (TNil))))) (GName 6)) (TSeq (TIfS (TB (TBin rIs (TVar 6) (TC .non))) (TRet (TTup (TCons (TCall L3.sp_held (TCons (TVar 0) (TCons (TVar 1) (TCons (TCall L3.sp_moved (TCons (TVar 0) (TCons (TVar 2) (TCons (TVar 4) (TNil))))) (TNil))))) (TCons (TVar 5) (TNil))))) (TNext)) (TRet (TTup (TCons (TCall L3.sp_held (TCons (TVar 0) (TCons (TVar 1) (TCons (TCall L3.sp_times (TCons (TVar 2) (TCons (TVar 6) (TNil)))) (TNil))))) (TCons (TVar 5) (TNil))))))))
theorem len_heard_by : ∀ ds μ Q, sp_heard_by ds μ Q → ds.length = 5 := L3.len_heard_by
theorem rd_heard_by : ∀ ds μ Q, sp_heard_by ds μ Q → t_heard_by { nx := fun _ μ' => RT Q .non μ', rt := RT Q } (ini 7 ds) μ := L3.rd_heard_by
theorem forR_c (g : GTr) (b : STr) (nx : ST → Mu → Prop) (rt : DK) (bk ct : ST → Mu → Prop) (d : D) (r : List D) (ρ : ST) (μ : Mu) : forR g b ⟨nx, rt, bk, ct⟩ (d :: r) ρ μ = g d ρ μ fun ρ1 μ1 => b ⟨forR g b ⟨nx, rt, bk, ct⟩ r, rt, nx, forR g b ⟨nx, rt, bk, ct⟩ r⟩ ρ1 μ1 := propext Iff.rfl
theorem forR_n (g : GTr) (b : STr) (nx : ST → Mu → Prop) (rt : DK) (bk ct : ST → Mu → Prop) (ρ : ST) (μ : Mu) : forR g b ⟨nx, rt, bk, ct⟩ [] ρ μ = nx ρ μ := propext Iff.rfl
abbrev TAB : List (Str × D) := [((Str.ofString "still"), (.tup [.int 1] : D)), ((Str.ofString "step"), (.tup [.int 1, .int 2, .int 3, .int 4] : D)), ((Str.ofString "swell"), (.tup [.int 1, .int 2, .int 3, .int 4] : D)), ((Str.ofString "heed"), (.tup [.int 1, .int 2, .int 4] : D)), ((Str.ofString "calm"), (.tup [.int 1, .int 5] : D))]
theorem tab_still : lookS TAB (Str.ofString "still") = some (.tup [.int 1]) := by simp [lookS, TAB]
theorem tab_step : lookS TAB (Str.ofString "step") = some (.tup [.int 1, .int 2, .int 3, .int 4]) := by simp [lookS, TAB, List.find?_cons, ne_still_step]
theorem tab_swell : lookS TAB (Str.ofString "swell") = some (.tup [.int 1, .int 2, .int 3, .int 4]) := by simp [lookS, TAB, List.find?_cons, ne_still_swell, ne_step_swell]
theorem tab_heed : lookS TAB (Str.ofString "heed") = some (.tup [.int 1, .int 2, .int 4]) := by simp [lookS, TAB, List.find?_cons, ne_still_heed, ne_step_heed, ne_swell_heed]
theorem tab_calm : lookS TAB (Str.ofString "calm") = some (.tup [.int 1, .int 5]) := by simp [lookS, TAB, List.find?_cons, ne_still_calm, ne_step_calm, ne_swell_calm, ne_heed_calm]
local macro_rules | `(tactic| walk_at "gg") => `(tactic| (walk_at "go"; (try simp only [↓forR_c, ↓forR_n, tab_still, tab_step, tab_swell, tab_heed, tab_calm, ↓v_kO_some]); walk_at "go"; (try simp only [inG, List.any_cons, List.any_nil, eq_ii]); walk_at "go"))
def sp_gentler : FSp := fun ds μ Q => match ds with
  | [a, b] => ∃ A R : RN, ((a = A.toD ∧ b = R.toD) ∧ A.Ok ∧ R.Ok ∧ Gnt A R) ∧ Q (.bl true) μ
  | _ => False
theorem less_no {p q r s lo hi lo' hi' : Int} {μ : Mu} {A B : Mu → Prop} (h : FrB lo hi p q) (h' : FrB lo' hi' r s) (l0 : 0 ≤ lo) (l0' : 0 ≤ lo') (h1 : hi ≤ 60) (h1' : hi' ≤ 60) (hh : p * s ≤ r * q) (k : B μ) : CALL L3.sp_less [L3.fr r s, L3.fr p q] μ fun x μ1 => kB x fun c => kIf c (A μ1) (B μ1) := by
  have b := h.bd l0 h1
  have b' := h'.bd l0' h1'
  refine ⟨r, s, p, q, ⟨⟨vl_frb h', vl_frb h⟩, b'.1.mono (by decide), b'.2.mono (by decide), b.1.mono (by decide), b.2.mono (by decide)⟩, ?_⟩
  show kIf _ _ _
  exact kif_f (by omega) k
theorem len_gentler : ∀ ds μ Q, sp_gentler ds μ Q → ds.length = 2 := by
  intro ds μ Q h
  unfold sp_gentler at h
  split at h
  · rfl
  · exact h.elim
def t_gentler : STr := TSeq (TIfS (TB (TBin rNe (TBin L3.rIx (TVar 0) (TC (.int 0))) (TBin L3.rIx (TVar 1) (TC (.int 0))))) (TRet (TC (.bl false))) (TNext)) (TSeq (TFor (IRange2 (TC (.int 1)) (TCall bLen (TCons (TVar 0) (TNil)))) (GName 2) (TIfS (TB (TBin (rInG false) (TVar 2) (TTabIx [((Str.ofString "still"), (.tup [.int 1] : D)), ((Str.ofString "step"), (.tup [.int 1, .int 2, .int 3, .int 4] : D)), ((Str.ofString "swell"), (.tup [.int 1, .int 2, .int 3, .int 4] : D)), ((Str.ofString "heed"), (.tup [.int 1, .int 2, .int 4] : D)), ((Str.ofString "calm"), (.tup [.int 1, .int 5] : D))] (TBin L3.rIx (TVar 0) (TC (.int 0)))))) (TIfS (TB (TCall L3.sp_less (TCons (TBin L3.rIx (TVar 1) (TVar 2)) (TCons (TBin L3.rIx (TVar 0) (TVar 2)) (TNil))))) (TRet (TC (.bl false))) (TNext)) (TIfS (TB (TBin rNe (TBin L3.rIx (TVar 0) (TVar 2)) (TBin L3.rIx (TVar 1) (TVar 2)))) (TRet (TC (.bl false))) (TNext)))) (TRet (TC (.bl true))))
theorem rd_gentler : ∀ ds μ Q, sp_gentler ds μ Q → t_gentler { nx := fun _ μ' => RT Q .non μ', rt := RT Q } (ini 3 ds) μ := by
  intro ds μ Q h
  unfold sp_gentler at h
  split at h
  case h_2 => exact h.elim
  rename_i a b
  walk_at "ini"
  unfold t_gentler
  walk_at "go"
  obtain ⟨A, R, ⟨⟨rfl, rfl⟩, KA, KR, n⟩, k⟩ := h
  replace k : RT Q (.bl true) μ := ⟨_, .refl _, k⟩
  obtain ⟨wd, p, q, x, y, a, b, l, hh, r, s⟩ := A
  obtain ⟨wd', p', q', x', y', a', b', l', hh', r', s'⟩ := R
  obtain rfl : wd = wd' := n.wd
  cases wd
  all_goals
    simp only [RN.toD]
  case still =>
    walk_at "go"
    show forR _ _ _ [.int 1] _ _
    walk_at "gg"
    (try refine kO_at tab_still ?_)
    walk_at "gg"
    refine less_no KA.w KR.w (by decide) (by decide) (by decide) (by decide) n.w ?_
    walk_at "gg"
    exact k
  case step =>
    walk_at "go"
    show forR _ _ _ [.int 1, .int 2, .int 3, .int 4] _ _
    walk_at "gg"
    (try refine kO_at tab_step ?_)
    walk_at "gg"
    refine less_no KA.w KR.w (by decide) (by decide) (by decide) (by decide) n.w ?_
    walk_at "gg"
    (try refine kO_at tab_step ?_)
    walk_at "gg"
    refine less_no KA.u.toFrB KR.u.toFrB (by decide) (by decide) (by decide) (by decide) n.u ?_
    walk_at "gg"
    (try refine kO_at tab_step ?_)
    walk_at "gg"
    refine less_no KA.g.toFrB KR.g.toFrB (by decide) (by decide) (by decide) (by decide) n.g ?_
    walk_at "gg"
    (try refine kO_at tab_step ?_)
    walk_at "gg"
    refine less_no KA.t KR.t (by decide) (by decide) (by decide) (by decide) n.t ?_
    walk_at "gg"
    exact k
  case swell =>
    walk_at "go"
    show forR _ _ _ [.int 1, .int 2, .int 3, .int 4] _ _
    walk_at "gg"
    (try refine kO_at tab_swell ?_)
    walk_at "gg"
    refine less_no KA.w KR.w (by decide) (by decide) (by decide) (by decide) n.w ?_
    walk_at "gg"
    (try refine kO_at tab_swell ?_)
    walk_at "gg"
    refine less_no KA.u.toFrB KR.u.toFrB (by decide) (by decide) (by decide) (by decide) n.u ?_
    walk_at "gg"
    (try refine kO_at tab_swell ?_)
    walk_at "gg"
    refine less_no KA.g.toFrB KR.g.toFrB (by decide) (by decide) (by decide) (by decide) n.g ?_
    walk_at "gg"
    (try refine kO_at tab_swell ?_)
    walk_at "gg"
    refine less_no KA.t KR.t (by decide) (by decide) (by decide) (by decide) n.t ?_
    walk_at "gg"
    exact k
  case heed =>
    walk_at "go"
    show forR _ _ _ [.int 1, .int 2, .int 3, .int 4] _ _
    walk_at "gg"
    (try refine kO_at tab_heed ?_)
    walk_at "gg"
    refine less_no KA.w KR.w (by decide) (by decide) (by decide) (by decide) n.w ?_
    walk_at "gg"
    (try refine kO_at tab_heed ?_)
    walk_at "gg"
    refine less_no KA.u.toFrB KR.u.toFrB (by decide) (by decide) (by decide) (by decide) n.u ?_
    walk_at "gg"
    (try refine kO_at tab_heed ?_)
    walk_at "gg"
    obtain ⟨rfl, rfl⟩ : a = a' ∧ b = b' := n.gh rfl
    refine kif_b (fun hh => ?_) (fun _ => ?_)
    · simp [eq_tt, eqs_cons, eqs_nil, eq_ii] at hh
    walk_at "gg"
    (try refine kO_at tab_heed ?_)
    walk_at "gg"
    refine less_no KA.t KR.t (by decide) (by decide) (by decide) (by decide) n.t ?_
    walk_at "gg"
    exact k
  case calm =>
    walk_at "go"
    obtain ⟨⟨ex, ey⟩, el, eh⟩ := n.cc rfl
    show forR _ _ _ [.int 1, .int 2, .int 3, .int 4, .int 5] _ _
    walk_at "gg"
    (try refine kO_at tab_calm ?_)
    walk_at "gg"
    refine less_no KA.w KR.w (by decide) (by decide) (by decide) (by decide) n.w ?_
    walk_at "gg"
    (try refine kO_at tab_calm ?_)
    walk_at "gg"
    obtain ⟨rfl, rfl⟩ : x = x' ∧ y = y' := ⟨ex, ey⟩
    refine kif_b (fun hh => ?_) (fun _ => ?_)
    · simp [eq_tt, eqs_cons, eqs_nil, eq_ii] at hh
    walk_at "gg"
    (try refine kO_at tab_calm ?_)
    walk_at "gg"
    obtain rfl : l = l' := el
    refine kif_b (fun hh => ?_) (fun _ => ?_)
    · simp [eq_tt, eqs_cons, eqs_nil, eq_ii] at hh
    walk_at "gg"
    (try refine kO_at tab_calm ?_)
    walk_at "gg"
    obtain rfl : hh = hh' := eh
    refine kif_b (fun hh => ?_) (fun _ => ?_)
    · simp [eq_tt, eqs_cons, eqs_nil, eq_ii] at hh
    walk_at "gg"
    (try refine kO_at tab_calm ?_)
    walk_at "gg"
    refine less_no KA.t KR.t (by decide) (by decide) (by decide) (by decide) n.t ?_
    walk_at "gg"
    exact k
abbrev sp__law_pot : FSp := L3.sp_pot
def t__law_pot : STr := TSeq (TAsg (TC (.int 0)) (GName 2)) (TSeq (TIfS (TB (TBin rLt (TVar 1) (TCall bLen (TCons (TVar 0) (TNil))))) (TAsg (TBin L3.rIx (TVar 0) (TVar 1)) (GName 2)) (TNext)) (TSeq (TAsg (TBin rMul (TCall bAbs (TCons (TVar 2) (TNil))) (TCall bInt (TCons (TBin rGe (TCall bAbs (TCons (TVar 2) (TNil))) (TBin rPow (TC (.int 10)) (TC (.int 18)))) (TNil)))) (GName 3)) (TRet (TLsM (TCons (TVar 3) (TCons (TBin rMod (TBin rMul (TBin rPlus (TBin rPlus (TBin rMod (TVar 2) (TC (.int 2147483647))) (TBin rMul (TC (.int 7919)) (TVar 1))) (TC (.int 11))) (TC (.int 48271))) (TC (.int 2147483629))) (TCons (TC (.int 60)) (TNil))))))))
theorem len__law_pot : ∀ ds μ Q, sp__law_pot ds μ Q → ds.length = 2 := L3.len_pot
theorem rd__law_pot : ∀ ds μ Q, sp__law_pot ds μ Q → t__law_pot { nx := fun _ μ' => RT Q .non μ', rt := RT Q } (ini 4 ds) μ := L3.rd_pot
abbrev sp__law_take : FSp := L3.sp_draw
def t__law_take : STr := TSeq (TIfS (TAnd (TB (TBin rGt (TBin L3.rIx (TVar 0) (TC (.int 0))) (TC (.int 0)))) (TB (TBin rGt (TBin L3.rIx (TVar 0) (TC (.int 2))) (TC (.int 0))))) (TSeq (TAsg (TBin rMod (TBin L3.rIx (TVar 0) (TC (.int 0))) (TVar 1)) (GName 2)) (TSeq (TSetIx (TVar 0) (TC (.int 0)) (TBin rDiv (TBin L3.rIx (TVar 0) (TC (.int 0))) (TVar 1))) (TSeq (TSetIx (TVar 0) (TC (.int 2)) (TBin rSub (TBin L3.rIx (TVar 0) (TC (.int 2))) (TC (.int 1)))) (TRet (TVar 2))))) (TNext)) (TSeq (TSetIx (TVar 0) (TC (.int 1)) (TBin rMod (TBin rMul (TBin rPlus (TBin L3.rIx (TVar 0) (TC (.int 1))) (TC (.int 39373))) (TC (.int 48271))) (TC (.int 2147483647)))) (TSeq (TAsg (TBin rMod (TBin rMul (TBin L3.rIx (TVar 0) (TC (.int 1))) (TBin rPlus (TBin rMod (TBin L3.rIx (TVar 0) (TC (.int 1))) (TC (.int 40009))) (TC (.int 7)))) (TC (.int 2147483629))) (GName 3)) (TRet (TBin rMod (TBin rDiv (TBin rMod (TBin rMul (TVar 3) (TBin rPlus (TBin rMod (TVar 3) (TC (.int 1009))) (TC (.int 3)))) (TC (.int 998244353))) (TC (.int 7))) (TVar 1)))))
theorem len__law_take : ∀ ds μ Q, sp__law_take ds μ Q → ds.length = 2 := L3.len_draw
theorem rd__law_take : ∀ ds μ Q, sp__law_take ds μ Q → t__law_take { nx := fun _ μ' => RT Q .non μ', rt := RT Q } (ini 4 ds) μ := L3.rd_draw
abbrev sp__law_low : FSp := L3.sp_low2
def t__law_low : STr := TSeq (TAsg (TCall bAbs (TCons (TVar 0) (TNil))) (GName 2)) (TSeq (TAsg (TVar 1) (GName 3)) (TSeq (TWhile (TB (TBin rGt (TVar 3) (TC (.int 0)))) (TPar 2 3 (TCons (TVar 3) (TCons (TBin rMod (TVar 2) (TVar 3)) (TNil))))) (TRet (TTup (TCons (TBin rDiv (TVar 0) (TVar 2)) (TCons (TBin rDiv (TVar 1) (TVar 2)) (TNil)))))))
theorem len__law_low : ∀ ds μ Q, sp__law_low ds μ Q → ds.length = 2 := L3.len_low2
theorem rd__law_low : ∀ ds μ Q, sp__law_low ds μ Q → t__law_low { nx := fun _ μ' => RT Q .non μ', rt := RT Q } (ini 4 ds) μ := L3.rd_low2
abbrev sp__law_bottom : FSp := L3.sp_bot
def t__law_bottom : STr := TRet (TBin L3.rIx (TLsV (TCons (TC (.int 1)) (TCons (TC (.int 2)) (TCons (TBin rPlus (TC (.int 1)) (TCall L3.sp_draw (TCons (TVar 0) (TCons (TC (.int 12)) (TNil))))) (TCons (TBin rPlus (TC (.int 1)) (TCall L3.sp_draw (TCons (TVar 0) (TCons (TBin rPow (TC (.int 10)) (TC (.int 7))) (TNil))))) (TNil)))))) (TCall L3.sp_draw (TCons (TVar 0) (TCons (TC (.int 4)) (TNil)))))
theorem len__law_bottom : ∀ ds μ Q, sp__law_bottom ds μ Q → ds.length = 1 := L3.len_bot
theorem rd__law_bottom : ∀ ds μ Q, sp__law_bottom ds μ Q → t__law_bottom { nx := fun _ μ' => RT Q .non μ', rt := RT Q } (ini 1 ds) μ := L3.rd_bot
abbrev sp__law_between : FSp := L3.sp_between
def t__law_between : STr := TSeq (TAsg (TCall L3.sp_bot (TCons (TVar 0) (TNil))) (GName 3)) (TSeq (TAsg (TBin rMul (TVar 3) (TBin rSub (TVar 2) (TVar 1))) (GName 4)) (TSeq (TAsg (TCall L3.sp_draw (TCons (TVar 0) (TCons (TBin rPlus (TVar 4) (TC (.int 1))) (TNil)))) (GName 5)) (TRet (TCall L3.sp_low2 (TCons (TBin rPlus (TBin rMul (TVar 3) (TVar 1)) (TBin L3.rIx (TLsV (TCons (TC (.int 0)) (TCons (TVar 4) (TCons (TVar 5) (TCons (TVar 5) (TNil)))))) (TCall L3.sp_draw (TCons (TVar 0) (TCons (TC (.int 4)) (TNil)))))) (TCons (TVar 3) (TNil)))))))
theorem len__law_between : ∀ ds μ Q, sp__law_between ds μ Q → ds.length = 3 := L3.len_between
theorem rd__law_between : ∀ ds μ Q, sp__law_between ds μ Q → t__law_between { nx := fun _ μ' => RT Q .non μ', rt := RT Q } (ini 6 ds) μ := L3.rd_between
abbrev sp__law_above : FSp := L3.sp_above
def t__law_above : STr := TSeq (TAsg (TCall L3.sp_bot (TCons (TVar 0) (TNil))) (GName 3)) (TSeq (TAsg (TBin rMul (TVar 3) (TBin rSub (TVar 2) (TVar 1))) (GName 4)) (TSeq (TAsg (TBin rPlus (TC (.int 1)) (TCall L3.sp_draw (TCons (TVar 0) (TCons (TVar 4) (TNil))))) (GName 5)) (TRet (TCall L3.sp_low2 (TCons (TBin rPlus (TBin rMul (TVar 3) (TVar 1)) (TBin L3.rIx (TLsV (TCons (TC (.int 1)) (TCons (TVar 4) (TCons (TVar 5) (TCons (TVar 5) (TNil)))))) (TCall L3.sp_draw (TCons (TVar 0) (TCons (TC (.int 4)) (TNil)))))) (TCons (TVar 3) (TNil)))))))
theorem len__law_above : ∀ ds μ Q, sp__law_above ds μ Q → ds.length = 3 := L3.len_above
theorem rd__law_above : ∀ ds μ Q, sp__law_above ds μ Q → t__law_above { nx := fun _ μ' => RT Q .non μ', rt := RT Q } (ini 6 ds) μ := L3.rd_above
abbrev sp__law_less_than_one : FSp := L3.sp_lto
def t__law_less_than_one : STr := TSeq (TAsg (TBin rPlus (TC (.int 1)) (TCall L3.sp_bot (TCons (TVar 0) (TNil)))) (GName 1)) (TSeq (TAsg (TBin rPlus (TC (.int 1)) (TCall L3.sp_draw (TCons (TVar 0) (TCons (TBin rSub (TVar 1) (TC (.int 1))) (TNil))))) (GName 2)) (TRet (TCall L3.sp_low2 (TCons (TBin L3.rIx (TLsV (TCons (TC (.int 1)) (TCons (TBin rSub (TVar 1) (TC (.int 1))) (TCons (TVar 2) (TCons (TVar 2) (TNil)))))) (TCall L3.sp_draw (TCons (TVar 0) (TCons (TC (.int 4)) (TNil))))) (TCons (TVar 1) (TNil))))))
theorem len__law_less_than_one : ∀ ds μ Q, sp__law_less_than_one ds μ Q → ds.length = 1 := L3.len_lto
theorem rd__law_less_than_one : ∀ ds μ Q, sp__law_less_than_one ds μ Q → t__law_less_than_one { nx := fun _ μ' => RT Q .non μ', rt := RT Q } (ini 3 ds) μ := L3.rd_lto
abbrev sp__law_rule : FSp := L3.sp_rule
def t__law_rule : STr := TSeq (TAsg (TCall L3.sp_between (TCons (TVar 0) (TCons (TC (.int 1)) (TCons (TC (.int 60)) (TNil))))) (GName 2)) (TSeq (TAsg (TCall L3.sp_between (TCons (TVar 0) (TCons (TC (.int 1)) (TCons (TC (.int 60)) (TNil))))) (GName 3)) (TSeq (TIfS (TB (TBin rGt (TBin rMul (TBin L3.rIx (TVar 2) (TC (.int 0))) (TBin L3.rIx (TVar 3) (TC (.int 1)))) (TBin rMul (TBin L3.rIx (TVar 3) (TC (.int 0))) (TBin L3.rIx (TVar 2) (TC (.int 1)))))) (TPar 2 3 (TCons (TVar 3) (TCons (TVar 2) (TNil)))) (TNext)) (TSeq (TIfS (TB (TBin rEq (TVar 1) (TC (.str (Str.ofString "still"))))) (TRet (TTup (TCons (TVar 1) (TCons (TVar 2) (TNil))))) (TNext)) (TSeq (TIfS (TB (TBin rEq (TVar 1) (TC (.str (Str.ofString "calm"))))) (TSeq (TAsg (TCall L3.sp_draw (TCons (TVar 0) (TCons (TC (.int 61)) (TNil)))) (GName 4)) (TSeq (TAsg (TBin rPlus (TVar 4) (TCall L3.sp_draw (TCons (TVar 0) (TCons (TBin rSub (TC (.int 61)) (TVar 4)) (TNil))))) (GName 5)) (TRet (TTup (TCons (TVar 1) (TCons (TVar 2) (TCons (TCall L3.sp_above (TCons (TVar 0) (TCons (TC (.int 0)) (TCons (TC (.int 60)) (TNil))))) (TCons (TVar 4) (TCons (TVar 5) (TCons (TVar 3) (TNil))))))))))) (TNext)) (TSeq (TIfS (TB (TBin rEq (TVar 1) (TC (.str (Str.ofString "heed"))))) (TRet (TTup (TCons (TVar 1) (TCons (TVar 2) (TCons (TCall L3.sp_above (TCons (TVar 0) (TCons (TC (.int 0)) (TCons (TC (.int 60)) (TNil))))) (TCons (TCall L3.sp_above (TCons (TVar 0) (TCons (TC (.int 0)) (TCons (TC (.int 1)) (TNil))))) (TCons (TVar 3) (TNil)))))))) (TNext)) (TSeq (TAsg (TCall L3.sp_above (TCons (TVar 0) (TCons (TCall bInt (TCons (TBin rEq (TVar 1) (TC (.str (Str.ofString "swell")))) (TNil))) (TCons (TC (.int 60)) (TNil))))) (GName 6)) (TRet (TTup (TCons (TVar 1) (TCons (TVar 2) (TCons (TVar 6) (TCons (TCall L3.sp_lto (TCons (TVar 0) (TNil))) (TCons (TVar 3) (TNil))))))))))))))
theorem len__law_rule : ∀ ds μ Q, sp__law_rule ds μ Q → ds.length = 2 := L3.len_rule
theorem rd__law_rule : ∀ ds μ Q, sp__law_rule ds μ Q → t__law_rule { nx := fun _ μ' => RT Q .non μ', rt := RT Q } (ini 7 ds) μ := L3.rd_rule
abbrev sp__law_plain : FSp := L3.sp_plain
def t__law_plain_c3 : STr := TSeq (TAsg (TBin L3.rIx (TLsV (TCons (TTup (TCons (TC (.int 1)) (TCons (TC (.int 1)) (TNil)))) (TCons (TTup (TCons (TC (.int 1)) (TCons (TC (.int 2)) (TNil)))) (TCons (TTup (TCons (TC (.int 2)) (TCons (TC (.int 1)) (TNil)))) (TCons (TTup (TCons (TC (.int 1)) (TCons (TC (.int 3)) (TNil)))) (TCons (TTup (TCons (TC (.int 1)) (TCons (TC (.int 60)) (TNil)))) (TCons (TTup (TCons (TC (.int 60)) (TCons (TC (.int 1)) (TNil)))) (TCons (TTup (TCons (TC (.int 7)) (TCons (TC (.int 4)) (TNil)))) (TNil))))))))) (TCall L3.sp_draw (TCons (TVar 0) (TCons (TC (.int 7)) (TNil))))) (GName 4)) (TSeq (TIfS (TB (TBin rEq (TVar 1) (TC (.str (Str.ofString "still"))))) (TRet (TTup (TCons (TVar 1) (TCons (TVar 2) (TNil))))) (TNext)) (TSeq (TIfS (TB (TBin rEq (TVar 1) (TC (.str (Str.ofString "calm"))))) (TSeq (TAsg (TBin L3.rIx (TLsV (TCons (TC (.int 0)) (TCons (TC (.int 1)) (TCons (TC (.int 2)) (TCons (TC (.int 3)) (TCons (TC (.int 8)) (TNil))))))) (TCall L3.sp_draw (TCons (TVar 0) (TCons (TC (.int 5)) (TNil))))) (GName 5)) (TRet (TTup (TCons (TVar 1) (TCons (TVar 2) (TCons (TVar 4) (TCons (TVar 5) (TCons (TBin rPlus (TVar 5) (TBin L3.rIx (TLsV (TCons (TC (.int 0)) (TCons (TC (.int 1)) (TCons (TC (.int 2)) (TCons (TC (.int 9)) (TCons (TC (.int 50)) (TNil))))))) (TCall L3.sp_draw (TCons (TVar 0) (TCons (TC (.int 5)) (TNil)))))) (TCons (TVar 3) (TNil)))))))))) (TNext)) (TSeq (TIfS (TB (TBin rEq (TVar 1) (TC (.str (Str.ofString "heed"))))) (TSeq (TAsg (TBin L3.rIx (TLsV (TCons (TTup (TCons (TC (.int 1)) (TCons (TC (.int 1)) (TNil)))) (TCons (TTup (TCons (TC (.int 1)) (TCons (TC (.int 2)) (TNil)))) (TCons (TTup (TCons (TC (.int 1)) (TCons (TC (.int 16)) (TNil)))) (TCons (TTup (TCons (TC (.int 1)) (TCons (TC (.int 60)) (TNil)))) (TCons (TTup (TCons (TC (.int 3)) (TCons (TC (.int 4)) (TNil)))) (TNil))))))) (TCall L3.sp_draw (TCons (TVar 0) (TCons (TC (.int 5)) (TNil))))) (GName 6)) (TRet (TTup (TCons (TVar 1) (TCons (TVar 2) (TCons (TVar 4) (TCons (TVar 6) (TCons (TVar 3) (TNil))))))))) (TNext)) (TSeq (TIfS (TB (TBin rEq (TVar 1) (TC (.str (Str.ofString "swell"))))) (TAsg (TBin L3.rIx (TLsV (TCons (TTup (TCons (TC (.int 2)) (TCons (TC (.int 1)) (TNil)))) (TCons (TTup (TCons (TC (.int 3)) (TCons (TC (.int 2)) (TNil)))) (TCons (TTup (TCons (TC (.int 11)) (TCons (TC (.int 10)) (TNil)))) (TCons (TTup (TCons (TC (.int 60)) (TCons (TC (.int 1)) (TNil)))) (TCons (TTup (TCons (TC (.int 61)) (TCons (TC (.int 60)) (TNil)))) (TNil))))))) (TCall L3.sp_draw (TCons (TVar 0) (TCons (TC (.int 5)) (TNil))))) (GName 4)) (TNext)) (TSeq (TAsg (TBin L3.rIx (TLsV (TCons (TTup (TCons (TC (.int 1)) (TCons (TC (.int 2)) (TNil)))) (TCons (TTup (TCons (TC (.int 3)) (TCons (TC (.int 4)) (TNil)))) (TCons (TTup (TCons (TC (.int 1)) (TCons (TC (.int 60)) (TNil)))) (TCons (TTup (TCons (TC (.int 59)) (TCons (TC (.int 60)) (TNil)))) (TCons (TTup (TCons (TC (.int 7)) (TCons (TC (.int 8)) (TNil)))) (TNil))))))) (TCall L3.sp_draw (TCons (TVar 0) (TCons (TC (.int 5)) (TNil))))) (GName 7)) (TRet (TTup (TCons (TVar 1) (TCons (TVar 2) (TCons (TVar 4) (TCons (TVar 7) (TCons (TVar 3) (TNil)))))))))))))
def t__law_plain : STr := TSeq (TAsg (TBin L3.rIx (TLsV (TCons (TTup (TCons (TC (.int 1)) (TCons (TC (.int 1)) (TNil)))) (TCons (TTup (TCons (TC (.int 2)) (TCons (TC (.int 1)) (TNil)))) (TCons (TTup (TCons (TC (.int 3)) (TCons (TC (.int 1)) (TNil)))) (TCons (TTup (TCons (TC (.int 3)) (TCons (TC (.int 2)) (TNil)))) (TCons (TTup (TCons (TC (.int 5)) (TCons (TC (.int 2)) (TNil)))) (TCons (TTup (TCons (TC (.int 4)) (TCons (TC (.int 1)) (TNil)))) (TCons (TTup (TCons (TC (.int 10)) (TCons (TC (.int 1)) (TNil)))) (TNil))))))))) (TCall L3.sp_draw (TCons (TVar 0) (TCons (TC (.int 7)) (TNil))))) (GName 2)) (TSeq (TAsg (TBin L3.rIx (TLsV (TCons (TTup (TCons (TC (.int 4)) (TCons (TC (.int 1)) (TNil)))) (TCons (TTup (TCons (TC (.int 9)) (TCons (TC (.int 2)) (TNil)))) (TCons (TTup (TCons (TC (.int 8)) (TCons (TC (.int 1)) (TNil)))) (TCons (TTup (TCons (TC (.int 12)) (TCons (TC (.int 1)) (TNil)))) (TCons (TTup (TCons (TC (.int 25)) (TCons (TC (.int 2)) (TNil)))) (TCons (TTup (TCons (TC (.int 60)) (TCons (TC (.int 1)) (TNil)))) (TCons (TVar 2) (TNil))))))))) (TCall L3.sp_draw (TCons (TVar 0) (TCons (TC (.int 7)) (TNil))))) (GName 3)) (TSeq (TIfS (TB (TBin rLt (TBin rMul (TBin L3.rIx (TVar 3) (TC (.int 0))) (TBin L3.rIx (TVar 2) (TC (.int 1)))) (TBin rMul (TBin L3.rIx (TVar 2) (TC (.int 0))) (TBin L3.rIx (TVar 3) (TC (.int 1)))))) (TAsg (TVar 2) (GName 3)) (TNext)) (t__law_plain_c3)))
theorem len__law_plain : ∀ ds μ Q, sp__law_plain ds μ Q → ds.length = 2 := L3.len_plain
theorem rd__law_plain : ∀ ds μ Q, sp__law_plain ds μ Q → t__law_plain { nx := fun _ μ' => RT Q .non μ', rt := RT Q } (ini 8 ds) μ := L3.rd_plain
abbrev sp__law_any_rule : FSp := L3.sp_any_rule
def t__law_any_rule : STr := TSeq (TIfS (TB (TBin rEq (TCall L3.sp_draw (TCons (TVar 0) (TCons (TC (.int 2)) (TNil)))) (TC (.int 0)))) (TRet (TCall L3.sp_plain (TCons (TVar 0) (TCons (TVar 1) (TNil))))) (TNext)) (TRet (TCall L3.sp_rule (TCons (TVar 0) (TCons (TVar 1) (TNil)))))
theorem len__law_any_rule : ∀ ds μ Q, sp__law_any_rule ds μ Q → ds.length = 2 := L3.len_any_rule
theorem rd__law_any_rule : ∀ ds μ Q, sp__law_any_rule ds μ Q → t__law_any_rule { nx := fun _ μ' => RT Q .non μ', rt := RT Q } (ini 2 ds) μ := L3.rd_any_rule
abbrev sp__law_grid : FSp := L3.sp_grid
def t__law_grid : STr := TRet (TBin L3.rIx (TLsV (TCons (TC (.int 1)) (TCons (TC (.int 2)) (TCons (TC (.int 3)) (TCons (TC (.int 60)) (TCons (TBin rPlus (TC (.int 1)) (TCall L3.sp_draw (TCons (TVar 0) (TCons (TC (.int 60)) (TNil))))) (TNil))))))) (TCall L3.sp_draw (TCons (TVar 0) (TCons (TC (.int 5)) (TNil)))))
theorem len__law_grid : ∀ ds μ Q, sp__law_grid ds μ Q → ds.length = 1 := L3.len_grid
theorem rd__law_grid : ∀ ds μ Q, sp__law_grid ds μ Q → t__law_grid { nx := fun _ μ' => RT Q .non μ', rt := RT Q } (ini 1 ds) μ := L3.rd_grid
abbrev sp__law_heard : FSp := L3.sp_heard
def t__law_heard : STr := TSeq (TAsg (TLsM (TNil)) (GName 1)) (TSeq (TFor (IRange1 (TC (.int 4))) (GName 2) (TSeq (TAsg (TLsV (TCons (TC (.int 0)) (TCons (TC (.int 0)) (TCons (TC (.int 1)) (TCons (TCall L3.sp_draw (TCons (TVar 0) (TCons (TC (.int 9)) (TNil)))) (TCons (TCall L3.sp_draw (TCons (TVar 0) (TCons (TC (.int 61)) (TNil)))) (TCons (TCall L3.sp_draw (TCons (TVar 0) (TCons (TBin rPow (TC (.int 10)) (TC (.int 6))) (TNil)))) (TNil)))))))) (GName 3)) (TDrop (TApp (TVar 1) (TBin L3.rIx (TVar 3) (TCall L3.sp_draw (TCons (TVar 0) (TCons (TC (.int 6)) (TNil))))))))) (TSeq (TIfS (TB (TBin rEq (TBin rPlus (TBin L3.rIx (TVar 1) (TC (.int 0))) (TBin L3.rIx (TVar 1) (TC (.int 1)))) (TC (.int 0)))) (TSetIx (TVar 1) (TC (.int 3)) (TC (.int 0))) (TNext)) (TRet (TCall bTuple (TCons (TVar 1) (TNil))))))
theorem len__law_heard : ∀ ds μ Q, sp__law_heard ds μ Q → ds.length = 1 := L3.len_heard
theorem rd__law_heard : ∀ ds μ Q, sp__law_heard ds μ Q → t__law_heard { nx := fun _ μ' => RT Q .non μ', rt := RT Q } (ini 4 ds) μ := L3.rd_heard
abbrev sp__law_row : FSp := L3.sp_lrow
def t__law_row : STr := TRet (TComp (IRange1 (TCall L3.sp_draw (TCons (TVar 0) (TCons (TBin rPlus (TVar 1) (TC (.int 1))) (TNil))))) (GName 0) (TYes) (TCall L3.sp_heard (TCons (TVar 1) (TNil))) 1 [0])
theorem len__law_row : ∀ ds μ Q, sp__law_row ds μ Q → ds.length = 2 := L3.len_lrow
theorem rd__law_row : ∀ ds μ Q, sp__law_row ds μ Q → t__law_row { nx := fun _ μ' => RT Q .non μ', rt := RT Q } (ini 2 ds) μ := L3.rd_lrow
def sp__law_parts : FSp := fun ds μ Q => match ds with
  | [d, .int g] => ∃ W : Int, (Vl d W g ∧ Gd g ∧ Le W 1000000) ∧ Q (.int W) μ
  | _ => False
theorem len__law_parts : ∀ ds μ Q, sp__law_parts ds μ Q → ds.length = 2 := by
  intro ds μ Q h
  unfold sp__law_parts at h
  split at h
  · rfl
  · exact h.elim
def t__law_parts : STr := TSeq (TIfS (TOr (TNot (TB (TUn (rIsI "tuple") (TVar 0)))) (TB (TBin rNe (TCall bLen (TCons (TVar 0) (TNil))) (TC (.int 2))))) (TRet (TUn rNeg (TC (.int 1)))) (TNext)) (TSeq (TIfS (TOr (TNot (TB (TUn (rIsI "int") (TBin L3.rIx (TVar 0) (TC (.int 0)))))) (TNot (TB (TUn (rIsI "int") (TBin L3.rIx (TVar 0) (TC (.int 1))))))) (TRet (TUn rNeg (TC (.int 1)))) (TNext)) (TSeq (TIfS (TOr (TB (TBin rLt (TBin L3.rIx (TVar 0) (TC (.int 1))) (TC (.int 1)))) (TB (TBin rNe (TBin rMod (TVar 1) (TBin L3.rIx (TVar 0) (TC (.int 1)))) (TC (.int 0))))) (TRet (TUn rNeg (TC (.int 1)))) (TNext)) (TRet (TBin rMul (TBin L3.rIx (TVar 0) (TC (.int 0))) (TBin rDiv (TVar 1) (TBin L3.rIx (TVar 0) (TC (.int 1))))))))
theorem rd__law_parts : ∀ ds μ Q, sp__law_parts ds μ Q → t__law_parts { nx := fun _ μ' => RT Q .non μ', rt := RT Q } (ini 2 ds) μ := by
  intro ds μ Q h
  unfold sp__law_parts at h
  split at h
  case h_2 => exact h.elim
  rename_i d g
  walk_at "ini"
  unfold t__law_parts
  walk_at "go"
  obtain ⟨W, ⟨⟨⟨p, q, rfl, P⟩, g0⟩, ⟨g1, g2⟩, LW⟩, k⟩ := h
  have q0 := P.q0
  obtain ⟨e1, e2⟩ := part_div P g0
  have Bg : Bd g := .of (by omega) (by omega)
  have Bq := P.bq Bg
  have Bp := P.bp (LW.mono (by decide))
  walk_at "go"
  refine kif_f (by omega) ?_
  rw [e1]
  walk_at "go"
  rw [e2]
  have fb : Bd (g.fdiv q) := by rw [fdiv_pos q0]; exact Le.div Bg q0 (by decide)
  exact ⟨by omega, ⟨by omega, Bq.m⟩, Bd.mul Bp fb, _, .refl _, k⟩
theorem low_le {a b p : Int} (b0 : 0 < b) (h : a ≤ p) : a.fdiv (Int.gcd a b) * b ≤ p * b.fdiv (Int.gcd a b) := by
  obtain ⟨g, p', q', g0, ea, eb, ep, eq, q0, qb, gg⟩ := low_parts (a := a) b0
  rw [ep, eq]
  have h1 := Int.mul_le_mul_of_nonneg_right h (show 0 ≤ q' by omega)
  have e : p' * b = a * q' := by
    rw [ea, eb]; ac_rfl
  omega
def sp__law_less : FSp := fun ds μ Q => match ds with
  | [.obj b, .tup [.int p, .int q]] => ((Box μ b ∧ FrA 0 60 p q)) ∧ ∀ p' q' μ', FrA 0 60 p' q' → p' * q ≤ p * q' → BoxTo b μ μ' → Q (fr p' q') μ'
  | _ => False
theorem len__law_less : ∀ ds μ Q, sp__law_less ds μ Q → ds.length = 2 := by
  intro ds μ Q h
  unfold sp__law_less at h
  split at h
  · rfl
  · exact h.elim
def t__law_less : STr := TSeq (TAsg (TVar 1) (GTup [2, 3])) (TSeq (TIfS (TB (TBin rEq (TCall L3.sp_draw (TCons (TVar 0) (TCons (TC (.int 3)) (TNil)))) (TC (.int 0)))) (TRet (TVar 1)) (TNext)) (TSeq (TAsg (TBin rPlus (TC (.int 1)) (TCall L3.sp_draw (TCons (TVar 0) (TCons (TC (.int 7)) (TNil))))) (GName 4)) (TRet (TCall L3.sp_low2 (TCons (TCall bMax2 (TCons (TC (.int 1)) (TCons (TBin rDiv (TBin rMul (TVar 2) (TVar 4)) (TC (.int 8))) (TNil)))) (TCons (TVar 3) (TNil)))))))
theorem rd__law_less : ∀ ds μ Q, sp__law_less ds μ Q → t__law_less { nx := fun _ μ' => RT Q .non μ', rt := RT Q } (ini 5 ds) μ := by
  intro ds μ Q h
  unfold sp__law_less at h
  split at h
  case h_2 => exact h.elim
  rename_i b p q
  walk_at "ini"
  unfold t__law_less
  walk_at "go"
  obtain ⟨⟨hB, F⟩, k⟩ := h
  refine draw_intro hB (by decide) (by decide) fun k1 μ1 k10 k11 B1 => ?_
  walk_at "go"
  refine kif (fun _ => ⟨_, .refl _, k p q μ1 F (Int.le_refl _) B1⟩) (fun _ => ?_)
  refine draw_intro B1.box (by decide) (by decide) fun k2 μ2 k20 k21 B2 => ?_
  walk_at "go"
  have b := F.toFrB.bd (by decide) (by decide)
  have q0 := F.q0
  have q1 := F.q1
  have p0 := F.ab
  have p1 := F.le
  have x1 := Int.mul_le_mul_of_nonneg_left (show 1 + k2 ≤ 8 by omega) (show 0 ≤ p by omega)
  have x2 : (p * (1 + k2)).fdiv 8 ≤ p := by
    rw [fdiv_pos (by decide)]; exact Int.ediv_le_of_le_mul (by decide) x1
  have m1 : max 1 ((p * (1 + k2)).fdiv 8) ≤ p := Int.max_le.mpr ⟨by omega, x2⟩
  have m0 : 1 ≤ max 1 ((p * (1 + k2)).fdiv 8) := Int.le_max_left _ _
  exact ⟨.inl (.inr (by unfold S64; omega)), by walk_at "ok", ⟨q0, by unfold M256; omega⟩, _, .refl _, k _ _ _ (low_a q0 q1 (by omega) (by omega)) (low_le q0 m1) (B1.trans B2)⟩
def sp__law_between_one : FSp := fun ds μ Q => match ds with
  | [.obj b, .tup [.int p, .int q]] => ((Box μ b ∧ FrB 1 60 p q)) ∧ ∀ p' q' μ', FrB 1 60 p' q' → p' * q ≤ p * q' → BoxTo b μ μ' → Q (fr p' q') μ'
  | _ => False
theorem len__law_between_one : ∀ ds μ Q, sp__law_between_one ds μ Q → ds.length = 2 := by
  intro ds μ Q h
  unfold sp__law_between_one at h
  split at h
  · rfl
  · exact h.elim
def t__law_between_one : STr := TSeq (TAsg (TVar 1) (GTup [2, 3])) (TRet (TCall L3.sp_low2 (TCons (TBin rPlus (TVar 3) (TCall L3.sp_draw (TCons (TVar 0) (TCons (TBin rPlus (TBin rSub (TVar 2) (TVar 3)) (TC (.int 1))) (TNil))))) (TCons (TVar 3) (TNil)))))
theorem rd__law_between_one : ∀ ds μ Q, sp__law_between_one ds μ Q → t__law_between_one { nx := fun _ μ' => RT Q .non μ', rt := RT Q } (ini 4 ds) μ := by
  intro ds μ Q h
  unfold sp__law_between_one at h
  split at h
  case h_2 => exact h.elim
  rename_i b p q
  walk_at "ini"
  unfold t__law_between_one
  walk_at "go"
  obtain ⟨⟨hB, F⟩, k⟩ := h
  have q0 := F.q0
  have q1 := F.q1
  have p0 := F.ge
  have p1 := F.le
  refine draw_intro hB (by omega) (by omega) fun k1 μ1 k10 k11 B1 => ?_
  walk_at "go"
  refine ⟨⟨q0, by unfold M256; omega⟩, _, .refl _, k _ _ _ (low_b q0 q1 (by omega) (by omega)) (low_le q0 (by omega)) B1⟩
theorem fr_tr {a b c d e f : Int} (b0 : 0 < b) (d0 : 0 < d) (f0 : 0 < f) (h1 : a * d ≤ c * b) (h2 : c * f ≤ e * d) : a * f ≤ e * b := by
  refine Int.le_of_mul_le_mul_right (a := d) ?_ d0
  have x1 := Int.mul_le_mul_of_nonneg_right h1 (show 0 ≤ f by omega)
  have x2 := Int.mul_le_mul_of_nonneg_right h2 (show 0 ≤ b by omega)
  calc a * f * d = a * d * f := by ac_rfl
    _ ≤ c * b * f := x1
    _ = c * f * b := by ac_rfl
    _ ≤ e * d * b := x2
    _ = e * b * d := by ac_rfl
theorem gA {a b : Int} (h : FrA 0 1 a b) : FrA 0 60 a b := ⟨⟨h.q0, h.q1, h.g, h.ge, by have := h.le; have := h.q0; omega⟩, h.ab⟩
theorem gl1 {a b c d : Int} (h : FrA 0 60 c d) (g : FrA 0 1 a b) (ab : a < b) (e : c * b ≤ a * d) : c < d := by
  have x := Int.mul_lt_mul_of_pos_right ab h.q0
  refine Int.lt_of_mul_lt_mul_right (a := b) ?_ (Int.le_of_lt g.q0)
  rw [Int.mul_comm d b]; omega
theorem gL {a b c d : Int} (h : FrA 0 60 c d) (g : FrA 0 1 a b) (ab : a < b) (e : c * b ≤ a * d) : FrA 0 1 c d := ⟨⟨h.q0, h.q1, h.g, h.ge, by have := gl1 h g ab e; omega⟩, h.ab⟩
def sp__law_gentle : FSp := fun ds μ Q => match ds with
  | [.obj b, d] => ∃ R : RN, ((Box μ b ∧ d = R.toD ∧ R.Ok)) ∧ ∀ (A : RN) μ', A.Ok → Gnt A R → BoxTo b μ μ' → Q A.toD μ'
  | _ => False
theorem len__law_gentle : ∀ ds μ Q, sp__law_gentle ds μ Q → ds.length = 2 := by
  intro ds μ Q h
  unfold sp__law_gentle at h
  split at h
  · rfl
  · exact h.elim
def t__law_gentle : STr := TSeq (TAsg (TBin L3.rIx (TVar 1) (TC (.int 0))) (GName 2)) (TSeq (TIfS (TB (TBin rEq (TCall L3.sp_draw (TCons (TVar 0) (TCons (TC (.int 8)) (TNil)))) (TC (.int 0)))) (TRet (TVar 1)) (TNext)) (TSeq (TAsg (TCall sp__law_between_one (TCons (TVar 0) (TCons (TBin L3.rIx (TVar 1) (TUn rNeg (TC (.int 1)))) (TNil)))) (GName 3)) (TSeq (TAsg (TCall sp__law_between_one (TCons (TVar 0) (TCons (TBin L3.rIx (TVar 1) (TC (.int 1))) (TNil)))) (GName 4)) (TSeq (TIfS (TB (TBin rGt (TBin rMul (TBin L3.rIx (TVar 4) (TC (.int 0))) (TBin L3.rIx (TVar 3) (TC (.int 1)))) (TBin rMul (TBin L3.rIx (TVar 3) (TC (.int 0))) (TBin L3.rIx (TVar 4) (TC (.int 1)))))) (TAsg (TVar 3) (GName 4)) (TNext)) (TSeq (TIfS (TB (TBin rEq (TVar 2) (TC (.str (Str.ofString "still"))))) (TRet (TTup (TCons (TVar 2) (TCons (TVar 4) (TNil))))) (TNext)) (TSeq (TIfS (TB (TBin rEq (TVar 2) (TC (.str (Str.ofString "calm"))))) (TRet (TTup (TCons (TVar 2) (TCons (TVar 4) (TCons (TBin L3.rIx (TVar 1) (TC (.int 2))) (TCons (TBin L3.rIx (TVar 1) (TC (.int 3))) (TCons (TBin L3.rIx (TVar 1) (TC (.int 4))) (TCons (TVar 3) (TNil))))))))) (TNext)) (TSeq (TIfS (TB (TBin rEq (TVar 2) (TC (.str (Str.ofString "heed"))))) (TRet (TTup (TCons (TVar 2) (TCons (TVar 4) (TCons (TCall sp__law_less (TCons (TVar 0) (TCons (TBin L3.rIx (TVar 1) (TC (.int 2))) (TNil)))) (TCons (TBin L3.rIx (TVar 1) (TC (.int 3))) (TCons (TVar 3) (TNil)))))))) (TNext)) (TSeq (TAsg (TCall sp__law_less (TCons (TVar 0) (TCons (TBin L3.rIx (TVar 1) (TC (.int 2))) (TNil)))) (GName 5)) (TSeq (TIfS (TAnd (TB (TBin rEq (TVar 2) (TC (.str (Str.ofString "swell"))))) (TB (TBin rLe (TBin L3.rIx (TVar 5) (TC (.int 0))) (TBin L3.rIx (TVar 5) (TC (.int 1)))))) (TAsg (TBin L3.rIx (TVar 1) (TC (.int 2))) (GName 5)) (TNext)) (TRet (TTup (TCons (TVar 2) (TCons (TVar 4) (TCons (TVar 5) (TCons (TCall sp__law_less (TCons (TVar 0) (TCons (TBin L3.rIx (TVar 1) (TC (.int 3))) (TNil)))) (TCons (TVar 3) (TNil)))))))))))))))))
theorem rd__law_gentle : ∀ ds μ Q, sp__law_gentle ds μ Q → t__law_gentle { nx := fun _ μ' => RT Q .non μ', rt := RT Q } (ini 6 ds) μ := by
  intro ds μ Q h
  unfold sp__law_gentle at h
  split at h
  case h_2 => exact h.elim
  rename_i b d
  walk_at "ini"
  unfold t__law_gentle
  walk_at "go"
  obtain ⟨R, ⟨hB, rfl, K⟩, k⟩ := h
  rename Addr => bx
  obtain ⟨wd, p, q, x, y, a, b, l, hh, r, s⟩ := R
  cases wd
  all_goals
    simp only [RN.toD, fr]
    walk_at "go"
    refine draw_intro hB (by decide) (by decide) fun k1 μ1 k10 k11 B1 => ?_
    walk_at "go"
    refine kif (fun _ => ⟨_, .refl _, k _ μ1 K (.refl _) B1⟩) (fun _ => ?_)
    try obtain ⟨rfl, rfl⟩ : r = p ∧ s = q := K.st rfl
    refine ⟨⟨B1.box, K.t⟩, fun r' s' μ2 FT et B2 => ?_⟩
    walk_at "go"
    refine ⟨⟨B2.box, K.w⟩, fun p' q' μ3 FW ew B3 => ?_⟩
    simp only [fr]
    walk_at "go"
    have bT := FT.bd (by decide) (by decide)
    have bW := FW.bd (by decide) (by decide)
    have s0 := FT.q0
    have q0 := FW.q0
    refine ⟨Bd.mul (bW.1.mono (by decide)) (bT.2.mono (by decide)), Bd.mul (bT.1.mono (by decide)) (bW.2.mono (by decide)), ?_⟩
    have B := B1.trans (B2.trans B3)
  case still =>
    refine kif (fun c => ?_) (fun c => ?_)
    · exact ⟨_, .refl _, k ⟨.still, r', s', x, y, a, b, l, hh, r', s'⟩ _ ⟨FT, FT, Int.le_refl _, K.u, nofun, K.g, (fun z => by rcases z with z | z <;> cases z), K.l0, K.lh, K.h1, fun _ => ⟨rfl, rfl⟩⟩ ⟨rfl, et, et, Int.le_refl _, Int.le_refl _, nofun, nofun⟩ B⟩
    · exact ⟨_, .refl _, k ⟨.still, p', q', x, y, a, b, l, hh, p', q'⟩ _ ⟨FW, FW, Int.le_refl _, K.u, nofun, K.g, (fun z => by rcases z with z | z <;> cases z), K.l0, K.lh, K.h1, fun _ => ⟨rfl, rfl⟩⟩ ⟨rfl, ew, ew, Int.le_refl _, Int.le_refl _, nofun, nofun⟩ B⟩
  case calm =>
    have key : ∀ P Q', FrB 1 60 P Q' → P * q ≤ p * Q' → P * s' ≤ r' * Q' → RT Q (.tup [.str (Str.ofString "calm"), .tup [.int P, .int Q'], .tup [.int x, .int y], .int l, .int hh, .tup [.int r', .int s']]) μ3 := fun P Q' F e1 e2 =>
      ⟨_, .refl _, k ⟨.calm, P, Q', x, y, a, b, l, hh, r', s'⟩ _ ⟨F, FT, e2, K.u, nofun, K.g, (fun z => by rcases z with z | z <;> cases z), K.l0, K.lh, K.h1, nofun⟩ ⟨rfl, e1, et, Int.le_refl _, Int.le_refl _, nofun, fun _ => ⟨⟨rfl, rfl⟩, rfl, rfl⟩⟩ B⟩
    exact kif (fun c => key r' s' FT (fr_tr s0 q0 K.w.q0 (Int.le_of_lt c) ew) (Int.le_refl _)) (fun c => key p' q' FW ew (by omega))
  case heed =>
    have key : ∀ P Q', FrB 1 60 P Q' → P * q ≤ p * Q' → P * s' ≤ r' * Q' → CALL sp__law_less [.obj bx, .tup [.int x, .int y]] μ3 fun d μ1 => RT Q (.tup [.str (Str.ofString "heed"), .tup [.int P, .int Q'], d, .tup [.int a, .int b], .tup [.int r', .int s']]) μ1 := fun P Q' F e1 e2 =>
      ⟨⟨B.box, K.u⟩, fun x' y' μ4 FU eu B4 => ⟨_, .refl _, k ⟨.heed, P, Q', x', y', a, b, l, hh, r', s'⟩ _ ⟨F, FT, e2, FU, nofun, K.g, (fun z => by rcases z with z | z <;> cases z), K.l0, K.lh, K.h1, nofun⟩ ⟨rfl, e1, et, eu, Int.le_refl _, fun _ => ⟨rfl, rfl⟩, nofun⟩ (B.trans B4)⟩⟩
    exact kif (fun c => key r' s' FT (fr_tr s0 q0 K.w.q0 (Int.le_of_lt c) ew) (Int.le_refl _)) (fun c => key p' q' FW ew (by omega))
  case step =>
    have key : ∀ P Q', FrB 1 60 P Q' → P * q ≤ p * Q' → P * s' ≤ r' * Q' → CALL sp__law_less [.obj bx, .tup [.int x, .int y]] μ3 fun d μ1 => CALL sp__law_less [.obj bx, .tup [.int a, .int b]] μ1 fun e μ1 => RT Q (.tup [.str (Str.ofString "step"), .tup [.int P, .int Q'], d, e, .tup [.int r', .int s']]) μ1 := fun P Q' F e1 e2 =>
      ⟨⟨B.box, K.u⟩, fun x' y' μ4 FU eu B4 => ⟨⟨B4.box, gA K.g⟩, fun a' b' μ5 FG eg B5 => ⟨_, .refl _, k ⟨.step, P, Q', x', y', a', b', l, hh, r', s'⟩ _ ⟨F, FT, e2, FU, nofun, gL FG K.g (K.d1 (.inl rfl)) eg, (fun _ => gl1 FG K.g (K.d1 (.inl rfl)) eg), K.l0, K.lh, K.h1, nofun⟩ ⟨rfl, e1, et, eu, eg, nofun, nofun⟩ (B.trans (B4.trans B5))⟩⟩⟩
    exact kif (fun c => key r' s' FT (fr_tr s0 q0 K.w.q0 (Int.le_of_lt c) ew) (Int.le_refl _)) (fun c => key p' q' FW ew (by omega))
  case swell =>
    have key : ∀ P Q', FrB 1 60 P Q' → P * q ≤ p * Q' → P * s' ≤ r' * Q' → ∀ X Y μ4, FrA 0 60 X Y → Y < X → X * y ≤ x * Y → BoxTo bx μ3 μ4 → CALL sp__law_less [.obj bx, .tup [.int a, .int b]] μ4 fun e μ1 => RT Q (.tup [.str (Str.ofString "swell"), .tup [.int P, .int Q'], .tup [.int X, .int Y], e, .tup [.int r', .int s']]) μ1 := fun P Q' F e1 e2 X Y μ4 FU lt eu B4 =>
      ⟨⟨B4.box, gA K.g⟩, fun a' b' μ5 FG eg B5 => ⟨_, .refl _, k ⟨.swell, P, Q', X, Y, a', b', l, hh, r', s'⟩ _ ⟨F, FT, e2, FU, (fun _ => lt), gL FG K.g (K.d1 (.inr rfl)) eg, (fun _ => gl1 FG K.g (K.d1 (.inr rfl)) eg), K.l0, K.lh, K.h1, nofun⟩ ⟨rfl, e1, et, eu, eg, nofun, nofun⟩ (B.trans (B4.trans B5))⟩⟩
    refine kif (fun c => ?_) (fun c => ?_)
    · refine ⟨⟨B.box, K.u⟩, fun x' y' μ4 FU eu B4 => ?_⟩
      simp only [fr]
      walk_at "go"
      exact kif (fun _ => key r' s' FT (fr_tr s0 q0 K.w.q0 (Int.le_of_lt c) ew) (Int.le_refl _) x y μ4 K.u (K.u1 rfl) (Int.le_refl _) B4) (fun c' => key r' s' FT (fr_tr s0 q0 K.w.q0 (Int.le_of_lt c) ew) (Int.le_refl _) x' y' μ4 FU (by omega) eu B4)
    · refine ⟨⟨B.box, K.u⟩, fun x' y' μ4 FU eu B4 => ?_⟩
      simp only [fr]
      walk_at "go"
      exact kif (fun _ => key p' q' FW ew (by omega) x y μ4 K.u (K.u1 rfl) (Int.le_refl _) B4) (fun c' => key p' q' FW ew (by omega) x' y' μ4 FU (by omega) eu B4)
theorem fl_in {p q g : Int} (h : FrB 1 60 p q) (g0 : 0 < g) : g ≤ p * g / q ∧ p * g / q ≤ 60 * g := by
  constructor
  · rw [Int.le_ediv_iff_mul_le h.q0]
    have := Int.mul_le_mul_of_nonneg_right h.ge (show 0 ≤ g by omega)
    have e : g * q = 1 * q * g := by rw [Int.one_mul, Int.mul_comm]
    omega
  · refine Int.ediv_le_of_le_mul h.q0 ?_
    have := Int.mul_le_mul_of_nonneg_right h.le (show 0 ≤ g by omega)
    have e : 60 * g * q = 60 * q * g := by ac_rfl
    omega
def sp__law_right : FSp := fun ds μ Q => match ds with
  | [.int g, .tup [a, r], .tup [.tup [x, z], .tup [y, z']], .ls row] => ∃ (A R : RN) (W V S : Int) (hs : List Hd), ((a = A.toD ∧ r = R.toD ∧ row = rowD hs) ∧ (A.Ok ∧ R.Ok ∧ Gnt A R) ∧ (∀ h ∈ hs, h.Ok) ∧ Gd g ∧ (Vl x W g ∧ Vl y V g ∧ Vl z S g ∧ Vl z' S g) ∧ (0 ≤ S ∧ S ≤ g) ∧ (g ≤ W ∧ W ≤ V ∧ V ≤ 1000000) ∧ hs.length ≤ 100) ∧ Q (.bl true) μ
  | _ => False
theorem len__law_right : ∀ ds μ Q, sp__law_right ds μ Q → ds.length = 4 := by
  intro ds μ Q h
  unfold sp__law_right at h
  split at h
  · rfl
  · exact h.elim
def t__law_right : STr := TSeq (TAsg (TVar 2) (GTup [4, 5])) (TSeq (TFor (ISeq (TBin rPlus (TLsV (TCons (TTup (TCons (TC (.int 0)) (TCons (TC (.int 0)) (TCons (TC (.int 0)) (TCons (TC (.int 0)) (TNil)))))) (TNil))) (TVar 3))) (GName 6) (TSeq (TAsg (TCall L3.sp_heard_by (TCons (TBin L3.rIx (TVar 1) (TC (.int 0))) (TCons (TVar 0) (TCons (TBin L3.rIx (TVar 4) (TC (.int 0))) (TCons (TBin L3.rIx (TVar 4) (TC (.int 1))) (TCons (TVar 6) (TNil))))))) (GName 4)) (TSeq (TAsg (TCall L3.sp_heard_by (TCons (TBin L3.rIx (TVar 1) (TC (.int 1))) (TCons (TVar 0) (TCons (TBin L3.rIx (TVar 5) (TC (.int 0))) (TCons (TBin L3.rIx (TVar 5) (TC (.int 1))) (TCons (TVar 6) (TNil))))))) (GName 5)) (TSeq (TPar 7 8 (TCons (TCall sp__law_parts (TCons (TBin L3.rIx (TVar 4) (TC (.int 0))) (TCons (TVar 0) (TNil)))) (TCons (TCall sp__law_parts (TCons (TBin L3.rIx (TVar 5) (TC (.int 0))) (TCons (TVar 0) (TNil)))) (TNil)))) (TIfS (TOr (TB (TBin rLt (TVar 7) (TVar 0))) (TOr (TB (TBin rGt (TVar 7) (TVar 8))) (TB (TBin rNe (TBin L3.rIx (TVar 4) (TC (.int 1))) (TBin L3.rIx (TVar 5) (TC (.int 1))))))) (TRet (TC (.bl false))) (TNext)))))) (TRet (TC (.bl true))))
theorem rd__law_right : ∀ ds μ Q, sp__law_right ds μ Q → t__law_right { nx := fun _ μ' => RT Q .non μ', rt := RT Q } (ini 9 ds) μ := by
  intro ds μ Q h
  unfold sp__law_right at h
  split at h
  case h_2 => exact h.elim
  rename_i g a r x z y zz row
  walk_at "ini"
  unfold t__law_right
  walk_at "go"
  obtain ⟨A, R, W, V, S, hs, ⟨⟨rfl, rfl, rfl⟩, ⟨KA, KR, n⟩, Hs, G, ⟨VX, VY, VZ, VZ'⟩, ⟨S0, S1⟩, ⟨W0, W1, V1⟩, hl⟩, k⟩ := h
  obtain ⟨g0, g1⟩ := id G
  have gp : 0 < g := by omega
  obtain rfl := VZ.uniq VZ'
  refine ⟨by simp [rowD]; omega, ?_⟩
  refine forR_ind (fun r ρ μ' => ∃ (hs' : List Hd) (W V S : Int) (a b z2 : D) (v6 v7 v8 : Option D), r = rowD hs' ∧ (∀ h ∈ hs', h.Ok) ∧ ρ = [some (.int g), some (.tup [A.toD, R.toD]), some (.tup [.tup [x, z], .tup [y, z]]), some (.ls (rowD hs)), some (.tup [a, z2]), some (.tup [b, z2]), v6, v7, v8] ∧ Vl a W g ∧ Vl b V g ∧ Vl z2 S g ∧ (g ≤ W ∧ W ≤ V ∧ V ≤ 1000000) ∧ (0 ≤ S ∧ S ≤ g) ∧ μ' = μ) ?_ ?_ _ _ _ ⟨⟨0, 0, 0, 0⟩ :: hs, W, V, S, _, _, _, _, _, _, rfl, ?_, rfl, VX, VY, VZ, ⟨W0, W1, V1⟩, ⟨S0, S1⟩, rfl⟩
  · rintro ρ μ' ⟨hs', W, V, S, a, b, z2, v6, v7, v8, _, _, rfl, _, _, _, _, _, rfl⟩
    walk_at "go"
    exact ⟨_, .refl _, k⟩
  · rintro d r ρ μ' N ⟨hs', W, V, S, a, b, z2, v6, v7, v8, er, Hs', rfl, VA, VB, Vz, ⟨W0, W1, V1⟩, ⟨S0, S1⟩, rfl⟩ hN
    cases hs' with
    | nil => cases er
    | cons h hs' =>
    cases er
    have Hh : h.Ok := Hs' h List.mem_cons_self
    have Hr : ∀ x ∈ hs', x.Ok := fun x hx => Hs' x (List.mem_cons_of_mem _ hx)
    have nb := n.beh KA KR Hh G W0 W1 S0 S1
    have bA := beh_ok KA Hh G (W := W) (S := S) (.of (by omega) (by omega)) S0 S1
    have bB := beh_ok KR Hh G (W := V) (S := S) (.of (by omega) (by omega)) S0 S1
    walk_at "go"
    refine ⟨A, W, S, h, ⟨⟨rfl, rfl⟩, KA, Hh, G, ⟨VA, .of (by omega) (by omega)⟩, Vz, ⟨S0, S1⟩⟩, fun a' z' Va' Vz' => ?_⟩
    walk_at "go"
    refine ⟨R, V, S, h, ⟨⟨rfl, rfl⟩, KR, Hh, G, ⟨VB, .of (by omega) (by omega)⟩, Vz, ⟨S0, S1⟩⟩, fun b' y' Vb' Vy' => ?_⟩
    rw [nb.2] at Vz'
    cases Vy'.uniq Vz'
    walk_at "go"
    refine ⟨_, ⟨Va', G, bA.1⟩, ?_⟩
    walk_at "go"
    refine ⟨_, ⟨Vb', G, bB.1⟩, ?_⟩
    walk_at "go"
    refine kif_f (by have := nb.1.1; omega) (kif_f (by have := nb.1.2; omega) ?_)
    obtain ⟨⟨p, q, rfl, _⟩, _⟩ := id Vz'
    walk_at "go"
    exact hN _ _ ⟨hs', _, _, _, _, _, _, _, _, _, rfl, Hr, rfl, Va', Vb', Vz', ⟨nb.1.1, nb.1.2, by have := bB.1.2; omega⟩, bB.2, rfl⟩
  · intro h hh
    rcases List.mem_cons.mp hh with e | e
    · subst e; exact ⟨by decide, by decide, by decide, by decide, by decide, by decide, by decide⟩
    · exact Hs h e
abbrev sp_law : FSp := L3.sp_law
theorem len_law : ∀ ds μ Q, sp_law ds μ Q → ds.length = 1 := L3.len_law
def t_law : STr := TSeq (TAsg (TLsV (TCons (TC (.str (Str.ofString "still"))) (TCons (TC (.str (Str.ofString "step"))) (TCons (TC (.str (Str.ofString "swell"))) (TCons (TC (.str (Str.ofString "heed"))) (TCons (TC (.str (Str.ofString "calm"))) (TCons (TC (.str (Str.ofString "step"))) (TCons (TC (.str (Str.ofString "heed"))) (TNil))))))))) (GName 1)) (TSeq (TFor (IRange1 (TCall bMax2 (TCons (TC (.int 1)) (TCons (TCall bMin2 (TCons (TC (.int 30)) (TCons (TCall bLen (TCons (TVar 0) (TNil))) (TNil)))) (TNil))))) (GName 2) (TSeq (TAsg (TCall L3.sp_pot (TCons (TVar 0) (TCons (TVar 2) (TNil)))) (GName 3)) (TSeq (TAsg (TCall L3.sp_any_rule (TCons (TVar 3) (TCons (TBin L3.rIx (TVar 1) (TCall L3.sp_draw (TCons (TVar 3) (TCons (TC (.int 7)) (TNil))))) (TNil)))) (GName 4)) (TSeq (TAsg (TCall sp__law_gentle (TCons (TVar 3) (TCons (TVar 4) (TNil)))) (GName 5)) (TSeq (TAsg (TCall L3.sp_grid (TCons (TVar 3) (TNil))) (GName 6)) (TSeq (TIfS (TOr (TB (TBin (rIsB true) (TCall sp_gentler (TCons (TVar 5) (TCons (TVar 4) (TNil)))) (TC (.bl true)))) (TB (TBin (rIsB true) (TCall sp_gentler (TCons (TVar 4) (TCons (TVar 4) (TNil)))) (TC (.bl true))))) (TRet (TC (.bl false))) (TNext)) (TSeq (TAsg (TCall L3.sp_lrow (TCons (TVar 3) (TCons (TC (.int 9)) (TNil)))) (GName 7)) (TSeq (TAsg (TTup (TCons (TCall sp_begun_by (TCons (TVar 5) (TCons (TVar 6) (TNil)))) (TCons (TCall sp_begun_by (TCons (TVar 4) (TCons (TVar 6) (TNil)))) (TNil)))) (GName 8)) (TSeq (TIfS (TNot (TB (TCall sp__law_right (TCons (TVar 6) (TCons (TTup (TCons (TVar 5) (TCons (TVar 4) (TNil)))) (TCons (TVar 8) (TCons (TVar 7) (TNil)))))))) (TRet (TC (.bl false))) (TNext)) (TSeq (TAsg (TBin rSub (TBin rDiv (TBin rMul (TBin L3.rIx (TBin L3.rIx (TVar 5) (TUn rNeg (TC (.int 1)))) (TC (.int 0))) (TVar 6)) (TBin L3.rIx (TBin L3.rIx (TVar 5) (TUn rNeg (TC (.int 1)))) (TC (.int 1)))) (TVar 6)) (GName 9)) (TSeq (TAsg (TTup (TCons (TCall L3.sp_low2 (TCons (TBin rPlus (TVar 6) (TCall L3.sp_draw (TCons (TVar 3) (TCons (TBin rPlus (TVar 9) (TC (.int 1))) (TNil))))) (TCons (TVar 6) (TNil)))) (TCons (TTup (TCons (TC (.int 0)) (TCons (TC (.int 1)) (TNil)))) (TNil)))) (GName 10)) (TSeq (TAsg (TTup (TCons (TCall L3.sp_low2 (TCons (TBin rDiv (TBin rMul (TBin L3.rIx (TBin L3.rIx (TVar 4) (TUn rNeg (TC (.int 1)))) (TC (.int 0))) (TVar 6)) (TBin L3.rIx (TBin L3.rIx (TVar 4) (TUn rNeg (TC (.int 1)))) (TC (.int 1)))) (TCons (TVar 6) (TNil)))) (TCons (TTup (TCons (TC (.int 0)) (TCons (TC (.int 1)) (TNil)))) (TNil)))) (GName 11)) (TSeq (TAsg (TTup (TCons (TVar 10) (TCons (TVar 11) (TNil)))) (GName 8)) (TIfS (TAnd (TB (TBin rNe (TBin L3.rIx (TVar 4) (TC (.int 0))) (TC (.str (Str.ofString "still"))))) (TNot (TB (TCall sp__law_right (TCons (TVar 6) (TCons (TTup (TCons (TVar 5) (TCons (TVar 4) (TNil)))) (TCons (TVar 8) (TCons (TVar 7) (TNil))))))))) (TRet (TC (.bl false))) (TNext))))))))))))))) (TRet (TC (.bl true))))
theorem rd_law : ∀ ds μ Q, sp_law ds μ Q → t_law { nx := fun _ μ' => RT Q .non μ', rt := RT Q } (ini 12 ds) μ := by
  intro ds μ Q h
  unfold sp_law L3.sp_law at h
  split at h
  case h_2 => exact h.elim
  obtain ⟨⟨ns, rfl, hn⟩, k⟩ := h
  walk_at "ini"
  unfold t_law
  walk_at "go"
  rw [List.length_map]
  refine ⟨⟨by omega, by omega⟩, ?_⟩
  refine forR_ind (fun r ρ μ => (∀ d ∈ r, ∃ j : Int, d = .int j ∧ 0 ≤ j ∧ j ≤ 1000) ∧ ∃ v0 v1 v2 v3 v4 v5 v6 v7 v8 v9, ρ = [some (.ls (ns.map .int)), some (.ls [.str (Str.ofString "still"), .str (Str.ofString "step"), .str (Str.ofString "swell"), .str (Str.ofString "heed"), .str (Str.ofString "calm"), .str (Str.ofString "step"), .str (Str.ofString "heed")]), v0, v1, v2, v3, v4, v5, v6, v7, v8, v9]) ?_ ?_ _ _ _ ⟨fun d hd => ?_, _, _, _, _, _, _, _, _, _, _, rfl⟩
  · exact fun ρ μ _ => ⟨μ, .refl _, k μ⟩
  · rintro d r ρ μ N ⟨hd, v0, v1, v2, v3, v4, v5, v6, v7, v8, v9, rfl⟩ hN
    obtain ⟨j, rfl, j0, j1⟩ := hd d List.mem_cons_self
    have hr : ∀ d ∈ r, ∃ j : Int, d = .int j ∧ 0 ≤ j ∧ j ≤ 1000 := fun d h => hd d (List.mem_cons_of_mem _ h)
    walk_at "go"
    refine ⟨⟨ns, rfl, j0, j1⟩, fun b μ1 hp hB ho => ?_⟩
    walk_at "go"
    refine draw_intro hB (by decide) (by decide) fun k1 μ2 k10 k11 B2 => ?_
    have al : ∀ d ∈ ([.str (Str.ofString "still"), .str (Str.ofString "step"), .str (Str.ofString "swell"), .str (Str.ofString "heed"), .str (Str.ofString "calm"), .str (Str.ofString "step"), .str (Str.ofString "heed")] : List D), ∃ w : Str, d = .str w ∧ w ∈ words5 := fc_cons ⟨_, rfl, by simp [words5]⟩ (fc_cons ⟨_, rfl, by simp [words5]⟩ (fc_cons ⟨_, rfl, by simp [words5]⟩ (fc_cons ⟨_, rfl, by simp [words5]⟩ (fc_cons ⟨_, rfl, by simp [words5]⟩ (fc_cons ⟨_, rfl, by simp [words5]⟩ (fc_cons ⟨_, rfl, by simp [words5]⟩ (fc_nil)))))))
    obtain ⟨_, ew, w, rfl, hw⟩ := at_all al k10 k11
    walk_at "go"
    rw [ew]
    walk_at "go"
    refine ⟨⟨B2.box, hw⟩, fun R μ3 K _ B3 => ?_⟩
    walk_at "go"
    refine ⟨R, ⟨B3.box, rfl, K⟩, fun A μ4 KA n B4 => ?_⟩
    walk_at "go"
    refine ⟨B4.box, fun g μ5 G B5 => ?_⟩
    walk_at "go"
    refine ⟨A, R, ⟨⟨rfl, rfl⟩, KA, K, n⟩, ?_⟩
    walk_at "go"
    refine ⟨R, R, ⟨⟨rfl, rfl⟩, K, K, .refl _⟩, ?_⟩
    walk_at "go"
    refine ⟨⟨B5.box, by decide, by decide⟩, fun hs μ6 Hs hl B6 => ?_⟩
    walk_at "go"
    refine ⟨A, ⟨rfl, KA, G⟩, fun w Vw => ?_⟩
    walk_at "go"
    refine ⟨R, ⟨rfl, K, G⟩, fun w2 Vw2 => ?_⟩
    walk_at "go"
    obtain ⟨g0, g1⟩ := id G
    have gp : 0 < g := by omega
    have gm : M256 g := by unfold M256; omega
    have z0 : Vl (fr 0 1) 0 g := ⟨⟨0, 1, rfl, by decide, by decide, by omega, by decide, by omega⟩, gp⟩
    have fA := fl_in KA.w gp
    have fR := fl_in K.w gp
    have cA := cap_le KA gp
    have cA0 := cap_ge KA gp
    have cR := cap_le K gp
    have cR0 := cap_ge K gp
    have cc := n.cap KA K gp
    have TA := KA.t.bd (by decide) (by decide)
    have TR := K.t.bd (by decide) (by decide)
    have sA := KA.t.q0
    have sR := K.t.q0
    refine ⟨A, R, _, _, 0, hs, ⟨⟨rfl, rfl, rfl⟩, ⟨KA, K, n⟩, Hs, G, ⟨Vw, Vw2, z0, z0⟩, ⟨Int.le_refl _, by omega⟩, ⟨fA.1, n.beg KA K gp, by omega⟩, by omega⟩, ?_⟩
    walk_at "go"
    obtain ⟨xs, e, e0, e1, e3, e4⟩ := A.tup KA.st
    obtain ⟨ys, e', e0', e1', e3', e4'⟩ := R.tup K.st
    rw [e, e']
    walk_at "go"
    rw [atm1 e3 e4]
    walk_at "go"
    refine ⟨Bd.mul (TA.1.mono (by decide)) (.of (by omega) (by omega)), ?_⟩
    walk_at "go"
    rw [atm1 e3 e4]
    walk_at "go"
    rw [fdiv_pos sA, show A.r * g / A.s = A.cap g from rfl]
    refine ⟨⟨by omega, Bd.m (TA.2.mono (by decide))⟩, ?_⟩
    refine draw_intro B6.box (by omega) (by omega) fun t μ7 t0 t1 B7 => ?_
    walk_at "go"
    refine ⟨⟨gp, gm⟩, ?_⟩
    walk_at "go"
    rw [atm1 e3' e4']
    walk_at "go"
    refine ⟨Bd.mul (TR.1.mono (by decide)) (.of (by omega) (by omega)), ?_⟩
    walk_at "go"
    rw [atm1 e3' e4']
    walk_at "go"
    rw [fdiv_pos sR, show R.r * g / R.s = R.cap g from rfl]
    refine ⟨⟨by omega, Bd.m (TR.2.mono (by decide))⟩, ⟨gp, gm⟩, ?_⟩
    walk_at "go"
    rw [at0 e0']
    walk_at "go"
    simp only [wd_sok, wd_still, true_and]
    refine kifn (fun c => ?_) (fun c => ?_)
    · refine ⟨A, R, g + t, R.cap g, 0, hs, ⟨⟨e.symm, e'.symm, rfl⟩, ⟨KA, K, n⟩, Hs, G, ⟨vl_low _ gp, vl_low _ gp, z0, z0⟩, ⟨Int.le_refl _, by omega⟩, ⟨by omega, by omega, by omega⟩, by omega⟩, ?_⟩
      walk_at "go"
      exact hN _ _ ⟨hr, _, _, _, _, _, _, _, _, _, _, rfl⟩
    exact hN _ _ ⟨hr, _, _, _, _, _, _, _, _, _, _, rfl⟩
  · obtain ⟨j, rfl, j0, j1⟩ := mem_rangeD hd
    refine ⟨j, rfl, j0, ?_⟩
    omega
theorem law_holds (ns : List Int) (h : ns.length ≤ 63) (μ : Mu) : sp_law [.ls (ns.map .int)] μ (fun d _ => d = .bl true) := L3.law_holds ns h μ
end Kk
set_option Elab.async false
set_option linter.all false
set_option maxRecDepth 100000
set_option maxHeartbeats 4000000
namespace Kk
open PySem L2 L3
theorem len_1 {α : Type} {us : List α} (h : us.length = 1) : ∃ x0, us = [x0] := match us, h with | [x0], _ => ⟨x0, rfl⟩
theorem len_2 {α : Type} {us : List α} (h : us.length = 2) : ∃ x0 x1, us = [x0, x1] := match us, h with | [x0, x1], _ => ⟨x0, x1, rfl⟩
theorem len_3 {α : Type} {us : List α} (h : us.length = 3) : ∃ x0 x1 x2, us = [x0, x1, x2] := match us, h with | [x0, x1, x2], _ => ⟨x0, x1, x2, rfl⟩
theorem len_4 {α : Type} {us : List α} (h : us.length = 4) : ∃ x0 x1 x2 x3, us = [x0, x1, x2, x3] := match us, h with | [x0, x1, x2, x3], _ => ⟨x0, x1, x2, x3, rfl⟩
theorem len_5 {α : Type} {us : List α} (h : us.length = 5) : ∃ x0 x1 x2 x3 x4, us = [x0, x1, x2, x3, x4] := match us, h with | [x0, x1, x2, x3, x4], _ => ⟨x0, x1, x2, x3, x4, rfl⟩
def top (i : Nat) : Stmt := PySem.Challenge.pw_swellways_k16_whole_gentler_never_greate.main.body.getD i (.Pass ⟨0, 0, 0, 0⟩)
abbrev s_common_of : Stmt := top 1
abbrev s_part : Stmt := top 2
abbrev s_plus : Stmt := top 3
abbrev s_minus : Stmt := top 4
abbrev s_times : Stmt := top 5
abbrev s_less : Stmt := top 6
abbrev s_cut_by : Stmt := top 7
abbrev s_top_of : Stmt := top 12
abbrev s_begun_by : Stmt := top 13
abbrev s_is_idle : Stmt := top 14
abbrev s_share_behind : Stmt := top 15
abbrev s_factor_of : Stmt := top 16
abbrev s_moved : Stmt := top 17
abbrev s_held : Stmt := top 18
abbrev s_heard_by : Stmt := top 19
abbrev s_gentler : Stmt := top 22
abbrev s__law_pot : Stmt := top 24
abbrev s__law_take : Stmt := top 25
abbrev s__law_low : Stmt := top 26
abbrev s__law_bottom : Stmt := top 27
abbrev s__law_between : Stmt := top 28
abbrev s__law_above : Stmt := top 29
abbrev s__law_less_than_one : Stmt := top 30
abbrev s__law_rule : Stmt := top 31
abbrev s__law_plain : Stmt := top 32
abbrev s__law_any_rule : Stmt := top 33
abbrev s__law_grid : Stmt := top 34
abbrev s__law_heard : Stmt := top 35
abbrev s__law_row : Stmt := top 36
abbrev s__law_parts : Stmt := top 37
abbrev s__law_less : Stmt := top 38
abbrev s__law_between_one : Stmt := top 39
abbrev s__law_gentle : Stmt := top 40
abbrev s__law_right : Stmt := top 41
abbrev s_law : Stmt := top 42
structure Adr where
  a_common_of : Addr
  d_common_of : FuncData
  a_part : Addr
  d_part : FuncData
  a_plus : Addr
  d_plus : FuncData
  a_minus : Addr
  d_minus : FuncData
  a_times : Addr
  d_times : FuncData
  a_less : Addr
  d_less : FuncData
  a_cut_by : Addr
  d_cut_by : FuncData
  a_top_of : Addr
  d_top_of : FuncData
  a_begun_by : Addr
  d_begun_by : FuncData
  a_is_idle : Addr
  d_is_idle : FuncData
  a_share_behind : Addr
  d_share_behind : FuncData
  a_factor_of : Addr
  d_factor_of : FuncData
  a_moved : Addr
  d_moved : FuncData
  a_held : Addr
  d_held : FuncData
  a_heard_by : Addr
  d_heard_by : FuncData
  a_gentler : Addr
  d_gentler : FuncData
  a__law_pot : Addr
  d__law_pot : FuncData
  a__law_take : Addr
  d__law_take : FuncData
  a__law_low : Addr
  d__law_low : FuncData
  a__law_bottom : Addr
  d__law_bottom : FuncData
  a__law_between : Addr
  d__law_between : FuncData
  a__law_above : Addr
  d__law_above : FuncData
  a__law_less_than_one : Addr
  d__law_less_than_one : FuncData
  a__law_rule : Addr
  d__law_rule : FuncData
  a__law_plain : Addr
  d__law_plain : FuncData
  a__law_any_rule : Addr
  d__law_any_rule : FuncData
  a__law_grid : Addr
  d__law_grid : FuncData
  a__law_heard : Addr
  d__law_heard : FuncData
  a__law_row : Addr
  d__law_row : FuncData
  a__law_parts : Addr
  d__law_parts : FuncData
  a__law_less : Addr
  d__law_less : FuncData
  a__law_between_one : Addr
  d__law_between_one : FuncData
  a__law_gentle : Addr
  d__law_gentle : FuncData
  a__law_right : Addr
  d__law_right : FuncData
  a_law : Addr
  d_law : FuncData
structure Txt (Pm : Params) (K : PySem.W.Frag) (mg : Str → Option Value) (t : Adr) : Prop where
  F_common_of : Fun K "common_of" "common_of" s_common_of t.a_common_of t.d_common_of
  m_common_of : mg "common_of" = some (.ref t.a_common_of)
  F_part : Fun K "part" "part" s_part t.a_part t.d_part
  m_part : mg "part" = some (.ref t.a_part)
  F_plus : Fun K "plus" "plus" s_plus t.a_plus t.d_plus
  m_plus : mg "plus" = some (.ref t.a_plus)
  F_minus : Fun K "minus" "minus" s_minus t.a_minus t.d_minus
  m_minus : mg "minus" = some (.ref t.a_minus)
  F_times : Fun K "times" "times" s_times t.a_times t.d_times
  m_times : mg "times" = some (.ref t.a_times)
  F_less : Fun K "less" "less" s_less t.a_less t.d_less
  m_less : mg "less" = some (.ref t.a_less)
  F_cut_by : Fun K "cut_by" "cut_by" s_cut_by t.a_cut_by t.d_cut_by
  m_cut_by : mg "cut_by" = some (.ref t.a_cut_by)
  F_top_of : Fun K "top_of" "top_of" s_top_of t.a_top_of t.d_top_of
  m_top_of : mg "top_of" = some (.ref t.a_top_of)
  F_begun_by : Fun K "begun_by" "begun_by" s_begun_by t.a_begun_by t.d_begun_by
  m_begun_by : mg "begun_by" = some (.ref t.a_begun_by)
  F_is_idle : Fun K "is_idle" "is_idle" s_is_idle t.a_is_idle t.d_is_idle
  m_is_idle : mg "is_idle" = some (.ref t.a_is_idle)
  F_share_behind : Fun K "share_behind" "share_behind" s_share_behind t.a_share_behind t.d_share_behind
  m_share_behind : mg "share_behind" = some (.ref t.a_share_behind)
  F_factor_of : Fun K "factor_of" "factor_of" s_factor_of t.a_factor_of t.d_factor_of
  m_factor_of : mg "factor_of" = some (.ref t.a_factor_of)
  F_moved : Fun K "moved" "moved" s_moved t.a_moved t.d_moved
  m_moved : mg "moved" = some (.ref t.a_moved)
  F_held : Fun K "held" "held" s_held t.a_held t.d_held
  m_held : mg "held" = some (.ref t.a_held)
  F_heard_by : Fun K "heard_by" "heard_by" s_heard_by t.a_heard_by t.d_heard_by
  m_heard_by : mg "heard_by" = some (.ref t.a_heard_by)
  F_gentler : Fun K "gentler" "gentler" s_gentler t.a_gentler t.d_gentler
  m_gentler : mg "gentler" = some (.ref t.a_gentler)
  F__law_pot : Fun K "_law_pot" "_law_pot" s__law_pot t.a__law_pot t.d__law_pot
  m__law_pot : mg "_law_pot" = some (.ref t.a__law_pot)
  F__law_take : Fun K "_law_take" "_law_take" s__law_take t.a__law_take t.d__law_take
  m__law_take : mg "_law_take" = some (.ref t.a__law_take)
  F__law_low : Fun K "_law_low" "_law_low" s__law_low t.a__law_low t.d__law_low
  m__law_low : mg "_law_low" = some (.ref t.a__law_low)
  F__law_bottom : Fun K "_law_bottom" "_law_bottom" s__law_bottom t.a__law_bottom t.d__law_bottom
  m__law_bottom : mg "_law_bottom" = some (.ref t.a__law_bottom)
  F__law_between : Fun K "_law_between" "_law_between" s__law_between t.a__law_between t.d__law_between
  m__law_between : mg "_law_between" = some (.ref t.a__law_between)
  F__law_above : Fun K "_law_above" "_law_above" s__law_above t.a__law_above t.d__law_above
  m__law_above : mg "_law_above" = some (.ref t.a__law_above)
  F__law_less_than_one : Fun K "_law_less_than_one" "_law_less_than_one" s__law_less_than_one t.a__law_less_than_one t.d__law_less_than_one
  m__law_less_than_one : mg "_law_less_than_one" = some (.ref t.a__law_less_than_one)
  F__law_rule : Fun K "_law_rule" "_law_rule" s__law_rule t.a__law_rule t.d__law_rule
  m__law_rule : mg "_law_rule" = some (.ref t.a__law_rule)
  F__law_plain : Fun K "_law_plain" "_law_plain" s__law_plain t.a__law_plain t.d__law_plain
  m__law_plain : mg "_law_plain" = some (.ref t.a__law_plain)
  F__law_any_rule : Fun K "_law_any_rule" "_law_any_rule" s__law_any_rule t.a__law_any_rule t.d__law_any_rule
  m__law_any_rule : mg "_law_any_rule" = some (.ref t.a__law_any_rule)
  F__law_grid : Fun K "_law_grid" "_law_grid" s__law_grid t.a__law_grid t.d__law_grid
  m__law_grid : mg "_law_grid" = some (.ref t.a__law_grid)
  F__law_heard : Fun K "_law_heard" "_law_heard" s__law_heard t.a__law_heard t.d__law_heard
  m__law_heard : mg "_law_heard" = some (.ref t.a__law_heard)
  F__law_row : Fun K "_law_row" "_law_row" s__law_row t.a__law_row t.d__law_row
  m__law_row : mg "_law_row" = some (.ref t.a__law_row)
  F__law_parts : Fun K "_law_parts" "_law_parts" s__law_parts t.a__law_parts t.d__law_parts
  m__law_parts : mg "_law_parts" = some (.ref t.a__law_parts)
  F__law_less : Fun K "_law_less" "_law_less" s__law_less t.a__law_less t.d__law_less
  m__law_less : mg "_law_less" = some (.ref t.a__law_less)
  F__law_between_one : Fun K "_law_between_one" "_law_between_one" s__law_between_one t.a__law_between_one t.d__law_between_one
  m__law_between_one : mg "_law_between_one" = some (.ref t.a__law_between_one)
  F__law_gentle : Fun K "_law_gentle" "_law_gentle" s__law_gentle t.a__law_gentle t.d__law_gentle
  m__law_gentle : mg "_law_gentle" = some (.ref t.a__law_gentle)
  F__law_right : Fun K "_law_right" "_law_right" s__law_right t.a__law_right t.d__law_right
  m__law_right : mg "_law_right" = some (.ref t.a__law_right)
  F_law : Fun K "law" "law" s_law t.a_law t.d_law
  m_law : mg "law" = some (.ref t.a_law)
  n_abs : mg "abs" = none
  n_int : mg "int" = none
  n_isinstance : mg "isinstance" = none
  n_len : mg "len" = none
  n_max : mg "max" = none
  n_min : mg "min" = none
  n_range : mg "range" = none
  n_tuple : mg "tuple" = none
  g_HALF : GV K mg "HALF" (.tup [.int 1, .int 2])
  g_NOUGHT : GV K mg "NOUGHT" (.tup [.int 0, .int 1])
  g_ONE : GV K mg "ONE" (.tup [.int 1, .int 1])
  g_MAY_BE_LESS : GT Pm K mg "MAY_BE_LESS" [((Str.ofString "still"), (.tup [.int 1] : D)), ((Str.ofString "step"), (.tup [.int 1, .int 2, .int 3, .int 4] : D)), ((Str.ofString "swell"), (.tup [.int 1, .int 2, .int 3, .int 4] : D)), ((Str.ofString "heed"), (.tup [.int 1, .int 2, .int 4] : D)), ((Str.ofString "calm"), (.tup [.int 1, .int 5] : D))]
section
variable {P : Program} {w : World} {K : PySem.W.Frag} {mg : Str → Option Value} {base : Heap} {t : Adr}
theorem sc_common_of : FnScope ["one", "other", "divisor", "rest", "behind"] ["one", "other"] (defScope s_common_of) := ⟨rfl, rfl, rfl, by decide +kernel, rfl, by decide +kernel, by decide +kernel⟩
theorem b_common_of {Pm : Params} (T : Txt Pm K mg t) : Binds K t.d_common_of ["one", "other"] [] := T.F_common_of.binds fun _ _ _ _ _ _ us hl => by obtain ⟨x0, x1, rfl⟩ := len_2 hl; rfl
theorem F_common_of (T : Txt w.params K mg t) : FnOk P w K mg base CX0 1 t.a_common_of t.d_common_of ["one", "other"] (lift K sp_common_of) := by
  refine fn_ok (T := t_common_of) T.F_common_of sc_common_of len_common_of (fun cdv A outer s H E hr => ?_) rd_common_of
  have hu := hr.units
  exact lss_cons (ls_set 2 sc_common_of.nd (le_callB call_abs sim_abs rfl T.n_abs rfl (la_cons (le_var 0) (la_nil)))) (lss_cons (ls_set 3 sc_common_of.nd (le_callB call_abs sim_abs rfl T.n_abs rfl (la_cons (le_var 1) (la_nil)))) (lss_cons (ls_while PassesOwn.never (lt_gt (le_var 3) (le_int)) (lss_cons (ls_set 4 sc_common_of.nd (le_mod (le_var 2) (le_var 3))) (lss_cons (ls_set 2 sc_common_of.nd (le_var 3)) (lss_one (ls_set 3 sc_common_of.nd (le_var 4)))))) (lss_one (ls_ret (le_var 2)))))
theorem sc_part : FnScope ["top", "bottom", "divisor"] ["top", "bottom"] (defScope s_part) := ⟨rfl, rfl, rfl, by decide +kernel, rfl, by decide +kernel, by decide +kernel⟩
theorem b_part {Pm : Params} (T : Txt Pm K mg t) : Binds K t.d_part ["top", "bottom"] [] := T.F_part.binds fun _ _ _ _ _ _ us hl => by obtain ⟨x0, x1, rfl⟩ := len_2 hl; rfl
theorem F_part (T : Txt w.params K mg t) : FnOk P w K mg base CX0 2 t.a_part t.d_part ["top", "bottom"] (lift K sp_part) := by
  refine fn_ok (T := t_part) T.F_part sc_part len_part (fun cdv A outer s H E hr => ?_) rd_part
  have hu := hr.units
  exact lss_cons (ls_set 2 sc_part.nd (le_call (F_common_of T) (hr.mono (by decide)) rfl T.m_common_of T.F_common_of.kp (b_common_of T) (la_cons (le_var 0) (la_cons (le_var 1) (la_nil))))) (lss_cons (ls_if (lt_lt (le_var 1) (le_int)) (lss_one (ls_set 2 sc_part.nd (le_neg (le_var 2)))) (lss_nil)) (lss_one (ls_ret (le_tup (la_cons (le_div (le_var 0) (le_var 2)) (la_cons (le_div (le_var 1) (le_var 2)) (la_nil)))))))
theorem sc_plus : FnScope ["one", "other"] ["one", "other"] (defScope s_plus) := ⟨rfl, rfl, rfl, by decide +kernel, rfl, by decide +kernel, by decide +kernel⟩
theorem b_plus {Pm : Params} (T : Txt Pm K mg t) : Binds K t.d_plus ["one", "other"] [] := T.F_plus.binds fun _ _ _ _ _ _ us hl => by obtain ⟨x0, x1, rfl⟩ := len_2 hl; rfl
theorem F_plus (T : Txt w.params K mg t) : FnOk P w K mg base CX0 3 t.a_plus t.d_plus ["one", "other"] (lift K sp_plus) := by
  refine fn_ok (T := t_plus) T.F_plus sc_plus len_plus (fun cdv A outer s H E hr => ?_) rd_plus
  have hu := hr.units
  exact lss_one (ls_ret (le_call (F_part T) (hr.mono (by decide)) rfl T.m_part T.F_part.kp (b_part T) (la_cons (le_plus (le_mul (le_ix (le_var 0) (le_int)) (le_ix (le_var 1) (le_int))) (le_mul (le_ix (le_var 1) (le_int)) (le_ix (le_var 0) (le_int)))) (la_cons (le_mul (le_ix (le_var 0) (le_int)) (le_ix (le_var 1) (le_int))) (la_nil)))))
theorem sc_minus : FnScope ["one", "other"] ["one", "other"] (defScope s_minus) := ⟨rfl, rfl, rfl, by decide +kernel, rfl, by decide +kernel, by decide +kernel⟩
theorem b_minus {Pm : Params} (T : Txt Pm K mg t) : Binds K t.d_minus ["one", "other"] [] := T.F_minus.binds fun _ _ _ _ _ _ us hl => by obtain ⟨x0, x1, rfl⟩ := len_2 hl; rfl
theorem F_minus (T : Txt w.params K mg t) : FnOk P w K mg base CX0 3 t.a_minus t.d_minus ["one", "other"] (lift K sp_minus) := by
  refine fn_ok (T := t_minus) T.F_minus sc_minus len_minus (fun cdv A outer s H E hr => ?_) rd_minus
  have hu := hr.units
  exact lss_one (ls_ret (le_call (F_part T) (hr.mono (by decide)) rfl T.m_part T.F_part.kp (b_part T) (la_cons (le_sub (le_mul (le_ix (le_var 0) (le_int)) (le_ix (le_var 1) (le_int))) (le_mul (le_ix (le_var 1) (le_int)) (le_ix (le_var 0) (le_int)))) (la_cons (le_mul (le_ix (le_var 0) (le_int)) (le_ix (le_var 1) (le_int))) (la_nil)))))
theorem sc_times : FnScope ["one", "other"] ["one", "other"] (defScope s_times) := ⟨rfl, rfl, rfl, by decide +kernel, rfl, by decide +kernel, by decide +kernel⟩
theorem b_times {Pm : Params} (T : Txt Pm K mg t) : Binds K t.d_times ["one", "other"] [] := T.F_times.binds fun _ _ _ _ _ _ us hl => by obtain ⟨x0, x1, rfl⟩ := len_2 hl; rfl
theorem F_times (T : Txt w.params K mg t) : FnOk P w K mg base CX0 3 t.a_times t.d_times ["one", "other"] (lift K sp_times) := by
  refine fn_ok (T := t_times) T.F_times sc_times len_times (fun cdv A outer s H E hr => ?_) rd_times
  have hu := hr.units
  exact lss_one (ls_ret (le_call (F_part T) (hr.mono (by decide)) rfl T.m_part T.F_part.kp (b_part T) (la_cons (le_mul (le_ix (le_var 0) (le_int)) (le_ix (le_var 1) (le_int))) (la_cons (le_mul (le_ix (le_var 0) (le_int)) (le_ix (le_var 1) (le_int))) (la_nil)))))
theorem sc_less : FnScope ["one", "other"] ["one", "other"] (defScope s_less) := ⟨rfl, rfl, rfl, by decide +kernel, rfl, by decide +kernel, by decide +kernel⟩
theorem b_less {Pm : Params} (T : Txt Pm K mg t) : Binds K t.d_less ["one", "other"] [] := T.F_less.binds fun _ _ _ _ _ _ us hl => by obtain ⟨x0, x1, rfl⟩ := len_2 hl; rfl
theorem F_less (T : Txt w.params K mg t) : FnOk P w K mg base CX0 1 t.a_less t.d_less ["one", "other"] (lift K sp_less) := by
  refine fn_ok (T := t_less) T.F_less sc_less len_less (fun cdv A outer s H E hr => ?_) rd_less
  have hu := hr.units
  exact lss_one (ls_ret (le_lt (le_mul (le_ix (le_var 0) (le_int)) (le_ix (le_var 1) (le_int))) (le_mul (le_ix (le_var 1) (le_int)) (le_ix (le_var 0) (le_int)))))
theorem sc_cut_by : FnScope ["one", "grid"] ["one", "grid"] (defScope s_cut_by) := ⟨rfl, rfl, rfl, by decide +kernel, rfl, by decide +kernel, by decide +kernel⟩
theorem b_cut_by {Pm : Params} (T : Txt Pm K mg t) : Binds K t.d_cut_by ["one", "grid"] [] := T.F_cut_by.binds fun _ _ _ _ _ _ us hl => by obtain ⟨x0, x1, rfl⟩ := len_2 hl; rfl
theorem F_cut_by (T : Txt w.params K mg t) : FnOk P w K mg base CX0 3 t.a_cut_by t.d_cut_by ["one", "grid"] (lift K sp_cut_by) := by
  refine fn_ok (T := t_cut_by) T.F_cut_by sc_cut_by len_cut_by (fun cdv A outer s H E hr => ?_) rd_cut_by
  have hu := hr.units
  exact lss_one (ls_ret (le_call (F_part T) (hr.mono (by decide)) rfl T.m_part T.F_part.kp (b_part T) (la_cons (le_div (le_mul (le_ix (le_var 0) (le_int)) (le_var 1)) (le_ix (le_var 0) (le_int))) (la_cons (le_var 1) (la_nil)))))
theorem sc_top_of : FnScope ["rule"] ["rule"] (defScope s_top_of) := ⟨rfl, rfl, rfl, by decide +kernel, rfl, by decide +kernel, by decide +kernel⟩
theorem b_top_of {Pm : Params} (T : Txt Pm K mg t) : Binds K t.d_top_of ["rule"] [] := T.F_top_of.binds fun _ _ _ _ _ _ us hl => by obtain ⟨x0, rfl⟩ := len_1 hl; rfl
theorem F_top_of (T : Txt w.params K mg t) : FnOk P w K mg base CX0 1 t.a_top_of t.d_top_of ["rule"] (lift K sp_top_of) := by
  refine fn_ok (T := t_top_of) T.F_top_of sc_top_of len_top_of (fun cdv A outer s H E hr => ?_) rd_top_of
  have hu := hr.units
  exact lss_one (ls_ret (le_ix (le_var 0) (le_sub (le_callB call_len2 sim_len rfl T.n_len rfl (la_cons (le_var 0) (la_nil))) (le_int))))
theorem sc_begun_by : FnScope ["rule", "grid"] ["rule", "grid"] (defScope s_begun_by) := ⟨rfl, rfl, rfl, by decide +kernel, rfl, by decide +kernel, by decide +kernel⟩
theorem b_begun_by {Pm : Params} (T : Txt Pm K mg t) : Binds K t.d_begun_by ["rule", "grid"] [] := T.F_begun_by.binds fun _ _ _ _ _ _ us hl => by obtain ⟨x0, x1, rfl⟩ := len_2 hl; rfl
theorem F_begun_by (T : Txt w.params K mg t) : FnOk P w K mg base CX0 4 t.a_begun_by t.d_begun_by ["rule", "grid"] (lift K sp_begun_by) := by
  refine fn_ok (T := t_begun_by) T.F_begun_by sc_begun_by len_begun_by (fun cdv A outer s H E hr => ?_) rd_begun_by
  have hu := hr.units
  exact lss_one (ls_ret (le_tup (la_cons (le_call (F_cut_by T) (hr.mono (by decide)) rfl T.m_cut_by T.F_cut_by.kp (b_cut_by T) (la_cons (le_ix (le_var 0) (le_int)) (la_cons (le_var 1) (la_nil)))) (la_cons (le_gv rfl T.g_NOUGHT) (la_nil)))))
theorem sc_is_idle : FnScope ["rule", "heard"] ["rule", "heard"] (defScope s_is_idle) := ⟨rfl, rfl, rfl, by decide +kernel, rfl, by decide +kernel, by decide +kernel⟩
theorem b_is_idle {Pm : Params} (T : Txt Pm K mg t) : Binds K t.d_is_idle ["rule", "heard"] [] := T.F_is_idle.binds fun _ _ _ _ _ _ us hl => by obtain ⟨x0, x1, rfl⟩ := len_2 hl; rfl
theorem F_is_idle (T : Txt w.params K mg t) : FnOk P w K mg base CX0 1 t.a_is_idle t.d_is_idle ["rule", "heard"] (lift K sp_is_idle) := by
  refine fn_ok (T := t_is_idle) T.F_is_idle sc_is_idle len_is_idle (fun cdv A outer s H E hr => ?_) rd_is_idle
  have hu := hr.units
  exact lss_one (ls_ret (le_or (le_eq hu (le_ix (le_var 0) (le_int)) (le_str)) (le_one (le_eq hu (le_plus (le_plus (le_ix (le_var 1) (le_int)) (le_ix (le_var 1) (le_int))) (le_ix (le_var 1) (le_int))) (le_int)))))
theorem sc_share_behind : FnScope ["rule", "grid", "share", "heard", "bad", "nearer"] ["rule", "grid", "share", "heard"] (defScope s_share_behind) := ⟨rfl, rfl, rfl, by decide +kernel, rfl, by decide +kernel, by decide +kernel⟩
theorem b_share_behind {Pm : Params} (T : Txt Pm K mg t) : Binds K t.d_share_behind ["rule", "grid", "share", "heard"] [] := T.F_share_behind.binds fun _ _ _ _ _ _ us hl => by obtain ⟨x0, x1, x2, x3, rfl⟩ := len_4 hl; rfl
theorem F_share_behind (T : Txt w.params K mg t) : FnOk P w K mg base CX0 4 t.a_share_behind t.d_share_behind ["rule", "grid", "share", "heard"] (lift K sp_share_behind) := by
  refine fn_ok (T := t_share_behind) T.F_share_behind sc_share_behind len_share_behind (fun cdv A outer s H E hr => ?_) rd_share_behind
  have hu := hr.units
  exact lss_cons (ls_if (lt_ne hu (le_ix (le_var 0) (le_int)) (le_str)) (lss_one (ls_ret (le_var 2))) (lss_nil)) (lss_cons (ls_set 4 sc_share_behind.nd (le_plus (le_ix (le_var 3) (le_int)) (le_ix (le_var 3) (le_int)))) (lss_cons (ls_set 5 sc_share_behind.nd (le_call (F_times T) (hr.mono (by decide)) rfl T.m_times T.F_times.kp (b_times T) (la_cons (le_ix (le_var 0) (le_int)) (la_cons (le_call (F_minus T) (hr.mono (by decide)) rfl T.m_minus T.F_minus.kp (b_minus T) (la_cons (le_call (F_part T) (hr.mono (by decide)) rfl T.m_part T.F_part.kp (b_part T) (la_cons (le_var 4) (la_cons (le_plus (le_ix (le_var 3) (le_int)) (le_var 4)) (la_nil)))) (la_cons (le_var 2) (la_nil)))) (la_nil))))) (lss_one (ls_ret (le_call (F_cut_by T) (hr.mono (by decide)) rfl T.m_cut_by T.F_cut_by.kp (b_cut_by T) (la_cons (le_call (F_plus T) (hr.mono (by decide)) rfl T.m_plus T.F_plus.kp (b_plus T) (la_cons (le_var 2) (la_cons (le_var 5) (la_nil)))) (la_cons (le_var 1) (la_nil))))))))
theorem sc_factor_of : FnScope ["rule", "share", "heard"] ["rule", "share", "heard"] (defScope s_factor_of) := ⟨rfl, rfl, rfl, by decide +kernel, rfl, by decide +kernel, by decide +kernel⟩
theorem b_factor_of {Pm : Params} (T : Txt Pm K mg t) : Binds K t.d_factor_of ["rule", "share", "heard"] [] := T.F_factor_of.binds fun _ _ _ _ _ _ us hl => by obtain ⟨x0, x1, x2, rfl⟩ := len_3 hl; rfl
theorem F_factor_of (T : Txt w.params K mg t) : FnOk P w K mg base CX0 4 t.a_factor_of t.d_factor_of ["rule", "share", "heard"] (lift K sp_factor_of) := by
  refine fn_ok (T := t_factor_of) T.F_factor_of sc_factor_of len_factor_of (fun cdv A outer s H E hr => ?_) rd_factor_of
  have hu := hr.units
  exact lss_cons (ls_if (lt_eq hu (le_ix (le_var 0) (le_int)) (le_str)) (lss_one (ls_ret (le_ifE (lt_gt (le_ix (le_var 2) (le_int)) (le_int)) (le_gv rfl T.g_HALF) (le_non)))) (lss_nil)) (lss_cons (ls_if (lt_eq hu (le_plus (le_ix (le_var 2) (le_int)) (le_ix (le_var 2) (le_int))) (le_int)) (lss_one (ls_ret (le_ifE (lt_eq hu (le_ix (le_var 0) (le_int)) (le_str)) (le_ix (le_var 0) (le_int)) (le_non)))) (lss_nil)) (lss_cons (ls_if (lt_eq hu (le_ix (le_var 0) (le_int)) (le_str)) (lss_one (ls_ret (le_call (F_minus T) (hr.mono (by decide)) rfl T.m_minus T.F_minus.kp (b_minus T) (la_cons (le_gv rfl T.g_ONE) (la_cons (le_call (F_times T) (hr.mono (by decide)) rfl T.m_times T.F_times.kp (b_times T) (la_cons (le_gv rfl T.g_HALF) (la_cons (le_var 1) (la_nil)))) (la_nil)))))) (lss_nil)) (lss_one (ls_ret (le_ix (le_var 0) (le_int))))))
theorem sc_moved : FnScope ["rule", "window", "heard"] ["rule", "window", "heard"] (defScope s_moved) := ⟨rfl, rfl, rfl, by decide +kernel, rfl, by decide +kernel, by decide +kernel⟩
theorem b_moved {Pm : Params} (T : Txt Pm K mg t) : Binds K t.d_moved ["rule", "window", "heard"] [] := T.F_moved.binds fun _ _ _ _ _ _ us hl => by obtain ⟨x0, x1, x2, rfl⟩ := len_3 hl; rfl
theorem F_moved (T : Txt w.params K mg t) : FnOk P w K mg base CX0 4 t.a_moved t.d_moved ["rule", "window", "heard"] (lift K sp_moved) := by
  refine fn_ok (T := t_moved) T.F_moved sc_moved len_moved (fun cdv A outer s H E hr => ?_) rd_moved
  have hu := hr.units
  exact lss_cons (ls_if (LW.lt (lw_or (lt_ne hu (le_ix (le_var 0) (le_int)) (le_str)) (lw_or1 (lt_lt (le_ix (le_var 2) (le_int)) (le_ix (le_var 0) (le_int)))))) (lss_one (ls_ret (le_call (F_plus T) (hr.mono (by decide)) rfl T.m_plus T.F_plus.kp (b_plus T) (la_cons (le_var 1) (la_cons (le_ix (le_var 0) (le_int)) (la_nil)))))) (lss_nil)) (lss_cons (ls_if (lt_gt (le_ix (le_var 2) (le_int)) (le_ix (le_var 0) (le_int))) (lss_one (ls_ret (le_call (F_minus T) (hr.mono (by decide)) rfl T.m_minus T.F_minus.kp (b_minus T) (la_cons (le_var 1) (la_cons (le_ix (le_var 0) (le_int)) (la_nil)))))) (lss_nil)) (lss_one (ls_ret (le_var 1))))
theorem sc_held : FnScope ["rule", "grid", "window"] ["rule", "grid", "window"] (defScope s_held) := ⟨rfl, rfl, rfl, by decide +kernel, rfl, by decide +kernel, by decide +kernel⟩
theorem b_held {Pm : Params} (T : Txt Pm K mg t) : Binds K t.d_held ["rule", "grid", "window"] [] := T.F_held.binds fun _ _ _ _ _ _ us hl => by obtain ⟨x0, x1, x2, rfl⟩ := len_3 hl; rfl
theorem F_held (T : Txt w.params K mg t) : FnOk P w K mg base CX0 4 t.a_held t.d_held ["rule", "grid", "window"] (lift K sp_held) := by
  refine fn_ok (T := t_held) T.F_held sc_held len_held (fun cdv A outer s H E hr => ?_) rd_held
  have hu := hr.units
  exact lss_cons (ls_if (lt_val (le_call (F_less T) (hr.mono (by decide)) rfl T.m_less T.F_less.kp (b_less T) (la_cons (le_var 2) (la_cons (le_gv rfl T.g_ONE) (la_nil))))) (lss_one (ls_ret (le_gv rfl T.g_ONE))) (lss_nil)) (lss_cons (ls_if (lt_val (le_call (F_less T) (hr.mono (by decide)) rfl T.m_less T.F_less.kp (b_less T) (la_cons (le_call (F_top_of T) (hr.mono (by decide)) rfl T.m_top_of T.F_top_of.kp (b_top_of T) (la_cons (le_var 0) (la_nil))) (la_cons (le_var 2) (la_nil))))) (lss_one (ls_ret (le_call (F_cut_by T) (hr.mono (by decide)) rfl T.m_cut_by T.F_cut_by.kp (b_cut_by T) (la_cons (le_call (F_top_of T) (hr.mono (by decide)) rfl T.m_top_of T.F_top_of.kp (b_top_of T) (la_cons (le_var 0) (la_nil))) (la_cons (le_var 1) (la_nil)))))) (lss_nil)) (lss_one (ls_ret (le_call (F_cut_by T) (hr.mono (by decide)) rfl T.m_cut_by T.F_cut_by.kp (b_cut_by T) (la_cons (le_var 2) (la_cons (le_var 1) (la_nil)))))))
theorem sc_heard_by : FnScope ["rule", "grid", "window", "share", "heard", "nearer", "factor"] ["rule", "grid", "window", "share", "heard"] (defScope s_heard_by) := ⟨rfl, rfl, rfl, by decide +kernel, rfl, by decide +kernel, by decide +kernel⟩
theorem b_heard_by {Pm : Params} (T : Txt Pm K mg t) : Binds K t.d_heard_by ["rule", "grid", "window", "share", "heard"] [] := T.F_heard_by.binds fun _ _ _ _ _ _ us hl => by obtain ⟨x0, x1, x2, x3, x4, rfl⟩ := len_5 hl; rfl
theorem F_heard_by (T : Txt w.params K mg t) : FnOk P w K mg base CX0 5 t.a_heard_by t.d_heard_by ["rule", "grid", "window", "share", "heard"] (lift K sp_heard_by) := by
  refine fn_ok (T := t_heard_by) T.F_heard_by sc_heard_by len_heard_by (fun cdv A outer s H E hr => ?_) rd_heard_by
  have hu := hr.units
  exact lss_cons (ls_if (lt_val (le_call (F_is_idle T) (hr.mono (by decide)) rfl T.m_is_idle T.F_is_idle.kp (b_is_idle T) (la_cons (le_var 0) (la_cons (le_var 4) (la_nil))))) (lss_one (ls_ret (le_tup (la_cons (le_var 2) (la_cons (le_var 3) (la_nil)))))) (lss_nil)) (lss_cons (ls_set 5 sc_heard_by.nd (le_call (F_share_behind T) (hr.mono (by decide)) rfl T.m_share_behind T.F_share_behind.kp (b_share_behind T) (la_cons (le_var 0) (la_cons (le_var 1) (la_cons (le_var 3) (la_cons (le_var 4) (la_nil))))))) (lss_cons (ls_set 6 sc_heard_by.nd (le_call (F_factor_of T) (hr.mono (by decide)) rfl T.m_factor_of T.F_factor_of.kp (b_factor_of T) (la_cons (le_var 0) (la_cons (le_var 5) (la_cons (le_var 4) (la_nil)))))) (lss_cons (ls_if (lt_is (le_var 6) (le_non)) (lss_one (ls_ret (le_tup (la_cons (le_call (F_held T) (hr.mono (by decide)) rfl T.m_held T.F_held.kp (b_held T) (la_cons (le_var 0) (la_cons (le_var 1) (la_cons (le_call (F_moved T) (hr.mono (by decide)) rfl T.m_moved T.F_moved.kp (b_moved T) (la_cons (le_var 0) (la_cons (le_var 2) (la_cons (le_var 4) (la_nil))))) (la_nil))))) (la_cons (le_var 5) (la_nil)))))) (lss_nil)) (lss_one (ls_ret (le_tup (la_cons (le_call (F_held T) (hr.mono (by decide)) rfl T.m_held T.F_held.kp (b_held T) (la_cons (le_var 0) (la_cons (le_var 1) (la_cons (le_call (F_times T) (hr.mono (by decide)) rfl T.m_times T.F_times.kp (b_times T) (la_cons (le_var 2) (la_cons (le_var 6) (la_nil)))) (la_nil))))) (la_cons (le_var 5) (la_nil)))))))))
theorem sc_gentler : FnScope ["one", "other", "place"] ["one", "other"] (defScope s_gentler) := ⟨rfl, rfl, rfl, by decide +kernel, rfl, by decide +kernel, by decide +kernel⟩
theorem b_gentler {Pm : Params} (T : Txt Pm K mg t) : Binds K t.d_gentler ["one", "other"] [] := T.F_gentler.binds fun _ _ _ _ _ _ us hl => by obtain ⟨x0, x1, rfl⟩ := len_2 hl; rfl
theorem F_gentler (T : Txt w.params K mg t) : FnOk P w K mg base CX0 2 t.a_gentler t.d_gentler ["one", "other"] (lift K sp_gentler) := by
  refine fn_ok (T := t_gentler) T.F_gentler sc_gentler len_gentler (fun cdv A outer s H E hr => ?_) rd_gentler
  have hu := hr.units
  exact lss_cons (ls_if (lt_ne hu (le_ix (le_var 0) (le_int)) (le_ix (le_var 1) (le_int))) (lss_one (ls_ret (le_bl))) (lss_nil)) (lss_cons (ls_for PassesOwn.never rfl (li_range2 rfl T.n_range (le_int) (le_callB call_len2 sim_len rfl T.n_len rfl (la_cons (le_var 0) (la_nil)))) (lg_name 2 sc_gentler.nd) (lss_one (ls_if (lt_inG hu (le_var 2) (le_tabIx rfl T.g_MAY_BE_LESS (le_ix (le_var 0) (le_int)))) (lss_one (ls_if (lt_val (le_call (F_less T) (hr.mono (by decide)) rfl T.m_less T.F_less.kp (b_less T) (la_cons (le_ix (le_var 1) (le_var 2)) (la_cons (le_ix (le_var 0) (le_var 2)) (la_nil))))) (lss_one (ls_ret (le_bl))) (lss_nil))) (lss_one (ls_if (lt_ne hu (le_ix (le_var 0) (le_var 2)) (le_ix (le_var 1) (le_var 2))) (lss_one (ls_ret (le_bl))) (lss_nil)))))) (lss_one (ls_ret (le_bl))))
theorem sc__law_pot : FnScope ["_law_script", "_law_k", "_law_cell", "_law_digits"] ["_law_script", "_law_k"] (defScope s__law_pot) := ⟨rfl, rfl, rfl, by decide +kernel, rfl, by decide +kernel, by decide +kernel⟩
theorem b__law_pot {Pm : Params} (T : Txt Pm K mg t) : Binds K t.d__law_pot ["_law_script", "_law_k"] [] := T.F__law_pot.binds fun _ _ _ _ _ _ us hl => by obtain ⟨x0, x1, rfl⟩ := len_2 hl; rfl
theorem F__law_pot (T : Txt w.params K mg t) : FnOk P w K mg base CX0 1 t.a__law_pot t.d__law_pot ["_law_script", "_law_k"] (lift K sp__law_pot) := by
  refine fn_ok (T := t__law_pot) T.F__law_pot sc__law_pot len__law_pot (fun cdv A outer s H E hr => ?_) rd__law_pot
  have hu := hr.units
  exact lss_cons (ls_set 2 sc__law_pot.nd (le_int)) (lss_cons (ls_if (lt_lt (le_var 1) (le_callB call_len2 sim_len rfl T.n_len rfl (la_cons (le_var 0) (la_nil)))) (lss_one (ls_set 2 sc__law_pot.nd (le_ix (le_var 0) (le_var 1)))) (lss_nil)) (lss_cons (ls_set 3 sc__law_pot.nd (le_mul (le_callB call_abs sim_abs rfl T.n_abs rfl (la_cons (le_var 2) (la_nil))) (le_callTy call_int1 sim_int rfl T.n_int rfl (la_cons (le_ge (le_callB call_abs sim_abs rfl T.n_abs rfl (la_cons (le_var 2) (la_nil))) (le_pow (le_int) (le_int))) (la_nil))))) (lss_one (ls_ret (le_lsM (la_cons (le_var 3) (la_cons (le_mod (le_mul (le_plus (le_plus (le_mod (le_var 2) (le_int)) (le_mul (le_int) (le_var 1))) (le_int)) (le_int)) (le_int)) (la_cons (le_int) (la_nil)))))))))
theorem sc__law_take : FnScope ["_law_pot_here", "_law_many", "_law_found", "_law_once"] ["_law_pot_here", "_law_many"] (defScope s__law_take) := ⟨rfl, rfl, rfl, by decide +kernel, rfl, by decide +kernel, by decide +kernel⟩
theorem b__law_take {Pm : Params} (T : Txt Pm K mg t) : Binds K t.d__law_take ["_law_pot_here", "_law_many"] [] := T.F__law_take.binds fun _ _ _ _ _ _ us hl => by obtain ⟨x0, x1, rfl⟩ := len_2 hl; rfl
theorem F__law_take (T : Txt w.params K mg t) : FnOk P w K mg base CX0 1 t.a__law_take t.d__law_take ["_law_pot_here", "_law_many"] (lift K sp__law_take) := by
  refine fn_ok (T := t__law_take) T.F__law_take sc__law_take len__law_take (fun cdv A outer s H E hr => ?_) rd__law_take
  have hu := hr.units
  exact lss_cons (ls_if (LW.lt (lw_and (lt_gt (le_ix (le_var 0) (le_int)) (le_int)) (lw_and1 (lt_gt (le_ix (le_var 0) (le_int)) (le_int))))) (lss_cons (ls_set 2 sc__law_take.nd (le_mod (le_ix (le_var 0) (le_int)) (le_var 1))) (lss_cons (ls_setIx (le_var 0) (le_int) (le_div (le_ix (le_var 0) (le_int)) (le_var 1))) (lss_cons (ls_setIx (le_var 0) (le_int) (le_sub (le_ix (le_var 0) (le_int)) (le_int))) (lss_one (ls_ret (le_var 2)))))) (lss_nil)) (lss_cons (ls_setIx (le_var 0) (le_int) (le_mod (le_mul (le_plus (le_ix (le_var 0) (le_int)) (le_int)) (le_int)) (le_int))) (lss_cons (ls_set 3 sc__law_take.nd (le_mod (le_mul (le_ix (le_var 0) (le_int)) (le_plus (le_mod (le_ix (le_var 0) (le_int)) (le_int)) (le_int))) (le_int))) (lss_one (ls_ret (le_mod (le_div (le_mod (le_mul (le_var 3) (le_plus (le_mod (le_var 3) (le_int)) (le_int))) (le_int)) (le_int)) (le_var 1))))))
theorem sc__law_low : FnScope ["_law_top", "_law_bottom_here", "_law_one", "_law_other"] ["_law_top", "_law_bottom_here"] (defScope s__law_low) := ⟨rfl, rfl, rfl, by decide +kernel, rfl, by decide +kernel, by decide +kernel⟩
theorem b__law_low {Pm : Params} (T : Txt Pm K mg t) : Binds K t.d__law_low ["_law_top", "_law_bottom_here"] [] := T.F__law_low.binds fun _ _ _ _ _ _ us hl => by obtain ⟨x0, x1, rfl⟩ := len_2 hl; rfl
theorem F__law_low (T : Txt w.params K mg t) : FnOk P w K mg base CX0 1 t.a__law_low t.d__law_low ["_law_top", "_law_bottom_here"] (lift K sp__law_low) := by
  refine fn_ok (T := t__law_low) T.F__law_low sc__law_low len__law_low (fun cdv A outer s H E hr => ?_) rd__law_low
  have hu := hr.units
  exact lss_cons (ls_set 2 sc__law_low.nd (le_callB call_abs sim_abs rfl T.n_abs rfl (la_cons (le_var 0) (la_nil)))) (lss_cons (ls_set 3 sc__law_low.nd (le_var 1)) (lss_cons (ls_while PassesOwn.never (lt_gt (le_var 3) (le_int)) (lss_one (ls_par 2 3 rfl sc__law_low.nd (la_cons (le_var 3) (la_cons (le_mod (le_var 2) (le_var 3)) (la_nil)))))) (lss_one (ls_ret (le_tup (la_cons (le_div (le_var 0) (le_var 2)) (la_cons (le_div (le_var 1) (le_var 2)) (la_nil))))))))
theorem sc__law_bottom : FnScope ["_law_pot_here"] ["_law_pot_here"] (defScope s__law_bottom) := ⟨rfl, rfl, rfl, by decide +kernel, rfl, by decide +kernel, by decide +kernel⟩
theorem b__law_bottom {Pm : Params} (T : Txt Pm K mg t) : Binds K t.d__law_bottom ["_law_pot_here"] [] := T.F__law_bottom.binds fun _ _ _ _ _ _ us hl => by obtain ⟨x0, rfl⟩ := len_1 hl; rfl
theorem F__law_bottom (T : Txt w.params K mg t) : FnOk P w K mg base CX0 2 t.a__law_bottom t.d__law_bottom ["_law_pot_here"] (lift K sp__law_bottom) := by
  refine fn_ok (T := t__law_bottom) T.F__law_bottom sc__law_bottom len__law_bottom (fun cdv A outer s H E hr => ?_) rd__law_bottom
  have hu := hr.units
  exact lss_one (ls_ret (le_ix (le_lsV (la_cons (le_int) (la_cons (le_int) (la_cons (le_plus (le_int) (le_call (F__law_take T) (hr.mono (by decide)) rfl T.m__law_take T.F__law_take.kp (b__law_take T) (la_cons (le_var 0) (la_cons (le_int) (la_nil))))) (la_cons (le_plus (le_int) (le_call (F__law_take T) (hr.mono (by decide)) rfl T.m__law_take T.F__law_take.kp (b__law_take T) (la_cons (le_var 0) (la_cons (le_pow (le_int) (le_int)) (la_nil))))) (la_nil)))))) (le_call (F__law_take T) (hr.mono (by decide)) rfl T.m__law_take T.F__law_take.kp (b__law_take T) (la_cons (le_var 0) (la_cons (le_int) (la_nil))))))
theorem sc__law_between : FnScope ["_law_pot_here", "_law_least", "_law_most", "_law_bottom_here", "_law_far", "_law_some"] ["_law_pot_here", "_law_least", "_law_most"] (defScope s__law_between) := ⟨rfl, rfl, rfl, by decide +kernel, rfl, by decide +kernel, by decide +kernel⟩
theorem b__law_between {Pm : Params} (T : Txt Pm K mg t) : Binds K t.d__law_between ["_law_pot_here", "_law_least", "_law_most"] [] := T.F__law_between.binds fun _ _ _ _ _ _ us hl => by obtain ⟨x0, x1, x2, rfl⟩ := len_3 hl; rfl
theorem F__law_between (T : Txt w.params K mg t) : FnOk P w K mg base CX0 3 t.a__law_between t.d__law_between ["_law_pot_here", "_law_least", "_law_most"] (lift K sp__law_between) := by
  refine fn_ok (T := t__law_between) T.F__law_between sc__law_between len__law_between (fun cdv A outer s H E hr => ?_) rd__law_between
  have hu := hr.units
  exact lss_cons (ls_set 3 sc__law_between.nd (le_call (F__law_bottom T) (hr.mono (by decide)) rfl T.m__law_bottom T.F__law_bottom.kp (b__law_bottom T) (la_cons (le_var 0) (la_nil)))) (lss_cons (ls_set 4 sc__law_between.nd (le_mul (le_var 3) (le_sub (le_var 2) (le_var 1)))) (lss_cons (ls_set 5 sc__law_between.nd (le_call (F__law_take T) (hr.mono (by decide)) rfl T.m__law_take T.F__law_take.kp (b__law_take T) (la_cons (le_var 0) (la_cons (le_plus (le_var 4) (le_int)) (la_nil))))) (lss_one (ls_ret (le_call (F__law_low T) (hr.mono (by decide)) rfl T.m__law_low T.F__law_low.kp (b__law_low T) (la_cons (le_plus (le_mul (le_var 3) (le_var 1)) (le_ix (le_lsV (la_cons (le_int) (la_cons (le_var 4) (la_cons (le_var 5) (la_cons (le_var 5) (la_nil)))))) (le_call (F__law_take T) (hr.mono (by decide)) rfl T.m__law_take T.F__law_take.kp (b__law_take T) (la_cons (le_var 0) (la_cons (le_int) (la_nil)))))) (la_cons (le_var 3) (la_nil))))))))
theorem sc__law_above : FnScope ["_law_pot_here", "_law_least", "_law_most", "_law_bottom_here", "_law_far", "_law_some"] ["_law_pot_here", "_law_least", "_law_most"] (defScope s__law_above) := ⟨rfl, rfl, rfl, by decide +kernel, rfl, by decide +kernel, by decide +kernel⟩
theorem b__law_above {Pm : Params} (T : Txt Pm K mg t) : Binds K t.d__law_above ["_law_pot_here", "_law_least", "_law_most"] [] := T.F__law_above.binds fun _ _ _ _ _ _ us hl => by obtain ⟨x0, x1, x2, rfl⟩ := len_3 hl; rfl
theorem F__law_above (T : Txt w.params K mg t) : FnOk P w K mg base CX0 3 t.a__law_above t.d__law_above ["_law_pot_here", "_law_least", "_law_most"] (lift K sp__law_above) := by
  refine fn_ok (T := t__law_above) T.F__law_above sc__law_above len__law_above (fun cdv A outer s H E hr => ?_) rd__law_above
  have hu := hr.units
  exact lss_cons (ls_set 3 sc__law_above.nd (le_call (F__law_bottom T) (hr.mono (by decide)) rfl T.m__law_bottom T.F__law_bottom.kp (b__law_bottom T) (la_cons (le_var 0) (la_nil)))) (lss_cons (ls_set 4 sc__law_above.nd (le_mul (le_var 3) (le_sub (le_var 2) (le_var 1)))) (lss_cons (ls_set 5 sc__law_above.nd (le_plus (le_int) (le_call (F__law_take T) (hr.mono (by decide)) rfl T.m__law_take T.F__law_take.kp (b__law_take T) (la_cons (le_var 0) (la_cons (le_var 4) (la_nil)))))) (lss_one (ls_ret (le_call (F__law_low T) (hr.mono (by decide)) rfl T.m__law_low T.F__law_low.kp (b__law_low T) (la_cons (le_plus (le_mul (le_var 3) (le_var 1)) (le_ix (le_lsV (la_cons (le_int) (la_cons (le_var 4) (la_cons (le_var 5) (la_cons (le_var 5) (la_nil)))))) (le_call (F__law_take T) (hr.mono (by decide)) rfl T.m__law_take T.F__law_take.kp (b__law_take T) (la_cons (le_var 0) (la_cons (le_int) (la_nil)))))) (la_cons (le_var 3) (la_nil))))))))
theorem sc__law_less_than_one : FnScope ["_law_pot_here", "_law_bottom_here", "_law_some"] ["_law_pot_here"] (defScope s__law_less_than_one) := ⟨rfl, rfl, rfl, by decide +kernel, rfl, by decide +kernel, by decide +kernel⟩
theorem b__law_less_than_one {Pm : Params} (T : Txt Pm K mg t) : Binds K t.d__law_less_than_one ["_law_pot_here"] [] := T.F__law_less_than_one.binds fun _ _ _ _ _ _ us hl => by obtain ⟨x0, rfl⟩ := len_1 hl; rfl
theorem F__law_less_than_one (T : Txt w.params K mg t) : FnOk P w K mg base CX0 3 t.a__law_less_than_one t.d__law_less_than_one ["_law_pot_here"] (lift K sp__law_less_than_one) := by
  refine fn_ok (T := t__law_less_than_one) T.F__law_less_than_one sc__law_less_than_one len__law_less_than_one (fun cdv A outer s H E hr => ?_) rd__law_less_than_one
  have hu := hr.units
  exact lss_cons (ls_set 1 sc__law_less_than_one.nd (le_plus (le_int) (le_call (F__law_bottom T) (hr.mono (by decide)) rfl T.m__law_bottom T.F__law_bottom.kp (b__law_bottom T) (la_cons (le_var 0) (la_nil))))) (lss_cons (ls_set 2 sc__law_less_than_one.nd (le_plus (le_int) (le_call (F__law_take T) (hr.mono (by decide)) rfl T.m__law_take T.F__law_take.kp (b__law_take T) (la_cons (le_var 0) (la_cons (le_sub (le_var 1) (le_int)) (la_nil)))))) (lss_one (ls_ret (le_call (F__law_low T) (hr.mono (by decide)) rfl T.m__law_low T.F__law_low.kp (b__law_low T) (la_cons (le_ix (le_lsV (la_cons (le_int) (la_cons (le_sub (le_var 1) (le_int)) (la_cons (le_var 2) (la_cons (le_var 2) (la_nil)))))) (le_call (F__law_take T) (hr.mono (by decide)) rfl T.m__law_take T.F__law_take.kp (b__law_take T) (la_cons (le_var 0) (la_cons (le_int) (la_nil))))) (la_cons (le_var 1) (la_nil)))))))
theorem sc__law_rule : FnScope ["_law_pot_here", "_law_word", "_law_one", "_law_other", "_law_low_here", "_law_high", "_law_up"] ["_law_pot_here", "_law_word"] (defScope s__law_rule) := ⟨rfl, rfl, rfl, by decide +kernel, rfl, by decide +kernel, by decide +kernel⟩
theorem b__law_rule {Pm : Params} (T : Txt Pm K mg t) : Binds K t.d__law_rule ["_law_pot_here", "_law_word"] [] := T.F__law_rule.binds fun _ _ _ _ _ _ us hl => by obtain ⟨x0, x1, rfl⟩ := len_2 hl; rfl
theorem F__law_rule (T : Txt w.params K mg t) : FnOk P w K mg base CX0 4 t.a__law_rule t.d__law_rule ["_law_pot_here", "_law_word"] (lift K sp__law_rule) := by
  refine fn_ok (T := t__law_rule) T.F__law_rule sc__law_rule len__law_rule (fun cdv A outer s H E hr => ?_) rd__law_rule
  have hu := hr.units
  exact lss_cons (ls_set 2 sc__law_rule.nd (le_call (F__law_between T) (hr.mono (by decide)) rfl T.m__law_between T.F__law_between.kp (b__law_between T) (la_cons (le_var 0) (la_cons (le_int) (la_cons (le_int) (la_nil)))))) (lss_cons (ls_set 3 sc__law_rule.nd (le_call (F__law_between T) (hr.mono (by decide)) rfl T.m__law_between T.F__law_between.kp (b__law_between T) (la_cons (le_var 0) (la_cons (le_int) (la_cons (le_int) (la_nil)))))) (lss_cons (ls_if (lt_gt (le_mul (le_ix (le_var 2) (le_int)) (le_ix (le_var 3) (le_int))) (le_mul (le_ix (le_var 3) (le_int)) (le_ix (le_var 2) (le_int)))) (lss_one (ls_par 2 3 rfl sc__law_rule.nd (la_cons (le_var 3) (la_cons (le_var 2) (la_nil))))) (lss_nil)) (lss_cons (ls_if (lt_eq hu (le_var 1) (le_str)) (lss_one (ls_ret (le_tup (la_cons (le_var 1) (la_cons (le_var 2) (la_nil)))))) (lss_nil)) (lss_cons (ls_if (lt_eq hu (le_var 1) (le_str)) (lss_cons (ls_set 4 sc__law_rule.nd (le_call (F__law_take T) (hr.mono (by decide)) rfl T.m__law_take T.F__law_take.kp (b__law_take T) (la_cons (le_var 0) (la_cons (le_int) (la_nil))))) (lss_cons (ls_set 5 sc__law_rule.nd (le_plus (le_var 4) (le_call (F__law_take T) (hr.mono (by decide)) rfl T.m__law_take T.F__law_take.kp (b__law_take T) (la_cons (le_var 0) (la_cons (le_sub (le_int) (le_var 4)) (la_nil)))))) (lss_one (ls_ret (le_tup (la_cons (le_var 1) (la_cons (le_var 2) (la_cons (le_call (F__law_above T) (hr.mono (by decide)) rfl T.m__law_above T.F__law_above.kp (b__law_above T) (la_cons (le_var 0) (la_cons (le_int) (la_cons (le_int) (la_nil))))) (la_cons (le_var 4) (la_cons (le_var 5) (la_cons (le_var 3) (la_nil)))))))))))) (lss_nil)) (lss_cons (ls_if (lt_eq hu (le_var 1) (le_str)) (lss_one (ls_ret (le_tup (la_cons (le_var 1) (la_cons (le_var 2) (la_cons (le_call (F__law_above T) (hr.mono (by decide)) rfl T.m__law_above T.F__law_above.kp (b__law_above T) (la_cons (le_var 0) (la_cons (le_int) (la_cons (le_int) (la_nil))))) (la_cons (le_call (F__law_above T) (hr.mono (by decide)) rfl T.m__law_above T.F__law_above.kp (b__law_above T) (la_cons (le_var 0) (la_cons (le_int) (la_cons (le_int) (la_nil))))) (la_cons (le_var 3) (la_nil))))))))) (lss_nil)) (lss_cons (ls_set 6 sc__law_rule.nd (le_call (F__law_above T) (hr.mono (by decide)) rfl T.m__law_above T.F__law_above.kp (b__law_above T) (la_cons (le_var 0) (la_cons (le_callTy call_int1 sim_int rfl T.n_int rfl (la_cons (le_eq hu (le_var 1) (le_str)) (la_nil))) (la_cons (le_int) (la_nil)))))) (lss_one (ls_ret (le_tup (la_cons (le_var 1) (la_cons (le_var 2) (la_cons (le_var 6) (la_cons (le_call (F__law_less_than_one T) (hr.mono (by decide)) rfl T.m__law_less_than_one T.F__law_less_than_one.kp (b__law_less_than_one T) (la_cons (le_var 0) (la_nil))) (la_cons (le_var 3) (la_nil)))))))))))))))
theorem sc__law_plain : FnScope ["_law_pot_here", "_law_word", "_law_w", "_law_top", "_law_up", "_law_low_here", "_law_gain", "_law_down"] ["_law_pot_here", "_law_word"] (defScope s__law_plain) := ⟨rfl, rfl, rfl, by decide +kernel, rfl, by decide +kernel, by decide +kernel⟩
theorem b__law_plain {Pm : Params} (T : Txt Pm K mg t) : Binds K t.d__law_plain ["_law_pot_here", "_law_word"] [] := T.F__law_plain.binds fun _ _ _ _ _ _ us hl => by obtain ⟨x0, x1, rfl⟩ := len_2 hl; rfl
theorem F__law_plain (T : Txt w.params K mg t) : FnOk P w K mg base CX0 2 t.a__law_plain t.d__law_plain ["_law_pot_here", "_law_word"] (lift K sp__law_plain) := by
  refine fn_ok (T := t__law_plain) T.F__law_plain sc__law_plain len__law_plain (fun cdv A outer s H E hr => ?_) rd__law_plain
  have hu := hr.units
  exact lss_cons (ls_set 2 sc__law_plain.nd (le_ix (le_lsV (la_cons (le_tup (la_cons (le_int) (la_cons (le_int) (la_nil)))) (la_cons (le_tup (la_cons (le_int) (la_cons (le_int) (la_nil)))) (la_cons (le_tup (la_cons (le_int) (la_cons (le_int) (la_nil)))) (la_cons (le_tup (la_cons (le_int) (la_cons (le_int) (la_nil)))) (la_cons (le_tup (la_cons (le_int) (la_cons (le_int) (la_nil)))) (la_cons (le_tup (la_cons (le_int) (la_cons (le_int) (la_nil)))) (la_cons (le_tup (la_cons (le_int) (la_cons (le_int) (la_nil)))) (la_nil))))))))) (le_call (F__law_take T) (hr.mono (by decide)) rfl T.m__law_take T.F__law_take.kp (b__law_take T) (la_cons (le_var 0) (la_cons (le_int) (la_nil)))))) (lss_cons (ls_set 3 sc__law_plain.nd (le_ix (le_lsV (la_cons (le_tup (la_cons (le_int) (la_cons (le_int) (la_nil)))) (la_cons (le_tup (la_cons (le_int) (la_cons (le_int) (la_nil)))) (la_cons (le_tup (la_cons (le_int) (la_cons (le_int) (la_nil)))) (la_cons (le_tup (la_cons (le_int) (la_cons (le_int) (la_nil)))) (la_cons (le_tup (la_cons (le_int) (la_cons (le_int) (la_nil)))) (la_cons (le_tup (la_cons (le_int) (la_cons (le_int) (la_nil)))) (la_cons (le_var 2) (la_nil))))))))) (le_call (F__law_take T) (hr.mono (by decide)) rfl T.m__law_take T.F__law_take.kp (b__law_take T) (la_cons (le_var 0) (la_cons (le_int) (la_nil)))))) (lss_cons (ls_if (lt_lt (le_mul (le_ix (le_var 3) (le_int)) (le_ix (le_var 2) (le_int))) (le_mul (le_ix (le_var 2) (le_int)) (le_ix (le_var 3) (le_int)))) (lss_one (ls_set 3 sc__law_plain.nd (le_var 2))) (lss_nil)) (lss_cons (ls_set 4 sc__law_plain.nd (le_ix (le_lsV (la_cons (le_tup (la_cons (le_int) (la_cons (le_int) (la_nil)))) (la_cons (le_tup (la_cons (le_int) (la_cons (le_int) (la_nil)))) (la_cons (le_tup (la_cons (le_int) (la_cons (le_int) (la_nil)))) (la_cons (le_tup (la_cons (le_int) (la_cons (le_int) (la_nil)))) (la_cons (le_tup (la_cons (le_int) (la_cons (le_int) (la_nil)))) (la_cons (le_tup (la_cons (le_int) (la_cons (le_int) (la_nil)))) (la_cons (le_tup (la_cons (le_int) (la_cons (le_int) (la_nil)))) (la_nil))))))))) (le_call (F__law_take T) (hr.mono (by decide)) rfl T.m__law_take T.F__law_take.kp (b__law_take T) (la_cons (le_var 0) (la_cons (le_int) (la_nil)))))) (lss_cons (ls_if (lt_eq hu (le_var 1) (le_str)) (lss_one (ls_ret (le_tup (la_cons (le_var 1) (la_cons (le_var 2) (la_nil)))))) (lss_nil)) (lss_cons (ls_if (lt_eq hu (le_var 1) (le_str)) (lss_cons (ls_set 5 sc__law_plain.nd (le_ix (le_lsV (la_cons (le_int) (la_cons (le_int) (la_cons (le_int) (la_cons (le_int) (la_cons (le_int) (la_nil))))))) (le_call (F__law_take T) (hr.mono (by decide)) rfl T.m__law_take T.F__law_take.kp (b__law_take T) (la_cons (le_var 0) (la_cons (le_int) (la_nil)))))) (lss_one (ls_ret (le_tup (la_cons (le_var 1) (la_cons (le_var 2) (la_cons (le_var 4) (la_cons (le_var 5) (la_cons (le_plus (le_var 5) (le_ix (le_lsV (la_cons (le_int) (la_cons (le_int) (la_cons (le_int) (la_cons (le_int) (la_cons (le_int) (la_nil))))))) (le_call (F__law_take T) (hr.mono (by decide)) rfl T.m__law_take T.F__law_take.kp (b__law_take T) (la_cons (le_var 0) (la_cons (le_int) (la_nil)))))) (la_cons (le_var 3) (la_nil))))))))))) (lss_nil)) (lss_cons (ls_if (lt_eq hu (le_var 1) (le_str)) (lss_cons (ls_set 6 sc__law_plain.nd (le_ix (le_lsV (la_cons (le_tup (la_cons (le_int) (la_cons (le_int) (la_nil)))) (la_cons (le_tup (la_cons (le_int) (la_cons (le_int) (la_nil)))) (la_cons (le_tup (la_cons (le_int) (la_cons (le_int) (la_nil)))) (la_cons (le_tup (la_cons (le_int) (la_cons (le_int) (la_nil)))) (la_cons (le_tup (la_cons (le_int) (la_cons (le_int) (la_nil)))) (la_nil))))))) (le_call (F__law_take T) (hr.mono (by decide)) rfl T.m__law_take T.F__law_take.kp (b__law_take T) (la_cons (le_var 0) (la_cons (le_int) (la_nil)))))) (lss_one (ls_ret (le_tup (la_cons (le_var 1) (la_cons (le_var 2) (la_cons (le_var 4) (la_cons (le_var 6) (la_cons (le_var 3) (la_nil)))))))))) (lss_nil)) (lss_cons (ls_if (lt_eq hu (le_var 1) (le_str)) (lss_one (ls_set 4 sc__law_plain.nd (le_ix (le_lsV (la_cons (le_tup (la_cons (le_int) (la_cons (le_int) (la_nil)))) (la_cons (le_tup (la_cons (le_int) (la_cons (le_int) (la_nil)))) (la_cons (le_tup (la_cons (le_int) (la_cons (le_int) (la_nil)))) (la_cons (le_tup (la_cons (le_int) (la_cons (le_int) (la_nil)))) (la_cons (le_tup (la_cons (le_int) (la_cons (le_int) (la_nil)))) (la_nil))))))) (le_call (F__law_take T) (hr.mono (by decide)) rfl T.m__law_take T.F__law_take.kp (b__law_take T) (la_cons (le_var 0) (la_cons (le_int) (la_nil))))))) (lss_nil)) (lss_cons (ls_set 7 sc__law_plain.nd (le_ix (le_lsV (la_cons (le_tup (la_cons (le_int) (la_cons (le_int) (la_nil)))) (la_cons (le_tup (la_cons (le_int) (la_cons (le_int) (la_nil)))) (la_cons (le_tup (la_cons (le_int) (la_cons (le_int) (la_nil)))) (la_cons (le_tup (la_cons (le_int) (la_cons (le_int) (la_nil)))) (la_cons (le_tup (la_cons (le_int) (la_cons (le_int) (la_nil)))) (la_nil))))))) (le_call (F__law_take T) (hr.mono (by decide)) rfl T.m__law_take T.F__law_take.kp (b__law_take T) (la_cons (le_var 0) (la_cons (le_int) (la_nil)))))) (lss_one (ls_ret (le_tup (la_cons (le_var 1) (la_cons (le_var 2) (la_cons (le_var 4) (la_cons (le_var 7) (la_cons (le_var 3) (la_nil)))))))))))))))))
theorem sc__law_any_rule : FnScope ["_law_pot_here", "_law_word"] ["_law_pot_here", "_law_word"] (defScope s__law_any_rule) := ⟨rfl, rfl, rfl, by decide +kernel, rfl, by decide +kernel, by decide +kernel⟩
theorem b__law_any_rule {Pm : Params} (T : Txt Pm K mg t) : Binds K t.d__law_any_rule ["_law_pot_here", "_law_word"] [] := T.F__law_any_rule.binds fun _ _ _ _ _ _ us hl => by obtain ⟨x0, x1, rfl⟩ := len_2 hl; rfl
theorem F__law_any_rule (T : Txt w.params K mg t) : FnOk P w K mg base CX0 5 t.a__law_any_rule t.d__law_any_rule ["_law_pot_here", "_law_word"] (lift K sp__law_any_rule) := by
  refine fn_ok (T := t__law_any_rule) T.F__law_any_rule sc__law_any_rule len__law_any_rule (fun cdv A outer s H E hr => ?_) rd__law_any_rule
  have hu := hr.units
  exact lss_cons (ls_if (lt_eq hu (le_call (F__law_take T) (hr.mono (by decide)) rfl T.m__law_take T.F__law_take.kp (b__law_take T) (la_cons (le_var 0) (la_cons (le_int) (la_nil)))) (le_int)) (lss_one (ls_ret (le_call (F__law_plain T) (hr.mono (by decide)) rfl T.m__law_plain T.F__law_plain.kp (b__law_plain T) (la_cons (le_var 0) (la_cons (le_var 1) (la_nil)))))) (lss_nil)) (lss_one (ls_ret (le_call (F__law_rule T) (hr.mono (by decide)) rfl T.m__law_rule T.F__law_rule.kp (b__law_rule T) (la_cons (le_var 0) (la_cons (le_var 1) (la_nil))))))
theorem sc__law_grid : FnScope ["_law_pot_here"] ["_law_pot_here"] (defScope s__law_grid) := ⟨rfl, rfl, rfl, by decide +kernel, rfl, by decide +kernel, by decide +kernel⟩
theorem b__law_grid {Pm : Params} (T : Txt Pm K mg t) : Binds K t.d__law_grid ["_law_pot_here"] [] := T.F__law_grid.binds fun _ _ _ _ _ _ us hl => by obtain ⟨x0, rfl⟩ := len_1 hl; rfl
theorem F__law_grid (T : Txt w.params K mg t) : FnOk P w K mg base CX0 2 t.a__law_grid t.d__law_grid ["_law_pot_here"] (lift K sp__law_grid) := by
  refine fn_ok (T := t__law_grid) T.F__law_grid sc__law_grid len__law_grid (fun cdv A outer s H E hr => ?_) rd__law_grid
  have hu := hr.units
  exact lss_one (ls_ret (le_ix (le_lsV (la_cons (le_int) (la_cons (le_int) (la_cons (le_int) (la_cons (le_int) (la_cons (le_plus (le_int) (le_call (F__law_take T) (hr.mono (by decide)) rfl T.m__law_take T.F__law_take.kp (b__law_take T) (la_cons (le_var 0) (la_cons (le_int) (la_nil))))) (la_nil))))))) (le_call (F__law_take T) (hr.mono (by decide)) rfl T.m__law_take T.F__law_take.kp (b__law_take T) (la_cons (le_var 0) (la_cons (le_int) (la_nil))))))
theorem sc__law_heard : FnScope ["_law_pot_here", "_law_some", "_law_k", "_law_many"] ["_law_pot_here"] (defScope s__law_heard) := ⟨rfl, rfl, rfl, by decide +kernel, rfl, by decide +kernel, by decide +kernel⟩
theorem b__law_heard {Pm : Params} (T : Txt Pm K mg t) : Binds K t.d__law_heard ["_law_pot_here"] [] := T.F__law_heard.binds fun _ _ _ _ _ _ us hl => by obtain ⟨x0, rfl⟩ := len_1 hl; rfl
theorem F__law_heard (T : Txt w.params K mg t) : FnOk P w K mg base CX0 2 t.a__law_heard t.d__law_heard ["_law_pot_here"] (lift K sp__law_heard) := by
  refine fn_ok (T := t__law_heard) T.F__law_heard sc__law_heard len__law_heard (fun cdv A outer s H E hr => ?_) rd__law_heard
  have hu := hr.units
  exact lss_cons (ls_set 1 sc__law_heard.nd (le_lsM (la_nil))) (lss_cons (ls_for PassesOwn.never rfl (li_range1 rfl T.n_range (le_int)) (lg_name 2 sc__law_heard.nd) (lss_cons (ls_set 3 sc__law_heard.nd (le_lsV (la_cons (le_int) (la_cons (le_int) (la_cons (le_int) (la_cons (le_call (F__law_take T) (hr.mono (by decide)) rfl T.m__law_take T.F__law_take.kp (b__law_take T) (la_cons (le_var 0) (la_cons (le_int) (la_nil)))) (la_cons (le_call (F__law_take T) (hr.mono (by decide)) rfl T.m__law_take T.F__law_take.kp (b__law_take T) (la_cons (le_var 0) (la_cons (le_int) (la_nil)))) (la_cons (le_call (F__law_take T) (hr.mono (by decide)) rfl T.m__law_take T.F__law_take.kp (b__law_take T) (la_cons (le_var 0) (la_cons (le_pow (le_int) (le_int)) (la_nil)))) (la_nil))))))))) (lss_one (ls_expr (le_app (le_var 1) (le_ix (le_var 3) (le_call (F__law_take T) (hr.mono (by decide)) rfl T.m__law_take T.F__law_take.kp (b__law_take T) (la_cons (le_var 0) (la_cons (le_int) (la_nil)))))))))) (lss_cons (ls_if (lt_eq hu (le_plus (le_ix (le_var 1) (le_int)) (le_ix (le_var 1) (le_int))) (le_int)) (lss_one (ls_setIx (le_var 1) (le_int) (le_int))) (lss_nil)) (lss_one (ls_ret (le_callTy call_tuple_of sim_tuple rfl T.n_tuple rfl (la_cons (le_var 1) (la_nil)))))))
theorem sc__law_row : FnScope ["_law_pot_here", "_law_most"] ["_law_pot_here", "_law_most"] (defScope s__law_row) := ⟨rfl, rfl, rfl, by decide +kernel, rfl, by decide +kernel, by decide +kernel⟩
theorem b__law_row {Pm : Params} (T : Txt Pm K mg t) : Binds K t.d__law_row ["_law_pot_here", "_law_most"] [] := T.F__law_row.binds fun _ _ _ _ _ _ us hl => by obtain ⟨x0, x1, rfl⟩ := len_2 hl; rfl
theorem F__law_row (T : Txt w.params K mg t) : FnOk P w K mg base CX0 3 t.a__law_row t.d__law_row ["_law_pot_here", "_law_most"] (lift K sp__law_row) := by
  refine fn_ok (T := t__law_row) T.F__law_row sc__law_row len__law_row (fun cdv A outer s H E hr => ?_) rd__law_row
  have hu := hr.units
  exact lss_one (ls_ret (le_compC (fsc := defScope s__law_row) ["_law_pot_here", "_law_most"] ["_law_k", "_law_pot_here"] 1 [0] rfl rfl (li_range1 rfl T.n_range (le_call (F__law_take T) (hr.mono (by decide)) rfl T.m__law_take T.F__law_take.kp (b__law_take T) (la_cons (le_var 0) (la_cons (le_plus (le_var 1) (le_int)) (la_nil))))) (fun cl C s₀ H₀ ex => ⟨lgc_name 0 (show (["_law_k", "_law_pot_here"] : List Str).Nodup from by decide +kernel), lif_nil, le_call (F__law_heard T) (hr.mono (by decide)) rfl T.m__law_heard T.F__law_heard.kp (b__law_heard T) (la_cons (le_var 1) (la_nil))⟩) rfl rfl (by decide +kernel)))
theorem sc__law_parts : FnScope ["_law_found", "_law_grid_here"] ["_law_found", "_law_grid_here"] (defScope s__law_parts) := ⟨rfl, rfl, rfl, by decide +kernel, rfl, by decide +kernel, by decide +kernel⟩
theorem b__law_parts {Pm : Params} (T : Txt Pm K mg t) : Binds K t.d__law_parts ["_law_found", "_law_grid_here"] [] := T.F__law_parts.binds fun _ _ _ _ _ _ us hl => by obtain ⟨x0, x1, rfl⟩ := len_2 hl; rfl
theorem F__law_parts (T : Txt w.params K mg t) : FnOk P w K mg base CX0 1 t.a__law_parts t.d__law_parts ["_law_found", "_law_grid_here"] (lift K sp__law_parts) := by
  refine fn_ok (T := t__law_parts) T.F__law_parts sc__law_parts len__law_parts (fun cdv A outer s H E hr => ?_) rd__law_parts
  have hu := hr.units
  exact lss_cons (ls_if (LW.lt (lw_or (lt_not (lt_val (le_isI rfl T.n_isinstance rfl (le_var 0) rfl T.n_tuple rfl))) (lw_or1 (lt_ne hu (le_callB call_len2 sim_len rfl T.n_len rfl (la_cons (le_var 0) (la_nil))) (le_int))))) (lss_one (ls_ret (le_neg (le_int)))) (lss_nil)) (lss_cons (ls_if (LW.lt (lw_or (lt_not (lt_val (le_isI rfl T.n_isinstance rfl (le_ix (le_var 0) (le_int)) rfl T.n_int rfl))) (lw_or1 (lt_not (lt_val (le_isI rfl T.n_isinstance rfl (le_ix (le_var 0) (le_int)) rfl T.n_int rfl)))))) (lss_one (ls_ret (le_neg (le_int)))) (lss_nil)) (lss_cons (ls_if (LW.lt (lw_or (lt_lt (le_ix (le_var 0) (le_int)) (le_int)) (lw_or1 (lt_ne hu (le_mod (le_var 1) (le_ix (le_var 0) (le_int))) (le_int))))) (lss_one (ls_ret (le_neg (le_int)))) (lss_nil)) (lss_one (ls_ret (le_mul (le_ix (le_var 0) (le_int)) (le_div (le_var 1) (le_ix (le_var 0) (le_int))))))))
theorem sc__law_less : FnScope ["_law_pot_here", "_law_thing", "_law_top", "_law_bottom_here", "_law_fold"] ["_law_pot_here", "_law_thing"] (defScope s__law_less) := ⟨rfl, rfl, rfl, by decide +kernel, rfl, by decide +kernel, by decide +kernel⟩
theorem b__law_less {Pm : Params} (T : Txt Pm K mg t) : Binds K t.d__law_less ["_law_pot_here", "_law_thing"] [] := T.F__law_less.binds fun _ _ _ _ _ _ us hl => by obtain ⟨x0, x1, rfl⟩ := len_2 hl; rfl
theorem F__law_less (T : Txt w.params K mg t) : FnOk P w K mg base CX0 2 t.a__law_less t.d__law_less ["_law_pot_here", "_law_thing"] (lift K sp__law_less) := by
  refine fn_ok (T := t__law_less) T.F__law_less sc__law_less len__law_less (fun cdv A outer s H E hr => ?_) rd__law_less
  have hu := hr.units
  exact lss_cons (ls_asg (le_var 1) (lg_tup rfl (lgs_cons 2 sc__law_less.nd (lgs_cons 3 sc__law_less.nd (lgs_nil))))) (lss_cons (ls_if (lt_eq hu (le_call (F__law_take T) (hr.mono (by decide)) rfl T.m__law_take T.F__law_take.kp (b__law_take T) (la_cons (le_var 0) (la_cons (le_int) (la_nil)))) (le_int)) (lss_one (ls_ret (le_var 1))) (lss_nil)) (lss_cons (ls_set 4 sc__law_less.nd (le_plus (le_int) (le_call (F__law_take T) (hr.mono (by decide)) rfl T.m__law_take T.F__law_take.kp (b__law_take T) (la_cons (le_var 0) (la_cons (le_int) (la_nil)))))) (lss_one (ls_ret (le_call (F__law_low T) (hr.mono (by decide)) rfl T.m__law_low T.F__law_low.kp (b__law_low T) (la_cons (le_callB (call_max2 rfl) sim_max2 rfl T.n_max rfl (la_cons (le_int) (la_cons (le_div (le_mul (le_var 2) (le_var 4)) (le_int)) (la_nil)))) (la_cons (le_var 3) (la_nil))))))))
theorem sc__law_between_one : FnScope ["_law_pot_here", "_law_thing", "_law_top", "_law_bottom_here"] ["_law_pot_here", "_law_thing"] (defScope s__law_between_one) := ⟨rfl, rfl, rfl, by decide +kernel, rfl, by decide +kernel, by decide +kernel⟩
theorem b__law_between_one {Pm : Params} (T : Txt Pm K mg t) : Binds K t.d__law_between_one ["_law_pot_here", "_law_thing"] [] := T.F__law_between_one.binds fun _ _ _ _ _ _ us hl => by obtain ⟨x0, x1, rfl⟩ := len_2 hl; rfl
theorem F__law_between_one (T : Txt w.params K mg t) : FnOk P w K mg base CX0 2 t.a__law_between_one t.d__law_between_one ["_law_pot_here", "_law_thing"] (lift K sp__law_between_one) := by
  refine fn_ok (T := t__law_between_one) T.F__law_between_one sc__law_between_one len__law_between_one (fun cdv A outer s H E hr => ?_) rd__law_between_one
  have hu := hr.units
  exact lss_cons (ls_asg (le_var 1) (lg_tup rfl (lgs_cons 2 sc__law_between_one.nd (lgs_cons 3 sc__law_between_one.nd (lgs_nil))))) (lss_one (ls_ret (le_call (F__law_low T) (hr.mono (by decide)) rfl T.m__law_low T.F__law_low.kp (b__law_low T) (la_cons (le_plus (le_var 3) (le_call (F__law_take T) (hr.mono (by decide)) rfl T.m__law_take T.F__law_take.kp (b__law_take T) (la_cons (le_var 0) (la_cons (le_plus (le_sub (le_var 2) (le_var 3)) (le_int)) (la_nil))))) (la_cons (le_var 3) (la_nil))))))
theorem sc__law_gentle : FnScope ["_law_pot_here", "_law_rule_here", "_law_word", "_law_top", "_law_w", "_law_up"] ["_law_pot_here", "_law_rule_here"] (defScope s__law_gentle) := ⟨rfl, rfl, rfl, by decide +kernel, rfl, by decide +kernel, by decide +kernel⟩
theorem b__law_gentle {Pm : Params} (T : Txt Pm K mg t) : Binds K t.d__law_gentle ["_law_pot_here", "_law_rule_here"] [] := T.F__law_gentle.binds fun _ _ _ _ _ _ us hl => by obtain ⟨x0, x1, rfl⟩ := len_2 hl; rfl
theorem F__law_gentle (T : Txt w.params K mg t) : FnOk P w K mg base CX0 3 t.a__law_gentle t.d__law_gentle ["_law_pot_here", "_law_rule_here"] (lift K sp__law_gentle) := by
  refine fn_ok (T := t__law_gentle) T.F__law_gentle sc__law_gentle len__law_gentle (fun cdv A outer s H E hr => ?_) rd__law_gentle
  have hu := hr.units
  exact lss_cons (ls_set 2 sc__law_gentle.nd (le_ix (le_var 1) (le_int))) (lss_cons (ls_if (lt_eq hu (le_call (F__law_take T) (hr.mono (by decide)) rfl T.m__law_take T.F__law_take.kp (b__law_take T) (la_cons (le_var 0) (la_cons (le_int) (la_nil)))) (le_int)) (lss_one (ls_ret (le_var 1))) (lss_nil)) (lss_cons (ls_set 3 sc__law_gentle.nd (le_call (F__law_between_one T) (hr.mono (by decide)) rfl T.m__law_between_one T.F__law_between_one.kp (b__law_between_one T) (la_cons (le_var 0) (la_cons (le_ix (le_var 1) (le_neg (le_int))) (la_nil))))) (lss_cons (ls_set 4 sc__law_gentle.nd (le_call (F__law_between_one T) (hr.mono (by decide)) rfl T.m__law_between_one T.F__law_between_one.kp (b__law_between_one T) (la_cons (le_var 0) (la_cons (le_ix (le_var 1) (le_int)) (la_nil))))) (lss_cons (ls_if (lt_gt (le_mul (le_ix (le_var 4) (le_int)) (le_ix (le_var 3) (le_int))) (le_mul (le_ix (le_var 3) (le_int)) (le_ix (le_var 4) (le_int)))) (lss_one (ls_set 4 sc__law_gentle.nd (le_var 3))) (lss_nil)) (lss_cons (ls_if (lt_eq hu (le_var 2) (le_str)) (lss_one (ls_ret (le_tup (la_cons (le_var 2) (la_cons (le_var 4) (la_nil)))))) (lss_nil)) (lss_cons (ls_if (lt_eq hu (le_var 2) (le_str)) (lss_one (ls_ret (le_tup (la_cons (le_var 2) (la_cons (le_var 4) (la_cons (le_ix (le_var 1) (le_int)) (la_cons (le_ix (le_var 1) (le_int)) (la_cons (le_ix (le_var 1) (le_int)) (la_cons (le_var 3) (la_nil)))))))))) (lss_nil)) (lss_cons (ls_if (lt_eq hu (le_var 2) (le_str)) (lss_one (ls_ret (le_tup (la_cons (le_var 2) (la_cons (le_var 4) (la_cons (le_call (F__law_less T) (hr.mono (by decide)) rfl T.m__law_less T.F__law_less.kp (b__law_less T) (la_cons (le_var 0) (la_cons (le_ix (le_var 1) (le_int)) (la_nil)))) (la_cons (le_ix (le_var 1) (le_int)) (la_cons (le_var 3) (la_nil))))))))) (lss_nil)) (lss_cons (ls_set 5 sc__law_gentle.nd (le_call (F__law_less T) (hr.mono (by decide)) rfl T.m__law_less T.F__law_less.kp (b__law_less T) (la_cons (le_var 0) (la_cons (le_ix (le_var 1) (le_int)) (la_nil))))) (lss_cons (ls_if (LW.lt (lw_and (lt_eq hu (le_var 2) (le_str)) (lw_and1 (lt_le (le_ix (le_var 5) (le_int)) (le_ix (le_var 5) (le_int)))))) (lss_one (ls_set 5 sc__law_gentle.nd (le_ix (le_var 1) (le_int)))) (lss_nil)) (lss_one (ls_ret (le_tup (la_cons (le_var 2) (la_cons (le_var 4) (la_cons (le_var 5) (la_cons (le_call (F__law_less T) (hr.mono (by decide)) rfl T.m__law_less T.F__law_less.kp (b__law_less T) (la_cons (le_var 0) (la_cons (le_ix (le_var 1) (le_int)) (la_nil)))) (la_cons (le_var 3) (la_nil))))))))))))))))))
theorem sc__law_right : FnScope ["_law_grid_here", "_law_rules", "_law_starts", "_law_row_here", "_law_one", "_law_other", "_law_heard_here", "_law_here", "_law_there"] ["_law_grid_here", "_law_rules", "_law_starts", "_law_row_here"] (defScope s__law_right) := ⟨rfl, rfl, rfl, by decide +kernel, rfl, by decide +kernel, by decide +kernel⟩
theorem b__law_right {Pm : Params} (T : Txt Pm K mg t) : Binds K t.d__law_right ["_law_grid_here", "_law_rules", "_law_starts", "_law_row_here"] [] := T.F__law_right.binds fun _ _ _ _ _ _ us hl => by obtain ⟨x0, x1, x2, x3, rfl⟩ := len_4 hl; rfl
theorem F__law_right (T : Txt w.params K mg t) : FnOk P w K mg base CX0 6 t.a__law_right t.d__law_right ["_law_grid_here", "_law_rules", "_law_starts", "_law_row_here"] (lift K sp__law_right) := by
  refine fn_ok (T := t__law_right) T.F__law_right sc__law_right len__law_right (fun cdv A outer s H E hr => ?_) rd__law_right
  have hu := hr.units
  exact lss_cons (ls_asg (le_var 2) (lg_tup rfl (lgs_cons 4 sc__law_right.nd (lgs_cons 5 sc__law_right.nd (lgs_nil))))) (lss_cons (ls_for PassesOwn.never rfl (li_seq (le_plus (le_lsV (la_cons (le_tup (la_cons (le_int) (la_cons (le_int) (la_cons (le_int) (la_cons (le_int) (la_nil)))))) (la_nil))) (le_var 3))) (lg_name 6 sc__law_right.nd) (lss_cons (ls_set 4 sc__law_right.nd (le_call (F_heard_by T) (hr.mono (by decide)) rfl T.m_heard_by T.F_heard_by.kp (b_heard_by T) (la_cons (le_ix (le_var 1) (le_int)) (la_cons (le_var 0) (la_cons (le_ix (le_var 4) (le_int)) (la_cons (le_ix (le_var 4) (le_int)) (la_cons (le_var 6) (la_nil)))))))) (lss_cons (ls_set 5 sc__law_right.nd (le_call (F_heard_by T) (hr.mono (by decide)) rfl T.m_heard_by T.F_heard_by.kp (b_heard_by T) (la_cons (le_ix (le_var 1) (le_int)) (la_cons (le_var 0) (la_cons (le_ix (le_var 5) (le_int)) (la_cons (le_ix (le_var 5) (le_int)) (la_cons (le_var 6) (la_nil)))))))) (lss_cons (ls_par 7 8 rfl sc__law_right.nd (la_cons (le_call (F__law_parts T) (hr.mono (by decide)) rfl T.m__law_parts T.F__law_parts.kp (b__law_parts T) (la_cons (le_ix (le_var 4) (le_int)) (la_cons (le_var 0) (la_nil)))) (la_cons (le_call (F__law_parts T) (hr.mono (by decide)) rfl T.m__law_parts T.F__law_parts.kp (b__law_parts T) (la_cons (le_ix (le_var 5) (le_int)) (la_cons (le_var 0) (la_nil)))) (la_nil)))) (lss_one (ls_if (LW.lt (lw_or (lt_lt (le_var 7) (le_var 0)) (lw_or (lt_gt (le_var 7) (le_var 8)) (lw_or1 (lt_ne hu (le_ix (le_var 4) (le_int)) (le_ix (le_var 5) (le_int))))))) (lss_one (ls_ret (le_bl))) (lss_nil))))))) (lss_one (ls_ret (le_bl))))
theorem sc_law : FnScope ["_law_script", "_law_words", "_law_k", "_law_pot_here", "_law_rule_here", "_law_other", "_law_grid_here", "_law_row_here", "_law_starts", "_law_far", "_law_one", "_law_most"] ["_law_script"] (defScope s_law) := ⟨rfl, rfl, rfl, by decide +kernel, rfl, by decide +kernel, by decide +kernel⟩
theorem F_law (T : Txt w.params K mg t) : FnOk P w K mg base CX0 7 t.a_law t.d_law ["_law_script"] (lift K sp_law) := by
  refine fn_ok (T := t_law) T.F_law sc_law len_law (fun cdv A outer s H E hr => ?_) rd_law
  have hu := hr.units
  exact lss_cons (ls_set 1 sc_law.nd (le_lsV (la_cons (le_str) (la_cons (le_str) (la_cons (le_str) (la_cons (le_str) (la_cons (le_str) (la_cons (le_str) (la_cons (le_str) (la_nil)))))))))) (lss_cons (ls_for PassesOwn.never rfl (li_range1 rfl T.n_range (le_callB (call_max2 rfl) sim_max2 rfl T.n_max rfl (la_cons (le_int) (la_cons (le_callB (call_min2 rfl) sim_min2 rfl T.n_min rfl (la_cons (le_int) (la_cons (le_callB call_len2 sim_len rfl T.n_len rfl (la_cons (le_var 0) (la_nil))) (la_nil)))) (la_nil))))) (lg_name 2 sc_law.nd) (lss_cons (ls_set 3 sc_law.nd (le_call (F__law_pot T) (hr.mono (by decide)) rfl T.m__law_pot T.F__law_pot.kp (b__law_pot T) (la_cons (le_var 0) (la_cons (le_var 2) (la_nil))))) (lss_cons (ls_set 4 sc_law.nd (le_call (F__law_any_rule T) (hr.mono (by decide)) rfl T.m__law_any_rule T.F__law_any_rule.kp (b__law_any_rule T) (la_cons (le_var 3) (la_cons (le_ix (le_var 1) (le_call (F__law_take T) (hr.mono (by decide)) rfl T.m__law_take T.F__law_take.kp (b__law_take T) (la_cons (le_var 3) (la_cons (le_int) (la_nil))))) (la_nil))))) (lss_cons (ls_set 5 sc_law.nd (le_call (F__law_gentle T) (hr.mono (by decide)) rfl T.m__law_gentle T.F__law_gentle.kp (b__law_gentle T) (la_cons (le_var 3) (la_cons (le_var 4) (la_nil))))) (lss_cons (ls_set 6 sc_law.nd (le_call (F__law_grid T) (hr.mono (by decide)) rfl T.m__law_grid T.F__law_grid.kp (b__law_grid T) (la_cons (le_var 3) (la_nil)))) (lss_cons (ls_if (LW.lt (lw_or (lt_notB (le_call (F_gentler T) (hr.mono (by decide)) rfl T.m_gentler T.F_gentler.kp (b_gentler T) (la_cons (le_var 5) (la_cons (le_var 4) (la_nil)))) (le_bl)) (lw_or1 (lt_notB (le_call (F_gentler T) (hr.mono (by decide)) rfl T.m_gentler T.F_gentler.kp (b_gentler T) (la_cons (le_var 4) (la_cons (le_var 4) (la_nil)))) (le_bl))))) (lss_one (ls_ret (le_bl))) (lss_nil)) (lss_cons (ls_set 7 sc_law.nd (le_call (F__law_row T) (hr.mono (by decide)) rfl T.m__law_row T.F__law_row.kp (b__law_row T) (la_cons (le_var 3) (la_cons (le_int) (la_nil))))) (lss_cons (ls_set 8 sc_law.nd (le_tup (la_cons (le_call (F_begun_by T) (hr.mono (by decide)) rfl T.m_begun_by T.F_begun_by.kp (b_begun_by T) (la_cons (le_var 5) (la_cons (le_var 6) (la_nil)))) (la_cons (le_call (F_begun_by T) (hr.mono (by decide)) rfl T.m_begun_by T.F_begun_by.kp (b_begun_by T) (la_cons (le_var 4) (la_cons (le_var 6) (la_nil)))) (la_nil))))) (lss_cons (ls_if (lt_not (lt_val (le_call (F__law_right T) (hr.mono (by decide)) rfl T.m__law_right T.F__law_right.kp (b__law_right T) (la_cons (le_var 6) (la_cons (le_tup (la_cons (le_var 5) (la_cons (le_var 4) (la_nil)))) (la_cons (le_var 8) (la_cons (le_var 7) (la_nil)))))))) (lss_one (ls_ret (le_bl))) (lss_nil)) (lss_cons (ls_set 9 sc_law.nd (le_sub (le_div (le_mul (le_ix (le_ix (le_var 5) (le_neg (le_int))) (le_int)) (le_var 6)) (le_ix (le_ix (le_var 5) (le_neg (le_int))) (le_int))) (le_var 6))) (lss_cons (ls_set 10 sc_law.nd (le_tup (la_cons (le_call (F__law_low T) (hr.mono (by decide)) rfl T.m__law_low T.F__law_low.kp (b__law_low T) (la_cons (le_plus (le_var 6) (le_call (F__law_take T) (hr.mono (by decide)) rfl T.m__law_take T.F__law_take.kp (b__law_take T) (la_cons (le_var 3) (la_cons (le_plus (le_var 9) (le_int)) (la_nil))))) (la_cons (le_var 6) (la_nil)))) (la_cons (le_tup (la_cons (le_int) (la_cons (le_int) (la_nil)))) (la_nil))))) (lss_cons (ls_set 11 sc_law.nd (le_tup (la_cons (le_call (F__law_low T) (hr.mono (by decide)) rfl T.m__law_low T.F__law_low.kp (b__law_low T) (la_cons (le_div (le_mul (le_ix (le_ix (le_var 4) (le_neg (le_int))) (le_int)) (le_var 6)) (le_ix (le_ix (le_var 4) (le_neg (le_int))) (le_int))) (la_cons (le_var 6) (la_nil)))) (la_cons (le_tup (la_cons (le_int) (la_cons (le_int) (la_nil)))) (la_nil))))) (lss_cons (ls_set 8 sc_law.nd (le_tup (la_cons (le_var 10) (la_cons (le_var 11) (la_nil))))) (lss_one (ls_if (LW.lt (lw_and (lt_ne hu (le_ix (le_var 4) (le_int)) (le_str)) (lw_and1 (lt_not (lt_val (le_call (F__law_right T) (hr.mono (by decide)) rfl T.m__law_right T.F__law_right.kp (b__law_right T) (la_cons (le_var 6) (la_cons (le_tup (la_cons (le_var 5) (la_cons (le_var 4) (la_nil)))) (la_cons (le_var 8) (la_cons (le_var 7) (la_nil))))))))))) (lss_one (ls_ret (le_bl))) (lss_nil)))))))))))))))) (lss_one (ls_ret (le_bl))))
end
theorem all_mk {l : PySem.W.OpenLaw} {w : World} {K : PySem.W.Frag} {h : Heap} {mg : Str → Option Value} {fa f0 f1 f2 f3 f4 f5 f6 f7 f8 f9 f10 f11 f12 f13 f14 f15 f16 f17 f18 f19 f20 f21 f22 f23 f24 f25 f26 f27 f28 f29 f30 f31 f32 f33 f34 : Addr} (X : K.In h) (G : h.Ns mainGlobals mg) (hfa : mg "law" = some (.ref fa))
    {oc0 kV0 dc0 pm0 cd0 ct0 : Value} {od0 an0 : Option Addr} {sl0 : Array (Option Value)}
    {oc1 kV1 dc1 pm1 cd1 ct1 : Value} {od1 an1 : Option Addr} {sl1 : Array (Option Value)}
    {oc2 kV2 dc2 pm2 cd2 ct2 : Value} {od2 an2 : Option Addr} {sl2 : Array (Option Value)}
    {oc3 kV3 dc3 pm3 cd3 ct3 : Value} {od3 an3 : Option Addr} {sl3 : Array (Option Value)}
    {oc4 kV4 dc4 pm4 cd4 ct4 : Value} {od4 an4 : Option Addr} {sl4 : Array (Option Value)}
    {oc5 kV5 dc5 pm5 cd5 ct5 : Value} {od5 an5 : Option Addr} {sl5 : Array (Option Value)}
    {oc6 kV6 dc6 pm6 cd6 ct6 : Value} {od6 an6 : Option Addr} {sl6 : Array (Option Value)}
    {oc7 kV7 dc7 pm7 cd7 ct7 : Value} {od7 an7 : Option Addr} {sl7 : Array (Option Value)}
    {oc8 kV8 dc8 pm8 cd8 ct8 : Value} {od8 an8 : Option Addr} {sl8 : Array (Option Value)}
    {oc9 kV9 dc9 pm9 cd9 ct9 : Value} {od9 an9 : Option Addr} {sl9 : Array (Option Value)}
    {oc10 kV10 dc10 pm10 cd10 ct10 : Value} {od10 an10 : Option Addr} {sl10 : Array (Option Value)}
    {oc11 kV11 dc11 pm11 cd11 ct11 : Value} {od11 an11 : Option Addr} {sl11 : Array (Option Value)}
    {oc12 kV12 dc12 pm12 cd12 ct12 : Value} {od12 an12 : Option Addr} {sl12 : Array (Option Value)}
    {oc13 kV13 dc13 pm13 cd13 ct13 : Value} {od13 an13 : Option Addr} {sl13 : Array (Option Value)}
    {oc14 kV14 dc14 pm14 cd14 ct14 : Value} {od14 an14 : Option Addr} {sl14 : Array (Option Value)}
    {oc15 kV15 dc15 pm15 cd15 ct15 : Value} {od15 an15 : Option Addr} {sl15 : Array (Option Value)}
    {oc16 kV16 dc16 pm16 cd16 ct16 : Value} {od16 an16 : Option Addr} {sl16 : Array (Option Value)}
    {oc17 kV17 dc17 pm17 cd17 ct17 : Value} {od17 an17 : Option Addr} {sl17 : Array (Option Value)}
    {oc18 kV18 dc18 pm18 cd18 ct18 : Value} {od18 an18 : Option Addr} {sl18 : Array (Option Value)}
    {oc19 kV19 dc19 pm19 cd19 ct19 : Value} {od19 an19 : Option Addr} {sl19 : Array (Option Value)}
    {oc20 kV20 dc20 pm20 cd20 ct20 : Value} {od20 an20 : Option Addr} {sl20 : Array (Option Value)}
    {oc21 kV21 dc21 pm21 cd21 ct21 : Value} {od21 an21 : Option Addr} {sl21 : Array (Option Value)}
    {oc22 kV22 dc22 pm22 cd22 ct22 : Value} {od22 an22 : Option Addr} {sl22 : Array (Option Value)}
    {oc23 kV23 dc23 pm23 cd23 ct23 : Value} {od23 an23 : Option Addr} {sl23 : Array (Option Value)}
    {oc24 kV24 dc24 pm24 cd24 ct24 : Value} {od24 an24 : Option Addr} {sl24 : Array (Option Value)}
    {oc25 kV25 dc25 pm25 cd25 ct25 : Value} {od25 an25 : Option Addr} {sl25 : Array (Option Value)}
    {oc26 kV26 dc26 pm26 cd26 ct26 : Value} {od26 an26 : Option Addr} {sl26 : Array (Option Value)}
    {oc27 kV27 dc27 pm27 cd27 ct27 : Value} {od27 an27 : Option Addr} {sl27 : Array (Option Value)}
    {oc28 kV28 dc28 pm28 cd28 ct28 : Value} {od28 an28 : Option Addr} {sl28 : Array (Option Value)}
    {oc29 kV29 dc29 pm29 cd29 ct29 : Value} {od29 an29 : Option Addr} {sl29 : Array (Option Value)}
    {oc30 kV30 dc30 pm30 cd30 ct30 : Value} {od30 an30 : Option Addr} {sl30 : Array (Option Value)}
    {oc31 kV31 dc31 pm31 cd31 ct31 : Value} {od31 an31 : Option Addr} {sl31 : Array (Option Value)}
    {oc32 kV32 dc32 pm32 cd32 ct32 : Value} {od32 an32 : Option Addr} {sl32 : Array (Option Value)}
    {oc33 kV33 dc33 pm33 cd33 ct33 : Value} {od33 an33 : Option Addr} {sl33 : Array (Option Value)}
    {oc34 kV34 dc34 pm34 cd34 ct34 : Value} {od34 an34 : Option Addr} {sl34 : Array (Option Value)}
    {gp0 : Addr} {go0 : Obj} {gn0 : Nat} {gt0_0 gt0_1 : Tok}
    {gp1 : Addr} {go1 : Obj} {gn1 : Nat} {gt1_0 gt1_1 : Tok}
    {gp2 : Addr} {go2 : Obj} {gn2 : Nat} {gt2_0 gt2_1 : Tok}
    {tp0 : Addr} {te0 : List DictEntry} {tn0 : Nat}
    (a0 : PySem.W.nsIn K mainGlobals "common_of" = some (some (.ref f0))) (l0 : K.lookup f0 = some ⟨oc0, od0, .func (PySem.W.fnOf "common_of" "common_of" (defArgs s_common_of) (defBody s_common_of) (defScope s_common_of) .none kV0 dc0 pm0 an0 cd0 ct0), sl0⟩) (c0 : PySem.W.codeIn K cd0 "common_of" = true) (k0 : PySem.W.keepIn K (.ref f0) = true)
    (a1 : PySem.W.nsIn K mainGlobals "part" = some (some (.ref f1))) (l1 : K.lookup f1 = some ⟨oc1, od1, .func (PySem.W.fnOf "part" "part" (defArgs s_part) (defBody s_part) (defScope s_part) .none kV1 dc1 pm1 an1 cd1 ct1), sl1⟩) (c1 : PySem.W.codeIn K cd1 "part" = true) (k1 : PySem.W.keepIn K (.ref f1) = true)
    (a2 : PySem.W.nsIn K mainGlobals "plus" = some (some (.ref f2))) (l2 : K.lookup f2 = some ⟨oc2, od2, .func (PySem.W.fnOf "plus" "plus" (defArgs s_plus) (defBody s_plus) (defScope s_plus) .none kV2 dc2 pm2 an2 cd2 ct2), sl2⟩) (c2 : PySem.W.codeIn K cd2 "plus" = true) (k2 : PySem.W.keepIn K (.ref f2) = true)
    (a3 : PySem.W.nsIn K mainGlobals "minus" = some (some (.ref f3))) (l3 : K.lookup f3 = some ⟨oc3, od3, .func (PySem.W.fnOf "minus" "minus" (defArgs s_minus) (defBody s_minus) (defScope s_minus) .none kV3 dc3 pm3 an3 cd3 ct3), sl3⟩) (c3 : PySem.W.codeIn K cd3 "minus" = true) (k3 : PySem.W.keepIn K (.ref f3) = true)
    (a4 : PySem.W.nsIn K mainGlobals "times" = some (some (.ref f4))) (l4 : K.lookup f4 = some ⟨oc4, od4, .func (PySem.W.fnOf "times" "times" (defArgs s_times) (defBody s_times) (defScope s_times) .none kV4 dc4 pm4 an4 cd4 ct4), sl4⟩) (c4 : PySem.W.codeIn K cd4 "times" = true) (k4 : PySem.W.keepIn K (.ref f4) = true)
    (a5 : PySem.W.nsIn K mainGlobals "less" = some (some (.ref f5))) (l5 : K.lookup f5 = some ⟨oc5, od5, .func (PySem.W.fnOf "less" "less" (defArgs s_less) (defBody s_less) (defScope s_less) .none kV5 dc5 pm5 an5 cd5 ct5), sl5⟩) (c5 : PySem.W.codeIn K cd5 "less" = true) (k5 : PySem.W.keepIn K (.ref f5) = true)
    (a6 : PySem.W.nsIn K mainGlobals "cut_by" = some (some (.ref f6))) (l6 : K.lookup f6 = some ⟨oc6, od6, .func (PySem.W.fnOf "cut_by" "cut_by" (defArgs s_cut_by) (defBody s_cut_by) (defScope s_cut_by) .none kV6 dc6 pm6 an6 cd6 ct6), sl6⟩) (c6 : PySem.W.codeIn K cd6 "cut_by" = true) (k6 : PySem.W.keepIn K (.ref f6) = true)
    (a7 : PySem.W.nsIn K mainGlobals "top_of" = some (some (.ref f7))) (l7 : K.lookup f7 = some ⟨oc7, od7, .func (PySem.W.fnOf "top_of" "top_of" (defArgs s_top_of) (defBody s_top_of) (defScope s_top_of) .none kV7 dc7 pm7 an7 cd7 ct7), sl7⟩) (c7 : PySem.W.codeIn K cd7 "top_of" = true) (k7 : PySem.W.keepIn K (.ref f7) = true)
    (a8 : PySem.W.nsIn K mainGlobals "begun_by" = some (some (.ref f8))) (l8 : K.lookup f8 = some ⟨oc8, od8, .func (PySem.W.fnOf "begun_by" "begun_by" (defArgs s_begun_by) (defBody s_begun_by) (defScope s_begun_by) .none kV8 dc8 pm8 an8 cd8 ct8), sl8⟩) (c8 : PySem.W.codeIn K cd8 "begun_by" = true) (k8 : PySem.W.keepIn K (.ref f8) = true)
    (a9 : PySem.W.nsIn K mainGlobals "is_idle" = some (some (.ref f9))) (l9 : K.lookup f9 = some ⟨oc9, od9, .func (PySem.W.fnOf "is_idle" "is_idle" (defArgs s_is_idle) (defBody s_is_idle) (defScope s_is_idle) .none kV9 dc9 pm9 an9 cd9 ct9), sl9⟩) (c9 : PySem.W.codeIn K cd9 "is_idle" = true) (k9 : PySem.W.keepIn K (.ref f9) = true)
    (a10 : PySem.W.nsIn K mainGlobals "share_behind" = some (some (.ref f10))) (l10 : K.lookup f10 = some ⟨oc10, od10, .func (PySem.W.fnOf "share_behind" "share_behind" (defArgs s_share_behind) (defBody s_share_behind) (defScope s_share_behind) .none kV10 dc10 pm10 an10 cd10 ct10), sl10⟩) (c10 : PySem.W.codeIn K cd10 "share_behind" = true) (k10 : PySem.W.keepIn K (.ref f10) = true)
    (a11 : PySem.W.nsIn K mainGlobals "factor_of" = some (some (.ref f11))) (l11 : K.lookup f11 = some ⟨oc11, od11, .func (PySem.W.fnOf "factor_of" "factor_of" (defArgs s_factor_of) (defBody s_factor_of) (defScope s_factor_of) .none kV11 dc11 pm11 an11 cd11 ct11), sl11⟩) (c11 : PySem.W.codeIn K cd11 "factor_of" = true) (k11 : PySem.W.keepIn K (.ref f11) = true)
    (a12 : PySem.W.nsIn K mainGlobals "moved" = some (some (.ref f12))) (l12 : K.lookup f12 = some ⟨oc12, od12, .func (PySem.W.fnOf "moved" "moved" (defArgs s_moved) (defBody s_moved) (defScope s_moved) .none kV12 dc12 pm12 an12 cd12 ct12), sl12⟩) (c12 : PySem.W.codeIn K cd12 "moved" = true) (k12 : PySem.W.keepIn K (.ref f12) = true)
    (a13 : PySem.W.nsIn K mainGlobals "held" = some (some (.ref f13))) (l13 : K.lookup f13 = some ⟨oc13, od13, .func (PySem.W.fnOf "held" "held" (defArgs s_held) (defBody s_held) (defScope s_held) .none kV13 dc13 pm13 an13 cd13 ct13), sl13⟩) (c13 : PySem.W.codeIn K cd13 "held" = true) (k13 : PySem.W.keepIn K (.ref f13) = true)
    (a14 : PySem.W.nsIn K mainGlobals "heard_by" = some (some (.ref f14))) (l14 : K.lookup f14 = some ⟨oc14, od14, .func (PySem.W.fnOf "heard_by" "heard_by" (defArgs s_heard_by) (defBody s_heard_by) (defScope s_heard_by) .none kV14 dc14 pm14 an14 cd14 ct14), sl14⟩) (c14 : PySem.W.codeIn K cd14 "heard_by" = true) (k14 : PySem.W.keepIn K (.ref f14) = true)
    (a15 : PySem.W.nsIn K mainGlobals "gentler" = some (some (.ref f15))) (l15 : K.lookup f15 = some ⟨oc15, od15, .func (PySem.W.fnOf "gentler" "gentler" (defArgs s_gentler) (defBody s_gentler) (defScope s_gentler) .none kV15 dc15 pm15 an15 cd15 ct15), sl15⟩) (c15 : PySem.W.codeIn K cd15 "gentler" = true) (k15 : PySem.W.keepIn K (.ref f15) = true)
    (a16 : PySem.W.nsIn K mainGlobals "_law_pot" = some (some (.ref f16))) (l16 : K.lookup f16 = some ⟨oc16, od16, .func (PySem.W.fnOf "_law_pot" "_law_pot" (defArgs s__law_pot) (defBody s__law_pot) (defScope s__law_pot) .none kV16 dc16 pm16 an16 cd16 ct16), sl16⟩) (c16 : PySem.W.codeIn K cd16 "_law_pot" = true) (k16 : PySem.W.keepIn K (.ref f16) = true)
    (a17 : PySem.W.nsIn K mainGlobals "_law_take" = some (some (.ref f17))) (l17 : K.lookup f17 = some ⟨oc17, od17, .func (PySem.W.fnOf "_law_take" "_law_take" (defArgs s__law_take) (defBody s__law_take) (defScope s__law_take) .none kV17 dc17 pm17 an17 cd17 ct17), sl17⟩) (c17 : PySem.W.codeIn K cd17 "_law_take" = true) (k17 : PySem.W.keepIn K (.ref f17) = true)
    (a18 : PySem.W.nsIn K mainGlobals "_law_low" = some (some (.ref f18))) (l18 : K.lookup f18 = some ⟨oc18, od18, .func (PySem.W.fnOf "_law_low" "_law_low" (defArgs s__law_low) (defBody s__law_low) (defScope s__law_low) .none kV18 dc18 pm18 an18 cd18 ct18), sl18⟩) (c18 : PySem.W.codeIn K cd18 "_law_low" = true) (k18 : PySem.W.keepIn K (.ref f18) = true)
    (a19 : PySem.W.nsIn K mainGlobals "_law_bottom" = some (some (.ref f19))) (l19 : K.lookup f19 = some ⟨oc19, od19, .func (PySem.W.fnOf "_law_bottom" "_law_bottom" (defArgs s__law_bottom) (defBody s__law_bottom) (defScope s__law_bottom) .none kV19 dc19 pm19 an19 cd19 ct19), sl19⟩) (c19 : PySem.W.codeIn K cd19 "_law_bottom" = true) (k19 : PySem.W.keepIn K (.ref f19) = true)
    (a20 : PySem.W.nsIn K mainGlobals "_law_between" = some (some (.ref f20))) (l20 : K.lookup f20 = some ⟨oc20, od20, .func (PySem.W.fnOf "_law_between" "_law_between" (defArgs s__law_between) (defBody s__law_between) (defScope s__law_between) .none kV20 dc20 pm20 an20 cd20 ct20), sl20⟩) (c20 : PySem.W.codeIn K cd20 "_law_between" = true) (k20 : PySem.W.keepIn K (.ref f20) = true)
    (a21 : PySem.W.nsIn K mainGlobals "_law_above" = some (some (.ref f21))) (l21 : K.lookup f21 = some ⟨oc21, od21, .func (PySem.W.fnOf "_law_above" "_law_above" (defArgs s__law_above) (defBody s__law_above) (defScope s__law_above) .none kV21 dc21 pm21 an21 cd21 ct21), sl21⟩) (c21 : PySem.W.codeIn K cd21 "_law_above" = true) (k21 : PySem.W.keepIn K (.ref f21) = true)
    (a22 : PySem.W.nsIn K mainGlobals "_law_less_than_one" = some (some (.ref f22))) (l22 : K.lookup f22 = some ⟨oc22, od22, .func (PySem.W.fnOf "_law_less_than_one" "_law_less_than_one" (defArgs s__law_less_than_one) (defBody s__law_less_than_one) (defScope s__law_less_than_one) .none kV22 dc22 pm22 an22 cd22 ct22), sl22⟩) (c22 : PySem.W.codeIn K cd22 "_law_less_than_one" = true) (k22 : PySem.W.keepIn K (.ref f22) = true)
    (a23 : PySem.W.nsIn K mainGlobals "_law_rule" = some (some (.ref f23))) (l23 : K.lookup f23 = some ⟨oc23, od23, .func (PySem.W.fnOf "_law_rule" "_law_rule" (defArgs s__law_rule) (defBody s__law_rule) (defScope s__law_rule) .none kV23 dc23 pm23 an23 cd23 ct23), sl23⟩) (c23 : PySem.W.codeIn K cd23 "_law_rule" = true) (k23 : PySem.W.keepIn K (.ref f23) = true)
    (a24 : PySem.W.nsIn K mainGlobals "_law_plain" = some (some (.ref f24))) (l24 : K.lookup f24 = some ⟨oc24, od24, .func (PySem.W.fnOf "_law_plain" "_law_plain" (defArgs s__law_plain) (defBody s__law_plain) (defScope s__law_plain) .none kV24 dc24 pm24 an24 cd24 ct24), sl24⟩) (c24 : PySem.W.codeIn K cd24 "_law_plain" = true) (k24 : PySem.W.keepIn K (.ref f24) = true)
    (a25 : PySem.W.nsIn K mainGlobals "_law_any_rule" = some (some (.ref f25))) (l25 : K.lookup f25 = some ⟨oc25, od25, .func (PySem.W.fnOf "_law_any_rule" "_law_any_rule" (defArgs s__law_any_rule) (defBody s__law_any_rule) (defScope s__law_any_rule) .none kV25 dc25 pm25 an25 cd25 ct25), sl25⟩) (c25 : PySem.W.codeIn K cd25 "_law_any_rule" = true) (k25 : PySem.W.keepIn K (.ref f25) = true)
    (a26 : PySem.W.nsIn K mainGlobals "_law_grid" = some (some (.ref f26))) (l26 : K.lookup f26 = some ⟨oc26, od26, .func (PySem.W.fnOf "_law_grid" "_law_grid" (defArgs s__law_grid) (defBody s__law_grid) (defScope s__law_grid) .none kV26 dc26 pm26 an26 cd26 ct26), sl26⟩) (c26 : PySem.W.codeIn K cd26 "_law_grid" = true) (k26 : PySem.W.keepIn K (.ref f26) = true)
    (a27 : PySem.W.nsIn K mainGlobals "_law_heard" = some (some (.ref f27))) (l27 : K.lookup f27 = some ⟨oc27, od27, .func (PySem.W.fnOf "_law_heard" "_law_heard" (defArgs s__law_heard) (defBody s__law_heard) (defScope s__law_heard) .none kV27 dc27 pm27 an27 cd27 ct27), sl27⟩) (c27 : PySem.W.codeIn K cd27 "_law_heard" = true) (k27 : PySem.W.keepIn K (.ref f27) = true)
    (a28 : PySem.W.nsIn K mainGlobals "_law_row" = some (some (.ref f28))) (l28 : K.lookup f28 = some ⟨oc28, od28, .func (PySem.W.fnOf "_law_row" "_law_row" (defArgs s__law_row) (defBody s__law_row) (defScope s__law_row) .none kV28 dc28 pm28 an28 cd28 ct28), sl28⟩) (c28 : PySem.W.codeIn K cd28 "_law_row" = true) (k28 : PySem.W.keepIn K (.ref f28) = true)
    (a29 : PySem.W.nsIn K mainGlobals "_law_parts" = some (some (.ref f29))) (l29 : K.lookup f29 = some ⟨oc29, od29, .func (PySem.W.fnOf "_law_parts" "_law_parts" (defArgs s__law_parts) (defBody s__law_parts) (defScope s__law_parts) .none kV29 dc29 pm29 an29 cd29 ct29), sl29⟩) (c29 : PySem.W.codeIn K cd29 "_law_parts" = true) (k29 : PySem.W.keepIn K (.ref f29) = true)
    (a30 : PySem.W.nsIn K mainGlobals "_law_less" = some (some (.ref f30))) (l30 : K.lookup f30 = some ⟨oc30, od30, .func (PySem.W.fnOf "_law_less" "_law_less" (defArgs s__law_less) (defBody s__law_less) (defScope s__law_less) .none kV30 dc30 pm30 an30 cd30 ct30), sl30⟩) (c30 : PySem.W.codeIn K cd30 "_law_less" = true) (k30 : PySem.W.keepIn K (.ref f30) = true)
    (a31 : PySem.W.nsIn K mainGlobals "_law_between_one" = some (some (.ref f31))) (l31 : K.lookup f31 = some ⟨oc31, od31, .func (PySem.W.fnOf "_law_between_one" "_law_between_one" (defArgs s__law_between_one) (defBody s__law_between_one) (defScope s__law_between_one) .none kV31 dc31 pm31 an31 cd31 ct31), sl31⟩) (c31 : PySem.W.codeIn K cd31 "_law_between_one" = true) (k31 : PySem.W.keepIn K (.ref f31) = true)
    (a32 : PySem.W.nsIn K mainGlobals "_law_gentle" = some (some (.ref f32))) (l32 : K.lookup f32 = some ⟨oc32, od32, .func (PySem.W.fnOf "_law_gentle" "_law_gentle" (defArgs s__law_gentle) (defBody s__law_gentle) (defScope s__law_gentle) .none kV32 dc32 pm32 an32 cd32 ct32), sl32⟩) (c32 : PySem.W.codeIn K cd32 "_law_gentle" = true) (k32 : PySem.W.keepIn K (.ref f32) = true)
    (a33 : PySem.W.nsIn K mainGlobals "_law_right" = some (some (.ref f33))) (l33 : K.lookup f33 = some ⟨oc33, od33, .func (PySem.W.fnOf "_law_right" "_law_right" (defArgs s__law_right) (defBody s__law_right) (defScope s__law_right) .none kV33 dc33 pm33 an33 cd33 ct33), sl33⟩) (c33 : PySem.W.codeIn K cd33 "_law_right" = true) (k33 : PySem.W.keepIn K (.ref f33) = true)
    (a34 : PySem.W.nsIn K mainGlobals "law" = some (some (.ref f34))) (l34 : K.lookup f34 = some ⟨oc34, od34, .func (PySem.W.fnOf "law" "law" (defArgs s_law) (defBody s_law) (defScope s_law) .none kV34 dc34 pm34 an34 cd34 ct34), sl34⟩) (c34 : PySem.W.codeIn K cd34 "law" = true) (k34 : PySem.W.keepIn K (.ref f34) = true)
    (z0 : PySem.W.nsIn K mainGlobals "abs" = some none)
    (z1 : PySem.W.nsIn K mainGlobals "int" = some none)
    (z2 : PySem.W.nsIn K mainGlobals "isinstance" = some none)
    (z3 : PySem.W.nsIn K mainGlobals "len" = some none)
    (z4 : PySem.W.nsIn K mainGlobals "max" = some none)
    (z5 : PySem.W.nsIn K mainGlobals "min" = some none)
    (z6 : PySem.W.nsIn K mainGlobals "range" = some none)
    (z7 : PySem.W.nsIn K mainGlobals "tuple" = some none)
    (g0 : PySem.W.nsIn K mainGlobals "HALF" = some (some (.ref gp0))) (gl0 : K.lookup gp0 = some go0) (gc0 : go0.cls = .type "tuple") (gd0 : go0.data = .seq #[.int 1 gt0_0, .int 2 gt0_1] gn0)
    (g1 : PySem.W.nsIn K mainGlobals "NOUGHT" = some (some (.ref gp1))) (gl1 : K.lookup gp1 = some go1) (gc1 : go1.cls = .type "tuple") (gd1 : go1.data = .seq #[.int 0 gt1_0, .int 1 gt1_1] gn1)
    (g2 : PySem.W.nsIn K mainGlobals "ONE" = some (some (.ref gp2))) (gl2 : K.lookup gp2 = some go2) (gc2 : go2.cls = .type "tuple") (gd2 : go2.data = .seq #[.int 1 gt2_0, .int 1 gt2_1] gn2)
    (t0 : PySem.W.nsIn K mainGlobals "MAY_BE_LESS" = some (some (.ref tp0))) (tl0 : K.lookup tp0 = some ⟨.type "dict", none, .dict ⟨te0⟩ tn0, #[]⟩) (tk0 : PySem.W.KeysLit w.params te0) (ts0 : (tp0 == sysModules) = false) (tr0 : rowsV K te0 [((Str.ofString "still"), (.tup [.int 1] : D)), ((Str.ofString "step"), (.tup [.int 1, .int 2, .int 3, .int 4] : D)), ((Str.ofString "swell"), (.tup [.int 1, .int 2, .int 3, .int 4] : D)), ((Str.ofString "heed"), (.tup [.int 1, .int 2, .int 4] : D)), ((Str.ofString "calm"), (.tup [.int 1, .int 5] : D))] = true) :
    ∃ fd : FuncData, (∀ (s : Shared) (v : Value), BindsTo s fd ⟨[v], []⟩ [("_law_script", v)]) ∧ ∀ base : Heap, K.In base → base.Ns mainGlobals mg → FnOk l.prog w K mg base CX0 7 fa fd ["_law_script"] (lift K sp_law) := by
  have e := hfa.symm.trans (PySem.W.mg_of X G a34)
  cases e
  have T : Txt w.params K mg ⟨f0, _, f1, _, f2, _, f3, _, f4, _, f5, _, f6, _, f7, _, f8, _, f9, _, f10, _, f11, _, f12, _, f13, _, f14, _, f15, _, f16, _, f17, _, f18, _, f19, _, f20, _, f21, _, f22, _, f23, _, f24, _, f25, _, f26, _, f27, _, f28, _, f29, _, f30, _, f31, _, f32, _, f33, _, fa, _⟩ := ⟨fun_mk (st := s_common_of) l0 c0 k0, PySem.W.mg_of X G a0, fun_mk (st := s_part) l1 c1 k1, PySem.W.mg_of X G a1, fun_mk (st := s_plus) l2 c2 k2, PySem.W.mg_of X G a2, fun_mk (st := s_minus) l3 c3 k3, PySem.W.mg_of X G a3, fun_mk (st := s_times) l4 c4 k4, PySem.W.mg_of X G a4, fun_mk (st := s_less) l5 c5 k5, PySem.W.mg_of X G a5, fun_mk (st := s_cut_by) l6 c6 k6, PySem.W.mg_of X G a6, fun_mk (st := s_top_of) l7 c7 k7, PySem.W.mg_of X G a7, fun_mk (st := s_begun_by) l8 c8 k8, PySem.W.mg_of X G a8, fun_mk (st := s_is_idle) l9 c9 k9, PySem.W.mg_of X G a9, fun_mk (st := s_share_behind) l10 c10 k10, PySem.W.mg_of X G a10, fun_mk (st := s_factor_of) l11 c11 k11, PySem.W.mg_of X G a11, fun_mk (st := s_moved) l12 c12 k12, PySem.W.mg_of X G a12, fun_mk (st := s_held) l13 c13 k13, PySem.W.mg_of X G a13, fun_mk (st := s_heard_by) l14 c14 k14, PySem.W.mg_of X G a14, fun_mk (st := s_gentler) l15 c15 k15, PySem.W.mg_of X G a15, fun_mk (st := s__law_pot) l16 c16 k16, PySem.W.mg_of X G a16, fun_mk (st := s__law_take) l17 c17 k17, PySem.W.mg_of X G a17, fun_mk (st := s__law_low) l18 c18 k18, PySem.W.mg_of X G a18, fun_mk (st := s__law_bottom) l19 c19 k19, PySem.W.mg_of X G a19, fun_mk (st := s__law_between) l20 c20 k20, PySem.W.mg_of X G a20, fun_mk (st := s__law_above) l21 c21 k21, PySem.W.mg_of X G a21, fun_mk (st := s__law_less_than_one) l22 c22 k22, PySem.W.mg_of X G a22, fun_mk (st := s__law_rule) l23 c23 k23, PySem.W.mg_of X G a23, fun_mk (st := s__law_plain) l24 c24 k24, PySem.W.mg_of X G a24, fun_mk (st := s__law_any_rule) l25 c25 k25, PySem.W.mg_of X G a25, fun_mk (st := s__law_grid) l26 c26 k26, PySem.W.mg_of X G a26, fun_mk (st := s__law_heard) l27 c27 k27, PySem.W.mg_of X G a27, fun_mk (st := s__law_row) l28 c28 k28, PySem.W.mg_of X G a28, fun_mk (st := s__law_parts) l29 c29 k29, PySem.W.mg_of X G a29, fun_mk (st := s__law_less) l30 c30 k30, PySem.W.mg_of X G a30, fun_mk (st := s__law_between_one) l31 c31 k31, PySem.W.mg_of X G a31, fun_mk (st := s__law_gentle) l32 c32 k32, PySem.W.mg_of X G a32, fun_mk (st := s__law_right) l33 c33 k33, PySem.W.mg_of X G a33, fun_mk (st := s_law) l34 c34 k34, PySem.W.mg_of X G a34, PySem.W.mg_none_of X G z0, PySem.W.mg_none_of X G z1, PySem.W.mg_none_of X G z2, PySem.W.mg_none_of X G z3, PySem.W.mg_none_of X G z4, PySem.W.mg_none_of X G z5, PySem.W.mg_none_of X G z6, PySem.W.mg_none_of X G z7, gv_tup (xs := [V.int 1, V.int 2]) X G g0 gl0 gc0 gd0 (show 2 ≤ sizeLine by decide) (.cons ⟨gt0_0, rfl⟩ (.cons ⟨gt0_1, rfl⟩ (.nil))) (fun _ => .cons (.int _) (.cons (.int _) (.nil))), gv_tup (xs := [V.int 0, V.int 1]) X G g1 gl1 gc1 gd1 (show 2 ≤ sizeLine by decide) (.cons ⟨gt1_0, rfl⟩ (.cons ⟨gt1_1, rfl⟩ (.nil))) (fun _ => .cons (.int _) (.cons (.int _) (.nil))), gv_tup (xs := [V.int 1, V.int 1]) X G g2 gl2 gc2 gd2 (show 2 ≤ sizeLine by decide) (.cons ⟨gt2_0, rfl⟩ (.cons ⟨gt2_1, rfl⟩ (.nil))) (fun _ => .cons (.int _) (.cons (.int _) (.nil))), gt_of X G t0 tl0 tk0 ts0 tr0⟩
  exact ⟨_, fun s v => .of_eq rfl, fun base _ _ => F_law T⟩
end Kk
namespace PySem.W.Fast
theorem tw14424323073155553072 : True := ⟨⟩
theorem tw12658311437974558944 : True := ⟨⟩
theorem tw12066127082719239584 : True := ⟨⟩
theorem tw11453140480479742560 : True := ⟨⟩
theorem tw18326077467816610464 : True := ⟨⟩
theorem tw8218841683911943201 : True := ⟨⟩
theorem tw460912957770626081 : True := ⟨⟩
theorem tw5939382230143694881 : True := ⟨⟩
theorem tw10219274192470087777 : True := ⟨⟩
theorem tw6559509225195146497 : True := ⟨⟩
theorem tw18232277848333206945 : True := ⟨⟩
theorem tw17403496693201850817 : True := ⟨⟩
theorem tw14084449164054399457 : True := ⟨⟩
theorem tw6132580509878345217 : True := ⟨⟩
theorem tw18185192189103018529 : True := ⟨⟩
theorem tw8050459245492775489 : True := ⟨⟩
theorem tw16025034384199056961 : True := ⟨⟩
theorem tw5553199619180914369 : True := ⟨⟩
theorem tw13366958977710048290 : True := ⟨⟩
theorem tw9020847315002224770 : True := ⟨⟩
theorem tw5396503950543793474 : True := ⟨⟩
theorem tw2390448437364925826 : True := ⟨⟩
theorem tw12337936233251043746 : True := ⟨⟩
theorem tw11315982187676416450 : True := ⟨⟩
theorem tw17127542144219822594 : True := ⟨⟩
theorem tw846075178365061698 : True := ⟨⟩
theorem tw7125135017249030818 : True := ⟨⟩
theorem tw17099589791908214530 : True := ⟨⟩
theorem tw18362473146384605954 : True := ⟨⟩
theorem tw11894652331328813858 : True := ⟨⟩
theorem tw5488854030428047170 : True := ⟨⟩
theorem tw18320978326595982274 : True := ⟨⟩
theorem tw14247624417260164131 : True := ⟨⟩
theorem tw18339677039642254467 : True := ⟨⟩
theorem tw16196853800168634723 : True := ⟨⟩
theorem tw3199651310359132707 : True := ⟨⟩
theorem tw1924799732949972547 : True := ⟨⟩
theorem tw7433211474149103395 : True := ⟨⟩
theorem tw4540104351515939683 : True := ⟨⟩
theorem tw10742065170793330531 : True := ⟨⟩
theorem tw13067387890468770723 : True := ⟨⟩
theorem tw15498800591268628484 : True := ⟨⟩
theorem tw70886475711601764 : True := ⟨⟩
theorem tw15892662869782602276 : True := ⟨⟩
theorem tw16318509368550860516 : True := ⟨⟩
theorem tw11938055175302689540 : True := ⟨⟩
theorem tw5409157241430077252 : True := ⟨⟩
theorem tw1763835247148014500 : True := ⟨⟩
theorem tw3799832460471360420 : True := ⟨⟩
theorem tw4633451063045610436 : True := ⟨⟩
theorem tw3283647741676934213 : True := ⟨⟩
theorem tw3061307644780811557 : True := ⟨⟩
theorem tw3658819497612245285 : True := ⟨⟩
theorem tw12397503270350816645 : True := ⟨⟩
theorem tw14520058103204759973 : True := ⟨⟩
theorem tw17374967674727961093 : True := ⟨⟩
theorem tw4037865604867251717 : True := ⟨⟩
theorem tw300684767189125829 : True := ⟨⟩
theorem tw16469976288022161189 : True := ⟨⟩
theorem tw5278890569019846437 : True := ⟨⟩
theorem tw5887163161536954534 : True := ⟨⟩
theorem tw11423882839702752422 : True := ⟨⟩
theorem tw9757008997800740230 : True := ⟨⟩
theorem tw1165000974529652230 : True := ⟨⟩
theorem tw17800131085445445895 : True := ⟨⟩
theorem tw707583540357785927 : True := ⟨⟩
theorem tw1958576405333239175 : True := ⟨⟩
theorem tw7170053652977743271 : True := ⟨⟩
theorem tw16804978341403161063 : True := ⟨⟩
theorem tw6689437814403490439 : True := ⟨⟩
theorem tw446577646514994855 : True := ⟨⟩
theorem tw10171405319381451463 : True := ⟨⟩
theorem tw152374676531162887 : True := ⟨⟩
theorem tw10377187484896474887 : True := ⟨⟩
theorem tw15173510657981997927 : True := ⟨⟩
theorem tw16538499987042301831 : True := ⟨⟩
theorem tw10602754336832439271 : True := ⟨⟩
theorem tw15837401663521937512 : True := ⟨⟩
theorem tw10409133151691216040 : True := ⟨⟩
theorem tw3974505898794169672 : True := ⟨⟩
theorem tw4652206622090479208 : True := ⟨⟩
theorem tw985941255701629608 : True := ⟨⟩
theorem tw16473631323075006152 : True := ⟨⟩
theorem tw10161783380499739400 : True := ⟨⟩
theorem tw7738162810688027400 : True := ⟨⟩
theorem tw12405541921340033928 : True := ⟨⟩
theorem tw8425702403263332264 : True := ⟨⟩
theorem tw10291752889703705544 : True := ⟨⟩
theorem tw3801336247759134664 : True := ⟨⟩
theorem tw14050416940441552937 : True := ⟨⟩
theorem tw3955302497562520649 : True := ⟨⟩
theorem tw3337545444918472809 : True := ⟨⟩
theorem tw15400277031982514345 : True := ⟨⟩
theorem tw12848175452984550665 : True := ⟨⟩
theorem tw15134131262615558793 : True := ⟨⟩
theorem tw948824691329654441 : True := ⟨⟩
theorem tw405628080960241321 : True := ⟨⟩
theorem tw1422970490619221769 : True := ⟨⟩
theorem tw1392080491750409322 : True := ⟨⟩
theorem tw17646918505465396362 : True := ⟨⟩
theorem tw18150073184946162986 : True := ⟨⟩
theorem tw12798595032896080458 : True := ⟨⟩
theorem tw1646494763592241994 : True := ⟨⟩
theorem tw14778956375692986314 : True := ⟨⟩
theorem tw7685625622546086987 : True := ⟨⟩
theorem tw2827460125196905739 : True := ⟨⟩
theorem tw13811766485630667051 : True := ⟨⟩
theorem tw12721259142163045899 : True := ⟨⟩
theorem tw17853397318480928363 : True := ⟨⟩
theorem tw9218546668051418795 : True := ⟨⟩
theorem tw14125119657190355915 : True := ⟨⟩
theorem tw7719977095662694379 : True := ⟨⟩
theorem tw16440482239370930252 : True := ⟨⟩
theorem tw13557540451464014124 : True := ⟨⟩
theorem tw10084608189298501964 : True := ⟨⟩
theorem tw9104291865710134796 : True := ⟨⟩
theorem tw7271884397386213900 : True := ⟨⟩
theorem tw15084807200416433068 : True := ⟨⟩
theorem tw9711910429594978477 : True := ⟨⟩
theorem tw5665842573974579565 : True := ⟨⟩
theorem tw13730495236108876365 : True := ⟨⟩
theorem tw15399665578688292461 : True := ⟨⟩
theorem tw16894325424343612269 : True := ⟨⟩
theorem tw7125036059575722957 : True := ⟨⟩
theorem tw90419790755578958 : True := ⟨⟩
theorem tw6153599182418553038 : True := ⟨⟩
theorem tw13176826078299003150 : True := ⟨⟩
theorem tw11312690222883609870 : True := ⟨⟩
theorem tw16603981831644114350 : True := ⟨⟩
theorem tw530572803242664526 : True := ⟨⟩
theorem tw17452795260190301806 : True := ⟨⟩
theorem tw11888071755680132718 : True := ⟨⟩
theorem tw14129912363284570926 : True := ⟨⟩
theorem tw9865311309125634926 : True := ⟨⟩
theorem tw5708219622317458414 : True := ⟨⟩
theorem tw4099508278190453742 : True := ⟨⟩
theorem tw5048021548814800239 : True := ⟨⟩
theorem tw15646447154939076047 : True := ⟨⟩
theorem tw14623543523280094863 : True := ⟨⟩
theorem tw11062684778776545071 : True := ⟨⟩
theorem tw12537423955110482032 : True := ⟨⟩
theorem tw6877981296505089200 : True := ⟨⟩
theorem tw18135781904350590192 : True := ⟨⟩
theorem tw5990412896931241200 : True := ⟨⟩
theorem tw15340099109077389872 : True := ⟨⟩
theorem tw7656266834565048433 : True := ⟨⟩
theorem tw7298572872394323281 : True := ⟨⟩
theorem tw12899349183596227985 : True := ⟨⟩
theorem tw15193047277267642865 : True := ⟨⟩
theorem tw16700644138080742993 : True := ⟨⟩
theorem tw4274341969960824529 : True := ⟨⟩
theorem tw13582653838015767345 : True := ⟨⟩
theorem tw15921044724725101425 : True := ⟨⟩
theorem tw14134338094757028849 : True := ⟨⟩
theorem tw15116843322914869330 : True := ⟨⟩
theorem tw17306595116329294002 : True := ⟨⟩
theorem tw11493747536672587090 : True := ⟨⟩
theorem tw10358054263389946258 : True := ⟨⟩
theorem tw1862201412451747218 : True := ⟨⟩
theorem tw12216740618567170482 : True := ⟨⟩
theorem tw687290151090845202 : True := ⟨⟩
theorem tw17314189459217181426 : True := ⟨⟩
theorem tw9941147546175780915 : True := ⟨⟩
theorem tw1052706307378229651 : True := ⟨⟩
theorem tw674814954464198195 : True := ⟨⟩
theorem tw9718054412193583763 : True := ⟨⟩
theorem tw10155209055998743187 : True := ⟨⟩
theorem tw1755354100543903507 : True := ⟨⟩
theorem tw485083997032853363 : True := ⟨⟩
theorem tw16148160487882039380 : True := ⟨⟩
theorem tw11587245012285840724 : True := ⟨⟩
theorem tw2148771718539040116 : True := ⟨⟩
theorem tw6726672458008277460 : True := ⟨⟩
theorem tw14896699077599707668 : True := ⟨⟩
theorem tw10425370396590803508 : True := ⟨⟩
theorem tw604595499512200756 : True := ⟨⟩
theorem tw3481369085717430004 : True := ⟨⟩
theorem tw12985081473690857204 : True := ⟨⟩
theorem tw2100345273774915444 : True := ⟨⟩
theorem tw3202734866583603253 : True := ⟨⟩
theorem tw15675127888736224341 : True := ⟨⟩
theorem tw14526667722186622069 : True := ⟨⟩
theorem tw3234017441706341685 : True := ⟨⟩
theorem tw11704343123279078805 : True := ⟨⟩
theorem tw11071486920739968565 : True := ⟨⟩
theorem tw299904410561359509 : True := ⟨⟩
theorem tw2738143705511358133 : True := ⟨⟩
theorem tw7925224795527828181 : True := ⟨⟩
theorem tw6528752989837322997 : True := ⟨⟩
theorem tw11296767371432949493 : True := ⟨⟩
theorem tw11203682922998911797 : True := ⟨⟩
theorem tw14251525099970776949 : True := ⟨⟩
theorem tw5258498342750319573 : True := ⟨⟩
theorem tw16521277120292930582 : True := ⟨⟩
theorem tw2344851630218382454 : True := ⟨⟩
theorem tw17648834092578060662 : True := ⟨⟩
theorem tw4987550246852611606 : True := ⟨⟩
theorem tw7376307061405965846 : True := ⟨⟩
theorem tw811202533065386742 : True := ⟨⟩
theorem tw596976953910788054 : True := ⟨⟩
theorem tw14473821020720083031 : True := ⟨⟩
theorem tw1298871376671962263 : True := ⟨⟩
theorem tw6106926642935434423 : True := ⟨⟩
theorem tw1253158797200395607 : True := ⟨⟩
theorem tw7918114099642950071 : True := ⟨⟩
theorem tw6927846719608708599 : True := ⟨⟩
theorem tw7131817188679874391 : True := ⟨⟩
theorem tw4087175909210816696 : True := ⟨⟩
theorem tw12525190380961916184 : True := ⟨⟩
theorem tw6202059830612616792 : True := ⟨⟩
theorem tw2703038965351175000 : True := ⟨⟩
theorem tw11847589047041981272 : True := ⟨⟩
theorem tw13774640473586262297 : True := ⟨⟩
theorem tw8242276531923644761 : True := ⟨⟩
theorem tw5286421489317031289 : True := ⟨⟩
theorem tw13838452411576543705 : True := ⟨⟩
theorem tw14017927168394278425 : True := ⟨⟩
theorem tw5998067386717298297 : True := ⟨⟩
theorem tw16594492826635312089 : True := ⟨⟩
theorem tw3231793590309645370 : True := ⟨⟩
theorem tw10994414075400535226 : True := ⟨⟩
theorem tw6825930022234732890 : True := ⟨⟩
theorem tw6773233219405103546 : True := ⟨⟩
theorem tw16505472397015469530 : True := ⟨⟩
theorem tw15223954726781661146 : True := ⟨⟩
theorem tw3152676550066503642 : True := ⟨⟩
theorem tw10403739940195268795 : True := ⟨⟩
theorem tw6465942016426079451 : True := ⟨⟩
theorem tw757342323697224955 : True := ⟨⟩
theorem tw1496515194614033755 : True := ⟨⟩
theorem tw12871300437692806651 : True := ⟨⟩
theorem tw1143642603874374235 : True := ⟨⟩
theorem tw5320583747659450331 : True := ⟨⟩
theorem tw7227604093936828508 : True := ⟨⟩
theorem tw7554835657494842460 : True := ⟨⟩
theorem tw17608263543814156412 : True := ⟨⟩
theorem tw870388967477381244 : True := ⟨⟩
theorem tw3140962446610547900 : True := ⟨⟩
theorem tw11922817375221695804 : True := ⟨⟩
theorem tw10189845655855610204 : True := ⟨⟩
theorem tw4105456393171005788 : True := ⟨⟩
theorem tw11572594629621404092 : True := ⟨⟩
theorem tw15870500893573542332 : True := ⟨⟩
theorem tw14312807609479846428 : True := ⟨⟩
theorem tw16859240748854565500 : True := ⟨⟩
theorem tw9921382657431717692 : True := ⟨⟩
theorem tw10509605410131829596 : True := ⟨⟩
theorem tw1414489218773159804 : True := ⟨⟩
theorem tw13585868954775398364 : True := ⟨⟩
theorem tw16724079994938932188 : True := ⟨⟩
theorem tw10864009339775267836 : True := ⟨⟩
theorem tw8234586111504864285 : True := ⟨⟩
theorem tw5626642308714809469 : True := ⟨⟩
theorem tw8572790107362057533 : True := ⟨⟩
theorem tw8850685809249304989 : True := ⟨⟩
theorem tw17553041807993640509 : True := ⟨⟩
theorem tw2844421016499024509 : True := ⟨⟩
theorem tw10711467126931504829 : True := ⟨⟩
theorem tw15568455752368726941 : True := ⟨⟩
theorem tw18096791565724809149 : True := ⟨⟩
theorem tw7674198742265082845 : True := ⟨⟩
theorem tw10219203014953282686 : True := ⟨⟩
theorem tw15388151762082035934 : True := ⟨⟩
theorem tw11789956479223431518 : True := ⟨⟩
theorem tw3277645201505465854 : True := ⟨⟩
theorem tw15712807493073719102 : True := ⟨⟩
theorem tw14965075170719496158 : True := ⟨⟩
theorem tw2491230367474690046 : True := ⟨⟩
theorem tw10731500632229967039 : True := ⟨⟩
theorem tw14924135750584547551 : True := ⟨⟩
theorem tw3973013504170394911 : True := ⟨⟩
theorem tw10839052668191864127 : True := ⟨⟩
theorem tw4029960344636546399 : True := ⟨⟩
theorem tw14013012639785117087 : True := ⟨⟩
theorem tw2507171549659247071 : True := ⟨⟩
theorem tw17263512924829147615 : True := ⟨⟩
theorem tw14093317662358332159 : True := ⟨⟩
theorem tw7299100533106756383 : True := ⟨⟩
end PySem.W.Fast
open PySem PySem.W PyProof.Rows
set_option maxRecDepth 100000 in
set_option maxHeartbeats 0 in
theorem PySem.Challenge.cw_swellways_k16_whole_gentler_never_greate_holds : PySem.Challenge.rw_swellways_k16_whole_gentler_never_greate.Holds := by
  w_on; o_law; k_head; (case hw => w_witness2)
  k_fill
  refine L3.walk3 (l := PySem.Challenge.rw_swellways_k16_whole_gentler_never_greate) (k := 7) (sp := Kk.sp_law) (x := "_law_script") rfl rfl ⟨rfl, by decide, by decide⟩ (fun w h Y => PySem.W.kIn_of Y) Kk.law_holds ?F
  case F =>
    intro w mg fa h KX G hmg
    refine' Kk.all_mk KX G hmg ?a0 ?l0 ?c0 ?k0 ?a1 ?l1 ?c1 ?k1 ?a2 ?l2 ?c2 ?k2 ?a3 ?l3 ?c3 ?k3 ?a4 ?l4 ?c4 ?k4 ?a5 ?l5 ?c5 ?k5 ?a6 ?l6 ?c6 ?k6 ?a7 ?l7 ?c7 ?k7 ?a8 ?l8 ?c8 ?k8 ?a9 ?l9 ?c9 ?k9 ?a10 ?l10 ?c10 ?k10 ?a11 ?l11 ?c11 ?k11 ?a12 ?l12 ?c12 ?k12 ?a13 ?l13 ?c13 ?k13 ?a14 ?l14 ?c14 ?k14 ?a15 ?l15 ?c15 ?k15 ?a16 ?l16 ?c16 ?k16 ?a17 ?l17 ?c17 ?k17 ?a18 ?l18 ?c18 ?k18 ?a19 ?l19 ?c19 ?k19 ?a20 ?l20 ?c20 ?k20 ?a21 ?l21 ?c21 ?k21 ?a22 ?l22 ?c22 ?k22 ?a23 ?l23 ?c23 ?k23 ?a24 ?l24 ?c24 ?k24 ?a25 ?l25 ?c25 ?k25 ?a26 ?l26 ?c26 ?k26 ?a27 ?l27 ?c27 ?k27 ?a28 ?l28 ?c28 ?k28 ?a29 ?l29 ?c29 ?k29 ?a30 ?l30 ?c30 ?k30 ?a31 ?l31 ?c31 ?k31 ?a32 ?l32 ?c32 ?k32 ?a33 ?l33 ?c33 ?k33 ?a34 ?l34 ?c34 ?k34 ?z0 ?z1 ?z2 ?z3 ?z4 ?z5 ?z6 ?z7 ?qg0 ?qgl0 ?qgc0 ?qgd0 ?qg1 ?qgl1 ?qgc1 ?qgd1 ?qg2 ?qgl2 ?qgc2 ?qgd2 ?qt0 ?qtl0 ?qtk0 ?qts0 ?qtr0
    (case a0 => k_is)
    (case l0 => k_is)
    (case c0 => k_is)
    (case k0 => k_is)
    (case a1 => k_is)
    (case l1 => k_is)
    (case c1 => k_is)
    (case k1 => k_is)
    (case a2 => k_is)
    (case l2 => k_is)
    (case c2 => k_is)
    (case k2 => k_is)
    (case a3 => k_is)
    (case l3 => k_is)
    (case c3 => k_is)
    (case k3 => k_is)
    (case a4 => k_is)
    (case l4 => k_is)
    (case c4 => k_is)
    (case k4 => k_is)
    (case a5 => k_is)
    (case l5 => k_is)
    (case c5 => k_is)
    (case k5 => k_is)
    (case a6 => k_is)
    (case l6 => k_is)
    (case c6 => k_is)
    (case k6 => k_is)
    (case a7 => k_is)
    (case l7 => k_is)
    (case c7 => k_is)
    (case k7 => k_is)
    (case a8 => k_is)
    (case l8 => k_is)
    (case c8 => k_is)
    (case k8 => k_is)
    (case a9 => k_is)
    (case l9 => k_is)
    (case c9 => k_is)
    (case k9 => k_is)
    (case a10 => k_is)
    (case l10 => k_is)
    (case c10 => k_is)
    (case k10 => k_is)
    (case a11 => k_is)
    (case l11 => k_is)
    (case c11 => k_is)
    (case k11 => k_is)
    (case a12 => k_is)
    (case l12 => k_is)
    (case c12 => k_is)
    (case k12 => k_is)
    (case a13 => k_is)
    (case l13 => k_is)
    (case c13 => k_is)
    (case k13 => k_is)
    (case a14 => k_is)
    (case l14 => k_is)
    (case c14 => k_is)
    (case k14 => k_is)
    (case a15 => k_is)
    (case l15 => k_is)
    (case c15 => k_is)
    (case k15 => k_is)
    (case a16 => k_is)
    (case l16 => k_is)
    (case c16 => k_is)
    (case k16 => k_is)
    (case a17 => k_is)
    (case l17 => k_is)
    (case c17 => k_is)
    (case k17 => k_is)
    (case a18 => k_is)
    (case l18 => k_is)
    (case c18 => k_is)
    (case k18 => k_is)
    (case a19 => k_is)
    (case l19 => k_is)
    (case c19 => k_is)
    (case k19 => k_is)
    (case a20 => k_is)
    (case l20 => k_is)
    (case c20 => k_is)
    (case k20 => k_is)
    (case a21 => k_is)
    (case l21 => k_is)
    (case c21 => k_is)
    (case k21 => k_is)
    (case a22 => k_is)
    (case l22 => k_is)
    (case c22 => k_is)
    (case k22 => k_is)
    (case a23 => k_is)
    (case l23 => k_is)
    (case c23 => k_is)
    (case k23 => k_is)
    (case a24 => k_is)
    (case l24 => k_is)
    (case c24 => k_is)
    (case k24 => k_is)
    (case a25 => k_is)
    (case l25 => k_is)
    (case c25 => k_is)
    (case k25 => k_is)
    (case a26 => k_is)
    (case l26 => k_is)
    (case c26 => k_is)
    (case k26 => k_is)
    (case a27 => k_is)
    (case l27 => k_is)
    (case c27 => k_is)
    (case k27 => k_is)
    (case a28 => k_is)
    (case l28 => k_is)
    (case c28 => k_is)
    (case k28 => k_is)
    (case a29 => k_is)
    (case l29 => k_is)
    (case c29 => k_is)
    (case k29 => k_is)
    (case a30 => k_is)
    (case l30 => k_is)
    (case c30 => k_is)
    (case k30 => k_is)
    (case a31 => k_is)
    (case l31 => k_is)
    (case c31 => k_is)
    (case k31 => k_is)
    (case a32 => k_is)
    (case l32 => k_is)
    (case c32 => k_is)
    (case k32 => k_is)
    (case a33 => k_is)
    (case l33 => k_is)
    (case c33 => k_is)
    (case k33 => k_is)
    (case a34 => k_is)
    (case l34 => k_is)
    (case c34 => k_is)
    (case k34 => k_is)
    (case z0 => k_is)
    (case z1 => k_is)
    (case z2 => k_is)
    (case z3 => k_is)
    (case z4 => k_is)
    (case z5 => k_is)
    (case z6 => k_is)
    (case z7 => k_is)
    (case qg0 => k_is)
    (case qgl0 => k_is)
    (case qgc0 => rfl)
    (case qgd0 => rfl)
    (case qg1 => k_is)
    (case qgl1 => k_is)
    (case qgc1 => rfl)
    (case qgd1 => rfl)
    (case qg2 => k_is)
    (case qgl2 => k_is)
    (case qgc2 => rfl)
    (case qgd2 => rfl)
    (case qt0 => k_is)
    (case qtl0 => rfl)
    (case qtk0 => exact ⟨⟨_, _, rfl, rfl⟩, ⟨_, _, rfl, rfl⟩, ⟨_, _, rfl, rfl⟩, ⟨_, _, rfl, rfl⟩, ⟨_, _, rfl, rfl⟩, True.intro⟩)
    (case qts0 => rfl)
    (case qtr0 => rfl)

