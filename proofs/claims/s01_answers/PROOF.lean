import PyProof.Rows.All
import Wide.All
import OpenK.AllK
import Wide.FinOn
import PyProof.EqAt
import PyProof.EqKinds
import PyProof.TupleCall
import KE.BitLaws
import Open.SpecLaws
import KE.OsHead
import KE.OsGo
import KE.KLam
import KE.KSortKeyAny
import KE.KSortTupG
import KE.KNestM
import PyProof.ZipIter
import PyProof.TupleIter
import PySem.Challenge.RW_standingwarnings_s01_answers
set_option Elab.async false
set_option linter.all false
set_option maxRecDepth 100000
section
namespace L2
open PySem PySem.Spec PyProof.Rows
abbrev Key := Sum Int Str
def keyIs : Key → Value → Bool
 | .inl k, v => Value.isInt k v
 | .inr x, v => Value.isStrOf x v
def keyH (w : World) : Key → Int
 | .inl k => hashInt k
 | .inr x => hashStr w x
theorem keyIs_shape : ∀ {k : Key} {v : Value}, keyIs k v = true → (∃ i t, k = Sum.inl i ∧ v = Value.int i t) ∨ (∃ x t, k = Sum.inr x ∧ v = Value.str x t)
 | .inl i, v, h => by
  obtain ⟨t, e⟩ := Value.isInt_shape (k := i) (v := v) h
  exact .inl ⟨i, t, rfl, e⟩
 | .inr x, v, h => by
  obtain ⟨t, e⟩ := Value.isStrOf_shape (x := x) (v := v) h
  exact .inr ⟨x, t, rfl, e⟩
theorem keyIs_int (i : Int) (t : Tok) : keyIs (.inl i) (.int i t) = true := by simp [keyIs, Value.isInt]
theorem keyIs_str (x : Str) (t : Tok) : keyIs (.inr x) (.str x t) = true := by simp [keyIs, Value.isStrOf]
theorem key_ll (a b : Int) : decide ((Sum.inl a : Key) = Sum.inl b) = (a == b) := by
 by_cases e : a = b
 ·subst e; simp
 ·have h : ¬ (Sum.inl a : Key) = Sum.inl b := fun q => e (Sum.inl.inj q)
  rw [decide_eq_false h]
  exact (beq_eq_false_iff_ne.mpr e).symm
theorem key_rr (a b : Str) : decide ((Sum.inr a : Key) = Sum.inr b) = decide (a = b) := by
 by_cases e : a = b
 ·subst e; simp
 ·have h : ¬ (Sum.inr a : Key) = Sum.inr b := fun q => e (Sum.inr.inj q)
  rw [decide_eq_false h, decide_eq_false e]
theorem key_lr (a : Int) (b : Str) : decide ((Sum.inl a : Key) = Sum.inr b) = false := decide_eq_false (fun q => nomatch q)
theorem key_rl (a : Str) (b : Int) : decide ((Sum.inr a : Key) = Sum.inl b) = false := decide_eq_false (fun q => nomatch q)
def mixKind (prog : Program) (w : World) : PySem.KeyKind prog w Key where
 is := keyIs
 hash := keyH w
 inj := fun v a b ha hb => by
  rcases keyIs_shape ha with ⟨i, t, rfl, rfl⟩ | ⟨x, t, rfl, rfl⟩
  ·rcases keyIs_shape hb with ⟨j, u, rfl, e⟩ | ⟨y, u, rfl, e⟩
   ·injection e with e1 _; rw [e1]
   ·exact nomatch e
  ·rcases keyIs_shape hb with ⟨j, u, rfl, e⟩ | ⟨y, u, rfl, e⟩
   ·exact nomatch e
   ·injection e with e1 _; rw [e1]
 byValue := fun k v h => by
  rcases keyIs_shape h with ⟨i, t, rfl, rfl⟩ | ⟨x, t, rfl, rfl⟩ <;> rfl
 pyHash := fun hv h => by
  rcases keyIs_shape hv with ⟨i, t, rfl, rfl⟩ | ⟨x, t, rfl, rfl⟩
  ·exact wpAny_pyHash_int h
  ·exact wpAny_pyHash_str h
 eqBool := fun hu hv h => by
  rcases keyIs_shape hu with ⟨i, t, rfl, rfl⟩ | ⟨x, t, rfl, rfl⟩
  ·rcases keyIs_shape hv with ⟨j, u, rfl, rfl⟩ | ⟨y, u, rfl, rfl⟩
   ·rw [key_ll] at h; exact wpAny_eqBool_int h
   ·rw [key_lr] at h; exact SeqAt.EqAt.int_str i t y u _ _ _ _ h
  ·rcases keyIs_shape hv with ⟨j, u, rfl, rfl⟩ | ⟨y, u, rfl, rfl⟩
   ·rw [key_rl] at h; exact SeqAt.EqAt.str_int x t j u _ _ _ _ h
   ·rw [key_rr] at h; exact wpAny_eqBool_str h
 «strs» := fun k x t v h => by
  rcases keyIs_shape h with ⟨i, u, rfl, e⟩ | ⟨y, u, rfl, e⟩
  ·exact nomatch e
  ·injection e with e1 _
   subst e1
   cases v <;> rfl
theorem mixKind_int (prog : Program) (w : World) (i : Int) (t : Tok) : (mixKind prog w).is (.inl i) (.int i t) = true := keyIs_int i t
theorem mixKind_str (prog : Program) (w : World) (x : Str) (t : Tok) : (mixKind prog w).is (.inr x) (.str x t) = true := keyIs_str x t
end L2
namespace L2
open PySem PySem.Spec PyProof.Rows
inductive V where
 | non | bl (b : Bool) | int (i : Int) | str (x : Str) | byt (b : Array UInt8) | flt (b : UInt64) | ref (a : Addr) | ty (n : String)
 deriving DecidableEq
def RelV : V → Value → Prop
 | .non, u => u = Value.none
 | .bl b, u => u = Value.bool b
 | .int i, u => ∃ t, u = Value.int i t
 | .str x, u => ∃ t, u = Value.str x t
 | .byt b, u => ∃ t, u = Value.bytes b t
 | .flt b, u => ∃ t, u = Value.float b t
 | .ref a, u => u = Value.ref a
 | .ty n, u => u = Value.type n
abbrev Vals : List V → List Value → Prop := Paired RelV
theorem Vals.length {xs : List V} {us : List Value} (r : Vals xs us) : xs.length = us.length := Paired.length r
theorem Vals.get : ∀ {xs : List V} {us : List Value} {i : Nat} {x : V}, Vals xs us → xs[i]? = some x → ∃ u, us[i]? = some u ∧ RelV x u
 | _, _, _, _, .nil, e => by simp at e
 | _, _, 0, _, .cons r _, e => by simp at e; subst e; exact ⟨_, rfl, r⟩
 | _, _, i + 1, x, .cons _ t, e => by
  obtain ⟨u, h1, h2⟩ := Vals.get (i := i) (x := x) t (by simpa using e)
  exact ⟨u, by simpa using h1, h2⟩
theorem Vals.set {x : V} {u : Value} (r : RelV x u) : ∀ {xs : List V} {us : List Value} (i : Nat), Vals xs us → Vals (xs.set i x) (us.set i u)
 | _, _, _, .nil => .nil
 | _, _, 0, .cons _ t => .cons r t
 | _, _, i + 1, .cons q t => .cons q (Vals.set r i t)
theorem Vals.append : ∀ {xs ys : List V} {us ws : List Value}, Vals xs us → Vals ys ws → Vals (xs ++ ys) (us ++ ws)
 | _, _, _, _, .nil, s => s
 | _, _, _, _, .cons r t, s => .cons r (Vals.append t s)
theorem Vals.take : ∀ {xs : List V} {us : List Value} (n : Nat), Vals xs us → Vals (xs.take n) (us.take n)
 | _, _, 0, _ => .nil
 | _, _, _ + 1, .nil => .nil
 | _, _, n + 1, .cons r t => .cons r (Vals.take n t)
theorem Vals.drop : ∀ {xs : List V} {us : List Value} (n : Nat), Vals xs us → Vals (xs.drop n) (us.drop n)
 | _, _, 0, r => r
 | _, _, _ + 1, .nil => .nil
 | _, _, n + 1, .cons _ t => Vals.drop n t
def RelO : Option V → Option Value → Prop
 | some v, some u => RelV v u
 | none, none => True
 | _, _ => False
def KV {κ : Type} : List (κ × V) → List (κ × Value) → Prop := Paired fun (p : κ × V) (q : κ × Value) => p.1 = q.1 ∧ RelV p.2 q.2
def kV : Key → V
 | .inl i => .int i
 | .inr x => .str x
inductive HO where
 | lst (xs : List V)
 | tup (xs : List V)
 | dK (kvs : List (Key × V)) | dT (kvs : List (List Key × V))
 | set (S : Int → Bool) (n : Nat)
 | ins (C dx : Addr) (fs : List (Str × V))
 | own (x : Addr)
 | xd (fs : List (Str × V))
 | met (f x : Addr)
 | rng (lo hi : Int)
 | frz (o : Obj) (u : HO)
 | tbl (ps : Array Value)
 | ext (φ : Heap → Prop)
abbrev Hp := Addr → Option HO
def upd (H : Hp) (a : Addr) (o : HO) : Hp := fun b => if b = a then some o else H b
theorem upd_same {H : Hp} {a : Addr} {o : HO} : upd H a o a = some o := by unfold upd; rw [if_pos rfl]
theorem upd_ne {H : Hp} {a b : Addr} {o : HO} (h : b ≠ a) : upd H a o b = H b := by unfold upd; rw [if_neg h]
theorem upd_upd {H : Hp} {a : Addr} {o u : HO} : upd (upd H a o) a u = upd H a u := by
 funext b; unfold upd; split <;> rfl
theorem ne_of {H : Hp} {a b : Addr} {o u : HO} (h : H a = some o) (h' : H b = some u) (d : o ≠ u) : a ≠ b := by
 intro e; subst e; rw [h] at h'; exact d (Option.some.inj h')
theorem ne_of_none {H : Hp} {a b : Addr} {o : HO} (h : H a = some o) (h' : H b = none) : a ≠ b := by
 intro e; subst e; rw [h] at h'; cases h'
section
variable (P : Program) (w : World)
def ObjOk (H : Hp) (h : Heap) (a : Addr) : HO → Prop
 | .lst xs => xs.length ≤ sizeLine ∧ ∃ (its : List Value) (n : Nat), Vals xs its ∧ h.get? a = some { cls := .type "list", data := .seq its.toArray n }
 | .tup xs => xs.length ≤ sizeLine ∧ ∃ its : List Value, Vals xs its ∧ IsTup h a its.toArray
 | .dK kvs => kvs.length ≤ sizeLine ∧ (a == sysModules) = false ∧ ∃ vs, KV kvs vs ∧ h.DictOf (mixKind P w) a vs
 | .dT kvs => kvs.length ≤ sizeLine ∧ (a == sysModules) = false ∧ ∃ xs : List (List Key × Addr × Value),
   Paired (fun (p : List Key × V) (q : List Key × Addr × Value) => p.1 = q.1 ∧ H q.2.1 = some (.tup (p.1.map kV)) ∧ RelV p.2 q.2.2) kvs xs ∧
   ∃ o es ep, h.get? a = some o ∧ o.ExactDict ∧ o.data = .dict es ep ∧ es.toList = xs.map (entryOfKey (tupleKind (mixKind P w))) ∧ (xs.map (·.1)).Nodup
 | .set S n => h.SetOf (intKind P w) a S n
 | .ins C dx fs => H dx = some (.own a) ∧ fs.length ≤ 1000 ∧ dx ≠ a ∧ h.get? a = some (PySem.W.instObj C dx) ∧
   ∃ mA, h.Ns1 dx mA ∧ (∀ f, RelO (fs.lookup f) (mA f)) ∧ PySem.Within mA (fs.map (·.1))
 | .own _ => ∃ o, h.get? a = some o
 | .xd fs => ∃ mA, h.Ns1 a mA ∧ ∀ f, RelO (fs.lookup f) (mA f)
 | .rng lo hi => ∃ t u v, h.get? a = some { cls := .type "range", data := .fields #[.int lo t, .int hi u, .int 1 v] }
 | .frz o u => h.get? a = some o ∧ ObjOk H h a u
 | .tbl ps => h.get? a = some { cls := .none, data := .fields ps }
 | .met f x => h.get? a = some (PySem.W.methodObj (.ref f) (.ref x))
 | .ext φ => φ h ∧ (∃ o, h.get? a = some o) ∧ ∀ h1 h2 : Heap, φ h1 → (∀ o, h1.get? a = some o → h2.get? a = some o) → φ h2
def HOk (H : Hp) (h : Heap) : Prop := ∀ a o, H a = some o → ObjOk P w H h a o
end
section
variable {P : Program} {w : World} {H H' : Hp} {h h' : Heap} {a : Addr} {o : HO}
theorem ObjOk.lt (x : ObjOk P w H h a o) : a < h.objs.size := by
 cases o with
 | lst xs => obtain ⟨_, _, _, _, e⟩ := x; exact Heap.lt_size e
 | tup xs => obtain ⟨_, _, _, p⟩ := x; exact p.lt
 | dK kvs => obtain ⟨_, _, _, _, o, _, _, e, _⟩ := x; exact Heap.lt_size e
 | dT kvs => obtain ⟨_, _, _, _, o, _, _, e, _⟩ := x; exact Heap.lt_size e
 | set S n => obtain ⟨o, _, _, _, e, _⟩ := x; exact Heap.lt_size e
 | ins C dx fs => obtain ⟨_, _, _, e, _⟩ := x; exact Heap.lt_size e
 | own y => obtain ⟨_, e⟩ := x; exact Heap.lt_size e
 | xd fs => obtain ⟨_, ⟨_, _, _, e, _⟩, _⟩ := x; exact Heap.lt_size e
 | rng lo hi => obtain ⟨_, _, _, e⟩ := x; exact Heap.lt_size e
 | frz ob u => obtain ⟨e, _⟩ := x; exact Heap.lt_size e
 | tbl ps => exact Heap.lt_size (show h.get? a = some _ from x)
 | met f y => exact Heap.lt_size (show h.get? a = some _ from x)
 | ext φ => obtain ⟨_, ⟨_, e⟩, _⟩ := x; exact Heap.lt_size e
theorem Paired.mapP {α β : Type} {F G : α → β → Prop} : ∀ {l₁ : List α} {l₂ : List β}, Paired F l₁ l₂ → (∀ a b, F a b → G a b) → Paired G l₁ l₂
 | _, _, .nil, _ => .nil
 | _, _, .cons r t, f => .cons (f _ _ r) (Paired.mapP t f)
theorem ObjOk.stay (x : ObjOk P w H h a o) (k : ∀ b u, (b = a ∨ H b = some (.own a)) → h.get? b = some u → h'.get? b = some u)
  (ho : ∀ b, H b = some (.own a) → H' b = some (.own a)) (ht : ∀ b xs, H b = some (.tup xs) → H' b = some (.tup xs)) : ObjOk P w H' h' a o := by
 induction o with
 | lst xs => obtain ⟨z, its, n, r, e⟩ := x; exact ⟨z, its, n, r, k _ _ (.inl rfl) e⟩
 | tup xs => obtain ⟨z, its, r, ob, e, c⟩ := x; exact ⟨z, its, r, ob, k _ _ (.inl rfl) e, c⟩
 | dK kvs => obtain ⟨z, y, vs, r, ob, es, ep, e, c⟩ := x; exact ⟨z, y, vs, r, ob, es, ep, k _ _ (.inl rfl) e, c⟩
 | dT kvs =>
  obtain ⟨z, y, xs, r, ob, es, ep, e, c⟩ := x
  exact ⟨z, y, xs, Paired.mapP r fun p q z => ⟨z.1, ht _ _ z.2.1, z.2.2⟩, ob, es, ep, k _ _ (.inl rfl) e, c⟩
 | set S n => obtain ⟨ob, es, ep, t, e, c⟩ := x; exact ⟨ob, es, ep, t, k _ _ (.inl rfl) e, c⟩
 | ins C dx fs =>
  obtain ⟨d, z, ne, e, mA, ⟨od, es, ep, e2, c⟩, r⟩ := x
  exact ⟨ho _ d, z, ne, k _ _ (.inl rfl) e, mA, ⟨od, es, ep, k _ _ (.inr d) e2, c⟩, r⟩
 | own y => obtain ⟨ob, e⟩ := x; exact ⟨ob, k _ _ (.inl rfl) e⟩
 | xd fs => obtain ⟨mA, ⟨od, es, ep, e, c⟩, r⟩ := x; exact ⟨mA, ⟨od, es, ep, k _ _ (.inl rfl) e, c⟩, r⟩
 | rng lo hi => obtain ⟨t, u, v, e⟩ := x; exact ⟨t, u, v, k _ _ (.inl rfl) e⟩
 | frz ob u ih => obtain ⟨e, q⟩ := x; exact ⟨k _ _ (.inl rfl) e, ih q⟩
 | tbl ps =>
  have e : h.get? a = some { cls := .none, data := .fields ps } := x
  show h'.get? a = some { cls := .none, data := .fields ps }
  exact k a _ (.inl rfl) e
 | met f y =>
  have e : h.get? a = some (PySem.W.methodObj (.ref f) (.ref y)) := x
  show h'.get? a = some (PySem.W.methodObj (.ref f) (.ref y))
  exact k a _ (.inl rfl) e
 | ext φ => obtain ⟨p, ⟨o, e⟩, st⟩ := x; exact ⟨st _ _ p fun o q => k _ _ (.inl rfl) q, ⟨o, k _ _ (.inl rfl) e⟩, st⟩
theorem HOk.lt (x : HOk P w H h) (e : H a = some o) : a < h.objs.size := (x a o e).lt
theorem HOk.fresh (x : HOk P w H h) (e : h.objs.size ≤ a) : H a = none := by
 cases q : H a with
 | none => rfl
 | some u => exact absurd (Nat.lt_of_lt_of_le (x.lt q) e) (Nat.lt_irrefl _)
theorem HOk.kept (x : HOk P w H h) (k : ∀ b u, h.get? b = some u → h'.get? b = some u) : HOk P w H h' := fun a o e =>
 (x a o e).stay (fun b u _ q => k b u q) (fun _ q => q) fun _ _ q => q
theorem HOk.laid (x : HOk P w H h) (k : ∀ b u, h.get? b = some u → h'.get? b = some u) (hp : h.objs.size ≤ a) (new : ObjOk P w (upd H a o) h' a o) : HOk P w (upd H a o) h' := fun b u e => by
 have hn := x.fresh hp
 by_cases hb : b = a
 ·subst hb; rw [upd_same] at e; cases e; exact new
 ·rw [upd_ne hb] at e
  exact (x b u e).stay (fun c v _ q => k c v q) (fun c q => by rw [upd_ne (ne_of_none q hn)]; exact q) fun c xs q => by rw [upd_ne (ne_of_none q hn)]; exact q
end
def Rd (H : Hp) (a : Addr) (u : HO) : Prop := H a = some u ∨ ∃ o, H a = some (.frz o u)
theorem Rd.ok {P : Program} {w : World} {H : Hp} {h : Heap} {a : Addr} {u : HO} (r : Rd H a u) (x : HOk P w H h) : ObjOk P w H h a u := by
 rcases r with r | ⟨o, r⟩
 ·exact x a u r
 ·obtain ⟨_, q⟩ := x a _ r
  exact q
def Mut : Option HO → Prop
 | some (.lst _) => True
 | some (.dK _) => True
 | some (.dT _) => True
 | some (.set _ _) => True
 | some (.ins _ _ _) => True
 | some (.ext _) => True
 | _ => False
section
variable {P : Program} {w : World} {H : Hp} {h h' : Heap} {x e : Addr} {o' : HO}
theorem HOk.write (ok : HOk P w H h) (mu : Mut (H x)) (he : e = x ∨ H e = some (.own x)) (k : ∀ b u, b ≠ e → h.get? b = some u → h'.get? b = some u) (heo : ∃ u, h'.get? e = some u)
  (new : ObjOk P w (upd H x o') h' x o') : HOk P w (upd H x o') h' := fun b u q => by
 have nown : ∀ c y, H c = some (.own y) → c ≠ x := fun c y r z => by subst z; rw [r] at mu; exact mu
 have ntup : ∀ c xs, H c = some (.tup xs) → c ≠ x := fun c xs r z => by subst z; rw [r] at mu; exact mu
 by_cases hb : b = x
 ·subst hb; rw [upd_same] at q; cases q; exact new
 ·rw [upd_ne hb] at q
  by_cases hbe : b = e
  ·have q' : H b = some (.own x) := by
    rcases he with z | z
    ·exact absurd (hbe.trans z) hb
    ·rw [hbe]; exact z
   rw [q] at q'; cases q'
   obtain ⟨v, hv⟩ := heo
   exact ⟨v, by rw [hbe]; exact hv⟩
  ·refine (ok b u q).stay (fun c v hc r => k c v ?_ r) (fun c r => by rw [upd_ne (nown c b r)]; exact r) fun c xs r => by rw [upd_ne (ntup c xs r)]; exact r
   rcases hc with rfl | hc
   ·exact hbe
   ·rintro rfl
    rcases he with z | z
    ·exact nown c b hc z
    ·rw [hc] at z; cases z; exact hb rfl
end
structure Un (fs ex : List Addr) (H H' : Hp) (h h' : Heap) : Prop where
 keep : ∀ b o, h.get? b = some o → H b = none → b ∉ fs → b ∉ ex → h'.get? b = some o
 slot : ∀ b o, h.get? b = some o → H b = none → b ∈ fs → b ∉ ex → ∃ sl, h'.get? b = some { o with slots := sl }
 free : ∀ b o, h.get? b = some o → H b = none → b ∉ ex → H' b = none
 there : ∀ b o, h.get? b = some o → b ∉ ex → ∃ o', h'.get? b = some o'
 tups : ∀ b xs, H b = some (.tup xs) → H' b = some (.tup xs)
 frzs : ∀ b o u, H b = some (.frz o u) → H' b = some (.frz o u)
 tbls : ∀ b ps, H b = some (.tbl ps) → ∃ more, H' b = some (.tbl (ps ++ more))
section
variable {fs fs' ex ex' : List Addr} {H H1 H2 : Hp} {h h1 h2 h' : Heap} {a x e : Addr} {o : HO}
theorem Un.any (u : Un fs ex H H1 h h1) {b : Addr} {ob : Obj} (q : h.get? b = some ob) (n : H b = none) (hx : b ∉ ex) : ∃ sl, h1.get? b = some { ob with slots := sl } := by
 by_cases hb : b ∈ fs
 ·exact u.slot b ob q n hb hx
 ·exact ⟨ob.slots, u.keep b ob q n hb hx⟩
theorem Un.kept (k : ∀ b u, h.get? b = some u → h'.get? b = some u) : Un fs ex H H h h' :=
 ⟨fun b ob q _ _ _ => k b ob q, fun b ob q _ _ _ => ⟨ob.slots, k b ob q⟩, fun _ _ _ n _ => n, fun b ob q _ => ⟨ob, k b ob q⟩, fun _ _ q => q, fun _ _ _ q => q, fun _ ps q => ⟨#[], by rw [q]; simp⟩⟩
theorem Un.refl : Un fs ex H H h h := Un.kept fun _ _ q => q
theorem Un.laid (k : ∀ b u, h.get? b = some u → h'.get? b = some u) (hp : h.objs.size ≤ a) (hn : H a = none) : Un fs ex H (upd H a o) h h' where
 keep := fun b u q _ _ _ => k b u q
 slot := fun b u q _ _ _ => ⟨u.slots, k b u q⟩
 free := fun b u q n _ => by rw [upd_ne (Nat.ne_of_lt (Nat.lt_of_lt_of_le (Heap.lt_size q) hp))]; exact n
 there := fun b u q _ => ⟨u, k b u q⟩
 tups := fun b xs q => by rw [upd_ne (ne_of_none q hn)]; exact q
 frzs := fun b u xs q => by rw [upd_ne (ne_of_none q hn)]; exact q
 tbls := fun b ps q => ⟨#[], by rw [upd_ne (ne_of_none q hn), q]; simp⟩
theorem Un.write (mu : Mut (H x)) (he : e = x ∨ H e = some (.own x)) (k : ∀ b u, b ≠ e → h.get? b = some u → h'.get? b = some u) (heo : ∃ u, h'.get? e = some u) : Un fs ex H (upd H x o) h h' := by
 have hx : ∀ b, H b = none → b ≠ x := fun b n z => by subst z; rw [n] at mu; exact mu
 have hb : ∀ b, H b = none → b ≠ e := fun b n z => by
  subst z
  rcases he with r | r
  ·exact hx b n r
  ·rw [n] at r; cases r
 have hm : ∀ b u, H b = some u → ¬ Mut (some u) → b ≠ x := fun b u q nm z => by subst z; rw [q] at mu; exact nm mu
 refine ⟨fun b u q n _ _ => k b u (hb b n) q, fun b u q n _ _ => ⟨u.slots, k b u (hb b n) q⟩, fun b u q n _ => by rw [upd_ne (hx b n)]; exact n, fun b u q _ => ?_,
  fun b xs q => by rw [upd_ne (hm b _ q fun z => z)]; exact q, fun b u xs q => by rw [upd_ne (hm b _ q fun z => z)]; exact q, fun b ps q => ⟨#[], by rw [upd_ne (hm b _ q fun z => z), q]; simp⟩⟩
 by_cases hbe : b = e
 ·subst hbe; exact heo
 ·exact ⟨u, k b u hbe q⟩
end
def trk (h : Heap) (H : Hp) : List Addr := (List.range h.objs.size).filter fun a => (H a).isSome
def hidT (h : Heap) (H : Hp) : Heap := PySem.W.hideAll h (trk h H)
theorem hidT_size (h : Heap) (H : Hp) : (hidT h H).objs.size = h.objs.size := PySem.W.hideAll_size _ _
theorem hidT_get {h : Heap} {H : Hp} {b : Addr} {o : Obj} (e : h.get? b = some o) (n : H b = none) : (hidT h H).get? b = some o :=
 PySem.W.hideAll_get _ e fun hm => by
  have q : (H b).isSome = true := (List.mem_filter.mp hm).2
  rw [n] at q; simp at q
theorem of_hidT {h : Heap} {H : Hp} {b : Addr} {o : Obj} (e : (hidT h H).get? b = some o) : h.get? b = some o ∧ H b = none := by
 have e' : h.get? b = some o := PySem.W.of_hideAll (trk h H) e
 refine ⟨e', ?_⟩
 cases q : H b with
 | none => rfl
 | some x =>
  have hm : b ∈ trk h H := List.mem_filter.mpr ⟨List.mem_range.mpr (Heap.lt_size e'), by simp [q]⟩
  have z : (hidT h H).get? b = none := PySem.W.hideAll_none (trk h H) hm
  rw [z] at e; cases e
end L2
namespace L2
open PySem PySem.Spec PyProof.Rows
structure Mod (K : PySem.W.Frag) (mg : Str → Option Value) (base : Heap) : Prop where
 kin : K.In base
 glob : base.Ns mainGlobals mg
 blt : ∃ mb, base.Ns builtinsNs mb ∧ ∀ x : Str, x ≠ "__name__" → mb x = bootBuiltins x
 nolimit : base.NoLimit
structure Cx where
 prog : Program
 w : World
 K : PySem.W.Frag
 mg : Str → Option Value
 base : Heap
 A : Around
 N : List Str
 s_0 : Shared
 H_0 : Hp
 env : Env
 outer : List Env
 stack : List Env
 ex : List Addr
 fn : Str → Bool
 calm : Bool
 pn : List (Addr × Obj)
 xe : Value → Shared → Prop
def frs (l : List Env) : List Addr := l.filterMap (·.frame)
abbrev Cx.fs (X : Cx) : List Addr := frs X.outer
def Vis (sc : Scope) (x : Str) : Prop := sc.names.lookup x = some .local ∨ sc.names.lookup x = some .cell ∨ sc.names.lookup x = some .free
def Loc (sc : Scope) (x : Str) : Prop := sc.names.lookup x = some .local ∨ sc.names.lookup x = some .cell
def Look (env : Env) (h : Heap) (m : Str → Option Value) (x : Str) (u : Value) : Prop :=
 (env.kindOf x = some .local ∧ m x = some u) ∨ ((env.kindOf x = some .cell ∨ env.kindOf x = some .free) ∧ ∃ c, env.cells.lookup x = some c ∧ h.IsCell c (some u))
structure Cx.Ok (X : Cx) : Prop where
 mod : Mod X.K X.mg X.base
 kind : X.env.scope.kind = .function
 glob : X.env.globals = mainGlobals
 blt : X.env.builtins = builtinsNs
 above : X.s_0.heap.objs.size ≤ X.env.locals
 inj : ∀ x y c, X.env.cells.lookup x = some c → X.env.cells.lookup y = some c → x = y
 has : ∀ x, (X.env.kindOf x = some .cell ∨ X.env.kindOf x = some .free) → ∃ c, X.env.cells.lookup x = some c
 cab : ∀ x c, X.fn x = true → X.env.cells.lookup x = some c → X.s_0.heap.objs.size ≤ c
 hd : X.calm = true → X.A.handled = none
 frames : X.A.frames = some X.stack
 stk : X.stack = X.outer ∨ (X.stack = X.env :: X.outer ∧ X.env.frame = some X.env.locals)
 exf : ∀ b ∈ X.ex, b ≠ X.env.locals ∧ ∀ x c, X.env.cells.lookup x = some c → c ≠ b
 bs : ∀ b o, X.base.get? b = some o → X.s_0.heap.get? b = some o ∧ X.H_0 b = none
 bsz : X.base.objs.size ≤ X.s_0.heap.objs.size
 noex : ∀ b o, X.base.get? b = some o → b ∉ X.ex
 exfs : ∀ b ∈ X.ex, b ∉ X.fs
 funs : X.s_0.heap.FunFrames X.base X.outer
 frf : ∀ b ∈ X.fs, X.H_0 b = none
structure Inv (X : Cx) (pins : List (Addr × Obj)) (σ : List (Option V)) (H : Hp) (s : Shared) : Prop where
 ok : X.Ok
 os : s.os = X.s_0.os
 bare : AllBare s.gens
 base : Un X.fs X.ex X.H_0 H X.s_0.heap s.heap
 loc : ∃ m, s.heap.Ns X.env.locals m ∧ ∀ (i : Nat) (x : Str) (v : V), X.N[i]? = some x → σ[i]? = some (some v) → Vis X.env.scope x → ∃ u, RelV v u ∧ Look X.env s.heap m x u
 cell : ∀ x c, X.env.cells.lookup x = some c → ∃ v, s.heap.IsCell c v
 free : H X.env.locals = none
 freeC : ∀ x c, X.env.cells.lookup x = some c → H c = none
 pin : ∀ p ∈ X.pn ++ pins, s.heap.get? p.1 = some p.2 ∧ H p.1 = none ∧ p.1 ≠ X.env.locals ∧ p.1 ∉ X.fs ∧ ∀ v, p.2.data ≠ .cell v
 hok : HOk X.prog X.w H s.heap
 len : σ.length = X.N.length
section
variable {X : Cx} {pins : List (Addr × Obj)} {σ : List (Option V)} {H H' : Hp} {s : Shared} {h' : Heap}
theorem Cx.Ok.nofr (ok : X.Ok) {b : Addr} {o : Obj} (e : X.base.get? b = some o) : b ∉ X.fs := fun hb => by
 have := (ok.funs.mem hb).1
 rw [e] at this; cases this
theorem Inv.bs (I : Inv X pins σ H s) : ∀ b o, X.base.get? b = some o → s.heap.get? b = some o ∧ H b = none := fun b o e =>
 ⟨I.base.keep b o (I.ok.bs b o e).1 (I.ok.bs b o e).2 (I.ok.nofr e) (I.ok.noex b o e), I.base.free b o (I.ok.bs b o e).1 (I.ok.bs b o e).2 (I.ok.noex b o e)⟩
theorem Inv.bk (I : Inv X pins σ H s) : ∀ b o, X.base.get? b = some o → s.heap.get? b = some o := fun b o e => (I.bs b o e).1
theorem Inv.mod (I : Inv X pins σ H s) : Mod X.K X.mg X.base := I.ok.mod
theorem Inv.kIn (I : Inv X pins σ H s) : X.K.In s.heap := I.ok.mod.kin.keeps I.bk
theorem Inv.nolimit (I : Inv X pins σ H s) : s.heap.NoLimit := I.ok.mod.nolimit.keeps I.bk
theorem Inv.lt (I : Inv X pins σ H s) : X.env.locals < s.heap.objs.size := let ⟨_, hn, _⟩ := I.loc; hn.lt
theorem Inv.sz (I : Inv X pins σ H s) : X.s_0.heap.objs.size ≤ s.heap.objs.size := Nat.le_trans I.ok.above (Nat.le_of_lt I.lt)
theorem Inv.nofs (I : Inv X pins σ H s) {a : Addr} (h : s.heap.objs.size ≤ a) : a ∉ X.fs := fun hb => by
 obtain ⟨_, o, ho, _⟩ := I.ok.funs.mem hb
 exact absurd (Nat.lt_of_lt_of_le (Heap.lt_size ho) (Nat.le_trans I.sz h)) (Nat.lt_irrefl _)
theorem Inv.cne (I : Inv X pins σ H s) : ∀ x c, X.env.cells.lookup x = some c → c ≠ X.env.locals := fun x c e z => by
 obtain ⟨v, o, ho, hd⟩ := I.cell x c e
 obtain ⟨m, ⟨o', es, ep, ho', hd', _⟩, _⟩ := I.loc
 rw [z, ho'] at ho; cases ho; rw [hd'] at hd; cases hd
theorem Inv.funs (I : Inv X pins σ H s) : s.heap.FunFrames X.base X.outer := by
 have all : ∀ (l : List Env), (∀ b ∈ frs l, b ∈ X.fs) → X.s_0.heap.FunFrames X.base l → s.heap.FunFrames X.base l := by
  intro l
  induction l with
  | nil => intro _ _; trivial
  | cons env r ih =>
   intro hs hl
   obtain ⟨hk, ⟨L, o, hf, hn, ho, hd⟩, hr⟩ := hl
   have hL : L ∈ X.fs := hs L (by unfold frs; rw [List.filterMap_cons, hf]; exact List.mem_cons_self)
   obtain ⟨sl, e⟩ := I.base.slot L o ho (I.ok.frf L hL) hL fun z => I.ok.exfs L z hL
   exact ⟨hk, ⟨L, _, hf, hn, e, hd⟩, ih (fun b hb => hs b (by unfold frs; rw [List.filterMap_cons, hf]; exact List.mem_cons_of_mem _ hb)) hr⟩
 exact all X.outer (fun _ hb => hb) I.ok.funs
theorem Inv.stack (I : Inv X pins σ H s) : s.heap.FunFrames X.base X.stack := by
 rcases I.ok.stk with e | ⟨e, hf⟩
 ·rw [e]; exact I.funs
 ·rw [e]
  obtain ⟨m, hn, _⟩ := I.loc
  refine .cons (by rw [I.ok.kind]; decide) hf hn ?_ I.funs
  exact Heap.get?_none_of_le (Nat.le_trans I.ok.bsz I.ok.above)
theorem Inv.stkSub (I : Inv X pins σ H s) : ∀ b ∈ frs X.stack, b ∈ X.env.locals :: X.fs := fun b hb => by
 rcases I.ok.stk with e | ⟨e, hf⟩
 ·rw [e] at hb; exact List.mem_cons_of_mem _ hb
 ·rw [e] at hb
  unfold frs at hb
  rw [List.filterMap_cons, hf] at hb
  exact hb
theorem Inv.stkFree (I : Inv X pins σ H s) : ∀ b ∈ frs X.stack, H b = none := fun b hb => by
 rcases List.mem_cons.mp (I.stkSub b hb) with e | hb
 ·rw [e]; exact I.free
 ·obtain ⟨_, o, ho, _⟩ := I.ok.funs.mem hb
  exact I.base.free b o ho (I.ok.frf b hb) fun z => I.ok.exfs b z hb
theorem Inv.step {g' : Array GenState} {t' : Nat} {d' : Drawn} {ch : List Addr} (I : Inv X pins σ H s)
  (hch : ∀ b ∈ ch, (b ∈ X.ex ∨ X.s_0.heap.objs.size ≤ b) ∧ b ≠ X.env.locals ∧ (∀ x c, X.env.cells.lookup x = some c → c ≠ b) ∧ ∀ p ∈ X.pn ++ pins, p.1 ≠ b)
  (keep : ∀ b o, b ≠ X.env.locals → b ∉ X.fs → b ∉ ch → s.heap.get? b = some o → H b = none → h'.get? b = some o)
  (slot : ∀ b o, b ≠ X.env.locals → b ∈ X.fs → b ∉ ch → s.heap.get? b = some o → H b = none → ∃ sl, h'.get? b = some { o with slots := sl }) (free : ∀ b o, b ∉ ch → s.heap.get? b = some o → H b = none → H' b = none)
  (there : ∀ b o, b ∉ ch → s.heap.get? b = some o → ∃ o', h'.get? b = some o')
  (tups : ∀ b xs, H b = some (.tup xs) → H' b = some (.tup xs)) (frzs : ∀ b o u, H b = some (.frz o u) → H' b = some (.frz o u)) (tbls : ∀ b ps, H b = some (.tbl ps) → ∃ more, H' b = some (.tbl (ps ++ more)))
  (ns : ∀ m, s.heap.Ns X.env.locals m → h'.Ns X.env.locals m) (hok : HOk X.prog X.w H' h') (hg : AllBare g') :
  Inv X pins σ H' { s with heap := h', gens := g', drawn := d', toks := t' } := by
 have neL : ∀ b o, X.s_0.heap.get? b = some o → b ≠ X.env.locals := fun b o e => Nat.ne_of_lt (Nat.lt_of_lt_of_le (Heap.lt_size e) I.ok.above)
 have neC : ∀ b o, X.s_0.heap.get? b = some o → b ∉ X.ex → b ∉ ch := fun b o e hx hb => by
  rcases (hch b hb).1 with z | z
  ·exact hx z
  ·exact absurd (Nat.lt_of_lt_of_le (Heap.lt_size e) z) (Nat.lt_irrefl _)
 have cellK : ∀ x c, X.env.cells.lookup x = some c → ∀ v, s.heap.IsCell c v → h'.IsCell c v := fun x c e v ⟨o, ho, hd⟩ => by
  have nch : c ∉ ch := fun z => (hch c z).2.2.1 x c e rfl
  by_cases hc : c ∈ X.fs
  ·obtain ⟨sl, q⟩ := slot c o (I.cne x c e) hc nch ho (I.freeC x c e)
   exact ⟨_, q, hd⟩
  ·exact ⟨o, keep c o (I.cne x c e) hc nch ho (I.freeC x c e), hd⟩
 refine ⟨I.ok, I.os, hg, ⟨fun b o e n hb hx => ?_, fun b o e n hb hx => ?_, fun b o e n hx => ?_, fun b o e hx => ?_, fun b xs e => tups b xs (I.base.tups b xs e), fun b o xs e => frzs b o xs (I.base.frzs b o xs e), fun b ps e => ?_⟩, ?_, fun x c e => ?_, ?_, fun x c e => ?_, fun p hp => ?_, hok, I.len⟩
 ·exact keep b o (neL b o e) hb (neC b o e hx) (I.base.keep b o e n hb hx) (I.base.free b o e n hx)
 ·obtain ⟨sl, e1⟩ := I.base.slot b o e n hb hx
  obtain ⟨sl', e2⟩ := slot b _ (neL b o e) hb (neC b o e hx) e1 (I.base.free b o e n hx)
  exact ⟨sl', e2⟩
 ·obtain ⟨o', e1⟩ := I.base.there b o e hx
  exact free b o' (neC b o e hx) e1 (I.base.free b o e n hx)
 ·obtain ⟨o', e1⟩ := I.base.there b o e hx
  exact there b o' (neC b o e hx) e1
 ·obtain ⟨m1, e1⟩ := I.base.tbls b ps e
  obtain ⟨m2, e2⟩ := tbls b _ e1
  exact ⟨m1 ++ m2, by rw [e2, Array.append_assoc]⟩
 ·obtain ⟨m, hn, hl⟩ := I.loc
  refine ⟨m, ns m hn, fun i x v e1 e2 e3 => ?_⟩
  obtain ⟨u, r, l⟩ := hl i x v e1 e2 e3
  refine ⟨u, r, ?_⟩
  rcases l with l | ⟨k, c, e, z⟩
  ·exact .inl l
  ·exact .inr ⟨k, c, e, cellK x c e _ z⟩
 ·obtain ⟨v, z⟩ := I.cell x c e
  exact ⟨v, cellK x c e v z⟩
 ·obtain ⟨m, ⟨o, _, _, ho, _⟩, _⟩ := I.loc
  exact free _ o (fun z => (hch _ z).2.1 rfl) ho I.free
 ·obtain ⟨v, o, ho, hd⟩ := I.cell x c e
  exact free c o (fun z => (hch c z).2.2.1 x c e rfl) ho (I.freeC x c e)
 ·obtain ⟨e, n, ne, nf, d⟩ := I.pin p hp
  have nch : p.1 ∉ ch := fun z => (hch p.1 z).2.2.2 p hp rfl
  exact ⟨keep p.1 p.2 ne nf nch e n, free p.1 p.2 nch e n, ne, nf, d⟩
theorem Inv.un {t' : Nat} (I : Inv X pins σ H s) (u : Un X.fs [] H H' s.heap h') (hok : HOk X.prog X.w H' h') : Inv X pins σ H' { s with heap := h', toks := t' } := by
 obtain ⟨m, ⟨o, es, ep, ho, r⟩, _⟩ := id I.loc
 obtain ⟨sl, hL⟩ := u.any ho I.free (by simp)
 exact I.step (g' := s.gens) (d' := s.drawn) (ch := []) (fun _ z => nomatch z) (fun b o _ hb _ e n => u.keep b o e n hb (by simp)) (fun b o _ hb _ e n => u.slot b o e n hb (by simp)) (fun b o _ e n => u.free b o e n (by simp)) (fun b o _ e => u.there b o e (by simp)) u.tups u.frzs u.tbls (fun m' hm => by
  obtain ⟨o', es', ep', ho', r'⟩ := hm
  rw [ho] at ho'; cases ho'
  exact ⟨_, es', ep', hL, r'⟩) hok I.bare
theorem Inv.call {g' : Array GenState} {t' : Nat} {d' : Drawn} {ch : List Addr} (I : Inv X pins σ H s) (u : Un (frs X.stack) ch H H' s.heap h') (hok : HOk X.prog X.w H' h') (hg : AllBare g')
  (hch : ∀ b ∈ ch, (b ∈ X.ex ∨ X.s_0.heap.objs.size ≤ b) ∧ b ≠ X.env.locals ∧ (∀ x c, X.env.cells.lookup x = some c → c ≠ b) ∧ ∀ p ∈ X.pn ++ pins, p.1 ≠ b) :
  Inv X pins σ H' { s with heap := h', gens := g', drawn := d', toks := t' } := by
 obtain ⟨m, ⟨o, es, ep, ho, r⟩, _⟩ := id I.loc
 obtain ⟨sl, hL⟩ := u.any ho I.free fun z => (hch _ z).2.1 rfl
 exact I.step (ch := ch) hch (fun b o hL hb hc e n => u.keep b o e n (fun z => (List.mem_cons.mp (I.stkSub b z)).elim hL hb) hc) (fun b o _ _ hc e n => u.any e n hc) (fun b o hc e n => u.free b o e n hc) (fun b o hc e => u.there b o e hc) u.tups u.frzs u.tbls (fun m' hm => by
  obtain ⟨o', es', ep', ho', r'⟩ := hm
  rw [ho] at ho'; cases ho'
  exact ⟨_, es', ep', hL, r'⟩) hok hg
theorem Inv.turned {t' : Nat} {it : Addr} (I : Inv X pins σ H s) (k : ∀ b o, b ≠ it → s.heap.get? b = some o → h'.get? b = some o) (hn : H it = none) (hL : it ≠ X.env.locals)
  (h1 : it ∈ X.ex ∨ X.s_0.heap.objs.size ≤ it) (h2 : ∀ x c, X.env.cells.lookup x = some c → c ≠ it) (h3 : ∀ p ∈ X.pn ++ pins, p.1 ≠ it) : Inv X pins σ H { s with heap := h', toks := t' } := by
 have nit : ∀ b u, H b = some u → b ≠ it := fun b u e z => by rw [z, hn] at e; cases e
 refine I.step (g' := s.gens) (d' := s.drawn) (ch := [it]) (fun b hb => ?_) (fun b o _ _ hc e _ => k b o (fun z => hc (by simp [z])) e) (fun b o _ _ hc e _ => ⟨o.slots, k b o (fun z => hc (by simp [z])) e⟩) (fun _ _ _ _ n => n)
  (fun b o hc e => ⟨o, k b o (fun z => hc (by simp [z])) e⟩) (fun _ _ e => e) (fun _ _ _ e => e) (fun b ps e => ⟨#[], by rw [e]; simp⟩) (fun m hm => ?_) (fun b u e => ?_) I.bare
 ·have e : b = it := by simpa using hb
  subst e
  exact ⟨h1, hL, h2, h3⟩
 ·obtain ⟨o, es, ep, ho, r⟩ := hm
  exact ⟨o, es, ep, k _ o (Ne.symm hL) ho, r⟩
 ·refine (I.hok b u e).stay (fun c v hc q => k c v ?_ q) (fun _ q => q) fun _ _ q => q
  rcases hc with z | z
  ·rw [z]; exact nit b u e
  ·exact nit c _ z
theorem Inv.tok (I : Inv X pins σ H s) (t : Nat) : Inv X pins σ H { s with toks := t } := I.un (h' := s.heap) (t' := t) Un.refl I.hok
theorem Inv.kept {t' : Nat} (I : Inv X pins σ H s) (k : ∀ b u, s.heap.get? b = some u → h'.get? b = some u) : Inv X pins σ H { s with heap := h', toks := t' } := I.un (Un.kept k) (I.hok.kept k)
theorem Inv.laid {a : Addr} {o : HO} {t' : Nat} (I : Inv X pins σ H s) (k : ∀ b u, s.heap.get? b = some u → h'.get? b = some u) (hp : s.heap.objs.size ≤ a) (new : ObjOk X.prog X.w (upd H a o) h' a o) :
  Inv X pins σ (upd H a o) { s with heap := h', toks := t' } := I.un (Un.laid k hp (I.hok.fresh hp)) (I.hok.laid k hp new)
theorem Inv.write {x e : Addr} {o : HO} {t' : Nat} (I : Inv X pins σ H s) (mu : Mut (H x)) (he : e = x ∨ H e = some (.own x)) (k : ∀ b u, b ≠ e → s.heap.get? b = some u → h'.get? b = some u) (heo : ∃ u, h'.get? e = some u)
  (new : ObjOk X.prog X.w (upd H x o) h' x o) : Inv X pins σ (upd H x o) { s with heap := h', toks := t' } := I.un (Un.write mu he k heo) (I.hok.write mu he k heo new)
theorem Inv.weak {σ' : List (Option V)} (I : Inv X pins σ H s) (hl : σ'.length = σ.length) (w : ∀ (i : Nat) v, σ'[i]? = some (some v) → σ[i]? = some (some v)) : Inv X pins σ' H s :=
 ⟨I.ok, I.os, I.bare, I.base, let ⟨m, hn, hl'⟩ := I.loc; ⟨m, hn, fun i x v e1 e2 e3 => hl' i x v e1 (w i v e2) e3⟩, I.cell, I.free, I.freeC, I.pin, I.hok, hl.trans I.len⟩
theorem Inv.pins_of {pins' : List (Addr × Obj)} (I : Inv X pins σ H s) (h : ∀ p ∈ pins', s.heap.get? p.1 = some p.2 ∧ H p.1 = none ∧ p.1 ≠ X.env.locals ∧ p.1 ∉ X.fs ∧ ∀ v, p.2.data ≠ .cell v) : Inv X pins' σ H s :=
 ⟨I.ok, I.os, I.bare, I.base, I.loc, I.cell, I.free, I.freeC, fun p hp => (List.mem_append.mp hp).elim (fun z => I.pin p (List.mem_append_left _ z)) (h p), I.hok, I.len⟩
theorem nodup_ix {N : List Str} (hN : N.Nodup) {i j : Nat} {x : Str} (a : N[i]? = some x) (b : N[j]? = some x) : i = j := by
 obtain ⟨h1, e1⟩ := List.getElem?_eq_some_iff.mp a
 obtain ⟨h2, e2⟩ := List.getElem?_eq_some_iff.mp b
 exact (List.getElem_inj hN).mp (e1.trans e2.symm)
theorem store_ok2 {M : Model} {A : Around} {E : Value → Shared → Prop} {i : Nat} {x : Str} {v : V} {u : Value} {Q : Unit → Shared → Prop} (I : Inv X pins σ H s) (hN : X.N.Nodup) (hi : X.N[i]? = some x) (hx : Loc X.env.scope x) (r : RelV v u)
  (h : ∀ s', Inv X pins (σ.set i (some v)) H s' → (∃ a, Heap.SameBut a s.heap s'.heap ∧ (a = X.env.locals ∨ X.env.cells.lookup x = some a)) → Q () s') (hf : X.fn x = true ∨ X.env.scope.names.lookup x = some .local := by first | exact .inl rfl | exact .inr rfl | assumption) : wpAny M A (storeName X.env x u) Q E s := by
 obtain ⟨m, hn, hl⟩ := id I.loc
 have hcls : (X.env.scope.kind == .class || (X.env.scope.kind == .module && X.env.locals != X.env.globals)) = false := by rw [I.ok.kind]; rfl
 have hiσ : i < σ.length := by rw [I.len]; exact (List.getElem?_eq_some_iff.mp hi).1
 have cne := I.cne
 have tracked : ∀ {a : Addr} {h' : Heap}, (∃ o, s.heap.get? a = some o ∧ H a = none) → Heap.SameBut a s.heap h' → HOk X.prog X.w H h' := fun {a h'} ha hs b ob e => by
  obtain ⟨_, _, hfree⟩ := ha
  refine (I.hok b ob e).stay (fun c w' hc q => (hs.2 c ?_).trans q) (fun _ q => q) fun _ _ q => q
  rintro rfl
  rcases hc with rfl | hc
  ·rw [hfree] at e; cases e
  ·rw [hfree] at hc; cases hc
 rcases hx with hk | hk
 ·refine wpAny_storeName_local hk hn (fun h' hn' hs => ?_) hcls
  obtain ⟨oL, _, _, hoL, _⟩ := id hn
  refine h _ ⟨I.ok, I.os, I.bare, ⟨fun b o e n hb hx => ?_, fun b o e n hb hx => ?_, I.base.free, fun b o e hx => ?_, I.base.tups, I.base.frzs, I.base.tbls⟩, ⟨_, hn', fun j y v' e1 e2 e3 => ?_⟩, fun y c e => ?_, I.free, I.freeC, fun p hp => ?_, tracked ⟨oL, hoL, I.free⟩ hs, by simpa using I.len⟩ ⟨_, hs, .inl rfl⟩
  ·exact (hs.2 b (Nat.ne_of_lt (Nat.lt_of_lt_of_le (Heap.lt_size e) I.ok.above))).trans (I.base.keep b o e n hb hx)
  ·obtain ⟨sl, e1⟩ := I.base.slot b o e n hb hx
   exact ⟨sl, (hs.2 b (Nat.ne_of_lt (Nat.lt_of_lt_of_le (Heap.lt_size e) I.ok.above))).trans e1⟩
  ·obtain ⟨o', e1⟩ := I.base.there b o e hx
   exact ⟨o', (hs.2 b (Nat.ne_of_lt (Nat.lt_of_lt_of_le (Heap.lt_size e) I.ok.above))).trans e1⟩
  ·by_cases hj : j = i
   ·subst hj
    rw [hi] at e1; cases e1
    rw [List.getElem?_set_self hiσ] at e2
    cases e2
    exact ⟨u, r, .inl ⟨hk, by simp⟩⟩
   ·rw [List.getElem?_set_ne (Ne.symm hj)] at e2
    obtain ⟨u', r', q⟩ := hl j y v' e1 e2 e3
    refine ⟨u', r', ?_⟩
    rcases q with ⟨k, e⟩ | ⟨k, c, e, z⟩
    ·refine .inl ⟨k, ?_⟩
     have : y ≠ x := fun e => hj (nodup_ix hN e1 (e ▸ hi))
     simp [this, e]
    ·exact .inr ⟨k, c, e, z.sameBut hs (cne y c e)⟩
  ·obtain ⟨w', z⟩ := I.cell y c e
   exact ⟨w', z.sameBut hs (cne y c e)⟩
  ·obtain ⟨e, n, ne, nf, d⟩ := I.pin p hp
   exact ⟨(hs.2 p.1 ne).trans e, n, ne, nf, d⟩
 ·have hfn : X.fn x = true := by
   rcases hf with z | z
   ·exact z
   ·rw [z] at hk; cases hk
  obtain ⟨c, hc⟩ := I.ok.has x (.inl hk)
  obtain ⟨w', z⟩ := I.cell x c hc
  refine wpAny_storeName_cell I.ok.kind hk hc z (fun h' hc' hs => ?_)
  obtain ⟨oc, hoc, hocd⟩ := id z
  refine h { s with heap := h' } ⟨I.ok, I.os, I.bare, ⟨fun b o e n hb hx => ?_, fun b o e n hb hx => ?_, I.base.free, fun b o e hx => ?_, I.base.tups, I.base.frzs, I.base.tbls⟩, ⟨m, hn.sameBut hs (Ne.symm (cne x c hc)), fun j y v' e1 e2 e3 => ?_⟩, fun y c' e => ?_, I.free, I.freeC, fun p hp => ?_, tracked ⟨oc, hoc, I.freeC x c hc⟩ hs, by simpa using I.len⟩ ⟨c, hs, .inr hc⟩
  ·exact (hs.2 b (Nat.ne_of_lt (Nat.lt_of_lt_of_le (Heap.lt_size e) (I.ok.cab x c hfn hc)))).trans (I.base.keep b o e n hb hx)
  ·obtain ⟨sl, e1⟩ := I.base.slot b o e n hb hx
   exact ⟨sl, (hs.2 b (Nat.ne_of_lt (Nat.lt_of_lt_of_le (Heap.lt_size e) (I.ok.cab x c hfn hc)))).trans e1⟩
  ·obtain ⟨o', e1⟩ := I.base.there b o e hx
   exact ⟨o', (hs.2 b (Nat.ne_of_lt (Nat.lt_of_lt_of_le (Heap.lt_size e) (I.ok.cab x c hfn hc)))).trans e1⟩
  ·by_cases hj : j = i
   ·subst hj
    rw [hi] at e1; cases e1
    rw [List.getElem?_set_self hiσ] at e2
    cases e2
    exact ⟨u, r, .inr ⟨.inl hk, c, hc, hc'⟩⟩
   ·rw [List.getElem?_set_ne (Ne.symm hj)] at e2
    obtain ⟨u', r', q⟩ := hl j y v' e1 e2 e3
    refine ⟨u', r', ?_⟩
    rcases q with q | ⟨k, c', e, z'⟩
    ·exact .inl q
    ·refine .inr ⟨k, c', e, z'.sameBut hs ?_⟩
     rintro rfl
     exact hj (nodup_ix hN e1 (I.ok.inj _ _ _ e hc ▸ hi))
  ·by_cases hcc : c' = c
   ·subst hcc; exact ⟨_, hc'⟩
   ·obtain ⟨w2, z2⟩ := I.cell y c' e
    exact ⟨w2, z2.sameBut hs hcc⟩
  ·obtain ⟨e, n, ne, nf, d⟩ := I.pin p hp
   refine ⟨(hs.2 p.1 ?_).trans e, n, ne, nf, d⟩
   intro q
   rw [q, hoc] at e
   have q' : oc = p.2 := Option.some.inj e
   exact d w' (by rw [← q']; exact hocd)
theorem store_ok {M : Model} {A : Around} {E : Value → Shared → Prop} {i : Nat} {x : Str} {v : V} {u : Value} {Q : Unit → Shared → Prop} (I : Inv X pins σ H s) (hN : X.N.Nodup) (hi : X.N[i]? = some x) (hx : Loc X.env.scope x) (r : RelV v u)
  (h : ∀ s', Inv X pins (σ.set i (some v)) H s' → Q () s') (hf : X.fn x = true ∨ X.env.scope.names.lookup x = some .local := by first | exact .inl rfl | exact .inr rfl | assumption) : wpAny M A (storeName X.env x u) Q E s :=
 store_ok2 I hN hi hx r (fun s' I' _ => h s' I') hf
theorem Inv.call' {s' : Shared} {ch : List Addr} (I : Inv X pins σ H s) (ho : s'.os = s.os) (u : Un (frs X.stack) ch H H' s.heap s'.heap) (hok : HOk X.prog X.w H' s'.heap) (hg : AllBare s'.gens)
  (hch : ∀ b ∈ ch, (b ∈ X.ex ∨ X.s_0.heap.objs.size ≤ b) ∧ b ≠ X.env.locals ∧ (∀ x c, X.env.cells.lookup x = some c → c ≠ b) ∧ ∀ p ∈ X.pn ++ pins, p.1 ≠ b) : Inv X pins σ H' s' := by
 obtain ⟨h', g', d', t', o'⟩ := s'
 have e : o' = s.os := ho
 subst e
 exact I.call (g' := g') (t' := t') (d' := d') u hok hg hch
end
abbrev XK := Value → Option Addr → Hp → Prop
abbrev St := List (Option V)
abbrev VK := V → Hp → Prop
abbrev TE := St → Hp → VK → Prop
abbrev TT := St → Hp → (Bool → Hp → Prop) → Prop
abbrev TA := St → Hp → (List V → Hp → Prop) → Prop
structure Ends where
 nx : St → Hp → Prop
 rt : VK
 bk : St → Hp → Prop := fun _ _ => False
 ct : St → Hp → Prop := fun _ _ => False
abbrev TS := Ends → St → Hp → Prop
def EP (X : Cx) (pins : List (Addr × Obj)) (σ : St) (Q : VK) (u : Value) (s' : Shared) : Prop := ∃ v H', Inv X pins σ H' s' ∧ RelV v u ∧ Q v H'
def TP (X : Cx) (pins : List (Addr × Obj)) (σ : St) (Q : Bool → Hp → Prop) (b : Bool) (s' : Shared) : Prop := ∃ H', Inv X pins σ H' s' ∧ Q b H'
def AP (X : Cx) (pins : List (Addr × Obj)) (σ : St) (Q : List V → Hp → Prop) (us : List Value) (s' : Shared) : Prop := ∃ vs H', Inv X pins σ H' s' ∧ Vals vs us ∧ Q vs H'
def SP (X : Cx) (pins : List (Addr × Obj)) (D : Ends) (f : Flow) (s' : Shared) : Prop :=
 match f with
 | .next => ∃ σ' H', Inv X pins σ' H' s' ∧ D.nx σ' H'
 | .brk => ∃ σ' H', Inv X pins σ' H' s' ∧ D.bk σ' H'
 | .cont => ∃ σ' H', Inv X pins σ' H' s' ∧ D.ct σ' H'
 | .ret u => ∃ v σ' H', Inv X pins σ' H' s' ∧ RelV v u ∧ D.rt v H'
def PE (X : Cx) (e : Expr) (t : TE) : Prop :=
 ∀ (pins : List (Addr × Obj)) (s : Shared) (σ : St) (H : Hp) (Q : VK), Inv X pins σ H s → t σ H Q → wpAny (model X.prog X.w) X.A (eval e X.env) (EP X pins σ Q) X.xe s
def PT (X : Cx) (e : Expr) (t : TT) : Prop :=
 ∀ (pins : List (Addr × Obj)) (s : Shared) (σ : St) (H : Hp) (Q : Bool → Hp → Prop), Inv X pins σ H s → t σ H Q → wpAny (model X.prog X.w) X.A (isTrue e X.env (eval e X.env)) (TP X pins σ Q) X.xe s
def PW (X : Cx) (e : Expr) (t : TT) : Prop :=
 ∀ (whole : Sem Value) (pins : List (Addr × Obj)) (s : Shared) (σ : St) (H : Hp) (Q : Bool → Hp → Prop), Inv X pins σ H s → t σ H Q → wpAny (model X.prog X.w) X.A (isTrue e X.env whole) (TP X pins σ Q) X.xe s
theorem PW.pt {X : Cx} {e : Expr} {t : TT} (h : PW X e t) : PT X e t := h _
def PA (X : Cx) (es : List Expr) (t : TA) : Prop :=
 ∀ (pos : Pos) (pins : List (Addr × Obj)) (s : Shared) (σ : St) (H : Hp) (Q : List V → Hp → Prop), Inv X pins σ H s → t σ H Q → wpAny (model X.prog X.w) X.A (spliced (backTo pos (starEach es X.env))) (AP X pins σ Q) X.xe s
def PS (X : Cx) (st : Stmt) (t : TS) : Prop :=
 ∀ (pins : List (Addr × Obj)) (s : Shared) (σ : St) (H : Hp) (D : Ends), Inv X pins σ H s → t D σ H → wpAny (model X.prog X.w) X.A (exec st X.env) (SP X pins D) X.xe s
def PSs (X : Cx) (st : List Stmt) (t : TS) : Prop :=
 ∀ (pins : List (Addr × Obj)) (s : Shared) (σ : St) (H : Hp) (D : Ends), Inv X pins σ H s → t D σ H → wpAny (model X.prog X.w) X.A (execs st X.env) (SP X pins D) X.xe s
theorem thn {α : Type} {t : Sem α} {Q Q' : α → Shared → Prop} {M : Model} {A : Around} {E : Value → Shared → Prop} {s : Shared} (h : wpAny M A t Q E s) (hQ : ∀ a s, Q a s → Q' a s) : wpAny M A t Q' E s := wpAny_mono h hQ fun _ _ x => x
end L2
namespace L2
open PySem PySem.Spec PyProof.Rows
section
variable {X : Cx}
def tVar (i : Nat) : TE := fun σ H Q => ∃ v, σ[i]? = some (some v) ∧ Q v H
def tC (v : V) : TE := fun _ H Q => Q v H
theorem pe_var {i : Nat} {x : Str} {pos : Pos} (hN : X.N[i]? = some x) (hv : Vis X.env.scope x) (hd : (x == ("__debug__" : Str)) = false := by decide) (hcd : (x == ("__classdict__" : Str)) = false := by decide) : PE X (.Name x pos) (tVar i) := by
 intro pins s σ H Q I h
 obtain ⟨v, e, h⟩ := h
 obtain ⟨m, hn, hl⟩ := I.loc
 obtain ⟨u, r, l⟩ := hl i x v hN e hv
 have fin : EP X pins σ Q u s := ⟨v, H, I, r, h⟩
 rcases l with ⟨hk, hm⟩ | ⟨hk, c, hc, hcell⟩
 ·exact wpAny_Name (wpAny_loadName_local I.ok.kind hk hn hm fin) hd
 ·rcases hk with hk | hk
  ·exact wpAny_Name (wpAny_loadName_cell I.ok.kind hk hc hcell fin) hd
  ·exact wpAny_Name (wpAny_loadName_free I.ok.kind hk hc hcell fin hcd) hd
theorem pe_int {i j pos} : PE X (.Constant (.int i) j pos) (tC (.int i)) := fun _ _ _ H _ I h => wpAny_Constant_int ⟨.int i, H, I.tok _, ⟨_, rfl⟩, h⟩
theorem pe_bl {b j pos} : PE X (.Constant (.bool b) j pos) (tC (.bl b)) := fun _ _ _ H _ I h => Constant_bool ⟨.bl b, H, I, rfl, h⟩
def Gl (X : Cx) (x : Str) : Prop := X.env.kindOf x = some .globalImplicit
theorem ld_glob {E : Value → Shared → Prop} {pins : List (Addr × Obj)} {s : Shared} {σ : St} {H : Hp} {x : Str} {u : Value} {pos : Pos} {Q : Value → Shared → Prop} (I : Inv X pins σ H s) (hg : Gl X x) (hm : X.mg x = some u) (h : Q u s)
  (hd : (x == ("__debug__" : Str)) = false := by decide) : wpAny (model X.prog X.w) X.A (eval (.Name x pos) X.env) Q E s :=
 Calls.Name_function_global I.ok.kind hg (Calls.loadGlobal_global (by rw [I.ok.glob]; exact I.mod.glob.keeps I.bk) hm h) hd
theorem ld_blt {E : Value → Shared → Prop} {pins : List (Addr × Obj)} {s : Shared} {σ : St} {H : Hp} {x : Str} {u : Value} {pos : Pos} {Q : Value → Shared → Prop} (I : Inv X pins σ H s) (hg : Gl X x) (hm : X.mg x = none) (hv : bootBuiltins x = some u) (h : Q u s)
  (hn : x ≠ "__name__" := by decide) (hd : (x == ("__debug__" : Str)) = false := by decide) : wpAny (model X.prog X.w) X.A (eval (.Name x pos) X.env) Q E s := by
 obtain ⟨mb, h1, h2⟩ := I.mod.blt
 exact Calls.Name_function_global I.ok.kind hg (Calls.loadGlobal_builtin (by rw [I.ok.glob]; exact I.mod.glob.keeps I.bk) hm (by rw [I.ok.blt]; exact h1.keeps I.bk) ((h2 x hn).trans hv) h) hd
theorem pe_glob {x : Str} {v : V} {u : Value} {pos : Pos} (hg : Gl X x) (hm : X.mg x = some u) (r : RelV v u) (hd : (x == ("__debug__" : Str)) = false := by decide) : PE X (.Name x pos) (tC v) :=
 fun _ _ _ H _ I h => ld_glob I hg hm ⟨v, H, I, r, h⟩ hd
variable {a b : Expr} {ta tb : TE} {pos : Pos}
def PC (X : Cx) (op : CmpOp) (a b : Expr) (t : TE) : Prop :=
 ∀ (pins : List (Addr × Obj)) (s : Shared) (σ : St) (H : Hp) (Q : VK), Inv X pins σ H s → t σ H Q →
  wpAny (model X.prog X.w) X.A (eval a X.env) (fun v s₁ => wpAny (model X.prog X.w) X.A (eval b X.env) (fun u s₂ => wpAny (model X.prog X.w) X.A (compareOp op v u) (EP X pins σ Q) X.xe s₂) X.xe s₁) X.xe s
def tB (t : TE) : TT := fun σ H Q => t σ H fun x H1 => ∃ c, x = .bl c ∧ Q c H1
theorem pt_cmp {op : CmpOp} {t : TE} (h : PC X op a b t) (h1 : behindInMarks op b = false := by first | exact nobehind _ (by decide) (by decide) | rfl) : PT X (.Compare a [op] [b] pos) (tB t) := by
 intro pins s σ H Q I hw
 refine wpAny_isTrue_Compare1 (thn (h pins s σ H _ I hw) fun v s1 h1 => thn h1 fun u s2 h2 => thn h2 fun c s3 ⟨x, H1, I1, r1, q1⟩ => ?_) h1
 obtain ⟨d, rfl, q⟩ := q1
 cases r1
 exact wpAny_truthy_bool ⟨H1, I1, q⟩
theorem pt_val {e : Expr} {t : TE} (h : PE X e t) (he : ∀ whole, isTrue e X.env whole = (do let v ← whole; standAt e.pos; holding [v] (truthy v)) := by intro _; rfl) : PT X e (tB t) := by
 intro pins s σ H Q I hw
 refine isTrue_plain (thn (h pins s σ H _ I hw) fun v s1 ⟨x, H1, I1, r1, q1⟩ => ?_) (he _)
 obtain ⟨d, rfl, q⟩ := q1
 cases r1
 exact wpAny_truthy_bool ⟨H1, I1, q⟩
variable {tA tB' : TT} {rest : List Expr}
def tAnd (t u : TT) : TT := fun σ H Q => t σ H fun c H1 => if c = true then u σ H1 Q else Q false H1
def tOr (t u : TT) : TT := fun σ H Q => t σ H fun c H1 => if c = true then Q true H1 else u σ H1 Q
def tNot (t : TT) : TT := fun σ H Q => t σ H fun c H1 => Q (!c) H1
theorem pw_and1 (ha : PT X a tA) : PW X (.BoolOp .And [a] pos) tA := by
 intro wh pins s σ H Q I h
 refine isTrue_and (thn (ha pins s σ H Q I h) fun c s1 e => ?_)
 cases c with
 | true => exact isTrue_and_nil e
 | false => exact e
theorem pw_or1 (ha : PT X a tA) : PW X (.BoolOp .Or [a] pos) tA := by
 intro wh pins s σ H Q I h
 refine isTrue_or (thn (ha pins s σ H Q I h) fun c s1 e => ?_)
 cases c with
 | false => exact isTrue_or_nil e
 | true => exact e
theorem pw_and (ha : PT X a tA) (hb : PW X (.BoolOp .And (b :: rest) pos) tB') : PW X (.BoolOp .And (a :: b :: rest) pos) (tAnd tA tB') := by
 intro wh pins s σ H Q I h
 refine isTrue_and (thn (ha pins s σ H _ I h) fun c s1 ⟨H1, I1, q1⟩ => ?_)
 cases c with
 | true => exact hb wh pins s1 σ H1 Q I1 q1
 | false => exact ⟨H1, I1, q1⟩
theorem pw_or (ha : PT X a tA) (hb : PW X (.BoolOp .Or (b :: rest) pos) tB') : PW X (.BoolOp .Or (a :: b :: rest) pos) (tOr tA tB') := by
 intro wh pins s σ H Q I h
 refine isTrue_or (thn (ha pins s σ H _ I h) fun c s1 ⟨H1, I1, q1⟩ => ?_)
 cases c with
 | true => exact ⟨H1, I1, q1⟩
 | false => exact hb wh pins s1 σ H1 Q I1 q1
theorem pt_not (ha : PT X a tA) : PT X (.UnaryOp .Not a pos) (tNot tA) := by
 intro pins s σ H Q I h
 exact isTrue_not (ha pins s σ H (fun c H1 => Q (!c) H1) I h)
def tAndV (ta tb : TE) : TE := fun σ H Q => ta σ H fun x H1 => ∃ c, x = .bl c ∧ if c = true then tb σ H1 Q else Q (.bl false) H1
def tNotV (ta : TE) : TE := fun σ H Q => ta σ H fun x H1 => ∃ c, x = .bl c ∧ Q (.bl (!c)) H1
theorem pe_one {op} {t : TE} (h : PE X a t) : PE X (.BoolOp op [a] pos) t := fun pins s σ H Q I hw => BoolOp_one (h pins s σ H Q I hw)
theorem pe_and (ha : PE X a ta) (hb : PE X (.BoolOp .And (b :: rest) pos) tb) : PE X (.BoolOp .And (a :: b :: rest) pos) (tAndV ta tb) := by
 intro pins s σ H Q I h
 refine BoolOp_and (thn (ha pins s σ H _ I h) fun v s1 ⟨x, H1, I1, r1, q1⟩ => ?_)
 obtain ⟨c, rfl, q1⟩ := q1
 cases r1
 refine wpAny_truthy_bool ?_
 cases c with
 | true => exact hb pins s1 σ H1 Q I1 q1
 | false => exact ⟨.bl false, H1, I1, rfl, q1⟩
theorem pe_not (ha : PE X a ta) : PE X (.UnaryOp .Not a pos) (tNotV ta) := by
 intro pins s σ H Q I h
 refine UnaryOp_ (thn (ha pins s σ H _ I h) fun v s1 ⟨x, H1, I1, r1, q1⟩ => ?_)
 obtain ⟨c, rfl, q1⟩ := q1
 cases r1
 exact not_of (wpAny_truthy_bool ⟨.bl (!c), H1, I1, rfl, q1⟩)
end
end L2
namespace L2
open PySem PySem.Spec PyProof.Rows
def SqL (K : PySem.W.Frag) (H : Hp) (a : Addr) (xs : List V) : Prop :=
 Rd H a (.lst xs) ∨
  ∃ (o : Obj) (its : Array Value) (n : Nat), K.lookup a = some o ∧ o.cls = .type "list" ∧ o.dict = none ∧ o.data = .seq its n ∧ its.size ≤ sizeLine ∧ Vals xs its.toList
def SqT (K : PySem.W.Frag) (H : Hp) (a : Addr) (xs : List V) : Prop :=
 Rd H a (.tup xs) ∨
  ∃ (o : Obj) (its : Array Value) (n : Nat), K.lookup a = some o ∧ o.cls = .type "tuple" ∧ o.data = .seq its n ∧ its.size ≤ sizeLine ∧ Vals xs its.toList
def absV : Value → Option V
 | .none => some .non
 | .bool b => some (.bl b)
 | .int i _ => some (.int i)
 | .str x _ => some (.str x)
 | .bytes b _ => some (.byt b)
 | .float b _ => some (.flt b)
 | .ref a => some (.ref a)
 | .type n => some (.ty n)
 | _ => none
theorem RelV.abs {x : V} {u : Value} (r : RelV x u) : absV u = some x := by
 cases x with
 | non => cases r; rfl
 | bl _ => cases r; rfl
 | int _ => obtain ⟨t, rfl⟩ := r; rfl
 | str _ => obtain ⟨t, rfl⟩ := r; rfl
 | byt _ => obtain ⟨t, rfl⟩ := r; rfl
 | flt _ => obtain ⟨t, rfl⟩ := r; rfl
 | ref _ => cases r; rfl
 | ty _ => cases r; rfl
theorem RelV.inj {x y : V} {u : Value} (r : RelV x u) (q : RelV y u) : x = y := Option.some.inj (r.abs.symm.trans q.abs)
theorem Vals.inj : ∀ {xs ys : List V} {us : List Value}, Vals xs us → Vals ys us → xs = ys
 | _, _, _, .nil, .nil => rfl
 | _, _, _, .cons r t, .cons r' t' => by rw [r.inj r', Vals.inj t t']
section
variable {X : Cx} {pins : List (Addr × Obj)} {σ : St} {H : Hp} {s : Shared} {a : Addr} {xs ys : List V}
theorem SqL.of {K : PySem.W.Frag} (h : H a = some (.lst xs)) : SqL K H a xs := .inl (.inl h)
theorem SqT.of {K : PySem.W.Frag} (h : H a = some (.tup xs)) : SqT K H a xs := .inl (.inl h)
theorem Inv.list (I : Inv X pins σ H s) (h : SqL X.K H a xs) : ∃ its : List Value, Vals xs its ∧ PlainL s.heap a its.toArray ∧ xs.length ≤ sizeLine := by
 rcases h with h | ⟨o, its, n, hk, hc, hd, hs, hz, r⟩
 ·obtain ⟨z, its, n, r, e⟩ := h.ok I.hok
  exact ⟨its, r, ⟨_, n, e, rfl, rfl, rfl⟩, z⟩
 ·refine ⟨its.toList, r, ⟨o, n, I.kIn a o hk, hc, hd, by simpa using hs⟩, ?_⟩
  have e := r.length
  simp only [Array.length_toList] at e
  omega
theorem Inv.tuple (I : Inv X pins σ H s) (h : SqT X.K H a xs) : ∃ its : List Value, Vals xs its ∧ IsTup s.heap a its.toArray ∧ xs.length ≤ sizeLine := by
 rcases h with h | ⟨o, its, n, hk, hc, hs, hz, r⟩
 ·obtain ⟨z, its, r, p⟩ := h.ok I.hok
  exact ⟨its, r, p, z⟩
 ·refine ⟨its.toList, r, ⟨o, I.kIn a o hk, hc, n, by simpa using hs⟩, ?_⟩
  have e := r.length
  simp only [Array.length_toList] at e
  omega
theorem Inv.list_inj (I : Inv X pins σ H s) (h : SqL X.K H a xs) (h' : SqL X.K H a ys) : xs = ys := by
 obtain ⟨its, r, ⟨o, n, e, _, _, d⟩, _⟩ := I.list h
 obtain ⟨its', r', ⟨o', n', e', _, _, d'⟩, _⟩ := I.list h'
 rw [e] at e'; cases e'
 rw [d] at d'
 injection d' with d1 _
 have : its = its' := by simpa using congrArg Array.toList d1
 subst this
 exact r.inj r'
theorem Inv.tuple_inj (I : Inv X pins σ H s) (h : SqT X.K H a xs) (h' : SqT X.K H a ys) : xs = ys := by
 obtain ⟨its, r, ⟨o, e, _, n, d⟩, _⟩ := I.tuple h
 obtain ⟨its', r', ⟨o', e', _, n', d'⟩, _⟩ := I.tuple h'
 rw [e] at e'; cases e'
 rw [d] at d'
 injection d' with d1 _
 have : its = its' := by simpa using congrArg Array.toList d1
 subst this
 exact r.inj r'
end
abbrev Cx.wish (X : Cx) (E : Value → Shared → Prop) : Cx := { X with xe := E }
abbrev Cx.nox (X : Cx) : Cx := X.wish fun _ _ => False
theorem Cx.Ok.wish {X : Cx} (ok : X.Ok) (E : Value → Shared → Prop) : (X.wish E).Ok :=
 ⟨ok.mod, ok.kind, ok.glob, ok.blt, ok.above, ok.inj, ok.has, ok.cab, ok.hd, ok.frames, ok.stk, ok.exf, ok.bs, ok.bsz, ok.noex, ok.exfs, ok.funs, ok.frf⟩
theorem Cx.Ok.unwish {X : Cx} {E : Value → Shared → Prop} (ok : (X.wish E).Ok) : X.Ok :=
 ⟨ok.mod, ok.kind, ok.glob, ok.blt, ok.above, ok.inj, ok.has, ok.cab, ok.hd, ok.frames, ok.stk, ok.exf, ok.bs, ok.bsz, ok.noex, ok.exfs, ok.funs, ok.frf⟩
section
variable {X : Cx} {pins : List (Addr × Obj)} {σ : St} {H : Hp} {s : Shared} {E : Value → Shared → Prop}
theorem Inv.wish (I : Inv X pins σ H s) (E : Value → Shared → Prop) : Inv (X.wish E) pins σ H s := ⟨I.ok.wish E, I.os, I.bare, I.base, I.loc, I.cell, I.free, I.freeC, I.pin, I.hok, I.len⟩
theorem Inv.unwish (I : Inv (X.wish E) pins σ H s) : Inv X pins σ H s := ⟨I.ok.unwish, I.os, I.bare, I.base, I.loc, I.cell, I.free, I.freeC, I.pin, I.hok, I.len⟩
theorem SP.unwish {D : Ends} {f : Flow} {s' : Shared} (h : SP (X.wish E) pins D f s') : SP X pins D f s' := by
 cases f with
 | next => obtain ⟨σ', H', I, q⟩ := h; exact ⟨σ', H', I.unwish, q⟩
 | brk => obtain ⟨σ', H', I, q⟩ := h; exact ⟨σ', H', I.unwish, q⟩
 | cont => obtain ⟨σ', H', I, q⟩ := h; exact ⟨σ', H', I.unwish, q⟩
 | ret u => obtain ⟨v, σ', H', I, r, q⟩ := h; exact ⟨v, σ', H', I.unwish, r, q⟩
theorem PSs.nox {st : List Stmt} {t : TS} (h : PSs X.nox st t) : PSs X st t := fun pins s σ H D I hw =>
 wpAny_mono (h pins s σ H D (I.wish _) hw) (fun _ _ q => q.unwish) fun _ _ z => False.elim z
end
section
variable {X : Cx} {st : Stmt} {rest : List Stmt} {t u : TS} {e : Expr} {te : TE} {pos : Pos}
def tNext : TS := fun D σ H => D.nx σ H
def tSeq (t u : TS) : TS := fun D σ H => t { D with nx := u D } σ H
theorem pss_nil : PSs X [] tNext := fun _ _ σ H _ I h => wpAny_execs_nil ⟨σ, H, I, h⟩
theorem pss_cons (h1 : PS X st t) (h2 : PSs X rest u) : PSs X (st :: rest) (tSeq t u) := by
 intro pins s σ H D I h
 refine wpAny_execs_cons (thn (h1 pins s σ H { D with nx := u D } I h) fun f s1 q => ?_)
 cases f with
 | next =>
  obtain ⟨σ', H', I', q⟩ := q
  exact h2 pins s1 σ' H' D I' q
 | ret v => exact q
 | brk => exact q
 | cont => exact q
theorem pss_one (h1 : PS X st t) : PSs X [st] t := by
 intro pins s σ H D I h
 refine wpAny_execs_cons (thn (h1 pins s σ H D I h) fun f s1 q => ?_)
 cases f with
 | next => exact wpAny_execs_nil q
 | ret v => exact q
 | brk => exact q
 | cont => exact q
theorem Inv.quiet {pins : List (Addr × Obj)} {σ : St} {H : Hp} {s : Shared} (I : Inv X pins σ H s) : interactive X.env = false := by simp [interactive, I.ok.kind]
def tDrop (te : TE) : TS := fun D σ H => te σ H fun _ H1 => D.nx σ H1
theorem ps_expr (he : PE X e te) (hs : swapsWith e none pos.line X.env = pure false := by rfl) : PS X (.Expr e pos) (tDrop te) := by
 intro pins s σ H D I h
 exact wpAny_Expr_any (thn (he pins s σ H _ I h) fun v s1 ⟨x, H1, I1, r1, q1⟩ => ⟨σ, H1, I1, q1⟩) I.quiet hs
def tRet (te : TE) : TS := fun D σ H => te σ H D.rt
theorem ps_ret (he : PE X e te) : PS X (.Return (some e) pos) (tRet te) := by
 intro pins s σ H D I h
 exact wpAny_Return_some (thn (he pins s σ H _ I h) fun v s1 ⟨x, H1, I1, r1, q1⟩ => ⟨x, σ, H1, I1, r1, q1⟩)
def tIfS (c : TT) (t u : TS) : TS := fun D σ H => c σ H fun b H1 => if b = true then t D σ H1 else u D σ H1
theorem ps_if {c : Expr} {a b : List Stmt} {tc : TT} (hc : PT X c tc) (ha : PSs X a t) (hb : PSs X b u) : PS X (.If c a b pos) (tIfS tc t u) := by
 intro pins s σ H D I h
 refine wpAny_If (thn (hc pins s σ H _ I h) fun d s1 ⟨H1, I1, q1⟩ => ?_)
 cases d with
 | true => exact ha pins s1 σ H1 D I1 q1
 | false => exact hb pins s1 σ H1 D I1 q1
end
abbrev TG := V → St → Hp → (St → Hp → Prop) → Prop
abbrev TGs := List V → St → Hp → (St → Hp → Prop) → Prop
def PG (X : Cx) (target : Expr) (t : TG) : Prop :=
 ∀ (pins : List (Addr × Obj)) (s : Shared) (σ : St) (H : Hp) (v : V) (u : Value) (Q : St → Hp → Prop), Inv X pins σ H s → RelV v u → t v σ H Q →
  wpAny (model X.prog X.w) X.A (assign target X.env u) (fun _ s' => ∃ σ' H', Inv X pins σ' H' s' ∧ Q σ' H') X.xe s
def PGs (X : Cx) (ts : List Expr) (t : TGs) : Prop :=
 ∀ (pins : List (Addr × Obj)) (s : Shared) (σ : St) (H : Hp) (vs : List V) (us : List Value) (Q : St → Hp → Prop), Inv X pins σ H s → Vals vs us → t vs σ H Q →
  wpAny (model X.prog X.w) X.A (assignInOrder ((assignEach ts X.env).map (·.2)) us) (fun _ s' => ∃ σ' H', Inv X pins σ' H' s' ∧ Q σ' H') X.xe s
abbrev TSet := V → V → V → Hp → (Hp → Prop) → Prop
def PSet (X : Cx) (t : TSet) : Prop :=
 ∀ (pins : List (Addr × Obj)) (s : Shared) (σ : St) (H : Hp) (o i v : V) (ov iv u : Value) (Q : Hp → Prop), Inv X pins σ H s → RelV o ov → RelV i iv → RelV v u → t o i v H Q →
  wpAny (model X.prog X.w) X.A (setItem ov iv u) (fun _ s' => ∃ H', Inv X pins σ H' s' ∧ Q H') X.xe s
abbrev TIp := V → V → Hp → VK → Prop
def PIp (X : Cx) (op : Operator) (t : TIp) : Prop :=
 ∀ (pins : List (Addr × Obj)) (s : Shared) (σ : St) (H : Hp) (x y : V) (v u : Value) (Q : VK), Inv X pins σ H s → RelV x v → RelV y u → t x y H Q →
  wpAny (model X.prog X.w) X.A (inplaceOp op v u) (EP X pins σ Q) X.xe s
section
variable {X : Cx} {pos : Pos}
def gName (i : Nat) : TG := fun v σ H Q => Q (σ.set i (some v)) H
theorem pg_name {i : Nat} {x : Str} (hN : X.N.Nodup) (hi : X.N[i]? = some x) (hx : Loc X.env.scope x) (hf : X.fn x = true ∨ X.env.scope.names.lookup x = some .local := by first | exact .inl rfl | exact .inr rfl | assumption) : PG X (.Name x pos) (gName i) := by
 intro pins s σ H v u Q I r h
 exact wpAny_assign_Name (store_ok I hN hi hx r (fun s' I' => ⟨_, H, I', h⟩) hf)
def gNil : TGs := fun vs σ H Q => vs = [] ∧ Q σ H
def gCons (t : TG) (u : TGs) : TGs := fun vs σ H Q => ∃ v r, vs = v :: r ∧ t v σ H fun σ' H' => u r σ' H' Q
theorem pgs_nil : PGs X [] gNil := by
 intro pins s σ H vs us Q I r h
 obtain ⟨e, h⟩ := h
 subst e
 cases r
 exact assignInOrder_nil ⟨σ, H, I, h⟩
theorem pgs_cons {e : Expr} {es : List Expr} {t : TG} {u : TGs} (h1 : PG X e t) (h2 : PGs X es u)
  (hs : (assignEach (e :: es) X.env).map (·.2) = assign e X.env :: (assignEach es X.env).map (·.2) := by rfl) : PGs X (e :: es) (gCons t u) := by
 intro pins s σ H vs us Q I r h
 obtain ⟨v, vr, e1, h⟩ := h
 subst e1
 cases r with
 | cons r rr =>
  rw [hs]
  refine assignInOrder_cons (thn (h1 pins s σ H _ _ _ I r h) fun _ s1 ⟨σ1, H1, I1, q1⟩ => ?_)
  exact h2 pins s1 σ1 H1 _ _ Q I1 rr q1
def gTup (K : PySem.W.Frag) (n : Nat) (t : TGs) : TG := fun v σ H Q => ∃ a xs, v = .ref a ∧ SqT K H a xs ∧ xs.length = n ∧ t xs σ H Q
theorem pg_tup {es : List Expr} {k : Nat} {t : TGs} {n : Nat} (hc : X.calm = true) (h : PGs X es t)
  (hn : (assignEach es X.env).length = n := by rfl) (hst : (assignEach es X.env).findIdx? (·.1) = none := by rfl) : PG X (.Tuple es k pos) (gTup X.K n t) := by
 intro pins s σ H v u Q I r hw
 obtain ⟨a, xs, e1, hq, hl, hw⟩ := hw
 subst e1
 cases r
 obtain ⟨its, rv, ht, hz⟩ := I.tuple hq
 refine assign_Tuple_tuple (I.ok.hd hc) ht (by simp [hn, ← hl, rv.length]) hst fun h' hx => ?_
 have I1 : Inv X pins σ H { s with heap := h' } := I.kept (t' := s.toks) fun b o e => hx b o (Nat.ne_of_lt (Heap.lt_size e)) e
 exact h pins _ σ H xs _ Q I1 (by simpa using rv) hw
def gSub (to ti : TE) (t : TSet) : TG := fun v σ H Q => to σ H fun o H1 => ti σ H1 fun i H2 => t o i v H2 fun H3 => Q σ H3
theorem pg_sub {o i : Expr} {to ti : TE} {t : TSet} (ho : PE X o to) (hi : PE X i ti) (hs : PSet X t)
  (ha : ∀ v, assign (.Subscript o i pos) X.env v = (do
   let ov ← holding [v] (eval o X.env)
   let iv ← holding [v, ov] (eval i X.env)
   standAt pos
   holding [v, ov, iv] (setItem ov iv v)
   release [v, ov, iv] []) := by intro _; rfl) : PG X (.Subscript o i pos) (gSub to ti t) := by
 intro pins s σ H v u Q I r h
 rw [ha]
 refine wpAny_bind (wpAny_holding (thn (ho pins s σ H _ I h) fun ov s1 ⟨x, H1, I1, r1, q1⟩ => ?_))
 refine wpAny_bind (wpAny_holding (thn (hi pins s1 σ H1 _ I1 q1) fun iv s2 ⟨y, H2, I2, r2, q2⟩ => ?_))
 refine wpAny_bind (wpAny_standAt (wpAny_bind (wpAny_holding (thn (hs pins s2 σ H2 x y v ov iv u _ I2 r1 r2 r q2) fun _ s3 ⟨H3, I3, q3⟩ => ?_))))
 exact wpAny_release ⟨σ, H3, I3, q3⟩
def tAsg (te : TE) (g : TG) : TS := fun D σ H => te σ H fun x H1 => g x σ H1 D.nx
theorem ps_asg {tg e : Expr} {te : TE} {g : TG} (he : PE X e te) (hg : PG X tg g) (hs : swapsWithSole [tg] e pos.line X.env = pure false := by rfl) (hw : swappedStores [tg] e X.env = pure none := by rfl)
  (h1 : (assignEach [tg] X.env).map (·.2) = [assign tg X.env] := by rfl) : PS X (.Assign [tg] e pos) (tAsg te g) := by
 intro pins s σ H D I h
 refine wpAny_Assign_stores (thn (he pins s σ H _ I h) fun v s1 ⟨x, H1, I1, r1, q1⟩ => ?_) hs hw
 rw [h1]
 exact thn (hg pins s1 σ H1 x v _ I1 r1 q1) fun _ s2 q => q
theorem ps_set {i : Nat} {x : Str} {e : Expr} {te : TE} {pos' : Pos} (hN : X.N.Nodup) (hi : X.N[i]? = some x) (hx : Loc X.env.scope x) (he : PE X e te) (hs : swapsWith e (some (.Name x pos')) pos.line X.env = pure false := by rfl) (hf : X.fn x = true ∨ X.env.scope.names.lookup x = some .local := by first | exact .inl rfl | exact .inr rfl | assumption) :
  PS X (.Assign [.Name x pos'] e pos) (tAsg te (gName i)) := by
 intro pins s σ H D I h
 refine wpAny_Assign_Name (thn (he pins s σ H _ I h) fun v s1 ⟨y, H1, I1, r1, q1⟩ => ?_) hs
 exact store_ok I1 hN hi hx r1 (fun s2 I2 => ⟨_, H1, I2, q1⟩) hf
def tAug (i : Nat) (te : TE) (ti : TIp) : TS := fun D σ H => ∃ x, σ[i]? = some (some x) ∧ te σ H fun y H1 => ti x y H1 fun z H2 => D.nx (σ.set i (some z)) H2
theorem ps_aug {i : Nat} {x : Str} {e : Expr} {te : TE} {op : Operator} {ti : TIp} {pos' : Pos} (hN : X.N.Nodup) (hi : X.N[i]? = some x) (hx : Loc X.env.scope x) (he : PE X e te) (ho : PIp X op ti) (hf : X.fn x = true ∨ X.env.scope.names.lookup x = some .local := by first | exact .inl rfl | exact .inr rfl | assumption) :
  PS X (.AugAssign (.Name x pos') op e pos) (tAug i te ti) := by
 intro pins s σ H D I h
 obtain ⟨v, e1, h⟩ := h
 obtain ⟨m, hn, hl⟩ := I.loc
 have vis : Vis X.env.scope x := by rcases hx with k | k; exact .inl k; exact .inr (.inl k)
 obtain ⟨u, r, l⟩ := hl i x v hi e1 vis
 refine wpAny_AugAssign_Name ?_
 have go : wpAny (model X.prog X.w) X.A (eval e X.env) (fun w s₂ => wpAny (model X.prog X.w) X.A (inplaceOp op u w) (fun r s₃ => wpAny (model X.prog X.w) X.A (storeName X.env x r) (fun _ => SP X pins D .next) X.xe s₃) X.xe s₂) X.xe s := by
  refine thn (he pins s σ H _ I h) fun w s1 ⟨y, H1, I1, r1, q1⟩ => ?_
  refine thn (ho pins s1 σ H1 v y u w _ I1 r r1 q1) fun z s2 ⟨zv, H2, I2, r2, q2⟩ => ?_
  exact store_ok I2 hN hi hx r2 (fun s3 I3 => ⟨_, H2, I3, q2⟩) hf
 rcases l with ⟨hk, hm⟩ | ⟨hk, c, hc, hcell⟩
 ·exact wpAny_loadName_local I.ok.kind hk hn hm go
 ·rcases hk with hk | hk
  ·exact wpAny_loadName_cell I.ok.kind hk hc hcell go
  ·rcases hx with k | k
   ·have : X.env.scope.names.lookup x = some .free := hk
    rw [k] at this; cases this
   ·have : X.env.scope.names.lookup x = some .free := hk
    rw [k] at this; cases this
def ipI (f : Int → Int → Int) : TIp := fun x y H Q => ∃ i j, x = .int i ∧ y = .int j ∧ Q (.int (f i j)) H
theorem ip_add : PIp X .Add (ipI fun i j => i + j) := by
 intro pins s σ H x y v u Q I r1 r2 h
 obtain ⟨i, j, e1, e2, q⟩ := h
 subst e1; subst e2
 obtain ⟨t, rfl⟩ := r1
 obtain ⟨t', rfl⟩ := r2
 exact iadd_int ⟨.int _, H, I.tok _, ⟨_, rfl⟩, q⟩
theorem ip_sub : PIp X .Sub (ipI fun i j => i - j) := by
 intro pins s σ H x y v u Q I r1 r2 h
 obtain ⟨i, j, e1, e2, q⟩ := h
 subst e1; subst e2
 obtain ⟨t, rfl⟩ := r1
 obtain ⟨t', rfl⟩ := r2
 exact isub_int ⟨.int _, H, I.tok _, ⟨_, rfl⟩, q⟩
end
section
variable {X : Cx} {pos : Pos}
def tWhile (c : TT) (tb : TS) : TS := fun D σ H => ∃ W : Nat → St → Hp → Prop, (∃ m, W m σ H) ∧ ∀ m σ H, W m σ H →
 c σ H fun b H1 => if b = true then ∃ N : St → Hp → Prop, (∀ σ' H', N σ' H' → ∃ m', m' < m ∧ W m' σ' H') ∧ tb { D with nx := N, ct := N, bk := D.nx } σ H1 else D.nx σ H1
theorem ps_while {c : Expr} {body : List Stmt} {tc : TT} {tb : TS} (hp : PassesOwn (model X.prog X.w) X.A X.env X.xe) (hc : PT X c tc) (hb : PSs X body tb) : PS X (.While c body [] pos) (tWhile tc tb) := by
 intro pins s σ H D I h
 obtain ⟨W, ⟨m0, w0⟩, turn⟩ := h
 refine wpAny_While (codeAny_whileLoop (fun n s' => ∃ σ' H', Inv X pins σ' H' s' ∧ W n σ' H') ?_ m0 ⟨σ, H, I, w0⟩)
 rintro n s1 ⟨σ1, H1, I1, w1⟩
 refine wpAny_passesOwn hp (thn (hc pins s1 σ1 H1 _ I1 (turn n σ1 H1 w1)) fun b s2 ⟨H2, I2, q2⟩ => ?_)
 cases b with
 | true =>
  obtain ⟨N, hN, q2⟩ := q2
  rw [if_pos rfl]
  refine wpAny_passesOwn hp (thn (hb pins s2 σ1 H2 _ I2 q2) fun f s3 q3 => ?_)
  cases f with
  | next =>
   obtain ⟨σ3, H3, I3, n3⟩ := q3
   obtain ⟨m', hm, w3⟩ := hN σ3 H3 n3
   exact ⟨m', hm, σ3, H3, I3, w3⟩
  | cont =>
   obtain ⟨σ3, H3, I3, n3⟩ := q3
   obtain ⟨m', hm, w3⟩ := hN σ3 H3 n3
   exact ⟨m', hm, σ3, H3, I3, w3⟩
  | brk => exact q3
  | ret v => exact q3
 | false =>
  rw [if_neg Bool.false_ne_true]
  exact wpAny_execs_nil ⟨σ1, H2, I2, q2⟩
end
structure It where
 go : Nat → Hp → Prop
 yld : Nat → Hp → V → Hp → Prop
 stop : Nat → Hp → Prop
def FpOk (X : Cx) (pins : List (Addr × Obj)) (H : Hp) (b : Addr) : Prop :=
 H b = none ∧ b ≠ X.env.locals ∧ b ∉ X.fs ∧ (b ∈ X.ex ∨ X.s_0.heap.objs.size ≤ b) ∧ (∀ x c, X.env.cells.lookup x = some c → c ≠ b) ∧ ∀ p ∈ X.pn ++ pins, p.1 ≠ b
theorem Inv.fpOk {X : Cx} {pins : List (Addr × Obj)} {σ : St} {H H' : Hp} {s : Shared} {b : Addr} (I : Inv X pins σ H s) (hb : s.heap.objs.size ≤ b) (hn : H' b = none) : FpOk X pins H' b := by
 refine ⟨hn, Nat.ne_of_gt (Nat.lt_of_lt_of_le I.lt hb), I.nofs hb, .inr (Nat.le_trans I.sz hb), fun x c e z => ?_, fun p hp z => ?_⟩
 ·obtain ⟨v, q⟩ := I.cell x c e
  exact absurd (Nat.lt_of_lt_of_le q.lt (by rw [z]; exact hb)) (Nat.lt_irrefl _)
 ·exact absurd (Nat.lt_of_lt_of_le (Heap.lt_size (I.pin p hp).1) (by rw [z]; exact hb)) (Nat.lt_irrefl _)
structure Turn (P : Program) (w : World) (K : PySem.W.Frag) (tg : Expr) (J : It) (fp : List Addr) (it : Addr) (tn : Nat → Heap → Prop) : Prop where
 mem : it ∈ fp
 obj : ∀ i h, tn i h → ∀ b ∈ fp, ∃ o, h.get? b = some o ∧ ∀ v, o.data ≠ .cell v
 keep : ∀ i h h', tn i h → (∀ b ∈ fp, ∀ o, h.get? b = some o → h'.get? b = some o) → tn i h'
 item : ∀ (X : Cx), X.prog = P → X.w = w → X.K = K → X.calm = true → ∀ (i : Nat) (pins : List (Addr × Obj)) (s : Shared) (σ : St) (H : Hp) (E : Value → Shared → Prop), Inv X pins σ H s → (∀ b ∈ fp, FpOk X pins H b) → tn i s.heap → J.go i H →
  wpAny (model P w) X.A (pyNext (.ref it)) (fun r s1 => ∃ u, r = some u ∧
   wpAny (model P w) X.A (letOwnedTupleGo tg (.ref it) u) (fun _ s2 => ∃ x H', Inv X pins σ H' s2 ∧ RelV x u ∧ J.yld i H x H' ∧ tn (i + 1) s2.heap ∧ ∀ b ∈ fp, H' b = none) E s1) E s
 done : ∀ (X : Cx), X.prog = P → X.w = w → X.K = K → X.calm = true → ∀ (i : Nat) (pins : List (Addr × Obj)) (s : Shared) (σ : St) (H : Hp) (E : Value → Shared → Prop), Inv X pins σ H s → (∀ b ∈ fp, FpOk X pins H b) → tn i s.heap → J.stop i H →
  wpAny (model P w) X.A (pyNext (.ref it)) (fun r s1 => r = none ∧ Inv X pins σ H s1) E s
 self : ∀ (A : Around) (i : Nat) (s : Shared) (Q : Value → Shared → Prop) (E : Value → Shared → Prop), tn i s.heap → Q (.ref it) s → wpAny (model P w) A (pyIter (.ref it)) Q E s
abbrev TI := St → Hp → (It → Hp → Prop) → Prop
def PIE (X : Cx) (pins : List (Addr × Obj)) (σ : St) (tg : Expr) (R : It → Hp → Prop) (itv : Value) (s2 : Shared) : Prop :=
 ∃ (it : Addr) (fp : List Addr) (tn : Nat → Heap → Prop) (J : It) (H' : Hp), itv = .ref it ∧ Inv X pins σ H' s2 ∧ Turn X.prog X.w X.K tg J fp it tn ∧ tn 0 s2.heap ∧ (∀ b ∈ fp, FpOk X pins H' b) ∧ R J H'
def PI (X : Cx) (tg iter : Expr) (wi : TI) : Prop :=
 ∀ (pins : List (Addr × Obj)) (s : Shared) (σ : St) (H : Hp) (R : It → Hp → Prop), Inv X pins σ H s → wi σ H R →
  wpAny (model X.prog X.w) X.A (eval iter X.env) (fun v s1 => wpAny (model X.prog X.w) X.A (pyIter v) (PIE X pins σ tg R) X.xe s1) X.xe s
theorem go_of {M : Model} {A : Around} {E : Value → Shared → Prop} {s : Shared} {tg : Expr} {it : Addr} {u : Value} {o : Obj} {n : String} {vs : Array Value} {Q : Unit → Shared → Prop} (ho : s.heap.get? it = some o) (hc : o.cls = .type n) (hd : o.data = .fields vs)
    (hn : ["enumerate", "zip", "dict_itemiterator", "dict_reverseitemiterator", "odict_iterator", "itertools.zip_longest", "itertools.pairwise"].contains n = false) (hQ : Q () s) : wpAny M A (letOwnedTupleGo tg (.ref it) u) Q E s := by
  unfold letOwnedTupleGo
  cases tg <;> first
    | exact wpAny_pure hQ
    | (cases u <;> first
        | exact wpAny_pure hQ
        | (refine wpAny_bind (wpAny_load ho ?_)
           rw [hc, hd]
           show wpAny M A (if (["enumerate", "zip", "dict_itemiterator", "dict_reverseitemiterator", "odict_iterator", "itertools.zip_longest", "itertools.pairwise"].contains n && vs[0]? == some (rawInt _)) = true then _ else _) Q E s
           rw [if_neg (by intro h; rw [hn, Bool.false_and] at h; cases h)]
           exact wpAny_pure hQ))
def Itl (K : PySem.W.Frag) (a : Addr) : It :=
 ⟨fun i H => ∃ xs x, SqL K H a xs ∧ xs[i]? = some x, fun i H x H' => H' = H ∧ ∀ xs, SqL K H a xs → xs[i]? = some x, fun i H => ∃ xs, SqL K H a xs ∧ xs.length ≤ i⟩
def Itt (K : PySem.W.Frag) (a : Addr) : It :=
 ⟨fun i H => ∃ xs x, SqT K H a xs ∧ xs[i]? = some x, fun i H x H' => H' = H ∧ ∀ xs, SqT K H a xs → xs[i]? = some x, fun i H => ∃ xs, SqT K H a xs ∧ xs.length ≤ i⟩
def Itr (lo : Int) (n : Nat) : It := ⟨fun i _ => i < n, fun i H x H' => H' = H ∧ x = .int (lo + i), fun i _ => n ≤ i⟩
theorem turn_list {P : Program} {w : World} {K : PySem.W.Frag} {tg : Expr} (a it : Addr) : Turn P w K tg (Itl K a) [it] it (fun i h => h.IsListIter it a i) where
 mem := by simp
 obj := fun i h st b hb => by
  have e : b = it := by simpa using hb
  subst e
  obtain ⟨o, e, c, d⟩ := st
  exact ⟨o, e, fun v z => by rw [d] at z; cases z⟩
 keep := fun i h h' st k => st.at fun o e => k it (by simp) o e
 item := by
  intro X hP hw hK hc i pins s σ H E I hf st hg
  subst hP hw hK
  obtain ⟨xs, x, hq, hx⟩ := hg
  obtain ⟨its, rv, p, hz⟩ := I.list hq
  obtain ⟨u, hu, ru⟩ := rv.get hx
  obtain ⟨f0, f1, f2, f3, f4, f5⟩ := hf it (by simp)
  refine wpAny_pyNext_list_item st p.isList (x := u) (by simpa using hu) fun h' st' sb => ?_
  have I1 : Inv X pins σ H { s with heap := h' } := I.turned (t' := s.toks) (fun b o hb e => (sb.2 b hb).trans e) f0 f1 f3 f4 f5
  obtain ⟨o, e, c, d⟩ := id st'
  exact ⟨u, rfl, go_of (s := { s with heap := h' }) e c d (by decide) ⟨x, H, I1, ru, ⟨rfl, fun ys hy => by rw [I.list_inj hy hq]; exact hx⟩, st', fun b hb => (hf b hb).1⟩⟩
 done := by
  intro X hP hw hK hc i pins s σ H E I hf st hg
  subst hP hw hK
  obtain ⟨xs, hq, hx⟩ := hg
  obtain ⟨its, rv, p, hz⟩ := I.list hq
  obtain ⟨f0, f1, f2, f3, f4, f5⟩ := hf it (by simp)
  have hl := rv.length
  exact wpAny_pyNext_list_end (I.ok.hd hc) st p.isList (by simp; omega) fun h' eb => ⟨rfl, I.turned (t' := s.toks) (fun b o hb e => eb b o hb e) f0 f1 f3 f4 f5⟩
 self := fun _ _ _ _ _ st h => wpAny_pyIter_listiter st h
theorem turn_tuple {P : Program} {w : World} {K : PySem.W.Frag} {tg : Expr} (a it : Addr) : Turn P w K tg (Itt K a) [it] it (fun i h => h.IsTupleIter it a i) where
 mem := by simp
 obj := fun i h st b hb => by
  have e : b = it := by simpa using hb
  subst e
  obtain ⟨o, e, c, d⟩ := st
  exact ⟨o, e, fun v z => by rw [d] at z; cases z⟩
 keep := fun i h h' st k => st.at fun o e => k it (by simp) o e
 item := by
  intro X hP hw hK hc i pins s σ H E I hf st hg
  subst hP hw hK
  obtain ⟨xs, x, hq, hx⟩ := hg
  obtain ⟨its, rv, p, hz⟩ := I.tuple hq
  obtain ⟨u, hu, ru⟩ := rv.get hx
  obtain ⟨f0, f1, f2, f3, f4, f5⟩ := hf it (by simp)
  refine wpAny_pyNext_tuple_item st (show s.heap.IsTuple a its.toArray from p) (x := u) (by simpa using hu) fun h' st' sb => ?_
  have I1 : Inv X pins σ H { s with heap := h' } := I.turned (t' := s.toks) (fun b o hb e => (sb.2 b hb).trans e) f0 f1 f3 f4 f5
  obtain ⟨o, e, c, d⟩ := id st'
  exact ⟨u, rfl, go_of (s := { s with heap := h' }) e c d (by decide) ⟨x, H, I1, ru, ⟨rfl, fun ys hy => by rw [I.tuple_inj hy hq]; exact hx⟩, st', fun b hb => (hf b hb).1⟩⟩
 done := by
  intro X hP hw hK hc i pins s σ H E I hf st hg
  subst hP hw hK
  obtain ⟨xs, hq, hx⟩ := hg
  obtain ⟨its, rv, p, hz⟩ := I.tuple hq
  obtain ⟨f0, f1, f2, f3, f4, f5⟩ := hf it (by simp)
  have hl := rv.length
  exact wpAny_pyNext_tuple_end (I.ok.hd hc) st (show s.heap.IsTuple a its.toArray from p) (by simp; omega) fun h' eb => ⟨rfl, I.turned (t' := s.toks) (fun b o hb e => eb b o hb e) f0 f1 f3 f4 f5⟩
 self := fun _ _ _ _ _ st h => wpAny_pyIter_tupleiter st h
theorem turn_range {P : Program} {w : World} {K : PySem.W.Frag} {tg : Expr} (it : Addr) (lo : Int) (n : Nat) : Turn P w K tg (Itr lo n) [it] it (fun i h => IsRangeIter h it (lo + (i : Nat) * 1) ((n : Int) - (i : Nat)) 1) where
 mem := by simp
 obj := fun i h st b hb => by
  have e : b = it := by simpa using hb
  subst e
  exact ⟨_, st, fun v z => by
   have z' : Data.fields _ = Data.cell v := z
   cases z'⟩
 keep := fun i h h' st k => k it (by simp) _ st
 item := by
  intro X hP hw hK hc i pins s σ H E I hf st hg
  subst hP hw hK
  obtain ⟨f0, f1, f2, f3, f4, f5⟩ := hf it (by simp)
  have W := Walks.range (prog := X.prog) (w := X.w) (I.ok.hd hc) it lo 1 n
  refine W.item i s _ _ hg st fun v h' tk hv st' kk => ?_
  obtain ⟨t, rfl⟩ := hv
  have I1 : Inv X pins σ H { s with heap := h', toks := tk } := I.turned (fun b o hb e => kk b o (by simpa using hb) e) f0 f1 f3 f4 f5
  refine ⟨_, rfl, go_of (s := { s with heap := h', toks := tk }) (n := "range_iterator") st' rfl rfl (by decide) ⟨.int (lo + i), H, I1, ⟨t, ?_⟩, ⟨rfl, rfl⟩, st', fun b hb => (hf b hb).1⟩⟩
  rw [Int.mul_one]
 done := by
  intro X hP hw hK hc i pins s σ H E I hf st hg
  subst hP hw hK
  obtain ⟨f0, f1, f2, f3, f4, f5⟩ := hf it (by simp)
  exact wpAny_pyNext_range_end (I.ok.hd hc) st (by have : n ≤ i := hg; omega) fun h' eb => ⟨rfl, I.turned (t' := s.toks) (fun b o hb e => eb b o hb e) f0 f1 f3 f4 f5⟩
 self := fun _ _ _ _ _ st h => wpAny_pyIter_rangeiter st h
end L2
namespace L2
open PySem PySem.Spec PyProof.Rows
section
variable {X : Cx} {tg : Expr}
def iList (K : PySem.W.Frag) (tl : TE) : TI := fun σ H R => tl σ H fun x H1 => ∃ a, x = .ref a ∧ (∃ xs, SqL K H1 a xs) ∧ R (Itl K a) H1
def iTup (K : PySem.W.Frag) (tl : TE) : TI := fun σ H R => tl σ H fun x H1 => ∃ a, x = .ref a ∧ (∃ xs, SqT K H1 a xs) ∧ R (Itt K a) H1
theorem pi_list {l : Expr} {tl : TE} (hl : PE X l tl) : PI X tg l (iList X.K tl) := by
 intro pins s σ H R I h
 refine thn (hl pins s σ H _ I h) fun v s1 ⟨x, H1, I1, r1, q1⟩ => ?_
 obtain ⟨a, e, ⟨xs, hq⟩, q⟩ := q1
 subst e
 cases r1
 obtain ⟨its, rv, p, hz⟩ := I1.list hq
 refine wpAny_pyIter_list p.isList ?_
 refine ⟨s1.heap.objs.size, [s1.heap.objs.size], _, _, H1, rfl, I1.kept (t' := s1.toks) fun b o e => Heap.get?_push_of_some _ e, turn_list a _, ⟨_, Heap.get?_push_size _ rfl, rfl, rfl⟩, fun b hb => ?_, q⟩
 have e : b = s1.heap.objs.size := by simpa using hb
 subst e
 exact I1.fpOk (Nat.le_refl _) (I1.hok.fresh (Nat.le_refl _))
theorem pi_tup {l : Expr} {tl : TE} (hl : PE X l tl) : PI X tg l (iTup X.K tl) := by
 intro pins s σ H R I h
 refine thn (hl pins s σ H _ I h) fun v s1 ⟨x, H1, I1, r1, q1⟩ => ?_
 obtain ⟨a, e, ⟨xs, hq⟩, q⟩ := q1
 subst e
 cases r1
 obtain ⟨its, rv, p, hz⟩ := I1.tuple hq
 refine wpAny_pyIter_tuple (show s1.heap.IsTuple a its.toArray from p) ?_
 refine ⟨s1.heap.objs.size, [s1.heap.objs.size], _, _, H1, rfl, I1.kept (t' := s1.toks) fun b o e => Heap.get?_push_of_some _ e, turn_tuple a _, ⟨_, Heap.get?_push_size _ rfl, rfl, rfl⟩, fun b hb => ?_, q⟩
 have e : b = s1.heap.objs.size := by simpa using hb
 subst e
 exact I1.fpOk (Nat.le_refl _) (I1.hok.fresh (Nat.le_refl _))
theorem range_it {pins : List (Addr × Obj)} {σ : St} {H : Hp} {s : Shared} {R : It → Hp → Prop} {E : Value → Shared → Prop} {lo hi : Int} {t u v : Tok} {tk : Nat} (I : Inv X pins σ H s) (h1 : -(2 ^ 62) ≤ lo) (h2 : lo < 2 ^ 62) (h3 : -(2 ^ 62) ≤ hi) (h4 : hi < 2 ^ 62)
  (q : R (Itr lo (hi - lo).toNat) H) : wpAny (model X.prog X.w) X.A (pyIter (.ref s.heap.objs.size)) (PIE X pins σ tg R) E { s with heap := s.heap.push { cls := .type "range", data := .fields #[.int lo t, .int hi u, .int 1 v] }, toks := tk } := by
 refine wpAny_pyIter_range (IsRange.new ..) (small_one h1 h2 h3 h4) ?_
 have I1 : Inv X pins σ H { s with heap := s.heap.push { cls := .type "range", data := .fields #[.int lo t, .int hi u, .int 1 v] }, toks := tk } := I.kept fun b o e => Heap.get?_push_of_some _ e
 refine ⟨(s.heap.push { cls := .type "range", data := .fields #[.int lo t, .int hi u, .int 1 v] }).objs.size, [(s.heap.push { cls := .type "range", data := .fields #[.int lo t, .int hi u, .int 1 v] }).objs.size], _, _, H, rfl,
  I1.kept (t' := tk) fun b o e => Heap.get?_push_of_some _ e, turn_range _ lo (hi - lo).toNat, ?_, fun b hb => ?_, q⟩
 ·have e1 : lo + ((0 : Nat) : Int) * 1 = lo := by simp
  have e2 : (((hi - lo).toNat : Nat) : Int) - ((0 : Nat) : Int) = Builtin.Range.rangeSize lo hi 1 := by rw [rangeSize_one]; split <;> omega
  show IsRangeIter _ _ (lo + ((0 : Nat) : Int) * 1) ((((hi - lo).toNat : Nat) : Int) - ((0 : Nat) : Int)) 1
  rw [e1, e2]
  exact Heap.get?_push_size _ rfl
 ·have e : b = (s.heap.push { cls := .type "range", data := .fields #[.int lo t, .int hi u, .int 1 v] }).objs.size := by simpa using hb
  subst e
  exact I1.fpOk (Nat.le_refl _) (I1.hok.fresh (Nat.le_refl _))
def iRng1 (ta : TA) : TI := fun σ H R => ta σ H fun vs H1 => ∃ j : Int, vs = [.int j] ∧ -(2 ^ 62) ≤ j ∧ j < 2 ^ 62 ∧ R (Itr 0 j.toNat) H1
theorem pi_range1 {a : Expr} {ta : TA} {p pos : Pos} (hg : Gl X "range") (hm : X.mg "range" = none) (ha : PA X [a] ta) (hs : starEach [a] X.env = [(false, eval a X.env)] := by rfl) : PI X tg (.Call (.Name "range" p) [a] [] pos) (iRng1 ta) := by
 intro pins s σ H R I h
 refine Call_ (ld_blt I hg hm boot_range (PyProof.Rows.callWith_type1 (thn (ha pos pins s σ H _ I h) fun us s1 ⟨vs, H1, I1, r1, q1⟩ => ?_) hs rfl))
 obtain ⟨j, e, q1, q2, q⟩ := q1
 subst e
 cases r1 with
 | cons r rr =>
  cases rr
  obtain ⟨t, rfl⟩ := r
  exact call_range_1 (range_it I1 (by omega) (by omega) q1 q2 (by simpa using q))
def tFor (wi : TI) (g : TG) (tb : TS) : TS := fun D σ H => wi σ H fun J H1 => ∃ W : Nat → Nat → St → Hp → Prop, (∃ m, W 0 m σ H1) ∧ ∀ i m σ H, W i m σ H →
 (J.stop i H ∧ D.nx σ H) ∨ (J.go i H ∧ ∃ N : St → Hp → Prop, (∀ σ' H', N σ' H' → ∃ m', m' < m ∧ W (i + 1) m' σ' H') ∧ ∀ x H', J.yld i H x H' → g x σ H' fun σ2 H2 => tb { D with nx := N, ct := N, bk := D.nx } σ2 H2)
def pinsAt (fp : List Addr) (h : Heap) : List (Addr × Obj) := fp.filterMap fun b => (h.get? b).map fun o => (b, o)
theorem mem_pinsAt {fp : List Addr} {h : Heap} {b : Addr} {o : Obj} (hb : b ∈ fp) (e : h.get? b = some o) : (b, o) ∈ pinsAt fp h := List.mem_filterMap.mpr ⟨b, hb, by rw [e]; rfl⟩
theorem of_pinsAt {fp : List Addr} {h : Heap} {p : Addr × Obj} (hp : p ∈ pinsAt fp h) : p.1 ∈ fp ∧ h.get? p.1 = some p.2 := by
 obtain ⟨b, hb, e⟩ := List.mem_filterMap.mp hp
 cases q : h.get? b with
 | none => rw [q] at e; cases e
 | some o =>
  rw [q] at e
  have e' : (b, o) = p := Option.some.inj e
  subst e'
  exact ⟨hb, q⟩
theorem Inv.pinned {pins : List (Addr × Obj)} {σ : St} {H : Hp} {s : Shared} {fp : List Addr} (I : Inv X pins σ H s) (hf : ∀ b ∈ fp, FpOk X pins H b) (ho : ∀ b ∈ fp, ∃ o, s.heap.get? b = some o ∧ ∀ v, o.data ≠ .cell v) : Inv X (pins ++ pinsAt fp s.heap) σ H s :=
 I.pins_of fun p hp => (List.mem_append.mp hp).elim (fun z => I.pin p (List.mem_append_right _ z)) fun z => by
  obtain ⟨hb, e⟩ := of_pinsAt z
  obtain ⟨f0, f1, f2, _⟩ := hf p.1 hb
  obtain ⟨o, e', d⟩ := ho p.1 hb
  rw [e] at e'; cases e'
  exact ⟨e, f0, f1, f2, d⟩
theorem Inv.unpinned {pins pl : List (Addr × Obj)} {σ : St} {H : Hp} {s : Shared} (I : Inv X (pins ++ pl) σ H s) : Inv X pins σ H s := I.pins_of fun p hp => I.pin p (List.mem_append_right _ (List.mem_append_left _ hp))
theorem ps_for {iter : Expr} {body : List Stmt} {wi : TI} {g : TG} {tb : TS} {pos : Pos} (hp : PassesOwn (model X.prog X.w) X.A X.env X.xe) (hc : X.calm = true) (hi : PI X tg iter wi) (hg : PG X tg g) (hb : PSs X body tb)
  (hs : ∀ x, foldedSetIterable iter X.env x = pure x := by intro _; rfl) : PS X (.For tg iter body [] pos) (tFor wi g tb) := by
 intro pins s σ H D I h
 refine wpAny_For (thn (hi pins s σ H _ I h) fun v s1 h1 => thn h1 fun itv s2 h2 => ?_) hs
 obtain ⟨it, fp, tn, J, H2, e, I2, T, st2, f2, W, ⟨m0, w0⟩, turn⟩ := h2
 subst e
 have stat : ∀ {H' : Hp}, (∀ b ∈ fp, H' b = none) → ∀ b ∈ fp, FpOk X pins H' b := fun hn b hb => ⟨hn b hb, (f2 b hb).2⟩
 refine codeAny_forLoop_any (fun n s' => ∃ i σ' H', Inv X pins σ' H' s' ∧ tn i s'.heap ∧ (∀ b ∈ fp, H' b = none) ∧ W i n σ' H') ?_ m0 ⟨0, σ, H2, I2, st2, fun b hb => (f2 b hb).1, w0⟩
 rintro n s3 ⟨i, σ3, H3, I3, st3, fr3, w3⟩
 rcases turn i n σ3 H3 w3 with ⟨stop, qn⟩ | ⟨go, N, hN, step⟩
 ·refine wpAny_passesOwn hp (thn (T.done X rfl rfl rfl hc i pins s3 σ3 H3 X.xe I3 (stat fr3) st3 stop) fun r s4 ⟨hr, I4⟩ => ?_)
  subst hr
  exact wpAny_execs_nil ⟨σ3, H3, I4, qn⟩
 ·refine wpAny_passesOwn hp (thn (T.item X rfl rfl rfl hc i pins s3 σ3 H3 X.xe I3 (stat fr3) st3 go) fun r s4 ⟨u, hr, h4⟩ => ?_)
  subst hr
  refine wpAny_passesOwn hp (thn h4 fun _ s5 ⟨x, H5, I5, r5, y5, st5, fr5⟩ => ?_)
  have I5' := I5.pinned (stat fr5) (T.obj _ _ st5)
  refine wpAny_passesOwn hp (thn (hg _ s5 σ3 H5 x u _ I5' r5 (step x H5 y5)) fun _ s6 ⟨σ6, H6, I6, q6⟩ => ?_)
  refine wpAny_passesOwn hp (thn (hb _ s6 σ6 H6 _ I6 q6) fun f s7 q7 => ?_)
  have again : ∀ {σ7 : St} {H7 : Hp}, Inv X (pins ++ pinsAt fp s5.heap) σ7 H7 s7 → N σ7 H7 → ∃ m, m < n ∧ ∃ i σ' H', Inv X pins σ' H' s7 ∧ tn i s7.heap ∧ (∀ b ∈ fp, H' b = none) ∧ W i m σ' H' := fun {σ7 H7} I7 n7 => by
   obtain ⟨m', hm, w7⟩ := hN σ7 H7 n7
   refine ⟨m', hm, i + 1, σ7, H7, I7.unpinned, T.keep _ _ _ st5 fun b hb o e => (I7.pin (b, o) (List.mem_append_right _ (List.mem_append_right _ (mem_pinsAt hb e)))).1, fun b hb => ?_, w7⟩
   obtain ⟨o, e, d⟩ := T.obj _ _ st5 b hb
   exact (I7.pin (b, o) (List.mem_append_right _ (List.mem_append_right _ (mem_pinsAt hb e)))).2.1
  cases f with
  | next => obtain ⟨σ7, H7, I7, n7⟩ := q7; exact again I7 n7
  | cont => obtain ⟨σ7, H7, I7, n7⟩ := q7; exact again I7 n7
  | brk => obtain ⟨σ7, H7, I7, q7⟩ := q7; exact ⟨σ7, H7, I7.unpinned, q7⟩
  | ret v => obtain ⟨x7, σ7, H7, I7, r7, q7⟩ := q7; exact ⟨x7, σ7, H7, I7.unpinned, r7, q7⟩
end
theorem for_list {K : PySem.W.Frag} {a : Addr} {xs : List V} {g : TG} {tb : TS} {D : Ends} {σ : St} {H : Hp} (Pv : Nat → St → Hp → Prop) (h0 : Pv 0 σ H) (hl : ∀ i σ H, i ≤ xs.length → Pv i σ H → SqL K H a xs)
  (hs : ∀ i x σ H, xs[i]? = some x → Pv i σ H → g x σ H fun σ2 H2 => tb { D with nx := Pv (i + 1), ct := Pv (i + 1), bk := D.nx } σ2 H2) (hd : ∀ σ H, Pv xs.length σ H → D.nx σ H) :
  ∃ W : Nat → Nat → St → Hp → Prop, (∃ m, W 0 m σ H) ∧ ∀ i m σ H, W i m σ H →
   ((Itl K a).stop i H ∧ D.nx σ H) ∨ ((Itl K a).go i H ∧ ∃ N : St → Hp → Prop, (∀ σ' H', N σ' H' → ∃ m', m' < m ∧ W (i + 1) m' σ' H') ∧ ∀ x H', (Itl K a).yld i H x H' → g x σ H' fun σ2 H2 => tb { D with nx := N, ct := N, bk := D.nx } σ2 H2) := by
 refine ⟨fun i m σ H => m = xs.length - i ∧ i ≤ xs.length ∧ Pv i σ H, ⟨xs.length, by simp, Nat.zero_le _, h0⟩, ?_⟩
 rintro i m σ H ⟨rfl, hi, p⟩
 have q := hl i σ H hi p
 by_cases hlt : i < xs.length
 ·refine .inr ⟨⟨xs, xs[i], q, by simp [hlt]⟩, Pv (i + 1), fun σ' H' p' => ⟨xs.length - (i + 1), by omega, rfl, hlt, p'⟩, fun x H' y => ?_⟩
  obtain ⟨e, y⟩ := y
  subst e
  exact hs i x σ _ (y xs q) p
 ·have e : i = xs.length := by omega
  subst e
  exact .inl ⟨⟨xs, q, Nat.le_refl _⟩, hd σ H p⟩
theorem for_tup {K : PySem.W.Frag} {a : Addr} {xs : List V} {g : TG} {tb : TS} {D : Ends} {σ : St} {H : Hp} (Pv : Nat → St → Hp → Prop) (h0 : Pv 0 σ H) (hl : ∀ i σ H, i ≤ xs.length → Pv i σ H → SqT K H a xs)
  (hs : ∀ i x σ H, xs[i]? = some x → Pv i σ H → g x σ H fun σ2 H2 => tb { D with nx := Pv (i + 1), ct := Pv (i + 1), bk := D.nx } σ2 H2) (hd : ∀ σ H, Pv xs.length σ H → D.nx σ H) :
  ∃ W : Nat → Nat → St → Hp → Prop, (∃ m, W 0 m σ H) ∧ ∀ i m σ H, W i m σ H →
   ((Itt K a).stop i H ∧ D.nx σ H) ∨ ((Itt K a).go i H ∧ ∃ N : St → Hp → Prop, (∀ σ' H', N σ' H' → ∃ m', m' < m ∧ W (i + 1) m' σ' H') ∧ ∀ x H', (Itt K a).yld i H x H' → g x σ H' fun σ2 H2 => tb { D with nx := N, ct := N, bk := D.nx } σ2 H2) := by
 refine ⟨fun i m σ H => m = xs.length - i ∧ i ≤ xs.length ∧ Pv i σ H, ⟨xs.length, by simp, Nat.zero_le _, h0⟩, ?_⟩
 rintro i m σ H ⟨rfl, hi, p⟩
 have q := hl i σ H hi p
 by_cases hlt : i < xs.length
 ·refine .inr ⟨⟨xs, xs[i], q, by simp [hlt]⟩, Pv (i + 1), fun σ' H' p' => ⟨xs.length - (i + 1), by omega, rfl, hlt, p'⟩, fun x H' y => ?_⟩
  obtain ⟨e, y⟩ := y
  subst e
  exact hs i x σ _ (y xs q) p
 ·have e : i = xs.length := by omega
  subst e
  exact .inl ⟨⟨xs, q, Nat.le_refl _⟩, hd σ H p⟩
theorem for_range {lo : Int} {n : Nat} {g : TG} {tb : TS} {D : Ends} {σ : St} {H : Hp} (Pv : Nat → St → Hp → Prop) (h0 : Pv 0 σ H)
  (hs : ∀ i σ H, i < n → Pv i σ H → g (.int (lo + i)) σ H fun σ2 H2 => tb { D with nx := Pv (i + 1), ct := Pv (i + 1), bk := D.nx } σ2 H2) (hd : ∀ σ H, Pv n σ H → D.nx σ H) :
  ∃ W : Nat → Nat → St → Hp → Prop, (∃ m, W 0 m σ H) ∧ ∀ i m σ H, W i m σ H →
   ((Itr lo n).stop i H ∧ D.nx σ H) ∨ ((Itr lo n).go i H ∧ ∃ N : St → Hp → Prop, (∀ σ' H', N σ' H' → ∃ m', m' < m ∧ W (i + 1) m' σ' H') ∧ ∀ x H', (Itr lo n).yld i H x H' → g x σ H' fun σ2 H2 => tb { D with nx := N, ct := N, bk := D.nx } σ2 H2) := by
 refine ⟨fun i m σ H => m = n - i ∧ i ≤ n ∧ Pv i σ H, ⟨n, by simp, Nat.zero_le _, h0⟩, ?_⟩
 rintro i m σ H ⟨rfl, hi, p⟩
 by_cases hlt : i < n
 ·refine .inr ⟨hlt, Pv (i + 1), fun σ' H' p' => ⟨n - (i + 1), by omega, rfl, hlt, p'⟩, fun x H' y => ?_⟩
  obtain ⟨e, y⟩ := y
  subst e y
  exact hs i σ _ hlt p
 ·have e : i = n := by omega
  subst e
  exact .inl ⟨Nat.le_refl _, hd σ H p⟩
theorem while_by {c : TT} {tb : TS} {D : Ends} {σ : St} {H : Hp} (Pv : St → Hp → Prop) (μ : St → Hp → Nat) (h0 : Pv σ H)
  (hs : ∀ σ H, Pv σ H → c σ H fun b H1 => if b = true then tb { D with nx := fun σ' H' => Pv σ' H' ∧ μ σ' H' < μ σ H, ct := fun σ' H' => Pv σ' H' ∧ μ σ' H' < μ σ H, bk := D.nx } σ H1 else D.nx σ H1)
  (mono : ∀ σ H Q Q', (∀ b H1, Q b H1 → Q' b H1) → c σ H Q → c σ H Q') : tWhile c tb D σ H := by
 refine ⟨fun m σ H => m = μ σ H ∧ Pv σ H, ⟨_, rfl, h0⟩, ?_⟩
 rintro m σ H ⟨rfl, p⟩
 refine mono σ H _ _ (fun b H1 q => ?_) (hs σ H p)
 cases b with
 | true => exact ⟨_, fun σ' H' ⟨p', l⟩ => ⟨_, l, rfl, p'⟩, q⟩
 | false => exact q
end L2
namespace L2
open PySem PySem.Spec PyProof.Rows
abbrev R2 := V → V → Hp → VK → Prop
def OpR (X : Cx) (f : Value → Value → Sem Value) (r : R2) : Prop :=
 ∀ (pins : List (Addr × Obj)) (s : Shared) (σ : St) (H : Hp) (x y : V) (v u : Value) (Q : VK), Inv X pins σ H s → RelV x v → RelV y u → r x y H Q →
  wpAny (model X.prog X.w) X.A (f v u) (EP X pins σ Q) X.xe s
def UnR (X : Cx) (f : Value → Sem Value) (r : V → Hp → VK → Prop) : Prop :=
 ∀ (pins : List (Addr × Obj)) (s : Shared) (σ : St) (H : Hp) (x : V) (v : Value) (Q : VK), Inv X pins σ H s → RelV x v → r x H Q →
  wpAny (model X.prog X.w) X.A (f v) (EP X pins σ Q) X.xe s
def CallR (X : Cx) (f : Value) (r : List V → Hp → VK → Prop) : Prop :=
 ∀ (pins : List (Addr × Obj)) (s : Shared) (σ : St) (H : Hp) (xs : List V) (us : List Value) (Q : VK), Inv X pins σ H s → Vals xs us → r xs H Q →
  wpAny (model X.prog X.w) X.A (call f us) (EP X pins σ Q) X.xe s
def tOp (r : R2) (ta tb : TE) : TE := fun σ H Q => ta σ H fun x H1 => tb σ H1 fun y H2 => r x y H2 Q
def tUn (r : V → Hp → VK → Prop) (ta : TE) : TE := fun σ H Q => ta σ H fun x H1 => r x H1 Q
def rI (C : Int → Int → Prop) (g : Int → Int → V) : R2 := fun x y H Q => ∃ i j, x = .int i ∧ y = .int j ∧ C i j ∧ Q (g i j) H
def rI0 (g : Int → Int → V) : R2 := fun x y H Q => ∃ i j, x = .int i ∧ y = .int j ∧ Q (g i j) H
def rU (g : Int → V) : V → Hp → VK → Prop := fun x H Q => ∃ i, x = .int i ∧ Q (g i) H
section
variable {X : Cx} {a b c : Expr} {ta tb tc : TE} {pos : Pos}
theorem binT (ha : PE X a ta) (hb : PE X b tb) {pins : List (Addr × Obj)} {s : Shared} {σ : St} {H : Hp} {R : V → V → Hp → Prop} (I : Inv X pins σ H s)
  (h : ta σ H fun x H1 => tb σ H1 fun y H2 => R x y H2) {Q : Value → Shared → Prop} {f : Value → Value → Sem Value}
  (hf : ∀ v u s2 x y H2, Inv X pins σ H2 s2 → RelV x v → RelV y u → R x y H2 → wpAny (model X.prog X.w) X.A (f v u) Q X.xe s2) :
  wpAny (model X.prog X.w) X.A (eval a X.env) (fun v s₁ => wpAny (model X.prog X.w) X.A (eval b X.env) (fun u s₂ => wpAny (model X.prog X.w) X.A (f v u) Q X.xe s₂) X.xe s₁) X.xe s := by
 refine thn (ha pins s σ H _ I h) fun v s1 ⟨x, H1, I1, r1, q1⟩ => ?_
 refine thn (hb pins s1 σ H1 _ I1 q1) fun u s2 ⟨y, H2, I2, r2, q2⟩ => ?_
 exact hf v u s2 x y H2 I2 r1 r2 q2
theorem pe_op {op : Operator} {r : R2} (ho : OpR X (binaryOp op) r) (ha : PE X a ta) (hb : PE X b tb) : PE X (.BinOp a op b pos) (tOp r ta tb) := by
 intro pins s σ H Q I h
 exact wpAny_BinOp (binT ha hb I h fun v u s2 x y H2 I2 rx ry q => ho pins s2 σ H2 x y v u Q I2 rx ry q)
theorem pe_un {op : UnaryOp} {r : V → Hp → VK → Prop} (ho : UnR X (unaryOp op) r) (ha : PE X a ta) : PE X (.UnaryOp op a pos) (tUn r ta) := by
 intro pins s σ H Q I h
 exact UnaryOp_ (thn (ha pins s σ H _ I h) fun v s1 ⟨x, H1, I1, r1, q1⟩ => ho pins s1 σ H1 x v Q I1 r1 q1)
theorem opI {f : Value → Value → Sem Value} {C : Int → Int → Prop} {g : Int → Int → Int}
  (rule : ∀ (i j : Int) (t u : Tok) (s : Shared) (Q : Value → Shared → Prop) (E : Value → Shared → Prop), C i j → Q (.int (g i j) s.toks) { s with toks := s.toks + 1 } → wpAny (model X.prog X.w) X.A (f (.int i t) (.int j u)) Q E s) :
  OpR X f (rI C fun i j => .int (g i j)) := by
 intro pins s σ H x y v u Q I rx ry h
 obtain ⟨i, j, rfl, rfl, hc, q⟩ := h
 obtain ⟨t, rfl⟩ := rx
 obtain ⟨t', rfl⟩ := ry
 exact rule i j t t' s _ _ hc ⟨.int (g i j), H, I.tok _, ⟨_, rfl⟩, q⟩
theorem opI0 {f : Value → Value → Sem Value} {g : Int → Int → Int}
  (rule : ∀ (i j : Int) (t u : Tok) (s : Shared) (Q : Value → Shared → Prop) (E : Value → Shared → Prop), Q (.int (g i j) s.toks) { s with toks := s.toks + 1 } → wpAny (model X.prog X.w) X.A (f (.int i t) (.int j u)) Q E s) :
  OpR X f (rI0 fun i j => .int (g i j)) := by
 intro pins s σ H x y v u Q I rx ry h
 obtain ⟨i, j, rfl, rfl, q⟩ := h
 obtain ⟨t, rfl⟩ := rx
 obtain ⟨t', rfl⟩ := ry
 exact rule i j t t' s _ _ ⟨.int (g i j), H, I.tok _, ⟨_, rfl⟩, q⟩
theorem opB0 {f : Value → Value → Sem Value} {g : Int → Int → Bool}
  (rule : ∀ (i j : Int) (t u : Tok) (s : Shared) (Q : Value → Shared → Prop) (E : Value → Shared → Prop), Q (.bool (g i j)) s → wpAny (model X.prog X.w) X.A (f (.int i t) (.int j u)) Q E s) :
  OpR X f (rI0 fun i j => .bl (g i j)) := by
 intro pins s σ H x y v u Q I rx ry h
 obtain ⟨i, j, rfl, rfl, q⟩ := h
 obtain ⟨t, rfl⟩ := rx
 obtain ⟨t', rfl⟩ := ry
 exact rule i j t t' s _ _ ⟨.bl (g i j), H, I, rfl, q⟩
def CDiv (i j : Int) : Prop := 0 < j ∧ j < 1073741824
def CMul (i j : Int) : Prop := (-(2 ^ 64) < i ∧ i < 2 ^ 64) ∨ (-(2 ^ 64) < j ∧ j < 2 ^ 64)
theorem CMul.ok {i j : Int} (h : CMul i j) : IntMulOk i j := by
 rcases h with ⟨h1, h2⟩ | ⟨h1, h2⟩
 ·exact .of_left (intBits_le_64 h1 h2)
 ·exact .of_right (intBits_le_64 h1 h2)
theorem op_add : OpR X (binaryOp .Add) (rI0 fun i j => .int (i + j)) := opI0 fun _ _ _ _ _ _ _ q => add_int q
theorem op_sub : OpR X (binaryOp .Sub) (rI0 fun i j => .int (i - j)) := opI0 fun _ _ _ _ _ _ _ q => sub_int q
theorem op_mul : OpR X (binaryOp .Mult) (rI CMul fun i j => .int (i * j)) := opI fun _ _ _ _ _ _ _ hc q => mul_int q hc.ok
theorem op_fdiv : OpR X (binaryOp .FloorDiv) (rI CDiv fun i j => .int (i / j)) := opI fun i j _ _ _ _ _ hc q => by
 have h1 : (0 : Int) < j := hc.1
 have h2 : j < 1073741824 := hc.2
 exact floordiv_int (by omega) (by rw [Int.fdiv_eq_ediv_of_nonneg i (by omega)]; exact q) (.inl (PyProof.noPylong_small (by omega)))
theorem unI {f : Value → Sem Value} {g : Int → Int}
  (rule : ∀ (i : Int) (t : Tok) (s : Shared) (Q : Value → Shared → Prop) (E : Value → Shared → Prop), Q (.int (g i) s.toks) { s with toks := s.toks + 1 } → wpAny (model X.prog X.w) X.A (f (.int i t)) Q E s) :
  UnR X f (rU fun i => .int (g i)) := by
 intro pins s σ H x v Q I rx h
 obtain ⟨i, rfl, q⟩ := h
 obtain ⟨t, rfl⟩ := rx
 exact rule i t s _ _ ⟨.int (g i), H, I.tok _, ⟨_, rfl⟩, q⟩
theorem un_neg : UnR X (unaryOp .USub) (rU fun i => .int (-i)) := unI fun _ _ _ _ _ q => neg_int q
end
def scal : V → V → Bool
 | .non, .non => true | .non, .int _ => true | .int _, .non => true | .non, .bl _ => true | .bl _, .non => true | .non, .str _ => true | .str _, .non => true
 | .int _, .int _ => true | .bl _, .bl _ => true | .str _, .str _ => true | .byt _, .byt _ => true
 | .int _, .str _ => true | .str _, .int _ => true | .bl _, .str _ => true | .str _, .bl _ => true
 | _, _ => false
def rEq : R2 := fun x y H Q => scal x y = true ∧ Q (.bl (decide (x = y))) H
def rNe : R2 := fun x y H Q => scal x y = true ∧ Q (.bl (!decide (x = y))) H
theorem dec_int {i j : Int} : decide (V.int i = V.int j) = (i == j) := by
 rw [Bool.eq_iff_iff]
 simp
theorem dec_bl {i j : Bool} : decide (V.bl i = V.bl j) = (i == j) := by
 rw [Bool.eq_iff_iff]
 simp
theorem dec_str {i j : Str} : decide (V.str i = V.str j) = (i == j) := by
 rw [Bool.eq_iff_iff]
 simp
theorem dec_byt {i j : Array UInt8} : decide (V.byt i = V.byt j) = (i.toList == j.toList) := by
 rw [Bool.eq_iff_iff]
 cases i
 cases j
 simp
section
variable {X : Cx} {a b c : Expr} {ta tb tc : TE} {pos : Pos}
theorem fin_bl {pins : List (Addr × Obj)} {σ : St} {H : Hp} {s : Shared} {Q : VK} {k k' : Bool} (I : Inv X pins σ H s) (q : Q (.bl k) H) (e : k = k') : EP X pins σ Q (.bool k') s := by
 subst e
 exact ⟨.bl k, H, I, rfl, q⟩
theorem op_eq : OpR X (compareOp .Eq) rEq := by
 intro pins s σ H x y v u Q I rx ry h
 obtain ⟨hs, q⟩ := h
 cases x with
 | non =>
  cases rx
  cases y with
  | non => cases ry; exact PySem.EqNone.eq_none_none (fin_bl I q (by simp))
  | bl j => cases ry; exact PySem.EqNone.eq_none_bool (fin_bl I q (by simp))
  | int j => obtain ⟨t', rfl⟩ := ry; exact PySem.EqNone.eq_none_int (fin_bl I q (by simp))
  | str j => obtain ⟨t', rfl⟩ := ry; exact PySem.EqNone.eq_none_str (fin_bl I q (by simp))
  | _ => exact absurd (show false = true from hs) Bool.false_ne_true
 | bl i =>
  cases rx
  cases y with
  | non => cases ry; exact PySem.EqNone.eq_bool_none (fin_bl I q (by simp))
  | bl j => cases ry; exact eq_bool (fin_bl I q dec_bl)
  | str j => obtain ⟨t', rfl⟩ := ry; exact PySem.EqMixed.eq_bool_str (fin_bl I q (by simp))
  | _ => exact absurd (show false = true from hs) Bool.false_ne_true
 | int i =>
  obtain ⟨t, rfl⟩ := rx
  cases y with
  | non => cases ry; exact PySem.EqNone.eq_int_none (fin_bl I q (by simp))
  | int j => obtain ⟨t', rfl⟩ := ry; exact eq_int (fin_bl I q dec_int)
  | str j => obtain ⟨t', rfl⟩ := ry; exact PySem.EqMixed.eq_int_str (fin_bl I q (by simp))
  | _ => exact absurd (show false = true from hs) Bool.false_ne_true
 | str i =>
  obtain ⟨t, rfl⟩ := rx
  cases y with
  | non => cases ry; exact PySem.EqNone.eq_str_none (fin_bl I q (by simp))
  | bl j => cases ry; exact PySem.EqMixed.eq_str_bool (fin_bl I q (by simp))
  | int j => obtain ⟨t', rfl⟩ := ry; exact PySem.EqMixed.eq_str_int (fin_bl I q (by simp))
  | str j => obtain ⟨t', rfl⟩ := ry; exact eq_str (fin_bl I q dec_str)
  | _ => exact absurd (show false = true from hs) Bool.false_ne_true
 | byt i =>
  obtain ⟨t, rfl⟩ := rx
  cases y with
  | byt j => obtain ⟨t', rfl⟩ := ry; exact PySem.W.eq_bytes (fin_bl I q dec_byt)
  | _ => exact absurd (show false = true from hs) Bool.false_ne_true
 | _ => cases y <;> exact absurd (show false = true from hs) Bool.false_ne_true
theorem op_ne : OpR X (compareOp .NotEq) rNe := by
 intro pins s σ H x y v u Q I rx ry h
 obtain ⟨hs, q⟩ := h
 cases x with
 | non =>
  cases rx
  cases y with
  | non => cases ry; exact PySem.EqNone.ne_none_none (fin_bl I q (by simp))
  | bl j => cases ry; exact PySem.EqNone.ne_none_bool (fin_bl I q (by simp))
  | int j => obtain ⟨t', rfl⟩ := ry; exact PySem.EqNone.ne_none_int (fin_bl I q (by simp))
  | str j => obtain ⟨t', rfl⟩ := ry; exact PySem.EqNone.ne_none_str (fin_bl I q (by simp))
  | _ => exact absurd (show false = true from hs) Bool.false_ne_true
 | bl i =>
  cases rx
  cases y with
  | non => cases ry; exact PySem.EqNone.ne_bool_none (fin_bl I q (by simp))
  | bl j => cases ry; exact ne_bool (fin_bl I q (congrArg not dec_bl))
  | str j => obtain ⟨t', rfl⟩ := ry; exact PySem.EqMixed.ne_bool_str (fin_bl I q (by simp))
  | _ => exact absurd (show false = true from hs) Bool.false_ne_true
 | int i =>
  obtain ⟨t, rfl⟩ := rx
  cases y with
  | non => cases ry; exact PySem.EqNone.ne_int_none (fin_bl I q (by simp))
  | int j => obtain ⟨t', rfl⟩ := ry; exact ne_int (fin_bl I q (congrArg not dec_int))
  | str j => obtain ⟨t', rfl⟩ := ry; exact PySem.EqMixed.ne_int_str (fin_bl I q (by simp))
  | _ => exact absurd (show false = true from hs) Bool.false_ne_true
 | str i =>
  obtain ⟨t, rfl⟩ := rx
  cases y with
  | non => cases ry; exact PySem.EqNone.ne_str_none (fin_bl I q (by simp))
  | bl j => cases ry; exact PySem.EqMixed.ne_str_bool (fin_bl I q (by simp))
  | int j => obtain ⟨t', rfl⟩ := ry; exact PySem.EqMixed.ne_str_int (fin_bl I q (by simp))
  | str j => obtain ⟨t', rfl⟩ := ry; exact ne_str (fin_bl I q (congrArg not dec_str))
  | _ => exact absurd (show false = true from hs) Bool.false_ne_true
 | byt i =>
  obtain ⟨t, rfl⟩ := rx
  cases y with
  | byt j => obtain ⟨t', rfl⟩ := ry; exact PySem.W.ne_bytes (fin_bl I q (congrArg not dec_byt))
  | _ => exact absurd (show false = true from hs) Bool.false_ne_true
 | _ => cases y <;> exact absurd (show false = true from hs) Bool.false_ne_true
theorem op_lt : OpR X (compareOp .Lt) (rI0 fun i j => .bl (decide (i < j))) := opB0 fun _ _ _ _ _ _ _ q => lt_int q
theorem op_le : OpR X (compareOp .LtE) (rI0 fun i j => .bl (decide (i ≤ j))) := opB0 fun _ _ _ _ _ _ _ q => le_int q
theorem op_gt : OpR X (compareOp .Gt) (rI0 fun i j => .bl (decide (j < i))) := opB0 fun _ _ _ _ _ _ _ q => gt_int q
theorem op_ge : OpR X (compareOp .GtE) (rI0 fun i j => .bl (decide (j ≤ i))) := opB0 fun _ _ _ _ _ _ _ q => ge_int q
theorem nomark (b : Expr) {op : CmpOp} (h : op ≠ .In := by decide) (h2 : op ≠ .NotIn := by decide) : behindInMarks op b = false := by
 have e1 : (op == CmpOp.In) = false := by cases op <;> first | rfl | exact absurd rfl h
 have e2 : (op == CmpOp.NotIn) = false := by cases op <;> first | rfl | exact absurd rfl h2
 cases b <;> simp [behindInMarks, e1, e2]
theorem pe_cmpR {op : CmpOp} {r : R2} (ho : OpR X (compareOp op) r) (ha : PE X a ta) (hb : PE X b tb) (hm : behindInMarks op b = false) : PE X (.Compare a [op] [b] pos) (tOp r ta tb) := by
 intro pins s σ H Q I h
 exact wpAny_Compare1 (binT ha hb I h fun v u s2 x y H2 I2 rx ry q => ho pins s2 σ H2 x y v u Q I2 rx ry q) hm
def tTest (t : TE) : TT := fun σ H Q => t σ H fun x H' => ∃ k, x = .bl k ∧ Q k H'
theorem pt_cmpR {op : CmpOp} {r : R2} (ho : OpR X (compareOp op) r) (ha : PE X a ta) (hb : PE X b tb) (hm : behindInMarks op b = false) : PT X (.Compare a [op] [b] pos) (tTest (tOp r ta tb)) := by
 intro pins s σ H Q I h
 refine wpAny_isTrue_Compare1 (thn (ha pins s σ H _ I h) fun v s1 ⟨x, H1, I1, r1, q1⟩ => thn (hb pins s1 σ H1 _ I1 q1) fun u s2 ⟨y, H2, I2, r2, q2⟩ =>
  thn (ho pins s2 σ H2 x y v u _ I2 r1 r2 q2) fun c s3 ⟨z, H3, I3, r3, k, e, q3⟩ => ?_) hm
 subst e
 cases r3
 exact wpAny_truthy_bool ⟨H3, I3, q3⟩
theorem line63 : (sizeLine : Nat) < 2 ^ 63 := by rw [sizeLine_eq]; decide
theorem vals1 {x : V} {us : List Value} (r : Vals [x] us) : ∃ u, us = [u] ∧ RelV x u := by
 cases r with
 | cons r1 r2 => cases r2; exact ⟨_, rfl, r1⟩
theorem vals2 {x y : V} {us : List Value} (r : Vals [x, y] us) : ∃ u w', us = [u, w'] ∧ RelV x u ∧ RelV y w' := by
 cases r with
 | cons r1 r2 =>
  cases r2 with
  | cons r3 r4 => cases r4; exact ⟨_, _, rfl, r1, r3⟩
theorem call_min2 (hc : X.calm = true) : CallR X (.builtin "min") (fun xs H Q => ∃ i j, xs = [.int i, .int j] ∧ Q (.int (if j < i then j else i)) H) := by
 intro pins s σ H xs us Q I r h
 obtain ⟨i, j, rfl, q⟩ := h
 obtain ⟨u, w', rfl, ⟨t, rfl⟩, ⟨t', rfl⟩⟩ := vals2 r
 refine min_two_ints (I.ok.hd hc) fun h' tk k => ⟨_, H, I.kept k, ?_, q⟩
 by_cases hj : j < i
 ·rw [if_pos hj, if_pos hj]; exact ⟨_, rfl⟩
 ·rw [if_neg hj, if_neg hj]; exact ⟨_, rfl⟩
theorem call_int1 : CallR X (.type "int") (fun xs H Q => (∃ i, xs = [.int i] ∧ Q (.int i) H) ∨ ∃ k, xs = [.bl k] ∧ Q (.int (if k then 1 else 0)) H) := by
 intro pins s σ H xs us Q I r h
 rcases h with ⟨i, rfl, q⟩ | ⟨k, rfl, q⟩
 ·obtain ⟨u, rfl, t, rfl⟩ := vals1 r
  exact call_int_int ⟨.int i, H, I, ⟨_, rfl⟩, q⟩
 ·obtain ⟨u, rfl, r1⟩ := vals1 r
  cases r1
  exact call_int_bool ⟨.int (if k then 1 else 0), H, I.tok _, ⟨_, rfl⟩, q⟩
end
end L2
namespace L2
open PySem PySem.Spec PyProof.Rows
structure ObjM (h : Heap) (x dx C : Addr) (mA : Str → Option Value) : Prop where
 obj : h.get? x = some (PySem.W.instObj C dx)
 ns : h.Ns1 dx mA
 ne : dx ≠ x
theorem lookIn_ns {h : Heap} {dx : Addr} {mA : Str → Option Value} (n : h.Ns1 dx mA) : ∃ od, h.get? dx = some od ∧ ∀ name, PySem.W.lookIn name od = some (mA name) := by
 obtain ⟨o, es, ep, ho, hd, hk, _, hm⟩ := n
 refine ⟨o, ho, fun name => ?_⟩
 have e := hm name
 unfold nsFind findBy at e
 rw [← Array.find?_toList] at e
 unfold PySem.W.lookIn
 rw [hd]
 dsimp only
 split
 ·rename_i y q
  rw [q] at e
  exact congrArg some e
 ·rename_i q
  rw [q] at e
  have a : es.toList.any (·.refKey) = false := by
   rw [List.any_eq_false]
   intro y hy
   obtain ⟨z, t, hkey⟩ := hk y (Array.mem_toList_iff.mp hy)
   simp [DictEntry.refKey, hkey]
  have a' : ¬ es.toList.any (·.refKey) = true := by rw [a]; exact Bool.false_ne_true
  rw [if_neg a']
  exact congrArg some e
theorem ObjM.look {h : Heap} {x dx C : Addr} {mA : Str → Option Value} (I : ObjM h x dx C mA) : ∃ od, PySem.W.InstAt h x (PySem.W.instObj C dx) C (some od) ∧ ∀ name, PySem.W.lookIn name od = some (mA name) :=
 let ⟨od, ho, hl⟩ := lookIn_ns I.ns
 ⟨od, ⟨I.obj, rfl, rfl, ho⟩, hl⟩
section
variable {prog : Program} {w : World} {A : Around} {E : Value → Shared → Prop} {s : Shared} {K : PySem.W.Frag} {x dx C f : Addr} {mA : Str → Option Value} {name : Str} {v : Value}
theorem get_map {expr : Bool} {Q : Value → Shared → Prop} (X : K.In s.heap) (I : ObjM s.heap x dx C mA) (hg : PySem.W.plainGet K C name = true) (hh : PySem.W.hasDictIn K C = true)
  (ha : PySem.W.findIn K (.ref C) name = some none) (hv : mA name = some v) (hv' : PySem.W.handedIn v = true) (h : Q v { s with toks := s.toks + 1 }) :
  wpAny (model prog w) A (getAttr (.ref x) name expr) Q E s := by
 obtain ⟨od, J, hl⟩ := I.look
 exact PySem.W.get_value X J (PySem.W.plainGet_of hg).1 (PySem.W.findObj_own hh ha rfl (by rw [hl, hv])) hv' h
theorem set_map {ns : List Str} {Q : Unit → Shared → Prop} (X : K.In s.heap) (I : ObjM s.heap x dx C mA)
  (hs : PySem.W.findIn K (.ref C) "__setattr__" = some (some (.builtin "object.__setattr__"))) (hp : PySem.W.plainOver K C = true) (ht : PySem.W.takerIn K C name = some none) (hh : PySem.W.hasDictIn K C = true)
  (hw : PySem.Within mA ns) (hsz : ns.length ≤ sizeLine)
  (h : ∀ h', ObjM h' x dx C (fun y => if y = name then some v else mA y) → Heap.SameBut dx s.heap h' → Q () { s with heap := h', toks := s.toks + 2 }) :
  wpAny (model prog w) A (setAttr (.ref x) name v) Q E s := by
 obtain ⟨od, J, hl⟩ := I.look
 refine PySem.W.set_plain X J hs (PySem.W.osa_open (s := { s with toks := s.toks + 1 }) (r := none) X J hp ht fun b => ?_)
 obtain ⟨cd, hc, hd'⟩ := PySem.W.any_some hh
 have hx : s.heap.get? x = some ⟨.ref C, some dx, .plain, #[]⟩ := I.obj
 refine wpAny_bind (wpAny_pure (wpAny_bind (wpAny_bind (wpAny_loadPart hx (wpAny_bind (PySem.W.Looks.here (s := { s with toks := s.toks + 1 }) (PySem.W.looks_clsIn X hc) ?_))))))
 rw [hd']
 refine wpAny_pure (a := some dx) (wpAny_bind (wpAny_pure (wpAny_bind ?_)))
 refine wpAny_nsSet1 (s := { s with toks := s.toks + 1 }) I.ns fun h' hn2 hs2 => ?_
 obtain ⟨oD, esD, epD, hoD, hdD, hcD⟩ := hn2.count (PySem.Within.cons name v hw)
 refine wpAny_bind (wpAny_lookBehind hoD (by rw [hdD]; exact pastItsLine_dict (Nat.le_trans hcD (by rw [List.length_cons]; omega))) ?_)
 exact wpAny_pure (h _ ⟨(hs2.2 _ (Ne.symm I.ne)).trans I.obj, hn2, I.ne⟩ hs2)
theorem make_map {R : Result → Shared → Prop} {vs : List Value} {kw : List (Str × Value)} (X : K.In s.heap) (hm : PySem.W.makesIn K C = true)
  (hi : PySem.W.findIn K (.ref C) "__init__" = some (some (.ref f))) (hf : PySem.W.typeIn K (.ref f) = some (.type "function"))
  (h : codeAny (model prog w) (A.under (.builtin "type.__call__" ⟨.ref C :: vs, kw⟩)) (.call (.ref f) ⟨.ref (s.heap.objs.size + 1) :: vs, kw⟩) (PySem.W.InitBack (s.heap.objs.size + 1) R)
   { s with heap := (s.heap.push PySem.W.emptyDict).push (PySem.W.instObj C s.heap.objs.size) }) :
  codeAny (model prog w) A (.call (.ref C) ⟨vs, kw⟩) R s := by
 obtain ⟨hh, g, d, t, os⟩ := s
 exact PySem.W.make_core (PySem.W.makes_of X hm) (PySem.W.looks_findIn X hi) (fun self => PySem.W.bind_fn X self hf) (.inl rfl) h
end
def putF (f : Str) (v : V) : List (Str × V) → List (Str × V)
 | [] => [(f, v)]
 | (g, x) :: r => if g = f then (g, v) :: r else (g, x) :: putF f v r
theorem lookup_putF (f g : Str) (v : V) : ∀ fs : List (Str × V), (putF f v fs).lookup g = if g = f then some v else fs.lookup g
 | [] => by
  show List.lookup g [(f, v)] = _
  by_cases h : g = f
  ·have hb : (g == f) = true := beq_iff_eq.mpr h
   simp only [List.lookup, hb, if_pos h]
  ·have hb : (g == f) = false := beq_eq_false_iff_ne.mpr h
   simp only [List.lookup, hb, if_neg h]
 | (k, x) :: r => by
  have ih := lookup_putF f g v r
  rw [show putF f v ((k, x) :: r) = (if k = f then (k, v) :: r else (k, x) :: putF f v r) from rfl]
  by_cases hk : k = f
  ·rw [if_pos hk]
   by_cases h : g = k
   ·have hb : (g == k) = true := beq_iff_eq.mpr h
    simp only [List.lookup, hb, if_pos (h.trans hk)]
   ·have hb : (g == k) = false := beq_eq_false_iff_ne.mpr h
    simp only [List.lookup, hb, if_neg (fun e : g = f => h (e.trans hk.symm))]
  ·rw [if_neg hk]
   by_cases h : g = k
   ·have hb : (g == k) = true := beq_iff_eq.mpr h
    simp only [List.lookup, hb, if_neg (fun e : g = f => hk (h.symm.trans e))]
   ·have hb : (g == k) = false := beq_eq_false_iff_ne.mpr h
    simp only [List.lookup, hb]
    exact ih
theorem keys_putF (f : Str) (v : V) : ∀ fs : List (Str × V), f ∈ (putF f v fs).map (·.1) ∧ ∀ g, g ∈ fs.map (·.1) → g ∈ (putF f v fs).map (·.1)
 | [] => ⟨by simp [putF], fun g h => by simp at h⟩
 | (k, x) :: r => by
  obtain ⟨i1, i2⟩ := keys_putF f v r
  rw [show putF f v ((k, x) :: r) = (if k = f then (k, v) :: r else (k, x) :: putF f v r) from rfl]
  by_cases hk : k = f
  ·rw [if_pos hk]
   subst hk
   exact ⟨by simp, fun g h => by simpa using h⟩
  ·rw [if_neg hk]
   refine ⟨?_, fun g h => ?_⟩
   ·rw [List.map_cons]
    exact List.mem_cons_of_mem _ i1
   ·rw [List.map_cons] at h ⊢
    rcases List.mem_cons.mp h with e | e
    ·exact List.mem_cons.mpr (.inl e)
    ·exact List.mem_cons_of_mem _ (i2 g e)
theorem length_putF (f : Str) (v : V) : ∀ fs : List (Str × V), (putF f v fs).length ≤ fs.length + 1
 | [] => by simp [putF]
 | (k, x) :: r => by
  have ih := length_putF f v r
  rw [show putF f v ((k, x) :: r) = (if k = f then (k, v) :: r else (k, x) :: putF f v r) from rfl]
  by_cases hk : k = f
  ·rw [if_pos hk, List.length_cons, List.length_cons]; omega
  ·rw [if_neg hk, List.length_cons, List.length_cons]; omega
theorem RelO.some_of {v : V} {o : Option Value} (r : RelO (some v) o) : ∃ u, o = some u ∧ RelV v u := by
 cases o with
 | none => exact (show False from r).elim
 | some u => exact ⟨u, rfl, r⟩
theorem handed_of {v : V} {u : Value} (r : RelV v u) : PySem.W.handedIn u = true := by
 cases v with
 | non => cases (show u = Value.none from r); rfl
 | bl b => cases (show u = Value.bool b from r); rfl
 | int i => obtain ⟨t, e⟩ := (show ∃ t, u = Value.int i t from r); cases e; rfl
 | str x => obtain ⟨t, e⟩ := (show ∃ t, u = Value.str x t from r); cases e; rfl
 | byt b => obtain ⟨t, e⟩ := (show ∃ t, u = Value.bytes b t from r); cases e; rfl
 | flt b => obtain ⟨t, e⟩ := (show ∃ t, u = Value.float b t from r); cases e; rfl
 | ref a => cases (show u = Value.ref a from r); rfl
 | ty n => cases (show u = Value.type n from r); rfl
section
variable {P : Program} {w : World} {H H' : Hp} {h h' : Heap} {a C dx : Addr} {fs fs' : List (Str × V)}
theorem ins_get (hok : HOk P w H h) (e : H a = some (.ins C dx fs)) : ∃ mA, ObjM h a dx C mA ∧ (∀ f, RelO (fs.lookup f) (mA f)) ∧ PySem.Within mA (fs.map (·.1)) ∧ fs.length ≤ 1000 ∧ H dx = some (.own a) := by
 obtain ⟨d, z, ne, ob, mA, n, r, q⟩ := (show ObjOk P w H h a (.ins C dx fs) from hok a _ e)
 exact ⟨mA, ⟨ob, n, ne⟩, r, q, z, d⟩
end
structure Cls (K : PySem.W.Frag) (C : Addr) : Prop where
 pg : PySem.W.plainGet K C Str.empty = true
 hd : PySem.W.hasDictIn K C = true
 po : PySem.W.plainOver K C = true
 sa : PySem.W.findIn K (.ref C) "__setattr__" = some (some (.builtin "object.__setattr__"))
theorem Cls.get {K : PySem.W.Frag} {C : Addr} (c : Cls K C) (f : Str) : PySem.W.plainGet K C f = true := c.pg
def NoAttr (K : PySem.W.Frag) (C : Addr) (f : Str) : Prop := PySem.W.findIn K (.ref C) f = some none
theorem NoAttr.taker {K : PySem.W.Frag} {C : Addr} {f : Str} (n : NoAttr K C f) : PySem.W.takerIn K C f = some none := by
 unfold PySem.W.takerIn
 rw [show PySem.W.findIn K (.ref C) f = some none from n]
 rfl
section
variable {X : Cx} {pins : List (Addr × Obj)} {σ : St} {H : Hp} {s : Shared} {a C dx : Addr} {fs : List (Str × V)} {f : Str} {v : V} {A : Around} {E : Value → Shared → Prop}
theorem getattr_ok {b : Bool} {Q : Value → Shared → Prop} (I : Inv X pins σ H s) (e : H a = some (.ins C dx fs)) (c : Cls X.K C) (n : NoAttr X.K C f) (l : fs.lookup f = some v)
  (h : ∀ u s', Inv X pins σ H s' → RelV v u → Q u s') : wpAny (model X.prog X.w) A (getAttr (.ref a) f b) Q E s := by
 obtain ⟨mA, O, r, _, _, _⟩ := ins_get I.hok e
 obtain ⟨u, hu, ru⟩ := RelO.some_of (v := v) (o := mA f) (by rw [← l]; exact r f)
 exact get_map I.kIn O (c.get f) c.hd n hu (handed_of ru) (h u _ (I.tok _) ru)
theorem setattr_ok {y : V} {u : Value} {Q : Unit → Shared → Prop} (I : Inv X pins σ H s) (e : H a = some (.ins C dx fs)) (c : Cls X.K C) (n : NoAttr X.K C f) (hl : fs.length < 1000) (ry : RelV y u)
  (h : ∀ s', Inv X pins σ (upd H a (.ins C dx (putF f y fs))) s' → Q () s') : wpAny (model X.prog X.w) A (setAttr (.ref a) f u) Q E s := by
 obtain ⟨mA, O, r, wi, _, ho⟩ := ins_get I.hok e
 have hz : (fs.map (·.1)).length ≤ sizeLine := by rw [List.length_map, sizeLine_eq]; omega
 refine set_map I.kIn O c.sa c.po n.taker c.hd wi hz fun h' O' sb => h _ ?_
 have hd : ∃ o, h'.get? dx = some o := let ⟨o, _, _, e', _⟩ := O'.ns; ⟨o, e'⟩
 refine I.write (x := a) (e := dx) (by rw [e]; exact True.intro) (.inr ho) (fun b q hb z => (sb.2 b hb).trans z) hd ?_
 refine ⟨by rw [upd_ne O.ne]; exact ho, ?_, O.ne, O'.obj, _, O'.ns, fun g => ?_, fun g hg => ?_⟩
 ·have := length_putF f y fs; omega
 ·show RelO ((putF f y fs).lookup g) (if g = f then some u else mA g)
  rw [lookup_putF]
  by_cases q : g = f
  ·rw [if_pos q, if_pos q]; exact ry
  ·rw [if_neg q, if_neg q]; exact r g
 ·by_cases q : g = f
  ·rw [q]; exact (keys_putF f y fs).1
  ·refine (keys_putF f y fs).2 g (wi g fun z => hg ?_)
   show (if g = f then some u else mA g) = none
   rw [if_neg q]; exact z
theorem Inv.made (I : Inv X pins σ H s) : Inv X pins σ (upd (upd H s.heap.objs.size (.own (s.heap.objs.size + 1))) (s.heap.objs.size + 1) (.ins C s.heap.objs.size []))
  { s with heap := (s.heap.push PySem.W.emptyDict).push (PySem.W.instObj C s.heap.objs.size) } := by
 have e1 : (s.heap.push PySem.W.emptyDict).get? s.heap.objs.size = some PySem.W.emptyDict := Heap.get?_push_size s.heap rfl
 have e2 : ((s.heap.push PySem.W.emptyDict).push (PySem.W.instObj C s.heap.objs.size)).get? (s.heap.objs.size + 1) = some (PySem.W.instObj C s.heap.objs.size) := by
  have := Heap.get?_push_size (s.heap.push PySem.W.emptyDict) (o := PySem.W.instObj C s.heap.objs.size) rfl
  rwa [Heap.size_push] at this
 have e3 : (s.heap.push PySem.W.emptyDict).Ns s.heap.objs.size (fun _ => none) := ⟨PySem.W.emptyDict, #[], _, e1, rfl, (fun e he => absurd he (by simp)), fun _ => rfl⟩
 have I1 := I.laid (a := s.heap.objs.size) (o := .own (s.heap.objs.size + 1)) (h' := s.heap.push PySem.W.emptyDict) (t' := s.toks) (fun b u q => Heap.get?_push_of_some _ q) (Nat.le_refl _) ⟨_, e1⟩
 refine I1.laid (a := s.heap.objs.size + 1) (o := .ins C s.heap.objs.size []) (t' := s.toks) (fun b u q => Heap.get?_push_of_some _ q) (Nat.le_of_eq (Heap.size_push _ _)) ?_
 have ne : s.heap.objs.size ≠ s.heap.objs.size + 1 := Nat.ne_of_lt (Nat.lt_succ_self _)
 refine ⟨by rw [upd_ne ne, upd_same], Nat.zero_le _, ne, e2, fun _ => none, (Heap.Ns1.of_empty e3).at fun o q => Heap.get?_push_of_some _ q, fun _ => True.intro, fun y hy => absurd rfl hy⟩
theorem attr_of {prog : Program} {w : World} {env : Env} {e : Expr} {f : Str} {pos : Pos} {s : Shared} {Q : Value → Shared → Prop} (hb : attributeBase e f env (eval e env) = eval e env)
  (h : wpAny (model prog w) A (eval e env) (fun o s₁ => wpAny (model prog w) A (getAttr o f true) Q E s₁) E s) : wpAny (model prog w) A (eval (.Attribute e f pos) env) Q E s :=
 Attribute_any_ h (by rw [arm_eval_Attribute, hb])
end
def InOp (X : Cx) (op : Operator) (rd : V → V → Hp → VK → Prop) : Prop :=
 ∀ (pins : List (Addr × Obj)) (s : Shared) (σ : St) (H : Hp) (x y : V) (u v : Value) (Q : VK), Inv X pins σ H s → RelV x u → RelV y v → rd x y H Q → wpAny (model X.prog X.w) X.A (inplaceOp op u v) (EP X pins σ Q) X.xe s
section
variable {X : Cx} {o e value : Expr} {f : Str} {pos pos' tpos : Pos} {ta tv : TE}
def rAdd : V → V → Hp → VK → Prop := fun x y H Q => ∃ i j, x = .int i ∧ y = .int j ∧ Q (.int (i + j)) H
theorem in_add : InOp X .Add rAdd := by
 rintro pins s σ H x y u v Q I rx ry ⟨i, j, rfl, rfl, q⟩
 obtain ⟨t, rfl⟩ := (show ∃ t, u = Value.int i t from rx)
 obtain ⟨t', rfl⟩ := (show ∃ t', v = Value.int j t' from ry)
 exact PyProof.Rows.iadd_int ⟨.int (i + j), H, I.tok _, ⟨_, rfl⟩, q⟩
end
section
variable {X : Cx} {pins : List (Addr × Obj)} {σ : St} {H : Hp} {s : Shared} {A : Around} {E : Value → Shared → Prop} {Q : Value → Shared → Prop} {c : Value} {b : Bool}
end
end L2
namespace L2
open PySem PySem.Spec PyProof.Rows
structure Room (k : Nat) (A : Around) : Prop where
 hd : A.handled = none
 dp : A.depth + 3 * k + 5 < recursionLimit
 un : A.units + 16 * k + 200 < cLine
theorem Room.mono {j k : Nat} {A : Around} (r : Room k A) (h : j ≤ k) : Room j A := ⟨r.hd, by have := r.dp; omega, by have := r.un; omega⟩
theorem Room.deeper {k : Nat} {A : Around} (r : Room (k + 1) A) (env : Env) : Room k (A.deeper env) :=
 ⟨r.hd, by have := r.dp; show A.depth + 1 + 3 * k + 5 < _; omega, by have := r.un; show A.units + 3 + 16 * k + 200 < _; omega⟩
theorem make_depth {A : Around} {C : Addr} {us : List Value} {kw : List (Str × Value)} : (A.under (.builtin "type.__call__" ⟨.ref C :: us, kw⟩)).depth = A.depth + 1 := by
 first | rfl | simp [Around.under, Code.weight, Code.isCreation, Code.isGuard, Code.isCaller, Code.frames, Code.isFrame, guardIds]
theorem make_units {A : Around} {C : Addr} {us : List Value} {kw : List (Str × Value)} : (A.under (.builtin "type.__call__" ⟨.ref C :: us, kw⟩)).units = A.units + 1 := by
 first | rfl | simp [Around.under, Code.cUnits, Code.frames, Code.isFrame]
theorem Room.make {k : Nat} {A : Around} (r : Room (k + 1) A) (C : Addr) (us : List Value) (kw : List (Str × Value)) : Room k (A.under (.builtin "type.__call__" ⟨.ref C :: us, kw⟩)) :=
 ⟨r.hd, by have := r.dp; rw [make_depth]; omega, by have := r.un; rw [make_units]; omega⟩
theorem Room.depth {k : Nat} {A : Around} (r : Room k A) : A.depth < recursionLimit := by have := r.dp; omega
theorem Room.units {k : Nat} {A : Around} (r : Room k A) : A.units + 64 < cLine := by have := r.un; omega
def tNil : TA := fun _ H Q => Q [] H
def tCons (ta : TE) (tr : TA) : TA := fun σ H Q => ta σ H fun x H1 => tr σ H1 fun xs H2 => Q (x :: xs) H2
section
variable {X : Cx} {e : Expr} {es : List Expr} {te : TE} {t : TA} {pos : Pos}
theorem pa_nil : PA X [] tNil := fun _ _ _ _ H Q I h => Calls.spliced_nil ⟨[], H, I, .nil, h⟩
theorem pa_cons (ha : PE X e te) (hr : PA X es t) (hs : starEach (e :: es) X.env = (false, eval e X.env) :: starEach es X.env := by rfl) : PA X (e :: es) (tCons te t) := by
 intro pos pins s σ H Q I h
 rw [hs]
 show wpAny _ _ (spliced ((false, eval e X.env) :: backTo pos (starEach es X.env))) _ _ s
 refine Calls.spliced_cons (thn (ha pins s σ H _ I h) fun u s1 ⟨x, H1, I1, r1, q1⟩ => ?_)
 exact thn (hr pos pins s1 σ H1 _ I1 q1) fun us s2 ⟨xs, H2, I2, r2, q2⟩ => ⟨x :: xs, H2, I2, .cons r1 r2, q2⟩
def tTup (t : TA) : TE := fun σ H Q => t σ H fun xs H1 => xs.length ≤ sizeLine ∧ ∀ p, H1 p = none → Q (.ref p) (upd H1 p (.tup xs))
def tLst (t : TA) : TE := fun σ H Q => t σ H fun xs H1 => xs.length ≤ sizeLine ∧ ∀ p, H1 p = none → Q (.ref p) (upd H1 p (.lst xs))
theorem pe_tup {x1} (h : PA X es t) : PE X (.Tuple es x1 pos) (tTup t) := by
 intro pins s σ H Q I hq
 refine wpAny_Tuple_spliced (thn (h pos pins s σ H _ I hq) fun us s1 ⟨xs, H1, I1, r, z, q⟩ => ⟨by rw [← r.length]; exact z, ?_⟩)
 have hf : H1 s1.heap.objs.size = none := I1.hok.fresh (Nat.le_refl _)
 refine ⟨.ref s1.heap.objs.size, upd H1 s1.heap.objs.size (.tup xs), I1.laid (t' := s1.toks) (fun b u e => Heap.get?_push_of_some _ e) (Nat.le_refl _) ?_, rfl, q _ hf⟩
 exact ⟨z, us, r, ⟨_, Heap.get?_push_size _ rfl, rfl, _, rfl⟩⟩
theorem pe_lst (h : PA X es t) : PE X (.List es pos) (tLst t) := by
 intro pins s σ H Q I hq
 refine wpAny_List_spliced (thn (h pos pins s σ H _ I hq) fun us s1 ⟨xs, H1, I1, r, z, q⟩ => ⟨by rw [← r.length]; exact z, ?_⟩)
 have hf : H1 s1.heap.objs.size = none := I1.hok.fresh (Nat.le_refl _)
 refine ⟨.ref s1.heap.objs.size, upd H1 s1.heap.objs.size (.lst xs), I1.laid (t' := s1.toks) (fun b u e => Heap.get?_push_of_some _ e) (Nat.le_refl _) ?_, rfl, q _ hf⟩
 exact ⟨z, us, 0, r, Heap.get?_push_size _ rfl⟩
end
abbrev Sp := List V → Hp → VK → XK → Prop
abbrev CXT := List Env → Hp → Shared → XK → Value → Shared → Prop
structure Env0 (P : Program) (w : World) (K : PySem.W.Frag) (mg : Str → Option Value) (base : Heap) (A : Around) (outer : List Env) (s : Shared) (H : Hp) : Prop where
 frames : A.frames = some outer
 mod : Mod K mg base
 bs : ∀ b o, base.get? b = some o → s.heap.get? b = some o ∧ H b = none
 bsz : base.objs.size ≤ s.heap.objs.size
 funs : s.heap.FunFrames base outer
 frf : ∀ b ∈ frs outer, H b = none
 hok : HOk P w H s.heap
 bare : AllBare s.gens
def CE (outer : List Env) (P : Program) (w : World) (H : Hp) (s : Shared) (Q : VK) (u : Value) (s' : Shared) : Prop :=
 ∃ v H', s'.os = s.os ∧ AllBare s'.gens ∧ Un (frs outer) [] H H' s.heap s'.heap ∧ HOk P w H' s'.heap ∧ RelV v u ∧ Q v H'
def CR (CX : CXT) (outer : List Env) (P : Program) (w : World) (H : Hp) (s : Shared) (Q : VK) (E : XK) (r : Result) (s' : Shared) : Prop :=
 match r with
 | .ok (.ret u) => CE outer P w H s Q u s'
 | .ok _ => False
 | .error e => CX outer H s E e s'
structure FnOk (P : Program) (w : World) (K : PySem.W.Frag) (mg : Str → Option Value) (base : Heap) (CX : CXT) (k : Nat) (f : Addr) (fd : FuncData) (ps : List Str) (sp : Sp) : Prop where
 len : ∀ vs H Q E, sp vs H Q E → vs.length = ps.length
 run : ∀ (A : Around) (outer : List Env) (s : Shared) (H : Hp) (args : Args) (us : List Value) (vs : List V) (Q : VK) (E : XK), Room k A → Env0 P w K mg base A outer s H → BindsTo s fd args (ps.zip us) → Vals vs us → sp vs H Q E →
  codeAny (model P w) A (.call (.ref f) args) (CR CX outer P w H s Q E) s
theorem Env0.make {P : Program} {w : World} {K : PySem.W.Frag} {mg : Str → Option Value} {base : Heap} {A : Around} {outer : List Env} {s : Shared} {H : Hp} (e : Env0 P w K mg base A outer s H) (C : Addr) (us : List Value) (kw : List (Str × Value)) :
  Env0 P w K mg base (A.under (.builtin "type.__call__" ⟨.ref C :: us, kw⟩)) outer s H := ⟨by first | exact e.frames | (simpa [Around.under, Code.envs, Code.isFrame, pushEnvs] using e.frames), e.mod, e.bs, e.bsz, e.funs, e.frf, e.hok, e.bare⟩
section
variable {X : Cx} {pins : List (Addr × Obj)} {σ : St} {H : Hp} {s s' : Shared}
theorem Inv.env0 (I : Inv X pins σ H s) : Env0 X.prog X.w X.K X.mg X.base X.A X.stack s H :=
 ⟨I.ok.frames, I.ok.mod, I.bs, Nat.le_trans I.ok.bsz I.sz, I.stack, I.stkFree, I.hok, I.bare⟩
theorem Inv.after {Q : VK} {u : Value} (I : Inv X pins σ H s) (h : CE X.stack X.prog X.w H s Q u s') : EP X pins σ Q u s' := by
 obtain ⟨v, H', os, bare, un, hok, r, q⟩ := h
 obtain ⟨hh, g, d, t, os'⟩ := s'
 obtain rfl : os' = s.os := os
 exact ⟨v, H', I.call (h' := hh) (g' := g) (d' := d) (t' := t) (ch := []) un hok bare (fun b z => absurd z (by simp)), r, q⟩
end
def tCall (sp : Sp) (dvs : List V) (E : XK) (t : TA) : TE := fun σ H Q => t σ H fun vs H1 => sp (vs ++ dvs) H1 Q E
def tMake (C : Addr) (sp : Sp) (dvs : List V) (E : XK) (t : TA) : TE := fun σ H Q => t σ H fun vs H1 => ∀ x dx, H1 x = none → H1 dx = none → dx ≠ x →
 sp (.ref x :: (vs ++ dvs)) (upd (upd H1 dx (.own x)) x (.ins C dx [])) (fun v H2 => v = .non ∧ Q (.ref x) H2) E
def Binds (K : PySem.W.Frag) (fd : FuncData) (ps : List Str) (ds : List Value) : Prop :=
 ∀ (s : Shared) (us : List Value), K.In s.heap → (us ++ ds).length = ps.length → BindsTo s fd ⟨us, []⟩ (ps.zip (us ++ ds))
theorem Binds.all {K : PySem.W.Frag} {fd : FuncData} {ps : List Str} (h : ∀ us : List Value, us.length = ps.length → bindArgs fd ⟨us, []⟩ = pure (ps.zip us)) : Binds K fd ps [] := fun s us _ hl => by
 rw [List.append_nil] at hl ⊢
 exact .of_eq (h us hl)
def Passes (CX : CXT) (X : Cx) (E : XK) : Prop := ∀ (pins : List (Addr × Obj)) (σ : St) (H : Hp) (s : Shared) (e : Value) (s' : Shared), Inv X pins σ H s → CX X.stack H s E e s' → X.xe e s'
section
variable {X : Cx} {CX : CXT} {k : Nat} {f C : Addr} {fd : FuncData} {ps : List Str} {sp : Sp} {dvs : List V} {ds : List Value} {E : XK} {x m : Str} {p pos apos : Pos} {e o : Expr} {es : List Expr} {ta : TE} {t : TA}
theorem run_fn {pins : List (Addr × Obj)} {σ : St} {H : Hp} {s : Shared} {Q : VK} {us : List Value} {vs : List V} (F : FnOk X.prog X.w X.K X.mg X.base CX k f fd ps sp) (hr : Room k X.A) (hb : Binds X.K fd ps ds) (hd : Vals dvs ds) (hx : Passes CX X E)
  (I : Inv X pins σ H s) (r : Vals vs us) (h : sp (vs ++ dvs) H Q E) : wpAny (model X.prog X.w) X.A (call (.ref f) us) (EP X pins σ Q) X.xe s := by
 have r2 : Vals (vs ++ dvs) (us ++ ds) := r.append hd
 have hl : (us ++ ds).length = ps.length := by rw [← r2.length]; exact F.len _ _ _ _ h
 refine wpAny_call (codeAny_mono (F.run X.A X.stack s H ⟨us, []⟩ (us ++ ds) (vs ++ dvs) Q E hr I.env0 (hb s us I.kIn hl) r2 h) fun r s' hq => ?_)
 cases r with
 | error e => exact hx pins σ H s e s' I hq
 | ok fl =>
  cases fl with
  | ret u => exact I.after hq
  | next => exact False.elim hq
  | brk => exact False.elim hq
  | cont => exact False.elim hq
theorem pe_call (F : FnOk X.prog X.w X.K X.mg X.base CX k f fd ps sp) (hr : Room k X.A) (hg : Gl X x) (hm : X.mg x = some (.ref f)) (hk : PySem.W.keepIn X.K (.ref f) = true) (hb : Binds X.K fd ps ds) (hd : Vals dvs ds) (hx : Passes CX X E)
  (ha : PA X (e :: es) t) (hdb : (x == ("__debug__" : Str)) = false := by decide) (he : starEach (e :: es) X.env = (false, eval e X.env) :: starEach es X.env := by rfl) (hpl : (backTo pos (starEach es X.env)).any (·.1) = false := by rfl) :
  PE X (.Call (.Name x p) (e :: es) [] pos) (tCall sp dvs E t) := by
 intro pins s σ H Q I h
 refine wpAny_Call_Name_kw (ld_glob I hg hm ?_ hdb)
 refine PySem.W.callWith_K (h₀ := X.base) I.ok.mod.kin hk (thn (ha pos pins s σ H _ I h) fun us s1 ⟨vs, H1, I1, r, q⟩ => ⟨I1.kIn, ?_⟩) he hpl
 exact run_fn F hr hb hd hx I1 r q
structure Mk (K : PySem.W.Frag) (C f : Addr) : Prop where
 makes : PySem.W.makesIn K C = true
 init : PySem.W.findIn K (.ref C) "__init__" = some (some (.ref f))
 fn : PySem.W.isFn K (.ref f) = true
 kp : PySem.W.keepIn K (.ref C) = true
theorem run_make {pins : List (Addr × Obj)} {σ : St} {H : Hp} {s : Shared} {Q : VK} {us : List Value} {vs : List V} (M : Mk X.K C f) (F : FnOk X.prog X.w X.K X.mg X.base CX k f fd ps sp) (hr : Room (k + 1) X.A) (hb : Binds X.K fd ps ds) (hd : Vals dvs ds)
  (hx : Passes CX X E) (I : Inv X pins σ H s) (r : Vals vs us)
  (h : ∀ x dx, H x = none → H dx = none → dx ≠ x → sp (.ref x :: (vs ++ dvs)) (upd (upd H dx (.own x)) x (.ins C dx [])) (fun v H2 => v = .non ∧ Q (.ref x) H2) E) :
  wpAny (model X.prog X.w) X.A (call (.ref C) us) (EP X pins σ Q) X.xe s := by
 have hq := h (s.heap.objs.size + 1) s.heap.objs.size (I.hok.fresh (Nat.le_succ _)) (I.hok.fresh (Nat.le_refl _)) (Nat.ne_of_lt (Nat.lt_succ_self _))
 have I2 := Inv.made (C := C) I
 have r2 : Vals (V.ref (s.heap.objs.size + 1) :: (vs ++ dvs)) (Value.ref (s.heap.objs.size + 1) :: (us ++ ds)) := .cons rfl (r.append hd)
 have hl : (Value.ref (s.heap.objs.size + 1) :: us ++ ds).length = ps.length := by
  have e := r2.length
  rw [F.len _ _ _ _ hq] at e
  exact e.symm
 refine wpAny_call (make_map (f := f) I.kIn M.makes M.init (beq_iff_eq.mp M.fn) (codeAny_mono (F.run _ X.stack _ _ ⟨Value.ref (s.heap.objs.size + 1) :: us, []⟩ (Value.ref (s.heap.objs.size + 1) :: (us ++ ds)) _ _ E (hr.make C us [])
  (I2.env0.make C us []) (hb _ (Value.ref (s.heap.objs.size + 1) :: us) I2.kIn hl) r2 hq) fun r s' hq' => ?_))
 cases r with
 | error e => exact hx pins σ _ _ e s' I2 hq'
 | ok fl =>
  cases fl with
  | ret u =>
   obtain ⟨v, H', I3, rv, ev, q3⟩ := I2.after hq'
   subst ev
   exact ⟨rv, ⟨V.ref (s.heap.objs.size + 1), H', I3, rfl, q3⟩⟩
  | next => exact False.elim hq'
  | brk => exact False.elim hq'
  | cont => exact False.elim hq'
theorem pe_make (M : Mk X.K C f) (F : FnOk X.prog X.w X.K X.mg X.base CX k f fd ps sp) (hr : Room (k + 1) X.A) (hg : Gl X x) (hm : X.mg x = some (.ref C)) (hb : Binds X.K fd ps ds) (hd : Vals dvs ds) (hx : Passes CX X E)
  (ha : PA X (e :: es) t) (hdb : (x == ("__debug__" : Str)) = false := by decide) (he : starEach (e :: es) X.env = (false, eval e X.env) :: starEach es X.env := by rfl) (hpl : (backTo pos (starEach es X.env)).any (·.1) = false := by rfl) :
  PE X (.Call (.Name x p) (e :: es) [] pos) (tMake C sp dvs E t) := by
 intro pins s σ H Q I h
 refine wpAny_Call_Name_kw (ld_glob I hg hm ?_ hdb)
 refine PySem.W.callWith_K (h₀ := X.base) I.ok.mod.kin M.kp (thn (ha pos pins s σ H _ I h) fun us s1 ⟨vs, H1, I1, r, q⟩ => ⟨I1.kIn, ?_⟩) he hpl
 exact run_make M F hr hb hd hx I1 r q
theorem pe_make0 (M : Mk X.K C f) (F : FnOk X.prog X.w X.K X.mg X.base CX k f fd ps sp) (hr : Room (k + 1) X.A) (hg : Gl X x) (hm : X.mg x = some (.ref C)) (hb : Binds X.K fd ps ds) (hd : Vals dvs ds) (hx : Passes CX X E)
  (hdb : (x == ("__debug__" : Str)) = false := by decide) : PE X (.Call (.Name x p) [] [] pos) (tMake C sp dvs E tNil) := by
 intro pins s σ H Q I h
 refine wpAny_Call_Name_kw (ld_glob I hg hm ?_ hdb)
 exact PySem.W.callWith_K0 I.kIn M.kp (run_make (us := []) M F hr hb hd hx I .nil h)
end
section
variable {X : Cx} {CX : CXT} {k : Nat} {f C : Addr} {fd : FuncData} {ps ks : List Str} {sp : Sp} {E : XK} {x m : Str} {p pos apos kpos : Pos} {e o : Expr} {es : List Expr} {kws : List Keyword} {te ta : TE} {t tk : TA} {nm : Option Str}
variable {g : List Value → List Value → List Value} {gV : List V → List V → List V}
end
structure FnScope (N P : List Str) (sc : Scope) : Prop where
 kind : sc.kind = .function
 co : sc.isCoroutine = false
 gen : sc.isGenerator = false
 nd : N.Nodup
 pre : N.take P.length = P
 par : ∀ x ∈ P, sc.names.lookup x = some .local ∨ sc.names.lookup x = some .cell
 nofree : ∀ y ∈ sc.names, y.2 ≠ .free
theorem bindL_out {kindOf : Str → Option NameKind} {x : Str} : ∀ {binds : List (Str × Value)} {m : Str → Option Value}, (∀ v, (x, v) ∉ binds) → bindL kindOf binds m x = m x
 | [], _, _ => rfl
 | (n, v) :: r, m, h => by
  unfold bindL
  rw [bindL_out fun w hw => h w (List.mem_cons_of_mem _ hw)]
  split
  ·have : x ≠ n := by rintro rfl; exact h v List.mem_cons_self
   simp [this]
  ·rfl
theorem bindC_out {kindOf : Str → Option NameKind} {x : Str} : ∀ {binds : List (Str × Value)} {m : Str → Option Value}, (∀ v, (x, v) ∉ binds) → bindC kindOf binds m x = m x
 | [], _, _ => rfl
 | (n, v) :: r, m, h => by
  unfold bindC
  rw [bindC_out fun w hw => h w (List.mem_cons_of_mem _ hw)]
  split
  ·rfl
  ·have : x ≠ n := by rintro rfl; exact h v List.mem_cons_self
   simp [this]
theorem bindL_get {kindOf : Str → Option NameKind} {x : Str} {v : Value} : ∀ {P : List Str} {vs : List Value} {i : Nat} {m : Str → Option Value}, P.Nodup → P[i]? = some x → vs[i]? = some v → kindOf x = some .local →
  bindL kindOf (P.zip vs) m x = some v
 | [], _, _, _, _, h, _, _ => by simp at h
 | _ :: _, [], _, _, _, _, h, _ => by simp at h
 | p :: P, w :: vs, 0, m, nd, h1, h2, hk => by
  simp at h1 h2; subst h1; subst h2
  show bindL kindOf ((p, w) :: P.zip vs) m p = _
  unfold bindL
  rw [bindL_out fun v hv => (List.nodup_cons.mp nd).1 (List.of_mem_zip hv).1, if_pos hk]
  simp
 | p :: P, w :: vs, i + 1, m, nd, h1, h2, hk => by
  show bindL kindOf ((p, w) :: P.zip vs) m x = _
  unfold bindL
  exact bindL_get (i := i) (List.nodup_cons.mp nd).2 (by simpa using h1) (by simpa using h2) hk
theorem bindC_get {kindOf : Str → Option NameKind} {x : Str} {v : Value} : ∀ {P : List Str} {vs : List Value} {i : Nat} {m : Str → Option Value}, P.Nodup → P[i]? = some x → vs[i]? = some v → kindOf x ≠ some .local →
  bindC kindOf (P.zip vs) m x = some v
 | [], _, _, _, _, h, _, _ => by simp at h
 | _ :: _, [], _, _, _, _, h, _ => by simp at h
 | p :: P, w :: vs, 0, m, nd, h1, h2, hk => by
  simp at h1 h2; subst h1; subst h2
  show bindC kindOf ((p, w) :: P.zip vs) m p = _
  unfold bindC
  rw [bindC_out fun v hv => (List.nodup_cons.mp nd).1 (List.of_mem_zip hv).1, if_neg hk]
  simp
 | p :: P, w :: vs, i + 1, m, nd, h1, h2, hk => by
  show bindC kindOf ((p, w) :: P.zip vs) m x = _
  unfold bindC
  exact bindC_get (i := i) (List.nodup_cons.mp nd).2 (by simpa using h1) (by simpa using h2) hk
def start (N : List Str) (vs : List V) : St := vs.map some ++ List.replicate (N.length - vs.length) none
def cxOf (CX : CXT) (P : Program) (w : World) (K : PySem.W.Frag) (mg : Str → Option Value) (base : Heap) (N : List Str) (qual : Str) (scope : Scope) (f : Addr) (cd : Value) (A : Around) (outer : List Env) (s : Shared) (H : Hp) (E : XK) : Cx where
 prog := P
 w := w
 K := K
 mg := mg
 base := base
 A := A.deeper (envOfC qual scope s.heap.objs.size f cd)
 N := N
 s_0 := s
 H_0 := H
 env := envOfC qual scope s.heap.objs.size f cd
 outer := outer
 stack := envOfC qual scope s.heap.objs.size f cd :: outer
 ex := []
 calm := true
 fn := fun _ => true
 pn := []
 xe := fun e s' => wpAny (model P w) (A.deeper (envOfC qual scope s.heap.objs.size f cd)) (leaving (envOfC qual scope s.heap.objs.size f cd) e) (fun _ s'' => CX outer H s E e s'') (fun e' s'' => CX outer H s E e' s'') s'
theorem cell_has {sc : Scope} {n : Nat} {x : Str} (h : sc.names.lookup x = some .cell) : ∃ c, (cellsFrom n sc.names []).lookup x = some c := by
 have q := PySem.W.cellsFrom_some sc.names n [] (.inl h)
 exact Option.isSome_iff_exists.mp q
theorem inv_start {CX : CXT} {P : Program} {w : World} {K : PySem.W.Frag} {mg : Str → Option Value} {base : Heap} {N ps : List Str} {qual : Str} {scope : Scope} {f : Addr} {cd : Value} {A : Around} {outer : List Env} {s s1 : Shared} {H : Hp} {E : XK} {us : List Value} {vs : List V}
  (S : FnScope N ps scope) (hd : A.handled = none) (e0 : Env0 P w K mg base A outer s H) (hl : vs.length = ps.length) (r : Vals vs us)
  (x : InCallC s s.heap.objs.size (bindL (envOfC qual scope s.heap.objs.size f cd).kindOf (ps.zip us) fun _ => none) (cellsFrom (s.heap.objs.size + 1) scope.names []) (bindC (envOfC qual scope s.heap.objs.size f cd).kindOf (ps.zip us) fun _ => none) s1) :
  Inv (cxOf CX P w K mg base N qual scope f cd A outer s H E) [] (start N vs) H s1 := by
 have hpl : ps.length ≤ N.length := by have := congrArg List.length S.pre; rw [List.length_take] at this; omega
 obtain ⟨h1, tk, rfl, hk⟩ := x.done
 have noA : ∀ b : Addr, b ∉ (cxOf CX P w K mg base N qual scope f cd A outer s H E).ex := fun b z => absurd (show b ∈ ([] : List Addr) from z) (by simp)
 refine ⟨⟨e0.mod, S.kind, rfl, rfl, Nat.le_refl _, fun y z c h1 h2 => ?_, fun y hy => ?_, fun y c _ h => ?_, fun _ => hd, Around.frames_deeper e0.frames, .inr ⟨rfl, rfl⟩, fun b z => absurd z (noA b), e0.bs, e0.bsz, fun b _ _ => noA b, fun b z => absurd z (noA b), e0.funs, e0.frf⟩,
  rfl, e0.bare, Un.kept hk, ⟨_, x.toInCall.ns, fun i y v h1 h2 h3 => ?_⟩, fun y c h => ⟨_, x.cell y c h⟩, e0.hok.fresh (Nat.le_refl _), fun y c h => ?_, fun p hp => absurd (show p ∈ ([] : List (Addr × Obj)) from hp) (by simp), e0.hok.kept hk, ?_⟩
 ·exact name_of_addr x.apart (PySem.mem_of_lookup h1) (PySem.mem_of_lookup h2)
 ·have hy : scope.names.lookup y = some .cell ∨ scope.names.lookup y = some .free := hy
  rcases hy with hy | hy
  ·exact cell_has hy
  ·exact absurd rfl (S.nofree _ (PySem.mem_of_lookup hy))
 ·exact Nat.le_of_lt (x.above y c (PySem.mem_of_lookup h))
 ·have hi : i < vs.length := by
   unfold start at h2
   by_cases hi : i < vs.length
   ·exact hi
   ·rw [List.getElem?_append_right (by simpa using hi)] at h2
    rw [List.getElem?_replicate] at h2
    split at h2 <;> cases h2
  have ha : vs[i]? = some v := by
   unfold start at h2
   rw [List.getElem?_append_left (by simpa using hi), List.getElem?_map] at h2
   cases e : vs[i]? with
   | none => rw [e] at h2; cases h2
   | some a => rw [e] at h2; cases h2; rfl
  obtain ⟨u, hu, rv⟩ := r.get ha
  have hp : ps[i]? = some y := by
   rw [← S.pre, List.getElem?_take_of_lt (by omega)]; exact h1
  have ndP : ps.Nodup := by rw [← S.pre]; exact S.nd.sublist (List.take_sublist _ _)
  refine ⟨u, rv, ?_⟩
  rcases S.par y (List.mem_of_getElem? hp) with k | k
  ·exact .inl ⟨k, bindL_get ndP hp hu k⟩
  ·obtain ⟨c, e⟩ := cell_has (n := s.heap.objs.size + 1) k
   refine .inr ⟨.inl k, c, e, ?_⟩
   have q := x.cell y c e
   rw [bindC_get ndP hp hu (by show scope.names.lookup y ≠ _; rw [k]; decide)] at q
   exact q
 ·exact e0.hok.fresh (Nat.le_of_lt (x.above y c (PySem.mem_of_lookup h)))
 ·unfold start
  show _ = N.length
  rw [List.length_append, List.length_map, List.length_replicate]
  omega
theorem fn_of {CX : CXT} {P : Program} {w : World} {K : PySem.W.Frag} {mg : Str → Option Value} {base : Heap} {k : Nat} {f : Addr} {name qual : Str} {params : Arguments} {body : List Stmt} {scope : Scope} {dV kV doc pm cdv ct oc : Value} {an od : Option Addr}
  {osl : Array (Option Value)} {N ps : List Str} {sp : Sp} (lk : K.lookup f = some ⟨oc, od, .func (PySem.W.fnOf name qual params body scope dV kV doc pm an cdv ct), osl⟩) (hcd : PySem.W.codeIn K cdv qual = true) (S : FnScope N ps scope)
  (len : ∀ vs H Q E, sp vs H Q E → vs.length = ps.length)
  (hbody : ∀ (A : Around) (outer : List Env) (s : Shared) (H : Hp) (vs : List V) (Q : VK) (E : XK), Room k (A.deeper (envOfC qual scope s.heap.objs.size f cdv)) → sp vs H Q E →
   ∃ t, PSs (cxOf CX P w K mg base N qual scope f cdv A outer s H E) body t ∧ t { nx := fun _ H' => Q .non H', rt := Q } (start N vs) H) :
  FnOk P w K mg base CX (k + 1) f (PySem.W.fnOf name qual params body scope dV kV doc pm an cdv ct) ps sp := by
 refine ⟨len, fun A outer s H args us vs Q E hr e0 hb r hsp => ?_⟩
 have hl := len _ _ _ _ hsp
 have KX : K.In s.heap := e0.mod.kin.keeps fun b o e => (e0.bs b o e).1
 have lim : s.heap.NoLimit := e0.mod.nolimit.keeps fun b o e => (e0.bs b o e).1
 have hkind : ∀ y ∈ ps.zip us, scope.names.lookup y.1 = some .local ∨ (scope.names.lookup y.1 = some .cell ∧ ((cellsFrom (s.heap.objs.size + 1) scope.names []).lookup y.1).isSome = true) := fun ⟨n, v⟩ hy => by
  rcases S.par n (List.of_mem_zip hy).1 with q | q
  ·exact .inl q
  ·exact .inr ⟨q, PySem.W.cellsFrom_some _ _ _ (.inl q)⟩
 refine codeAny_call_function hr.depth (KX _ _ lk) rfl S.co S.gen rfl (PySem.W.codeRec_of KX hcd) (hb _ _ _ _ ?_)
 refine wpAny_newFunctionEnv_cells S.kind hkind fun env he s1 x => ?_
 subst he
 refine ⟨lim.keeps x.toInCall.keep, codeAny_func ?_⟩
 obtain ⟨t, ht, hq⟩ := hbody A outer s H vs Q E (hr.deeper _) hsp
 have I : Inv (cxOf CX P w K mg base N qual scope f cdv A outer s H E) [] (start N vs) H s1 := inv_start S hr.hd e0 hl r x
 refine wpAny_mono (ht [] s1 (start N vs) H _ I hq) (fun fl s' hs => ?_) fun e s' hs => hs
 have fin : ∀ {σ' : St} {H' : Hp} {v : V} {u : Value}, Inv (cxOf CX P w K mg base N qual scope f cdv A outer s H E) [] σ' H' s' → RelV v u → Q v H' → CE outer P w H s Q u s' :=
  fun {σ' H' v u} J rv q => ⟨v, H', J.os, J.bare, J.base, J.hok, rv, q⟩
 cases fl with
 | ret u =>
  obtain ⟨v, σ', H', J, rv, q⟩ := hs
  exact fin J rv q
 | next =>
  obtain ⟨σ', H', J, q⟩ := hs
  exact fin (v := V.non) (u := Value.none) J rfl q
 | brk =>
  obtain ⟨_, _, _, q⟩ := hs
  exact False.elim q
 | cont =>
  obtain ⟨_, _, _, q⟩ := hs
  exact False.elim q
end L2
namespace L2
open PySem PySem.Spec PyProof.Rows
section
variable {X : Cx} {x : Str} {p pos : Pos} {e : Expr} {es : List Expr} {t : TA} {id T : String} {r : List V → Hp → VK → Prop}
def tCB (r : List V → Hp → VK → Prop) (t : TA) : TE := fun σ H Q => t σ H fun vs H1 => r vs H1 Q
theorem pe_callB (hc : CallR X (.builtin id) r) (hg : Gl X x) (hm : X.mg x = none) (hv : bootBuiltins x = some (.builtin id)) (ha : PA X (e :: es) t) (hn : x ≠ "__name__" := by decide) (hdb : (x == ("__debug__" : Str)) = false := by decide)
  (he : starEach (e :: es) X.env = (false, eval e X.env) :: starEach es X.env := by rfl) (hpl : (backTo pos (starEach es X.env)).any (·.1) = false := by rfl) : PE X (.Call (.Name x p) (e :: es) [] pos) (tCB r t) := by
 intro pins s σ H Q I h
 refine wpAny_Call_Name_kw (ld_blt I hg hm hv ?_ hn hdb)
 exact PyProof.Rows.callWith_builtin1 (thn (ha pos pins s σ H _ I h) fun us s1 ⟨vs, H1, I1, r1, q1⟩ => hc pins s1 σ H1 vs us Q I1 r1 q1) he hpl
theorem pe_callTy (hc : CallR X (.type T) r) (hg : Gl X x) (hm : X.mg x = none) (hv : bootBuiltins x = some (.type T)) (ha : PA X (e :: es) t) (hn : x ≠ "__name__" := by decide) (hdb : (x == ("__debug__" : Str)) = false := by decide)
  (he : starEach (e :: es) X.env = (false, eval e X.env) :: starEach es X.env := by rfl) (hpl : (backTo pos (starEach es X.env)).any (·.1) = false := by rfl) : PE X (.Call (.Name x p) (e :: es) [] pos) (tCB r t) := by
 intro pins s σ H Q I h
 refine wpAny_Call_Name_kw (ld_blt I hg hm hv ?_ hn hdb)
 exact PyProof.Rows.callWith_type1 (thn (ha pos pins s σ H _ I h) fun us s1 ⟨vs, H1, I1, r1, q1⟩ => hc pins s1 σ H1 vs us Q I1 r1 q1) he hpl
end
end L2
namespace HT
open PySem PyProof.Rows
section
open PySem.SeqAt
open PySem.AutoSeq1 (wpAny_loadPart')
open PySem.MeetsSeq PySem.MeetsSeq2 PySem.MeetsSeq3
end
section
variable {prog : Program} {w : World} {A : Around} {E : Value → Shared → Prop} {s : Shared}
def sIx (n d : Nat) : Option Int → Nat
 | none => d
 | some v => if v < 0 then (v + (n : Int)).toNat else min v.toNat n
theorem sIx_nat (n d k : Nat) : sIx n d (some (k : Int)) = min k n := by
 show (if (k : Int) < 0 then ((k : Int) + (n : Int)).toNat else min (k : Int).toNat n) = min k n
 rw [if_neg (by omega), Int.toNat_natCast]
end
end HT
namespace L2
open PySem PySem.Spec PyProof.Rows
abbrev TO := St → Hp → (Option Int → Hp → Prop) → Prop
def PO (X : Cx) (e : Option Expr) (t : TO) : Prop :=
 ∀ (pins : List (Addr × Obj)) (s : Shared) (σ : St) (H : Hp) (Q : Option Int → Hp → Prop), Inv X pins σ H s → t σ H Q →
  wpAny (model X.prog X.w) X.A (evalPart e X.env) (fun u s' => ∃ o H', Inv X pins σ H' s' ∧ IsPart u o ∧ Q o H') X.xe s
def tPart (t : TE) : TO := fun σ H Q => t σ H fun x H1 => ∃ i, x = .int i ∧ Q (some i) H1
section
variable {X : Cx} {e : Expr} {te : TE} {lo hi : Option Expr} {tl th : TO} {pos p2 : Pos}
theorem po_some (h : PE X e te) : PO X (some e) (tPart te) := by
 intro pins s σ H Q I hw
 rw [evalPart_some]
 refine thn (h pins s σ H _ I hw) fun u s1 ⟨x, H1, I1, r1, q1⟩ => ?_
 obtain ⟨i, rfl, q⟩ := q1
 obtain ⟨t, rfl⟩ := r1
 exact ⟨some i, H1, I1, .int i t, q⟩
def SlR (X : Cx) (r : V → Option Int → Option Int → Hp → VK → Prop) : Prop :=
 ∀ (pins : List (Addr × Obj)) (s : Shared) (σ : St) (H : Hp) (x : V) (v vl vu : Value) (lo hi : Option Int) (sl : Addr) (Q : VK), Inv X pins σ H s → RelV x v → s.heap.IsSliceOf sl vl vu .none → IsPart vl lo → IsPart vu hi → r x lo hi H Q →
  ∃ T id, typeLookup (.type T) "__getitem__" = pure (some (.builtin id)) ∧ s.TypeIs v T ∧ wpAny (model X.prog X.w) X.A (getItem v (.ref sl)) (EP X pins σ Q) X.xe s
def tSl (r : V → Option Int → Option Int → Hp → VK → Prop) (te : TE) (tl th : TO) : TE := fun σ H Q => te σ H fun x H1 => tl σ H1 fun l H2 => th σ H2 fun u H3 => r x l u H3 Q
theorem pe_slice {r : V → Option Int → Option Int → Hp → VK → Prop} (hr : SlR X r) (he : PE X e te) (hl : PO X lo tl) (hu : PO X hi th) : PE X (.Subscript e (.Slice lo hi none p2) pos) (tSl r te tl th) := by
 intro pins s σ H Q I h
 refine Subscript_ (thn (he pins s σ H _ I h) fun v s1 ⟨x, H1, I1, r1, q1⟩ => ?_)
 refine wpAny_Slice (thn (hl pins s1 σ H1 _ I1 q1) fun vl s2 ⟨l, H2, I2, pl, q2⟩ => thn (hu pins s2 σ H2 _ I2 q2) fun vu s3 ⟨u, H3, I3, pu, q3⟩ => ?_)
 rw [evalPart_none]
 refine wpAny_pure ?_
 have I4 : Inv X pins σ H3 { s3 with heap := s3.heap.push { cls := .type "slice", data := .fields #[vl, vu, .none] } } := I3.kept (t' := s3.toks) fun b ob q => Heap.get?_push_of_some _ q
 obtain ⟨T, id, hT, ht, hg⟩ := hr pins { s3 with heap := s3.heap.push { cls := .type "slice", data := .fields #[vl, vu, .none] } } σ H3 x v vl vu l u s3.heap.objs.size Q I4 r1 (Heap.IsSliceOf.new ..) pl pu q3
 show wpAny (model X.prog X.w) X.A (subscriptTail e (.Slice lo hi none p2) v (.ref s3.heap.objs.size)) (EP X pins σ Q) X.xe { s3 with heap := s3.heap.push { cls := .type "slice", data := .fields #[vl, vu, .none] } }
 exact tail_any (ops := [.ref s3.heap.objs.size, v]) ht hT hg (by with_unfolding_all rfl)
def cutV (xs : List V) (lo hi : Option Int) : List V := (xs.drop (HT.sIx xs.length 0 lo)).take (HT.sIx xs.length xs.length hi - HT.sIx xs.length 0 lo)
theorem cutV_length (xs : List V) (lo hi : Option Int) : (cutV xs lo hi).length ≤ xs.length := by
 unfold cutV
 rw [List.length_take, List.length_drop]
 omega
end
end L2
namespace L2
open PySem PySem.Spec PyProof.Rows
def ixN (n : Nat) (i : Int) : Option Nat := if 0 ≤ i then (if i < n then some i.toNat else none) else if -(n : Int) ≤ i then some (i + n).toNat else none
def atI {α : Type} (xs : List α) (i : Int) : Option α := (ixN xs.length i).bind fun j => xs[j]?
theorem ixN_seq {n : Nat} {i : Int} {j : Nat} (h : ixN n i = some j) : seqIndex? i n = some j ∧ j < n ∧ -(n : Int) ≤ i ∧ i < n := by
 unfold ixN at h
 by_cases h0 : 0 ≤ i
 ·rw [if_pos h0] at h
  by_cases h1 : i < n
  ·rw [if_pos h1] at h
   have e : i.toNat = j := Option.some.inj h
   exact ⟨by rw [seqIndex_of h0 h1, e], by omega, by omega, h1⟩
  ·rw [if_neg h1] at h; cases h
 ·rw [if_neg h0] at h
  by_cases h1 : -(n : Int) ≤ i
  ·rw [if_pos h1] at h
   have e : (i + n).toNat = j := Option.some.inj h
   exact ⟨by rw [seqIndex_neg (by omega) h1, e], by omega, h1, by omega⟩
  ·rw [if_neg h1] at h; cases h
theorem atI_get {α : Type} {xs : List α} {i : Int} {v : α} (h : atI xs i = some v) : ∃ j, seqIndex? i xs.length = some j ∧ xs[j]? = some v ∧ j < xs.length ∧ -(xs.length : Int) ≤ i ∧ i < xs.length := by
 unfold atI at h
 cases e : ixN xs.length i with
 | none => rw [e] at h; cases h
 | some j =>
  rw [e] at h
  obtain ⟨h1, h2, h3, h4⟩ := ixN_seq e
  exact ⟨j, h1, h, h2, h3, h4⟩
theorem atI_nat {α : Type} {xs : List α} {j : Nat} {v : α} (h : xs[j]? = some v) : atI xs (j : Int) = some v := by
 have hj : j < xs.length := (List.getElem?_eq_some_iff.mp h).1
 have e : ixN xs.length (j : Int) = some j := by
  unfold ixN
  rw [if_pos (by omega), if_pos (by omega)]; simp
 unfold atI; rw [e]; exact h
def PlainIx (b : Expr) : Prop := ∀ o i, subscripted b false o i = operate [o, i] (getItem o i)
def IxR (X : Cx) (r : R2) : Prop :=
 ∀ (value slice : Expr) (pins : List (Addr × Obj)) (s : Shared) (σ : St) (H : Hp) (x y : V) (v u : Value) (Q : VK), Inv X pins σ H s → RelV x v → RelV y u → r x y H Q →
  subscripted slice false v u = operate [v, u] (getItem v u) → wpAny (model X.prog X.w) X.A (subscriptTail value slice v u) (EP X pins σ Q) X.xe s
def MtR (X : Cx) (id : String) (r : V → List V → Hp → VK → Prop) : Prop :=
 ∀ (pins : List (Addr × Obj)) (s : Shared) (σ : St) (H : Hp) (x : V) (xs : List V) (v : Value) (us : List Value) (Q : VK), Inv X pins σ H s → RelV x v → Vals xs us → r x xs H Q →
  wpAny (model X.prog X.w) X.A (call (.builtin id) (v :: us)) (EP X pins σ Q) X.xe s
section
variable {X : Cx} {a b : Expr} {ta tb : TE} {pos : Pos}
theorem pe_ix {r : R2} (hr : IxR X r) (ha : PE X a ta) (hb : PE X b tb) (hs : PlainIx b) : PE X (.Subscript a b pos) (tOp r ta tb) := by
 intro pins s σ H Q I h
 exact Subscript_ (binT ha hb I h fun v u s2 x y H2 I2 rx ry q => hr a b pins s2 σ H2 x y v u Q I2 rx ry q (hs _ _))
def rIxL (K : PySem.W.Frag) : R2 := fun x y H Q => ∃ p xs i v, x = .ref p ∧ y = .int i ∧ SqL K H p xs ∧ atI xs i = some v ∧ Q v H
def rIxT (K : PySem.W.Frag) : R2 := fun x y H Q => ∃ p xs i v, x = .ref p ∧ y = .int i ∧ SqT K H p xs ∧ atI xs i = some v ∧ Q v H
theorem ix_list : IxR X (rIxL X.K) := by
 intro value slice pins s σ H x y v u Q I rx ry h hs
 obtain ⟨p, xs, i, z, rfl, rfl, hq, he, q⟩ := h
 cases rx
 obtain ⟨t, rfl⟩ := ry
 obtain ⟨its, r, pl, hz⟩ := I.list hq
 obtain ⟨j, h1, h2, h3, h4, h5⟩ := atI_get he
 obtain ⟨w, ew, rw'⟩ := r.get h2
 have hl := r.length
 have hn := line63
 have fin : EP X pins σ Q w s := ⟨z, H, I, rw', q⟩
 by_cases h0 : 0 ≤ i
 ·have hj : i.toNat = j := by
   rw [seqIndex_of h0 h5] at h1
   exact Option.some.inj h1
  exact item_listR pl.isList h0 (by omega) (by rw [hj]; simpa using ew) fin hs
 ·have hj : (i + (its.toArray.size : Int)).toNat = j := by
   rw [seqIndex_neg (by omega) h4] at h1
   rw [List.size_toArray, ← hl]
   exact Option.some.inj h1
  exact subscriptTail_builtinR (x := w) pl.isList.typeIs slot_list_getitem.lookup
   (wpAny_getItem_list_neg (Q := fun r s' => r = w ∧ EP X pins σ Q r s') pl.isList (by omega) (by rw [List.size_toArray] <;> omega) (by omega) (by rw [hj]; simpa using ew) ⟨rfl, fin⟩) hs
theorem ix_tup : IxR X (rIxT X.K) := by
 intro value slice pins s σ H x y v u Q I rx ry h hs
 obtain ⟨p, xs, i, z, rfl, rfl, hq, he, q⟩ := h
 cases rx
 obtain ⟨t, rfl⟩ := ry
 obtain ⟨its, r, pl, hz⟩ := I.tuple hq
 obtain ⟨j, h1, h2, h3, h4, h5⟩ := atI_get he
 obtain ⟨w, ew, rw'⟩ := r.get h2
 have hl := r.length
 have hn := line63
 have fin : EP X pins σ Q w s := ⟨z, H, I, rw', q⟩
 exact subscriptTail_builtinR (x := w) pl.typeIs slot_tuple_getitem.lookup
  (getItem_tuple (j := j) (Q := fun r s' => r = w ∧ EP X pins σ Q r s') pl (by omega) (by omega) (by rw [List.size_toArray, ← hl]; exact h1) (by simpa using ew) ⟨rfl, fin⟩) hs
theorem mapSeq_set (its : List Value) (n j : Nat) (u : Value) : Obj.mapSeq (·.setIfInBounds j u) { cls := .type "list", data := .seq its.toArray n } = { cls := .type "list", data := .seq (its.set j u).toArray n } := by
 simp [Obj.mapSeq]
theorem Inv.lst {pins : List (Addr × Obj)} {σ : St} {H : Hp} {s : Shared} {p : Addr} {xs : List V} (I : Inv X pins σ H s) (h : H p = some (.lst xs)) :
  ∃ (its : List Value) (n : Nat), Vals xs its ∧ s.heap.get? p = some { cls := .type "list", data := .seq its.toArray n } ∧ xs.length ≤ sizeLine := by
 obtain ⟨z, its, n, r, e⟩ := I.hok p _ h
 exact ⟨its, n, r, e, z⟩
theorem Inv.lstUpd {pins : List (Addr × Obj)} {σ : St} {H : Hp} {s : Shared} {p : Addr} {xs ys : List V} {its its' : List Value} {n n' : Nat} {f : Obj → Obj} (I : Inv X pins σ H s) (h : H p = some (.lst xs))
  (ho : s.heap.get? p = some { cls := .type "list", data := .seq its.toArray n }) (hf : f { cls := .type "list", data := .seq its.toArray n } = { cls := .type "list", data := .seq its'.toArray n' }) (r : Vals ys its') (hz : ys.length ≤ sizeLine) (t : Nat) :
  Inv X pins σ (upd H p (.lst ys)) { s with heap := s.heap.update p f, toks := t } := by
 have e : (s.heap.update p f).get? p = some { cls := .type "list", data := .seq its'.toArray n' } := by
  rw [Heap.get?_update_self f ho (by rw [hf] <;> rfl), hf]
 refine I.write (x := p) (e := p) (by rw [h]; trivial) (.inl rfl) (fun b u hb q => (Heap.get?_update_other _ _ (Ne.symm hb)).trans q) ⟨_, e⟩ ?_
 exact ⟨hz, its', n', r, e⟩
def rSetL : V → V → V → Hp → (Hp → Prop) → Prop := fun o i v H Q => ∃ p xs k j, o = .ref p ∧ i = .int k ∧ H p = some (.lst xs) ∧ ixN xs.length k = some j ∧ Q (upd H p (.lst (xs.set j v)))
theorem set_list : PSet X rSetL := by
 intro pins s σ H o i v ov iv u Q I ro ri rv h
 obtain ⟨p, xs, k, j, rfl, rfl, hp, hj, q⟩ := h
 cases ro
 obtain ⟨t, rfl⟩ := ri
 obtain ⟨its, n, r, ho, hz⟩ := I.lst hp
 obtain ⟨h1, h2, h3, h4⟩ := ixN_seq hj
 have hl := r.length
 have hn := line63
 have I' : Inv X pins σ (upd H p (.lst (xs.set j v))) { s with heap := s.heap.update p (Obj.mapSeq (·.setIfInBounds j u)) } :=
  I.lstUpd hp ho (mapSeq_set its n j u) (r.set rv j) (by rw [List.length_set]; exact hz) s.toks
 by_cases h0 : 0 ≤ k
 ·have hk : k.toNat = j := by
   rw [seqIndex_of h0 h4] at h1
   exact Option.some.inj h1
  exact PySem.W.ki_setAt ho h0 (by omega) (by rw [List.size_toArray, ← hl]; exact h4) (by rw [hk]; exact ⟨_, I', q⟩)
 ·have hk : (k + (its.toArray.size : Int)).toNat = j := by
   rw [seqIndex_neg (by omega) h3] at h1
   rw [List.size_toArray, ← hl]
   exact Option.some.inj h1
  exact PySem.W.ki_setBack ho (by omega) (by rw [List.size_toArray, ← hl]; exact h3) (by omega) (by rw [hk]; exact ⟨_, I', q⟩)
theorem slice_bounds (lo hi : Option Int) (n : Nat) : (sliceBounds lo hi none n).1 = ((HT.sIx n 0 lo : Nat) : Int) ∧ (sliceBounds lo hi none n).2.1 = ((HT.sIx n n hi : Nat) : Int) ∧ (sliceBounds lo hi none n).2.2 = 1 := by
 refine ⟨?_, ?_, rfl⟩
 ·cases lo with
  | none => simp [sliceBounds, HT.sIx]
  | some i =>
   simp only [sliceBounds, HT.sIx, Option.getD_none, show (1 : Int) > 0 by decide, if_true]
   by_cases h : i < 0
   ·simp only [h, if_true] <;> omega
   ·simp only [h, if_false] <;> omega
 ·cases hi with
  | none => simp [sliceBounds, HT.sIx]
  | some i =>
   simp only [sliceBounds, HT.sIx, Option.getD_none, show (1 : Int) > 0 by decide, if_true]
   by_cases h : i < 0
   ·simp only [h, if_true] <;> omega
   ·simp only [h, if_false] <;> omega
theorem slicePick_cut (its : List Value) (lo hi : Option Int) : slicePick its.toArray lo hi none = ((its.drop (HT.sIx its.length 0 lo)).take (HT.sIx its.length its.length hi - HT.sIx its.length 0 lo)).toArray := by
 obtain ⟨h1, h2, h3⟩ := slice_bounds lo hi its.toArray.size
 unfold slicePick
 rw [h1, h2, h3]
 simp only [sliceRange_one, pick_run, List.size_toArray] <;> rfl
def rSlL (K : PySem.W.Frag) : V → Option Int → Option Int → Hp → VK → Prop := fun x lo hi H Q => ∃ a xs, x = .ref a ∧ SqL K H a xs ∧ ∀ p, H p = none → Q (.ref p) (upd H p (.lst (cutV xs lo hi)))
theorem sl_list : SlR X (rSlL X.K) := by
 intro pins s σ H x v vl vu lo hi sl Q I rx hs pl pu h
 obtain ⟨a, xs, rfl, hx, q⟩ := h
 cases rx
 obtain ⟨its, r, ht, hz⟩ := I.list hx
 have hlen := r.length
 refine ⟨"list", _, slot_list_getitem.lookup, ht.isList.typeIs, ?_⟩
 refine wpAny_getItem_list_slice ht.isList hs pl pu .none (by simp) ?_ (by rw [List.size_toArray] <;> omega)
 rw [slicePick_cut, ← hlen]
 refine ⟨.ref s.heap.objs.size, _, I.laid (t' := s.toks) (o := .lst (cutV xs lo hi)) (fun b ob q => Heap.get?_push_of_some _ q) (Nat.le_refl _) ?_, rfl, q _ (I.hok.fresh (Nat.le_refl _))⟩
 exact ⟨Nat.le_trans (cutV_length xs lo hi) hz, _, 0, (r.drop (HT.sIx xs.length 0 lo)).take (HT.sIx xs.length xs.length hi - HT.sIx xs.length 0 lo), Heap.get?_push_size _ rfl⟩
def flatV : V → Bool
 | .non => true
 | .bl _ => true
 | .int _ => true
 | .str _ => true
 | _ => false
def eqV : V → V → Bool
 | .non, .non => true
 | .bl a, .bl b => a == b
 | .bl a, .int b => (if a then 1 else 0) == b
 | .int a, .bl b => a == (if b then 1 else 0)
 | .int a, .int b => a == b
 | .str a, .str b => a == b
 | _, _ => false
theorem eqAt_V {A : Around} {s : Shared} {y x : V} {u v : Value} (ry : RelV y u) (rx : RelV x v) (fy : flatV y = true) (fx : flatV x = true) : SeqAt.EqAt A s u v (eqV y x) := by
 cases y with
 | non =>
  cases ry
  cases x with
  | non => cases rx; exact SeqAt.EqAt.same _
  | bl b => cases rx; exact SeqAt.EqAt.none_bool b
  | int b => obtain ⟨t, rfl⟩ := rx; exact SeqAt.EqAt.none_int b t
  | str b => obtain ⟨t, rfl⟩ := rx; exact SeqAt.EqAt.none_str b t
  | _ => exact absurd (show false = true from fx) Bool.false_ne_true
 | bl a =>
  cases ry
  cases x with
  | non => cases rx; exact SeqAt.EqAt.bool_none a
  | bl b => cases rx; exact SeqAt.EqAt.bool_bool a b
  | int b => obtain ⟨t, rfl⟩ := rx; exact SeqAt.EqAt.bool_int a b t
  | str b => obtain ⟨t, rfl⟩ := rx; exact SeqAt.EqAt.bool_str a b t
  | _ => exact absurd (show false = true from fx) Bool.false_ne_true
 | int a =>
  obtain ⟨t', rfl⟩ := ry
  cases x with
  | non => cases rx; exact SeqAt.EqAt.int_none a t'
  | bl b => cases rx; exact SeqAt.EqAt.int_bool a t' b
  | int b => obtain ⟨t, rfl⟩ := rx; exact SeqAt.EqAt.int_int a t' b t
  | str b => obtain ⟨t, rfl⟩ := rx; exact SeqAt.EqAt.int_str a t' b t
  | _ => exact absurd (show false = true from fx) Bool.false_ne_true
 | str a =>
  obtain ⟨t', rfl⟩ := ry
  cases x with
  | non => cases rx; exact SeqAt.EqAt.str_none a t'
  | bl b => cases rx; exact SeqAt.EqAt.str_bool a t' b
  | int b => obtain ⟨t, rfl⟩ := rx; exact SeqAt.EqAt.str_int a t' b t
  | str b => obtain ⟨t, rfl⟩ := rx; exact SeqAt.EqAt.str_str a t' b t
  | _ => exact absurd (show false = true from fx) Bool.false_ne_true
 | _ => exact absurd (show false = true from fy) Bool.false_ne_true
def eqU (x : V) (u : Value) : Bool := match u with
 | .none => eqV .non x
 | .bool b => eqV (.bl b) x
 | .int i _ => eqV (.int i) x
 | .str z _ => eqV (.str z) x
 | _ => false
theorem eqU_of {x y : V} {u : Value} (r : RelV y u) (f : flatV y = true) : eqU x u = eqV y x := by
 cases y with
 | non => cases r; rfl
 | bl b => cases r; rfl
 | int i => obtain ⟨t, rfl⟩ := r; rfl
 | str z => obtain ⟨t, rfl⟩ := r; rfl
 | _ => exact absurd (show false = true from f) Bool.false_ne_true
theorem any_eqU {x : V} : ∀ {xs : List V} {us : List Value}, Vals xs us → xs.all flatV = true → us.any (eqU x) = xs.any fun y => eqV y x
 | _, _, .nil, _ => rfl
 | y :: xs, u :: us, .cons r t, f => by
  rw [List.all_cons, Bool.and_eq_true] at f
  rw [List.any_cons, List.any_cons, eqU_of r f.1, any_eqU t f.2]
theorem mem_eqAt {A : Around} {s : Shared} {x : V} {v : Value} (rx : RelV x v) (fx : flatV x = true) : ∀ {xs : List V} {us : List Value}, Vals xs us → xs.all flatV = true → ∀ u ∈ us, SeqAt.EqAt A s u v (eqU x u)
 | _, _, .nil, _ => fun u hu => by cases hu
 | y :: xs, u :: us, .cons r t, f => fun u' hu => by
  rw [List.all_cons, Bool.and_eq_true] at f
  rcases List.mem_cons.mp hu with rfl | hu
  ·rw [eqU_of r f.1]; exact eqAt_V r rx f.1 fx
  ·exact mem_eqAt rx fx t f.2 u' hu
def inV (x : V) (xs : List V) : Bool := xs.any fun y => eqV y x
def rIn (K : PySem.W.Frag) (neg : Bool) : R2 := fun x y H Q => ∃ p xs, y = .ref p ∧ (SqL K H p xs ∨ SqT K H p xs) ∧ flatV x = true ∧ xs.all flatV = true ∧ Q (.bl (if neg then !inV x xs else inV x xs)) H
theorem op_in_seq : OpR X (compareOp .In) (rIn X.K false) := by
 intro pins s σ H x y v u Q I rx ry h
 obtain ⟨p, xs, rfl, hq, fx, fs, q⟩ := h
 cases ry
 rcases hq with hq | hq
 ·obtain ⟨its, r, pl, hz⟩ := I.list hq
  refine SeqAt.in_listAt (eqU x) pl.isList (fun w hw => mem_eqAt rx fx r fs w (by simpa using hw)) ⟨.bl _, H, I, rfl, ?_⟩
  rw [show its.toArray.any (eqU x) = its.any (eqU x) by simp, any_eqU r fs]
  exact q
 ·obtain ⟨its, r, pl, hz⟩ := I.tuple hq
  refine SeqAt.in_tupleAt (eqU x) pl (fun w hw => mem_eqAt rx fx r fs w (by simpa using hw)) ⟨.bl _, H, I, rfl, ?_⟩
  rw [show its.toArray.any (eqU x) = its.any (eqU x) by simp, any_eqU r fs]
  exact q
theorem op_notIn_seq : OpR X (compareOp .NotIn) (rIn X.K true) := by
 intro pins s σ H x y v u Q I rx ry h
 obtain ⟨p, xs, rfl, hq, fx, fs, q⟩ := h
 cases ry
 rcases hq with hq | hq
 ·obtain ⟨its, r, pl, hz⟩ := I.list hq
  refine SeqAt.notIn_listAt (eqU x) pl.isList (fun w hw => mem_eqAt rx fx r fs w (by simpa using hw)) ⟨.bl _, H, I, rfl, ?_⟩
  rw [show its.toArray.any (eqU x) = its.any (eqU x) by simp, any_eqU r fs]
  exact q
 ·obtain ⟨its, r, pl, hz⟩ := I.tuple hq
  refine SeqAt.notIn_tupleAt (eqU x) pl (fun w hw => mem_eqAt rx fx r fs w (by simpa using hw)) ⟨.bl _, H, I, rfl, ?_⟩
  rw [show its.toArray.any (eqU x) = its.any (eqU x) by simp, any_eqU r fs]
  exact q
theorem call_len_seq : CallR X (.builtin "len") (fun xs H Q => ∃ p ys, xs = [.ref p] ∧ (SqL X.K H p ys ∨ SqT X.K H p ys) ∧ Q (.int ys.length) H) := by
 intro pins s σ H xs us Q I r h
 obtain ⟨p, ys, rfl, hq, q⟩ := h
 obtain ⟨u, rfl, rx⟩ := vals1 r
 cases rx
 have hn := line63
 rcases hq with hq | hq
 ·obtain ⟨its, r', pl, hz⟩ := I.list hq
  have hlen := r'.length
  exact Calls.call_len_list pl.isList (by simp only [List.size_toArray] <;> omega) ⟨.int ys.length, H, I.tok _, ⟨s.toks + 1, by rw [List.size_toArray, hlen]⟩, q⟩
 ·obtain ⟨its, r', pl, hz⟩ := I.tuple hq
  have hlen := r'.length
  exact len_tuple pl (by simp only [List.size_toArray] <;> omega) ⟨.int ys.length, H, I.tok _, ⟨s.toks + 1, by rw [List.size_toArray, hlen]⟩, q⟩
theorem call_list_of : CallR X (.type "list") (fun xs H Q => ∃ p ys, xs = [.ref p] ∧ (SqL X.K H p ys ∨ SqT X.K H p ys) ∧ ∀ l, H l = none → Q (.ref l) (upd H l (.lst ys))) := by
 intro pins s σ H xs us Q I r h
 obtain ⟨p, ys, rfl, hq, q⟩ := h
 obtain ⟨u, rfl, rx⟩ := vals1 r
 cases rx
 have fin : ∀ (its : List Value), Vals ys its → ys.length ≤ sizeLine → ∀ (h' : Heap) (c' : Nat), (∀ b o', s.heap.get? b = some o' → h'.get? b = some o') →
   h'.get? s.heap.objs.size = some { cls := .type "list", dict := none, data := .seq its.toArray c', slots := #[] } → EP X pins σ Q (.ref s.heap.objs.size) { s with heap := h' } := fun its r' hz h' c' kp e =>
  ⟨.ref s.heap.objs.size, _, I.laid (t' := s.toks) kp (Nat.le_refl _) (show ObjOk X.prog X.w _ h' _ (.lst ys) from ⟨hz, its, c', r', e⟩), rfl, q _ (I.hok.fresh (Nat.le_refl _))⟩
 rcases hq with hq | hq
 ·obtain ⟨its, r', pl, hz⟩ := I.list hq
  have hlen := r'.length
  obtain ⟨o, ho, hc, n, hd⟩ := pl.isList
  exact call_list_seq p (.inl rfl) ho hc hd (fun h' c' kp e => fin its r' hz h' c' kp e) (by simp only [List.size_toArray] <;> omega)
 ·obtain ⟨its, r', pl, hz⟩ := I.tuple hq
  have hlen := r'.length
  obtain ⟨o, ho, hc, n, hd⟩ := pl
  exact call_list_seq p (.inr rfl) ho hc hd (fun h' c' kp e => fin its r' hz h' c' kp e) (by simp only [List.size_toArray] <;> omega)
def tyV (K : PySem.W.Frag) (T : String) (x : V) (H : Hp) : Prop := match x with
 | .str _ => T = "str"
 | .int _ => T = "int"
 | .ref p => (T = "list" ∧ ∃ xs, SqL K H p xs) ∨ (T = "tuple" ∧ ∃ o, K.lookup p = some o ∧ o.cls = .type "tuple" ∧ o.dict = none) ∨
   (T = "dict" ∧ ((∃ kvs, H p = some (.dK kvs)) ∨ ∃ kvs, H p = some (.dT kvs))) ∨ (T = "set" ∧ ∃ S n, H p = some (.set S n))
 | _ => False
theorem tyV_is {pins : List (Addr × Obj)} {σ : St} {H : Hp} {s : Shared} {T : String} {x : V} {v : Value} (I : Inv X pins σ H s) (r : RelV x v) (ty : tyV X.K T x H) :
  s.TypeIs v T ∧ ∀ a, v = .ref a → ∃ ob, s.heap.get? a = some ob ∧ ob.dict = none := by
 cases x with
 | str z =>
  obtain ⟨t, rfl⟩ := r
  cases (show T = "str" from ty)
  exact ⟨typeIs_str s z t, fun _ e => nomatch e⟩
 | int i =>
  obtain ⟨t, rfl⟩ := r
  cases (show T = "int" from ty)
  exact ⟨typeIs_int s i t, fun _ e => nomatch e⟩
 | ref p =>
  cases r
  rcases ty with ⟨rfl, xs, hq⟩ | ⟨rfl, o, hk, hc, hd⟩ | ⟨rfl, hk⟩ | ⟨rfl, S, n, hk⟩
  ·obtain ⟨its, _, pl, _⟩ := I.list hq
   refine ⟨pl.isList.typeIs, fun a e => ?_⟩
   cases e
   obtain ⟨o, n, e, c, hd, _⟩ := pl
   exact ⟨o, e, hd⟩
  ·refine ⟨⟨o, I.kIn p o hk, hc⟩, fun a e => ?_⟩
   cases e
   exact ⟨o, I.kIn _ o hk, hd⟩
  ·have z : ∃ o, s.heap.get? p = some o ∧ o.ExactDict := by
    rcases hk with ⟨kvs, hk⟩ | ⟨kvs, hk⟩
    ·obtain ⟨_, _, _, _, o, _, _, e, ex, _⟩ := I.hok p _ hk
     exact ⟨o, e, ex⟩
    ·obtain ⟨_, _, _, _, o, _, _, e, ex, _⟩ := I.hok p _ hk
     exact ⟨o, e, ex⟩
   obtain ⟨o, e, ex⟩ := z
   refine ⟨⟨o, e, ex.1⟩, fun a e2 => ?_⟩
   cases e2
   exact ⟨o, e, ex.2.1⟩
  ·obtain ⟨o, _, _, _, e, ex, _⟩ := I.hok p _ hk
   refine ⟨⟨o, e, ex.1⟩, fun a e2 => ?_⟩
   cases e2
   exact ⟨o, e, ex.2.1⟩
 | _ => exact False.elim ty
def tBM (K : PySem.W.Frag) (T : String) (r : V → List V → Hp → VK → Prop) (to : TE) (t : TA) : TE := fun σ H Q => to σ H fun x H1 => tyV K T x H1 ∧ t σ H1 fun xs H2 => r x xs H2 Q
variable {o e : Expr} {es : List Expr} {to : TE} {t : TA} {name : Str} {apos cpos : Pos} {T id : String} {r : V → List V → Hp → VK → Prop}
theorem pe_bm (pa : PlainAttrs T) (slot : Slot T name id) (hty : typeOf (.builtin id) = pure (.type "method_descriptor")) (hm : MtR X id r) (ho : PE X o to) (ha : PA X (e :: es) t)
  (hbase : attributeBase o name X.env (eval o X.env) = eval o X.env := by rfl)
  (hfew : ((backTo cpos (starEach (e :: es) X.env)).all (fun x => !x.1) && (backToKw cpos (keywordEach [] X.env)).all (fun x => x.1.isSome)
   && decide ((e :: es).length + ([] : List Keyword).length + (if ([] : List Keyword).isEmpty then 0 else 1) < 30)) = true := by rfl)
  (hline : (apos.endLine == cpos.line) = true := by rfl) (hs : starEach (e :: es) X.env = (false, eval e X.env) :: starEach es X.env := by rfl) (hplain : (backTo cpos (starEach es X.env)).any (·.1) = false := by rfl) :
  PE X (.Call (.Attribute o name apos) (e :: es) [] cpos) (tBM X.K T r to t) := by
 intro pins s σ H Q I h
 refine wpAny_Call_method_late hbase hfew hline rfl (thn (ho pins s σ H _ I h) fun v s1 ⟨x, H1, I1, r1, ty, q1⟩ => ?_)
 obtain ⟨h1, h2⟩ := tyV_is I1 r1 ty
 refine ⟨T, id, pa, slot, hty, h1, h2, ?_⟩
 have hA := ha cpos pins s1 σ H1 _ I1 q1
 rw [hs] at hA ⊢
 refine Calls.callWith_builtin (by show (false || (backTo cpos (starEach es X.env)).any (·.1)) = false; rw [hplain] <;> rfl) (Calls.evalArgs_plain ?_)
 exact thn hA fun us s2 ⟨vs, H2, I2, r2, q2⟩ => hm pins s2 σ H2 x vs v us Q I2 r1 r2 q2
end
end L2
namespace L2
open PySem PySem.Spec PyProof.Rows
def MtM (X : Cx) (id : String) (r : V → List V → Hp → VK → Prop) : Prop :=
 ∀ (pins : List (Addr × Obj)) (s : Shared) (σ : St) (H : Hp) (x : V) (xs : List V) (v : Value) (us : List Value) (Q : VK), Inv X pins σ H s → RelV x v → Vals xs us → r x xs H Q →
  wpAny (model X.prog X.w) X.A (call (.builtin id) (v :: us)) (EP X pins σ Q) X.xe s
theorem Vals.one : ∀ {x : V} {us : List Value}, Vals [x] us → ∃ u, us = [u] ∧ RelV x u
 | _, _, .cons r .nil => ⟨_, rfl, r⟩
theorem Vals.eraseIdx : ∀ {xs : List V} {us : List Value} (i : Nat), Vals xs us → Vals (xs.eraseIdx i) (us.eraseIdx i)
 | _, _, _, .nil => .nil
 | _, _, 0, .cons _ t => t
 | _, _, i + 1, .cons r t => .cons r (Vals.eraseIdx i t)
theorem len_erase {α : Type} : ∀ (l : List α) (i : Nat), (l.eraseIdx i).length ≤ l.length
 | [], _ => Nat.le_refl _
 | _ :: _, 0 => Nat.le_succ _
 | _ :: r, i + 1 => Nat.succ_le_succ (len_erase r i)
section
variable {X : Cx} {pins : List (Addr × Obj)} {σ : St} {H : Hp} {s : Shared} {l b : Addr} {xs ys zs : List V}
theorem Inv.lset {its its' : List Value} {n : Nat} {f : Array Value → Array Value} {t' : Nat} (I : Inv X pins σ H s) (hH : H l = some (.lst xs))
  (e : s.heap.get? l = some { cls := .type "list", data := .seq its.toArray n }) (hf : f its.toArray = its'.toArray) (hv : Vals ys its') (hz : ys.length ≤ sizeLine) :
  Inv X pins σ (upd H l (.lst ys)) { s with heap := s.heap.update l (Obj.mapSeq f), toks := t' } := by
 have q := PySem.IsL.update e f
 rw [hf] at q
 refine I.write (x := l) (e := l) (by rw [hH]; exact trivial) (.inl rfl) (fun b' u hb hu => (Heap.get?_update_other s.heap (Obj.mapSeq f) (Ne.symm hb)).trans hu) ⟨_, q⟩ ?_
 exact ⟨hz, its', _, hv, q⟩
theorem Inv.lnew {its : List Value} {t' : Nat} (I : Inv X pins σ H s) (hv : Vals ys its) (hz : ys.length ≤ sizeLine) :
  Inv X pins σ (upd H s.heap.objs.size (.lst ys)) { s with heap := s.heap.push { cls := .type "list", data := .seq its.toArray }, toks := t' } :=
 I.laid (fun _ _ q => Heap.get?_push_of_some _ q) (Nat.le_refl _) ⟨hz, its, 0, hv, Heap.get?_push_size _ rfl⟩
theorem Inv.fresh (I : Inv X pins σ H s) : H s.heap.objs.size = none := I.hok.fresh (Nat.le_refl _)
theorem Inv.lstM (I : Inv X pins σ H s) (hH : H l = some (.lst xs)) : xs.length ≤ sizeLine ∧ ∃ (its : List Value) (n : Nat), Vals xs its ∧ xs.length = its.length ∧ s.heap.get? l = some { cls := .type "list", data := .seq its.toArray n } := by
 obtain ⟨z, its, n, r, e⟩ := I.hok l _ hH
 exact ⟨z, its, n, r, r.length, e⟩
theorem notLongL {n : Nat} (h : n ≤ sizeLine) : Builtin.List.listTooLong n = false := by
 unfold Builtin.List.listTooLong
 exact decide_eq_false (by omega)
end
section
variable {X : Cx}
def rAppend : V → List V → Hp → VK → Prop := fun x vs H Q => ∃ l xs y, x = .ref l ∧ vs = [y] ∧ H l = some (.lst xs) ∧ xs.length < sizeLine ∧ Q .non (upd H l (.lst (xs ++ [y])))
theorem mt_append : MtM X "list.append" rAppend := by
 intro pins s σ H x vs v us Q I rx rv h
 obtain ⟨l, xs, y, rfl, rfl, hH, hz, q⟩ := h
 cases rx
 obtain ⟨u, rfl, ru⟩ := rv.one
 obtain ⟨z, its, n, r, hl, e⟩ := I.lstM hH
 refine call_meets F.slot_list_append ⟨_, e, rfl⟩ F.entry_list_append (F.args_list_append_2 _ _) (PySem.list_append l its.toArray n u (by rw [List.size_toArray]; omega)) ⟨e, ?_⟩
 refine ⟨.non, _, I.lset (its' := its ++ [u]) hH e (by simp) (r.append (.cons ru .nil)) ?_, rfl, q⟩
 rw [List.length_append, List.length_singleton]
 omega
def rExtend : V → List V → Hp → VK → Prop := fun x vs H Q => ∃ l b xs zs, x = .ref l ∧ vs = [.ref b] ∧ H l = some (.lst xs) ∧ H b = some (.lst zs) ∧ xs.length + zs.length ≤ sizeLine ∧ Q .non (upd H l (.lst (xs ++ zs)))
theorem mt_extend : MtM X "list.extend" rExtend := by
 intro pins s σ H x vs v us Q I rx rv h
 obtain ⟨l, b, xs, zs, rfl, rfl, hH, hB, hz, q⟩ := h
 cases rx
 obtain ⟨u, rfl, ru⟩ := rv.one
 cases ru
 obtain ⟨z, its, n, r, hl, e⟩ := I.lstM hH
 obtain ⟨z2, its2, n2, r2, hl2, e2⟩ := I.lstM hB
 have hsz : its.toArray.size + its2.toArray.size ≤ sizeLine := by rw [List.size_toArray, List.size_toArray]; omega
 have hlong : ¬ (!its.toArray.isEmpty && Builtin.List.listTooLong (its.toArray.size + its2.toArray.size)) = true := by
  rw [notLongL hsz, Bool.and_false]
  exact Bool.false_ne_true
 refine call_meets F.slot_list_extend ⟨_, e, rfl⟩ F.entry_list_extend (F.args_list_extend_2 _ _)
  (AutoSeq1.list_extend_list_list_0 l its.toArray n b its2.toArray n2 hlong (by rw [List.size_toArray]; omega) (by omega)) ⟨e, e2, ?_⟩
 refine ⟨.non, _, I.lset (its' := its ++ its2) hH e (by simp) (r.append r2) ?_, rfl, q⟩
 rw [List.length_append]
 omega
def rPopAt : V → List V → Hp → VK → Prop := fun x vs H Q => ∃ l xs i k y, x = .ref l ∧ vs = [.int i] ∧ H l = some (.lst xs) ∧ -(2 ^ 63) ≤ i ∧ i < 2 ^ 63 ∧ seqIndex? i xs.length = some k ∧ xs[k]? = some y ∧ Q y (upd H l (.lst (xs.eraseIdx k)))
theorem mt_popAt : MtM X "list.pop" rPopAt := by
 intro pins s σ H x vs v us Q I rx rv h
 obtain ⟨l, xs, i, k, y, rfl, rfl, hH, h1, h2, hk, hy, q⟩ := h
 cases rx
 obtain ⟨u, rfl, ru⟩ := rv.one
 obtain ⟨t, rfl⟩ := ru
 obtain ⟨z, its, n, r, hl, e⟩ := I.lstM hH
 obtain ⟨w, hw, rw'⟩ := r.get hy
 refine call_meets F.slot_list_pop ⟨_, e, rfl⟩ F.entry_list_pop (F.args_list_pop_2 _ _)
  (MeetsSeq.list_pop_at l its.toArray n i t k w (fitsIndex_both h1 h2) (by rw [List.size_toArray, ← hl]; exact hk) (by rw [← Array.getElem?_toList]; exact hw) (by rw [List.size_toArray]; omega)) ⟨e, ?_⟩
 refine ⟨y, _, I.lset (its' := its.eraseIdx k) hH e ?_ (r.eraseIdx k) ?_, rw', q⟩
 ·show its.toArray.eraseIdxIfInBounds k = (its.eraseIdx k).toArray
  rw [List.eraseIdxIfInBounds_toArray]
 ·have := len_erase xs k
  omega
def rCat : R2 := fun x y H Q => ∃ l b xs zs, x = .ref l ∧ y = .ref b ∧ H l = some (.lst xs) ∧ H b = some (.lst zs) ∧ xs.length + zs.length ≤ sizeLine ∧ ∀ p, H p = none → Q (.ref p) (upd H p (.lst (xs ++ zs)))
theorem op_cat : OpR X (binaryOp .Add) rCat := by
 intro pins s σ H x y v u Q I rx ry h
 obtain ⟨l, b, xs, zs, rfl, rfl, hH, hB, hz, q⟩ := h
 cases rx
 cases ry
 obtain ⟨z, its, n, r, hl, e⟩ := I.lstM hH
 obtain ⟨z2, its2, n2, r2, hl2, e2⟩ := I.lstM hB
 refine PySem.P.add_list e e2 ?_ (by rw [List.size_toArray, List.size_toArray]; omega)
 have ea : its.toArray ++ its2.toArray = (its ++ its2).toArray := by simp
 rw [ea]
 exact ⟨.ref _, _, I.lnew (t' := s.toks) (r.append r2) (by rw [List.length_append]; omega), rfl, q _ I.fresh⟩
end
section
variable {prog : Program} {w : World} {A : Around} {E : Value → Shared → Prop} {s : Shared}
set_option maxRecDepth 100000 in
end
section
variable {X : Cx}
end
end L2
namespace L2
open PySem PySem.Spec PyProof.Rows
theorem Vals.ints : ∀ {ns : List Int} {us : List Value}, Vals (ns.map V.int) us → IntsAre us ns
 | [], us, h => by
  rw [List.map_nil] at h
  cases h
  exact IntsAre.nil
 | n :: ns, us, h => by
  rw [List.map_cons] at h
  cases h with
  | cons r t =>
   obtain ⟨k, rfl⟩ := r
   exact IntsAre.cons n k (Vals.ints t)
theorem Vals.bls : ∀ {bs : List Bool} {us : List Value}, Vals (bs.map V.bl) us → us = bs.map Value.bool
 | [], us, h => by
  rw [List.map_nil] at h
  cases h
  rfl
 | b :: bs, us, h => by
  rw [List.map_cons] at h
  cases h with
  | cons r t =>
   cases r
   rw [Vals.bls t, List.map_cons]
theorem Vals.ref1 {a : Addr} {us : List Value} (r : Vals [V.ref a] us) : us = [Value.ref a] := by
 cases r with
 | cons r t =>
  cases t
  cases r
  rfl
section
variable {prog : Program} {w : World} {A : Around} {E : Value → Shared → Prop} {s : Shared} {l : Addr} {its : List Value} {ns : List Int} {Q : Value → Shared → Prop}
theorem sum_raw (hh : A.handled = none) (hl : s.heap.IsList l its.toArray) (hi : IntsAre its ns)
  (h : ∀ h' tk t', (∀ b o, s.heap.get? b = some o → h'.get? b = some o) → Q (.int ns.sum t') { s with heap := h', toks := tk }) : wpAny (model prog w) A (call (.builtin "sum") [.ref l]) Q E s := by
 obtain ⟨xs, e⟩ := hi.allInts.items
 have hn : numsOf (intItems xs).toList = ns := by rw [← e]; exact hi.numsOf
 rw [nums_intItems] at hn
 rw [e] at hl
 refine PySem.sum_intListG hh hl fun h' tk t' hk => ?_
 have := h h' tk t' hk
 rw [preSum_eq, List.take_of_length_le (by simp), hn]; exact this
theorem min_raw (hh : A.handled = none) (hl : s.heap.IsList l its.toArray) (hi : IntsAre its ns) (hne : 0 < ns.length)
  (h : ∀ h' tk M t', (∀ b o, s.heap.get? b = some o → h'.get? b = some o) → M ∈ ns → (∀ a, a ∈ ns → M ≤ a) → Q (.int M t') { s with heap := h', toks := tk }) : wpAny (model prog w) A (call (.builtin "min") [.ref l]) Q E s := by
 obtain ⟨xs, e⟩ := hi.allInts.items
 have hn : numsOf (intItems xs).toList = ns := by rw [← e]; exact hi.numsOf
 rw [nums_intItems] at hn
 subst hn
 rw [e] at hl
 have hsz : 0 < xs.size := by simpa using hne
 refine PySem.min_intList hh hl hsz fun v h' tk hv hk => ?_
 obtain ⟨t, rfl⟩ := intItems_at hv
 obtain ⟨h1, h2⟩ := argBest_lt (numAt xs) (xs.size - 1)
 refine h h' tk _ t hk ?_ fun a ha => ?_
 ·rw [numAt_eq]; exact PySem.getD_mem (by rw [List.length_map, Array.length_toList]; omega)
 ·obtain ⟨j, hj, rfl⟩ := mem_getD ha
  rw [List.length_map, Array.length_toList] at hj
  rw [← numAt_eq]; exact h2 j (by omega)
end
section
variable {X : Cx}
def rSum (K : PySem.W.Frag) : List V → Hp → VK → Prop := fun vs H Q => ∃ (a : Addr) (ns : List Int), vs = [V.ref a] ∧ SqL K H a (ns.map V.int) ∧ Q (.int ns.sum) H
def rMin (K : PySem.W.Frag) : List V → Hp → VK → Prop := fun vs H Q => ∃ (a : Addr) (ns : List Int), vs = [V.ref a] ∧ SqL K H a (ns.map V.int) ∧ 0 < ns.length ∧ ∀ m, m ∈ ns → (∀ y, y ∈ ns → m ≤ y) → Q (.int m) H
theorem cr_sum (hc : X.calm = true) : CallR X (.builtin "sum") (rSum X.K) := by
 intro pins s σ H vs us Q I r h
 obtain ⟨a, ns, rfl, hs, q⟩ := h
 obtain ⟨its, rv, hl, _⟩ := I.list hs
 rw [Vals.ref1 r]
 exact sum_raw (I.ok.hd hc) hl.isList rv.ints fun h' tk t' hk => ⟨.int _, H, I.kept hk, ⟨_, rfl⟩, q⟩
theorem cr_min (hc : X.calm = true) : CallR X (.builtin "min") (rMin X.K) := by
 intro pins s σ H vs us Q I r h
 obtain ⟨a, ns, rfl, hs, hne, q⟩ := h
 obtain ⟨its, rv, hl, _⟩ := I.list hs
 rw [Vals.ref1 r]
 exact min_raw (I.ok.hd hc) hl.isList rv.ints hne fun h' tk m t' hk h1 h2 => ⟨.int _, H, I.kept hk, ⟨_, rfl⟩, q m h1 h2⟩
end
section
variable {X : Cx}
end
section
variable {X : Cx}
end
theorem iter_any {prog : Program} {w : World} {A : Around} {E : Value → Shared → Prop} {s : Shared} {l : Addr} {items : Array Value} {Q : Value → Shared → Prop} (hl : s.heap.IsList l items)
  (h : ∀ s₂ : Shared, s₂ = { s with heap := s.heap.push { cls := .type "list_iterator", data := .fields #[.ref l, .int 0 0] } } →
   (s₂.heap.IsListIter s.heap.objs.size l 0 ∧ s₂.heap.IsList l items) → l ≠ s.heap.objs.size → Q (.ref s.heap.objs.size) s₂) : wpAny (model prog w) A (pyIter (.ref l)) Q E s := by
 have hlt : l < s.heap.objs.size := by obtain ⟨_, e, _⟩ := hl; exact Heap.lt_size e
 exact wpAny_pyIter_list hl (h _ rfl ⟨⟨_, Heap.get?_push_size _ rfl, rfl, rfl⟩, hl.push _⟩ (Nat.ne_of_lt hlt))
theorem truth_bools {prog : Program} {w : World} {A : Around} {bs : List Bool} {its : List Value} (e : its = bs.map Value.bool) :
  TruthOf prog w A (fun i v => its.toArray[i]? = some v) (fun i => bs.getD i false) := fun i v s Q E hv hq => by
 have hv' : its[i]? = some v := by simpa using hv
 rw [e, List.getElem?_map] at hv'
 obtain ⟨b, hb, rfl⟩ := Option.map_eq_some_iff.mp hv'
 have hg : bs.getD i false = b := by rw [List.getD_eq_getElem?_getD, hb] <;> rfl
 have hq' : Q (bs.getD i false) s := hq
 rw [hg] at hq'
 exact wpAny_truthy_bool hq'
theorem any_range : ∀ bs : List Bool, (List.range bs.length).any (fun i => bs.getD i false) = bs.any id
 | [] => rfl
 | b :: bs => by
  rw [List.length_cons, List.range_succ_eq_map, List.any_cons, List.any_map, List.any_cons, ← any_range bs]
  all_goals rfl
theorem all_range : ∀ bs : List Bool, (List.range bs.length).all (fun i => bs.getD i false) = bs.all id
 | [] => rfl
 | b :: bs => by
  rw [List.length_cons, List.range_succ_eq_map, List.all_cons, List.all_map, List.all_cons, ← all_range bs]
  all_goals rfl
section
variable {X : Cx}
def rAny (K : PySem.W.Frag) : List V → Hp → VK → Prop := fun vs H Q => ∃ (a : Addr) (bs : List Bool), vs = [V.ref a] ∧ SqL K H a (bs.map V.bl) ∧ Q (.bl (bs.any id)) H
def rAll (K : PySem.W.Frag) : List V → Hp → VK → Prop := fun vs H Q => ∃ (a : Addr) (bs : List Bool), vs = [V.ref a] ∧ SqL K H a (bs.map V.bl) ∧ Q (.bl (bs.all id)) H
theorem cr_any (hc : X.calm = true) : CallR X (.builtin "any") (rAny X.K) := by
 intro pins s σ H vs us Q I r h
 obtain ⟨a, bs, rfl, hs, q⟩ := h
 obtain ⟨its, rv, hl, _⟩ := I.list hs
 rw [Vals.ref1 r]
 have hb := rv.bls
 refine call_any_walk (iter_any hl.isList fun s₂ e2 st hne => ?_)
 subst e2
 refine ⟨_, _, _, _, _, _, _, rfl, Walks.list (A := X.A.in1) (I.ok.hd hc) _ a hne its.toArray, st, truth_bools hb, fun h' tk hk => ?_⟩
 refine ⟨.bl _, H, I.kept fun b o eo => hk b o (fun hmem => ?_) (Heap.get?_push_of_some _ eo), ?_, q⟩
 ·rcases List.mem_cons.mp hmem with e1 | hmem
  ·exact absurd (e1 ▸ Heap.lt_size eo) (Nat.lt_irrefl _)
  ·cases hmem
 ·show Value.bool _ = Value.bool _
  rw [← any_range, hb, List.size_toArray, List.length_map]
theorem cr_all (hc : X.calm = true) : CallR X (.builtin "all") (rAll X.K) := by
 intro pins s σ H vs us Q I r h
 obtain ⟨a, bs, rfl, hs, q⟩ := h
 obtain ⟨its, rv, hl, _⟩ := I.list hs
 rw [Vals.ref1 r]
 have hb := rv.bls
 refine call_all_walk (iter_any hl.isList fun s₂ e2 st hne => ?_)
 subst e2
 refine ⟨_, _, _, _, _, _, _, rfl, Walks.list (A := X.A.in1) (I.ok.hd hc) _ a hne its.toArray, st, truth_bools hb, fun h' tk hk => ?_⟩
 refine ⟨.bl _, H, I.kept fun b o eo => hk b o (fun hmem => ?_) (Heap.get?_push_of_some _ eo), ?_, q⟩
 ·rcases List.mem_cons.mp hmem with e1 | hmem
  ·exact absurd (e1 ▸ Heap.lt_size eo) (Nat.lt_irrefl _)
  ·cases hmem
 ·show Value.bool _ = Value.bool _
  rw [← all_range, hb, List.size_toArray, List.length_map]
end
mutual
inductive Dp (K : PySem.W.Frag) (H : Hp) : V → PyData → Prop
 | non : Dp K H .non .none
 | bl (b : Bool) : Dp K H (.bl b) (.bool b)
 | int (i : Int) : Dp K H (.int i) (.int i)
 | str (x : Str) : Dp K H (.str x) (.str x)
 | lst {a : Addr} {xs : List V} {ds : List PyData} : SqL K H a xs → DpAll K H xs ds → Dp K H (.ref a) (.list ds)
 | tup {a : Addr} {xs : List V} {ds : List PyData} : SqT K H a xs → DpAll K H xs ds → Dp K H (.ref a) (.tuple ds)
inductive DpAll (K : PySem.W.Frag) (H : Hp) : List V → List PyData → Prop
 | nil : DpAll K H [] []
 | cons {v : V} {vs : List V} {d : PyData} {ds : List PyData} : Dp K H v d → DpAll K H vs ds → DpAll K H (v :: vs) (d :: ds)
end
section
variable {X : Cx} {pins : List (Addr × Obj)} {σ : St} {H : Hp} {s : Shared}
mutual
theorem Dp.reads (I : Inv X pins σ H s) : ∀ (d : PyData) (v : V) (u : Value), Dp X.K H v d → RelV v u → ∃ as, Reads s.heap u d as
 | .none, _, _, h, r => by
  cases h
  cases r
  exact ⟨_, Reads.none⟩
 | .bool b, _, _, h, r => by
  cases h
  cases r
  exact ⟨_, Reads.bool b⟩
 | .int i, _, _, h, r => by
  cases h
  obtain ⟨t, rfl⟩ := r
  exact ⟨_, Reads.int i t⟩
 | .str x, _, _, h, r => by
  cases h
  obtain ⟨t, rfl⟩ := r
  exact ⟨_, Reads.str x t⟩
 | .list ds, _, _, h, r => by
  cases h with
  | lst hs ha =>
   cases r
   obtain ⟨its, rv, ⟨o, n, ho, hc, _, hd⟩, _⟩ := I.list hs
   obtain ⟨as, hr⟩ := Dp.readsAll I ds _ its ha rv
   exact ⟨_, Reads.list ho hc hd hr⟩
 | .tuple ds, _, _, h, r => by
  cases h with
  | tup hs ha =>
   cases r
   obtain ⟨its, rv, ⟨o, ho, hc, n, hd⟩, _⟩ := I.tuple hs
   obtain ⟨as, hr⟩ := Dp.readsAll I ds _ its ha rv
   exact ⟨_, Reads.tuple ho hc hd hr⟩
 | .dict _, _, _, h, _ => by cases h
theorem Dp.readsAll (I : Inv X pins σ H s) : ∀ (ds : List PyData) (vs : List V) (us : List Value), DpAll X.K H vs ds → Vals vs us → ∃ as, ReadsAll s.heap us ds as
 | [], _, _, h, r => by
  cases h
  cases r
  exact ⟨_, ReadsAll.nil⟩
 | d :: ds, _, _, h, r => by
  cases h with
  | cons h1 h2 =>
   cases r with
   | cons r1 r2 =>
    obtain ⟨as, q1⟩ := Dp.reads I d _ _ h1 r1
    obtain ⟨bs, q2⟩ := Dp.readsAll I ds _ _ h2 r2
    exact ⟨_, ReadsAll.cons q1 q2⟩
end
end
section
variable {X : Cx}
def rNeD (K : PySem.W.Frag) : R2 := fun x y H Q => ∃ d e, Dp K H x d ∧ Dp K H y e ∧ SeqAt.shaped d = true ∧ SeqAt.shaped e = true ∧ Q (.bl (!PyData.eqv d e)) H
theorem op_neD (hu : X.A.units + 64 < cLine) : OpR X (compareOp .NotEq) (rNeD X.K) := by
 intro pins s σ H x y v u Q I rx ry h
 obtain ⟨d, e, hd, he, sd, se, q⟩ := h
 obtain ⟨as, r1⟩ := Dp.reads I d x v hd rx
 obtain ⟨bs, r2⟩ := Dp.reads I e y u he ry
 exact SeqAt.compareNe_shaped r1 r2 sd se hu ⟨.bl _, H, I, rfl, q⟩
end
end L2
namespace L2
open PySem PySem.Spec PyProof.Rows
abbrev CellAt (h : Heap) (c : Addr) (v : Option Value) : Prop := h.IsCell c v
def relS (scope sc : Scope) : Scope :=
 { scope with names := scope.names.map fun (n, k) => if (k == .free && sc.kind == .function && sc.names.lookup n == some .cell) then (n, .cell) else (n, k) }
def cloFrom (cells : List (Str × Addr)) : List (Str × NameKind) → List (Str × Addr) → List (Str × Addr)
 | [], acc => acc
 | (n, k) :: r, acc => if k == .free then cloFrom cells r ((n, (cells.lookup n).getD 0) :: acc) else cloFrom cells r acc
theorem closure_loop (env : Env) (f : Str × NameKind → List (Str × Addr) → Sem (ForInStep (List (Str × Addr))))
  (hf : ∀ n k c, f (n, k) c = if k == .free then (do let a ← cellOf env n; pure (.yield ((n, a) :: c))) else pure (.yield c)) :
  ∀ (names : List (Str × NameKind)) (acc : List (Str × Addr)), (∀ y ∈ names, y.2 = .free → ∃ c, env.cells.lookup y.1 = some c) → forIn names acc f = pure (cloFrom env.cells names acc)
 | [], acc, _ => by rw [List.forIn_nil]; rfl
 | (n, k) :: r, acc, h => by
  rw [List.forIn_cons, hf]
  have ih := fun acc => closure_loop env f hf r acc fun y hy => h y (List.mem_cons_of_mem _ hy)
  unfold cloFrom
  by_cases hk : (k == NameKind.free) = true
  ·rw [if_pos hk, if_pos hk]
   obtain ⟨c, hc⟩ := h (n, k) List.mem_cons_self (by simpa using hk)
   have e : cellOf env n = pure c := by unfold cellOf; rw [hc]
   rw [e]
   have e2 : (env.cells.lookup n).getD 0 = c := by rw [hc]; rfl
   rw [e2]
   exact ih _
  ·rw [if_neg hk, if_neg hk]
   exact ih _
theorem closure_ok {scope : Scope} {env : Env} (h : ∀ y ∈ scope.names, y.2 = .free → ∃ c, env.cells.lookup y.1 = some c) : closureFor scope env = pure (cloFrom env.cells scope.names []) := by
 simp only [closureFor]
 rw [closure_loop env _ (fun n k c => rfl) scope.names [] h]
 rfl
theorem mem_lookup {α : Type} : ∀ {l : List (Str × α)} {n : Str} {c : α}, (n, c) ∈ l → ∃ c', l.lookup n = some c'
 | (k, v) :: r, n, c, h => by
  rw [List.lookup_cons]
  cases hb : n == k with
  | true => exact ⟨_, rfl⟩
  | false =>
   rcases List.mem_cons.mp h with e | h
   ·cases e; simp at hb
   ·exact mem_lookup h
theorem cloFrom_mem {cells : List (Str × Addr)} : ∀ {names : List (Str × NameKind)} {acc : List (Str × Addr)} {n : Str} {c : Addr}, (n, c) ∈ cloFrom cells names acc → (n, c) ∈ acc ∨ ((n, .free) ∈ names ∧ c = (cells.lookup n).getD 0)
 | [], _, _, _, h => .inl h
 | (m, k) :: r, acc, n, c, h => by
  unfold cloFrom at h
  split at h
  ·rename_i hk
   have hk : k = .free := by simpa using hk
   rcases cloFrom_mem h with h | ⟨h1, h2⟩
   ·rcases List.mem_cons.mp h with e | h
    ·cases e; exact .inr ⟨hk ▸ List.mem_cons_self, rfl⟩
    ·exact .inl h
   ·exact .inr ⟨List.mem_cons_of_mem _ h1, h2⟩
  ·rcases cloFrom_mem h with h | ⟨h1, h2⟩
   ·exact .inl h
   ·exact .inr ⟨List.mem_cons_of_mem _ h1, h2⟩
theorem cloFrom_acc {cells : List (Str × Addr)} : ∀ {names : List (Str × NameKind)} {acc : List (Str × Addr)} {p : Str × Addr}, p ∈ acc → p ∈ cloFrom cells names acc
 | [], _, _, h => h
 | (m, k) :: r, acc, p, h => by
  unfold cloFrom
  split
  ·exact cloFrom_acc (List.mem_cons_of_mem _ h)
  ·exact cloFrom_acc h
theorem cloFrom_has {cells : List (Str × Addr)} : ∀ {names : List (Str × NameKind)} {acc : List (Str × Addr)} {n : Str}, (n, .free) ∈ names → (n, (cells.lookup n).getD 0) ∈ cloFrom cells names acc
 | (m, k) :: r, acc, n, h => by
  unfold cloFrom
  rcases List.mem_cons.mp h with e | h
  ·cases e
   exact cloFrom_acc List.mem_cons_self
  ·split
   ·exact cloFrom_has h
   ·exact cloFrom_has h
theorem cells_mem : ∀ {names : List (Str × NameKind)} {h : Heap} {acc : List (Str × Addr)} {x : Str} {c : Addr}, (x, c) ∈ cellsFrom h.objs.size names acc →
  (x, c) ∈ acc ∨ ((x, .cell) ∈ names ∧ h.objs.size ≤ c ∧ CellAt (pushCells h names) c none)
 | [], _, _, _, _, h => .inl h
 | (n, k) :: r, h, acc, x, c, hm => by
  unfold cellsFrom at hm
  unfold pushCells
  split at hm
  ·rename_i hk
   rw [if_pos hk]
   have hk : k = .cell := by simpa using hk
   rw [← Heap.size_push h { cls := .type "cell", data := .cell none }] at hm
   rcases cells_mem hm with hm | ⟨h1, h2, h3⟩
   ·rcases List.mem_cons.mp hm with e | hm
    ·cases e
     exact .inr ⟨hk ▸ List.mem_cons_self, Nat.le_refl _, _, pushCells_keeps r _ _ _ (Heap.get?_push_size _ rfl), rfl⟩
    ·exact .inl hm
   ·rw [Heap.size_push] at h2
    exact .inr ⟨List.mem_cons_of_mem _ h1, Nat.le_of_succ_le h2, h3⟩
  ·rename_i hk
   rw [if_neg hk]
   rcases cells_mem hm with hm | ⟨h1, h2, h3⟩
   ·exact .inl hm
   ·exact .inr ⟨List.mem_cons_of_mem _ h1, h2, h3⟩
theorem cells_acc : ∀ {names : List (Str × NameKind)} {n : Nat} {acc : List (Str × Addr)} {p : Str × Addr}, p ∈ acc → p ∈ cellsFrom n names acc
 | [], _, _, _, h => h
 | (m, k) :: r, n, acc, p, h => by
  unfold cellsFrom
  split
  ·exact cells_acc (List.mem_cons_of_mem _ h)
  ·exact cells_acc h
theorem cells_has : ∀ {names : List (Str × NameKind)} {n : Nat} {acc : List (Str × Addr)} {x : Str}, (x, .cell) ∈ names → ∃ c, (x, c) ∈ cellsFrom n names acc
 | (m, k) :: r, n, acc, x, h => by
  unfold cellsFrom
  rcases List.mem_cons.mp h with e | h
  ·cases e
   exact ⟨n, cells_acc List.mem_cons_self⟩
  ·split
   ·exact cells_has h
   ·exact cells_has h
theorem cells_inj : ∀ {names : List (Str × NameKind)} {h : Heap} {acc : List (Str × Addr)} {x y : Str} {c : Addr}, (∀ p ∈ acc, p.2 < h.objs.size) → (∀ x y c, (x, c) ∈ acc → (y, c) ∈ acc → x = y) →
  (x, c) ∈ cellsFrom h.objs.size names acc → (y, c) ∈ cellsFrom h.objs.size names acc → x = y
 | [], _, _, _, _, _, _, hi, h1, h2 => hi _ _ _ h1 h2
 | (n, k) :: r, h, acc, x, y, c, hl, hi, h1, h2 => by
  unfold cellsFrom at h1 h2
  split at h1
  ·rename_i hk
   rw [if_pos hk] at h2
   rw [← Heap.size_push h { cls := .type "cell", data := .cell none }] at h1 h2
   refine cells_inj (h := h.push _) (fun p hp => ?_) (fun x y c a b => ?_) h1 h2
   ·rw [Heap.size_push]
    rcases List.mem_cons.mp hp with rfl | hp
    ·exact Nat.lt_succ_self _
    ·exact Nat.lt_succ_of_lt (hl p hp)
   ·rcases List.mem_cons.mp a with e | a <;> rcases List.mem_cons.mp b with e' | b
    ·cases e; cases e'; rfl
    ·cases e; exact absurd (hl _ b) (Nat.lt_irrefl _)
    ·cases e'; exact absurd (hl _ a) (Nat.lt_irrefl _)
    ·exact hi _ _ _ a b
  ·rename_i hk
   rw [if_neg hk] at h2
   exact cells_inj hl hi h1 h2
theorem newEnv_comp {M : Model} {A : Around} {E : Value → Shared → Prop} {s : Shared} {scope : Scope} {globals : Addr} {closure : List (Str × Addr)} {qual : Str} {func : Option Addr} {code : Value} {around : Env} {builtins : Addr} {Q : Env → Shared → Prop}
  (h : Q (newEnv scope s.heap.objs.size globals (cellsFrom (s.heap.objs.size + 1) scope.names closure) qual func code (some around) builtins)
   { s with heap := pushCells (s.heap.push { cls := .type "dict", data := .dict #[] }) scope.names }) :
  wpAny M A (newFunctionEnv scope globals closure [] qual func code (some around) builtins) Q E s := by
 simp only [newFunctionEnv, Option.isSome_some, if_true]
 refine wpAny_bind (wpAny_alloc ?_)
 refine wpAny_bind (wpAny_layCells _ (fun n k c => rfl) scope.names closure _ _ ?_)
 rw [show ({ s with heap := s.heap.push { cls := .type "dict", data := .dict #[] } } : Shared).heap.objs.size = s.heap.objs.size + 1 from Heap.size_push ..]
 rw [List.forIn_nil]
 exact wpAny_bind (wpAny_pure (wpAny_pure h))
theorem lookup_relS {sc : Scope} : ∀ {names : List (Str × NameKind)} {x : Str} {k : NameKind},
  (names.map fun (n, k) => if (k == NameKind.free && sc.kind == .function && sc.names.lookup n == some .cell) then (n, NameKind.cell) else (n, k)).lookup x = some k →
  ∃ k', names.lookup x = some k' ∧ (k = k' ∨ (k' = .free ∧ k = .cell))
 | [], _, _, h => by simp at h
 | (n, k₀) :: r, x, k, h => by
  have ih := @lookup_relS sc r x k
  have h' : List.lookup x ((if (k₀ == NameKind.free && sc.kind == .function && sc.names.lookup n == some .cell) = true then (n, NameKind.cell) else (n, k₀)) :: (r.map _)) = some k := h
  cases hx : x == n with
  | true =>
   simp only [List.lookup_cons, hx]
   by_cases hc : (k₀ == NameKind.free && sc.kind == .function && sc.names.lookup n == some .cell) = true
   ·rw [if_pos hc] at h'
    simp only [List.lookup_cons, hx] at h'
    cases h'
    simp only [Bool.and_eq_true, beq_iff_eq] at hc
    exact ⟨k₀, rfl, .inr ⟨hc.1.1, rfl⟩⟩
   ·rw [if_neg hc] at h'
    simp only [List.lookup_cons, hx] at h'
    cases h'
    exact ⟨_, rfl, .inl rfl⟩
  | false =>
   simp only [List.lookup_cons, hx]
   by_cases hc : (k₀ == NameKind.free && sc.kind == .function && sc.names.lookup n == some .cell) = true
   ·rw [if_pos hc] at h'
    simp only [List.lookup_cons, hx] at h'
    exact ih h'
   ·rw [if_neg hc] at h'
    simp only [List.lookup_cons, hx] at h'
    exact ih h'
structure BlkOk (N : List Str) (sc scope : Scope) (own : List (Str × Nat)) : Prop where
 kind : scope.kind = .function
 uniq : ∀ y ∈ scope.names, scope.names.lookup y.1 = some y.2
 ix : ∀ p ∈ own, N[p.2]? = some p.1
 free : ∀ y ∈ scope.names, y.2 = .free → sc.names.lookup y.1 = some .cell ∨ sc.names.lookup y.1 = some .free
 own : ∀ y ∈ scope.names, y.2 = .local ∨ y.2 = .cell → y.1 ∈ own.map (·.1) ∨ y.1 ∉ N
def wipe (σ : St) : List Nat → St
 | [] => σ
 | v :: vs => (wipe σ vs).set v none
theorem wipe_length (σ : St) : ∀ vs : List Nat, (wipe σ vs).length = σ.length
 | [] => rfl
 | v :: vs => by unfold wipe; rw [List.length_set, wipe_length σ vs]
theorem wipe_some {σ : St} {i : Nat} {x : V} : ∀ {vs : List Nat}, (wipe σ vs)[i]? = some (some x) → σ[i]? = some (some x) ∧ i ∉ vs
 | [], h => ⟨h, by simp⟩
 | v :: vs, h => by
  unfold wipe at h
  by_cases hi : v = i
  ·subst hi
   by_cases hv : v < (wipe σ vs).length
   ·rw [List.getElem?_set_self hv] at h; cases h
   ·rw [List.getElem?_eq_none (by simpa using hv)] at h; cases h
  ·rw [List.getElem?_set_ne hi] at h
   obtain ⟨h1, h2⟩ := wipe_some h
   exact ⟨h1, by simp only [List.mem_cons, not_or]; exact ⟨fun e => hi e.symm, h2⟩⟩
abbrev Cx.blk (X : Cx) (s : Shared) (H : Hp) (scope : Scope) (cenv : Env) (fp : List Addr) : Cx := { X with s_0 := s, H_0 := H, env := cenv, outer := X.stack, ex := fp, fn := fun x => scope.names.lookup x == some .cell, pn := [], xe := fun _ _ => False }
section
variable {X : Cx} {pins : List (Addr × Obj)} {σ : St} {H : Hp} {s : Shared}
theorem block_start {scope : Scope} {own : List (Str × Nat)} {fp : List Addr} (I : Inv X pins σ H s) (ok : BlkOk X.N X.env.scope scope own) (hN : X.N.Nodup) (hfp : ∀ b ∈ fp, FpOk X pins H b ∧ b < s.heap.objs.size) :
  Inv (X.blk s H scope (compEnvC scope (cellsFrom (s.heap.objs.size + 1) scope.names (cloFrom X.env.cells scope.names [])) s.heap.objs.size X.env) fp) [] (wipe σ (own.map (·.2))) H { s with heap := pushCells (s.heap.push { cls := .type "dict", data := .dict #[] }) scope.names } := by
 have hfree : ∀ y ∈ scope.names, y.2 = .free → ∃ c, X.env.cells.lookup y.1 = some c := fun y hy e => by
  rcases ok.free y hy e with k | k
  ·exact I.ok.has _ (.inl k)
  ·exact I.ok.has _ (.inr k)
 generalize hcenv : compEnvC scope (cellsFrom (s.heap.objs.size + 1) scope.names (cloFrom X.env.cells scope.names [])) s.heap.objs.size X.env = cenv
 have kp : ∀ b o, s.heap.get? b = some o → (pushCells (s.heap.push { cls := .type "dict", data := .dict #[] }) scope.names).get? b = some o := fun b o e => pushCells_keeps _ _ _ _ (Heap.get?_push_of_some _ e)
 have hL : cenv.locals = s.heap.objs.size := by rw [← hcenv]; rfl
 have hcl : cenv.cells = cellsFrom (s.heap.objs.size + 1) scope.names (cloFrom X.env.cells scope.names []) := by rw [← hcenv]; rfl
 have hsc : cenv.scope = relS scope X.env.scope := by rw [← hcenv]; rfl
 rw [← Heap.size_push s.heap { cls := .type "dict", data := .dict #[] }] at hcl
 have cm : ∀ {y c}, (y, c) ∈ cloFrom X.env.cells scope.names [] → X.env.cells.lookup y = some c ∧ c < s.heap.objs.size := fun {y c} hm => by
  rcases cloFrom_mem hm with hm | ⟨h1, rfl⟩
  ·cases hm
  ·obtain ⟨c, hc⟩ := hfree _ h1 rfl
   rw [hc]
   obtain ⟨w, z⟩ := I.cell _ _ hc
   exact ⟨rfl, z.lt⟩
 have mem : ∀ {y c}, cenv.cells.lookup y = some c → (X.env.cells.lookup y = some c ∧ c < s.heap.objs.size) ∨ (s.heap.objs.size + 1 ≤ c ∧ CellAt (pushCells (s.heap.push { cls := .type "dict", data := .dict #[] }) scope.names) c none) := fun {y c} e => by
  rw [hcl] at e
  rcases cells_mem (PySem.mem_of_lookup e) with hm | ⟨_, h2, h3⟩
  ·exact .inl (cm hm)
  ·rw [Heap.size_push] at h2; exact .inr ⟨h2, h3⟩
 have look : ∀ {y}, scope.names.lookup y = some .free → ∃ c, cenv.cells.lookup y = some c ∧ X.env.cells.lookup y = some c := fun {y} hl => by
  have hy : (y, NameKind.free) ∈ scope.names := PySem.mem_of_lookup hl
  obtain ⟨c', e'⟩ := mem_lookup (cells_acc (names := scope.names) (n := (s.heap.push { cls := .type "dict", data := .dict #[] }).objs.size) (cloFrom_has (cells := X.env.cells) (acc := []) hy))
  rw [← hcl] at e'
  refine ⟨c', e', ?_⟩
  rw [hcl] at e'
  rcases cells_mem (PySem.mem_of_lookup e') with hm | ⟨h1, _, _⟩
  ·exact (cm hm).1
  ·have := ok.uniq _ h1
   rw [hl] at this; cases this
 have okB : (X.blk s H scope cenv fp).Ok := by
  refine ⟨I.ok.mod, by show cenv.scope.kind = _; rw [hsc]; exact ok.kind, by show cenv.globals = _; rw [← hcenv]; exact I.ok.glob, by show cenv.builtins = _; rw [← hcenv]; exact I.ok.blt, by show s.heap.objs.size ≤ cenv.locals; rw [hL]; exact Nat.le_refl _,
   fun y z c e1 e2 => ?_, fun y hy => ?_, fun y c z e => ?_, I.ok.hd, I.ok.frames, .inl rfl, fun b hb => ⟨?_, fun y c e z => ?_⟩, I.bs, Nat.le_trans I.ok.bsz I.sz, fun b o e hb => ?_, fun b hb z => ?_, I.stack, I.stkFree⟩
  ·have e1 : cenv.cells.lookup y = some c := e1
   have e2 : cenv.cells.lookup z = some c := e2
   rw [hcl] at e1 e2
   refine cells_inj (fun p hp => ?_) (fun y z c a b => I.ok.inj y z c (cm a).1 (cm b).1) (PySem.mem_of_lookup e1) (PySem.mem_of_lookup e2)
   rw [Heap.size_push]
   exact Nat.lt_succ_of_lt (cm (y := p.1) (c := p.2) hp).2
  ·show ∃ c, cenv.cells.lookup y = some c
   have key : ∀ k, cenv.kindOf y = some k → (k = .cell ∨ k = .free) → ∃ c, cenv.cells.lookup y = some c := fun k hk hk' => by
    unfold Env.kindOf at hk
    rw [hsc] at hk
    obtain ⟨k', e, r⟩ := lookup_relS hk
    have : k' = .cell ∨ k' = .free := by
     rcases r with rfl | ⟨rfl, _⟩
     ·exact hk'
     ·exact .inr rfl
    rcases this with rfl | rfl
    ·obtain ⟨c, hm⟩ := cells_has (n := (s.heap.push { cls := .type "dict", data := .dict #[] }).objs.size) (acc := cloFrom X.env.cells scope.names []) (PySem.mem_of_lookup e)
     obtain ⟨c', e'⟩ := mem_lookup hm
     exact ⟨c', by rw [hcl]; exact e'⟩
    ·obtain ⟨c, h1, _⟩ := look e
     exact ⟨c, h1⟩
   rcases hy with hy | hy
   ·exact key _ hy (.inl rfl)
   ·exact key _ hy (.inr rfl)
  ·have z : (scope.names.lookup y == some NameKind.cell) = true := z
   have z : scope.names.lookup y = some .cell := by simpa using z
   have e : cenv.cells.lookup y = some c := e
   rw [hcl] at e
   rcases cells_mem (PySem.mem_of_lookup e) with hm | ⟨_, h2, _⟩
   ·rcases cloFrom_mem hm with hm | ⟨h1, _⟩
    ·cases hm
    ·have q := ok.uniq _ h1
     rw [z] at q; cases q
   ·rw [Heap.size_push] at h2
    exact Nat.le_of_succ_le h2
  ·show b ≠ cenv.locals
   rw [hL]; exact Nat.ne_of_lt (hfp b hb).2
  ·have e : cenv.cells.lookup y = some c := e
   rcases mem e with ⟨h1, _⟩ | ⟨h1, _⟩
   ·exact (hfp b hb).1.2.2.2.2.1 y c h1 z
   ·have h2 : s.heap.objs.size + 1 ≤ b := by rw [← z]; exact h1
    exact absurd (Nat.lt_of_lt_of_le (hfp b hb).2 (Nat.le_of_succ_le h2)) (Nat.lt_irrefl _)
  ·rcases (hfp b hb).1.2.2.2.1 with z | z
   ·exact I.ok.noex b o e z
   ·exact absurd (Nat.lt_of_lt_of_le (Heap.lt_size e) (Nat.le_trans I.ok.bsz z)) (Nat.lt_irrefl _)
  ·rcases List.mem_cons.mp (I.stkSub b z) with z | z
   ·exact (hfp b hb).1.2.1 z
   ·exact (hfp b hb).1.2.2.1 z
 refine ⟨okB, rfl, I.bare, Un.kept kp, ⟨fun _ => none, ?_, fun i y av e1 e2 e3 => ?_⟩, fun y c e => ?_, ?_, fun y c e => ?_, fun p hp => ?_, I.hok.kept kp, by rw [wipe_length]; exact I.len⟩
 ·show Heap.Ns _ cenv.locals _
  rw [hL]
  exact Heap.Ns.keeps (Heap.Ns.new ..) fun b o e => pushCells_keeps _ _ _ _ e
 ·obtain ⟨e2, hne⟩ := wipe_some e2
  have hfr : scope.names.lookup y = some .free ∧ (cenv.kindOf y = some .cell ∨ cenv.kindOf y = some .free) := by
   have key : ∀ k, cenv.scope.names.lookup y = some k → k = .local ∨ k = .cell ∨ k = .free → scope.names.lookup y = some .free ∧ (cenv.kindOf y = some .cell ∨ cenv.kindOf y = some .free) := fun k hk hk' => by
    have hk0 := hk
    rw [hsc] at hk
    obtain ⟨k', e, r⟩ := lookup_relS hk
    have no : ¬ (k' = .local ∨ k' = .cell) := fun hh => by
     rcases ok.own _ (PySem.mem_of_lookup e) hh with e' | e'
     ·obtain ⟨p, hp, hpy⟩ := List.mem_map.mp e'
      have e3 := ok.ix p hp
      have : p.1 = y := hpy
      rw [this] at e3
      exact hne (List.mem_map.mpr ⟨p, hp, nodup_ix hN e3 e1⟩)
     ·exact e' (List.mem_of_getElem? e1)
    rcases r with rfl | ⟨rfl, rfl⟩
    ·rcases hk' with rfl | rfl | rfl
     ·exact absurd (.inl rfl) no
     ·exact absurd (.inr rfl) no
     ·exact ⟨e, .inr hk0⟩
    ·exact ⟨e, .inl hk0⟩
   have e3 : Vis cenv.scope y := e3
   rcases e3 with e3 | e3 | e3
   ·exact key _ e3 (.inl rfl)
   ·exact key _ e3 (.inr (.inl rfl))
   ·exact key _ e3 (.inr (.inr rfl))
  obtain ⟨m, hn, hl⟩ := I.loc
  have hvis : Vis X.env.scope y := (ok.free _ (PySem.mem_of_lookup hfr.1) rfl).elim (fun k => .inr (.inl k)) (fun k => .inr (.inr k))
  obtain ⟨w, r, q⟩ := hl i y av e1 e2 hvis
  refine ⟨w, r, .inr ⟨hfr.2, ?_⟩⟩
  obtain ⟨c, h1, h2⟩ := look hfr.1
  rcases q with ⟨k, _⟩ | ⟨_, c', e', z⟩
  ·have k : X.env.scope.names.lookup y = some .local := k
   rcases ok.free _ (PySem.mem_of_lookup hfr.1) rfl with k' | k' <;> rw [show X.env.scope.names.lookup y = _ from k'] at k <;> cases k
  ·rw [h2] at e'; cases e'
   exact ⟨c, h1, z.keeps kp⟩
 ·have e : cenv.cells.lookup y = some c := e
  rcases mem e with ⟨h1, _⟩ | ⟨_, z⟩
  ·obtain ⟨w, z⟩ := I.cell y c h1
   exact ⟨w, z.keeps kp⟩
  ·exact ⟨_, z⟩
 ·show H cenv.locals = none
  rw [hL]; exact I.hok.fresh (Nat.le_refl _)
 ·have e : cenv.cells.lookup y = some c := e
  rcases mem e with ⟨h1, _⟩ | ⟨h1, _⟩
  ·exact I.freeC y c h1
  ·exact I.hok.fresh (Nat.le_of_succ_le h1)
 ·exact absurd (show p ∈ ([] : List (Addr × Obj)) ++ [] from hp) (by simp)
theorem app_ok {E : Value → Shared → Prop} {D : Addr} {xs : List V} {y : V} {v : Value} {Q : Value → Shared → Prop} (I : Inv X pins σ H s) (hD : H D = some (.lst xs)) (hz : xs.length < sizeLine) (r : RelV y v)
  (h : ∀ s', Inv X pins σ (upd H D (.lst (xs ++ [y]))) s' → Q .none s') : wpAny (model X.prog X.w) X.A (call (.builtin "list.append") [.ref D, v]) Q E s := by
 obtain ⟨hz', its, n, ri, e⟩ := I.hok D _ hD
 have hl := ri.length
 refine append_at (hsz := by rw [List.size_toArray]; omega) e fun h' sb ho' => ?_
 refine h { s with heap := h' } (I.write (t' := s.toks) (by rw [hD]; trivial) (.inl rfl) (fun b u hb q => (sb.2 b hb).trans q) ⟨_, ho'⟩ ⟨by rw [List.length_append]; exact hz, its ++ [v], n + 1, ri.append (.cons r .nil), ?_⟩)
 rw [ho']
 simp
def PTs (X : Cx) (ifs : List Expr) (t : TT) : Prop :=
 ∀ (pins : List (Addr × Obj)) (s : Shared) (σ : St) (H : Hp) (Q : Bool → Hp → Prop), Inv X pins σ H s → t σ H Q →
  wpAny (model X.prog X.w) X.A (forIn ifs true fun c r => if r = true then do let ok ← isTrue c X.env (eval c X.env); pure (ForInStep.yield ok) else pure (ForInStep.yield r)) (TP X pins σ Q) X.xe s
def tYes : TT := fun _ H Q => Q true H
theorem pts_nil : PTs X [] tYes := fun _ _ _ H _ I h => wpAny_tests_nil ⟨H, I, h⟩
theorem pts_one {c : Expr} {t : TT} (h : PT X c t) : PTs X [c] t := fun pins s σ H Q I hw => wpAny_tests_one (h pins s σ H Q I hw)
end
theorem thnF {α : Type} {t : Sem α} {Q Q' : α → Shared → Prop} {M : Model} {A : Around} {E : Value → Shared → Prop} {s : Shared} (h : wpAny M A t Q (fun _ _ => False) s) (hQ : ∀ a s, Q a s → Q' a s) : wpAny M A t Q' E s := wpAny_mono h hQ fun _ _ z => False.elim z
theorem compLoop_any {prog : Program} {w : World} {A : Around} {R : Result → Shared → Prop} {s : Shared} {elt target iter : Expr} {ifs : List Expr} {scope : Scope} {pos : Pos} {it acc : Value} {env : Env} (I : Nat → Shared → Prop)
  (turn : ∀ n s, I n s → wpAny (model prog w) A (pyNext it) (fun r s₁ => match r with
   | none => R (.ok .next) s₁
   | some v => wpAny (model prog w) A (letOwnedTupleGo target it v) (fun _ s₁' => wpAny (model prog w) A (assign target env v) (fun _ s₂ =>
     wpAny (model prog w) A (forIn ifs true fun c r => if r = true then do let ok ← isTrue c env (eval c env); pure (ForInStep.yield ok) else pure (ForInStep.yield r)) (fun ok s₃ =>
      if ok = true then wpAny (model prog w) A (eval elt env) (fun x s₄ =>
       wpAny (model prog w) A (call (.builtin "list.append") [acc, x]) (fun _ s₅ => ∃ m, m < n ∧ I m s₅) (notedBy (model prog w) A env fun e s' => R (.error e) s') s₄) (notedBy (model prog w) A env fun e s' => R (.error e) s') s₃
      else ∃ m, m < n ∧ I m s₃) (notedBy (model prog w) A env fun e s' => R (.error e) s') s₂) (notedBy (model prog w) A env fun e s' => R (.error e) s') s₁') (notedBy (model prog w) A env fun e s' => R (.error e) s') s₁) (notedBy (model prog w) A env fun e s' => R (.error e) s') s)
  (n : Nat) (h : I n s) :
  codeAny (model prog w) A (.compLoop (.ListComp elt [⟨target, iter, ifs, 0⟩] scope pos) 0 it acc env) R s := by
 refine codeAny_loop rfl I (fun n s hI => ?_) n h
 show wpAny _ A ((compTurn (.ListComp elt [⟨target, iter, ifs, 0⟩] scope pos) 0 it acc env).onRaise (fun x => do noteFrame x env; theTreesLotGoes x)) _ _ s
 refine wpAny_noted ?_
 rw [compTurn_list]
 refine wpAny_bind (wpAny_standAt (wpAny_bind (wpAny_mono (turn n s hI) (fun r s₁ h₁ => ?_) fun _ _ h' => h')))
 cases r with
 | none => exact wpAny_pure h₁
 | some v =>
  refine wpAny_bind (wpAny_mono h₁ (fun _ s₁' h₁' => ?_) fun _ _ h' => h')
  refine wpAny_bind (wpAny_mono h₁' (fun _ s₂ h₂ => wpAny_bind (wpAny_mono h₂ (fun ok s₃ h₃ => ?_) fun _ _ h' => h')) fun _ _ h' => h')
  cases ok with
  | false => exact wpAny_pure ⟨rfl, h₃⟩
  | true =>
   exact wpAny_bind (wpAny_bind (wpAny_mono h₃ (fun x s₄ h₄ => wpAny_bind (wpAny_mono h₄ (fun _ s₅ h₅ => wpAny_pure (wpAny_pure ⟨rfl, h₅⟩)) fun _ _ h' => h')) fun _ _ h' => h'))
section
variable {X : Cx}
def tLc (wi : TI) (g : TG) (tt : TT) (te : TE) (vs : List Nat) : TE := fun σ H Q => wi σ H fun J H1 => ∀ D, H1 D = none → ∃ W : Nat → Nat → Hp → Prop, (∃ m, W 0 m (upd H1 D (.lst []))) ∧ ∀ i m H, W i m H →
 (J.stop i H ∧ Q (.ref D) H) ∨ (J.go i H ∧ ∃ Nx : Hp → Prop, (∀ H', Nx H' → ∃ m', m' < m ∧ W (i + 1) m' H') ∧ ∀ x H', J.yld i H x H' → g x (wipe σ vs) H' fun σ2 H2 => wipe σ2 vs = wipe σ vs ∧ tt σ2 H2 fun b H3 =>
  if b = true then te σ2 H3 fun y H4 => ∃ acc, H4 D = some (.lst acc) ∧ acc.length < sizeLine ∧ Nx (upd H4 D (.lst (acc ++ [y]))) else Nx H3)
theorem lc_core {pins : List (Addr × Obj)} {s : Shared} {σ : St} {H : Hp} {Q : VK} {elt tg iter : Expr} {ifs : List Expr} {scope : Scope} {own : List (Str × Nat)} {pos pos' : Pos} {wi : TI} {g : TG} {tt : TT} {te : TE} {use : Option (Value → Sem Unit)} {Qf : Value → Shared → Prop}
  (hc : X.calm = true) (hN : X.N.Nodup) (I : Inv X pins σ H s) (hi : PI X tg iter wi) (ok : BlkOk X.N X.env.scope scope own)
  (hg : ∀ (s : Shared) (H : Hp) (C : Addr) (cl : List (Str × Addr)) (fp : List Addr), PG (X.blk s H scope (compEnvC scope cl C X.env) fp) tg g) (ht : ∀ (s : Shared) (H : Hp) (C : Addr) (cl : List (Str × Addr)) (fp : List Addr), PTs (X.blk s H scope (compEnvC scope cl C X.env) fp) ifs tt)
  (he : ∀ (s : Shared) (H : Hp) (C : Addr) (cl : List (Str × Addr)) (fp : List Addr), PE (X.blk s H scope (compEnvC scope cl C X.env) fp) elt te) (hs : ∀ x, foldedSetIterable iter X.env x = pure x)
  (h : tLc wi g tt te (own.map (·.2)) σ H Q)
  (hRR : ∀ D C s' m H', Inv X pins σ H' s' → Q (.ref D) H' → s'.heap.Ns C m → FpOk X pins H' C → compPost (model X.prog X.w) X.A X.xe use Qf (.ref D) C (.ok .next) s') :
  wpAny (model X.prog X.w) X.A (comprehension (.ListComp elt [⟨tg, iter, ifs, 0⟩] scope pos) scope X.env pos' (newList []) false (eval iter X.env) use) Qf X.xe s := by
 have hfree : ∀ y ∈ scope.names, y.2 = .free → ∃ c, X.env.cells.lookup y.1 = some c := fun y hy e => by
  rcases ok.free y hy e with k | k
  ·exact I.ok.has _ (.inl k)
  ·exact I.ok.has _ (.inr k)
 refine wpAny_comprehension_free (use := use) rfl hs (closure_ok hfree) ok.kind (fun y hy e => by rw [ok.uniq y hy, e])
  (thn (hi pins s σ H _ I h) fun xv s1 hx => thn hx fun itv s2 h2 => ?_)
 obtain ⟨it, fp, tn, J, H2, e, I2, T, st2, f2, q⟩ := h2
 subst e
 refine wpAny_newObj_type (newEnv_comp ?_) (by show 0 ≤ sizeLine; decide)
 generalize hD : s2.heap.objs.size = D
 have hDn : H2 D = none := I2.hok.fresh (Nat.le_of_eq hD)
 obtain ⟨W, ⟨m0, w0⟩, turn⟩ := q D hDn
 generalize hs3 : ({ s2 with heap := s2.heap.push { cls := .type "list", data := .seq ([] : List Value).toArray } } : Shared) = s3
 have I3 : Inv X pins σ (upd H2 D (.lst [])) s3 := by
  rw [← hs3]
  refine I2.laid (t' := s2.toks) (fun b o e => Heap.get?_push_of_some _ e) (Nat.le_of_eq hD) ⟨Nat.zero_le _, [], 0, .nil, ?_⟩
  rw [← hD]
  exact Heap.get?_push_size _ rfl
 have h3 : s3.heap = s2.heap.push { cls := .type "list", data := .seq ([] : List Value).toArray } := by rw [← hs3]
 have sz : ∀ b ∈ fp, b < s2.heap.objs.size := fun b hb => by
  obtain ⟨o, e, _⟩ := T.obj _ _ st2 b hb
  exact Heap.lt_size e
 have f3 : ∀ b ∈ fp, FpOk X pins (upd H2 D (.lst [])) b ∧ b < s3.heap.objs.size := fun b hb => by
  have hlt := sz b hb
  refine ⟨⟨?_, (f2 b hb).2⟩, by rw [h3, Heap.size_push]; exact Nat.lt_succ_of_lt hlt⟩
  rw [upd_ne (by rw [← hD]; exact Nat.ne_of_lt hlt)]
  exact (f2 b hb).1
 have st3 : tn 0 s3.heap := T.keep _ _ _ st2 fun b _ o e => by rw [h3]; exact Heap.get?_push_of_some _ e
 have I4 := block_start I3 ok hN f3
 have pg := hg s3 (upd H2 D (.lst [])) s3.heap.objs.size (cellsFrom (s3.heap.objs.size + 1) scope.names (cloFrom X.env.cells scope.names [])) fp
 have pt := ht s3 (upd H2 D (.lst [])) s3.heap.objs.size (cellsFrom (s3.heap.objs.size + 1) scope.names (cloFrom X.env.cells scope.names [])) fp
 have pe := he s3 (upd H2 D (.lst [])) s3.heap.objs.size (cellsFrom (s3.heap.objs.size + 1) scope.names (cloFrom X.env.cells scope.names [])) fp
 show codeAny _ _ (.compStart (.ListComp elt [⟨tg, iter, ifs, 0⟩] scope pos) 0 (.ref it) (.ref D) (compEnvC scope (cellsFrom (s3.heap.objs.size + 1) scope.names (cloFrom X.env.cells scope.names [])) s3.heap.objs.size X.env)) (compPost (model X.prog X.w) X.A X.xe use Qf (.ref D) s3.heap.objs.size) { s3 with heap := pushCells (s3.heap.push { cls := .type "dict", data := .dict #[] }) scope.names }
 have nfp : ∀ b ∈ fp, (upd H2 D (.lst [])) b = none := fun b hb => (f3 b hb).1.1
 generalize hce : compEnvC scope (cellsFrom (s3.heap.objs.size + 1) scope.names (cloFrom X.env.cells scope.names [])) s3.heap.objs.size X.env = ce at I4 pg pt pe ⊢
 have cL : ce.locals = s3.heap.objs.size := by subst hce; rfl
 generalize hH3 : upd H2 D (.lst []) = H3 at I3 I4 pg pt pe w0 nfp f3
 generalize hs4 : ({ s3 with heap := pushCells (s3.heap.push { cls := .type "dict", data := .dict #[] }) scope.names } : Shared) = s4 at I4 ⊢
 have st4 : tn 0 s4.heap := T.keep _ _ _ st3 fun b _ o e => by rw [← hs4]; exact pushCells_keeps _ _ _ _ (Heap.get?_push_of_some _ e)
 have stat : ∀ {σ' : St} {H' : Hp} {s' : Shared}, Inv (X.blk s3 H3 scope ce fp) [] σ' H' s' → (∀ b ∈ fp, H' b = none) → ∀ b ∈ fp, FpOk (X.blk s3 H3 scope ce fp) [] H' b := fun {σ' H' s'} I' hn b hb =>
  ⟨hn b hb, (I'.ok.exf b hb).1, I'.ok.exfs b hb, .inl hb, fun x c e => (I'.ok.exf b hb).2 x c e, fun p hp => absurd (show p ∈ ([] : List (Addr × Obj)) ++ [] from hp) (by simp)⟩
 have loop : codeAny (model X.prog X.w) X.A (.compLoop (.ListComp elt [⟨tg, iter, ifs, 0⟩] scope pos) 0 (.ref it) (.ref D) ce) (compPost (model X.prog X.w) X.A X.xe use Qf (.ref D) s3.heap.objs.size) s4 := by
  refine compLoop_any (fun n s' => ∃ i H', Inv (X.blk s3 H3 scope ce fp) [] (wipe σ (own.map (·.2))) H' s' ∧ tn i s'.heap ∧ (∀ b ∈ fp, H' b = none) ∧ W i n H') ?_ m0 ⟨0, H3, I4, st4, nfp, w0⟩
  rintro n s5 ⟨i, H5, I5, st5, n5, w5⟩
  rcases turn i n H5 w5 with ⟨stop, qq⟩ | ⟨go, Nx, hNx, step⟩
  ·have td := T.done (X.blk s3 H3 scope ce fp) rfl rfl rfl hc i [] s5 _ H5 (fun _ _ => False) I5 (stat I5 n5) st5 stop
   refine thnF td fun r s6 ⟨hr, I6⟩ => ?_
   subst hr
   have I7 : Inv X pins σ H5 s6 := I3.call' (ch := fp) I6.os I6.base I6.hok I6.bare fun b hb => ⟨(f3 b hb).1.2.2.2.1, (f3 b hb).1.2.1, (f3 b hb).1.2.2.2.2.1, (f3 b hb).1.2.2.2.2.2⟩
   have nC : H5 s3.heap.objs.size = none := by
    have z : H5 ce.locals = none := I6.free
    rw [cL] at z
    exact z
   obtain ⟨m, hn, _⟩ := I6.loc
   have hn : s6.heap.Ns ce.locals m := hn
   rw [cL] at hn
   exact hRR D s3.heap.objs.size s6 m H5 I7 qq hn (I3.fpOk (Nat.le_refl _) nC)
  ·have ti := T.item (X.blk s3 H3 scope ce fp) rfl rfl rfl hc i [] s5 _ H5 (fun _ _ => False) I5 (stat I5 n5) st5 go
   refine thnF ti fun r s6 ⟨u, hr, h6⟩ => ?_
   subst hr
   refine thnF h6 fun _ s7 ⟨x, H7, I7, r7, y7, st7, n7⟩ => ?_
   have I7' := I7.pinned (stat I7 n7) (T.obj _ _ st7)
   refine thnF (pg _ s7 _ H7 x u _ I7' r7 (step x H7 y7)) fun _ s8 ⟨σ8, H8, I8, hw8, q8⟩ => ?_
   refine thnF (pt _ s8 σ8 H8 _ I8 q8) fun b s9 ⟨H9, I9, q9⟩ => ?_
   have fin : ∀ {s' : Shared} {H' : Hp}, Inv (X.blk s3 H3 scope ce fp) ([] ++ pinsAt fp s7.heap) σ8 H' s' → Nx H' → ∃ m, m < n ∧ ∃ i H', Inv (X.blk s3 H3 scope ce fp) [] (wipe σ (own.map (·.2))) H' s' ∧ tn i s'.heap ∧ (∀ b ∈ fp, H' b = none) ∧ W i m H' := fun {s' H'} I' nx => by
    obtain ⟨m', hm, w'⟩ := hNx H' nx
    have pin' : ∀ b ∈ fp, ∀ o, s7.heap.get? b = some o → s'.heap.get? b = some o ∧ H' b = none := fun b hb o e =>
     let z := I'.pin (b, o) (List.mem_append_right _ (List.mem_append_right _ (mem_pinsAt hb e)))
     ⟨z.1, z.2.1⟩
    have hl : (wipe σ (own.map (·.2))).length = σ8.length := by rw [← hw8, wipe_length]
    refine ⟨m', hm, i + 1, H', (I'.unpinned (pins := [])).weak hl (fun j v e => ?_), T.keep _ _ _ st7 fun b hb o e => (pin' b hb o e).1, fun b hb => ?_, w'⟩
    ·rw [← hw8] at e
     exact (wipe_some e).1
    ·obtain ⟨o, e, _⟩ := T.obj _ _ st7 b hb
     exact (pin' b hb o e).2
   cases b with
   | false =>
    simp only [Bool.false_eq_true, if_false] at q9 ⊢
    exact fin I9 q9
   | true =>
    simp only [if_true] at q9 ⊢
    refine thnF (pe _ s9 σ8 H9 _ I9 q9) fun z s10 ⟨yv, H10, I10, r10, acc, hD10, hz10, nx⟩ => ?_
    exact app_ok (X := X.blk s3 H3 scope ce fp) I10 hD10 hz10 r10 fun s11 I11 => fin I11 nx
 exact codeAny_compStart_list loop (T.self X.A 0 _ _ _ st4 loop)
theorem pe_lc {elt tg iter : Expr} {ifs : List Expr} {scope : Scope} {own : List (Str × Nat)} {pos : Pos} {wi : TI} {g : TG} {tt : TT} {te : TE} (hc : X.calm = true) (hN : X.N.Nodup) (hi : PI X tg iter wi) (ok : BlkOk X.N X.env.scope scope own)
  (hg : ∀ (s : Shared) (H : Hp) (C : Addr) (cl : List (Str × Addr)) (fp : List Addr), PG (X.blk s H scope (compEnvC scope cl C X.env) fp) tg g) (ht : ∀ (s : Shared) (H : Hp) (C : Addr) (cl : List (Str × Addr)) (fp : List Addr), PTs (X.blk s H scope (compEnvC scope cl C X.env) fp) ifs tt)
  (he : ∀ (s : Shared) (H : Hp) (C : Addr) (cl : List (Str × Addr)) (fp : List Addr), PE (X.blk s H scope (compEnvC scope cl C X.env) fp) elt te) (hs : ∀ x, foldedSetIterable iter X.env x = pure x := by intro _; rfl) :
  PE X (.ListComp elt [⟨tg, iter, ifs, 0⟩] scope pos) (tLc wi g tt te (own.map (·.2))) := by
 intro pins s σ H Q I h
 rw [eval_ListComp]
 refine lc_core hc hN I hi ok hg ht he hs h fun D C s' m H' I' q hn f => ⟨m, hn, fun h'' sb => ?_⟩
 obtain ⟨f0, f1, f2, f3, f4, f5⟩ := f
 exact ⟨.ref D, H', I'.turned (t' := s'.toks) (fun b o hb e => (sb.2 b hb).trans e) f0 f1 f3 f4 f5, rfl, q⟩
theorem ps_setLc {i : Nat} {y : Str} {py : Pos} {elt tg iter : Expr} {ifs : List Expr} {scope : Scope} {own : List (Str × Nat)} {pos spos : Pos} {wi : TI} {g : TG} {tt : TT} {te : TE} (hc : X.calm = true) (hN : X.N.Nodup) (hy : X.N[i]? = some y) (hyl : X.env.scope.names.lookup y = some .local)
  (hsw : swapsWith (.ListComp elt [⟨tg, iter, ifs, 0⟩] scope pos) (some (.Name y py)) spos.line X.env = pure true) (hi : PI X tg iter wi) (ok : BlkOk X.N X.env.scope scope own)
  (hg : ∀ (s : Shared) (H : Hp) (C : Addr) (cl : List (Str × Addr)) (fp : List Addr), PG (X.blk s H scope (compEnvC scope cl C X.env) fp) tg g) (ht : ∀ (s : Shared) (H : Hp) (C : Addr) (cl : List (Str × Addr)) (fp : List Addr), PTs (X.blk s H scope (compEnvC scope cl C X.env) fp) ifs tt)
  (he : ∀ (s : Shared) (H : Hp) (C : Addr) (cl : List (Str × Addr)) (fp : List Addr), PE (X.blk s H scope (compEnvC scope cl C X.env) fp) elt te) (hs : ∀ x, foldedSetIterable iter X.env x = pure x := by intro _; rfl) :
  PS X (.Assign [.Name y py] (.ListComp elt [⟨tg, iter, ifs, 0⟩] scope pos) spos) (tAsg (tLc wi g tt te (own.map (·.2))) (gName i)) := by
 intro pins s σ H D I h
 rw [exec_Assign_Name_used _ _ _ _ hsw]
 refine wpAny_bind (wpAny_standAt (wpAny_bind ?_))
 show wpAny _ X.A (do let _ ← comprehension (.ListComp elt [⟨tg, iter, ifs, 0⟩] scope pos) scope X.env (firstIterPos [⟨tg, iter, ifs, 0⟩] pos) (newList []) false (eval iter X.env) (some (assign (.Name y py) X.env))) _ _ s
 have h : tLc wi g tt te (own.map (·.2)) σ H (fun x H1 => gName i x σ H1 D.nx) := h
 refine wpAny_bind (thn (lc_core (Qf := fun _ s' => SP X pins D .next s') hc hN I hi ok hg ht he hs h fun L C s' m H' I' q hn f => ?_) fun _ s' hq => wpAny_pure (wpAny_pure hq))
 show wpAny _ _ (assign (.Name y py) X.env (.ref L)) _ _ _
 refine wpAny_assign_Name (store_ok2 (v := V.ref L) I' hN hy (.inl hyl) rfl (fun s2 I2 ⟨a, sb, ha⟩ => ?_) (.inr hyl))
 obtain ⟨f0, f1, f2, f3, f4, f5⟩ := f
 have haC : C ≠ a := by
  rcases ha with z | z
  ·rw [z]; exact f1
  ·exact fun e => f4 y a z e.symm
 refine ⟨m, hn.sameBut sb haC, fun h3 sb3 => ?_⟩
 exact ⟨_, H', I2.turned (t' := s2.toks) (fun b o hb e => (sb3.2 b hb).trans e) f0 f1 f3 f4 f5, q⟩
theorem sw_true {elt : Expr} {gs : List Comprehension} {scope : Scope} {pos py : Pos} {y : Str} {l : Nat} {env : Env} (hk : env.scope.kind = .function) (hy : env.scope.names.lookup y = some .local) (hl : (py.line == pos.line) = true)
  (ha : (scope.names.any fun (n, k) => n == y && (k == .local || k == .cell)) = false) : swapsWith (.ListComp elt gs scope pos) (some (.Name y py)) l env = pure true := by
 have ky : env.kindOf y = some .local := hy
 have hb : env.blockKind = .function := by unfold Env.blockKind; rw [hk]; rfl
 unfold swapsWith
 simp only [hb, ky, ha, Expr.pos, hl]
 rfl
end
theorem lc_range {lo : Int} {n : Nat} {g : TG} {tt : TT} {te : TE} {vs : List Nat} {σ : St} {H1 : Hp} {D : Addr} {Qd : Hp → Prop} (Pv : Nat → Hp → Prop) (h0 : Pv 0 (upd H1 D (.lst [])))
  (hs : ∀ i H, i < n → Pv i H → g (.int (lo + i)) (wipe σ vs) H fun σ2 H2 => wipe σ2 vs = wipe σ vs ∧ tt σ2 H2 fun b H3 =>
   if b = true then te σ2 H3 fun y H4 => ∃ acc, H4 D = some (.lst acc) ∧ acc.length < sizeLine ∧ Pv (i + 1) (upd H4 D (.lst (acc ++ [y]))) else Pv (i + 1) H3) (hd : ∀ H, Pv n H → Qd H) :
  ∃ W : Nat → Nat → Hp → Prop, (∃ m, W 0 m (upd H1 D (.lst []))) ∧ ∀ i m H, W i m H →
   ((Itr lo n).stop i H ∧ Qd H) ∨ ((Itr lo n).go i H ∧ ∃ Nx : Hp → Prop, (∀ H', Nx H' → ∃ m', m' < m ∧ W (i + 1) m' H') ∧ ∀ x H', (Itr lo n).yld i H x H' → g x (wipe σ vs) H' fun σ2 H2 => wipe σ2 vs = wipe σ vs ∧ tt σ2 H2 fun b H3 =>
    if b = true then te σ2 H3 fun y H4 => ∃ acc, H4 D = some (.lst acc) ∧ acc.length < sizeLine ∧ Nx (upd H4 D (.lst (acc ++ [y]))) else Nx H3) := by
 refine ⟨fun i m H => m = n - i ∧ i ≤ n ∧ Pv i H, ⟨n, by simp, Nat.zero_le _, h0⟩, ?_⟩
 rintro i m H ⟨rfl, hi, p⟩
 by_cases hlt : i < n
 ·refine .inr ⟨hlt, Pv (i + 1), fun H' p' => ⟨n - (i + 1), by omega, rfl, hlt, p'⟩, fun x H' y => ?_⟩
  obtain ⟨e, y⟩ := y
  subst e y
  exact hs i _ hlt p
 ·have e : i = n := by omega
  subst e
  exact .inl ⟨Nat.le_refl _, hd H p⟩
theorem lc_list {K : PySem.W.Frag} {a : Addr} {xs : List V} {g : TG} {tt : TT} {te : TE} {vs : List Nat} {σ : St} {H1 : Hp} {D : Addr} {Qd : Hp → Prop} (Pv : Nat → Hp → Prop) (h0 : Pv 0 (upd H1 D (.lst []))) (hl : ∀ i H, i ≤ xs.length → Pv i H → SqL K H a xs)
  (hs : ∀ i x H, xs[i]? = some x → Pv i H → g x (wipe σ vs) H fun σ2 H2 => wipe σ2 vs = wipe σ vs ∧ tt σ2 H2 fun b H3 =>
   if b = true then te σ2 H3 fun y H4 => ∃ acc, H4 D = some (.lst acc) ∧ acc.length < sizeLine ∧ Pv (i + 1) (upd H4 D (.lst (acc ++ [y]))) else Pv (i + 1) H3) (hd : ∀ H, Pv xs.length H → Qd H) :
  ∃ W : Nat → Nat → Hp → Prop, (∃ m, W 0 m (upd H1 D (.lst []))) ∧ ∀ i m H, W i m H →
   ((Itl K a).stop i H ∧ Qd H) ∨ ((Itl K a).go i H ∧ ∃ Nx : Hp → Prop, (∀ H', Nx H' → ∃ m', m' < m ∧ W (i + 1) m' H') ∧ ∀ x H', (Itl K a).yld i H x H' → g x (wipe σ vs) H' fun σ2 H2 => wipe σ2 vs = wipe σ vs ∧ tt σ2 H2 fun b H3 =>
    if b = true then te σ2 H3 fun y H4 => ∃ acc, H4 D = some (.lst acc) ∧ acc.length < sizeLine ∧ Nx (upd H4 D (.lst (acc ++ [y]))) else Nx H3) := by
 refine ⟨fun i m H => m = xs.length - i ∧ i ≤ xs.length ∧ Pv i H, ⟨xs.length, by simp, Nat.zero_le _, h0⟩, ?_⟩
 rintro i m H ⟨rfl, hi, p⟩
 have q := hl i H hi p
 by_cases hlt : i < xs.length
 ·refine .inr ⟨⟨xs, xs[i], q, by simp [hlt]⟩, Pv (i + 1), fun H' p' => ⟨xs.length - (i + 1), by omega, rfl, hlt, p'⟩, fun x H' y => ?_⟩
  obtain ⟨e, y⟩ := y
  subst e
  exact hs i x _ (y xs q) p
 ·have e : i = xs.length := by omega
  subst e
  exact .inl ⟨⟨xs, q, Nat.le_refl _⟩, hd H p⟩
def blkC (N : List Str) (sc scope : Scope) (own : List (Str × Nat)) : Bool :=
 (match scope.kind with | .function => true | _ => false) && (scope.names.all fun y => decide (scope.names.lookup y.1 = some y.2)) && (own.all fun p => decide (N[p.2]? = some p.1)) &&
  (scope.names.all fun y => match y.2 with
   | .free => (match sc.names.lookup y.1 with | some .cell => true | some .free => true | _ => false)
   | .local => decide (y.1 ∈ own.map (·.1)) || decide (y.1 ∉ N)
   | .cell => decide (y.1 ∈ own.map (·.1)) || decide (y.1 ∉ N)
   | _ => true)
theorem blkOk_by {N : List Str} {sc scope : Scope} {own : List (Str × Nat)} (h : blkC N sc scope own = true) : BlkOk N sc scope own := by
 unfold blkC at h
 simp only [Bool.and_eq_true, List.all_eq_true, decide_eq_true_eq] at h
 obtain ⟨⟨⟨h1, h2⟩, h3⟩, h4⟩ := h
 refine ⟨?_, h2, h3, fun y hy e => ?_, fun y hy e => ?_⟩
 ·split at h1
  ·assumption
  ·cases h1
 ·have q := h4 y hy
  simp only [e] at q
  split at q <;> first | exact .inl (by assumption) | exact .inr (by assumption) | cases q
 ·have q := h4 y hy
  rcases e with e | e <;> (simp only [e, Bool.or_eq_true, decide_eq_true_eq] at q; exact q)
end L2
namespace L2
open PySem PySem.Spec PyProof.Rows
section
variable {prog : Program} {w : World} {A : Around} {R : Result → Shared → Prop} {s : Shared} {elt t0 i0 t1 i1 : Expr} {ifs0 ifs1 : List Expr} {scope : Scope} {pos : Pos} {it acc : Value} {env : Env}
end
section
variable {X : Cx}
end
end L2
namespace L2
open PySem PySem.Spec PyProof.Rows
section
variable {κ : Type} [DecidableEq κ]
def valV (kvs : List (κ × V)) (k : κ) : Option V := (kvs.find? fun kv => decide (kv.1 = k)).map (·.2)
def putK (kvs : List (κ × V)) (k : κ) (v : V) : List (κ × V) :=
 if (kvs.any fun kv => decide (kv.1 = k)) = true then kvs.map (fun kv => if kv.1 = k then (kv.1, v) else kv) else kvs ++ [(k, v)]
theorem valV_nil {k : κ} : valV ([] : List (κ × V)) k = none := rfl
theorem valV_pos {p : κ × V} {r : List (κ × V)} {k : κ} (e : p.1 = k) : valV (p :: r) k = some p.2 := by simp [valV, List.find?_cons, e]
theorem valV_neg {p : κ × V} {r : List (κ × V)} {k : κ} (e : ¬ p.1 = k) : valV (p :: r) k = valV r k := by simp [valV, List.find?_cons, e]
theorem valV_any (k : κ) : ∀ kvs : List (κ × V), (kvs.any fun kv => decide (kv.1 = k)) = (valV kvs k).isSome
 | [] => rfl
 | p :: r => by
  rw [List.any_cons]
  by_cases e : p.1 = k
  ·simp only [valV_pos e, decide_eq_true e, Bool.true_or, Option.isSome_some]
  ·rw [valV_neg e, decide_eq_false e, Bool.false_or]; exact valV_any k r
theorem valV_map (k j : κ) (y : V) : ∀ kvs : List (κ × V), valV (kvs.map fun kv => if kv.1 = k then (kv.1, y) else kv) j = (valV kvs j).map fun x => if j = k then y else x
 | [] => rfl
 | p :: r => by
  have ih := valV_map k j y r
  rw [List.map_cons]
  by_cases h : p.1 = k
  ·rw [if_pos h]
   by_cases e : p.1 = j
   ·rw [valV_pos (p := (p.1, y)) e, valV_pos e, Option.map_some, if_pos (e.symm.trans h)]
   ·rw [valV_neg (p := (p.1, y)) e, valV_neg e, ih]
  ·rw [if_neg h]
   by_cases e : p.1 = j
   ·rw [valV_pos (p := p) e, valV_pos e, Option.map_some, if_neg (fun z => h (e.trans z))]
   ·rw [valV_neg (p := p) e, valV_neg e, ih]
theorem valV_snoc (k j : κ) (y : V) : ∀ kvs : List (κ × V), valV kvs k = none → valV (kvs ++ [(k, y)]) j = if j = k then some y else valV kvs j
 | [], _ => by
  by_cases e : k = j
  ·rw [if_pos e.symm]; exact valV_pos (p := (k, y)) e
  ·rw [if_neg (fun z => e z.symm)]; exact valV_neg (p := (k, y)) e
 | p :: r, hn => by
  rw [List.cons_append]
  have hk : ¬ p.1 = k := fun z => by rw [valV_pos z] at hn; cases hn
  rw [valV_neg hk] at hn
  have ih := valV_snoc k j y r hn
  by_cases e : p.1 = j
  ·rw [valV_pos e, valV_pos e, if_neg (fun z => hk (e.trans z))]
  ·rw [valV_neg e, valV_neg e, ih]
theorem valV_put (kvs : List (κ × V)) (k j : κ) (y : V) : valV (putK kvs k y) j = if j = k then some y else valV kvs j := by
 unfold putK
 by_cases a : (kvs.any fun kv => decide (kv.1 = k)) = true
 ·rw [if_pos a, valV_map]
  rw [valV_any] at a
  by_cases e : j = k
  ·obtain ⟨x, hx⟩ := Option.isSome_iff_exists.mp a
   rw [if_pos e, e, hx, Option.map_some, if_pos rfl]
  ·rw [if_neg e]
   cases valV kvs j with
   | none => rfl
   | some x => rw [Option.map_some, if_neg e]
 ·rw [if_neg a]
  refine valV_snoc k j y kvs ?_
  rw [valV_any] at a
  cases q : valV kvs k with
  | none => rfl
  | some x => rw [q] at a; exact (a rfl).elim
theorem length_putK (kvs : List (κ × V)) (k : κ) (v : V) : (putK kvs k v).length ≤ kvs.length + 1 := by
 unfold putK
 split
 ·rw [List.length_map]; omega
 ·rw [List.length_append, List.length_cons, List.length_nil]; omega
theorem RelO.isSome_eq {o : Option V} {u : Option Value} (r : RelO o u) : o.isSome = u.isSome := by
 cases o with
 | none => cases u with
  | none => rfl
  | some _ => exact (show False from r).elim
 | some _ => cases u with
  | none => exact (show False from r).elim
  | some _ => rfl
theorem KV.val {kvs : List (κ × V)} {vs : List (κ × Value)} (r : KV kvs vs) (k : κ) : RelO (valV kvs k) (valueAt vs k) := by
 unfold KV at r
 induction r with
 | nil => exact True.intro
 | @cons p q ps qs h t ih =>
  obtain ⟨h1, h2⟩ := h
  by_cases e : p.1 = k
  ·have e' : q.1 = k := h1.symm.trans e
   have b : valueAt (q :: qs) k = some q.2 := by simp [valueAt, List.find?_cons, e']
   rw [valV_pos e, b]; exact h2
  ·have e' : ¬ q.1 = k := fun z => e (h1.trans z)
   have b : valueAt (q :: qs) k = valueAt qs k := by simp [valueAt, List.find?_cons, e']
   rw [valV_neg e, b]; exact ih
theorem KV.any {kvs : List (κ × V)} {vs : List (κ × Value)} (r : KV kvs vs) (k : κ) : (kvs.any fun kv => decide (kv.1 = k)) = vs.any fun kv => decide (kv.1 = k) := by
 unfold KV at r
 induction r with
 | nil => rfl
 | cons h t ih => rw [List.any_cons, List.any_cons, ih, h.1]
theorem KV.repl {kvs : List (κ × V)} {vs : List (κ × Value)} (r : KV kvs vs) (k : κ) {y : V} {u : Value} (ry : RelV y u) :
  KV (kvs.map fun kv => if kv.1 = k then (kv.1, y) else kv) (vs.map fun kv => if kv.1 = k then (kv.1, u) else kv) := by
 unfold KV at r ⊢
 induction r with
 | nil => exact .nil
 | @cons p q ps qs h t ih =>
  rw [List.map_cons, List.map_cons]
  refine .cons ?_ ih
  obtain ⟨h1, h2⟩ := h
  by_cases e : p.1 = k
  ·rw [if_pos e, if_pos (h1.symm.trans e)]; exact ⟨h1, ry⟩
  ·rw [if_neg e, if_neg (fun z => e (h1.trans z))]; exact ⟨h1, h2⟩
theorem KV.put {kvs : List (κ × V)} {vs : List (κ × Value)} (r : KV kvs vs) (k : κ) {y : V} {u : Value} (ry : RelV y u) : KV (putK kvs k y) (stored vs k u) := by
 unfold putK stored
 rw [r.any k]
 by_cases e : (vs.any fun kv => decide (kv.1 = k)) = true
 ·rw [if_pos e, if_pos e]; exact r.repl k ry
 ·rw [if_neg e, if_neg e]; exact Paired.snoc r ⟨rfl, ry⟩
theorem KV.length {kvs : List (κ × V)} {vs : List (κ × Value)} (r : KV kvs vs) : kvs.length = vs.length := Paired.length r
end
theorem kV_is {P : Program} {w : World} {k : Key} {u : Value} (r : RelV (kV k) u) : (mixKind P w).is k u = true := by
 cases k with
 | inl i => obtain ⟨t, e⟩ := (show ∃ t, u = Value.int i t from r); subst e; exact mixKind_int P w i t
 | inr x => obtain ⟨t, e⟩ := (show ∃ t, u = Value.str x t from r); subst e; exact mixKind_str P w x t
theorem items_are {P : Program} {w : World} : ∀ {ks : List Key} {us : List Value}, Vals (ks.map kV) us → ItemsAre (mixKind P w) ks us
 | [], _, r => by rw [List.map_nil] at r; cases r; exact .nil
 | k :: ks, _, r => by
  rw [List.map_cons] at r
  cases r with
  | cons h t => exact .cons (kV_is h) (items_are t)
abbrev KT (H : Hp) : List (List Key × V) → List (List Key × Addr × Value) → Prop := Paired fun p q => p.1 = q.1 ∧ H q.2.1 = some (.tup (p.1.map kV)) ∧ RelV p.2 q.2.2
theorem KT.val {H : Hp} {kvs : List (List Key × V)} {xs : List (List Key × Addr × Value)} (r : KT H kvs xs) (k : List Key) : RelO (valV kvs k) ((atKey xs k).map (·.2)) := by
 induction r with
 | nil => exact True.intro
 | @cons p q ps qs h t ih =>
  obtain ⟨h1, _, h2⟩ := h
  by_cases e : p.1 = k
  ·have e' : q.1 = k := h1.symm.trans e
   have b : atKey (q :: qs) k = some q.2 := by simp [atKey, List.find?_cons, e']
   rw [valV_pos e, b]; exact h2
  ·have e' : ¬ q.1 = k := fun z => e (h1.trans z)
   have b : atKey (q :: qs) k = atKey qs k := by simp [atKey, List.find?_cons, e']
   rw [valV_neg e, b]; exact ih
theorem KT.repl {H : Hp} {kvs : List (List Key × V)} {xs : List (List Key × Addr × Value)} (r : KT H kvs xs) (k : List Key) {y : V} {u : Value} (ry : RelV y u) :
  KT H (kvs.map fun kv => if kv.1 = k then (kv.1, y) else kv) (xs.map (putAt k u)) := by
 induction r with
 | nil => exact .nil
 | @cons p q ps qs h t ih =>
  rw [List.map_cons, List.map_cons]
  refine .cons ?_ ih
  obtain ⟨h1, h2, h3⟩ := h
  unfold putAt
  by_cases e : p.1 = k
  ·rw [if_pos e, if_pos (h1.symm.trans e)]; exact ⟨h1, h2, ry⟩
  ·rw [if_neg e, if_neg (fun z => e (h1.trans z))]; exact ⟨h1, h2, h3⟩
theorem KT.put {H : Hp} {kvs : List (List Key × V)} {xs : List (List Key × Addr × Value)} (r : KT H kvs xs) (k : List Key) {b : Addr} {y : V} {u : Value} (hb : H b = some (.tup (k.map kV))) (ry : RelV y u) :
  KT H (putK kvs k y) (storedH xs k b u) := by
 have e : (kvs.any fun kv => decide (kv.1 = k)) = (atKey xs k).isSome := by
  rw [valV_any, (r.val k).isSome_eq, Option.isSome_map]
 unfold putK storedH
 rw [e]
 by_cases q : (atKey xs k).isSome = true
 ·rw [if_pos q, if_pos q]; exact r.repl k ry
 ·rw [if_neg q, if_neg q]; exact Paired.snoc r ⟨rfl, hb, ry⟩
theorem KT.keeps {H H' : Hp} {kvs : List (List Key × V)} {xs : List (List Key × Addr × Value)} (r : KT H kvs xs) (ht : ∀ b ys, H b = some (.tup ys) → H' b = some (.tup ys)) : KT H' kvs xs :=
 Paired.mapP r fun _ _ z => ⟨z.1, ht _ _ z.2.1, z.2.2⟩
section
variable {P : Program} {w : World} {H : Hp} {h : Heap} {a : Addr}
theorem rd_of {u : HO} (ok : HOk P w H h) (e : Rd H a u) : ObjOk P w H h a u := e.ok ok
theorem dk_rd {kvs : List (Key × V)} (ok : HOk P w H h) (e : Rd H a (.dK kvs)) : kvs.length ≤ sizeLine ∧ (a == sysModules) = false ∧ ∃ vs, KV kvs vs ∧ h.DictOf (mixKind P w) a vs :=
 show ObjOk P w H h a (.dK kvs) from rd_of ok e
theorem dk_of {kvs : List (Key × V)} (ok : HOk P w H h) (e : H a = some (.dK kvs)) : kvs.length ≤ sizeLine ∧ (a == sysModules) = false ∧ ∃ vs, KV kvs vs ∧ h.DictOf (mixKind P w) a vs := dk_rd ok (.inl e)
theorem key_of {ks : List Key} (ok : HOk P w H h) (e : H a = some (.tup (ks.map kV))) : (tupleKind (mixKind P w)).is h ks a := by
 obtain ⟨_, its, r, o, h1, h2, n, h3⟩ := (show ObjOk P w H h a (.tup (ks.map kV)) from ok a _ e)
 exact ⟨o, its.toArray, n, h1, h2, h3, by simpa using items_are r⟩
theorem dt_rd {kvs : List (List Key × V)} (ok : HOk P w H h) (e : Rd H a (.dT kvs)) : kvs.length ≤ sizeLine ∧ (a == sysModules) = false ∧
  ∃ xs, KT H kvs xs ∧ h.DictOfH (tupleKind (mixKind P w)) a xs := by
 obtain ⟨z, y, xs, r, o, es, ep, h1, h2, h3, h4, h5⟩ := (show ObjOk P w H h a (.dT kvs) from rd_of ok e)
 refine ⟨z, y, xs, r, o, es, ep, h1, h2, h3, h4, fun x hx => ?_, h5⟩
 have all : ∀ {l : List (List Key × V)} {m : List (List Key × Addr × Value)}, KT H l m → ∀ x ∈ m, (tupleKind (mixKind P w)).is h x.1 x.2.1 := by
  intro l m q
  induction q with
  | nil => intro x hx; exact nomatch hx
  | @cons p q ps qs hq t ih =>
   intro x hx
   rcases List.mem_cons.mp hx with e | hx
   ·subst e
    exact key_of ok (by rw [← hq.1]; exact hq.2.1)
   ·exact ih x hx
 exact all r x hx
theorem dt_of {kvs : List (List Key × V)} (ok : HOk P w H h) (e : H a = some (.dT kvs)) : kvs.length ≤ sizeLine ∧ (a == sysModules) = false ∧
  ∃ xs, KT H kvs xs ∧ h.DictOfH (tupleKind (mixKind P w)) a xs := dt_rd ok (.inl e)
end
def DGet (H : Hp) (a : Addr) (y : V) (r : Option V) : Prop :=
 (∃ kvs k, Rd H a (.dK kvs) ∧ y = kV k ∧ r = valV kvs k) ∨ ∃ kvs k b, Rd H a (.dT kvs) ∧ y = .ref b ∧ H b = some (.tup (k.map kV)) ∧ r = valV kvs k
def DPut (H : Hp) (a : Addr) (y v : V) (H' : Hp) : Prop :=
 (∃ kvs k, H a = some (.dK kvs) ∧ y = kV k ∧ kvs.length < sizeLine ∧ H' = upd H a (.dK (putK kvs k v))) ∨
 ∃ kvs k b, H a = some (.dT kvs) ∧ y = .ref b ∧ H b = some (.tup (k.map kV)) ∧ kvs.length < sizeLine ∧ H' = upd H a (.dT (putK kvs k v))
theorem DGet.k {H : Hp} {a : Addr} {kvs : List (Key × V)} {k : Key} (e : H a = some (.dK kvs)) : DGet H a (kV k) (valV kvs k) := .inl ⟨kvs, k, .inl e, rfl, rfl⟩
theorem DPut.k {H : Hp} {a : Addr} {kvs : List (Key × V)} {k : Key} {v : V} (e : H a = some (.dK kvs)) (hl : kvs.length < sizeLine) : DPut H a (kV k) v (upd H a (.dK (putK kvs k v))) := .inl ⟨kvs, k, e, rfl, hl, rfl⟩
section
variable {X : Cx} {pins : List (Addr × Obj)} {σ : St} {H : Hp} {s : Shared} {a : Addr} {y v : V} {u r : Value} {o : Option V} {A : Around} {E : Value → Shared → Prop}
theorem Inv.big (I : Inv X pins σ H s) : sysModules < s.heap.objs.size := by
 have h : mainGlobals < s.heap.objs.size := (I.mod.glob.keeps I.bk).lt
 exact Nat.lt_trans (by decide) h
theorem d_getItem {Q : Value → Shared → Prop} (hu : A.units + 1 < cLine) (I : Inv X pins σ H s) (g : DGet H a y (some v)) (ry : RelV y u) (h : ∀ w' s', Inv X pins σ H s' → RelV v w' → Q w' s') :
  wpAny (model X.prog X.w) A (getItem (.ref a) u) Q E s := by
 rcases g with ⟨kvs, k, e, ey, l⟩ | ⟨kvs, k, b, e, ey, eb, l⟩
 ·subst ey
  obtain ⟨z, hd, vs, rel, dd⟩ := dk_rd I.hok e
  obtain ⟨w', hw, rw'⟩ := RelO.some_of (v := v) (o := valueAt vs k) (by rw [l]; exact rel.val k)
  exact wpAny_getItem_of (kV_is ry) dd.mapOf hw (h w' _ (I.tok _) rw')
 ·subst ey
  cases (show u = Value.ref b from ry)
  obtain ⟨z, hd, xs, rel, dd⟩ := dt_rd I.hok e
  obtain ⟨w', hw, rw'⟩ := RelO.some_of (v := v) (o := (atKey xs k).map (·.2)) (by rw [l]; exact rel.val k)
  obtain ⟨p, hp, hp2⟩ := Option.map_eq_some_iff.mp hw
  refine wpAny_getItem_heap (tupleKind_room_in1 hu) (key_of I.hok eb) dd hp ?_
  rw [hp2]
  exact h w' _ (I.tok _) rw'
theorem d_in {Q : Value → Shared → Prop} (hu : A.units + 1 < cLine) (I : Inv X pins σ H s) (g : DGet H a y o) (ry : RelV y u) (h : ∀ s', Inv X pins σ H s' → Q (.bool o.isSome) s') :
  wpAny (model X.prog X.w) A (compareOp .In u (.ref a)) Q E s := by
 rcases g with ⟨kvs, k, e, ey, l⟩ | ⟨kvs, k, b, e, ey, eb, l⟩
 ·subst ey
  obtain ⟨z, hd, vs, rel, dd⟩ := dk_rd I.hok e
  refine wpAny_in_of (kV_is ry) hd dd.mapOf ?_
  rw [← (rel.val k).isSome_eq, ← l]
  exact h _ (I.tok _)
 ·subst ey
  cases (show u = Value.ref b from ry)
  obtain ⟨z, hd, xs, rel, dd⟩ := dt_rd I.hok e
  refine wpAny_in_heap (tupleKind_room_in1 hu) (key_of I.hok eb) hd dd ?_
  have q := (rel.val k).isSome_eq
  rw [Option.isSome_map] at q
  rw [← q, ← l]
  exact h _ (I.tok _)
theorem d_write {h' : Heap} {t' : Nat} {ob : HO} (I : Inv X pins σ H s) (mu : Mut (H a)) (hs : Heap.SameBut a s.heap h') (he : ∃ q, h'.get? a = some q) (new : ObjOk X.prog X.w (upd H a ob) h' a ob) :
  Inv X pins σ (upd H a ob) { s with heap := h', toks := t' } :=
 I.write (x := a) (e := a) mu (.inl rfl) (fun b q hb z => (hs.2 b hb).trans z) he new
theorem dk_new {P : Program} {w : World} {H' : Hp} {h' : Heap} {kvs : List (Key × V)} {vs : List (Key × Value)} (z : kvs.length ≤ sizeLine) (hd : (a == sysModules) = false) (rel : KV kvs vs) (dd : h'.DictOf (mixKind P w) a vs) :
  ObjOk P w H' h' a (.dK kvs) := ⟨z, hd, vs, rel, dd⟩
theorem d_setItem {H' : Hp} {Q : Unit → Shared → Prop} (hu : A.units + 1 < cLine) (I : Inv X pins σ H s) (g : DPut H a y v H') (ry : RelV y u) (rv : RelV v r) (h : ∀ s', Inv X pins σ H' s' → Q () s') :
  wpAny (model X.prog X.w) A (setItem (.ref a) u r) Q E s := by
 rcases g with ⟨kvs, k, e, ey, l, eH⟩ | ⟨kvs, k, b, e, ey, eb, l, eH⟩
 ·subst ey eH
  obtain ⟨z, hd, vs, rel, dd⟩ := dk_of I.hok e
  have hz : vs.length ≤ sizeLine := by rw [← rel.length]; exact z
  have hl : (putK kvs k v).length ≤ sizeLine := by have := length_putK kvs k v; omega
  refine wpAny_setItem_pairs (hsz := hz) (kV_is ry) dd fun h' dd' hs => h _ ?_
  have he : ∃ q, h'.get? a = some q := let ⟨q, _, _, hq, _⟩ := dd'; ⟨q, hq⟩
  exact d_write I (by rw [e]; exact True.intro) hs he (dk_new hl hd (rel.put k rv) dd')
 ·subst ey eH
  cases (show u = Value.ref b from ry)
  obtain ⟨z, hd, xs, rel, dd⟩ := dt_of I.hok e
  have hz : xs.length ≤ sizeLine := by rw [← Paired.length rel]; exact z
  have hl : (putK kvs k v).length ≤ sizeLine := by have := length_putK kvs k v; omega
  refine wpAny_setItem_heap (hsz := hz) (tupleKind_room_in1 hu) (key_of I.hok eb) dd fun h' dd' hs => h _ ?_
  obtain ⟨q, es, ep, hq, h2, h3, h4, _, h5⟩ := dd'
  refine d_write I (by rw [e]; exact True.intro) hs ⟨q, hq⟩ ⟨hl, hd, _, (rel.put k eb rv).keeps fun c ys ec => ?_, q, es, ep, hq, h2, h3, h4, h5⟩
  rw [upd_ne (ne_of ec e (fun z => nomatch z))]
  exact ec
end
section
variable {X : Cx} {pins : List (Addr × Obj)} {σ : St} {H : Hp} {s : Shared} {a : Addr} {kvs : List (Key × V)} {k : Key} {u : Value} {A : Around} {E : Value → Shared → Prop}
end
def NoSl (i : Expr) : Prop := ∀ ov iv, subscripted i false ov iv = operate [ov, iv] (getItem ov iv)
theorem subD_of {prog : Program} {w : World} {A : Around} {E : Value → Shared → Prop} {s : Shared} {env : Env} {value slice : Expr} {pos : Pos} {T id : String} {Q : Value → Shared → Prop}
  (hl : typeLookup (.type T) "__getitem__" = pure (some (.builtin id))) (hs : NoSl slice)
  (h : wpAny (model prog w) A (eval value env) (fun o s₁ => wpAny (model prog w) A (eval slice env) (fun i s₂ => s₂.TypeIs o T ∧ wpAny (model prog w) A (getItem o i) Q E s₂) E s₁) E s) :
  wpAny (model prog w) A (eval (.Subscript value slice pos) env) Q E s := by
 refine Subscript_ (wpAny_mono h (fun o s₁ h₁ => wpAny_mono h₁ (fun i s₂ h₂ => ?_) fun _ _ x => x) fun _ _ x => x)
 obtain ⟨hT, h₂⟩ := h₂
 unfold subscriptTail
 refine wpAny_bind ?_
 rw [getitemInPython_of_ne hT.not_modules]
 refine wpAny_bind (wpAny_specialOf hT hl ?_)
 have fin : wpAny (model prog w) A (subscripted slice false o i) (fun r s₃ => wpAny (model prog w) A (letTemporaryGo value o r >>= fun _ => pure r) Q E s₃) E s₂ := by
  rw [hs o i]
  exact wpAny_operating (wpAny_mono h₂ (fun r s₃ h₃ => wpAny_bind (wpAny_letTemporaryGo (wpAny_pure h₃))) fun _ _ x => x)
 first
  | exact wpAny_pure (wpAny_bind fin)
  | exact wpAny_bind (wpAny_pure (wpAny_bind fin))
  | exact wpAny_bind fin
theorem dict_typeIs {X : Cx} {pins : List (Addr × Obj)} {σ : St} {H : Hp} {s : Shared} {a : Addr} {y : V} {o : Option V} (I : Inv X pins σ H s) (g : DGet H a y o) : s.TypeIs (.ref a) "dict" := by
 rcases g with ⟨kvs, k, e, _, _⟩ | ⟨kvs, k, b, e, _, _, _⟩
 ·obtain ⟨_, _, vs, _, dd⟩ := dk_rd I.hok e
  exact dd.typeIs
 ·obtain ⟨_, _, xs, _, dd⟩ := dt_rd I.hok e
  exact dd.typeIs
def tDGet (td ty : TE) : TE := fun σ H Q => td σ H fun x H1 => ty σ H1 fun y H2 => ∃ a v, x = .ref a ∧ DGet H2 a y (some v) ∧ Q v H2
def tDIn (ty td : TE) : TE := fun σ H Q => ty σ H fun y H1 => td σ H1 fun x H2 => ∃ a o, x = .ref a ∧ DGet H2 a y o ∧ Q (.bl o.isSome) H2
def sDPut (td ty tv : TE) : TS := fun D σ H => tv σ H fun v H1 => td σ H1 fun x H2 => ty σ H2 fun y H3 => ∃ a H4, x = .ref a ∧ DPut H3 a y v H4 ∧ D.nx σ H4
section
variable {X : Cx} {o i e value : Expr} {pos pos' tpos : Pos} {td ty tv : TE}
theorem pe_dget (hu : X.A.units + 1 < cLine) (ho : PE X o td) (hi : PE X i ty) (hs : NoSl i) : PE X (.Subscript o i pos) (tDGet td ty) := by
 intro pins s σ H Q I h
 refine subD_of PySem.F.slot_dict_getitem.lookup hs (thn (ho pins s σ H _ I h) fun u s1 ⟨x, H1, I1, rx, q1⟩ => thn (hi pins s1 σ H1 _ I1 q1) fun iv s2 ⟨y, H2, I2, ry, a, v, ex, g, q2⟩ => ?_)
 subst ex
 obtain rfl : u = Value.ref a := rx
 exact ⟨dict_typeIs I2 g, d_getItem hu I2 g ry fun w' s3 I3 rw' => ⟨v, H2, I3, rw', q2⟩⟩
theorem pc_din (hu : X.A.units + 1 < cLine) (hi : PE X i ty) (ho : PE X o td) : PC X .In i o (tDIn ty td) := by
 intro pins s σ H Q I h
 refine thn (hi pins s σ H _ I h) fun iv s1 ⟨y, H1, I1, ry, q1⟩ => thn (ho pins s1 σ H1 _ I1 q1) fun u s2 ⟨x, H2, I2, rx, a, ov, ex, g, q2⟩ => ?_
 subst ex
 obtain rfl : u = Value.ref a := rx
 exact d_in hu I2 g ry fun s3 I3 => ⟨.bl ov.isSome, H2, I3, rfl, q2⟩
theorem ps_dput (hu : X.A.units + 1 < cLine) (ho : PE X o td) (hi : PE X i ty) (hv : PE X value tv) (hs : swapsWith value (some (.Subscript o i pos')) pos.line X.env = pure false) :
  PS X (.Assign [.Subscript o i pos'] value pos) (sDPut td ty tv) := by
 intro pins s σ H D I h
 refine wpAny_Assign_Subscript (thn (hv pins s σ H _ I h) fun r s1 ⟨v, H1, I1, rv, q1⟩ => thn (ho pins s1 σ H1 _ I1 q1) fun u s2 ⟨x, H2, I2, rx, q2⟩ => thn (hi pins s2 σ H2 _ I2 q2) fun iv s3 ⟨y, H3, I3, ry, a, H4, ex, g, q3⟩ => ?_) hs
 subst ex
 obtain rfl : u = Value.ref a := rx
 exact d_setItem hu I3 g ry rv fun s4 I4 => ⟨σ, H4, I4, q3⟩
end
theorem dk_empty {P : Program} {w : World} {H : Hp} (h : Heap) (hb : sysModules < h.objs.size) : ObjOk P w H (h.push { cls := .type "dict", data := .dict #[] }) h.objs.size (.dK []) :=
 ⟨Nat.zero_le _, beq_eq_false_iff_ne.mpr (Ne.symm (Nat.ne_of_lt hb)), [], .nil, Heap.DictOf.new h⟩
def tDNewK : TE := fun _ H Q => ∀ p, H p = none → Q (.ref p) (upd H p (.dK []))
section
variable {X : Cx} {pos : Pos}
theorem pe_dnewK : PE X (.Dict [] [] pos) tDNewK := fun pins s σ H Q I h =>
 wpAny_Dict_empty ⟨.ref s.heap.objs.size, _, I.laid (a := s.heap.objs.size) (o := .dK []) (t' := s.toks) (fun _ _ q => Heap.get?_push_of_some _ q) (Nat.le_refl _) (dk_empty s.heap I.big), rfl, h _ (I.hok.fresh (Nat.le_refl _))⟩
end
def tPairs : List (TE × TE) → St → Hp → (List (V × V) → Hp → Prop) → Prop
 | [], _, H, Q => Q [] H
 | (tk, tv) :: r, σ, H, Q => tk σ H fun x H1 => tv σ H1 fun y H2 => tPairs r σ H2 fun ps H3 => Q ((x, y) :: ps) H3
abbrev VV : List (V × V) → List (Value × Value) → Prop := Paired fun p q => RelV p.1 q.1 ∧ RelV p.2 q.2
def PPs (X : Cx) (pos : Pos) (keys : List (Option Expr)) (values : List Expr) (trs : List (TE × TE)) : Prop :=
 ∀ (pins : List (Addr × Obj)) (s : Shared) (σ : St) (H : Hp) (Q : List (V × V) → Hp → Prop), Inv X pins σ H s → tPairs trs σ H Q →
  wpAny (model X.prog X.w) X.A (evalPairs (pairTrees keys values X.env pos)) (fun vs s' => ∃ ps H', Inv X pins σ H' s' ∧ VV ps vs ∧ Q ps H') X.xe s
theorem pps_nil {X : Cx} {pos : Pos} : PPs X pos [] [] [] := fun pins s σ H Q I h => pairTrees_nil_walk ⟨[], H, I, .nil, h⟩
theorem pps_cons {X : Cx} {pos : Pos} {k v : Expr} {ks : List (Option Expr)} {vs : List Expr} {tk tv : TE} {trs : List (TE × TE)} (hk : PE X k tk) (hv : PE X v tv) (hr : PPs X pos ks vs trs) :
  PPs X pos (some k :: ks) (v :: vs) ((tk, tv) :: trs) := fun pins s σ H Q I h =>
 pairTrees_cons_walk (thn (hk pins s σ H _ I h) fun u s1 ⟨x, H1, I1, rx, q1⟩ => thn (hv pins s1 σ H1 _ I1 q1) fun w2 s2 ⟨y, H2, I2, ry, q2⟩ =>
  thn (hr pins s2 σ H2 _ I2 q2) fun ws s3 ⟨ps, H3, I3, rel, q3⟩ => ⟨(x, y) :: ps, H3, I3, .cons ⟨rx, ry⟩ rel, q3⟩)
def mergeK (kvs more : List (Key × V)) : List (Key × V) := more.foldl (fun acc kv => putK acc kv.1 kv.2) kvs
theorem KV.merge : ∀ {more : List (Key × V)} {rs : List (Key × Value)} {kvs : List (Key × V)} {vs : List (Key × Value)}, KV more rs → KV kvs vs → KV (mergeK kvs more) (merged vs rs) := by
 intro more rs kvs vs r
 unfold KV at r
 induction r generalizing kvs vs with
 | nil => intro q; exact q
 | @cons p q ps qs h t ih =>
  intro r0
  have e : KV (putK kvs p.1 p.2) (stored vs q.1 q.2) := by
   have := r0.put p.1 h.2
   rw [← h.1]; exact this
  exact ih e
theorem length_mergeK : ∀ (more kvs : List (Key × V)), (mergeK kvs more).length ≤ kvs.length + more.length
 | [], kvs => by show kvs.length ≤ kvs.length + 0; omega
 | p :: r, kvs => by
  have h1 := length_mergeK r (putK kvs p.1 p.2)
  have h2 := length_putK kvs p.1 p.2
  show (mergeK (putK kvs p.1 p.2) r).length ≤ _
  rw [List.length_cons]; omega
theorem carries_of {P : Program} {w : World} : ∀ {kvs : List (Key × V)} {ws : List (Value × Value)}, VV (kvs.map fun kv => (kV kv.1, kv.2)) ws → ∃ rs, Carries (mixKind P w) ws rs ∧ KV kvs rs
 | [], _, r => by rw [List.map_nil] at r; cases r; exact ⟨[], True.intro, .nil⟩
 | p :: kvs, _, r => by
  rw [List.map_cons] at r
  cases r with
  | @cons a b as bs h t =>
   obtain ⟨rs, c, q⟩ := carries_of (P := P) (w := w) t
   obtain ⟨b1, b2⟩ := b
   exact ⟨(p.1, b2) :: rs, ⟨kV_is h.1, rfl, c⟩, .cons ⟨rfl, h.2⟩ q⟩
def tDisp (trs : List (TE × TE)) : TE := fun σ H Q => ∀ p, H p = none → tPairs trs σ (upd H p (.dK [])) fun ps H2 => H2 p = some (.dK []) ∧ ∃ kvs : List (Key × V), ps = kvs.map (fun kv => (kV kv.1, kv.2)) ∧ kvs.length ≤ 15 ∧ Q (.ref p) (upd H2 p (.dK (mergeK [] kvs)))
theorem pe_disp {X : Cx} {pos : Pos} {keys : List (Option Expr)} {values : List Expr} {trs : List (TE × TE)} (h : PPs X pos keys values trs) (hall : keys.all (·.isSome) = true) (hl : keys.length = values.length) (h0 : keys ≠ [])
  (h15 : keys.length ≤ 15) : PE X (.Dict keys values pos) (tDisp trs) := by
 intro pins s σ H Q I q
 have hn := I.hok.fresh (Nat.le_refl s.heap.objs.size)
 have I1 := I.laid (a := s.heap.objs.size) (o := .dK []) (h' := s.heap.push { cls := .type "dict", data := .dict #[] }) (t' := s.toks) (fun _ _ q => Heap.get?_push_of_some _ q) (Nat.le_refl _) (dk_empty s.heap I.big)
 refine wpAny_Dict_walk (knd := mixKind X.prog X.w) hall hl h0 h15 (thn (h pins _ σ _ _ I1 (q _ hn)) fun ws s2 ⟨ps, H2, I2, rel, e, kvs, ep, lk, q2⟩ => ?_)
 subst ep
 obtain ⟨rs, c, rk⟩ := carries_of (P := X.prog) (w := X.w) rel
 obtain ⟨z, hd, vs0, r0, dd⟩ := dk_of I2.hok e
 cases r0
 refine ⟨rs, c, dd, fun h' dd' hs => ⟨.ref s.heap.objs.size, _, ?_, rfl, q2⟩⟩
 have hz : (mergeK [] kvs).length ≤ sizeLine := by
  have h1 := length_mergeK kvs []
  rw [List.length_nil] at h1
  rw [sizeLine_eq]; omega
 have he : ∃ q, h'.get? s.heap.objs.size = some q := let ⟨q, _, _, hq, _⟩ := dd'; ⟨q, hq⟩
 exact d_write I2 (by rw [e]; exact True.intro) hs he (dk_new hz hd (rk.merge .nil) dd')
section
variable {X : Cx} {pins : List (Addr × Obj)} {σ : St} {H : Hp} {s : Shared} {a : Addr} {y d : V} {u r : Value} {o : Option V} {A : Around} {E : Value → Shared → Prop}
end
section
variable {X : Cx} {o e f : Expr} {apos cpos : Pos} {td ty tx : TE}
end
section
variable {X : Cx} {pins : List (Addr × Obj)} {σ : St} {H : Hp} {s : Shared} {a : Addr} {kvs : List (Key × V)} {A : Around} {E : Value → Shared → Prop}
end
section
variable {X : Cx} {pins : List (Addr × Obj)} {σ : St} {H : Hp} {s : Shared} {a : Addr} {y : V} {u : Value} {A : Around} {E : Value → Shared → Prop}
end
end L2
namespace L2
open PySem PySem.Spec PyProof.Rows
section
variable {prog : Program} {w : World} {A : Around} {E : Value → Shared → Prop}
end
section
variable {X : Cx}
end
end L2
namespace L2
open PySem PySem.Spec PyProof.Rows
section
variable {X : Cx} {pins : List (Addr × Obj)} {σ : St} {H : Hp} {s : Shared} {h' : Heap}
theorem Inv.turnedL {t' : Nat} {ch : List Addr} (I : Inv X pins σ H s) (k : ∀ b o, b ∉ ch → s.heap.get? b = some o → h'.get? b = some o) (hf : ∀ b ∈ ch, FpOk X pins H b) : Inv X pins σ H { s with heap := h', toks := t' } := by
 have nit : ∀ b u, H b = some u → b ∉ ch := fun b u e z => by
  have q := (hf b z).1
  rw [q] at e; cases e
 refine I.step (g' := s.gens) (d' := s.drawn) (ch := ch) (fun b hb => ⟨(hf b hb).2.2.2.1, (hf b hb).2.1, (hf b hb).2.2.2.2.1, (hf b hb).2.2.2.2.2⟩) (fun b o _ _ hc e _ => k b o hc e) (fun b o _ _ hc e _ => ⟨o.slots, k b o hc e⟩)
  (fun _ _ _ _ n => n) (fun b o hc e => ⟨o, k b o hc e⟩) (fun _ _ e => e) (fun _ _ _ e => e) (fun b ps e => ⟨#[], by rw [e]; simp⟩) (fun m hm => ?_) (fun b u e => ?_) I.bare
 ·obtain ⟨o, es, ep, ho, r⟩ := hm
  exact ⟨o, es, ep, k _ o (fun z => (hf _ z).2.1 rfl) ho, r⟩
 ·refine (I.hok b u e).stay (fun c v hc q => k c v ?_ q) (fun _ q => q) fun _ _ q => q
  rcases hc with z | z
  ·rw [z]; exact nit b u e
  ·exact nit c _ z
theorem Inv.turnedNew {t' : Nat} {ch : List Addr} {T : Addr} {ob : HO} (I : Inv X pins σ H s) (k : ∀ b o, b ∉ ch → s.heap.get? b = some o → h'.get? b = some o) (hf : ∀ b ∈ ch, FpOk X pins H b) (hT : s.heap.objs.size ≤ T)
  (new : ObjOk X.prog X.w (upd H T ob) h' T ob) : Inv X pins σ (upd H T ob) { s with heap := h', toks := t' } := by
 have hn : H T = none := I.hok.fresh hT
 have nit : ∀ b u, H b = some u → b ∉ ch := fun b u e z => by
  have q := (hf b z).1
  rw [q] at e; cases e
 refine I.step (g' := s.gens) (d' := s.drawn) (ch := ch) (fun b hb => ⟨(hf b hb).2.2.2.1, (hf b hb).2.1, (hf b hb).2.2.2.2.1, (hf b hb).2.2.2.2.2⟩) (fun b o _ _ hc e _ => k b o hc e) (fun b o _ _ hc e _ => ⟨o.slots, k b o hc e⟩)
  (fun b o _ e n => ?_) (fun b o hc e => ⟨o, k b o hc e⟩) (fun b xs e => ?_) (fun b o u e => ?_) (fun b ps e => ⟨#[], ?_⟩) (fun m hm => ?_) (fun b u e => ?_) I.bare
 ·rw [upd_ne (Nat.ne_of_lt (Nat.lt_of_lt_of_le (Heap.lt_size e) hT))]; exact n
 ·rw [upd_ne (ne_of_none e hn)]; exact e
 ·rw [upd_ne (ne_of_none e hn)]; exact e
 ·rw [upd_ne (ne_of_none e hn), e]; simp
 ·obtain ⟨o, es, ep, ho, r⟩ := hm
  exact ⟨o, es, ep, k _ o (fun z => (hf _ z).2.1 rfl) ho, r⟩
 ·by_cases hb : b = T
  ·subst hb
   rw [upd_same] at e
   cases e
   exact new
  ·rw [upd_ne hb] at e
   refine (I.hok b u e).stay (fun c v hc q => k c v ?_ q) (fun c q => by rw [upd_ne (ne_of_none q hn)]; exact q) fun c xs q => by rw [upd_ne (ne_of_none q hn)]; exact q
   rcases hc with z | z
   ·rw [z]; exact nit b u e
   ·exact nit c _ z
end
section
variable {X : Cx}
end
section
variable {X : Cx} {tg : Expr}
end
section
variable {X : Cx} {tg : Expr}
end
section
variable {prog : Program} {w : World} {A : Around} {E : Value → Shared → Prop} {s : Shared}
end
section
variable {X : Cx} {pins : List (Addr × Obj)} {σ : St} {H : Hp} {s : Shared} {d : Addr} {o : Obj}
end
section
variable {P : Program} {w : World} {K : PySem.W.Frag} {tg : Expr} {d : Addr} {o : Obj} {es : Array DictEntry} {ep : Nat}
end
section
variable {X : Cx} {tg e : Expr} {td : TE} {apos cpos : Pos}
end
def Ite (K : PySem.W.Frag) (a : Addr) : It :=
 ⟨fun i H => ∃ (xs : List V) (x : V), SqL K H a xs ∧ xs[i]? = some x, fun i H v H' => ∃ T x, v = .ref T ∧ H T = none ∧ H' = upd H T (.tup [.int (i : Nat), x]) ∧ ∀ xs, SqL K H a xs → xs[i]? = some x, fun i H => ∃ xs : List V, SqL K H a xs ∧ xs.length ≤ i⟩
theorem turn_enum {P : Program} {w : World} {K : PySem.W.Frag} {elts : List Expr} {kk : Nat} {tpos : Pos} (a e it : Addr) :
  Turn P w K (.Tuple elts kk tpos) (Ite K a) [e, it] e (fun i h => (∃ old, IsEnum h e it ((i : Nat) : Int) old) ∧ h.IsListIter it a i ∧ e ≠ it) where
 mem := by simp
 obj := fun i h st b hb => by
  obtain ⟨⟨old, he⟩, ⟨o, ho, hc, hd⟩, _⟩ := st
  have e' : b = e ∨ b = it := by simpa using hb
  rcases e' with z | z
  ·rw [z]; exact ⟨_, he, fun v q => nomatch q⟩
  ·rw [z]; exact ⟨o, ho, fun v q => by rw [hd] at q; cases q⟩
 keep := fun i h h' st k => let ⟨⟨old, he⟩, hi, hne⟩ := st; ⟨⟨old, k e (by simp) _ he⟩, hi.at fun o q => k it (by simp) o q, hne⟩
 item := by
  intro X hP hw hK hc i pins s σ H E I hf st hg
  subst hP hw hK
  obtain ⟨⟨old, he⟩, hit, hne⟩ := st
  obtain ⟨xs, x, hq, hx⟩ := hg
  obtain ⟨its, rv, p, hz⟩ := I.list hq
  obtain ⟨u, hu, ru⟩ := rv.get hx
  have hel : e < s.heap.objs.size := Heap.lt_size he
  have hil : it < s.heap.objs.size := by obtain ⟨_, q, _⟩ := hit; exact Heap.lt_size q
  refine wpAny_pyNext_enum_item he hit p.isList (x := u) (by simpa using hu) hne fun h' ho hit' hT hsz hk => ?_
  refine ⟨_, rfl, wpAny_letOwnedTupleGo_enum (s := { s with heap := h', toks := s.toks + 1 }) ho fun h'' he' sb => ?_⟩
  have hT2 : h''.get? s.heap.objs.size = some { cls := .type "tuple", data := .seq #[.int i s.toks, u] } := (sb.2 _ (Nat.ne_of_gt hel)).trans hT
  have new : ObjOk X.prog X.w (upd H s.heap.objs.size (.tup [.int (i : Nat), x])) h'' s.heap.objs.size (.tup [.int (i : Nat), x]) :=
   ⟨by show 2 ≤ sizeLine; decide, [.int i s.toks, u], .cons ⟨_, rfl⟩ (.cons ru .nil), ⟨_, hT2, rfl, _, rfl⟩⟩
  have I1 : Inv X pins σ (upd H s.heap.objs.size (.tup [.int (i : Nat), x])) { s with heap := h'', toks := s.toks + 1 } :=
   I.turnedNew (ch := [e, it]) (fun b ob hb q => (sb.2 b (fun z => hb (by simp [z]))).trans (hk b ob (fun z => hb (by simp [z])) (fun z => hb (by simp [z])) q)) hf (Nat.le_refl _) new
  refine ⟨.ref s.heap.objs.size, _, I1, rfl, ⟨_, x, rfl, I.hok.fresh (Nat.le_refl _), rfl, fun ys hy => by rw [I.list_inj hy hq]; exact hx⟩, ⟨⟨u, ?_⟩, hit'.at fun o q => (sb.2 it (Ne.symm hne)).trans q, hne⟩, fun b hb => ?_⟩
  ·have e1 : ((i + 1 : Nat) : Int) = (i : Int) + 1 := by omega
   rw [e1]; exact he'
  ·have hb' : b < s.heap.objs.size := by
    have e' : b = e ∨ b = it := by simpa using hb
    rcases e' with z | z
    ·rw [z]; exact hel
    ·rw [z]; exact hil
   rw [upd_ne (Nat.ne_of_lt hb')]
   exact (hf b hb).1
 done := by
  intro X hP hw hK hc i pins s σ H E I hf st hg
  subst hP hw hK
  obtain ⟨⟨old, he⟩, hit, hne⟩ := st
  obtain ⟨xs, hq, hx⟩ := hg
  obtain ⟨its, rv, p, hz⟩ := I.list hq
  obtain ⟨f0, f1, f2, f3, f4, f5⟩ := hf it (by simp)
  have hl := rv.length
  exact wpAny_pyNext_enum_end (I.ok.hd hc) he hit p.isList (by simp; omega) fun h' eb => ⟨rfl, I.turned (t' := s.toks) (fun b o hb q => eb b o hb q) f0 f1 f3 f4 f5⟩
 self := fun A i s Q E st h => let ⟨⟨_, he⟩, _⟩ := st; wpAny_pyIter_enum he h
def iEnum (K : PySem.W.Frag) (ta : TA) : TI := fun σ H R => ta σ H fun vs H1 => ∃ a xs, vs = [.ref a] ∧ SqL K H1 a xs ∧ R (Ite K a) H1
theorem pi_enum {X : Cx} {e : Expr} {ta : TA} {p pos tpos : Pos} {elts : List Expr} {kk : Nat} (hg : Gl X "enumerate") (hm : X.mg "enumerate" = none) (ha : PA X [e] ta) (hs : starEach [e] X.env = [(false, eval e X.env)] := by rfl) :
  PI X (.Tuple elts kk tpos) (.Call (.Name "enumerate" p) [e] [] pos) (iEnum X.K ta) := by
 intro pins s σ H R I h
 refine Call_ (ld_blt I hg hm boot_enumerate (PyProof.Rows.callWith_type1 (thn (ha pos pins s σ H _ I h) fun us s1 ⟨vs, H1, I1, r1, q1⟩ => ?_) hs rfl))
 obtain ⟨a, xs, ex, hq, q⟩ := q1
 subst ex
 cases r1 with
 | cons r rr =>
  cases rr
  cases r
  obtain ⟨its, rv, p', hz⟩ := I1.list hq
  refine call_enumerate_list p'.isList fun h' he hit hsz hk => wpAny_pyIter_enum he ?_
  have I2 : Inv X pins σ H1 { s1 with heap := h' } := I1.kept (t' := s1.toks) hk
  refine ⟨s1.heap.objs.size + 1, [s1.heap.objs.size + 1, s1.heap.objs.size], _, _, H1, rfl, I2, turn_enum a (s1.heap.objs.size + 1) s1.heap.objs.size, ⟨⟨.none, he⟩, hit, Nat.succ_ne_self _⟩, fun b hb => ?_, q⟩
  have e' : b = s1.heap.objs.size + 1 ∨ b = s1.heap.objs.size := by simpa using hb
  have hle : s1.heap.objs.size ≤ b := by
   rcases e' with z | z
   ·rw [z]; exact Nat.le_add_right _ _
   ·rw [z]; exact Nat.le_refl _
  exact I1.fpOk hle (I1.hok.fresh hle)
theorem boot_zip5 : bootBuiltins "zip" = some (.type "zip") := by decide +kernel
end L2
section
namespace Bits
open PySem PyProof.Rows
end Bits
end
section
namespace TL
open PySem PySem.Builtin PySem.Builtin.Str PySem.StrLaws
end TL
end
namespace L2
open PySem PySem.Spec PyProof.Rows
section
variable {X : Cx} {pins : List (Addr × Obj)} {σ : St} {H : Hp} {s : Shared} {Q : VK}
end
section
variable {X : Cx}
end
section
variable {X : Cx} {o e : Expr} {to te : TE}
end
end L2
namespace L2
open PySem PySem.Spec PyProof.Rows
section
variable {X : Cx}
end
end L2
namespace Att
open PySem PySem.W PySem.Calls PyProof.Rows
section
variable {prog : Program} {w : World} {A : Around} {E : Value → Shared → Prop} {s : Shared} {K : Frag}
end
end Att
namespace L2
open PySem PySem.Spec PyProof.Rows
end L2
namespace L2
open PySem PySem.Spec PyProof.Rows
end L2
namespace L2
open PySem PySem.Spec PyProof.Rows
def inClass (s : Stmt) (j : Nat) : Stmt := match s with
 | .ClassDef _ _ _ body _ _ _ _ _ _ _ => body.getD j (.Pass ⟨0, 0, 0, 0⟩)
 | _ => .Pass ⟨0, 0, 0, 0⟩
def defArgs (s : Stmt) : Arguments := match s with
 | .FunctionDef _ a _ _ _ _ _ _ _ _ => a
 | _ => { posonlyargs := [], args := [], vararg := none, kwonlyargs := [], kw_defaults := [], kwarg := none, defaults := [] }
def defBody (s : Stmt) : List Stmt := match s with
 | .FunctionDef _ _ b _ _ _ _ _ _ _ => b
 | _ => []
def defScope (s : Stmt) : Scope := match s with
 | .FunctionDef _ _ _ _ _ _ sc _ _ _ => sc
 | _ => { kind := .function, names := [], isGenerator := false, isCoroutine := false }
abbrev CX0 : CXT := fun _ _ _ _ _ _ => False
abbrev E0 : XK := fun _ _ _ => False
theorem pass0 {X : Cx} : Passes CX0 X E0 := fun _ _ _ _ _ _ _ h => h.elim
structure Fun (K : PySem.W.Frag) (x qual : Str) (st : Stmt) (f : Addr) (fd : FuncData) : Prop where
 ex : ∃ (oc : Value) (od : Option Addr) (kV doc pm : Value) (an : Option Addr) (cdv ct : Value) (osl : Array (Option Value)),
  fd = PySem.W.fnOf x qual (defArgs st) (defBody st) (defScope st) .none kV doc pm an cdv ct ∧ K.lookup f = some ⟨oc, od, .func fd, osl⟩ ∧ PySem.W.codeIn K cdv qual = true
 kp : PySem.W.keepIn K (.ref f) = true
section
variable {P : Program} {w : World} {K : PySem.W.Frag} {mg : Str → Option Value} {base : Heap}
theorem Fun.ok {x qual : Str} {st : Stmt} {f : Addr} {fd : FuncData} {N ps : List Str} {k : Nat} {sp : Sp} (F : Fun K x qual st f fd) (S : FnScope N ps (defScope st)) (len : ∀ vs H Q E, sp vs H Q E → vs.length = ps.length)
  (hbody : ∀ (cdv : Value) (A : Around) (outer : List Env) (s : Shared) (H : Hp) (vs : List V) (Q : VK) (E : XK), Room k (A.deeper (envOfC qual (defScope st) s.heap.objs.size f cdv)) → sp vs H Q E →
   ∃ t, PSs (cxOf CX0 P w K mg base N qual (defScope st) f cdv A outer s H E).nox (defBody st) t ∧ t { nx := fun _ H' => Q .non H', rt := Q } (start N vs) H) : FnOk P w K mg base CX0 (k + 1) f fd ps sp := by
 obtain ⟨oc, od, kV, doc, pm, an, cdv, ct, osl, rfl, lk, hcd⟩ := F.ex
 refine fn_of lk hcd S len fun A outer s H vs Q E hr hsp => ?_
 obtain ⟨t, h, q⟩ := hbody cdv A outer s H vs Q E hr hsp
 exact ⟨t, h.nox, q⟩
theorem Fun.binds {x qual : Str} {st : Stmt} {f : Addr} {fd : FuncData} {ps : List Str} (F : Fun K x qual st f fd)
  (h : ∀ (kV doc pm : Value) (an : Option Addr) (cdv ct : Value) (us : List Value), us.length = ps.length → bindArgs (PySem.W.fnOf x qual (defArgs st) (defBody st) (defScope st) .none kV doc pm an cdv ct) ⟨us, []⟩ = pure (ps.zip us)) : Binds K fd ps [] := by
 obtain ⟨oc, od, kV, doc, pm, an, cdv, ct, osl, rfl, lk, hcd⟩ := F.ex
 exact .all (h kV doc pm an cdv ct)
theorem fun_mk {x qual : Str} {st : Stmt} {f : Addr} {oc : Value} {od an : Option Addr} {osl : Array (Option Value)} {kV doc pm cdv ct : Value} (l : K.lookup f = some ⟨oc, od, .func (PySem.W.fnOf x qual (defArgs st) (defBody st) (defScope st) .none kV doc pm an cdv ct), osl⟩)
  (c : PySem.W.codeIn K cdv qual = true) (k : PySem.W.keepIn K (.ref f) = true) : Fun K x qual st f (PySem.W.fnOf x qual (defArgs st) (defBody st) (defScope st) .none kV doc pm an cdv ct) := ⟨⟨oc, od, kV, doc, pm, an, cdv, ct, osl, rfl, l, c⟩, k⟩
end
theorem hu_of {A : Around} {k : Nat} (hr : Room k A) : A.units + 1 < cLine := Nat.lt_of_le_of_lt (Nat.add_le_add_left (by decide : 1 ≤ 64) _) hr.units
section
variable {X : Cx}
theorem pv (i : Nat) {x : Str} {pos : Pos} (hN : X.N[i]? = some x := by rfl) (hv : Vis X.env.scope x := by first | exact Or.inl rfl | exact Or.inr (Or.inl rfl) | exact Or.inr (Or.inr rfl)) (hd : (x == ("__debug__" : Str)) = false := by decide)
  (hcd : (x == ("__classdict__" : Str)) = false := by decide) : PE X (.Name x pos) (tVar i) := pe_var hN hv hd hcd
end
theorem iteF {A B : Prop} (h : B) : if false = true then A else B := by
 rw [if_neg Bool.false_ne_true]
 exact h
theorem iteT {A B : Prop} (h : A) : if true = true then A else B := by
 rw [if_pos rfl]
 exact h
def Same (H H' : Hp) : Prop := ∀ b o, H b = some o → H' b = some o
theorem Same.refl (H : Hp) : Same H H := fun _ _ h => h
theorem Same.trans {H H1 H2 : Hp} (a : Same H H1) (b : Same H1 H2) : Same H H2 := fun c o h => b c o (a c o h)
theorem Same.free {H H' : Hp} (e : Same H H') {l : Addr} (h : H' l = Option.none) : H l = Option.none := by
 cases q : H l with
 | none => rfl
 | some o =>
  rw [e l o q] at h
  cases h
theorem Same.seq {K : PySem.W.Frag} {H H' : Hp} {a : Addr} {xs : List V} (e : Same H H') (h : SqL K H a xs) : SqL K H' a xs := by
 rcases h with (h | ⟨o, h⟩) | h
 ·exact .inl (.inl (e _ _ h))
 ·exact .inl (.inr ⟨o, e _ _ h⟩)
 ·exact .inr h
section
variable {κ : Type} [DecidableEq κ]
theorem nd_snoc : ∀ {l : List κ} {k : κ}, l.Nodup → ¬ k ∈ l → (l ++ [k]).Nodup
 | [], k, _, _ => by simp
 | a :: r, k, h, hk => by
  obtain ⟨h1, h2⟩ := List.nodup_cons.mp h
  show (a :: (r ++ [k])).Nodup
  refine List.nodup_cons.mpr ⟨fun m => ?_, nd_snoc h2 fun m => hk (List.mem_cons.mpr (Or.inr m))⟩
  rcases List.mem_append.mp m with q | q
  ·exact h1 q
  ·exact hk (List.mem_cons.mpr (Or.inl (List.mem_singleton.mp q).symm))
end
theorem nd_ix {α : Type} {l : List α} (hN : l.Nodup) {i j : Nat} {x : α} (a : l[i]? = some x) (b : l[j]? = some x) : i = j := by
 obtain ⟨h1, e1⟩ := List.getElem?_eq_some_iff.mp a
 obtain ⟨h2, e2⟩ := List.getElem?_eq_some_iff.mp b
 exact (List.getElem_inj hN).mp (e1.trans e2.symm)
theorem Same.made {H H1 : Hp} {x dx C : Addr} (nx : H x = Option.none) (nd : H dx = Option.none) (k : ∀ b o, (upd (upd H dx (.own x)) x (.ins C dx [])) b = some o → b ≠ x → H1 b = some o) : Same H H1 := fun b o e =>
 k b o (by rw [upd_ne (ne_of_none e nx), upd_ne (ne_of_none e nd)]; exact e) (ne_of_none e nx)
end L2
end
section
set_option maxHeartbeats 2000000
namespace L2
open PySem PySem.Spec PyProof.Rows
open PySem.W (WData Codec OpenSpec Well WellAll ReadsW ReadsAllW)
mutual
inductive Dw (K : PySem.W.Frag) (H : Hp) : V → WData → Prop
 | non : Dw K H .non .none
 | bl (b : Bool) : Dw K H (.bl b) (.bool b)
 | int (i : Int) : Dw K H (.int i) (.int i)
 | str (x : Str) : Dw K H (.str x) (.str x)
 | byt (b : Array UInt8) : Dw K H (.byt b) (.bytes b.toList)
 | lst {a : Addr} {xs : List V} {ds : List WData} : SqL K H a xs → DwAll K H xs ds → Dw K H (.ref a) (.list ds)
 | tup {a : Addr} {xs : List V} {ds : List WData} : SqT K H a xs → DwAll K H xs ds → Dw K H (.ref a) (.tuple ds)
inductive DwAll (K : PySem.W.Frag) (H : Hp) : List V → List WData → Prop
 | nil : DwAll K H [] []
 | cons {v : V} {vs : List V} {d : WData} {ds : List WData} : Dw K H v d → DwAll K H vs ds → DwAll K H (v :: vs) (d :: ds)
end
theorem dw_ints {K : PySem.W.Frag} {H : Hp} : ∀ ns : List Int, DwAll K H (ns.map V.int) (ns.map WData.int)
 | [] => .nil
 | n :: r => .cons (.int n) (dw_ints r)
theorem ints_dw {K : PySem.W.Frag} {H : Hp} : ∀ (ns : List Int) (xs : List V), DwAll K H xs (ns.map WData.int) → xs = ns.map V.int
 | [], xs, h => by
  cases h
  rfl
 | n :: r, xs, h => by
  cases h with
  | cons h1 h2 =>
   cases h1
   rw [ints_dw r _ h2] <;> rfl
section
variable {P : Program} {w : World} {K : PySem.W.Frag} {H : Hp} {h : Heap} {R : PySem.W.WRecords} {cl : Str → Option Addr}
theorem sqL_at {a : Addr} {xs : List V} (hok : HOk P w H h) (KX : K.In h) (q : SqL K H a xs) : ∃ (its : List Value) (o : Obj) (n : Nat), Vals xs its ∧ h.get? a = some o ∧ o.cls = .type "list" ∧ o.data = .seq its.toArray n := by
 rcases q with q | ⟨o, its, n, e, hc, _, hd, _, hv⟩
 ·obtain ⟨_, its, n, hv, e⟩ := (show ObjOk P w H h a (.lst xs) from q.ok hok)
  exact ⟨its, _, n, hv, e, rfl, rfl⟩
 ·exact ⟨its.toList, o, n, hv, KX _ _ e, hc, by simp [hd]⟩
theorem sqT_at {a : Addr} {xs : List V} (hok : HOk P w H h) (KX : K.In h) (q : SqT K H a xs) : ∃ (its : List Value) (o : Obj) (n : Nat), Vals xs its ∧ h.get? a = some o ∧ o.cls = .type "tuple" ∧ o.data = .seq its.toArray n := by
 rcases q with q | ⟨o, its, n, e, hc, hd, _, hv⟩
 ·obtain ⟨_, its, hv, o, e, hc, n, hd⟩ := (show ObjOk P w H h a (.tup xs) from q.ok hok)
  exact ⟨its, o, n, hv, e, hc, hd⟩
 ·exact ⟨its.toList, o, n, hv, KX _ _ e, hc, by simp [hd]⟩
mutual
theorem Dw.reads (hok : HOk P w H h) (KX : K.In h) : ∀ (d : WData) (v : V) (u : Value), Dw K H v d → RelV v u → ∃ as, ReadsW R cl h u d as
 | .none, _, _, x, r => by
  cases x
  cases r
  exact ⟨_, ReadsW.none⟩
 | .bool b, _, _, x, r => by
  cases x
  cases r
  exact ⟨_, ReadsW.bool b⟩
 | .int i, _, _, x, r => by
  cases x
  obtain ⟨t, rfl⟩ := r
  exact ⟨_, ReadsW.int i t⟩
 | .str s, _, _, x, r => by
  cases x
  obtain ⟨t, rfl⟩ := r
  exact ⟨_, ReadsW.str s t⟩
 | .bytes b, _, _, x, r => by
  cases x
  obtain ⟨t, rfl⟩ := r
  exact ⟨_, ReadsW.bytes _ t⟩
 | .list ds, _, _, x, r => by
  cases x with
  | lst hs ha =>
   cases r
   obtain ⟨its, o, n, rv, ho, hc, hd⟩ := sqL_at hok KX hs
   obtain ⟨as, hr⟩ := Dw.readsAll hok KX ds _ its ha rv
   exact ⟨_, ReadsW.list ho hc hd hr⟩
 | .tuple ds, _, _, x, r => by
  cases x with
  | tup hs ha =>
   cases r
   obtain ⟨its, o, n, rv, ho, hc, hd⟩ := sqT_at hok KX hs
   obtain ⟨as, hr⟩ := Dw.readsAll hok KX ds _ its ha rv
   exact ⟨_, ReadsW.tuple ho hc hd hr⟩
 | .float _, _, _, x, _ => by cases x
 | .dict _, _, _, x, _ => by cases x
 | .bytearray _, _, _, x, _ => by cases x
 | .set _, _, _, x, _ => by cases x
 | .frozenset _, _, _, x, _ => by cases x
 | .obj _ _, _, _, x, _ => by cases x
theorem Dw.readsAll (hok : HOk P w H h) (KX : K.In h) : ∀ (ds : List WData) (vs : List V) (us : List Value), DwAll K H vs ds → Vals vs us → ∃ as, ReadsAllW R cl h us ds as
 | [], _, _, x, r => by
  cases x
  cases r
  exact ⟨_, ReadsAllW.nil⟩
 | d :: ds, _, _, x, r => by
  cases x with
  | cons h1 h2 =>
   cases r with
   | cons r1 r2 =>
    obtain ⟨as, q1⟩ := Dw.reads hok KX d _ _ h1 r1
    obtain ⟨bs, q2⟩ := Dw.readsAll hok KX ds _ _ h2 r2
    exact ⟨_, ReadsAllW.cons q1 q2⟩
end
end
mutual
def plW : WData → Bool
 | .none => true
 | .bool _ => true
 | .int _ => true
 | .str _ => true
 | .bytes _ => true
 | .list xs => plWs xs
 | .tuple xs => plWs xs
 | _ => false
def plWs : List WData → Bool
 | [] => true
 | x :: r => plW x && plWs r
end
theorem plWs_map {α : Type} {f : α → WData} (h : ∀ a, plW (f a) = true) : ∀ l : List α, plWs (l.map f) = true
 | [] => rfl
 | x :: r => by
  show (plW (f x) && plWs (r.map f)) = true
  rw [h x, plWs_map h r] <;> rfl
theorem pl_enc : ∀ (c : Codec) (a : c.denote), plW (c.enc a) = true
 | .unit, _ => rfl
 | .bool, _ => rfl
 | .int _ _, _ => rfl
 | .nat _ _, _ => rfl
 | .u8, _ => rfl
 | .bytes _ _, _ => rfl
 | .text _ _ _ _, _ => rfl
 | .list _ _ c, a => plWs_map (fun x => pl_enc c x) a
 | .pair c d, a => by
  show (plW (c.enc a.1) && (plW (d.enc a.2) && true)) = true
  rw [pl_enc c a.1, pl_enc d a.2] <;> rfl
 | .triple c d e, a => by
  show (plW (c.enc a.1) && (plW (d.enc a.2.1) && (plW (e.enc a.2.2) && true))) = true
  rw [pl_enc c a.1, pl_enc d a.2.1, pl_enc e a.2.2] <;> rfl
 | .option c, none => rfl
 | .option c, some x => pl_enc c x
theorem pl_encAll : ∀ (cs : List Codec) (a : Codec.denoteAll cs), plWs (Codec.encAll cs a) = true
 | [], _ => rfl
 | c :: cs, a => by
  show (plW (c.enc a.1) && plWs (Codec.encAll cs a.2)) = true
  rw [pl_enc c a.1, pl_encAll cs a.2] <;> rfl
theorem weight_mem : ∀ {xs : List WData} {d : WData}, d ∈ xs → d.weight ≤ WData.weightAll xs
 | [], d, h => absurd h (by simp)
 | x :: r, d, h => by
  show d.weight ≤ x.weight + 1 + WData.weightAll r
  rcases List.mem_cons.mp h with e | m
  ·rw [e]
   omega
  ·have z := weight_mem m
   omega
def toV : Value → V
 | .none => .non
 | .bool b => .bl b
 | .int i _ => .int i
 | .str x _ => .str x
 | .bytes b _ => .byt b
 | .ref a => .ref a
 | _ => .non
def OkU (A : List Addr) : Value → Prop
 | .none => True
 | .bool _ => True
 | .int _ _ => True
 | .str _ _ => True
 | .bytes _ _ => True
 | .ref a => a ∈ A
 | _ => False
theorem OkU.mono {A B : List Addr} (h : ∀ a ∈ A, a ∈ B) : ∀ {u : Value}, OkU A u → OkU B u := fun {u} x => by
 cases u with
 | ref a => exact h a x
 | none => trivial
 | bool b => trivial
 | int i t => trivial
 | str s t => trivial
 | bytes b t => trivial
 | _ => exact False.elim x
theorem relV_toV {A : List Addr} {u : Value} (x : OkU A u) : RelV (toV u) u := by
 cases u with
 | ref a => rfl
 | none => rfl
 | bool b => rfl
 | int i t => exact ⟨t, rfl⟩
 | str s t => exact ⟨t, rfl⟩
 | bytes b t => exact ⟨t, rfl⟩
 | _ => exact False.elim x
theorem vals_toV {A : List Addr} : ∀ {vs : List Value}, (∀ u ∈ vs, OkU A u) → Vals (vs.map toV) vs
 | [], _ => .nil
 | u :: r, h => .cons (relV_toV (h u (List.mem_cons_self ..))) (vals_toV fun x hx => h x (List.mem_cons_of_mem _ hx))
def ArgOb (h : Heap) (A : List Addr) (a : Addr) : Prop := ∃ vs : List Value, vs.length ≤ sizeLine ∧ (∀ u ∈ vs, OkU A u) ∧
 (h.get? a = some { cls := .type "list", data := .seq vs.toArray } ∨ h.get? a = some { cls := .type "tuple", data := .seq vs.toArray })
theorem ArgOb.mono {h : Heap} {A B : List Addr} {a : Addr} (k : ∀ a ∈ A, a ∈ B) (x : ArgOb h A a) : ArgOb h B a := by
 obtain ⟨vs, h1, h2, h3⟩ := x
 exact ⟨vs, h1, fun u hu => (h2 u hu).mono k, h3⟩
theorem wellAll_len {P : Params} {h : Heap} : ∀ {vs : List Value} {ds : List WData}, WellAll P h vs ds → vs.length = ds.length
 | _, _, .nil => rfl
 | _, _, .cons _ b => by
  show _ + 1 = _ + 1
  rw [wellAll_len b]
theorem well_list {P : Params} {h : Heap} {v : Value} {ds : List WData} (x : Well P h v (.list ds)) : ∃ (a : Addr) (vs : List Value), v = .ref a ∧ h.get? a = some { cls := .type "list", data := .seq vs.toArray } ∧ WellAll P h vs ds := by
 cases x with
 | list ho hall => exact ⟨_, _, rfl, ho, hall⟩
theorem well_tuple {P : Params} {h : Heap} {v : Value} {ds : List WData} (x : Well P h v (.tuple ds)) : ∃ (a : Addr) (vs : List Value), v = .ref a ∧ h.get? a = some { cls := .type "tuple", data := .seq vs.toArray } ∧ WellAll P h vs ds := by
 cases x with
 | tuple ho hall => exact ⟨_, _, rfl, ho, hall⟩
theorem well_cons {P : Params} {h : Heap} {us : List Value} {d : WData} {ds : List WData} (x : WellAll P h us (d :: ds)) : ∃ (v : Value) (vs : List Value), us = v :: vs ∧ Well P h v d ∧ WellAll P h vs ds := by
 cases x with
 | cons a b => exact ⟨_, _, rfl, a, b⟩
theorem line_of {n : Nat} (h : n ≤ 1048576) : n ≤ sizeLine := Nat.le_trans h (by decide)
section
variable {P : Params} {h : Heap}
mutual
theorem area_one : ∀ (d : WData) (v : Value), Well P h v d → plW d = true → d.weight ≤ 1048576 → ∃ A : List Addr, OkU A v ∧ ∀ a ∈ A, ArgOb h A a
 | .none, _, x, _, _ => by
  cases x
  exact ⟨[], trivial, fun a m => absurd m (by simp)⟩
 | .bool b, _, x, _, _ => by
  cases x
  exact ⟨[], trivial, fun a m => absurd m (by simp)⟩
 | .int i, _, x, _, _ => by
  cases x
  exact ⟨[], trivial, fun a m => absurd m (by simp)⟩
 | .str s, _, x, _, _ => by
  cases x
  exact ⟨[], trivial, fun a m => absurd m (by simp)⟩
 | .bytes b, _, x, _, _ => by
  cases x
  exact ⟨[], trivial, fun a m => absurd m (by simp)⟩
 | .list ds, _, x, p, z => by
  obtain ⟨a, vs, rfl, ho, hall⟩ := well_list x
  have z2 : WData.weightAll ds ≤ 1048576 := z
  obtain ⟨A, h1, h2⟩ := area_all ds _ hall p fun d hd => Nat.le_trans (weight_mem hd) z2
  have k : ∀ b ∈ A, b ∈ a :: A := fun b hb => List.mem_cons_of_mem _ hb
  refine ⟨a :: A, List.mem_cons_self .., fun b hb => ?_⟩
  rcases List.mem_cons.mp hb with e | m
  ·rw [e]
   exact ⟨vs, line_of (by rw [wellAll_len hall]; exact Nat.le_trans (PySem.W.length_le_weightAllW ds) z2), fun u hu => (h1 u hu).mono k, .inl ho⟩
  ·exact (h2 b m).mono k
 | .tuple ds, _, x, p, z => by
  obtain ⟨a, vs, rfl, ho, hall⟩ := well_tuple x
  have z2 : WData.weightAll ds ≤ 1048576 := z
  obtain ⟨A, h1, h2⟩ := area_all ds _ hall p fun d hd => Nat.le_trans (weight_mem hd) z2
  have k : ∀ b ∈ A, b ∈ a :: A := fun b hb => List.mem_cons_of_mem _ hb
  refine ⟨a :: A, List.mem_cons_self .., fun b hb => ?_⟩
  rcases List.mem_cons.mp hb with e | m
  ·rw [e]
   exact ⟨vs, line_of (by rw [wellAll_len hall]; exact Nat.le_trans (PySem.W.length_le_weightAllW ds) z2), fun u hu => (h1 u hu).mono k, .inr ho⟩
  ·exact (h2 b m).mono k
 | .float _, _, _, p, _ => Bool.noConfusion (show false = true from p)
 | .dict _, _, _, p, _ => Bool.noConfusion (show false = true from p)
 | .bytearray _, _, _, p, _ => Bool.noConfusion (show false = true from p)
 | .set _, _, _, p, _ => Bool.noConfusion (show false = true from p)
 | .frozenset _, _, _, p, _ => Bool.noConfusion (show false = true from p)
 | .obj _ _, _, _, p, _ => Bool.noConfusion (show false = true from p)
theorem area_all : ∀ (ds : List WData) (vs : List Value), WellAll P h vs ds → plWs ds = true → (∀ d ∈ ds, d.weight ≤ 1048576) → ∃ A : List Addr, (∀ u ∈ vs, OkU A u) ∧ ∀ a ∈ A, ArgOb h A a
 | [], _, x, _, _ => by
  cases x
  exact ⟨[], fun u m => absurd m (by simp), fun a m => absurd m (by simp)⟩
 | d :: ds, _, x, p, z => by
  obtain ⟨v, vs, rfl, x1, x2⟩ := well_cons x
  have q : plW d = true ∧ plWs ds = true := Bool.and_eq_true_iff.mp p
  obtain ⟨A, a1, a2⟩ := area_one d v x1 q.1 (z d (List.mem_cons_self ..))
  obtain ⟨B, b1, b2⟩ := area_all ds vs x2 q.2 fun e he => z e (List.mem_cons_of_mem _ he)
  have kA : ∀ b ∈ A, b ∈ A ++ B := fun b hb => List.mem_append.mpr (.inl hb)
  have kB : ∀ b ∈ B, b ∈ A ++ B := fun b hb => List.mem_append.mpr (.inr hb)
  refine ⟨A ++ B, fun u hu => ?_, fun b hb => ?_⟩
  ·rcases List.mem_cons.mp hu with e | m
   ·rw [e]
    exact a1.mono kA
   ·exact (b1 u m).mono kB
  ·rcases List.mem_append.mp hb with m | m
   ·exact (a2 b m).mono kA
   ·exact (b2 b m).mono kB
end
end
def hoOf (o : Obj) : Option HO := match o.data with
 | .seq vs _ => if (o.cls == Value.type "list") = true then some (.frz o (.lst (vs.toList.map toV))) else some (.frz o (.tup (vs.toList.map toV)))
 | _ => none
def argH (K : PySem.W.Frag) (h : Heap) (A : List Addr) : Hp := fun b => if b ∈ A then (if (K.lookup b).isNone = true then (h.get? b).bind hoOf else none) else none
def OnlyF (H : Hp) : Prop := ∀ b, H b = none ∨ ∃ o u, H b = some (.frz o u)
theorem hoOf_lst (vs : List Value) : hoOf { cls := .type "list", data := .seq vs.toArray } = some (.frz { cls := .type "list", data := .seq vs.toArray } (.lst (vs.map toV))) := by
 show (if (Value.type "list" == Value.type "list") = true then some (HO.frz { cls := .type "list", data := .seq vs.toArray } (.lst (vs.toArray.toList.map toV))) else some (HO.frz { cls := .type "list", data := .seq vs.toArray } (.tup (vs.toArray.toList.map toV)))) = _
 rw [if_pos (beq_self_eq_true _)]
theorem hoOf_tup (vs : List Value) : hoOf { cls := .type "tuple", data := .seq vs.toArray } = some (.frz { cls := .type "tuple", data := .seq vs.toArray } (.tup (vs.map toV))) := by
 show (if (Value.type "tuple" == Value.type "list") = true then some (HO.frz { cls := .type "tuple", data := .seq vs.toArray } (.lst (vs.toArray.toList.map toV))) else some (HO.frz { cls := .type "tuple", data := .seq vs.toArray } (.tup (vs.toArray.toList.map toV)))) = _
 rw [if_neg (by decide)]
section
variable {P : Program} {w : World} {K : PySem.W.Frag} {h : Heap} {A : List Addr}
theorem argH_at {b : Addr} {o : Obj} (hb : b ∈ A) (hk : K.lookup b = none) (e : h.get? b = some o) : argH K h A b = hoOf o := by
 unfold argH
 rw [if_pos hb, hk, if_pos (show (none : Option Obj).isNone = true from rfl), e] <;> rfl
theorem of_argH {b : Addr} {u : HO} (q : argH K h A b = some u) : b ∈ A ∧ K.lookup b = none := by
 unfold argH at q
 by_cases hb : b ∈ A
 ·rw [if_pos hb] at q
  cases hk : K.lookup b with
  | none => exact ⟨hb, rfl⟩
  | some o =>
   rw [hk, if_neg (by simp)] at q
   cases q
 ·rw [if_neg hb] at q
  cases q
theorem argH_is (ar : ∀ a ∈ A, ArgOb h A a) {b : Addr} {u : HO} (q : argH K h A b = some u) : K.lookup b = none ∧ ∃ vs : List Value, vs.length ≤ sizeLine ∧ (∀ u ∈ vs, OkU A u) ∧
  ((h.get? b = some { cls := .type "list", data := .seq vs.toArray } ∧ u = .frz { cls := .type "list", data := .seq vs.toArray } (.lst (vs.map toV))) ∨
   (h.get? b = some { cls := .type "tuple", data := .seq vs.toArray } ∧ u = .frz { cls := .type "tuple", data := .seq vs.toArray } (.tup (vs.map toV)))) := by
 obtain ⟨hb, hk⟩ := of_argH q
 obtain ⟨vs, h1, h2, h3⟩ := ar b hb
 refine ⟨hk, vs, h1, h2, ?_⟩
 rcases h3 with e | e
 ·rw [argH_at hb hk e, hoOf_lst] at q
  exact .inl ⟨e, (Option.some.inj q).symm⟩
 ·rw [argH_at hb hk e, hoOf_tup] at q
  exact .inr ⟨e, (Option.some.inj q).symm⟩
theorem argH_only (ar : ∀ a ∈ A, ArgOb h A a) : OnlyF (argH K h A) := fun b => by
 cases q : argH K h A b with
 | none => exact .inl rfl
 | some u =>
  obtain ⟨_, vs, _, _, ⟨_, e⟩ | ⟨_, e⟩⟩ := argH_is ar q
  ·exact .inr ⟨_, _, by rw [e]⟩
  ·exact .inr ⟨_, _, by rw [e]⟩
theorem argH_ok (ar : ∀ a ∈ A, ArgOb h A a) : HOk P w (argH K h A) h := fun b u q => by
 obtain ⟨_, vs, h1, h2, ⟨e, rfl⟩ | ⟨e, rfl⟩⟩ := argH_is ar q
 ·exact ⟨e, by rw [List.length_map]; exact h1, vs, _, vals_toV h2, e⟩
 ·exact ⟨e, by rw [List.length_map]; exact h1, vs, vals_toV h2, _, e, rfl, _, rfl⟩
theorem seq_inj {c c' : Value} {vs us : List Value} (e : (some { cls := c, data := .seq vs.toArray } : Option Obj) = some { cls := c', data := .seq us.toArray }) : c = c' ∧ vs = us := by
 have e1 := Option.some.inj e
 have e2 : c = c' := congrArg Obj.cls e1
 have e3 : Data.seq vs.toArray = Data.seq us.toArray := congrArg Obj.data e1
 injection e3 with e4
 refine ⟨e2, ?_⟩
 have e5 := congrArg Array.toList e4
 simpa using e5
theorem argL (KX : K.In h) (ar : ∀ a ∈ A, ArgOb h A a) {a : Addr} {vs : List Value} (ha : a ∈ A) (e : h.get? a = some { cls := .type "list", data := .seq vs.toArray }) : (∀ u ∈ vs, OkU A u) ∧ SqL K (argH K h A) a (vs.map toV) := by
 obtain ⟨us, h1, h2, h3⟩ := ar a ha
 have hu : us = vs := by
  rcases h3 with q | q
  ·rw [e] at q
   exact (seq_inj q).2.symm
  ·rw [e] at q
   exact absurd (Value.type.inj (seq_inj q).1) (by decide)
 subst hu
 refine ⟨h2, ?_⟩
 cases hk : K.lookup a with
 | none => exact .inl (.inr ⟨_, by rw [argH_at ha hk e, hoOf_lst]⟩)
 | some o =>
  have e2 := KX a o hk
  rw [e] at e2
  obtain rfl := Option.some.inj e2
  exact .inr ⟨_, us.toArray, _, hk, rfl, rfl, rfl, by rw [List.size_toArray]; exact h1, by simpa using vals_toV h2⟩
theorem argT (KX : K.In h) (ar : ∀ a ∈ A, ArgOb h A a) {a : Addr} {vs : List Value} (ha : a ∈ A) (e : h.get? a = some { cls := .type "tuple", data := .seq vs.toArray }) : (∀ u ∈ vs, OkU A u) ∧ SqT K (argH K h A) a (vs.map toV) := by
 obtain ⟨us, h1, h2, h3⟩ := ar a ha
 have hu : us = vs := by
  rcases h3 with q | q
  ·rw [e] at q
   exact absurd (Value.type.inj (seq_inj q).1) (by decide)
  ·rw [e] at q
   exact (seq_inj q).2.symm
 subst hu
 refine ⟨h2, ?_⟩
 cases hk : K.lookup a with
 | none => exact .inl (.inr ⟨_, by rw [argH_at ha hk e, hoOf_tup]⟩)
 | some o =>
  have e2 := KX a o hk
  rw [e] at e2
  obtain rfl := Option.some.inj e2
  exact .inr ⟨_, us.toArray, _, hk, rfl, rfl, by rw [List.size_toArray]; exact h1, by simpa using vals_toV h2⟩
mutual
theorem dw_one {Pm : Params} (KX : K.In h) (ar : ∀ a ∈ A, ArgOb h A a) : ∀ (d : WData) (v : Value), Well Pm h v d → plW d = true → OkU A v → Dw K (argH K h A) (toV v) d
 | .none, _, x, _, _ => by
  cases x
  exact .non
 | .bool b, _, x, _, _ => by
  cases x
  exact .bl b
 | .int i, _, x, _, _ => by
  cases x
  exact .int i
 | .str s, _, x, _, _ => by
  cases x
  exact .str s
 | .bytes b, _, x, _, _ => by
  cases x
  have z := Dw.byt (K := K) (H := argH K h A) b.toArray
  exact z
 | .list ds, _, x, p, hu => by
  obtain ⟨a, vs, rfl, ho, hall⟩ := well_list x
  obtain ⟨h2, hs⟩ := argL KX ar hu ho
  exact .lst hs (dw_all KX ar ds _ hall p h2)
 | .tuple ds, _, x, p, hu => by
  obtain ⟨a, vs, rfl, ho, hall⟩ := well_tuple x
  obtain ⟨h2, hs⟩ := argT KX ar hu ho
  exact .tup hs (dw_all KX ar ds _ hall p h2)
 | .float _, _, _, p, _ => Bool.noConfusion (show false = true from p)
 | .dict _, _, _, p, _ => Bool.noConfusion (show false = true from p)
 | .bytearray _, _, _, p, _ => Bool.noConfusion (show false = true from p)
 | .set _, _, _, p, _ => Bool.noConfusion (show false = true from p)
 | .frozenset _, _, _, p, _ => Bool.noConfusion (show false = true from p)
 | .obj _ _, _, _, p, _ => Bool.noConfusion (show false = true from p)
theorem dw_all {Pm : Params} (KX : K.In h) (ar : ∀ a ∈ A, ArgOb h A a) : ∀ (ds : List WData) (vs : List Value), WellAll Pm h vs ds → plWs ds = true → (∀ u ∈ vs, OkU A u) → DwAll K (argH K h A) (vs.map toV) ds
 | [], _, x, _, _ => by
  cases x
  exact .nil
 | d :: ds, _, x, p, hu => by
  obtain ⟨v, vs, rfl, x1, x2⟩ := well_cons x
  have q : plW d = true ∧ plWs ds = true := Bool.and_eq_true_iff.mp p
  exact .cons (dw_one KX ar d v x1 q.1 (hu _ (List.mem_cons_self ..))) (dw_all KX ar ds vs x2 q.2 fun u m => hu u (List.mem_cons_of_mem _ m))
end
end
theorem layable_weight {ds : List WData} (h : WData.layableAll ds = true) : ∀ d ∈ ds, d.weight ≤ 1048576 := fun d hd =>
 (PySem.W.layableW_iff.mp (List.all_eq_true.mp h d hd)).2.2
theorem encAll_len : ∀ (cs : List Codec) (a : Codec.denoteAll cs), (Codec.encAll cs a).length = cs.length
 | [], _ => rfl
 | c :: cs, a => by
  show (Codec.encAll cs a.2).length + 1 = cs.length + 1
  rw [encAll_len cs a.2]
end L2
end
set_option maxHeartbeats 4000000
namespace Sw
open Vbavag
def keep (l : List Event) : List Event := l.drop (l.length - 200)
theorem keep_short {l : List Event} (h : l.length ≤ 200) : keep l = l := by
 unfold keep
 rw [Nat.sub_eq_zero_of_le h, List.drop_zero]
theorem keep_length (l : List Event) : (keep l).length ≤ 200 := by
 unfold keep
 rw [List.length_drop]
 omega
theorem keep_keep (a b : List Event) : keep (keep a ++ b) = keep (a ++ b) := by
 unfold keep
 by_cases h : a.length ≤ 200
 ·rw [Nat.sub_eq_zero_of_le h, List.drop_zero]
 ·have e1 : a.drop (a.length - 200) ++ b = (a ++ b).drop (a.length - 200) := by
   rw [List.drop_append_of_le_length (by omega)]
  have e3 : ∀ n m : Nat, n = m → (a ++ b).drop n = (a ++ b).drop m := fun n m e => by rw [e]
  rw [e1, List.drop_drop, List.length_drop, List.length_append]
  exact e3 _ _ (by omega)
theorem keep_one {l : List Event} {e : Event} (h : l.length ≤ 200) : keep (l ++ [e]) = if 200 < (l ++ [e]).length then (l ++ [e]).drop 1 else l ++ [e] := by
 have hl : (l ++ [e]).length = l.length + 1 := by simp
 unfold keep
 rw [hl]
 by_cases h2 : 200 < l.length + 1
 ·have e3 : ∀ n m : Nat, n = m → (l ++ [e]).drop n = (l ++ [e]).drop m := fun n m q => by rw [q]
  rw [if_pos h2]
  exact e3 _ _ (by omega)
 ·rw [if_neg h2, Nat.sub_eq_zero_of_le (by omega), List.drop_zero]
theorem noted_eq (s : Panel) (l : List Event) : noted s l = { s with log := keep (s.log ++ l), happened := s.happened + l.length } := rfl
theorem noted_nil {s : Panel} (h : s.log.length ≤ 200) : noted s [] = s := by
 rw [noted_eq, List.append_nil, keep_short h]
 rfl
theorem noted_noted (s : Panel) (a b : List Event) : noted (noted s a) b = noted s (a ++ b) := by
 simp only [noted_eq, keep_keep, List.append_assoc, List.length_append, Nat.add_assoc]
def vis (phase : Nat) (before : List Bool) (w : Told) (x : Stand) : Bool := x.come && (!x.cancelled && (!held phase w x && !(w.covers.any fun j => before.getD j false)))
theorem shownFrom_snoc (phase : Nat) (w : Told) (x : Stand) : ∀ (ws : List Told) (xs : List Stand) (b : List Bool), ws.length = xs.length →
  shownFrom phase b (ws ++ [w]) (xs ++ [x]) = shownFrom phase b ws xs ++ [vis phase (shownFrom phase b ws xs) w x]
 | [], [], b, _ => rfl
 | [], _ :: _, b, h => by cases h
 | _ :: _, [], b, h => by cases h
 | v :: ws, y :: xs, b, h => by
  show shownFrom phase _ (ws ++ [w]) (xs ++ [x]) = _
  rw [shownFrom_snoc phase w x ws xs _ (Nat.succ.inj h)]
  rfl
theorem shownFrom_length (phase : Nat) : ∀ (ws : List Told) (xs : List Stand) (b : List Bool), ws.length = xs.length → (shownFrom phase b ws xs).length = b.length + ws.length
 | [], [], b, _ => rfl
 | [], _ :: _, b, h => by cases h
 | _ :: _, [], b, h => by cases h
 | v :: ws, y :: xs, b, h => by
  show (shownFrom phase _ ws xs).length = _
  rw [shownFrom_length phase ws xs _ (Nat.succ.inj h)]
  simp
  omega
def shownUp (s : Panel) (i : Nat) : List Bool := shownFrom s.phase [] (s.told.take i) (s.stands.take i)
theorem take_snoc {α : Type} : ∀ {l : List α} {i : Nat} {x : α}, l[i]? = some x → l.take (i + 1) = l.take i ++ [x]
 | [], i, x, h => by simp at h
 | a :: l, 0, x, h => by
  have e : a = x := Option.some.inj h
  subst e
  rfl
 | a :: l, i + 1, x, h => by
  have ih := take_snoc (l := l) (i := i) (x := x) h
  show a :: l.take (i + 1) = a :: l.take i ++ [x]
  rw [ih]
  rfl
theorem shownUp_succ {s : Panel} (hl : s.stands.length = s.told.length) {i : Nat} {w : Told} {x : Stand} (hw : s.told[i]? = some w) (hx : s.stands[i]? = some x) :
  shownUp s (i + 1) = shownUp s i ++ [vis s.phase (shownUp s i) w x] := by
 unfold shownUp
 rw [take_snoc hw, take_snoc hx, shownFrom_snoc]
 simp [hl]
theorem shownUp_length {s : Panel} (hl : s.stands.length = s.told.length) {i : Nat} (h : i ≤ s.told.length) : (shownUp s i).length = i := by
 unfold shownUp
 rw [shownFrom_length]
 ·simp
  omega
 ·simp [hl]
theorem shownUp_all {s : Panel} (hl : s.stands.length = s.told.length) : shownUp s s.told.length = shown s := by
 unfold shownUp shown
 rw [List.take_length, ← hl, List.take_length]
theorem ex_get {α : Type} {l : List α} {i : Nat} (h : i < l.length) : ∃ x, l[i]? = some x := ⟨l[i], List.getElem?_eq_getElem h⟩
theorem shownUp_take {s : Panel} (hl : s.stands.length = s.told.length) (i : Nat) : ∀ (k : Nat), i + k ≤ s.told.length → (shownUp s (i + k)).take i = shownUp s i
 | 0, h => by
  have e := shownUp_length hl (i := i) (by omega)
  show (shownUp s i).take i = _
  rw [List.take_of_length_le (by omega)]
 | k + 1, h => by
  obtain ⟨w, hw⟩ := ex_get (l := s.told) (i := i + k) (by omega)
  obtain ⟨x, hx⟩ := ex_get (l := s.stands) (i := i + k) (by omega)
  have e := shownUp_length hl (i := i + k) (by omega)
  show (shownUp s (i + k + 1)).take i = _
  rw [shownUp_succ hl hw hx, List.take_append_of_le_length (by omega)]
  exact shownUp_take hl i k (by omega)
theorem shown_length {s : Panel} (hl : s.stands.length = s.told.length) : (shown s).length = s.told.length := by
 rw [← shownUp_all hl, shownUp_length hl (Nat.le_refl _)]
theorem shown_take {s : Panel} (hl : s.stands.length = s.told.length) {i : Nat} (h : i ≤ s.told.length) : (shown s).take i = shownUp s i := by
 have e := shownUp_take hl i (s.told.length - i) (by omega)
 have e2 : i + (s.told.length - i) = s.told.length := by omega
 rw [e2, shownUp_all hl] at e
 exact e
theorem getD_get {α : Type} (l : List α) (i : Nat) (d : α) : l.getD i d = (l[i]?).getD d := List.getD_eq_getElem?_getD
theorem shown_at {s : Panel} (hl : s.stands.length = s.told.length) {i : Nat} {w : Told} {x : Stand} (hw : s.told[i]? = some w) (hx : s.stands[i]? = some x) :
  (shown s)[i]? = some (vis s.phase (shownUp s i) w x) := by
 have hi := (List.getElem?_eq_some_iff.mp hw).1
 have e := shownUp_length hl (i := i) (by omega)
 have e1 : ((shown s).take (i + 1))[i]? = (shown s)[i]? := by rw [List.getElem?_take, if_pos (by omega)]
 rw [← e1, shown_take hl (by omega), shownUp_succ hl hw hx, List.getElem?_append_right (by omega), e]
 simp
theorem isShown_at {s : Panel} (hl : s.stands.length = s.told.length) {i : Nat} {w : Told} {x : Stand} (hw : s.told[i]? = some w) (hx : s.stands[i]? = some x) :
  isShown s i = vis s.phase (shownUp s i) w x := by
 unfold isShown
 rw [getD_get, shown_at hl hw hx]
 rfl
theorem isShown_out {s : Panel} (hl : s.stands.length = s.told.length) {i : Nat} (h : s.told.length ≤ i) : isShown s i = false := by
 unfold isShown
 rw [getD_get, List.getElem?_eq_none (by rw [shown_length hl]; exact h)]
 rfl
def nums (l : List Bool) : List Nat := (List.range l.length).filter fun i => l.getD i false
theorem nums_snoc (l : List Bool) (b : Bool) : nums (l ++ [b]) = nums l ++ if b = true then [l.length] else [] := by
 unfold nums
 rw [List.length_append, List.length_singleton, List.range_succ, List.filter_append]
 congr 1
 ·refine List.filter_congr fun i hi => ?_
  have hi' := List.mem_range.mp hi
  rw [getD_get, getD_get, List.getElem?_append_left hi']
 ·cases b
  ·simp [List.getD_eq_getElem?_getD]
  ·simp [List.getD_eq_getElem?_getD]
theorem mem_nums {l : List Bool} {i : Nat} : i ∈ nums l ↔ l.getD i false = true := by
 unfold nums
 rw [List.mem_filter, List.mem_range]
 refine ⟨fun h => h.2, fun h => ⟨?_, h⟩⟩
 refine Nat.lt_of_not_le fun hh => ?_
 rw [getD_get, List.getElem?_eq_none hh] at h
 cases h
theorem nums_shown {s : Panel} (hl : s.stands.length = s.told.length) : nums (shown s) = (List.range s.told.length).filter (isShown s) := by
 unfold nums
 rw [shown_length hl]
 rfl
theorem secondFrom_snoc (now : Nat) (on : List Nat) (w : Told) (x : Stand) : ∀ (ws : List Told) (xs : List Stand) (b : List Stand), ws.length = xs.length →
  secondFrom now on b (ws ++ [w]) (xs ++ [x]) = secondFrom now on b ws xs ++ [oneSecond now (source on (secondFrom now on b ws xs) w) w x]
 | [], [], b, _ => rfl
 | [], _ :: _, b, h => by cases h
 | _ :: _, [], b, h => by cases h
 | v :: ws, y :: xs, b, h => by
  show secondFrom now on _ (ws ++ [w]) (xs ++ [x]) = _
  rw [secondFrom_snoc now on w x ws xs _ (Nat.succ.inj h)]
  rfl
theorem secondFrom_length (now : Nat) (on : List Nat) : ∀ (ws : List Told) (xs : List Stand) (b : List Stand), ws.length = xs.length → (secondFrom now on b ws xs).length = b.length + ws.length
 | [], [], b, _ => rfl
 | [], _ :: _, b, h => by cases h
 | _ :: _, [], b, h => by cases h
 | v :: ws, y :: xs, b, h => by
  show (secondFrom now on _ ws xs).length = _
  rw [secondFrom_length now on ws xs _ (Nat.succ.inj h)]
  simp
  omega
def secUp (s : Panel) (i : Nat) : List Stand := secondFrom (s.now + 1) s.on [] (s.told.take i) (s.stands.take i)
theorem secUp_succ {s : Panel} (hl : s.stands.length = s.told.length) {i : Nat} {w : Told} {x : Stand} (hw : s.told[i]? = some w) (hx : s.stands[i]? = some x) :
  secUp s (i + 1) = secUp s i ++ [oneSecond (s.now + 1) (source s.on (secUp s i) w) w x] := by
 unfold secUp
 rw [take_snoc hw, take_snoc hx, secondFrom_snoc]
 simp [hl]
theorem secUp_length {s : Panel} (hl : s.stands.length = s.told.length) {i : Nat} (h : i ≤ s.told.length) : (secUp s i).length = i := by
 unfold secUp
 rw [secondFrom_length]
 ·simp
  omega
 ·simp [hl]
theorem secUp_all {s : Panel} (hl : s.stands.length = s.told.length) : secUp s s.told.length = secondFrom (s.now + 1) s.on [] s.told s.stands := by
 unfold secUp
 rw [List.take_length, ← hl, List.take_length]
def midway (s : Panel) (i : Nat) : List Stand := secUp s i ++ s.stands.drop i
theorem midway_zero (s : Panel) : midway s 0 = s.stands := by
 unfold midway secUp
 simp [secondFrom]
theorem midway_all {s : Panel} (hl : s.stands.length = s.told.length) : midway s s.told.length = secondFrom (s.now + 1) s.on [] s.told s.stands := by
 unfold midway
 rw [secUp_all hl, List.drop_of_length_le (by omega), List.append_nil]
theorem drop_at {α : Type} {l : List α} {i : Nat} {x : α} (h : l[i]? = some x) : l.drop i = x :: l.drop (i + 1) := by
 obtain ⟨h1, h2⟩ := List.getElem?_eq_some_iff.mp h
 rw [List.drop_eq_getElem_cons h1, h2]
theorem midway_at {s : Panel} (hl : s.stands.length = s.told.length) {i : Nat} {x : Stand} (hx : s.stands[i]? = some x) : (midway s i)[i]? = some x := by
 have hi := (List.getElem?_eq_some_iff.mp hx).1
 have e := secUp_length hl (i := i) (by omega)
 unfold midway
 rw [List.getElem?_append_right (by omega), e, drop_at hx]
 simp
theorem midway_succ {s : Panel} (hl : s.stands.length = s.told.length) {i : Nat} {w : Told} {x : Stand} (hw : s.told[i]? = some w) (hx : s.stands[i]? = some x) :
  midway s (i + 1) = (midway s i).set i (oneSecond (s.now + 1) (source s.on (secUp s i) w) w x) := by
 have hi := (List.getElem?_eq_some_iff.mp hx).1
 have e := secUp_length hl (i := i) (by omega)
 unfold midway
 rw [secUp_succ hl hw hx, drop_at hx, List.set_append_right _ _ (by omega), e]
 simp
theorem source_midway {s : Panel} (hl : s.stands.length = s.told.length) {i : Nat} (hi : i ≤ s.told.length) {w : Told} (hp : ∀ j ∈ w.parts, j < i) : source s.on (midway s i) w = source s.on (secUp s i) w := by
 have e := secUp_length hl hi
 unfold source
 have e2 : w.parts.filter (comeAt (midway s i)) = w.parts.filter (comeAt (secUp s i)) := by
  refine List.filter_congr fun j hj => ?_
  have hj' := hp j hj
  unfold comeAt midway
  rw [getD_get, getD_get, List.getElem?_append_left (by omega)]
 rw [e2]
theorem mark_length : ∀ (bs : List Bool) (xs : List Stand), (mark bs xs).length = xs.length
 | [], [] => rfl
 | [], _ :: _ => rfl
 | _ :: _, [] => rfl
 | b :: bs, x :: xs => by
  show (_ :: mark bs xs).length = _
  rw [List.length_cons, mark_length bs xs, List.length_cons]
def marked1 (b : Bool) (x : Stand) : Stand := if b = true then { x with shown := true } else x
theorem mark_at : ∀ {bs : List Bool} {xs : List Stand} {i : Nat} {b : Bool} {x : Stand}, bs[i]? = some b → xs[i]? = some x → (mark bs xs)[i]? = some (marked1 b x)
 | [], _, _, _, _, h, _ => by simp at h
 | _ :: _, [], _, _, _, _, h => by simp at h
 | c :: bs, y :: xs, 0, b, x, h1, h2 => by
  have e1 : c = b := Option.some.inj h1
  have e2 : y = x := Option.some.inj h2
  subst e1 e2
  rfl
 | c :: bs, y :: xs, i + 1, b, x, h1, h2 => mark_at (bs := bs) (xs := xs) (i := i) h1 h2
def markUp (bs : List Bool) (xs : List Stand) (i : Nat) : List Stand := (mark bs xs).take i ++ xs.drop i
theorem markUp_zero (bs : List Bool) (xs : List Stand) : markUp bs xs 0 = xs := by simp [markUp]
theorem markUp_all (bs : List Bool) (xs : List Stand) : markUp bs xs xs.length = mark bs xs := by
 unfold markUp
 rw [← mark_length bs xs, List.take_length, mark_length bs xs, List.drop_length, List.append_nil]
theorem markUp_at {bs : List Bool} {xs : List Stand} {i : Nat} {x : Stand} (hx : xs[i]? = some x) : (markUp bs xs i)[i]? = some x := by
 have hi := (List.getElem?_eq_some_iff.mp hx).1
 have e : ((mark bs xs).take i).length = i := by rw [List.length_take, mark_length]; omega
 unfold markUp
 rw [List.getElem?_append_right (by omega), e, drop_at hx]
 simp
theorem markUp_succ {bs : List Bool} {xs : List Stand} {i : Nat} {b : Bool} {x : Stand} (hb : bs[i]? = some b) (hx : xs[i]? = some x) : markUp bs xs (i + 1) = (markUp bs xs i).set i (marked1 b x) := by
 have hi := (List.getElem?_eq_some_iff.mp hx).1
 have e : ((mark bs xs).take i).length = i := by rw [List.length_take, mark_length]; omega
 unfold markUp
 rw [take_snoc (mark_at hb hx), drop_at hx, List.set_append_right _ _ (by omega), e]
 simp
def ev1 (now i : Nat) (c : Option Nat) (b : Bool) (x : Stand) : List Event :=
 (match c with | some k => [(⟨now, k, i⟩ : Event)] | none => []) ++ (if b = true ∧ x.shown = false then [(⟨now, 3, i⟩ : Event)] else [])
def evUp (now : Nat) (d : Nat → Option Nat) (bs : List Bool) (xs : List Stand) : Nat → List Event
 | 0 => []
 | i + 1 => evUp now d bs xs i ++ ev1 now i (d i) (bs.getD i false) (xs.getD i newStand)
def code (x y : Stand) : Option Nat := if (!x.come && y.come) = true then some 1 else if (x.come && !y.come) = true then some 2 else none
theorem changes_snoc (now : Nat) (x y : Stand) : ∀ (xs ys : List Stand) (i : Nat), xs.length = ys.length →
  changes now i (xs ++ [x]) (ys ++ [y]) = changes now i xs ys ++ changes now (i + xs.length) [x] [y]
 | [], [], i, _ => by simp [changes]
 | [], _ :: _, i, h => by cases h
 | _ :: _, [], i, h => by cases h
 | u :: xs, v :: ys, i, h => by
  have e : i + (u :: xs).length = i + 1 + xs.length := by rw [List.length_cons]; omega
  show _ ++ changes now (i + 1) (xs ++ [x]) (ys ++ [y]) = (_ ++ changes now (i + 1) xs ys) ++ _
  rw [changes_snoc now x y xs ys (i + 1) (Nat.succ.inj h), e]
  exact (List.append_assoc _ _ _).symm
theorem changes_one (now i : Nat) (o x : Stand) (b : Bool) (h : x.shown = o.shown ∨ (x.shown = false ∧ b = false)) :
  changes now i [o] [marked1 b x] = ev1 now i (code o x) b x := by
 obtain ⟨on1, of1, c1, s1, a1, k1, sh1, t1⟩ := o
 obtain ⟨on2, of2, c2, s2, a2, k2, sh2, t2⟩ := x
 simp only at h
 cases b <;> cases c1 <;> cases c2 <;> cases sh1 <;> cases sh2 <;> simp [changes, marked1, ev1, code] at h ⊢
theorem changes_evUp {now : Nat} {d : Nat → Option Nat} {bs : List Bool} {xs old : List Stand} (hb : bs.length = xs.length) (ho : old.length = xs.length)
  (hd : ∀ (i : Nat) o x, old[i]? = some o → xs[i]? = some x → d i = code o x)
  (hs : ∀ (i : Nat) b o x, bs[i]? = some b → old[i]? = some o → xs[i]? = some x → x.shown = o.shown ∨ (x.shown = false ∧ b = false)) :
  ∀ (i : Nat), i ≤ xs.length → changes now 0 (old.take i) ((mark bs xs).take i) = evUp now d bs xs i
 | 0, _ => by simp [changes, evUp]
 | i + 1, h => by
  obtain ⟨o, h1⟩ := ex_get (l := old) (i := i) (by omega)
  obtain ⟨x, h2⟩ := ex_get (l := xs) (i := i) (by omega)
  obtain ⟨b, h3⟩ := ex_get (l := bs) (i := i) (by omega)
  have hm := mark_length bs xs
  rw [take_snoc h1, take_snoc (mark_at h3 h2), changes_snoc, changes_evUp hb ho hd hs i (by omega)]
  ·rw [List.length_take, Nat.zero_add, Nat.min_eq_left (by omega), changes_one now i o x b (hs i b o x h3 h1 h2), ← hd i o x h1 h2]
   show _ = evUp now d bs xs i ++ ev1 now i (d i) (bs.getD i false) (xs.getD i newStand)
   rw [getD_get, getD_get, h3, h2]
   rfl
  ·rw [List.length_take, List.length_take, hm, ho]
def pyMark (d : Nat → Option Nat) (s : Panel) : Panel := noted { s with stands := mark (shown s) s.stands } (evUp s.now d (shown s) s.stands s.stands.length)
theorem settled_py {s : Panel} {xs : List Stand} {d : Nat → Option Nat} (hl : xs.length = s.told.length) (ho : s.stands.length = xs.length)
  (hd : ∀ (i : Nat) o x, s.stands[i]? = some o → xs[i]? = some x → d i = code o x)
  (hs : ∀ (i : Nat) b o x, (shown { s with stands := xs })[i]? = some b → s.stands[i]? = some o → xs[i]? = some x → x.shown = o.shown ∨ (x.shown = false ∧ b = false)) :
  settled s xs = pyMark d { s with stands := xs } := by
 have e := changes_evUp (now := s.now) (d := d) (bs := shown { s with stands := xs }) (xs := xs) (old := s.stands) (by rw [shown_length (s := { s with stands := xs }) hl]; exact hl.symm) ho hd hs xs.length (Nat.le_refl _)
 rw [← ho, List.take_length, ho] at e
 have e2 : (mark (shown { s with stands := xs }) xs).take xs.length = mark (shown { s with stands := xs }) xs := by
  rw [List.take_of_length_le]
  rw [mark_length]
  exact Nat.le_refl _
 rw [e2] at e
 exact congrArg (noted { s with stands := mark (shown { s with stands := xs }) xs }) e
structure Wf (s : Panel) : Prop where
 len : s.stands.length = s.told.length
 few : s.told.length ≤ 24
 log : s.log.length ≤ 200
 parts : ∀ (i : Nat) w, s.told[i]? = some w → ∀ j ∈ w.parts, j < i
 covers : ∀ (i : Nat) w, s.told[i]? = some w → ∀ j ∈ w.covers, j < i
 need : ∀ w ∈ s.told, (w.need = 0 ∧ w.parts = []) ∨ (0 < w.need ∧ w.parts ≠ [])
 cause : ∀ w ∈ s.told, w.cause < 32
 rank : ∀ w ∈ s.told, 1 ≤ w.rank ∧ w.rank ≤ 3
 hid : ∀ x ∈ s.stands, x.come = false → x.shown = false
 marked : ∀ (i : Nat) x, s.stands[i]? = some x → isShown s i = true → x.shown = true
 on : s.on = (List.range 32).filter (has s.on)
theorem vis_come {p : Nat} {b : List Bool} {w : Told} {x : Stand} (h : x.come = false) : vis p b w x = false := by
 unfold vis
 rw [h]
 rfl
theorem vis_mark {p : Nat} {b : List Bool} {w : Told} {x : Stand} : vis p b w (marked1 (vis p b w x) x) = vis p b w x := by
 unfold marked1
 by_cases h : vis p b w x = true
 ·rw [if_pos h, h]
  unfold vis held at h ⊢
  simp only [Bool.and_eq_true] at h ⊢
  obtain ⟨h1, h2, h3, h4⟩ := h
  exact ⟨h1, h2, by simp, h4⟩
 ·rw [if_neg h]
theorem shownUp_mark {s : Panel} (hl : s.stands.length = s.told.length) : ∀ (i : Nat), i ≤ s.told.length → shownUp { s with stands := mark (shown s) s.stands } i = shownUp s i
 | 0, _ => by simp [shownUp, shownFrom]
 | i + 1, h => by
  obtain ⟨w, hw⟩ := ex_get (l := s.told) (i := i) (by omega)
  obtain ⟨x, hx⟩ := ex_get (l := s.stands) (i := i) (by omega)
  have e1 := shown_at hl hw hx
  have e2 := mark_at e1 hx
  have hl' : (mark (shown s) s.stands).length = s.told.length := by rw [mark_length]; exact hl
  rw [shownUp_succ (s := { s with stands := mark (shown s) s.stands }) hl' hw e2, shownUp_mark hl i (by omega), shownUp_succ hl hw hx]
  show _ ++ [vis s.phase (shownUp s i) w (marked1 (vis s.phase (shownUp s i) w x) x)] = _
  rw [vis_mark]
theorem shown_mark {s : Panel} (hl : s.stands.length = s.told.length) : shown { s with stands := mark (shown s) s.stands } = shown s := by
 have hl' : (mark (shown s) s.stands).length = s.told.length := by rw [mark_length]; exact hl
 rw [← shownUp_all (s := { s with stands := mark (shown s) s.stands }) hl', shownUp_mark hl _ (Nat.le_refl _), shownUp_all hl]
theorem noted_phase (s : Panel) (l : List Event) : (noted s l).phase = s.phase := by rw [noted_eq]
theorem noted_told (s : Panel) (l : List Event) : (noted s l).told = s.told := by rw [noted_eq]
theorem noted_stands (s : Panel) (l : List Event) : (noted s l).stands = s.stands := by rw [noted_eq]
theorem noted_now (s : Panel) (l : List Event) : (noted s l).now = s.now := by rw [noted_eq]
theorem noted_on (s : Panel) (l : List Event) : (noted s l).on = s.on := by rw [noted_eq]
theorem shown_noted (s : Panel) (l : List Event) : shown (noted s l) = shown s := by
 unfold shown
 rw [noted_phase, noted_told, noted_stands]
theorem pyMark_stands (d : Nat → Option Nat) (s : Panel) : (pyMark d s).stands = mark (shown s) s.stands := by
 unfold pyMark
 rw [noted_stands]
theorem pyMark_told (d : Nat → Option Nat) (s : Panel) : (pyMark d s).told = s.told := by
 unfold pyMark
 rw [noted_told]
theorem pyMark_now (d : Nat → Option Nat) (s : Panel) : (pyMark d s).now = s.now := by
 unfold pyMark
 rw [noted_now]
theorem pyMark_on (d : Nat → Option Nat) (s : Panel) : (pyMark d s).on = s.on := by
 unfold pyMark
 rw [noted_on]
theorem pyMark_shown {d : Nat → Option Nat} {s : Panel} (hl : s.stands.length = s.told.length) : shown (pyMark d s) = shown s := by
 unfold pyMark
 rw [shown_noted, shown_mark hl]
theorem marked_pyMark {d : Nat → Option Nat} {s : Panel} (hl : s.stands.length = s.told.length) : ∀ (i : Nat) x, (pyMark d s).stands[i]? = some x → isShown (pyMark d s) i = true → x.shown = true := by
 intro i x hx hs
 have e : shown (pyMark d s) = shown s := pyMark_shown hl
 unfold isShown at hs
 rw [e] at hs
 rw [pyMark_stands] at hx
 have hi := (List.getElem?_eq_some_iff.mp hx).1
 rw [mark_length] at hi
 obtain ⟨y, hy⟩ := ex_get (l := s.stands) hi
 obtain ⟨b, hb⟩ := ex_get (l := shown s) (i := i) (by rw [shown_length hl]; omega)
 rw [getD_get, hb] at hs
 have hb' : b = true := hs
 subst hb'
 rw [mark_at hb hy] at hx
 cases hx
 rfl
theorem mark_same {bs : List Bool} : ∀ {xs : List Stand}, (∀ (i : Nat) x, xs[i]? = some x → bs.getD i false = true → x.shown = true) → mark bs xs = xs := by
 intro xs h
 refine List.ext_getElem? fun i => ?_
 by_cases hi : i < xs.length
 ·obtain ⟨x, hx⟩ := ex_get hi
  by_cases hb : i < bs.length
  ·obtain ⟨b, hb⟩ := ex_get hb
   rw [mark_at hb hx, hx]
   have q := h i x hx
   rw [getD_get, hb] at q
   cases b with
   | false => rfl
   | true =>
    have q := q rfl
    unfold marked1
    rw [if_pos rfl]
    cases x
    simp only at q
    subst q
    rfl
  ·have key : ∀ (bs : List Bool) (xs : List Stand) (i : Nat), bs.length ≤ i → (mark bs xs)[i]? = xs[i]? := by
    intro bs
    induction bs with
    | nil => intro xs i _; cases xs <;> rfl
    | cons b bs ih =>
     intro xs i hh
     cases xs with
     | nil => rfl
     | cons y ys =>
      cases i with
      | zero => simp at hh
      | succ i => exact ih ys i (by simpa using hh)
   exact key bs xs i (by omega)
 ·rw [List.getElem?_eq_none (by rw [mark_length]; omega), List.getElem?_eq_none (by omega)]
theorem oneSecond_cases (now : Nat) (src : Bool) (w : Told) (x : Stand) :
  (x.come = false ∧ w.onDelay < (if src = true then x.onFor + 1 else 0) ∧ oneSecond now src w x = ⟨if src = true then x.onFor + 1 else 0, if src = true then 0 else x.offFor + 1, true, now, false, false, false, x.times + 1⟩) ∨
  (x.come = true ∧ (w.latch = false ∧ w.offDelay < (if src = true then 0 else x.offFor + 1)) ∧ oneSecond now src w x = ⟨if src = true then x.onFor + 1 else 0, if src = true then 0 else x.offFor + 1, false, 0, false, false, false, x.times⟩) ∨
  (¬ (x.come = false ∧ w.onDelay < (if src = true then x.onFor + 1 else 0)) ∧ ¬ (x.come = true ∧ (w.latch = false ∧ w.offDelay < (if src = true then 0 else x.offFor + 1))) ∧
   oneSecond now src w x = ⟨if src = true then x.onFor + 1 else 0, if src = true then 0 else x.offFor + 1, x.come, x.since, x.acked, x.cancelled, x.shown, x.times⟩) := by
 by_cases h1 : x.come = false ∧ w.onDelay < (if src = true then x.onFor + 1 else 0)
 ·exact .inl ⟨h1.1, h1.2, if_pos h1⟩
 ·by_cases h2 : x.come = true ∧ (w.latch = false ∧ w.offDelay < (if src = true then 0 else x.offFor + 1))
  ·exact .inr (.inl ⟨h2.1, h2.2, (if_neg h1).trans (if_pos h2)⟩)
  ·exact .inr (.inr ⟨h1, h2, (if_neg h1).trans (if_neg h2)⟩)
theorem oneSecond_come {now : Nat} {src : Bool} {w : Told} {x : Stand} :
  (oneSecond now src w x).shown = x.shown ∨ ((oneSecond now src w x).shown = false ∧ ((oneSecond now src w x).come = false ∨ x.come = false)) := by
 rcases oneSecond_cases now src w x with ⟨h1, _, e⟩ | ⟨h1, _, e⟩ | ⟨_, _, e⟩
 ·rw [e]
  exact .inr ⟨rfl, .inr h1⟩
 ·rw [e]
  exact .inr ⟨rfl, .inl rfl⟩
 ·rw [e]
  exact .inl rfl
theorem oneSecond_hid {now : Nat} {src : Bool} {w : Told} {x : Stand} (h : x.come = false → x.shown = false) : (oneSecond now src w x).come = false → (oneSecond now src w x).shown = false := by
 rcases oneSecond_cases now src w x with ⟨h1, _, e⟩ | ⟨h1, _, e⟩ | ⟨_, _, e⟩
 ·rw [e]
  intro q
  cases q
 ·rw [e]
  intro _
  rfl
 ·rw [e]
  exact h
theorem secUp_at {s : Panel} (hl : s.stands.length = s.told.length) {i : Nat} {w : Told} {x : Stand} (hw : s.told[i]? = some w) (hx : s.stands[i]? = some x) :
  (secondFrom (s.now + 1) s.on [] s.told s.stands)[i]? = some (oneSecond (s.now + 1) (source s.on (secUp s i) w) w x) := by
 have hi := (List.getElem?_eq_some_iff.mp hw).1
 have key : ∀ (k : Nat), i + 1 + k ≤ s.told.length → (secUp s (i + 1 + k))[i]? = some (oneSecond (s.now + 1) (source s.on (secUp s i) w) w x) := by
  intro k
  induction k with
  | zero =>
   intro h
   have e := secUp_length hl (i := i) (by omega)
   show (secUp s (i + 1))[i]? = _
   rw [secUp_succ hl hw hx, List.getElem?_append_right (by omega), e]
   simp
  | succ k ih =>
   intro h
   obtain ⟨w', hw'⟩ := ex_get (l := s.told) (i := i + 1 + k) (by omega)
   obtain ⟨x', hx'⟩ := ex_get (l := s.stands) (i := i + 1 + k) (by omega)
   have e := secUp_length hl (i := i + 1 + k) (by omega)
   show (secUp s (i + 1 + k + 1))[i]? = _
   rw [secUp_succ hl hw' hx', List.getElem?_append_left (by omega)]
   exact ih (by omega)
 have q := key (s.told.length - (i + 1)) (by omega)
 have e : i + 1 + (s.told.length - (i + 1)) = s.told.length := by omega
 rw [e, secUp_all hl] at q
 exact q
def secCode (s : Panel) (i : Nat) : Option Nat := code (s.stands.getD i newStand) ((secondFrom (s.now + 1) s.on [] s.told s.stands).getD i newStand)
theorem second_py {s : Panel} (h : Wf s) : second s = pyMark (secCode s) { s with now := s.now + 1, stands := secondFrom (s.now + 1) s.on [] s.told s.stands } := by
 have hl := h.len
 have hlen : (secondFrom (s.now + 1) s.on [] s.told s.stands).length = s.told.length := by rw [secondFrom_length _ _ _ _ _ hl.symm]; simp
 refine settled_py (s := { s with now := s.now + 1 }) hlen (hl.trans hlen.symm) (fun i o x ho hx => ?_) (fun i b o x hb ho hx => ?_)
 ·have ho : s.stands[i]? = some o := ho
  unfold secCode
  rw [getD_get, getD_get, ho, hx]
  rfl
 ·have ho : s.stands[i]? = some o := ho
  have hi := (List.getElem?_eq_some_iff.mp ho).1
  obtain ⟨w, hw⟩ := ex_get (l := s.told) (i := i) (by omega)
  rw [secUp_at hl hw ho] at hx
  have ex : oneSecond (s.now + 1) (source s.on (secUp s i) w) w o = x := Option.some.inj hx
  have e2 := shown_at (s := { s with now := s.now + 1, stands := secondFrom (s.now + 1) s.on [] s.told s.stands }) hlen (i := i) (w := w) (x := x) hw (by rw [← ex]; exact secUp_at hl hw ho)
  have hb : (shown { s with now := s.now + 1, stands := secondFrom (s.now + 1) s.on [] s.told s.stands })[i]? = some b := hb
  rw [e2] at hb
  have eb := Option.some.inj hb
  rcases oneSecond_come (now := s.now + 1) (src := source s.on (secUp s i) w) (w := w) (x := o) with q | ⟨q1, q2 | q2⟩
  ·rw [ex] at q
   exact .inl q
  ·rw [ex] at q1 q2
   refine .inr ⟨q1, ?_⟩
   rw [← eb]
   exact vis_come q2
  ·rw [ex] at q1
   refine .inl ?_
   rw [q1, h.hid o (List.mem_of_getElem? ho) q2]
theorem noted_log (s : Panel) (l : List Event) : (noted s l).log = keep (s.log ++ l) := by rw [noted_eq]
theorem noted_log_le (s : Panel) (l : List Event) : (noted s l).log.length ≤ 200 := by
 rw [noted_log]
 exact keep_length _
theorem Wf.pyMark {s : Panel} {d : Nat → Option Nat} (len : s.stands.length = s.told.length) (few : s.told.length ≤ 24)
  (parts : ∀ (i : Nat) w, s.told[i]? = some w → ∀ j ∈ w.parts, j < i) (covers : ∀ (i : Nat) w, s.told[i]? = some w → ∀ j ∈ w.covers, j < i)
  (need : ∀ w ∈ s.told, (w.need = 0 ∧ w.parts = []) ∨ (0 < w.need ∧ w.parts ≠ [])) (cause : ∀ w ∈ s.told, w.cause < 32) (rank : ∀ w ∈ s.told, 1 ≤ w.rank ∧ w.rank ≤ 3)
  (hid : ∀ x ∈ s.stands, x.come = false → x.shown = false) (on : s.on = (List.range 32).filter (has s.on)) : Wf (pyMark d s) := by
 have a1 : (Sw.pyMark d s).stands.length = (Sw.pyMark d s).told.length := by
  rw [pyMark_stands, pyMark_told, mark_length]
  exact len
 have a2 := pyMark_told d s
 have a3 := pyMark_on d s
 have a4 := marked_pyMark (d := d) len
 have a5 : (Sw.pyMark d s).log.length ≤ 200 := by
  unfold Sw.pyMark
  exact noted_log_le _ _
 have a6 := pyMark_stands d s
 generalize Sw.pyMark d s = t at a1 a2 a3 a4 a5 a6
 refine ⟨a1, by rw [a2]; exact few, a5, by rw [a2]; exact parts, by rw [a2]; exact covers, by rw [a2]; exact need, by rw [a2]; exact cause, by rw [a2]; exact rank, ?_, a4, by rw [a3]; exact on⟩
 ·rw [a6]
  intro x hx hc
  obtain ⟨i, hi⟩ := List.mem_iff_getElem?.mp hx
  have hlt := (List.getElem?_eq_some_iff.mp hi).1
  rw [mark_length] at hlt
  obtain ⟨y, hy⟩ := ex_get (l := s.stands) hlt
  obtain ⟨w, hw⟩ := ex_get (l := s.told) (i := i) (by omega)
  have hb := shown_at len hw hy
  rw [mark_at hb hy] at hi
  have e := Option.some.inj hi
  by_cases hv : vis s.phase (shownUp s i) w y = true
  ·exfalso
   have e3 : marked1 (vis s.phase (shownUp s i) w y) y = { y with shown := true } := by
    unfold marked1
    rw [if_pos hv]
   rw [e3] at e
   have hyc : y.come = false := by
    rw [← e] at hc
    exact hc
   rw [vis_come hyc] at hv
   cases hv
  ·have e3 : marked1 (vis s.phase (shownUp s i) w y) y = y := by
    unfold marked1
    rw [if_neg hv]
   rw [e3] at e
   subst e
   exact hid y (List.mem_of_getElem? hy) hc
theorem Wf.second {s : Panel} (h : Wf s) : Wf (Vbavag.second s) := by
 have hl := h.len
 have hlen : (secondFrom (s.now + 1) s.on [] s.told s.stands).length = s.told.length := by rw [secondFrom_length _ _ _ _ _ hl.symm]; simp
 rw [second_py h]
 refine Wf.pyMark hlen h.few h.parts h.covers h.need h.cause h.rank (fun x hx hc => ?_) h.on
 have hx : x ∈ secondFrom (s.now + 1) s.on [] s.told s.stands := hx
 obtain ⟨i, hi⟩ := List.mem_iff_getElem?.mp hx
 have hlt := (List.getElem?_eq_some_iff.mp hi).1
 obtain ⟨y, hy⟩ := ex_get (l := s.stands) (i := i) (by omega)
 obtain ⟨w, hw⟩ := ex_get (l := s.told) (i := i) (by omega)
 rw [secUp_at hl hw hy] at hi
 have e := Option.some.inj hi
 subst e
 exact oneSecond_hid (h.hid y (List.mem_of_getElem? hy)) hc
theorem Wf.seconds : ∀ (k : Nat) {s : Panel}, Wf s → Wf (Vbavag.seconds k s)
 | 0, _, h => h
 | k + 1, _, h => Wf.seconds k h.second
def ran (src : Bool) (q : Nat) (x : Stand) : Stand := { x with onFor := if src = true then x.onFor + q else 0, offFor := if src = true then 0 else x.offFor + q }
def quietOf (src : Bool) (w : Told) (x : Stand) (most : Int) : Int :=
 if (src && !x.come) = true then min most ((w.onDelay : Int) - x.onFor) else if (!src && (x.come && !w.latch)) = true then min most ((w.offDelay : Int) - x.offFor) else most
def quietUp (s : Panel) (most : Int) : Nat → Int
 | 0 => most
 | i + 1 => quietOf (source s.on s.stands (toldOf s i)) (toldOf s i) (standOf s i) (quietUp s most i)
def quiet (s : Panel) (most : Int) : Int := quietUp s most s.told.length
def runs (s : Panel) (q : Nat) (i : Nat) : Stand := ran (source s.on s.stands (toldOf s i)) q (standOf s i)
def skip (q : Nat) (s : Panel) : Panel := { s with now := s.now + q, stands := (List.range s.told.length).map (runs s q) }
theorem toldOf_at {s : Panel} {i : Nat} {w : Told} (h : s.told[i]? = some w) : toldOf s i = w := by
 unfold toldOf
 rw [getD_get, h]
 rfl
theorem standOf_at {s : Panel} {i : Nat} {x : Stand} (h : s.stands[i]? = some x) : standOf s i = x := by
 unfold standOf
 rw [getD_get, h]
 rfl
def stays (src : Bool) (w : Told) (x : Stand) (q : Nat) : Prop := ((src && !x.come) = true → x.onFor + q ≤ w.onDelay) ∧ ((!src && (x.come && !w.latch)) = true → x.offFor + q ≤ w.offDelay)
theorem quietOf_le (src : Bool) (w : Told) (x : Stand) (most : Int) : quietOf src w x most ≤ most := by
 unfold quietOf
 split
 ·omega
 ·split <;> omega
theorem quietOf_stays {src : Bool} {w : Told} {x : Stand} {most : Int} {q : Nat} (h : (q : Int) ≤ quietOf src w x most) : stays src w x q := by
 unfold quietOf at h
 refine ⟨fun h1 => ?_, fun h2 => ?_⟩
 ·rw [if_pos h1] at h
  omega
 ·have h1 : ¬ (src && !x.come) = true := by
   intro h1
   simp only [Bool.and_eq_true, Bool.not_eq_true'] at h1 h2
   rw [h1.1] at h2
   cases h2.1
  rw [if_neg h1, if_pos h2] at h
  omega
theorem quietUp_le (s : Panel) (most : Int) : ∀ (i : Nat), quietUp s most i ≤ most
 | 0 => Int.le_refl _
 | i + 1 => Int.le_trans (quietOf_le ..) (quietUp_le s most i)
theorem quietUp_stays {s : Panel} {most : Int} {q : Nat} : ∀ {i : Nat}, (q : Int) ≤ quietUp s most i → ∀ j, j < i → stays (source s.on s.stands (toldOf s j)) (toldOf s j) (standOf s j) q
 | 0, _, j, hj => by omega
 | i + 1, h, j, hj => by
  by_cases e : j = i
  ·subst e
   exact quietOf_stays h
  ·exact quietUp_stays (Int.le_trans h (quietOf_le ..)) j (by omega)
theorem oneSecond_stays {now : Nat} {src : Bool} {w : Told} {x : Stand} (h : stays src w x 1) : oneSecond now src w x = ran src 1 x := by
 obtain ⟨h1, h2⟩ := h
 obtain ⟨on1, of1, c1, s1, a1, k1, sh1, t1⟩ := x
 obtain ⟨wc, wn, wp, wr, wo, wf, wl, wph, wcv⟩ := w
 unfold oneSecond ran
 dsimp only at h1 h2 ⊢
 cases src <;> cases c1 <;> cases wl <;> simp at h1 h2 ⊢ <;> omega
theorem skip_at {s : Panel} {q : Nat} {i : Nat} (h : i < s.told.length) : (skip q s).stands[i]? = some (runs s q i) := by
 show ((List.range s.told.length).map (runs s q))[i]? = _
 rw [List.getElem?_map, List.getElem?_range h]
 rfl
theorem source_congr {on : List Nat} {a b : List Stand} {w : Told} (h : ∀ j ∈ w.parts, comeAt a j = comeAt b j) : source on a w = source on b w := by
 unfold source
 rw [List.filter_congr h]
theorem secUp_quiet {s : Panel} (hw : Wf s) (hq : ∀ j, j < s.told.length → stays (source s.on s.stands (toldOf s j)) (toldOf s j) (standOf s j) 1) :
  ∀ (i : Nat), i ≤ s.told.length → secUp s i = (List.range i).map (runs s 1)
 | 0, _ => by simp [secUp, secondFrom]
 | i + 1, h => by
  obtain ⟨w, h1⟩ := ex_get (l := s.told) (i := i) (by omega)
  have hl := hw.len
  obtain ⟨x, h2⟩ := ex_get (l := s.stands) (i := i) (by omega)
  have ih := secUp_quiet hw hq i (by omega)
  have e : source s.on (secUp s i) w = source s.on s.stands w := by
   refine source_congr fun j hj => ?_
   have hji := hw.parts i w h1 j hj
   rw [ih]
   unfold comeAt
   rw [getD_get, getD_get, List.getElem?_map, List.getElem?_range hji]
   show (runs s 1 j).come = _
   unfold runs ran standOf
   rw [getD_get]
  have st := hq i (by omega)
  rw [toldOf_at h1, standOf_at h2] at st
  rw [secUp_succ hl h1 h2, e, oneSecond_stays st, ih, List.range_succ, List.map_append]
  show _ = _ ++ [runs s 1 i]
  unfold runs
  rw [toldOf_at h1, standOf_at h2]
theorem vis_ran {p : Nat} {b : List Bool} {w : Told} {x : Stand} {src : Bool} {q : Nat} : vis p b w (ran src q x) = vis p b w x := rfl
theorem skip_len {s : Panel} {q : Nat} : (skip q s).stands.length = s.told.length := by
 show ((List.range s.told.length).map (runs s q)).length = _
 simp
theorem shownUp_skip {s : Panel} (hl : s.stands.length = s.told.length) {q : Nat} : ∀ (i : Nat), i ≤ s.told.length → shownUp (skip q s) i = shownUp s i
 | 0, _ => by simp [shownUp, shownFrom]
 | i + 1, h => by
  obtain ⟨w, h1⟩ := ex_get (l := s.told) (i := i) (by omega)
  obtain ⟨x, h2⟩ := ex_get (l := s.stands) (i := i) (by omega)
  have e : runs s q i = ran (source s.on s.stands w) q x := by
   unfold runs
   rw [toldOf_at h1, standOf_at h2]
  rw [shownUp_succ (s := skip q s) skip_len h1 (skip_at (by omega)), shownUp_skip hl i (by omega), shownUp_succ hl h1 h2, e, vis_ran]
  rfl
theorem shown_skip {s : Panel} (hl : s.stands.length = s.told.length) {q : Nat} : shown (skip q s) = shown s := by
 rw [← shownUp_all (s := skip q s) skip_len, ← shownUp_all hl]
 exact shownUp_skip hl _ (Nat.le_refl _)
theorem Wf.skip {s : Panel} (h : Wf s) {q : Nat} : Wf (Sw.skip q s) := by
 have hl := h.len
 refine ⟨skip_len, h.few, h.log, h.parts, h.covers, h.need, h.cause, h.rank, fun x hx hc => ?_, fun i x hx hs => ?_, h.on⟩
 ·obtain ⟨i, hi, e⟩ := List.mem_map.mp (show x ∈ (List.range s.told.length).map (runs s q) from hx)
  have hi := List.mem_range.mp hi
  obtain ⟨y, hy⟩ := ex_get (l := s.stands) (i := i) (by omega)
  unfold runs at e
  rw [standOf_at hy] at e
  subst e
  exact h.hid y (List.mem_of_getElem? hy) hc
 ·have hlt := (List.getElem?_eq_some_iff.mp hx).1
  rw [skip_len] at hlt
  rw [skip_at hlt] at hx
  have e := Option.some.inj hx
  obtain ⟨y, hy⟩ := ex_get (l := s.stands) (i := i) (by omega)
  unfold isShown at hs
  rw [shown_skip hl] at hs
  unfold runs at e
  rw [standOf_at hy] at e
  subst e
  exact h.marked i y hy hs
theorem evUp_nil {now : Nat} {d : Nat → Option Nat} {bs : List Bool} {xs : List Stand} : ∀ (i : Nat), (∀ j, j < i → ev1 now j (d j) (bs.getD j false) (xs.getD j newStand) = []) → evUp now d bs xs i = []
 | 0, _ => rfl
 | i + 1, h => by
  show evUp now d bs xs i ++ _ = []
  rw [evUp_nil i (fun j hj => h j (by omega)), h i (by omega)]
  rfl
theorem second_skip {s : Panel} (hw : Wf s) (hq : ∀ j, j < s.told.length → stays (source s.on s.stands (toldOf s j)) (toldOf s j) (standOf s j) 1) : second s = skip 1 s := by
 have hl := hw.len
 have e1 : secondFrom (s.now + 1) s.on [] s.told s.stands = (List.range s.told.length).map (runs s 1) := by
  rw [← secUp_all hl]
  exact secUp_quiet hw hq _ (Nat.le_refl _)
 have e2 : ({ s with now := s.now + 1, stands := secondFrom (s.now + 1) s.on [] s.told s.stands } : Panel) = skip 1 s := by
  rw [e1]
  rfl
 have w2 := hw.skip (q := 1)
 rw [second_py hw, e2]
 have e3 : mark (shown (skip 1 s)) (skip 1 s).stands = (skip 1 s).stands := mark_same fun i x hx hs => w2.marked i x hx hs
 have e4 : evUp (skip 1 s).now (secCode s) (shown (skip 1 s)) (skip 1 s).stands (skip 1 s).stands.length = [] := by
  refine evUp_nil _ fun j hj => ?_
  rw [skip_len] at hj
  obtain ⟨x, hx⟩ := ex_get (l := s.stands) (i := j) (by omega)
  have hc : secCode s j = none := by
   unfold secCode code
   rw [e1, getD_get, getD_get, List.getElem?_map, List.getElem?_range hj, hx]
   show (if (!x.come && (runs s 1 j).come) = true then _ else if (x.come && !(runs s 1 j).come) = true then _ else _) = _
   have e : (runs s 1 j).come = x.come := by
    unfold runs
    rw [standOf_at hx]
    rfl
   rw [e]
   cases x.come <;> rfl
  have hm := w2.marked j _ (skip_at hj)
  unfold ev1
  rw [hc, getD_get (skip 1 s).stands, skip_at hj]
  show [] ++ (if _ ∧ (runs s 1 j).shown = false then _ else _) = []
  rw [if_neg]
  ·rfl
  ·rintro ⟨h1, h2⟩
   rw [hm h1] at h2
   cases h2
 unfold pyMark
 rw [e3, e4]
 exact noted_nil w2.log
theorem ran_ran (src : Bool) (a b : Nat) (x : Stand) (ha : 0 < a) : ran src b (ran src a x) = ran src (a + b) x := by
 unfold ran
 cases src <;> simp <;> omega
theorem source_skip {s : Panel} (hw : Wf s) {q : Nat} {i : Nat} {w : Told} (h1 : s.told[i]? = some w) : source (skip q s).on (skip q s).stands w = source s.on s.stands w := by
 have hl := hw.len
 have hi := (List.getElem?_eq_some_iff.mp h1).1
 refine source_congr fun j hj => ?_
 have hji := hw.parts i w h1 j hj
 unfold comeAt
 rw [getD_get, getD_get, skip_at (by omega)]
 show (runs s q j).come = _
 unfold runs ran standOf
 rw [getD_get]
theorem skip_skip {s : Panel} (hw : Wf s) {a b : Nat} (ha : 0 < a) : skip b (skip a s) = skip (a + b) s := by
 have hl := hw.len
 have e : (List.range s.told.length).map (runs (skip a s) b) = (List.range s.told.length).map (runs s (a + b)) := by
  refine List.map_congr_left fun i hi => ?_
  have hi := List.mem_range.mp hi
  obtain ⟨w, h1⟩ := ex_get (l := s.told) (i := i) hi
  obtain ⟨x, h2⟩ := ex_get (l := s.stands) (i := i) (by omega)
  have h1' : (skip a s).told[i]? = some w := h1
  unfold runs
  rw [toldOf_at h1, toldOf_at h1', source_skip hw h1, standOf_at h2, standOf_at (skip_at hi)]
  unfold runs
  rw [toldOf_at h1, standOf_at h2, ran_ran _ _ _ _ ha]
 show ({ s with now := s.now + a + b, stands := (List.range s.told.length).map (runs (skip a s) b) } : Panel) = { s with now := s.now + (a + b), stands := (List.range s.told.length).map (runs s (a + b)) }
 rw [e, Nat.add_assoc]
theorem stays_le {src : Bool} {w : Told} {x : Stand} {q r : Nat} (h : stays src w x q) (hr : r ≤ q) : stays src w x r := ⟨fun a => by have := h.1 a; omega, fun a => by have := h.2 a; omega⟩
theorem stays_ran {src : Bool} {w : Told} {x : Stand} {q : Nat} (h : stays src w x (q + 1)) : stays src w (ran src 1 x) q := by
 obtain ⟨h1, h2⟩ := h
 refine ⟨fun a => ?_, fun a => ?_⟩
 ·have q1 := h1 a
  unfold ran
  dsimp only
  simp only [Bool.and_eq_true] at a
  rw [if_pos a.1]
  omega
 ·have q1 := h2 a
  unfold ran
  dsimp only
  simp only [Bool.and_eq_true, Bool.not_eq_true'] at a
  rw [if_neg (by rw [a.1]; decide)]
  omega
theorem seconds_skip : ∀ (q : Nat) {s : Panel}, Wf s → (∀ j, j < s.told.length → stays (source s.on s.stands (toldOf s j)) (toldOf s j) (standOf s j) (q + 1)) → seconds (q + 1) s = skip (q + 1) s
 | 0, s, hw, hq => second_skip hw hq
 | q + 1, s, hw, hq => by
  have hl := hw.len
  have e1 : second s = skip 1 s := second_skip hw fun j hj => stays_le (hq j hj) (by omega)
  show seconds (q + 1) (second s) = _
  rw [e1, seconds_skip q hw.skip fun j hj => ?_, skip_skip hw (by omega)]
  ·have e2 : 1 + (q + 1) = q + 1 + 1 := by omega
   rw [e2]
  ·have hj : j < s.told.length := hj
   obtain ⟨w, h1⟩ := ex_get (l := s.told) (i := j) hj
   obtain ⟨x, h2⟩ := ex_get (l := s.stands) (i := j) (by omega)
   have h1' : (skip 1 s).told[j]? = some w := h1
   have st := hq j hj
   rw [toldOf_at h1, standOf_at h2] at st
   rw [toldOf_at h1', source_skip hw h1, standOf_at (skip_at hj)]
   unfold runs
   rw [toldOf_at h1, standOf_at h2]
   exact stays_ran st
theorem seconds_quiet {s : Panel} {most : Int} {q : Nat} (hw : Wf s) (h0 : 0 < q) (h : (q : Int) ≤ quiet s most) : seconds q s = skip q s := by
 obtain ⟨r, rfl⟩ : ∃ r, q = r + 1 := ⟨q - 1, by omega⟩
 exact seconds_skip r hw fun j hj => quietUp_stays h j hj
theorem seconds_add : ∀ (a b : Nat) (s : Panel), seconds (a + b) s = seconds b (seconds a s)
 | 0, b, s => by
  rw [Nat.zero_add]
  rfl
 | a + 1, b, s => by
  have e : a + 1 + b = a + b + 1 := by omega
  rw [e]
  show seconds (a + b) (second s) = _
  rw [seconds_add a b (second s)]
  rfl
def noD : Nat → Option Nat := fun _ => none
theorem code_same {x y : Stand} (h : y.come = x.come) : code x y = none := by
 unfold code
 rw [h]
 cases x.come <;> rfl
theorem settled_none {s : Panel} {xs : List Stand} (hl : s.stands.length = s.told.length) (ho : s.stands.length = xs.length)
  (h : ∀ (i : Nat) o x, s.stands[i]? = some o → xs[i]? = some x → x.come = o.come ∧ x.shown = o.shown) : settled s xs = pyMark noD { s with stands := xs } :=
 settled_py (ho.symm.trans hl) ho (fun i o x h1 h2 => (code_same (h i o x h1 h2).1).symm) fun i b o x _ h1 h2 => .inl (h i o x h1 h2).2
theorem pyMark_id {s : Panel} (hl : s.stands.length = s.told.length) (hlog : s.log.length ≤ 200) (hm : ∀ (i : Nat) x, s.stands[i]? = some x → isShown s i = true → x.shown = true) : pyMark noD s = s := by
 have e3 : mark (shown s) s.stands = s.stands := mark_same fun i x hx hs => hm i x hx hs
 have e4 : evUp s.now noD (shown s) s.stands s.stands.length = [] := by
  refine evUp_nil _ fun j hj => ?_
  obtain ⟨x, hx⟩ := ex_get (l := s.stands) (i := j) hj
  have q := hm j x hx
  unfold ev1
  rw [getD_get s.stands, hx]
  show [] ++ (if _ ∧ x.shown = false then _ else _) = []
  rw [if_neg]
  ·rfl
  ·rintro ⟨h1, h2⟩
   rw [q h1] at h2
   cases h2
 unfold pyMark
 rw [e3, e4]
 exact noted_nil hlog
theorem set_get {α : Type} {l : List α} {i j : Nat} {y : α} (h : i < l.length) : (l.set i y)[j]? = if i = j then some y else l[j]? := by
 rw [List.getElem?_set]
 by_cases e : i = j
 ·subst e
  rw [if_pos rfl, if_pos rfl, if_pos h]
 ·rw [if_neg e, if_neg e]
theorem vis_congr {p : Nat} {b : List Bool} {w : Told} {x y : Stand} (h1 : y.come = x.come) (h2 : y.cancelled = x.cancelled) (h3 : y.shown = x.shown) : vis p b w y = vis p b w x := by
 unfold vis held
 rw [h1, h2, h3]
theorem shownUp_congr {s t : Panel} (hs : s.stands.length = s.told.length) (ht : t.stands.length = t.told.length) (hp : t.phase = s.phase) (hw : t.told = s.told)
  (h : ∀ (i : Nat) x y, s.stands[i]? = some x → t.stands[i]? = some y → vis s.phase (shownUp s i) (toldOf s i) y = vis s.phase (shownUp s i) (toldOf s i) x) : ∀ (i : Nat), i ≤ s.told.length → shownUp t i = shownUp s i
 | 0, _ => by simp [shownUp, shownFrom]
 | i + 1, hi => by
  obtain ⟨w, h1⟩ := ex_get (l := s.told) (i := i) (by omega)
  obtain ⟨x, h2⟩ := ex_get (l := s.stands) (i := i) (by omega)
  obtain ⟨y, h3⟩ := ex_get (l := t.stands) (i := i) (by rw [ht, hw]; omega)
  have ih := shownUp_congr hs ht hp hw h i (by omega)
  have q := h i x y h2 h3
  rw [toldOf_at h1] at q
  rw [shownUp_succ ht (by rw [hw]; exact h1) h3, shownUp_succ hs h1 h2, ih, hp, q]
theorem shown_congr {s t : Panel} (hs : s.stands.length = s.told.length) (ht : t.stands.length = t.told.length) (hp : t.phase = s.phase) (hw : t.told = s.told)
  (h : ∀ (i : Nat) x y, s.stands[i]? = some x → t.stands[i]? = some y → y.come = x.come ∧ y.cancelled = x.cancelled ∧ y.shown = x.shown) : shown t = shown s := by
 rw [← shownUp_all hs, ← shownUp_all ht, hw]
 exact shownUp_congr hs ht hp hw (fun i x y h1 h2 => let ⟨a, b, c⟩ := h i x y h1 h2; vis_congr a b c) _ (Nat.le_refl _)
def setS (s : Panel) (i : Nat) (y : Stand) : Panel := { s with stands := s.stands.set i y }
theorem setS_len {s : Panel} (h : s.stands.length = s.told.length) {i : Nat} {y : Stand} : (setS s i y).stands.length = (setS s i y).told.length := by
 show (s.stands.set i y).length = _
 rw [List.length_set]
 exact h
def ackd (x : Stand) : Stand := { x with acked := true }
theorem Wf.ackd {s : Panel} (h : Wf s) {i : Nat} {x : Stand} (hx : s.stands[i]? = some x) : Wf (setS s i (Sw.ackd x)) ∧ shown (setS s i (Sw.ackd x)) = shown s := by
 have hl := h.len
 have hi := (List.getElem?_eq_some_iff.mp hx).1
 have es : shown (setS s i (Sw.ackd x)) = shown s := by
  refine shown_congr hl (setS_len hl) rfl rfl fun j a b h1 h2 => ?_
  have h2 : (s.stands.set i (Sw.ackd x))[j]? = some b := h2
  rw [set_get hi] at h2
  by_cases e : i = j
  ·subst e
   rw [if_pos rfl] at h2
   rw [hx] at h1
   have e1 := Option.some.inj h1
   have e2 := Option.some.inj h2
   subst e1 e2
   exact ⟨rfl, rfl, rfl⟩
  ·rw [if_neg e, h1] at h2
   have e2 := Option.some.inj h2
   subst e2
   exact ⟨rfl, rfl, rfl⟩
 refine ⟨⟨setS_len hl, h.few, h.log, h.parts, h.covers, h.need, h.cause, h.rank, fun y hy hc => ?_, fun j y hy hs => ?_, h.on⟩, es⟩
 ·rcases List.mem_or_eq_of_mem_set (show y ∈ s.stands.set i (Sw.ackd x) from hy) with q | q
  ·exact h.hid y q hc
  ·subst q
   exact h.hid x (List.mem_of_getElem? hx) hc
 ·unfold isShown at hs
  rw [es] at hs
  have hy : (s.stands.set i (Sw.ackd x))[j]? = some y := hy
  rw [set_get hi] at hy
  by_cases e : i = j
  ·subst e
   rw [if_pos rfl] at hy
   have e2 := Option.some.inj hy
   subst e2
   exact h.marked i x hx hs
  ·rw [if_neg e] at hy
   exact h.marked j y hy hs
theorem noted_Wf {s : Panel} (h : Wf s) (l : List Event) : Wf (noted s l) := by
 have e1 := noted_phase s l
 have e2 := noted_told s l
 have e3 := noted_stands s l
 have e4 := noted_on s l
 have e5 := noted_log_le s l
 have e6 := shown_noted s l
 have e7 : ∀ i, isShown (noted s l) i = isShown s i := fun i => by
  unfold isShown
  rw [e6]
 generalize noted s l = t at e1 e2 e3 e4 e5 e6 e7
 refine ⟨by rw [e2, e3]; exact h.len, by rw [e2]; exact h.few, e5, by rw [e2]; exact h.parts, by rw [e2]; exact h.covers, by rw [e2]; exact h.need, by rw [e2]; exact h.cause, by rw [e2]; exact h.rank, by rw [e3]; exact h.hid, fun i x hx hs => ?_, by rw [e4]; exact h.on⟩
 rw [e3] at hx
 rw [e7] at hs
 exact h.marked i x hx hs
theorem ack_change {s : Panel} (h : Wf s) {i : Nat} {x : Stand} (hx : s.stands[i]? = some x) : change s i (fun x => { x with acked := true }) 4 = noted (setS s i (ackd x)) [⟨s.now, 4, i⟩] := by
 have hi := (List.getElem?_eq_some_iff.mp hx).1
 unfold change
 rw [standOf_at hx]
 have e : settled s (s.stands.set i (ackd x)) = setS s i (ackd x) := by
  rw [settled_none h.len (by rw [List.length_set]) fun j o y h1 h2 => ?_]
  ·obtain ⟨w, _⟩ := h.ackd hx
   exact pyMark_id w.len w.log w.marked
  ·rw [set_get hi] at h2
   by_cases e : i = j
   ·subst e
    rw [if_pos rfl] at h2
    rw [hx] at h1
    have e1 := Option.some.inj h1
    have e2 := Option.some.inj h2
    subst e1 e2
    exact ⟨rfl, rfl⟩
   ·rw [if_neg e, h1] at h2
    have e2 := Option.some.inj h2
    subst e2
    exact ⟨rfl, rfl⟩
 exact congrArg (fun t => noted t [⟨s.now, 4, i⟩]) e
def ackEach (s : Panel) : List Nat → Panel
 | [] => s
 | i :: r => ackEach (setS s i (ackd (standOf s i))) r
theorem noted_setS (s : Panel) (l : List Event) (i : Nat) (y : Stand) : setS (noted s l) i y = noted (setS s i y) l := by
 simp only [noted_eq, setS]
theorem noted_standOf (s : Panel) (l : List Event) (i : Nat) : standOf (noted s l) i = standOf s i := by
 unfold standOf
 rw [noted_stands]
theorem ackEach_noted : ∀ (l : List Nat) (s : Panel) (e : List Event), ackEach (noted s e) l = noted (ackEach s l) e
 | [], _, _ => rfl
 | i :: r, s, e => by
  rw [ackEach, ackEach, noted_setS, noted_standOf, ackEach_noted r]
theorem ackEach_now : ∀ (l : List Nat) (s : Panel), (ackEach s l).now = s.now
 | [], _ => rfl
 | i :: r, s => ackEach_now r (setS s i (ackd (standOf s i)))
theorem ackEach_Wf : ∀ (l : List Nat) {s : Panel}, Wf s → (∀ i ∈ l, i < s.told.length) → Wf (ackEach s l)
 | [], _, h, _ => h
 | i :: r, s, h, hl => by
  have hi := hl i (List.mem_cons_self ..)
  have hlen := h.len
  obtain ⟨x, hx⟩ := ex_get (l := s.stands) (i := i) (by omega)
  show Wf (ackEach (setS s i (ackd (standOf s i))) r)
  rw [standOf_at hx]
  exact ackEach_Wf r (h.ackd hx).1 fun j hj => hl j (List.mem_cons_of_mem _ hj)
theorem ackAll_fold : ∀ (l : List Nat) {s : Panel}, Wf s → (∀ i ∈ l, i < s.told.length) →
  l.foldl (fun t i => change t i (fun x => { x with acked := true }) 4) s = noted (ackEach s l) (l.map fun i => ⟨s.now, 4, i⟩)
 | [], s, h, _ => (noted_nil h.log).symm
 | i :: r, s, h, hl => by
  have hi := hl i (List.mem_cons_self ..)
  have hlen := h.len
  obtain ⟨x, hx⟩ := ex_get (l := s.stands) (i := i) (by omega)
  show r.foldl _ (change s i (fun x => { x with acked := true }) 4) = _
  rw [ack_change h hx, ackAll_fold r (noted_Wf (h.ackd hx).1 _) (fun j hj => ?_), ackEach_noted, noted_noted, noted_now]
  ·show _ = noted (ackEach (setS s i (ackd (standOf s i))) r) _
   rw [standOf_at hx]
   rfl
  ·rw [noted_told]
   exact hl j (List.mem_cons_of_mem _ hj)
theorem Wf.setMark {s : Panel} (h : Wf s) {i : Nat} {y : Stand} {d : Nat → Option Nat} (hy : y.come = false → y.shown = false) : Wf (Sw.pyMark d (setS s i y)) :=
 Wf.pyMark (s := setS s i y) (setS_len h.len) h.few h.parts h.covers h.need h.cause h.rank (fun x hx hc => by
  rcases List.mem_or_eq_of_mem_set (show x ∈ s.stands.set i y from hx) with q | q
  ·exact h.hid x q hc
  ·rw [q] at hc ⊢
   exact hy hc) h.on
theorem cancel_change {s : Panel} (h : Wf s) {i : Nat} {x : Stand} (hx : s.stands[i]? = some x) :
  change s i (fun x => { x with cancelled := true }) 5 = noted (pyMark noD (setS s i { x with cancelled := true })) [⟨s.now, 5, i⟩] := by
 have hi := (List.getElem?_eq_some_iff.mp hx).1
 unfold change
 rw [standOf_at hx]
 have e : settled s (s.stands.set i { x with cancelled := true }) = pyMark noD (setS s i { x with cancelled := true }) := by
  refine settled_none h.len (by rw [List.length_set]) fun j o y h1 h2 => ?_
  rw [set_get hi] at h2
  by_cases e : i = j
  ·subst e
   rw [if_pos rfl] at h2
   rw [hx] at h1
   have e1 := Option.some.inj h1
   have e2 := Option.some.inj h2
   subst e1 e2
   exact ⟨rfl, rfl⟩
  ·rw [if_neg e, h1] at h2
   have e2 := Option.some.inj h2
   subst e2
   exact ⟨rfl, rfl⟩
 exact congrArg (fun t => noted t [⟨s.now, 5, i⟩]) e
def gone (x : Stand) : Stand := ⟨x.onFor, x.offFor, false, 0, false, false, false, x.times⟩
def oneD (i k : Nat) : Nat → Option Nat := fun j => if j = i then some k else none
theorem reset_change {s : Panel} (h : Wf s) {i : Nat} {x : Stand} (hx : s.stands[i]? = some x) (hc : x.come = true) :
  change s i gone 7 = noted (pyMark (oneD i 2) (setS s i (gone x))) [⟨s.now, 7, i⟩] := by
 have hi := (List.getElem?_eq_some_iff.mp hx).1
 have hl := h.len
 unfold change
 rw [standOf_at hx]
 have e : settled s (s.stands.set i (gone x)) = pyMark (oneD i 2) (setS s i (gone x)) := by
  refine settled_py (by rw [List.length_set]; exact hl) (by rw [List.length_set]) (fun j o y h1 h2 => ?_) (fun j b o y hb h1 h2 => ?_)
  ·rw [set_get hi] at h2
   by_cases e : i = j
   ·subst e
    rw [if_pos rfl] at h2
    rw [hx] at h1
    have e1 := Option.some.inj h1
    have e2 := Option.some.inj h2
    subst e1 e2
    unfold oneD code gone
    rw [if_pos rfl, hc]
    rfl
   ·rw [if_neg e, h1] at h2
    have e2 := Option.some.inj h2
    subst e2
    unfold oneD
    rw [if_neg (fun q => e q.symm)]
    exact (code_same rfl).symm
  ·have h2' := h2
   rw [set_get hi] at h2
   by_cases e : i = j
   ·subst e
    rw [if_pos rfl] at h2
    have e2 := Option.some.inj h2
    subst e2
    refine .inr ⟨rfl, ?_⟩
    obtain ⟨w, hw⟩ := ex_get (l := s.told) (i := i) (by omega)
    have q := shown_at (s := { s with stands := s.stands.set i (gone x) }) (by show (s.stands.set i (gone x)).length = _; rw [List.length_set]; exact hl) hw h2'
    rw [hb] at q
    rw [Option.some.inj q]
    exact vis_come rfl
   ·rw [if_neg e, h1] at h2
    have e2 := Option.some.inj h2
    subst e2
    exact .inl rfl
 exact congrArg (fun t => noted t [⟨s.now, 7, i⟩]) e
def each (f : Stand → Stand) (s : Panel) : List Nat → Panel
 | [] => s
 | i :: r => each f (setS s i (f (standOf s i))) r
theorem each_ack : ∀ (l : List Nat) (s : Panel), each ackd s l = ackEach s l
 | [], _ => rfl
 | i :: r, s => each_ack r _
theorem each_snoc (f : Stand → Stand) (j : Nat) : ∀ (l : List Nat) (s : Panel), each f s (l ++ [j]) = setS (each f s l) j (f (standOf (each f s l) j))
 | [], _ => rfl
 | i :: r, s => each_snoc f j r _
theorem each_told (f : Stand → Stand) : ∀ (l : List Nat) (s : Panel), (each f s l).told = s.told
 | [], _ => rfl
 | i :: r, s => each_told f r _
theorem each_len (f : Stand → Stand) : ∀ (l : List Nat) (s : Panel), (each f s l).stands.length = s.stands.length
 | [], _ => rfl
 | i :: r, s => by
  rw [each, each_len f r]
  show (s.stands.set i _).length = _
  rw [List.length_set]
theorem each_at (f : Stand → Stand) : ∀ (l : List Nat) (s : Panel) (j : Nat), l.Nodup → (each f s l).stands[j]? = if j ∈ l then (s.stands[j]?).map f else s.stands[j]?
 | [], s, j, _ => by simp [each]
 | i :: r, s, j, hn => by
  obtain ⟨h1, h2⟩ := List.nodup_cons.mp hn
  rw [each, each_at f r _ j h2]
  show (if j ∈ r then ((s.stands.set i (f (standOf s i)))[j]?).map f else (s.stands.set i (f (standOf s i)))[j]?) = _
  rw [List.getElem?_set]
  by_cases e : i = j
  ·subst e
   rw [if_neg h1, if_pos rfl, if_pos (List.mem_cons_self ..)]
   by_cases hi : i < s.stands.length
   ·obtain ⟨x, hx⟩ := ex_get hi
    rw [if_pos hi, hx, standOf_at hx]
    rfl
   ·rw [if_neg hi, List.getElem?_eq_none (by omega)]
    rfl
  ·rw [if_neg e]
   by_cases hj : j ∈ r
   ·rw [if_pos hj, if_pos (List.mem_cons_of_mem _ hj)]
   ·rw [if_neg hj, if_neg (by intro q; rcases List.mem_cons.mp q with q | q; exact e q.symm; exact hj q)]
theorem each_eq (f : Stand → Stand) : ∀ (l : List Nat) (s : Panel), each f s l = { s with stands := (each f s l).stands }
 | [], _ => rfl
 | i :: r, s => by
  have q := each_eq f r (setS s i (f (standOf s i)))
  rw [each]
  exact q
def unc (x : Stand) : Stand := { x with cancelled := false }
theorem unc_id {x : Stand} (h : x.cancelled = false) : unc x = x := by
 cases x
 simp only at h
 subst h
 rfl
def cancelledOnes (s : Panel) : List Nat := (List.range s.told.length).filter fun i => (standOf s i).cancelled
theorem nodup_filter_range (n : Nat) (p : Nat → Bool) : ((List.range n).filter p).Nodup := List.Pairwise.filter _ List.nodup_range
theorem recall_each {s : Panel} (hl : s.stands.length = s.told.length) : each unc s (cancelledOnes s) = { s with stands := s.stands.map unc } := by
 have e : (each unc s (cancelledOnes s)).stands = s.stands.map unc := by
  refine List.ext_getElem? fun j => ?_
  rw [each_at unc (cancelledOnes s) s j (nodup_filter_range _ _), List.getElem?_map]
  by_cases hj : j ∈ cancelledOnes s
  ·rw [if_pos hj]
  ·rw [if_neg hj]
   by_cases hjl : j < s.stands.length
   ·obtain ⟨x, hx⟩ := ex_get hjl
    rw [hx]
    show some x = some (unc x)
    rw [unc_id]
    refine Bool.eq_false_iff.mpr fun q => hj ?_
    unfold cancelledOnes
    rw [List.mem_filter, List.mem_range, standOf_at hx]
    exact ⟨by omega, q⟩
   ·rw [List.getElem?_eq_none (by omega)]
    rfl
 rw [each_eq, e]
theorem recall_settled {s : Panel} (h : Wf s) : settled s (s.stands.map fun x => { x with cancelled := false }) = pyMark noD (each unc s (cancelledOnes s)) := by
 rw [recall_each h.len]
 refine settled_none h.len (by rw [List.length_map]) fun j o x h1 h2 => ?_
 rw [List.getElem?_map, h1] at h2
 have e := Option.some.inj h2
 subst e
 exact ⟨rfl, rfl⟩
theorem Wf.recall {s : Panel} (h : Wf s) : Wf (Sw.pyMark noD (each unc s (cancelledOnes s))) := by
 rw [recall_each h.len]
 refine Wf.pyMark (s := { s with stands := s.stands.map unc }) (by show (s.stands.map unc).length = _; rw [List.length_map]; exact h.len) h.few h.parts h.covers h.need h.cause h.rank (fun x hx hc => ?_) h.on
 obtain ⟨y, hy, e⟩ := List.mem_map.mp (show x ∈ s.stands.map unc from hx)
 subst e
 exact h.hid y hy hc
theorem Wf.phase {s : Panel} (h : Wf s) (p : Nat) : Wf (Sw.pyMark noD { s with phase := p }) :=
 Wf.pyMark (s := { s with phase := p }) h.len h.few h.parts h.covers h.need h.cause h.rank h.hid h.on
theorem phase_settled {s : Panel} (h : Wf s) (p : Nat) : settled { s with phase := p } s.stands = pyMark noD { s with phase := p } :=
 settled_none (s := { s with phase := p }) h.len rfl fun j o x h1 h2 => by
  have h1 : s.stands[j]? = some o := h1
  rw [h1] at h2
  have e := Option.some.inj h2
  subst e
  exact ⟨rfl, rfl⟩
def added (s : Panel) (w : Told) : Panel := { s with told := s.told ++ [w], stands := s.stands ++ [newStand] }
theorem added_len {s : Panel} {w : Told} (h : s.stands.length = s.told.length) : (added s w).stands.length = (added s w).told.length := by
 show (s.stands ++ [newStand]).length = (s.told ++ [w]).length
 rw [List.length_append, List.length_append, h]
 rfl
theorem shownUp_added {s : Panel} {w : Told} (h : s.stands.length = s.told.length) {i : Nat} (hi : i ≤ s.told.length) : shownUp (added s w) i = shownUp s i := by
 unfold shownUp added
 dsimp only
 rw [List.take_append_of_le_length hi, List.take_append_of_le_length (by omega)]
theorem shown_added {s : Panel} {w : Told} (h : s.stands.length = s.told.length) : shown (added s w) = shown s ++ [false] := by
 have e1 : (added s w).told[s.told.length]? = some w := by
  show (s.told ++ [w])[s.told.length]? = _
  rw [List.getElem?_append_right (Nat.le_refl _)]
  simp
 have e2 : (added s w).stands[s.told.length]? = some newStand := by
  show (s.stands ++ [newStand])[s.told.length]? = _
  rw [List.getElem?_append_right (by omega), h]
  simp
 have e3 : (added s w).told.length = s.told.length + 1 := by
  show (s.told ++ [w]).length = _
  simp
 rw [← shownUp_all (added_len h), e3, shownUp_succ (added_len h) e1 e2, shownUp_added h (Nat.le_refl _), shownUp_all h]
 congr 1
theorem isShown_added {s : Panel} {w : Told} (h : s.stands.length = s.told.length) (i : Nat) : isShown (added s w) i = isShown s i := by
 unfold isShown
 rw [shown_added h, getD_get, getD_get]
 by_cases hi : i < (shown s).length
 ·rw [List.getElem?_append_left hi]
 ·rw [List.getElem?_append_right (by omega), List.getElem?_eq_none (l := shown s) (i := i) (by omega)]
  cases i - (shown s).length with
  | zero => rfl
  | succ n => rfl
theorem changes_self (now : Nat) : ∀ (xs zs : List Stand) (i : Nat), changes now i xs (xs ++ zs) = []
 | [], zs, i => by cases zs <;> rfl
 | x :: xs, zs, i => by
  have q := changes_self now xs zs (i + 1)
  show (_ ++ _) ++ changes now (i + 1) xs (xs ++ zs) = []
  rw [q]
  cases x.come <;> cases x.shown <;> rfl
theorem Wf.added {s : Panel} (h : Wf s) {w : Told} (hn : s.told.length < 24) (hp : ∀ j ∈ w.parts, j < s.told.length) (hc : ∀ j ∈ w.covers, j < s.told.length)
  (need : (w.need = 0 ∧ w.parts = []) ∨ (0 < w.need ∧ w.parts ≠ [])) (cause : w.cause < 32) (rank : 1 ≤ w.rank ∧ w.rank ≤ 3) : Wf (Sw.added s w) := by
 have hl := h.len
 have split : ∀ (i : Nat) v, (Sw.added s w).told[i]? = some v → s.told[i]? = some v ∨ (i = s.told.length ∧ v = w) := fun i v hv => by
  have hv : (s.told ++ [w])[i]? = some v := hv
  by_cases hi : i < s.told.length
  ·rw [List.getElem?_append_left hi] at hv
   exact .inl hv
  ·rw [List.getElem?_append_right (by omega)] at hv
   have q := (List.getElem?_eq_some_iff.mp hv).1
   have e : i - s.told.length = 0 := by simpa using q
   rw [e] at hv
   exact .inr ⟨by omega, (Option.some.inj hv).symm⟩
 have mem : ∀ v ∈ (Sw.added s w).told, v ∈ s.told ∨ v = w := fun v hv => by
  rcases List.mem_append.mp (show v ∈ s.told ++ [w] from hv) with q | q
  ·exact .inl q
  ·exact .inr (by simpa using q)
 refine ⟨added_len hl, ?_, h.log, fun i v hv => ?_, fun i v hv => ?_, fun v hv => ?_, fun v hv => ?_, fun v hv => ?_, fun x hx hc => ?_, fun i x hx hs => ?_, h.on⟩
 ·show (s.told ++ [w]).length ≤ 24
  rw [List.length_append]
  exact hn
 ·rcases split i v hv with q | ⟨e, rfl⟩
  ·exact h.parts i v q
  ·rw [e]
   exact hp
 ·rcases split i v hv with q | ⟨e, rfl⟩
  ·exact h.covers i v q
  ·rw [e]
   exact hc
 ·rcases mem v hv with q | rfl
  ·exact h.need v q
  ·exact need
 ·rcases mem v hv with q | rfl
  ·exact h.cause v q
  ·exact cause
 ·rcases mem v hv with q | rfl
  ·exact h.rank v q
  ·exact rank
 ·rcases List.mem_append.mp (show x ∈ s.stands ++ [newStand] from hx) with q | q
  ·exact h.hid x q hc
  ·have e : x = newStand := by simpa using q
   subst e
   rfl
 ·rw [isShown_added hl] at hs
  have hx : (s.stands ++ [newStand])[i]? = some x := hx
  by_cases hi : i < s.stands.length
  ·rw [List.getElem?_append_left hi] at hx
   exact h.marked i x hx hs
  ·rw [isShown_out hl (by omega)] at hs
   cases hs
theorem add_added {s : Panel} (h : Wf s) (w : Told) : settled { s with told := s.told ++ [w] } (s.stands ++ [newStand]) = added s w := by
 have hl := h.len
 have e1 : mark (shown (added s w)) (added s w).stands = (added s w).stands := by
  refine mark_same fun i x hx hs => ?_
  have hs : isShown (added s w) i = true := hs
  rw [isShown_added hl] at hs
  have hx : (s.stands ++ [newStand])[i]? = some x := hx
  by_cases hi : i < s.stands.length
  ·rw [List.getElem?_append_left hi] at hx
   exact h.marked i x hx hs
  ·rw [isShown_out hl (by omega)] at hs
   cases hs
 have e2 : changes s.now 0 s.stands (mark (shown (added s w)) (added s w).stands) = [] := by
  rw [e1]
  exact changes_self s.now s.stands [newStand] 0
 have e3 : settled { s with told := s.told ++ [w] } (s.stands ++ [newStand]) = noted { added s w with stands := mark (shown (added s w)) (added s w).stands } (changes s.now 0 s.stands (mark (shown (added s w)) (added s w).stands)) := rfl
 rw [e3, e2, e1]
 exact noted_nil h.log
theorem has_iff {l : List Nat} {x : Nat} : has l x = true ↔ x ∈ l := by
 unfold has
 rw [List.any_eq_true]
 constructor
 ·rintro ⟨y, hy, e⟩
  rw [← Nat.eq_of_beq_eq_true e]
  exact hy
 ·intro h
  exact ⟨x, h, Nat.beq_refl x⟩
theorem has_filter {p : Nat → Bool} {d : Nat} (hd : d < 32) : has ((List.range 32).filter p) d = p d := by
 rw [Bool.eq_iff_iff, has_iff, List.mem_filter, List.mem_range]
 exact ⟨fun h => h.2, fun h => ⟨hd, h⟩⟩
theorem setCause_has {on : List Nat} {c d : Nat} {b : Bool} (hd : d < 32) : has (setCause on c b) d = if d = c then b else has on d := by
 unfold setCause
 exact has_filter hd
theorem Wf.causes {s : Panel} (h : Wf s) (c : Nat) (b : Bool) : Wf { s with on := setCause s.on c b } := by
 refine ⟨h.len, h.few, h.log, h.parts, h.covers, h.need, h.cause, h.rank, h.hid, h.marked, ?_⟩
 show setCause s.on c b = _
 unfold setCause
 refine List.filter_congr fun d hd => ?_
 have hd := List.mem_range.mp hd
 exact (setCause_has hd).symm
theorem wf_start : Wf start := by
 refine ⟨rfl, by decide, by decide, fun i w h => ?_, fun i w h => ?_, fun w h => ?_, fun w h => ?_, fun w h => ?_, fun w h => ?_, fun i x h => ?_, by decide⟩
 all_goals first | (exact absurd h (by simp [start])) | (exact absurd h (by intro q; cases q))
def shownOnes (s : Panel) : List Nat := (List.range s.told.length).filter (isShown s)
theorem putIn_perm (s : Panel) (i : Nat) : ∀ l : List Nat, (putIn s i l).Perm (i :: l)
 | [] => List.Perm.refl _
 | j :: r => by
  unfold putIn
  split
  ·exact List.Perm.refl _
  ·exact ((putIn_perm s i r).cons j).trans (List.Perm.swap i j r)
theorem foldr_perm (s : Panel) : ∀ l : List Nat, (l.foldr (putIn s) []).Perm l
 | [] => List.Perm.refl _
 | i :: r => (putIn_perm s i _).trans ((foldr_perm s r).cons i)
theorem listed_perm (s : Panel) : (listed s).Perm (shownOnes s) := foldr_perm s _
theorem before_total {s : Panel} {i j : Nat} (h : before s i j = false) (hne : i ≠ j) : before s j i = true := by
 unfold before at h ⊢
 dsimp only at h ⊢
 by_cases h1 : (toldOf s i).rank = (toldOf s j).rank
 ·rw [if_neg (by rw [decide_eq_true h1]; decide)] at h
  rw [if_neg (by rw [decide_eq_true h1.symm]; decide)]
  by_cases h2 : (standOf s i).since = (standOf s j).since
  ·rw [if_neg (by rw [decide_eq_true h2]; decide)] at h
   rw [if_neg (by rw [decide_eq_true h2.symm]; decide)]
   have := of_decide_eq_false h
   exact decide_eq_true (by omega)
  ·rw [if_pos (decide_eq_false h2)] at h
   rw [if_pos (decide_eq_false fun q => h2 q.symm)]
   have := of_decide_eq_false h
   exact decide_eq_true (by omega)
 ·rw [if_pos (decide_eq_false h1)] at h
  rw [if_pos (decide_eq_false fun q => h1 q.symm)]
  have := of_decide_eq_false h
  exact decide_eq_true (by omega)
theorem before_iff {s : Panel} {i j : Nat} : before s i j = true ↔ ((toldOf s j).rank < (toldOf s i).rank ∨ ((toldOf s i).rank = (toldOf s j).rank ∧ ((standOf s j).since < (standOf s i).since ∨ ((standOf s i).since = (standOf s j).since ∧ i < j)))) := by
 unfold before
 dsimp only
 by_cases h1 : (toldOf s i).rank = (toldOf s j).rank
 ·rw [if_neg (by rw [decide_eq_true h1]; decide)]
  by_cases h2 : (standOf s i).since = (standOf s j).since
  ·rw [if_neg (by rw [decide_eq_true h2]; decide), decide_eq_true_iff]
   omega
  ·rw [if_pos (decide_eq_false h2), decide_eq_true_iff]
   omega
 ·rw [if_pos (decide_eq_false h1), decide_eq_true_iff]
  omega
theorem before_trans {s : Panel} {i j k : Nat} (h1 : before s i j = true) (h2 : before s j k = true) : before s i k = true := by
 rw [before_iff] at h1 h2 ⊢
 omega
theorem before_asymm {s : Panel} {i j : Nat} (h1 : before s i j = true) (h2 : before s j i = true) : False := by
 rw [before_iff] at h1 h2
 omega
theorem putIn_sorted {s : Panel} {i : Nat} : ∀ {l : List Nat}, l.Pairwise (fun a b => before s a b = true) → i ∉ l → (putIn s i l).Pairwise (fun a b => before s a b = true)
 | [], _, _ => List.pairwise_singleton _ _
 | j :: r, h, hi => by
  obtain ⟨h1, h2⟩ := List.pairwise_cons.mp h
  have hne : i ≠ j := fun e => hi (by rw [e]; exact List.mem_cons_self ..)
  unfold putIn
  by_cases hb : before s i j = true
  ·rw [if_pos hb]
   refine List.pairwise_cons.mpr ⟨fun b hb' => ?_, h⟩
   rcases List.mem_cons.mp hb' with rfl | q
   ·exact hb
   ·exact before_trans hb (h1 b q)
  ·rw [if_neg hb]
   refine List.pairwise_cons.mpr ⟨fun b hb' => ?_, putIn_sorted h2 fun q => hi (List.mem_cons_of_mem _ q)⟩
   rcases List.mem_cons.mp ((putIn_perm s i r).mem_iff.mp hb') with rfl | q
   ·exact before_total (Bool.eq_false_iff.mpr hb) hne
   ·exact h1 b q
theorem foldr_sorted {s : Panel} : ∀ {l : List Nat}, l.Nodup → (l.foldr (putIn s) []).Pairwise (fun a b => before s a b = true)
 | [], _ => List.Pairwise.nil
 | i :: r, h => by
  obtain ⟨h1, h2⟩ := List.nodup_cons.mp h
  exact putIn_sorted (foldr_sorted h2) fun q => h1 ((foldr_perm s r).mem_iff.mp q)
theorem listed_sorted (s : Panel) : (listed s).Pairwise (fun a b => before s a b = true) := foldr_sorted (nodup_filter_range _ _)
theorem sorted_unique {s : Panel} : ∀ {l m : List Nat}, l.Perm m → l.Pairwise (fun a b => before s a b = true) → m.Pairwise (fun a b => before s a b = true) → l = m
 | [], m, h, _, _ => by rw [List.nil_perm.mp h]
 | a :: l, [], h, _, _ => by
  have q := h.length_eq
  simp at q
 | a :: l, b :: m, h, h1, h2 => by
  obtain ⟨a1, a2⟩ := List.pairwise_cons.mp h1
  obtain ⟨b1, b2⟩ := List.pairwise_cons.mp h2
  have e : a = b := by
   rcases List.mem_cons.mp (h.mem_iff.mp (List.mem_cons_self ..)) with q | q
   ·exact q
   ·rcases List.mem_cons.mp (h.symm.mem_iff.mp (List.mem_cons_self ..)) with q2 | q2
    ·exact q2.symm
    ·exact (before_asymm (a1 b q2) (b1 a q)).elim
  subst e
  rw [sorted_unique ((List.perm_cons a).mp h) a2 b2]
theorem listed_unique {s : Panel} {l : List Nat} (h : l.Perm (shownOnes s)) (h2 : l.Pairwise (fun a b => before s a b = true)) : l = listed s :=
 sorted_unique (h.trans (listed_perm s).symm) h2 (listed_sorted s)
theorem listed_length (s : Panel) : (listed s).length = (shownOnes s).length := (listed_perm s).length_eq
theorem any_perm {α : Type} {l m : List α} (h : l.Perm m) (p : α → Bool) : l.any p = m.any p := by
 rw [Bool.eq_iff_iff, List.any_eq_true, List.any_eq_true]
 exact ⟨fun ⟨x, h1, h2⟩ => ⟨x, h.mem_iff.mp h1, h2⟩, fun ⟨x, h1, h2⟩ => ⟨x, h.mem_iff.mpr h1, h2⟩⟩
def waiting (s : Panel) : List Nat := (shownOnes s).filter fun i => !(standOf s i).acked
def ranksOf (s : Panel) : List Nat := (waiting s).map fun i => (toldOf s i).rank
theorem loud_iff (s : Panel) (r : Nat) : ((listed s).any fun i => Nat.beq (toldOf s i).rank r && !(standOf s i).acked) = decide (r ∈ ranksOf s) := by
 rw [any_perm (listed_perm s), Bool.eq_iff_iff, List.any_eq_true, decide_eq_true_iff]
 unfold ranksOf waiting
 rw [List.mem_map]
 constructor
 ·rintro ⟨i, h1, h2⟩
  rw [Bool.and_eq_true] at h2
  exact ⟨i, List.mem_filter.mpr ⟨h1, h2.2⟩, Nat.eq_of_beq_eq_true h2.1⟩
 ·rintro ⟨i, h1, h2⟩
  obtain ⟨h3, h4⟩ := List.mem_filter.mp h1
  refine ⟨i, h3, ?_⟩
  rw [Bool.and_eq_true]
  exact ⟨by rw [h2]; exact Nat.beq_refl r, h4⟩
theorem sound_eq (s : Panel) : sound s = if 3 ∈ ranksOf s then 2 else if 2 ∈ ranksOf s then 1 else 0 := by
 unfold sound
 simp only [loud_iff, decide_eq_true_iff]
theorem shownOnes_le (s : Panel) : (shownOnes s).length ≤ s.told.length := by
 unfold shownOnes
 refine Nat.le_trans (List.length_filter_le _ _) ?_
 simp
theorem ackAll_waiting (s : Panel) : ((List.range s.told.length).filter fun i => isShown s i && !(standOf s i).acked) = waiting s := by
 unfold waiting shownOnes
 rw [List.filter_filter]
 refine List.filter_congr fun i _ => Bool.and_comm _ _
def risesFrom (lo hi : Int) : List Int → Bool
 | [] => true
 | a :: r => decide (lo ≤ a) && decide (a ≤ hi) && risesFrom (a + 1) hi r
theorem rises_iff (hi : Int) : ∀ (l : List Int) (lo : Int), risesFrom lo hi l = (l.all (fun p => inR p lo hi) && rising l)
 | [], lo => rfl
 | [a], lo => by
  show (decide (lo ≤ a) && decide (a ≤ hi) && true) = ((inR a lo hi && true) && true)
  unfold inR
  simp
 | a :: b :: r, lo => by
  have ih := rises_iff hi (b :: r) (a + 1)
  show (decide (lo ≤ a) && decide (a ≤ hi) && risesFrom (a + 1) hi (b :: r)) = ((inR a lo hi && (b :: r).all (fun p => inR p lo hi)) && (decide (a < b) && rising (b :: r)))
  rw [ih, Bool.eq_iff_iff]
  simp only [Bool.and_eq_true, List.all_eq_true, decide_eq_true_iff, inR]
  constructor
  ·rintro ⟨⟨h1, h2⟩, h3, h4⟩
   refine ⟨⟨⟨h1, h2⟩, fun x hx => ?_⟩, ?_, h4⟩
   ·have q := h3 x hx
    exact ⟨by omega, q.2⟩
   ·have q := h3 b (List.mem_cons_self ..)
    omega
  ·rintro ⟨⟨⟨h1, h2⟩, h3⟩, h4, h5⟩
   refine ⟨⟨h1, h2⟩, fun x hx => ⟨?_, (h3 x hx).2⟩, h5⟩
   have key : ∀ (l : List Int) (b : Int), rising (b :: l) = true → ∀ x ∈ b :: l, b ≤ x := by
    intro l
    induction l with
    | nil =>
     intro b _ x hx
     have : x = b := by simpa using hx
     omega
    | cons c l ih =>
     intro b hb x hx
     have hb : (decide (b < c) && rising (c :: l)) = true := hb
     rw [Bool.and_eq_true, decide_eq_true_iff] at hb
     rcases List.mem_cons.mp hx with q | q
     ·omega
     ·have := ih c hb.2 x q
      omega
   have := key r b h5 x hx
   omega
theorem whole_id (c : List (List Int)) : PyVbavag.whole c = c := by
 unfold PyVbavag.whole
 split <;> rfl
theorem calls_whole (l : List Int) : PyVbavag.calls l = PyFlat.calls PyVbavag.shape l.length l := by
 unfold PyVbavag.calls
 cases e : PyFlat.calls PyVbavag.shape l.length l with
 | none => rfl
 | some cs =>
  show some (cs.map PyVbavag.whole) = some cs
  congr 1
  rw [List.map_congr_left (fun c _ => whole_id c), List.map_id']
def rowsFlat : List (List Int) → List Int
 | [] => []
 | x :: xs => ((x.length : Int) :: x) ++ rowsFlat xs
theorem row_of {r x t : List Int} (h : PyFlat.row r = some (x, t)) : r = (x.length : Int) :: (x ++ t) := by
 cases r with
 | nil => cases h
 | cons n r =>
  unfold PyFlat.row at h
  dsimp only at h
  by_cases hc : 0 ≤ n ∧ n.toNat ≤ r.length
  ·rw [if_pos hc] at h
   have e := Option.some.inj h
   have e1 : r.take n.toNat = x := congrArg Prod.fst e
   have e2 : r.drop n.toNat = t := congrArg Prod.snd e
   rw [← e1, ← e2, List.take_append_drop, List.length_take, Nat.min_eq_left hc.2, Int.toNat_of_nonneg hc.1]
  ·rw [if_neg hc] at h
   cases h
theorem rows_of : ∀ {k : Nat} {r t : List Int} {xs : List (List Int)}, PyFlat.rows k r = some (xs, t) → r = rowsFlat xs ++ t ∧ xs.length = k
 | 0, r, t, xs, h => by
  have e := Option.some.inj h
  have e1 : [] = xs := congrArg Prod.fst e
  have e2 : r = t := congrArg Prod.snd e
  subst e1 e2
  exact ⟨rfl, rfl⟩
 | k + 1, r, t, xs, h => by
  unfold PyFlat.rows at h
  cases h1 : PyFlat.row r with
  | none =>
   rw [h1] at h
   cases h
  | some p =>
   obtain ⟨x, s⟩ := p
   rw [h1] at h
   dsimp only at h
   cases h2 : PyFlat.rows k s with
   | none =>
    rw [h2] at h
    cases h
   | some p =>
    obtain ⟨ys, u⟩ := p
    rw [h2] at h
    have e := Option.some.inj h
    have e1 : x :: ys = xs := congrArg Prod.fst e
    have e2 : u = t := congrArg Prod.snd e
    subst e1 e2
    obtain ⟨q1, q2⟩ := rows_of h2
    refine ⟨?_, by rw [List.length_cons, q2]⟩
    rw [row_of h1, q1]
    show _ = ((x.length : Int) :: x) ++ rowsFlat ys ++ u
    simp
theorem calls_step {f : Nat} {p : Int} {r : List Int} {cs : List (List (List Int))} (h : PyFlat.calls PyVbavag.shape f (p :: r) = some cs) :
  ∃ (a : List Int) (xs : List (List Int)) (t : List Int) (cs' : List (List (List Int))) (f' : Nat), PyVbavag.shape p = some (a.length, xs.length) ∧ r = a ++ (rowsFlat xs ++ t) ∧ cs = ((p :: a) :: xs) :: cs' ∧ PyFlat.calls PyVbavag.shape f' t = some cs' := by
 cases f with
 | zero => cases h
 | succ f =>
  unfold PyFlat.calls at h
  cases h1 : PyFlat.call PyVbavag.shape (p :: r) with
  | none =>
   rw [h1] at h
   cases h
  | some q =>
   obtain ⟨c, t⟩ := q
   rw [h1] at h
   dsimp only at h
   cases h2 : PyFlat.calls PyVbavag.shape f t with
   | none =>
    rw [h2] at h
    cases h
   | some cs' =>
    rw [h2] at h
    have e := Option.some.inj h
    subst e
    unfold PyFlat.call at h1
    dsimp only at h1
    cases h3 : PyVbavag.shape p with
    | none =>
     rw [h3] at h1
     cases h1
    | some q =>
     obtain ⟨n, k⟩ := q
     rw [h3] at h1
     dsimp only at h1
     by_cases h4 : r.length < n
     ·rw [if_pos h4] at h1
      cases h1
     ·rw [if_neg h4] at h1
      cases h5 : PyFlat.rows k (r.drop n) with
      | none =>
       rw [h5] at h1
       cases h1
      | some q =>
       obtain ⟨xs, u⟩ := q
       rw [h5] at h1
       have e := Option.some.inj h1
       have e1 : (p :: r.take n) :: xs = c := congrArg Prod.fst e
       have e2 : u = t := congrArg Prod.snd e
       subst e1 e2
       obtain ⟨q1, q2⟩ := rows_of h5
       refine ⟨r.take n, xs, u, cs', f, ?_, ?_, rfl, h2⟩
       ·rw [List.length_take, Nat.min_eq_left (by omega), q2]
       ·rw [← q1, List.take_append_drop]
theorem calls_nil {f : Nat} {cs : List (List (List Int))} (h : PyFlat.calls PyVbavag.shape f [] = some cs) : cs = [] := by
 have e : PyFlat.calls PyVbavag.shape f [] = some [] := by cases f <;> rfl
 rw [e] at h
 exact (Option.some.inj h).symm
theorem told_cons (a : List Int) (l : List (List Int)) : PyFlat.told (a :: l) = (a.length : Int) :: a ++ PyFlat.told l := rfl
theorem told_append (l m : List (List Int)) : PyFlat.told (l ++ m) = PyFlat.told l ++ PyFlat.told m := by
 unfold PyFlat.told
 rw [List.flatMap_append]
theorem played_cons (s : Panel) (c : List (List Int)) (r : List (List (List Int))) : PyFlat.played VbavagNeutral.step s (c :: r) = (stepRaw s c).2 :: PyFlat.played VbavagNeutral.step (stepRaw s c).1 r := rfl
theorem shape_step {p c : Int} {a r : Nat × Nat} {e : Option (Nat × Nat)} (h : (if p = c then some a else e) = some r) : (p = c ∧ a = r) ∨ e = some r := by
 by_cases q : p = c
 ·rw [if_pos q] at h
  exact .inl ⟨q, Option.some.inj h⟩
 ·rw [if_neg q] at h
  exact .inr h
theorem shape_cases {p : Int} {n k : Nat} (h : PyVbavag.shape p = some (n, k)) :
  (p = 0 ∧ n = 5 ∧ k = 2) ∨ (p = 1 ∧ n = 5 ∧ k = 3) ∨ (p = 2 ∧ n = 2 ∧ k = 0) ∨ (p = 3 ∧ n = 1 ∧ k = 0) ∨ (p = 4 ∧ n = 1 ∧ k = 0) ∨ (p = 5 ∧ n = 1 ∧ k = 0) ∨ (p = 6 ∧ n = 0 ∧ k = 0) ∨ (p = 7 ∧ n = 1 ∧ k = 0) ∨ (p = 8 ∧ n = 0 ∧ k = 0) ∨ (p = 9 ∧ n = 1 ∧ k = 0) ∨
  (p = 10 ∧ n = 0 ∧ k = 0) ∨ (p = 11 ∧ n = 2 ∧ k = 0) ∨ (p = 12 ∧ n = 1 ∧ k = 0) ∨ (p = 13 ∧ n = 0 ∧ k = 0) ∨ (p = 14 ∧ n = 1 ∧ k = 0) ∨ (p = 15 ∧ n = 1 ∧ k = 0) ∨ (p = 16 ∧ n = 0 ∧ k = 0) ∨ (p = 17 ∧ n = 0 ∧ k = 0) ∨ (p = 18 ∧ n = 1 ∧ k = 0) ∨ (p = 19 ∧ n = 0 ∧ k = 0) := by
 unfold PyVbavag.shape at h
 iterate 20 (rcases shape_step h with ⟨rfl, e⟩ | h; (cases e; decide))
 cases h
def Tm1 (w : Told) (x : Stand) : Prop := (x.come = false → x.onFor ≤ w.onDelay) ∧ (x.come = true → w.latch = false → x.offFor ≤ w.offDelay) ∧ (x.onFor = 0 ∨ x.offFor = 0)
def Tame (s : Panel) : Prop := ∀ (i : Nat) w x, s.told[i]? = some w → s.stands[i]? = some x → Tm1 w x
theorem Tm1.congr {w : Told} {x y : Stand} (h : Tm1 w x) (h1 : y.come = x.come) (h2 : y.onFor = x.onFor) (h3 : y.offFor = x.offFor) : Tm1 w y := by
 unfold Tm1 at h ⊢
 rw [h1, h2, h3]
 exact h
theorem Tame.congr {s t : Panel} (h : Tame s) (h0 : t.told = s.told) (hl : s.stands.length = t.stands.length) (h1 : ∀ (i : Nat) x y, s.stands[i]? = some x → t.stands[i]? = some y → y.come = x.come ∧ y.onFor = x.onFor ∧ y.offFor = x.offFor) : Tame t := fun i w y hw hy => by
 rw [h0] at hw
 obtain ⟨x, hx⟩ : ∃ x, s.stands[i]? = some x := ex_get (by rw [hl]; exact (List.getElem?_eq_some_iff.mp hy).1)
 obtain ⟨a, b, c⟩ := h1 i x y hx hy
 exact (h i w x hw hx).congr a b c
theorem Tame.noted {s : Panel} (h : Tame s) (l : List Event) : Tame (noted s l) := fun i w x hw hx => h i w x (by rw [← noted_told s l]; exact hw) (by rw [← noted_stands s l]; exact hx)
theorem Tame.pyMark {s : Panel} {d : Nat → Option Nat} (h : Tame s) (hl : s.stands.length = s.told.length) : Tame (pyMark d s) := by
 refine h.congr (pyMark_told d s) (by rw [pyMark_stands, mark_length]) fun i x y hx hy => ?_
 rw [pyMark_stands] at hy
 obtain ⟨b, hb⟩ : ∃ b, (shown s)[i]? = some b := ex_get (by rw [shown_length hl, ← hl]; exact (List.getElem?_eq_some_iff.mp hx).1)
 rw [mark_at hb hx] at hy
 obtain rfl := Option.some.inj hy
 unfold marked1
 split <;> exact ⟨rfl, rfl, rfl⟩
theorem tm1_second {now : Nat} {src : Bool} {w : Told} {x : Stand} : Tm1 w (oneSecond now src w x) := by
 rcases oneSecond_cases now src w x with ⟨h1, h2, e⟩ | ⟨h1, h2, e⟩ | ⟨h1, h2, e⟩
 ·rw [e]
  refine ⟨fun q => (by cases q), fun _ _ => ?_, ?_⟩
  ·show (if src = true then 0 else x.offFor + 1) ≤ _
   cases src with
   | true => exact Nat.zero_le _
   | false => simp at h2
  ·show (if src = true then x.onFor + 1 else 0) = 0 ∨ (if src = true then 0 else x.offFor + 1) = 0
   cases src <;> simp
 ·rw [e]
  refine ⟨fun _ => ?_, fun q => (by cases q), ?_⟩
  ·show (if src = true then x.onFor + 1 else 0) ≤ _
   cases src with
   | false => exact Nat.zero_le _
   | true => simp at h2
  ·show (if src = true then x.onFor + 1 else 0) = 0 ∨ (if src = true then 0 else x.offFor + 1) = 0
   cases src <;> simp
 ·rw [e]
  refine ⟨fun q => ?_, fun q ql => ?_, ?_⟩
  ·have q : x.come = false := q
   show (if src = true then x.onFor + 1 else 0) ≤ _
   exact Nat.le_of_not_lt fun z => h1 ⟨q, z⟩
  ·have q : x.come = true := q
   show (if src = true then 0 else x.offFor + 1) ≤ _
   exact Nat.le_of_not_lt fun z => h2 ⟨q, ql, z⟩
  ·show (if src = true then x.onFor + 1 else 0) = 0 ∨ (if src = true then 0 else x.offFor + 1) = 0
   cases src <;> simp
theorem Tame.second {s : Panel} (hw : Wf s) : Tame (Vbavag.second s) := by
 rw [second_py hw]
 refine Tame.pyMark (s := { s with now := s.now + 1, stands := secondFrom (s.now + 1) s.on [] s.told s.stands }) (fun i w y h1 h2 => ?_) ?_
 ·have h1 : s.told[i]? = some w := h1
  obtain ⟨x, hx⟩ : ∃ x, s.stands[i]? = some x := ex_get (by rw [hw.len]; exact (List.getElem?_eq_some_iff.mp h1).1)
  have h2 : (secondFrom (s.now + 1) s.on [] s.told s.stands)[i]? = some y := h2
  rw [secUp_at hw.len h1 hx] at h2
  obtain rfl := Option.some.inj h2
  exact tm1_second
 ·show (secondFrom (s.now + 1) s.on [] s.told s.stands).length = s.told.length
  rw [secondFrom_length _ _ _ _ _ hw.len.symm]
  simp
theorem Tame.seconds {s : Panel} (hw : Wf s) : ∀ (k : Nat), Tame s → Tame (Vbavag.seconds k s)
 | 0, h => h
 | k + 1, h => Tame.seconds hw.second k (Tame.second hw)
theorem Tame.setS {s : Panel} (h : Tame s) {i : Nat} {x y : Stand} (hx : s.stands[i]? = some x) (hy : ∀ w, s.told[i]? = some w → Tm1 w y) : Tame (setS s i y) := fun j w z hw hz => by
 have hz : (s.stands.set i y)[j]? = some z := hz
 rw [set_get (List.getElem?_eq_some_iff.mp hx).1] at hz
 by_cases e : i = j
 ·subst e
  rw [if_pos rfl] at hz
  obtain rfl := Option.some.inj hz
  exact hy w hw
 ·rw [if_neg e] at hz
  exact h j w z hw hz
theorem Tame.setC {s : Panel} (h : Tame s) {i : Nat} {x y : Stand} (hx : s.stands[i]? = some x) (h1 : y.come = x.come) (h2 : y.onFor = x.onFor) (h3 : y.offFor = x.offFor) : Tame (Sw.setS s i y) :=
 h.setS hx fun w hw => (h i w x hw hx).congr h1 h2 h3
theorem Tame.ackEach : ∀ (l : List Nat) {s : Panel}, Tame s → Tame (ackEach s l)
 | [], _, h => h
 | i :: r, s, h => by
  refine Tame.ackEach r ?_
  cases e : s.stands[i]? with
  | none =>
   have : Sw.setS s i (ackd (standOf s i)) = s := by
    unfold Sw.setS
    rw [List.set_eq_of_length_le (List.getElem?_eq_none_iff.mp e)]
   rw [this]
   exact h
  | some x =>
   rw [standOf_at e]
   exact h.setC e rfl rfl rfl
theorem Tame.recall {s : Panel} (h : Tame s) (hl : s.stands.length = s.told.length) : Tame (each unc s (cancelledOnes s)) := by
 rw [recall_each hl]
 refine h.congr rfl (by show _ = (s.stands.map unc).length; rw [List.length_map]) fun i x y hx hy => ?_
 have hy : (s.stands.map unc)[i]? = some y := hy
 rw [List.getElem?_map, hx] at hy
 obtain rfl := Option.some.inj hy
 exact ⟨rfl, rfl, rfl⟩
theorem Tame.added {s : Panel} (h : Tame s) {w : Told} (hl : s.stands.length = s.told.length) : Tame (added s w) := fun i v x hv hx => by
 have hv : (s.told ++ [w])[i]? = some v := hv
 have hx : (s.stands ++ [newStand])[i]? = some x := hx
 by_cases hi : i < s.told.length
 ·rw [List.getElem?_append_left hi] at hv
  rw [List.getElem?_append_left (by omega)] at hx
  exact h i v x hv hx
 ·rw [List.getElem?_append_right (by omega)] at hx
  have hi2 : i - s.stands.length = 0 := by
   have := (List.getElem?_eq_some_iff.mp hx).1
   simp at this
   omega
  rw [hi2] at hx
  obtain rfl : newStand = x := Option.some.inj hx
  exact ⟨fun _ => Nat.zero_le _, fun q => absurd (show false = true from q) Bool.false_ne_true, Or.inl rfl⟩
theorem quietOf_nonneg {src : Bool} {w : Told} {x : Stand} {m : Int} (h : Tm1 w x) (hm : 0 ≤ m) : 0 ≤ quietOf src w x m := by
 unfold quietOf
 split
 ·rename_i q
  simp only [Bool.and_eq_true, Bool.not_eq_true'] at q
  have := h.1 q.2
  omega
 ·split
  ·rename_i q
   simp only [Bool.and_eq_true, Bool.not_eq_true'] at q
   have := h.2.1 q.2.1 q.2.2
   omega
  ·exact hm
theorem quietUp_nonneg {s : Panel} (h : Tame s) (hl : s.stands.length = s.told.length) {m : Int} (hm : 0 ≤ m) : ∀ (i : Nat), i ≤ s.told.length → 0 ≤ quietUp s m i
 | 0, _ => hm
 | i + 1, hi => by
  have ih := quietUp_nonneg h hl hm i (by omega)
  obtain ⟨w, hw⟩ : ∃ w, s.told[i]? = some w := ex_get (by omega)
  obtain ⟨x, hx⟩ : ∃ x, s.stands[i]? = some x := ex_get (by omega)
  show 0 ≤ quietOf _ (toldOf s i) (standOf s i) _
  rw [toldOf_at hw, standOf_at hx]
  exact quietOf_nonneg (h i w x hw hx) ih
theorem quiet_nonneg {s : Panel} (h : Tame s) (hl : s.stands.length = s.told.length) {m : Int} (hm : 0 ≤ m) : 0 ≤ quiet s m := quietUp_nonneg h hl hm _ (Nat.le_refl _)
theorem listed_congr {s t : Panel} (h0 : t.told = s.told) (hs : shown t = shown s) (h1 : ∀ i, i < s.told.length → (standOf t i).since = (standOf s i).since) : listed t = listed s := by
 refine listed_unique ?_ ?_
 ·have e : shownOnes t = shownOnes s := by
   unfold shownOnes isShown
   rw [h0, hs]
  rw [← e]
  exact listed_perm t
 ·refine (listed_sorted t).imp_of_mem fun {a b} ha hb h => ?_
  have lt : ∀ i ∈ listed t, i < s.told.length := fun i hi => by
   have := (listed_perm t).mem_iff.mp hi
   rw [← h0]
   exact List.mem_range.mp (List.mem_filter.mp this).1
  rw [before_iff] at h ⊢
  have e1 : ∀ i, toldOf t i = toldOf s i := fun i => by unfold toldOf; rw [h0]
  rw [e1, e1, h1 a (lt a ha), h1 b (lt b hb)] at h
  exact h
theorem listed_skip {s : Panel} (hl : s.stands.length = s.told.length) (q : Nat) : listed (skip q s) = listed s := by
 refine listed_congr rfl (shown_skip hl) fun i hi => ?_
 rw [standOf_at (skip_at hi)]
 rfl
theorem listed_quiet {s : Panel} {m : Int} (hw : Wf s) {j : Nat} (h : (j : Int) ≤ quiet s m) : listed (seconds j s) = listed s := by
 cases j with
 | zero => rfl
 | succ j =>
  rw [seconds_quiet hw (Nat.succ_pos _) h]
  exact listed_skip hw.len _
structure Eqv (s t : Panel) : Prop where
 now : t.now = s.now
 phase : t.phase = s.phase
 on : t.on = s.on
 told : t.told = s.told
 stands : t.stands = s.stands
theorem Eqv.second {s t : Panel} (h : Eqv s t) : Eqv (second s) (second t) := by
 obtain ⟨n, p, o, td, st, lg, hp⟩ := s
 obtain ⟨n', p', o', td', st', lg', hp'⟩ := t
 obtain ⟨h1, h2, h3, h4, h5⟩ := h
 dsimp only at h1 h2 h3 h4 h5
 subst h1 h2 h3 h4 h5
 exact ⟨rfl, rfl, rfl, rfl, rfl⟩
theorem Eqv.seconds : ∀ (k : Nat) {s t : Panel}, Eqv s t → Eqv (seconds k s) (seconds k t)
 | 0, _, _, h => h
 | k + 1, _, _, h => Eqv.seconds k h.second
theorem Eqv.shown {s t : Panel} (h : Eqv s t) : shown t = shown s := by
 unfold Vbavag.shown
 rw [h.phase, h.told, h.stands]
theorem Eqv.listed {s t : Panel} (h : Eqv s t) : listed t = listed s := listed_congr h.told h.shown fun i _ => by
 unfold standOf
 rw [h.stands]
theorem Eqv.toldOf {s t : Panel} (h : Eqv s t) (i : Nat) : toldOf t i = toldOf s i := by
 unfold Vbavag.toldOf
 rw [h.told]
theorem Eqv.standOf {s t : Panel} (h : Eqv s t) (i : Nat) : standOf t i = standOf s i := by
 unfold Vbavag.standOf
 rw [h.stands]
theorem Eqv.isShown {s t : Panel} (h : Eqv s t) (i : Nat) : isShown t i = isShown s i := by
 unfold Vbavag.isShown
 rw [h.shown]
theorem Eqv.listRow {s t : Panel} (h : Eqv s t) : listRow t = listRow s := by
 unfold Vbavag.listRow
 rw [h.listed]
 congr 1
 congr 1
 funext i
 rw [h.toldOf, h.standOf]
def noLog (s : Panel) : Panel := { s with log := [], happened := 0 }
theorem noLog_eqv (s : Panel) : Eqv s (noLog s) := ⟨rfl, rfl, rfl, rfl, rfl⟩
theorem noLog_wf {s : Panel} (h : Wf s) : Wf (noLog s) := ⟨h.len, h.few, Nat.zero_le _, h.parts, h.covers, h.need, h.cause, h.rank, h.hid, fun i x hx hs => h.marked i x hx (by rw [← (noLog_eqv s).isShown]; exact hs), h.on⟩
theorem noLog_tame {s : Panel} (h : Tame s) : Tame (noLog s) := h
theorem sameList_iff : ∀ {l m : List Nat}, sameList l m = true ↔ l = m
 | [], [] => ⟨fun _ => rfl, fun _ => rfl⟩
 | [], _ :: _ => ⟨fun h => Bool.noConfusion h, fun h => by cases h⟩
 | _ :: _, [] => ⟨fun h => Bool.noConfusion h, fun h => by cases h⟩
 | x :: r, y :: q => by
  have e : sameList (x :: r) (y :: q) = (Nat.beq x y && sameList r q) := rfl
  rw [e, Bool.and_eq_true, sameList_iff (l := r)]
  constructor
  ·rintro ⟨h1, rfl⟩
   rw [Nat.eq_of_beq_eq_true h1]
  ·intro h
   injection h with h1 h2
   subst h1 h2
   exact ⟨Nat.beq_refl x, rfl⟩
theorem changeIn_none {l : List Nat} : ∀ (f n : Nat) (s : Panel), (∀ j, j < f → listed (seconds (j + 1) s) = l) → changeIn f n s l = 0
 | 0, _, _, _ => rfl
 | f + 1, n, s, h => by
  unfold changeIn
  dsimp only
  rw [if_pos (show sameList (listed (second s)) l = true from sameList_iff.mpr (h 0 (Nat.zero_lt_succ f)))]
  exact changeIn_none f (n + 1) (second s) fun j hj => h (j + 1) (Nat.succ_lt_succ hj)
theorem changeIn_at {l : List Nat} : ∀ (f n : Nat) (s : Panel) (r : Nat), r < f → (∀ j, j < r → listed (seconds (j + 1) s) = l) → listed (seconds (r + 1) s) ≠ l → changeIn f n s l = n + (r + 1)
 | 0, _, _, _, h, _, _ => absurd h (Nat.not_lt_zero _)
 | f + 1, n, s, 0, _, _, h => by
  unfold changeIn
  dsimp only
  rw [if_neg (show ¬ sameList (listed (second s)) l = true from fun q => h (sameList_iff.mp q))]
 | f + 1, n, s, r + 1, hr, h, h2 => by
  unfold changeIn
  dsimp only
  rw [if_pos (show sameList (listed (second s)) l = true from sameList_iff.mpr (h 0 (Nat.zero_lt_succ r))), changeIn_at f (n + 1) (second s) r (Nat.lt_of_succ_lt_succ hr) (fun j hj => h (j + 1) (Nat.succ_lt_succ hj)) h2]
  omega
end Sw
namespace Sw
open PySem PySem.Spec L2
open PyProof.Rows hiding St
def tAt (C : Addr) (ta : TE) (f : Str) : TE := fun σ H Q => ta σ H fun x H1 => ∃ a dx fs v, x = .ref a ∧ H1 a = some (.ins C dx fs) ∧ fs.lookup f = some v ∧ Q v H1
def sAt (C : Addr) (ta tv : TE) (f : Str) : TS := fun D σ H => tv σ H fun y H1 => ta σ H1 fun x H2 => ∃ a dx fs, x = .ref a ∧ H2 a = some (.ins C dx fs) ∧ fs.length < 1000 ∧ D.nx σ (upd H2 a (.ins C dx (putF f y fs)))
def sAug (C : Addr) (ta tv : TE) (f : Str) : TS := fun D σ H => ta σ H fun x H1 => ∃ a dx fs i, x = .ref a ∧ H1 a = some (.ins C dx fs) ∧ fs.lookup f = some (.int i) ∧
 tv σ H1 fun y H2 => ∃ j dx' fs', y = .int j ∧ H2 a = some (.ins C dx' fs') ∧ fs'.length < 1000 ∧ D.nx σ (upd H2 a (.ins C dx' (putF f (.int (i + j)) fs')))
section
variable {X : Cx} {C : Addr} {e o value : Expr} {f : Str} {pos pos' tpos : Pos} {ta tv : TE}
theorem pe_at (c : Cls X.K C) (n : NoAttr X.K C f) (he : PE X e ta) (hb : attributeBase e f X.env (eval e X.env) = eval e X.env := by rfl) : PE X (.Attribute e f pos) (tAt C ta f) := by
 intro pins s σ H Q I h
 refine attr_of hb (thn (he pins s σ H _ I h) fun u s1 hq => ?_)
 obtain ⟨x, H1, I1, rx, a, dx, fs, v, ex, ea, l, q⟩ := hq
 subst ex
 cases rx
 exact getattr_ok I1 ea c n l fun u' s2 I2 ru => ⟨v, H1, I2, ru, q⟩
theorem ps_at (c : Cls X.K C) (n : NoAttr X.K C f) (ha : PE X o ta) (hv : PE X value tv) (hs : swapsWith value (some (.Attribute o f pos')) pos.line X.env = pure false := by rfl) : PS X (.Assign [.Attribute o f pos'] value pos) (sAt C ta tv f) := by
 intro pins s σ H D I h
 refine plainObj_wpAny_Assign_Attribute (thn (hv pins s σ H _ I h) fun u s1 hq => ?_) hs
 obtain ⟨y, H1, I1, ry, q⟩ := hq
 refine thn (ha pins s1 σ H1 _ I1 q) fun ov s2 hq => ?_
 obtain ⟨x, H2, I2, rx, a, dx, fs, ex, ea, l, q2⟩ := hq
 subst ex
 cases rx
 exact setattr_ok I2 ea c n l ry fun s3 I3 => ⟨σ, _, I3, q2⟩
theorem ps_aug_at (c : Cls X.K C) (n : NoAttr X.K C f) (ha : PE X o ta) (hv : PE X value tv) : PS X (.AugAssign (.Attribute o f tpos) .Add value pos) (sAug C ta tv f) := by
 intro pins s σ H D I h
 refine wpAny_AugAssign_AttributeAny (thn (ha pins s σ H _ I h) fun ov s1 hq => ?_)
 obtain ⟨x, H1, I1, rx, a, dx, fs, i, ex, ea, l, q⟩ := hq
 subst ex
 cases rx
 refine getattr_ok I1 ea c n l fun u s2 I2 ru => thn (hv pins s2 σ H1 _ I2 q) fun w3 s3 hq => ?_
 obtain ⟨y, H2, I3, ry, j, dx', fs', ey, ea', l', q4⟩ := hq
 subst ey
 refine thn (in_add pins s3 σ H2 (.int i) (.int j) u w3 (fun z H3 => z = .int (i + j) ∧ H3 = H2) I3 ru ry ⟨i, j, rfl, rfl, rfl, rfl⟩) fun w4 s4 hq => ?_
 obtain ⟨z, H3, I4, rz, ez, eh⟩ := hq
 subst ez eh
 exact setattr_ok I4 ea' c n l' rz fun s5 I5 => ⟨σ, _, I5, q4⟩
theorem pe_cst {x : Str} {i : Int} (hg : Gl X x) (h : ∃ t, X.mg x = some (.int i t)) (hd : (x == ("__debug__" : Str)) = false := by decide) : PE X (.Name x pos) (tC (.int i)) :=
 let ⟨t, e⟩ := h
 pe_glob (v := .int i) hg e ⟨t, rfl⟩ hd
end
def gTwo (K : PySem.W.Frag) (i j : Nat) : TG := gTup K 2 (gCons (gName i) (gCons (gName j) gNil))
theorem gTwo_of {K : PySem.W.Frag} {i j : Nat} {σ : St} {H : Hp} {T : Addr} {x y : V} {Q : St → Hp → Prop} (h : H T = some (.tup [x, y])) (q : Q ((σ.set i (some x)).set j (some y)) H) : gTwo K i j (.ref T) σ H Q :=
 ⟨T, [x, y], rfl, SqT.of h, rfl, x, [y], rfl, y, [], rfl, rfl, q⟩
section
variable {K : PySem.W.Frag} {a : Addr} {xs : List V} {i1 i2 : Nat}
theorem for_enum {tb : TS} {D : Ends} {σ : St} {H : Hp} (Pv : Nat → St → Hp → Prop) (h0 : Pv 0 σ H) (hl : ∀ i σ H, i ≤ xs.length → Pv i σ H → SqL K H a xs)
  (hs : ∀ i x σ H T, xs[i]? = some x → Pv i σ H → H T = none → tb { D with nx := Pv (i + 1), ct := Pv (i + 1), bk := D.nx } ((σ.set i1 (some (.int (i : Nat)))).set i2 (some x)) (upd H T (.tup [.int (i : Nat), x]))) (hd : ∀ σ H, Pv xs.length σ H → D.nx σ H) :
  ∃ W : Nat → Nat → St → Hp → Prop, (∃ m, W 0 m σ H) ∧ ∀ i m σ H, W i m σ H →
   ((Ite K a).stop i H ∧ D.nx σ H) ∨ ((Ite K a).go i H ∧ ∃ N : St → Hp → Prop, (∀ σ' H', N σ' H' → ∃ m', m' < m ∧ W (i + 1) m' σ' H') ∧ ∀ x H', (Ite K a).yld i H x H' → gTwo K i1 i2 x σ H' fun σ2 H2 => tb { D with nx := N, ct := N, bk := D.nx } σ2 H2) := by
 refine ⟨fun i m σ H => m = xs.length - i ∧ i ≤ xs.length ∧ Pv i σ H, ⟨xs.length, by simp, Nat.zero_le _, h0⟩, ?_⟩
 rintro i m σ H ⟨rfl, hi, p⟩
 have q := hl i σ H hi p
 by_cases hlt : i < xs.length
 ·refine .inr ⟨⟨xs, xs[i], q, by simp [hlt]⟩, Pv (i + 1), fun σ' H' p' => ⟨xs.length - (i + 1), by omega, rfl, hlt, p'⟩, fun v H' hy => ?_⟩
  obtain ⟨T, x, e1, hT, e2, hx⟩ := hy
  subst e1 e2
  exact gTwo_of upd_same (hs i x σ H T (hx xs q) p hT)
 ·have e : i = xs.length := by omega
  subst e
  exact .inl ⟨⟨xs, q, Nat.le_refl _⟩, hd σ H p⟩
theorem lc_enum {tt : TT} {te : TE} {vs : List Nat} {σ : St} {H1 : Hp} {D : Addr} {Qd : Hp → Prop} (Pv : Nat → Hp → Prop) (h0 : Pv 0 (upd H1 D (.lst []))) (hl : ∀ i H, i ≤ xs.length → Pv i H → SqL K H a xs)
  (hs : ∀ i x H T, xs[i]? = some x → Pv i H → H T = none → wipe (((wipe σ vs).set i1 (some (.int (i : Nat)))).set i2 (some x)) vs = wipe σ vs ∧ tt (((wipe σ vs).set i1 (some (.int (i : Nat)))).set i2 (some x)) (upd H T (.tup [.int (i : Nat), x])) fun b H3 =>
   if b = true then te (((wipe σ vs).set i1 (some (.int (i : Nat)))).set i2 (some x)) H3 fun y H4 => ∃ acc, H4 D = some (.lst acc) ∧ acc.length < sizeLine ∧ Pv (i + 1) (upd H4 D (.lst (acc ++ [y]))) else Pv (i + 1) H3) (hd : ∀ H, Pv xs.length H → Qd H) :
  ∃ W : Nat → Nat → Hp → Prop, (∃ m, W 0 m (upd H1 D (.lst []))) ∧ ∀ i m H, W i m H →
   ((Ite K a).stop i H ∧ Qd H) ∨ ((Ite K a).go i H ∧ ∃ Nx : Hp → Prop, (∀ H', Nx H' → ∃ m', m' < m ∧ W (i + 1) m' H') ∧ ∀ x H', (Ite K a).yld i H x H' → gTwo K i1 i2 x (wipe σ vs) H' fun σ2 H2 => wipe σ2 vs = wipe σ vs ∧ tt σ2 H2 fun b H3 =>
    if b = true then te σ2 H3 fun y H4 => ∃ acc, H4 D = some (.lst acc) ∧ acc.length < sizeLine ∧ Nx (upd H4 D (.lst (acc ++ [y]))) else Nx H3) := by
 refine ⟨fun i m H => m = xs.length - i ∧ i ≤ xs.length ∧ Pv i H, ⟨xs.length, by simp, Nat.zero_le _, h0⟩, ?_⟩
 rintro i m H ⟨rfl, hi, p⟩
 have q := hl i H hi p
 by_cases hlt : i < xs.length
 ·refine .inr ⟨⟨xs, xs[i], q, by simp [hlt]⟩, Pv (i + 1), fun H' p' => ⟨xs.length - (i + 1), by omega, rfl, hlt, p'⟩, fun v H' hy => ?_⟩
  obtain ⟨T, x, e1, hT, e2, hx⟩ := hy
  subst e1 e2
  exact gTwo_of upd_same (hs i x H T (hx xs q) p hT)
 ·have e : i = xs.length := by omega
  subst e
  exact .inl ⟨⟨xs, q, Nat.le_refl _⟩, hd H p⟩
end
def rExtT (K : PySem.W.Frag) : V → List V → Hp → VK → Prop := fun x vs H Q => ∃ l b xs zs, x = .ref l ∧ vs = [.ref b] ∧ H l = some (.lst xs) ∧ SqT K H b zs ∧ xs.length + zs.length ≤ sizeLine ∧ Q .non (upd H l (.lst (xs ++ zs)))
theorem ext_tup (l : Addr) (as : Array Value) (n : Nat) (b : Addr) (bs : Array Value) (n2 : Nat) (dd : Option Addr) (sl : Array (Option Value)) (q0 : ¬(!as.isEmpty && Builtin.List.listTooLong (as.size + bs.size)) = true) (q1 : as.size ≤ sizeLine) (q2 : as.size + bs.size ≤ sizeLine + 1) :
  Meets (Builtin.«list.extend» ⟨[.ref l, .ref b], []⟩) (fun _ R s => s.heap.get? l = some { cls := .type "list", dict := none, data := .seq as n, slots := #[] } ∧ s.heap.get? b = some { cls := .type "tuple", dict := dd, data := .seq bs n2, slots := sl } ∧ R (.ok (.ret Value.none)) { s with heap := s.heap.update l (Obj.mapSeq fun x => x ++ bs), toks := s.toks }) :=
 .of_wp fun prog w A R s h => by
  obtain ⟨hp, g, d, tk, os⟩ := s
  obtain ⟨e1, e2, h⟩ := h
  have f1 := AutoSeq1.idx_int
  have f2 := AutoSeq1.sub_tuple_tuple
  have f3 := AutoSeq1.sub_list_list
  have f4 := AutoSeq1.sub_tuple_list
  have f5 := AutoSeq1.sub_list_tuple
  have z : (as ++ bs).size ≤ sizeLine + 1 := by rw [Array.size_append]; exact q2
  wp_walk using (wpAny_updateSeq e1 rfl (hz := q1) (_hz' := z)), AutoSeq1.wpAny_loadPart' e1, AutoSeq1.wpAny_loadPart' e2
  exact ⟨_, rfl, h⟩
theorem mt_extT {X : Cx} : MtM X "list.extend" (rExtT X.K) := by
 intro pins s σ H x vs v us Q I rx rv h
 obtain ⟨l, b, xs, zs, rfl, rfl, hH, hB, hz, q⟩ := h
 cases rx
 obtain ⟨u, rfl, ru⟩ := rv.one
 cases ru
 obtain ⟨z, its, n, r, hl, e⟩ := I.lstM hH
 obtain ⟨its2, r2, ⟨o2, e2, hc2, n2, hd2⟩, hz2⟩ := I.tuple hB
 obtain ⟨cl2, dd2, da2, sl2⟩ := o2
 obtain rfl : cl2 = _ := hc2
 obtain rfl : da2 = _ := hd2
 have l1 := r.length
 have l2 := r2.length
 have hsz : its.toArray.size + its2.toArray.size ≤ sizeLine := by rw [List.size_toArray, List.size_toArray]; omega
 have hlong : ¬ (!its.toArray.isEmpty && Builtin.List.listTooLong (its.toArray.size + its2.toArray.size)) = true := by
  rw [notLongL hsz, Bool.and_false]
  exact Bool.false_ne_true
 refine call_meets F.slot_list_extend ⟨_, e, rfl⟩ F.entry_list_extend (F.args_list_extend_2 _ _)
  (ext_tup l its.toArray n b its2.toArray n2 dd2 sl2 hlong (by rw [List.size_toArray]; omega) (by omega)) ⟨e, e2, ?_⟩
 refine ⟨.non, _, I.lset (its' := its ++ its2) hH e (by simp) (r.append r2) ?_, rfl, q⟩
 rw [List.length_append]
 omega
section
variable {prog : Program} {w : World} {A : Around} {E : Value → Shared → Prop} {s : Shared}
theorem nextT {j t : Addr} {i : Nat} {its : Array Value} {x : Value} {Q : Value → Shared → Prop} (g : s.heap.IsTupleIter j t i) (gt : s.heap.IsTuple t its) (hx : its[i]? = some x)
  (k : ∀ h', h'.IsTupleIter j t (i + 1) → Heap.SameBut j s.heap h' → Q x { s with heap := h' }) : wpAny (model prog w) A (Builtin.SmallTypes.nextOf (.ref j)) Q E s := by
 obtain ⟨o, ho, hc, hd⟩ := id g; obtain ⟨ol, hol, _, nl, hdl⟩ := gt; unfold Builtin.SmallTypes.nextOf
 refine wpAny_bind (wpAny_callSpecial?_slot (name := Str.ofString "__next__") g.typeIs F.slot_tuple_iterator_next (wpAny_call_entry F.slot_tuple_iterator_next g.typeIs F.entry_tuple_iterator_next ?_ (F.args_tuple_iterator_next_1 _)))
 show wpAny _ _ (field (.ref j) 0 >>= _) _ _ s
 refine wpAny_bind (wpAny_field ho hd (x := .ref t) rfl ?_); show wpAny _ _ (if (Value.ref t == Value.none) = true then _ else _) _ _ s; rw [if_neg (show ¬ ((Value.ref t == Value.none) = true) from Bool.false_ne_true)]
 show wpAny _ _ (field (.ref j) 1 >>= _) _ _ s
 refine wpAny_bind (wpAny_field ho hd (x := .int i 0) rfl ?_); show wpAny _ _ (seqItems? (.ref t) >>= _) _ _ s; refine wpAny_bind (wpAny_seqItems hol hdl ?_); simp only [Int.toNat_natCast, hx]
 refine wpAny_bind (wpAny_setField ho hd (by simp) (wpAny_pure ⟨x, rfl, wpAny_pure (k _ ?_ (Heap.SameBut.update ..))⟩))
 exact ⟨_, Heap.get?_update_self _ ho (Obj.isFreed_of_fields (Obj.data_mapFields hd _)), (Obj.cls_mapFields ..).trans hc, by rw [Obj.data_mapFields hd]; simp [rawInt]⟩
theorem zipT_item {z ti tu j1 j2 l1 l2 : Addr} {k1 k2 : Nat} {xs ys : Array Value} {x y a b : Value} {Q : Value → Shared → Prop} (ap : ZipApart z ti tu j1 j2 l1 l2)
  (gz : IsZip s.heap z ti tu .none) (gI : IsPair s.heap ti (.ref j1) (.ref j2)) (gO : IsPair s.heap tu a b)
  (g1 : s.heap.IsListIter j1 l1 k1) (g2 : s.heap.IsTupleIter j2 l2 k2) (gl1 : s.heap.IsList l1 xs) (gl2 : s.heap.IsTuple l2 ys) (hx : xs[k1]? = some x) (hy : ys[k2]? = some y)
  (hQ : ∀ h', IsZip h' z ti tu (rawInt s.heap.objs.size) → IsPair h' tu x y → h'.IsListIter j1 l1 (k1 + 1) → h'.IsTupleIter j2 l2 (k2 + 1) → IsPair h' s.heap.objs.size x y → h'.objs.size = s.heap.objs.size + 1 →
   (∀ c o, c ≠ z → c ≠ tu → c ≠ j1 → c ≠ j2 → s.heap.get? c = some o → h'.get? c = some o) → Q (.ref s.heap.objs.size) { s with heap := h' }) :
  wpAny (model prog w) A (Builtin.«zip.__next__» ⟨[.ref z], []⟩) (fun fin s' => ∃ v, fin = .done (.ret v) ∧ Q v s') E s := by
 show wpAny _ _ (field (.ref z) 2 >>= _) _ _ _; refine wpAny_bind (wpAny_field gz rfl (x := .bool false) rfl ?_)
 show wpAny _ _ (field (.ref z) 3 >>= _) _ _ _; refine wpAny_bind (wpAny_field gz rfl (x := .ref ti) rfl ?_); refine wpAny_bind (wpAny_seqItems gI rfl ?_)
 show wpAny _ _ (Builtin.SmallTypes.ownedTupleIsFree (.ref z) >>= _) _ _ _; refine wpAny_bind ?_; unfold Builtin.SmallTypes.ownedTupleIsFree
 refine wpAny_bind (wpAny_field gz rfl (x := .none) rfl (wpAny_pure ?_)); simp only [if_true]; refine wpAny_bind (wpAny_rule ?_); refine wpAny_bind (wpAny_field gz rfl (x := .ref tu) rfl ?_)
 refine wpAny_bind (wpAny_setField_rec gz (by simp) fun f1 gz1 d1 => ?_); replace gz1 : IsZip f1 z ti tu .ellipsis := gz1
 refine wpAny_bind ?_; simp only [List.zipIdx_cons, List.zipIdx_nil, List.forIn_cons, List.forIn_nil]
 refine wpAny_bind (wpAny_bind (wpAny_onRaise ?_)); show wpAny _ _ (Builtin.SmallTypes.nextOf (.ref j1) >>= _) _ _ _
 refine wpAny_bind (wpAny_nextOf_list_item (g1.extBut d1.extBut ap.i1z) (gl1.extBut d1.extBut ap.l1z) hx fun f2 g12 d2 => wpAny_pure ?_)
 have gO2 : IsPair f2 tu a b := d2.extBut _ _ ap.TOi1 (d1.extBut _ _ ap.TOz gO)
 refine wpAny_bind (wpAny_seqItems gO2 rfl ?_); refine wpAny_bind (wpAny_updateSeq_pair gO2 fun f3 gO3 d3 => ?_); replace gO3 : IsPair f3 tu x b := gO3
 refine wpAny_bind (wpAny_letGo (wpAny_pure ?_)); refine wpAny_bind (wpAny_bind (wpAny_onRaise ?_)); show wpAny _ _ (Builtin.SmallTypes.nextOf (.ref j2) >>= _) _ _ _
 refine wpAny_bind (nextT (((g2.extBut d1.extBut ap.i2z).extBut d2.extBut ap.i12.symm).extBut d3.extBut ap.TOi2.symm) (((gl2.extBut d1.extBut ap.l2z).extBut d2.extBut ap.l2i1).extBut d3.extBut ap.l2TO) hy fun f4 g24 d4 => wpAny_pure ?_)
 have gO4 : IsPair f4 tu x b := d4.extBut _ _ ap.TOi2 gO3
 refine wpAny_bind (wpAny_seqItems gO4 rfl ?_); refine wpAny_bind (wpAny_updateSeq_pair gO4 fun f5 gO5 d5 => ?_); replace gO5 : IsPair f5 tu x y := gO5
 refine wpAny_bind (wpAny_letGo (wpAny_pure (wpAny_pure ?_))); refine wpAny_bind (wpAny_seqItems gO5 rfl ?_); refine wpAny_bind (wpAny_newTuple ?_)
 have sz : f5.objs.size = s.heap.objs.size := by rw [d5.1, d4.1, d3.1, d2.1, d1.1]
 have gz5 : IsZip f5 z ti tu .ellipsis := d5.extBut _ _ ap.TOz.symm (d4.extBut _ _ ap.i2z.symm (d3.extBut _ _ ap.TOz.symm (d2.extBut _ _ ap.i1z.symm gz1)))
 have kp5 : ∀ c o, c ≠ z → c ≠ tu → c ≠ j1 → c ≠ j2 → s.heap.get? c = some o → f5.get? c = some o := fun c o c1 c2 c3 c4 e => d5.extBut _ _ c2 (d4.extBut _ _ c4 (d3.extBut _ _ c2 (d2.extBut _ _ c3 (d1.extBut _ _ c1 e))))
 have g15 : f5.IsListIter j1 l1 (k1 + 1) := ((g12.extBut d3.extBut ap.TOi1.symm).extBut d4.extBut ap.i12).extBut d5.extBut ap.TOi1.symm
 have g25 : f5.IsTupleIter j2 l2 (k2 + 1) := g24.extBut d5.extBut ap.TOi2.symm
 have zlt : z < f5.objs.size := Heap.lt_size gz5
 show wpAny _ _ (Builtin.SmallTypes.ownedTupleHandOut (.ref z) (.ref f5.objs.size) >>= _) _ _ _; refine wpAny_bind ?_; unfold Builtin.SmallTypes.ownedTupleHandOut
 have gz6 : IsZip (f5.push { cls := .type "tuple", data := .seq #[x, y] }) z ti tu .ellipsis := Heap.get?_push_of_some _ gz5
 refine wpAny_bind (wpAny_setField_rec gz6 (by simp) fun f7 gz7 d7 => ?_); replace gz7 : IsZip f7 z ti tu (rawInt f5.objs.size) := gz7
 refine wpAny_setField_rec gz7 (by simp) fun f8 gz8 d8 => ?_; replace gz8 : IsZip f8 z ti tu (rawInt f5.objs.size) := gz8
 have up8 : ∀ c o, c ≠ z → f5.get? c = some o → f8.get? c = some o := fun c o c1 e => d8.extBut _ _ c1 (d7.extBut _ _ c1 (Heap.get?_push_of_some _ e))
 have gT8 : IsPair f8 f5.objs.size x y := d8.extBut _ _ (Nat.ne_of_gt zlt) (d7.extBut _ _ (Nat.ne_of_gt zlt) (Heap.get?_push_size _ rfl))
 have z8 : f8.objs.size = f5.objs.size + 1 := by rw [d8.1, d7.1, Heap.size_push]
 rw [sz] at gz8 gT8 z8
 refine wpAny_pure ⟨_, rfl, ?_⟩
 show Q (.ref f5.objs.size) _
 rw [sz]
 exact hQ f8 gz8 (up8 _ _ ap.TOz gO5) (g15.at fun o e => up8 _ o ap.i1z e) (g25.at fun o e => up8 _ o ap.i2z e) gT8 z8 fun c o c1 c2 c3 c4 e => up8 c o c1 (kp5 c o c1 c2 c3 c4 e)
theorem zipT_end {z ti tu j1 j2 l1 : Addr} {k1 : Nat} {xs : Array Value} {a b : Value} {Q : Fin → Shared → Prop} (hh : A.handled = none) (n1 : tu ≠ z) (n2 : j1 ≠ z) (n3 : tu ≠ j1) (n4 : l1 ≠ z)
  (gz : IsZip s.heap z ti tu .none) (gI : IsPair s.heap ti (.ref j1) (.ref j2)) (gO : IsPair s.heap tu a b) (g1 : s.heap.IsListIter j1 l1 k1) (gl1 : s.heap.IsList l1 xs) (hx : xs[k1]? = none)
  (hE : ∀ h' e, (∀ c o, c ≠ z → c ≠ j1 → s.heap.get? c = some o → h'.get? c = some o) → (∃ o, h'.get? e = some o ∧ o.cls = .type "StopIteration") → E (.ref e) { s with heap := h' }) :
  wpAny (model prog w) A (Builtin.«zip.__next__» ⟨[.ref z], []⟩) Q E s := by
 show wpAny _ _ (field (.ref z) 2 >>= _) _ _ _; refine wpAny_bind (wpAny_field gz rfl (x := .bool false) rfl ?_)
 show wpAny _ _ (field (.ref z) 3 >>= _) _ _ _; refine wpAny_bind (wpAny_field gz rfl (x := .ref ti) rfl ?_); refine wpAny_bind (wpAny_seqItems gI rfl ?_)
 show wpAny _ _ (Builtin.SmallTypes.ownedTupleIsFree (.ref z) >>= _) _ _ _; refine wpAny_bind ?_; unfold Builtin.SmallTypes.ownedTupleIsFree
 refine wpAny_bind (wpAny_field gz rfl (x := .none) rfl (wpAny_pure ?_)); simp only [if_true]; refine wpAny_bind (wpAny_rule ?_); refine wpAny_bind (wpAny_field gz rfl (x := .ref tu) rfl ?_)
 refine wpAny_bind (wpAny_setField_rec gz (by simp) fun f1 gz1 d1 => ?_); replace gz1 : IsZip f1 z ti tu .ellipsis := gz1
 refine wpAny_bind ?_; simp only [List.zipIdx_cons, List.zipIdx_nil, List.forIn_cons, List.forIn_nil]
 refine wpAny_bind (wpAny_bind (wpAny_onRaise ?_)); show wpAny _ _ (Builtin.SmallTypes.nextOf (.ref j1) >>= _) _ _ _
 refine wpAny_bind (wpAny_nextOf_list_end hh (g1.extBut d1.extBut n2) (gl1.extBut d1.extBut n4) hx fun f2 e d2 he => ?_)
 obtain ⟨oe, hoe, hce⟩ := he
 have gz2 : IsZip f2 z ti tu .ellipsis := d2 _ _ n2.symm gz1
 have ez : e ≠ z := fun q => by subst q; rw [gz2] at hoe; cases hoe; simp at hce
 refine wpAny_setField_rec gz2 (by simp) fun f3 _ d3 => hE f3 e (fun c o c1 c3 q => d3.extBut _ _ c1 (d2 _ _ c3 (d1.extBut _ _ c1 q))) ⟨oe, d3.extBut _ _ ez hoe, hce⟩
theorem pyNextT {z ti tu j1 j2 l1 l2 : Addr} {k1 k2 : Nat} {xs ys : Array Value} {x y a b : Value} {Q : Option Value → Shared → Prop} (ap : ZipApart z ti tu j1 j2 l1 l2)
  (gz : IsZip s.heap z ti tu .none) (gI : IsPair s.heap ti (.ref j1) (.ref j2)) (gO : IsPair s.heap tu a b)
  (g1 : s.heap.IsListIter j1 l1 k1) (g2 : s.heap.IsTupleIter j2 l2 k2) (gl1 : s.heap.IsList l1 xs) (gl2 : s.heap.IsTuple l2 ys) (hx : xs[k1]? = some x) (hy : ys[k2]? = some y)
  (hQ : ∀ h', IsZip h' z ti tu (rawInt s.heap.objs.size) → IsPair h' tu x y → h'.IsListIter j1 l1 (k1 + 1) → h'.IsTupleIter j2 l2 (k2 + 1) → IsPair h' s.heap.objs.size x y → h'.objs.size = s.heap.objs.size + 1 →
   (∀ c o, c ≠ z → c ≠ tu → c ≠ j1 → c ≠ j2 → s.heap.get? c = some o → h'.get? c = some o) → Q (some (.ref s.heap.objs.size)) { s with heap := h' }) :
  wpAny (model prog w) A (pyNext (.ref z)) Q E s := by
 have hT : s.TypeIs (.ref z) "zip" := ⟨_, gz, rfl⟩
 unfold pyNext
 exact wpAny_bind (wpAny_attempt (wpAny_callSpecial?_slot (name := Str.ofString "__next__") hT F.slot_zip_next (wpAny_call_entry F.slot_zip_next hT F.entry_zip_next
   (zipT_item ap gz gI gO g1 g2 gl1 gl2 hx hy fun h' a1 a2 a3 a4 a5 a6 a7 => wpAny_pure (hQ h' a1 a2 a3 a4 a5 a6 a7)) (F.args_zip_next_1 _))))
theorem pyNextT_end {z ti tu j1 j2 l1 : Addr} {k1 : Nat} {xs : Array Value} {a b : Value} {Q : Option Value → Shared → Prop} (hh : A.handled = none) (n1 : tu ≠ z) (n2 : j1 ≠ z) (n3 : tu ≠ j1) (n4 : l1 ≠ z)
  (gz : IsZip s.heap z ti tu .none) (gI : IsPair s.heap ti (.ref j1) (.ref j2)) (gO : IsPair s.heap tu a b) (g1 : s.heap.IsListIter j1 l1 k1) (gl1 : s.heap.IsList l1 xs) (hx : xs[k1]? = none)
  (hQ : ∀ h', (∀ c o, c ≠ z → c ≠ j1 → s.heap.get? c = some o → h'.get? c = some o) → Q none { s with heap := h' }) : wpAny (model prog w) A (pyNext (.ref z)) Q E s := by
 have hT : s.TypeIs (.ref z) "zip" := ⟨_, gz, rfl⟩
 unfold pyNext
 refine wpAny_bind (wpAny_attempt (wpAny_callSpecial?_slot (name := Str.ofString "__next__") hT F.slot_zip_next (wpAny_call_entry F.slot_zip_next hT F.entry_zip_next
  (zipT_end hh n1 n2 n3 n4 gz gI gO g1 gl1 hx fun h' e hk he => ?_) (F.args_zip_next_1 _))))
 obtain ⟨o, ho, hc⟩ := he
 exact wpAny_bind (wpAny_isInstance (T := "StopIteration") (b := true) ⟨o, ho, hc⟩ isSubtype_stop (wpAny_pure (hQ _ hk)))
end
abbrev zt2 (h : Heap) (l1 l2 : Addr) : Heap := (zipH1 h l1).push { cls := .type "tuple_iterator", data := .fields #[.ref l2, .int 0 0] }
abbrev zt3 (h : Heap) (l1 l2 : Addr) : Heap := (zt2 h l1 l2).push { cls := .type "tuple", data := .seq #[.ref h.objs.size, .ref (zipH1 h l1).objs.size] }
abbrev zt4 (h : Heap) (l1 l2 : Addr) : Heap := (zt3 h l1 l2).push { cls := .type "tuple", data := .seq #[.none, .none] }
abbrev zt5 (h : Heap) (l1 l2 : Addr) : Heap := (zt4 h l1 l2).push { cls := .type "zip", data := .fields #[.none, .bool false, .bool false, .ref (zt2 h l1 l2).objs.size, .ref (zt3 h l1 l2).objs.size] }
theorem IsTuple_push {h : Heap} {t : Addr} {its : Array Value} (x : h.IsTuple t its) (o : Obj) : (h.push o).IsTuple t its := by
 obtain ⟨ob, e, r⟩ := x
 exact ⟨ob, Heap.get?_push_of_some _ e, r⟩
theorem meets_zipT (l1 l2 : Addr) (xs ys : Array Value) :
  Meets (Builtin.«zip.__new__» ⟨[.type "zip", .ref l1, .ref l2], []⟩) (fun _ R s => s.heap.IsList l1 xs ∧ s.heap.IsTuple l2 ys ∧ R (.ok (.ret (.ref (zt4 s.heap l1 l2).objs.size))) { s with heap := zt5 s.heap l1 l2 }) :=
 .of_wp fun prog w A R s h => by
  obtain ⟨hp, g, d, tk, os⟩ := s
  obtain ⟨q1, q2, h⟩ := h
  have hsub := sub_zip
  have L1 : Heap.IsList (Shared.heap ⟨hp, g, d, tk, os⟩) l1 xs := q1
  have L2' : Heap.IsTuple (Shared.heap ⟨hp.push { cls := .type "list_iterator", data := .fields #[.ref l1, .int 0 0] }, g, d, tk, os⟩) l2 ys := IsTuple_push q2 _
  wp_walk using wpAny_pyIter_list L1, wpAny_pyIter_tuple L2'
  exact ⟨_, rfl, h⟩
section
variable {prog : Program} {w : World} {A : Around} {E : Value → Shared → Prop} {s : Shared}
theorem call_zipT {l1 l2 : Addr} {xs ys : Array Value} {Q : Value → Shared → Prop} (q1 : s.heap.IsList l1 xs) (q2 : s.heap.IsTuple l2 ys)
  (h : ∀ h', IsZip h' (s.heap.objs.size + 4) (s.heap.objs.size + 2) (s.heap.objs.size + 3) .none → IsPair h' (s.heap.objs.size + 2) (.ref s.heap.objs.size) (.ref (s.heap.objs.size + 1)) →
   IsPair h' (s.heap.objs.size + 3) .none .none → h'.IsListIter s.heap.objs.size l1 0 → h'.IsTupleIter (s.heap.objs.size + 1) l2 0 →
   (∀ c o, s.heap.get? c = some o → h'.get? c = some o) → Q (.ref (s.heap.objs.size + 4)) { s with heap := h' }) :
  wpAny (model prog w) A (call (.type "zip") [.ref l1, .ref l2]) Q E s := by
 refine callType_new F.called_zip (by decide) (F.typeCall_zip_2 _ _) (F.newCall_zip_2 _ _) (fun obj => F.args_object_init_3 obj _ _) F.entry_zip_new (meets_zipT l1 l2 xs ys) ⟨q1, q2, ?_⟩
 have z1 : (zipH1 s.heap l1).objs.size = s.heap.objs.size + 1 := Heap.size_push ..
 have z2 : (zt2 s.heap l1 l2).objs.size = s.heap.objs.size + 2 := by rw [Heap.size_push, z1]
 have z3 : (zt3 s.heap l1 l2).objs.size = s.heap.objs.size + 3 := by rw [Heap.size_push, z2]
 have z4 : (zt4 s.heap l1 l2).objs.size = s.heap.objs.size + 4 := by rw [Heap.size_push, z3]
 have g5 : (zt5 s.heap l1 l2).get? (zt4 s.heap l1 l2).objs.size = some _ := Heap.get?_push_size _ rfl
 have g4 : (zt5 s.heap l1 l2).get? (zt3 s.heap l1 l2).objs.size = some _ := Heap.get?_push_of_some _ (Heap.get?_push_size _ rfl)
 have g3 : (zt5 s.heap l1 l2).get? (zt2 s.heap l1 l2).objs.size = some _ := Heap.get?_push_of_some _ (Heap.get?_push_of_some _ (Heap.get?_push_size _ rfl))
 have g2 : (zt5 s.heap l1 l2).get? (zipH1 s.heap l1).objs.size = some _ := Heap.get?_push_of_some _ (Heap.get?_push_of_some _ (Heap.get?_push_of_some _ (Heap.get?_push_size _ rfl)))
 have g1 : (zt5 s.heap l1 l2).get? s.heap.objs.size = some _ := Heap.get?_push_of_some _ (Heap.get?_push_of_some _ (Heap.get?_push_of_some _ (Heap.get?_push_of_some _ (Heap.get?_push_size _ rfl))))
 show _ ∧ _
 rw [z2, z3, z4] at g5
 rw [z1, z2] at g3
 rw [z3] at g4
 rw [z1] at g2
 rw [z4]
 exact ⟨⟨_, g5, rfl⟩, h _ g5 g3 g4 ⟨_, g1, rfl, rfl⟩ ⟨_, g2, rfl, rfl⟩ fun c o q => Heap.get?_push_of_some _ (Heap.get?_push_of_some _ (Heap.get?_push_of_some _ (Heap.get?_push_of_some _ (Heap.get?_push_of_some _ q))))⟩
end
def Itzt (K : PySem.W.Frag) (a b : Addr) : It :=
 ⟨fun i H => ∃ (xs ys : List V) (x y : V), SqL K H a xs ∧ SqT K H b ys ∧ xs[i]? = some x ∧ ys[i]? = some y,
  fun i H v H' => ∃ T x y, v = .ref T ∧ H T = none ∧ H' = upd H T (.tup [x, y]) ∧ (∀ xs, SqL K H a xs → xs[i]? = some x) ∧ ∀ ys, SqT K H b ys → ys[i]? = some y,
  fun i H => ∃ xs : List V, SqL K H a xs ∧ xs.length ≤ i⟩
theorem turn_zipT {P : Program} {w : World} {K : PySem.W.Frag} {elts : List Expr} {kk : Nat} {tpos : Pos} {a b z ti tu j1 j2 : Addr} (ap : ZipApart z ti tu j1 j2 a b) :
  Turn P w K (.Tuple elts kk tpos) (Itzt K a b) [z, ti, tu, j1, j2] z (fun i h => IsZip h z ti tu .none ∧ IsPair h ti (.ref j1) (.ref j2) ∧ (∃ x y, IsPair h tu x y) ∧ h.IsListIter j1 a i ∧ h.IsTupleIter j2 b i) where
 mem := by simp
 obj := fun i h st c hc => by
  obtain ⟨hz, hTI, ⟨x, y, hTO⟩, ⟨o1, e1, _, d1⟩, ⟨o2, e2, _, d2⟩⟩ := st
  have e' : c = z ∨ c = ti ∨ c = tu ∨ c = j1 ∨ c = j2 := by simpa using hc
  rcases e' with q | q | q | q | q
  ·rw [q]; exact ⟨_, hz, fun v q => nomatch q⟩
  ·rw [q]; exact ⟨_, hTI, fun v q => nomatch q⟩
  ·rw [q]; exact ⟨_, hTO, fun v q => nomatch q⟩
  ·rw [q]; exact ⟨o1, e1, fun v q => by rw [d1] at q; cases q⟩
  ·rw [q]; exact ⟨o2, e2, fun v q => by rw [d2] at q; cases q⟩
 keep := fun i h h' st k => by
  obtain ⟨hz, hTI, ⟨x, y, hTO⟩, h1, h2⟩ := st
  exact ⟨k z (by simp) _ hz, k ti (by simp) _ hTI, ⟨x, y, k tu (by simp) _ hTO⟩, h1.at fun o q => k j1 (by simp) o q, h2.at fun o q => k j2 (by simp) o q⟩
 item := by
  intro X hP hw hK hc i pins s σ H E I hf st hg
  subst hP hw hK
  obtain ⟨hz, hTI, ⟨x0, y0, hTO⟩, h1, h2⟩ := st
  obtain ⟨xs, ys, x, y, hqx, hqy, hx, hy⟩ := hg
  obtain ⟨its, rv, p, _⟩ := I.list hqx
  obtain ⟨its2, rv2, p2, _⟩ := I.tuple hqy
  obtain ⟨u, hu, ru⟩ := rv.get hx
  obtain ⟨u2, hu2, ru2⟩ := rv2.get hy
  have hzl : z < s.heap.objs.size := Heap.lt_size hz
  refine pyNextT ap hz hTI hTO h1 h2 p.isList (show s.heap.IsTuple b its2.toArray from p2) (x := u) (y := u2) (by simpa using hu) (by simpa using hu2) fun h' z' TO' h1' h2' hT hsz hk => ?_
  refine ⟨_, rfl, wpAny_letOwnedTupleGo_zip (s := { s with heap := h' }) z' fun h'' z'' sb => ?_⟩
  have hT2 : h''.get? s.heap.objs.size = some { cls := .type "tuple", data := .seq #[u, u2] } := (sb.2 _ (Nat.ne_of_gt hzl)).trans hT
  have new : ObjOk X.prog X.w (upd H s.heap.objs.size (.tup [x, y])) h'' s.heap.objs.size (.tup [x, y]) :=
   ⟨by show 2 ≤ sizeLine; decide, [u, u2], .cons ru (.cons ru2 .nil), ⟨_, hT2, rfl, _, rfl⟩⟩
  have I1 : Inv X pins σ (upd H s.heap.objs.size (.tup [x, y])) { s with heap := h'' } :=
   I.turnedNew (t' := s.toks) (ch := [z, ti, tu, j1, j2]) (fun c o hb q => (sb.2 c (fun q' => hb (by simp [q']))).trans (hk c o (fun q' => hb (by simp [q'])) (fun q' => hb (by simp [q'])) (fun q' => hb (by simp [q'])) (fun q' => hb (by simp [q'])) q)) hf (Nat.le_refl _) new
  refine ⟨.ref s.heap.objs.size, _, I1, rfl, ⟨_, x, y, rfl, I.hok.fresh (Nat.le_refl _), rfl, fun l hl => by rw [I.list_inj hl hqx]; exact hx, fun l hl => by rw [I.tuple_inj hl hqy]; exact hy⟩, ⟨z'', ?_, ⟨u, u2, ?_⟩, ?_, ?_⟩, fun c hcm => ?_⟩
  ·exact (sb.2 _ ap.TIz).trans (hk _ _ ap.TIz ap.TITO ap.TIi1 ap.TIi2 hTI)
  ·exact (sb.2 _ ap.TOz).trans TO'
  ·exact h1'.at fun o q => (sb.2 _ ap.i1z).trans q
  ·exact h2'.at fun o q => (sb.2 _ ap.i2z).trans q
  ·have hlt : c < s.heap.objs.size := by
    have e' : c = z ∨ c = ti ∨ c = tu ∨ c = j1 ∨ c = j2 := by simpa using hcm
    rcases e' with q | q | q | q | q
    ·rw [q]; exact hzl
    ·rw [q]; exact Heap.lt_size hTI
    ·rw [q]; exact Heap.lt_size hTO
    ·rw [q]; obtain ⟨_, e1, _⟩ := h1; exact Heap.lt_size e1
    ·rw [q]; obtain ⟨_, e2, _⟩ := h2; exact Heap.lt_size e2
   rw [upd_ne (Nat.ne_of_lt hlt)]
   exact (hf c hcm).1
 done := by
  intro X hP hw hK hc i pins s σ H E I hf st hg
  subst hP hw hK
  obtain ⟨hz, hTI, ⟨x0, y0, hTO⟩, h1, h2⟩ := st
  obtain ⟨xs, hqx, hend⟩ := hg
  obtain ⟨its, rv, p, _⟩ := I.list hqx
  have l1 := rv.length
  exact pyNextT_end (I.ok.hd hc) ap.TOz ap.i1z ap.TOi1 ap.l1z hz hTI hTO h1 p.isList (by simp; omega) fun h' hk => ⟨rfl, I.turnedL (t' := s.toks) (ch := [z, ti, tu, j1, j2]) (fun c o hb q =>
   hk c o (fun q' => hb (by simp [q'])) (fun q' => hb (by simp [q'])) q) hf⟩
 self := fun A i s Q E st h => wpAny_pyIter_zip st.1 h
def iZipT (K : PySem.W.Frag) (ta : TA) : TI := fun σ H R => ta σ H fun vs H1 => ∃ a b xs ys, vs = [.ref a, .ref b] ∧ SqL K H1 a xs ∧ SqT K H1 b ys ∧ R (Itzt K a b) H1
theorem pi_zipT {X : Cx} {e e2 : Expr} {ta : TA} {p pos tpos : Pos} {elts : List Expr} {kk : Nat} (hg : Gl X "zip") (hm : X.mg "zip" = none) (ha : PA X [e, e2] ta)
  (hs : starEach [e, e2] X.env = (false, eval e X.env) :: starEach [e2] X.env := by rfl) (hpl : (backTo pos (starEach [e2] X.env)).any (·.1) = false := by rfl) :
  PI X (.Tuple elts kk tpos) (.Call (.Name "zip" p) [e, e2] [] pos) (iZipT X.K ta) := by
 intro pins s σ H R I h
 refine Call_ (ld_blt I hg hm boot_zip5 (PyProof.Rows.callWith_type1 (thn (ha pos pins s σ H _ I h) fun us s1 ⟨vs, H1, I1, r1, q1⟩ => ?_) hs hpl))
 obtain ⟨a, b, xs, ys, ex, hqx, hqy, q⟩ := q1
 subst ex
 cases r1 with
 | cons r rr =>
  cases rr with
  | cons r' rr =>
   cases rr
   cases r
   cases r'
   obtain ⟨its, rv, p1, _⟩ := I1.list hqx
   obtain ⟨its2, rv2, p2, _⟩ := I1.tuple hqy
   have la : a < s1.heap.objs.size := p1.lt
   have lb : b < s1.heap.objs.size := by obtain ⟨_, e, _⟩ := p2; exact Heap.lt_size e
   refine call_zipT p1.isList (show s1.heap.IsTuple b its2.toArray from p2) fun h' hz hTI hTO h1 h2 hk => wpAny_pyIter_zip hz ?_
   have I2 : Inv X pins σ H1 { s1 with heap := h' } := I1.kept (t' := s1.toks) hk
   refine ⟨s1.heap.objs.size + 4, [s1.heap.objs.size + 4, s1.heap.objs.size + 2, s1.heap.objs.size + 3, s1.heap.objs.size, s1.heap.objs.size + 1], _, _, H1, rfl, I2, turn_zipT (PySem.W.ktu_apart s1.heap.objs.size a b la lb), ⟨hz, hTI, ⟨_, _, hTO⟩, h1, h2⟩, fun c hcm => ?_, q⟩
   have e' : c = s1.heap.objs.size + 4 ∨ c = s1.heap.objs.size + 2 ∨ c = s1.heap.objs.size + 3 ∨ c = s1.heap.objs.size ∨ c = s1.heap.objs.size + 1 := by simpa using hcm
   have hle : s1.heap.objs.size ≤ c := by
    rcases e' with z | z | z | z | z
    ·rw [z]; exact Nat.le_add_right _ _
    ·rw [z]; exact Nat.le_add_right _ _
    ·rw [z]; exact Nat.le_add_right _ _
    ·rw [z]; exact Nat.le_refl _
    ·rw [z]; exact Nat.le_add_right _ _
   exact I1.fpOk hle (I1.hok.fresh hle)
theorem lc_zipT {K : PySem.W.Frag} {a b : Addr} {xs ys : List V} {i1 i2 : Nat} {tt : TT} {te : TE} {vs : List Nat} {σ : St} {H1 : Hp} {D : Addr} {Qd : Hp → Prop} (Pv : Nat → Hp → Prop) (h0 : Pv 0 (upd H1 D (.lst []))) (hlen : xs.length ≤ ys.length)
  (hl : ∀ i H, i ≤ xs.length → Pv i H → SqL K H a xs ∧ SqT K H b ys)
  (hs : ∀ i x y H T, xs[i]? = some x → ys[i]? = some y → Pv i H → H T = none → wipe (((wipe σ vs).set i1 (some x)).set i2 (some y)) vs = wipe σ vs ∧ tt (((wipe σ vs).set i1 (some x)).set i2 (some y)) (upd H T (.tup [x, y])) fun b H3 =>
   if b = true then te (((wipe σ vs).set i1 (some x)).set i2 (some y)) H3 fun z H4 => ∃ acc, H4 D = some (.lst acc) ∧ acc.length < sizeLine ∧ Pv (i + 1) (upd H4 D (.lst (acc ++ [z]))) else Pv (i + 1) H3) (hd : ∀ H, Pv xs.length H → Qd H) :
  ∃ W : Nat → Nat → Hp → Prop, (∃ m, W 0 m (upd H1 D (.lst []))) ∧ ∀ i m H, W i m H →
   ((Itzt K a b).stop i H ∧ Qd H) ∨ ((Itzt K a b).go i H ∧ ∃ Nx : Hp → Prop, (∀ H', Nx H' → ∃ m', m' < m ∧ W (i + 1) m' H') ∧ ∀ x H', (Itzt K a b).yld i H x H' → gTwo K i1 i2 x (wipe σ vs) H' fun σ2 H2 => wipe σ2 vs = wipe σ vs ∧ tt σ2 H2 fun b H3 =>
    if b = true then te σ2 H3 fun y H4 => ∃ acc, H4 D = some (.lst acc) ∧ acc.length < sizeLine ∧ Nx (upd H4 D (.lst (acc ++ [y]))) else Nx H3) := by
 refine ⟨fun i m H => m = xs.length - i ∧ i ≤ xs.length ∧ Pv i H, ⟨xs.length, by simp, Nat.zero_le _, h0⟩, ?_⟩
 rintro i m H ⟨rfl, hi, p⟩
 obtain ⟨q, q2⟩ := hl i H hi p
 by_cases hlt : i < xs.length
 ·have hlt2 : i < ys.length := by omega
  refine .inr ⟨⟨xs, ys, xs[i], ys[i], q, q2, by simp [hlt], by simp [hlt2]⟩, Pv (i + 1), fun H' p' => ⟨xs.length - (i + 1), by omega, rfl, hlt, p'⟩, fun v H' hy => ?_⟩
  obtain ⟨T, x, y, e1, hT, e2, hx, hy2⟩ := hy
  subst e1 e2
  exact gTwo_of upd_same (hs i x y H T (hx xs q) (hy2 ys q2) p hT)
 ·have e : i = xs.length := by omega
  subst e
  exact .inl ⟨⟨xs, q, Nat.le_refl _⟩, hd H p⟩
def lamCx (X : Cx) (A : Around) (s : Shared) (H : Hp) (env : Env) (N : List Str) : Cx :=
 { X with A := A.deeper env, N := N, s_0 := s, H_0 := H, env := env, outer := X.stack, stack := env :: X.stack, ex := [], fn := fun _ => false, calm := true, pn := [], xe := fun _ _ => False }
section
variable {X : Cx} {pins : List (Addr × Obj)} {σ : St} {H : Hp} {s : Shared}
theorem lam_inv {A : Around} {f cw : Addr} {cd : Value} {qual x y : Str} {scope : Scope} {n : Int} {t : Tok} {wl : V} {u : Value} {h1 : Heap} {tk : Nat}
  (I : Inv X pins σ H s) (hA : A.frames = some X.stack) (hh : A.handled = none) (hk : scope.kind = .function) (hx : scope.names.lookup x = some .local) (hy : scope.names.lookup y = some .free)
  (hnc : ∀ z ∈ scope.names, z.2 ≠ .cell) (hfr : ∀ z, scope.names.lookup z = some .free → z = y) (hcell : s.heap.IsCell cw (some u)) (ru : RelV wl u) (hHc : H cw = none)
  (hns : h1.Ns s.heap.objs.size (fun z => ([(x, Value.int n t)] : List (Str × Value)).reverse.lookup z)) (hkp : ∀ b o, s.heap.get? b = some o → h1.get? b = some o) :
  Inv (lamCx X A s H (PySem.W.envX qual scope s.heap.objs.size f cd [(y, cw)]) [x, y]) [] [some (.int n), some wl] H { s with heap := h1, toks := tk } := by
 have e0 := I.env0
 have noA : ∀ b : Addr, b ∉ ([] : List Addr) := fun b z => absurd z (by simp)
 have lk : ∀ z c, ([(y, cw)] : List (Str × Addr)).lookup z = some c → z = y ∧ c = cw := fun z c e => by
  rw [List.lookup_cons] at e
  cases q : z == y with
  | true =>
   rw [q] at e
   exact ⟨beq_iff_eq.mp q, (Option.some.inj e).symm⟩
  | false =>
   rw [q] at e
   cases e
 have ly : ([(y, cw)] : List (Str × Addr)).lookup y = some cw := by
  rw [List.lookup_cons, beq_self_eq_true]
 obtain ⟨oc, eoc, doc⟩ := id hcell
 have hcell1 : h1.IsCell cw (some u) := ⟨oc, hkp _ _ eoc, doc⟩
 refine ⟨⟨I.ok.mod, hk, rfl, rfl, Nat.le_refl _, fun z z' c q1 q2 => ?_, fun z hz => ?_, fun z c q => absurd (show false = true from q) Bool.false_ne_true, fun _ => hh, Around.frames_deeper hA, .inr ⟨rfl, rfl⟩, fun b z => absurd z (noA b), e0.bs, e0.bsz, fun b _ _ => noA b, fun b z => absurd z (noA b), e0.funs, e0.frf⟩,
  rfl, I.bare, Un.kept hkp, ⟨_, hns, fun i z v q1 q2 q3 => ?_⟩, fun z c q => ?_, I.hok.fresh (Nat.le_refl _), fun z c q => ?_, fun p hp => absurd (show p ∈ ([] : List (Addr × Obj)) from hp) (by simp), I.hok.kept hkp, rfl⟩
 ·rw [(lk z c q1).1, (lk z' c q2).1]
 ·have hz : scope.names.lookup z = some .cell ∨ scope.names.lookup z = some .free := hz
  rcases hz with hz | hz
  ·exact absurd rfl (hnc _ (PySem.mem_of_lookup hz))
  ·rw [hfr z hz]
   exact ⟨cw, ly⟩
 ·match i, q1, q2 with
  | 0, q1, q2 =>
   obtain rfl : x = z := Option.some.inj q1
   obtain rfl : V.int n = v := Option.some.inj (Option.some.inj q2)
   refine ⟨.int n t, ⟨t, rfl⟩, .inl ⟨hx, ?_⟩⟩
   show ([(x, Value.int n t)] : List (Str × Value)).lookup x = _
   rw [List.lookup_cons, beq_self_eq_true]
  | 1, q1, q2 =>
   obtain rfl : y = z := Option.some.inj q1
   obtain rfl : wl = v := Option.some.inj (Option.some.inj q2)
   exact ⟨u, ru, .inr ⟨.inr hy, cw, ly, hcell1⟩⟩
  | i + 2, q1, q2 => exact absurd q1 (by simp [lamCx])
 ·obtain ⟨_, rfl⟩ := lk z c q
  exact ⟨_, hcell1⟩
 ·obtain ⟨_, rfl⟩ := lk z c q
  exact hHc
theorem lam_run {A : Around} {E : Value → Shared → Prop} {f c' cw : Addr} {qual x y : Str} {params : Arguments} {body : Expr} {scope : Scope} {pm ctv : Value} {n : Int} {t : Tok} {wl : V} {u : Value} {te : TE} {Q : VK}
  (I : Inv X pins σ H s) (hA : A.frames = some X.stack) (hh : A.handled = none) (hd : A.depth < recursionLimit)
  (ho : s.heap.get? f = some (PySem.W.kla_obj "<lambda>" qual params body scope [(y, cw)] pm c' ctv)) (hcd : s.heap.CodeRec (.ref c') qual)
  (hbind : bindArgs (PySem.W.kla_fn "<lambda>" qual params body scope [(y, cw)] pm (.ref c') ctv) ⟨[.int n t], []⟩ = pure [(x, .int n t)])
  (hk : scope.kind = .function) (hco : scope.isCoroutine = false) (hgen : scope.isGenerator = false) (hx : scope.names.lookup x = some .local) (hy : scope.names.lookup y = some .free)
  (hnc : ∀ z ∈ scope.names, z.2 ≠ .cell) (hfr : ∀ z, scope.names.lookup z = some .free → z = y) (hcell : s.heap.IsCell cw (some u)) (ru : RelV wl u) (hHc : H cw = none)
  (hbody : PE (lamCx X A s H (PySem.W.envX qual scope s.heap.objs.size f (.ref c') [(y, cw)]) [x, y]) body te) (ht : te [some (.int n), some wl] H Q) :
  wpAny (model X.prog X.w) A (call (.ref f) [.int n t]) (EP X pins σ Q) E s := by
 have main : codeAny (model X.prog X.w) A (.call (.ref f) ⟨[.int n t], []⟩) (fun r s' => match r with | .ok (.ret v) => CE X.stack X.prog X.w H s Q v s' | .ok _ => False | .error _ => False) s := by
  refine PySem.W.kla_callFunE hd ho rfl hco hgen rfl hcd ?_
  rw [hbind]
  refine wpAny_pure (wpAny_newFunctionEnv hnc (fun z hz => ?_) (fun h1 hns hsb => ⟨I.nolimit.fresh _ hsb, ?_⟩) hk)
  ·obtain rfl : z = (x, Value.int n t) := by simpa using hz
   exact hx
  ·show codeAny _ _ (.expr body (PySem.W.envX qual scope s.heap.objs.size f (.ref c') [(y, cw)])) _ _
   have hkp : ∀ b o, s.heap.get? b = some o → h1.get? b = some o := fun b o e => hsb.extBut b o (Nat.ne_of_lt (Heap.lt_size e)) (Heap.get?_push_of_some _ e)
   have J := lam_inv (A := A) (f := f) (cd := .ref c') (qual := qual) (tk := s.toks + 1) I hA hh hk hx hy hnc hfr hcell ru hHc hns hkp
   refine PySem.W.kla_codeExpr (wpAny_mono (hbody [] _ _ _ _ J ht) (fun v s' hq => ?_) fun _ _ z => False.elim z)
   obtain ⟨v', H', J', r, q⟩ := hq
   exact ⟨v', H', J'.os, J'.bare, J'.base, J'.hok, r, q⟩
 refine wpAny_call (codeAny_mono main fun r s' hq => ?_)
 cases r with
 | error e => exact False.elim hq
 | ok fl =>
  cases fl with
  | ret u => exact I.after hq
  | next => exact False.elim hq
  | brk => exact False.elim hq
  | cont => exact False.elim hq
end
abbrev exact (a : Addr) (o : Obj) : HO := .ext fun h => h.get? a = some o
abbrev codeO (c : Addr) (qual : Str) : HO := .ext fun h => h.CodeRec (.ref c) qual
def Tab (P : Addr) (pos : Pos) (qual : Str) (H : Hp) : Prop :=
 H P = some (.tbl #[]) ∨ ∃ c, H P = some (.tbl #[rawInt pos.line, rawInt pos.col, .ref c]) ∧ H c = some (codeO c qual)
theorem exact_ok {Pg : Program} {w : World} {H : Hp} {h : Heap} {a : Addr} {o : Obj} (e : h.get? a = some o) : ObjOk Pg w H h a (exact a o) := ⟨e, ⟨o, e⟩, fun _ _ p k => k _ p⟩
theorem code_ok {Pg : Program} {w : World} {H : Hp} {h : Heap} {c : Addr} {qual : Str} (e : h.CodeRec (.ref c) qual) : ObjOk Pg w H h c (codeO c qual) := by
 refine ⟨e, ?_, fun h1 h2 p k => ?_⟩
 ·obtain ⟨c1, oc, vs, t, e1, e2, _⟩ := e
  cases e1
  exact ⟨oc, e2⟩
 ·obtain ⟨c1, oc, vs, t, e1, e2, r⟩ := p
  cases e1
  exact ⟨c, oc, vs, t, rfl, k _ e2, r⟩
section
variable {X : Cx} {pins : List (Addr × Obj)} {σ : St} {H : Hp} {s : Shared}
theorem lam_make {c P cw : Addr} {x y : Str} {params : Arguments} {body : Expr} {scope : Scope} {pos : Pos} {E : Value → Shared → Prop} (I : Inv X pins σ H s) (hcode : X.env.code = .ref c) (C : PySem.W.CodeHd X.base c P) (hB : X.base.BuiltinsAt X.mg P)
  (tab : Tab P pos (X.env.qual ++ "<lambda>") H) (hdef : defaultsOf params X.env = ([], [])) (hsc : scope.names = [(x, .local), (y, .free)]) (hcw : X.env.cells.lookup y = some cw) :
  wpAny (model X.prog X.w) X.A (eval (.Lambda params body scope pos) X.env) (fun v s' => ∃ (f c' : Addr) (H' : Hp) (pm ctv : Value), v = .ref f ∧ Inv X pins σ H' s' ∧ H f = none ∧
   H' f = some (exact f (PySem.W.kla_obj "<lambda>" (X.env.qual ++ "<lambda>") params body scope [(y, cw)] pm c' ctv)) ∧ H' c' = some (codeO c' (X.env.qual ++ "<lambda>")) ∧ Tab P pos (X.env.qual ++ "<lambda>") H' ∧ ∀ b o, H b = some o → b ≠ P → H' b = some o) E s := by
 have hcl : closureFor scope X.env = pure [(y, cw)] := by
  rw [closure_ok fun z hz hf => ?_]
  ·rw [hsc]
   show pure (cloFrom X.env.cells [(x, NameKind.local), (y, .free)] []) = _
   have e : cloFrom X.env.cells [(x, NameKind.local), (y, .free)] [] = [(y, (X.env.cells.lookup y).getD 0)] := rfl
   rw [e, hcw]
   all_goals rfl
  ·rw [hsc] at hz
   rcases List.mem_cons.mp hz with q | q
   ·rw [q] at hf
    cases hf
   ·rw [List.mem_singleton.mp q]
    exact ⟨cw, hcw⟩
 have hg : s.heap.Ns mainGlobals X.mg := I.mod.glob.keeps I.bk
 have C1 : PySem.W.CodeHd s.heap c P := C.keeps I.bk
 have hB1 : s.heap.BuiltinsAt X.mg P := by
  obtain ⟨bm, o, b1, b2, b3, b4, b5, r⟩ := hB
  exact ⟨bm, o, b1, b2, b3, b4, I.bk _ _ b5, r⟩
 refine PySem.W.kla_eval hdef ?_
 rcases tab with tb | ⟨c', tb, tc⟩
 ·have hP : s.heap.get? P = some (PySem.W.tabObj #[]) := I.hok P _ tb
  have hgP : mainGlobals ≠ P := fun q => by
   obtain ⟨o, es, ep, e, hd, _⟩ := hg
   rw [q, hP] at e
   cases e
   cases hd
  refine PySem.W.kla_makeFunction (mg := X.mg) hcl I.ok.glob hg hcode C1 hP trivial rfl hgP hB1 fun c' ctv h' tk hx hge hlt hrec htb => ?_
  have nP : ∀ {b : Addr}, H b = none → b ≠ P := fun {b} e z => by rw [z, tb] at e; cases e
  have kp : ∀ b o, b ≠ P → s.heap.get? b = some o → (h'.push (PySem.W.kla_obj "<lambda>" (X.env.qual ++ "<lambda>") params body scope [(y, cw)] ((X.mg "__name__").getD .none) c' ctv)).get? b = some o := fun b o hb e => Heap.get?_push_of_some _ (hx b o hb e)
  have hsz : s.heap.objs.size ≤ h'.objs.size := Nat.le_trans hge (Nat.le_of_lt hlt)
  have hc' : H c' = none := I.hok.fresh hge
  have hf' : H h'.objs.size = none := I.hok.fresh hsz
  have ncP : c' ≠ P := nP hc'
  have nfP : h'.objs.size ≠ P := nP hf'
  have ncf : c' ≠ h'.objs.size := Nat.ne_of_lt hlt
  let H' : Hp := upd (upd (upd H P (.tbl #[rawInt pos.line, rawInt pos.col, .ref c'])) c' (codeO c' (X.env.qual ++ "<lambda>"))) h'.objs.size (exact h'.objs.size (PySem.W.kla_obj "<lambda>" (X.env.qual ++ "<lambda>") params body scope [(y, cw)] ((X.mg "__name__").getD .none) c' ctv))
  have old : ∀ b o, H b = some o → b ≠ P → H' b = some o := fun b o e hb => by
   show upd _ _ _ b = _
   rw [upd_ne (ne_of_none e hf'), upd_ne (ne_of_none e hc'), upd_ne hb]
   exact e
  have hf2 : H' h'.objs.size = some _ := upd_same
  have hc2 : H' c' = some (codeO c' (X.env.qual ++ "<lambda>")) := by
   show upd _ _ _ c' = _
   rw [upd_ne ncf, upd_same]
  have hP2 : H' P = some (.tbl #[rawInt pos.line, rawInt pos.col, .ref c']) := by
   show upd _ _ _ P = _
   rw [upd_ne nfP.symm, upd_ne ncP.symm, upd_same]
  have non : ∀ b, H b = none → b ≠ c' → b ≠ h'.objs.size → H' b = none := fun b e q1 q2 => by
   show upd _ _ _ b = _
   rw [upd_ne q2, upd_ne q1, upd_ne (nP e)]
   exact e
  have lt' : ∀ b o, s.heap.get? b = some o → b ≠ c' ∧ b ≠ h'.objs.size := fun b o e => ⟨Nat.ne_of_lt (Nat.lt_of_lt_of_le (Heap.lt_size e) hge), Nat.ne_of_lt (Nat.lt_of_lt_of_le (Heap.lt_size e) hsz)⟩
  refine ⟨h'.objs.size, c', H', (X.mg "__name__").getD .none, ctv, rfl, ?_, hf', hf2, hc2, .inr ⟨c', hP2, hc2⟩, old⟩
  refine I.step (g' := s.gens) (d' := s.drawn) (t' := tk) (ch := []) (fun _ z => nomatch z) (fun b o _ _ _ e n => kp b o (nP n) e) (fun b o _ _ _ e n => ⟨o.slots, kp b o (nP n) e⟩) (fun b o _ e n => non b n (lt' b o e).1 (lt' b o e).2) (fun b o _ e => ?_)
   (fun b xs e => old b _ e (fun z => by rw [z, tb] at e; cases e)) (fun b o v e => old b _ e (fun z => by rw [z, tb] at e; cases e)) (fun b ps e => ?_) (fun m hm => ?_) (fun b v e => ?_) I.bare
  ·by_cases hb : b = P
   ·rw [hb]
    exact ⟨_, Heap.get?_push_of_some _ htb⟩
   ·exact ⟨o, kp b o hb e⟩
  ·by_cases hb : b = P
   ·rw [hb, tb] at e
    cases e
    exact ⟨#[rawInt pos.line, rawInt pos.col, .ref c'], by rw [hb, hP2]; rfl⟩
   ·exact ⟨#[], by rw [old b _ e hb]; simp⟩
  ·obtain ⟨o, es, ep, e, r⟩ := hm
   exact ⟨o, es, ep, kp _ o (nP I.free) e, r⟩
  ·by_cases h1 : b = h'.objs.size
   ·rw [h1, hf2] at e
    cases e
    rw [h1]
    exact exact_ok (Heap.get?_push_size _ rfl)
   ·by_cases h2 : b = c'
    ·rw [h2, hc2] at e
     cases e
     rw [h2]
     refine code_ok ?_
     obtain ⟨c1, oc, vs, t, e1, e2, r⟩ := hrec
     exact ⟨c1, oc, vs, t, e1, Heap.get?_push_of_some _ e2, r⟩
    ·by_cases h3 : b = P
     ·rw [h3, hP2] at e
      cases e
      rw [h3]
      exact Heap.get?_push_of_some _ htb
     ·have e2 : H b = some v := by
       have e3 : upd _ _ _ b = some v := e
       rw [upd_ne h1, upd_ne h2, upd_ne h3] at e3
       exact e3
      refine (I.hok b v e2).stay (fun d w' hd q => kp d w' ?_ q) (fun d q => old d _ q (fun z => by rw [z, tb] at q; cases q)) fun d xs q => old d _ q (fun z => by rw [z, tb] at q; cases q)
      rcases hd with z | z
      ·rw [z]
       exact h3
      ·intro z2
       rw [z2, tb] at z
       cases z
 ·have hP : s.heap.get? P = some (PySem.W.tabObj #[rawInt pos.line, rawInt pos.col, .ref c']) := I.hok P _ tb
  have hfind : codeAmong pos (#[rawInt pos.line, rawInt pos.col, .ref c'] : Array Value).toList = some (.ref c') := codeAmong_snoc (pos := pos) (c := .ref c') [] trivial rfl
  refine PySem.W.kla_makeFunctionHit (mg := X.mg) hcl I.ok.glob hg hcode C1 hP trivial hfind hB1 fun ctv h' tk hk hsz => ?_
  have hf' : H h'.objs.size = none := I.hok.fresh hsz
  have ncf : c' ≠ h'.objs.size := ne_of_none tc hf'
  refine ⟨h'.objs.size, c', upd H h'.objs.size (exact h'.objs.size (PySem.W.kla_obj "<lambda>" (X.env.qual ++ "<lambda>") params body scope [(y, cw)] ((X.mg "__name__").getD .none) c' ctv)), (X.mg "__name__").getD .none, ctv, rfl,
   I.laid (fun b u e => Heap.get?_push_of_some _ (hk b u e)) hsz (exact_ok (Heap.get?_push_size _ rfl)), hf', upd_same, (by rw [upd_ne ncf]; exact tc), .inr ⟨c', by rw [upd_ne (ne_of_none tb hf')]; exact tb, by rw [upd_ne ncf]; exact tc⟩, fun b o e _ => by rw [upd_ne (ne_of_none e hf')]; exact e⟩
end
abbrev noStr : Nat → Bool := fun _ => false
abbrev inls (k : List Int) : List (Int ⊕ List Nat) := k.map Sum.inl
theorem tupItems_ints : ∀ (k : List Int) (us : List Value) (i : Nat), Vals (k.map V.int) us → tupItems noStr i us = some (inls k)
 | [], us, i, h => by
  cases h
  rfl
 | a :: r, us, i, h => by
  cases h with
  | cons h1 h2 =>
   obtain ⟨t, rfl⟩ := h1
   show (if noStr i = true then none else (tupItems noStr (i + 1) _).map (Sum.inl a :: ·)) = _
   rw [if_neg Bool.false_ne_true, tupItems_ints r _ (i + 1) h2]
   all_goals rfl
theorem key_at {h : Heap} {a : Addr} {us : List Value} {k : List Int} (e : IsTup h a us.toArray) (r : Vals (k.map V.int) us) : G.tupKeyC h noStr (.ref a) = some (inls k) := by
 obtain ⟨o, ho, hc, n, hd⟩ := e
 unfold G.tupKeyC
 have e1 : G.isTupObj h (.ref a) = true := by simp [G.isTupObj, ho, hc]
 rw [if_pos e1]
 simp only [tupKey, ho, hd]
 exact tupItems_ints k us 0 r
theorem vals_num : ∀ {ps : List Keyed}, (∀ p ∈ ps, ∃ n t, p.2 = Value.int n t) → Vals ((ps.map fun p => numOf p.2).map V.int) (ps.map (·.2))
 | [], _ => .nil
 | p :: r, h => by
  obtain ⟨n, t, e⟩ := h p (List.mem_cons_self ..)
  refine .cons ?_ (vals_num fun q hq => h q (List.mem_cons_of_mem _ hq))
  show RelV (V.int (numOf p.2)) p.2
  rw [e]
  exact ⟨t, rfl⟩
theorem refs_eq : ∀ {ts : List Addr} {us : List Value}, Vals (ts.map V.ref) us → us = ts.map Value.ref
 | [], _, h => by
  cases h
  rfl
 | a :: r, _, h => by
  cases h with
  | cons h1 h2 =>
   obtain rfl : _ = Value.ref a := h1
   rw [refs_eq h2]
   all_goals rfl
theorem int_at {ns : List Int} {its : List Value} (r : Vals (ns.map V.int) its) {j : Nat} {x : Value} (h : its[j]? = some x) : ∃ n t, ns[j]? = some n ∧ x = .int n t := by
 have hj : j < ns.length := by
  have h1 := (List.getElem?_eq_some_iff.mp h).1
  have h2 := r.length
  rw [List.length_map] at h2
  omega
 obtain ⟨u, e1, e2⟩ := r.get (i := j) (x := V.int ns[j]) (by rw [List.getElem?_map, List.getElem?_eq_getElem hj]; rfl)
 rw [e1] at h
 obtain rfl := Option.some.inj h
 obtain ⟨t, e3⟩ := e2
 exact ⟨ns[j], t, List.getElem?_eq_getElem hj, e3⟩
theorem zip_at {α β : Type} : ∀ {l : List α} {m : List β} {p : α × β}, p ∈ l.zip m → ∃ j : Nat, l[j]? = some p.1 ∧ m[j]? = some p.2
 | [], _, p, h => by simp at h
 | _ :: _, [], p, h => by simp at h
 | a :: l, b :: m, p, h => by
  rw [List.zip_cons_cons] at h
  rcases List.mem_cons.mp h with e | h
  ·rw [e]
   exact ⟨0, rfl, rfl⟩
  ·obtain ⟨j, e1, e2⟩ := zip_at h
   exact ⟨j + 1, e1, e2⟩
theorem out3 {h : Heap} {key : Int → List Int} {ts : List Addr} {its : List Value} {ns : List Int} (rv : Vals (ns.map V.int) its) (hlen : ts.length = ns.length)
  (hk : ∀ (j : Nat) t n, ts[j]? = some t → ns[j]? = some n → G.tupKeyC h noStr (.ref t) = some (inls (key n))) {arr : Array Keyed} (hp : arr.Perm ((ts.map Value.ref).toArray.zip its.toArray)) (hs : SortedToK (G.tupKindC h noStr) arr arr.size) :
  ∃ ns' : List Int, ns'.Perm ns ∧ Vals (ns'.map V.int) (arr.map (·.2)).toList ∧ ns'.Pairwise (fun a b => lexLt itemOrd (inls (key b)) (inls (key a)) = false) := by
 have hlv := rv.length
 rw [List.length_map] at hlv
 have hl : arr.toList.Perm ((ts.map Value.ref).zip its) := by
  have e := Array.perm_iff_toList_perm.mp hp
  have e2 : ((ts.map Value.ref).toArray.zip its.toArray).toList = (ts.map Value.ref).zip its := by simp
  rw [e2] at e
  exact e
 have each : ∀ p ∈ arr.toList, ∃ n t, p.2 = Value.int n t ∧ G.tupKeyC h noStr p.1 = some (inls (key n)) := fun p hm => by
  obtain ⟨j, e1, e2⟩ := zip_at (hl.mem_iff.mp hm)
  obtain ⟨n, t, e3, e4⟩ := int_at rv e2
  rw [List.getElem?_map] at e1
  cases e5 : ts[j]? with
  | none =>
   rw [e5] at e1
   cases e1
  | some a =>
   rw [e5] at e1
   have e6 : Value.ref a = p.1 := Option.some.inj e1
   exact ⟨n, t, e4, by rw [← e6]; exact hk j a n e5 e3⟩
 refine ⟨arr.toList.map fun p => numOf p.2, ?_, ?_, ?_⟩
 ·have e1 := hl.map (fun p : Keyed => numOf p.2)
  have e2 : ((ts.map Value.ref).zip its).map (fun p : Keyed => numOf p.2) = ns := by
   have e3 : ((ts.map Value.ref).zip its).map (fun p : Keyed => numOf p.2) = (((ts.map Value.ref).zip its).map Prod.snd).map numOf := by
    rw [List.map_map]
    all_goals rfl
   rw [e3, List.map_snd_zip (by rw [List.length_map]; omega)]
   exact rv.ints.nums
  rw [e2] at e1
  exact e1
 ·rw [Array.toList_map]
  exact vals_num fun p hm => by
   obtain ⟨n, t, e, _⟩ := each p hm
   exact ⟨n, t, e⟩
 ·rw [List.pairwise_map, List.pairwise_iff_getElem]
  intro i j hi hj hij
  have hj' : j < arr.size := by simpa using hj
  have hi' : i < arr.size := by simpa using hi
  have q := hs i j (Nat.le_of_lt hij) hj'
  have kk : ∀ (m : Nat) (hm : m < arr.toList.length), KK (G.tupKindC h noStr) arr m = inls (key (numOf arr.toList[m].2)) := fun m hm => by
   obtain ⟨n, t, e1, e2⟩ := each arr.toList[m] (List.getElem_mem hm)
   have hm' : m < arr.size := by simpa using hm
   have e3 : arr[m]? = some arr.toList[m] := by simp [hm']
   unfold KK
   rw [e3]
   show ((G.tupKeyC h noStr arr.toList[m].1).getD []) = _
   rw [e2, e1]
   all_goals rfl
  rw [kk i hi, kk j hj] at q
  exact q
section
variable {X : Cx} {pins : List (Addr × Obj)} {σ : St} {H : Hp} {s : Shared} {A : Around} {E : Value → Shared → Prop}
theorem Inv.exactTo {D : Addr} {o : Obj} {ys : List V} {its' : List Value} {n : Nat} {xs : Array Value} {f : Array Value → Array Value} {t' : Nat} (I : Inv X pins σ H s) (hD : H D = some (exact D o)) (ho : o = seqObj "list" xs n) (hf : f xs = its'.toArray) (hv : Vals ys its') (hz : ys.length ≤ sizeLine) :
  Inv X pins σ (upd H D (.lst ys)) { s with heap := s.heap.update D (Obj.mapSeq f), toks := t' } := by
 have e : s.heap.get? D = some (seqObj "list" xs n) := by
  rw [← ho]
  exact (I.hok D _ hD).1
 have q := get?_update_seq e f
 rw [hf] at q
 refine I.write (x := D) (e := D) (by rw [hD]; exact trivial) (.inl rfl) (fun b u hb hu => (Heap.get?_update_other s.heap (Obj.mapSeq f) (Ne.symm hb)).trans hu) ⟨_, q⟩ ?_
 exact ⟨hz, its', _, hv, q⟩
theorem tail3 {D kS : Addr} {e1 : Nat} {ks : List V} {st : SortSt} {ns' : List Int} {P : PySem.Fin → Shared → Prop} (I : Inv X pins σ H s) (hkS : H kS = some (.lst ks)) (hD : H D = some (exact D (seqObj "list" #[] e1))) (hne : kS ≠ D) (hfl : failedOf st = none)
  (hv : Vals (ns'.map V.int) ((arrOf st).map (·.2)).toList) (hz : ns'.length ≤ sizeLine) (q : ∀ s', Inv X pins σ (upd (upd H kS (.lst [])) D (.lst (ns'.map V.int))) s' → P (.done (.ret .none)) s') : wpAny (model X.prog X.w) A (ksk_tail D false e1 (.ref kS) st) P E s := by
 obtain ⟨z, its, n, r, hl, e⟩ := I.lstM hkS
 have I1 := I.lset (its' := []) (ys := []) (f := fun _ => #[]) (t' := s.toks) hkS e rfl .nil (Nat.zero_le _)
 have hD1 : upd H kS (.lst []) D = some (exact D (seqObj "list" #[] e1)) := by
  rw [upd_ne hne.symm]
  exact hD
 have eD : (s.heap.update kS (Obj.mapSeq fun _ => (#[] : Array Value))).get? D = some (seqObj "list" #[] e1) := (I1.hok D _ hD1).1
 have hsz : ((arrOf st).map (·.2)).size = ns'.length := by
  have h1 := hv.length
  rw [List.length_map, Array.length_toList] at h1
  exact h1.symm
 have lr := r.length
 unfold ksk_tail
 try dsimp only
 refine wpAny_bind (listUpdate_at e rfl ?_ (by rw [List.size_toArray]; omega) (Nat.zero_le _))
 refine wpAny_bind (wpAny_letGo ?_)
 refine wpAny_bind (seqEpoch_at eD rfl ?_)
 refine wpAny_bind (listUpdate_at eD rfl ?_ (Nat.zero_le _) (by show ((arrOf st).map (·.2)).size ≤ _; rw [hsz]; omega))
 rw [hfl]
 simp only [bne_self_eq_false, Bool.false_eq_true, if_false]
 exact wpAny_pure (q _ (Inv.exactTo (its' := ((arrOf st).map (·.2)).toList) (t' := s.toks) I1 hD1 rfl (by show (arrOf st).map (·.2) = ((arrOf st).map (·.2)).toList.toArray; rw [Array.toArray_toList]) hv (by rw [List.length_map]; exact hz)))
theorem end3 {D kS : Addr} {e1 : Nat} {key : Int → List Int} {ts : List Addr} {its : List Value} {ns : List Int} {P : PySem.Fin → Shared → Prop} (I : Inv X pins σ H s) (hkS : H kS = some (.lst (ts.map V.ref))) (hD : H D = some (exact D (seqObj "list" #[] e1))) (hne : kS ≠ D)
  (rv : Vals (ns.map V.int) its) (hlen : ts.length = ns.length) (hz : ns.length ≤ 1000) (hk0 : ∀ n, key n ≠ []) (hts : ∀ (j : Nat) t n, ts[j]? = some t → ns[j]? = some n → H t = some (.tup ((key n).map V.int)))
  (q : ∀ (ns' : List Int) s', ns'.Perm ns → ns'.Pairwise (fun a b => lexLt itemOrd (inls (key b)) (inls (key a)) = false) → Inv X pins σ (upd (upd H kS (.lst [])) D (.lst (ns'.map V.int))) s' → P (.done (.ret .none)) s') :
  wpAny (model X.prog X.w) A (ksk_end D false its.toArray e1 (.ref kS) (ts.map Value.ref).toArray) P E s := by
 have hlv := rv.length
 rw [List.length_map] at hlv
 have hsz : its.toArray.size = ns.length := by rw [List.size_toArray]; exact hlv.symm
 have hline : ns.length ≤ sizeLine := Nat.le_trans hz (by decide)
 have hkeys : ∀ (j : Nat) t n, ts[j]? = some t → ns[j]? = some n → G.tupKeyC s.heap noStr (.ref t) = some (inls (key n)) := fun j t n e1 e2 => by
  obtain ⟨us, r, ht, _⟩ := I.tuple (SqT.of (hts j t n e1 e2))
  exact key_at ht r
 have fin : ∀ st : SortSt, (arrOf st).Perm ((ts.map Value.ref).toArray.zip its.toArray) → failedOf st = none → SortedToK (G.tupKindC s.heap noStr) (arrOf st) (arrOf st).size → wpAny (model X.prog X.w) A (ksk_tail D false e1 (.ref kS) st) P E s := fun st hp hf hs => by
  obtain ⟨ns', p1, p2, p3⟩ := out3 rv hlen hkeys hp hs
  exact tail3 I hkS hD hne hf p2 (by rw [p1.length_eq]; exact hline) fun s' J => q ns' s' p1 p3 J
 have hzs : ((ts.map Value.ref).toArray.zip its.toArray).size = ns.length := by
  rw [Array.size_zip, List.size_toArray, List.length_map, hsz, hlen, Nat.min_self]
 unfold ksk_end
 try dsimp only
 rw [if_neg Bool.false_ne_true]
 by_cases h2 : its.toArray.size < 2
 ·rw [if_pos h2, if_pos h2]
  refine wpAny_bind (wpAny_pure ?_)
  rw [StateT.run_pure]
  refine wpAny_bind (wpAny_pure ?_)
  try dsimp only
  refine fin (SortSt.mk' general' ((ts.map Value.ref).toArray.zip its.toArray) #[] 7 none) (Array.Perm.refl _) rfl ?_
  intro i j hij hj
  have hj2 : j < ((ts.map Value.ref).toArray.zip its.toArray).size := hj
  have : i = j := by omega
  subst this
  exact KeyOrd.kle_refl _
 ·rw [if_neg h2, if_neg h2]
  have hfirst : ∃ fs, TupsOf s.heap noStr (ts.map Value.ref) fs := by
   have all : ∀ (l : List Addr), (∀ t ∈ l, ∃ n, H t = some (.tup ((key n).map V.int))) → ∃ fs, TupsOf s.heap noStr (l.map Value.ref) fs := by
    intro l
    induction l with
    | nil => exact fun _ => ⟨[], .nil⟩
    | cons t r ih =>
     intro h
     obtain ⟨n, hn⟩ := h t (List.mem_cons_self ..)
     obtain ⟨fs, hfs⟩ := ih fun u hu => h u (List.mem_cons_of_mem _ hu)
     obtain ⟨us, r1, ⟨o, ho, hc, m, hd⟩, _⟩ := I.tuple (SqT.of hn)
     cases hkn : key n with
     | nil => exact absurd hkn (hk0 n)
     | cons k0 kr =>
      rw [hkn] at r1
      cases r1 with
      | cons a1 a2 =>
       obtain ⟨tk, rfl⟩ := a1
       exact ⟨_ :: fs, .cons ⟨t, o, _, m, rfl, ho, hc, hd, rfl, fun _ => ⟨_, _, rfl⟩, fun z => absurd z Bool.false_ne_true⟩ hfs⟩
   refine all ts fun t ht => ?_
   obtain ⟨j, e⟩ := List.mem_iff_getElem?.mp ht
   have hj : j < ns.length := by
    have := (List.getElem?_eq_some_iff.mp e).1
    omega
   exact ⟨ns[j], hts j t _ e (List.getElem?_eq_getElem hj)⟩
  obtain ⟨fs, hfs⟩ := hfirst
  have hfl : fs.length = ts.length := by
   have e := G.TupsOf.length hfs
   rw [List.length_map] at e
   exact e
  refine wpAny_bind (tup_kind (shape := noStr) (by omega) hfs ?_)
  try dsimp only
  refine wpAny_bind (wpAny_mono (G.wpS_sortRunsSt (κ := G.tupKindC s.heap noStr) (kd := tuples' true) (a₀ := (ts.map Value.ref).toArray.zip its.toArray) (st := SortSt.mk' (tuples' true) ((ts.map Value.ref).toArray.zip its.toArray) #[] 7 none)
   (Q := fun _ st' => (arrOf st').Perm ((ts.map Value.ref).toArray.zip its.toArray) ∧ failedOf st' = none ∧ SortedToK (G.tupKindC s.heap noStr) (arrOf st') ((ts.map Value.ref).toArray.zip its.toArray).size)
   (G.tupC_ltAt true (G.KeepsTups.refl _)) (fun p hp => ?_) ⟨Array.Perm.refl _, rfl, rfl⟩ rfl (Stable.refl _) (by rw [hzs]; omega) fun st' a1 a2 a3 _ => ⟨a1, a2, a3⟩) ?_ fun _ _ e => e)
  ·have e2 : ((ts.map Value.ref).toArray.zip its.toArray).toList = (ts.map Value.ref).zip its := by simp
   rw [e2] at hp
   obtain ⟨j, q1, q2⟩ := zip_at hp
   obtain ⟨n, t, q3, q4⟩ := int_at rv q2
   rw [List.getElem?_map] at q1
   cases q5 : ts[j]? with
   | none =>
    rw [q5] at q1
    cases q1
   | some a =>
    rw [q5] at q1
    have e6 : Value.ref a = p.1 := Option.some.inj q1
    refine ⟨inls (key n), ?_⟩
    rw [← e6]
    exact hkeys j a n q5 q3
  ·rintro ⟨⟨⟩, st'⟩ s' ⟨rfl, hp, hf, hs⟩
   try dsimp only
   exact fin st' hp hf (by rw [hp.size_eq]; exact hs)
theorem rest3 {D kS f : Addr} {e1 : Nat} {key : Int → List Int} {its : List Value} {ns : List Int} {P : PySem.Fin → Shared → Prop} (I : Inv X pins σ H s) (hkS : H kS = some (.lst [])) (hD : H D = some (exact D (seqObj "list" #[] e1))) (hne : kS ≠ D)
  (rv : Vals (ns.map V.int) its) (hz : ns.length ≤ 1000) (hk0 : ∀ n, key n ≠ [])
  (turn : ∀ n ∈ ns, ∀ (t : Tok) (H2 : Hp) (s2 : Shared), Inv X pins σ H2 s2 → (∀ b o, H b = some o → b ≠ kS → H2 b = some o) → wpAny (model X.prog X.w) A (call (.ref f) [.int n t]) (EP X pins σ fun v H3 => ∃ p, v = .ref p ∧ H2 p = none ∧ H3 = upd H2 p (.tup ((key n).map V.int))) (fun _ _ => False) s2)
  (q : ∀ (ns' : List Int) H' s', ns'.Perm ns → ns'.Pairwise (fun a b => lexLt itemOrd (inls (key b)) (inls (key a)) = false) → (∀ b o, H b = some o → b ≠ kS → b ≠ D → H' b = some o) → H' D = some (.lst (ns'.map V.int)) → Inv X pins σ H' s' → P (.done (.ret .none)) s') :
  wpAny (model X.prog X.w) A (ksk_rest D (.ref f) false its.toArray e1 (.ref kS)) P E s := by
 have hlv := rv.length
 rw [List.length_map] at hlv
 unfold ksk_rest
 refine wpAny_bind (wpAny_rule ?_)
 first
  | rw [List.forIn_toArray]
  | (rw [← Array.forIn_toList]; simp only [List.toList_toArray])
 refine wpAny_bind (ksk_fold (fun i s' => ∃ (H' : Hp) (ts : List Addr), Inv X pins σ H' s' ∧ H' kS = some (.lst (ts.map V.ref)) ∧ ts.length = i ∧ (∀ (j : Nat) t n, ts[j]? = some t → ns[j]? = some n → H' t = some (.tup ((key n).map V.int))) ∧ ∀ b o, H b = some o → b ≠ kS → H' b = some o) its 0 s
  ⟨H, [], I, hkS, rfl, fun j t n h => absurd h (by simp), fun _ _ h _ => h⟩ ?step ?done)
 case step =>
  rintro j x s' hx ⟨H', ts, I', hkS', hl', hts, sm⟩
  simp only [Nat.zero_add] at hl' ⊢
  obtain ⟨n, t, hn, rfl⟩ := int_at rv hx
  refine wpAny_bind (wpAny_attempt (wpAny_mono (turn n (List.mem_of_getElem? hn) t H' s' I' sm) (fun v s'' he => ?_) fun _ _ hF => hF.elim))
  obtain ⟨v', H3, I3, r, p, rfl, hp, rfl⟩ := he
  obtain rfl : v = Value.ref p := r
  try dsimp only
  have hkS3 : upd H' p (.tup ((key n).map V.int)) kS = some (.lst (ts.map V.ref)) := by
   rw [upd_ne (ne_of_none hkS' hp)]
   exact hkS'
  obtain ⟨z, its2, n2, r2, hl2, e2⟩ := I3.lstM hkS3
  have lr := r2.length
  rw [List.length_map] at lr
  have hjl : j < ns.length := (List.getElem?_eq_some_iff.mp hn).1
  have hbig : (1001 : Nat) ≤ sizeLine := by decide
  refine wpAny_bind (listUpdate_at e2 rfl ?_ (by rw [List.size_toArray]; omega) (Nat.le_trans (Nat.le_of_eq (Array.size_push ..)) (by rw [List.size_toArray]; omega)))
  refine wpAny_pure ⟨rfl, _, ts ++ [p], I3.lset (its' := its2 ++ [Value.ref p]) (ys := (ts ++ [p]).map V.ref) (t' := s''.toks) hkS3 e2 (by simp) (by rw [List.map_append]; exact r2.append (.cons rfl .nil)) (by rw [List.length_map, List.length_append]; show ts.length + 1 ≤ _; omega), upd_same, by rw [List.length_append, hl']; rfl, fun i u m hi hm => ?_, fun b o hb hbk => ?_⟩
  ·by_cases hij : i < ts.length
   ·rw [List.getElem?_append_left hij] at hi
    have h3 := hts i u m hi hm
    have h4 : u ≠ kS := ne_of h3 hkS' (by intro z; cases z)
    rw [upd_ne h4, upd_ne (ne_of_none h3 hp)]
    exact h3
   ·have hi2 : i = ts.length := by
     have h5 := (List.getElem?_eq_some_iff.mp hi).1
     rw [List.length_append] at h5
     have h6 : i < ts.length + 1 := h5
     omega
    subst hi2
    rw [List.getElem?_append_right (Nat.le_refl _), Nat.sub_self] at hi
    obtain rfl : p = u := Option.some.inj hi
    rw [hl'] at hm
    rw [hn] at hm
    obtain rfl := Option.some.inj hm
    have h4 : p ≠ kS := (ne_of_none hkS' hp).symm
    rw [upd_ne h4, upd_same]
  ·rw [upd_ne hbk, upd_ne (ne_of_none (sm b o hb hbk) hp)]
   exact sm b o hb hbk
 case done =>
  rintro s' ⟨H', ts, I', hkS', hl', hts, sm⟩
  rw [Nat.zero_add] at hl'
  obtain ⟨z, its2, n2, r2, hl2, e2⟩ := I'.lstM hkS'
  have e3 := refs_eq r2
  subst e3
  try dsimp only
  refine wpAny_bind (listItems_at e2 rfl ?_)
  have hD' := sm D _ hD hne.symm
  refine end3 I' hkS' hD' hne rv (by omega) hz hk0 hts fun ns' s2 p1 p2 J => q ns' _ s2 p1 p2 (fun b o hb h1 h2 => ?_) upd_same J
  rw [upd_ne h2, upd_ne h1]
  exact sm b o hb h1
theorem sorted3 {l f : Addr} {key : Int → List Int} {ns : List Int} {Q : VK} (I : Inv X pins σ H s) (hl : H l = some (.lst (ns.map V.int))) (hz : ns.length ≤ 1000) (hk0 : ∀ n, key n ≠ [])
  (turn : ∀ n ∈ ns, ∀ (t : Tok) (H2 : Hp) (s2 : Shared), Inv X pins σ H2 s2 → Same H H2 → wpAny (model X.prog X.w) X.A.in1.in1 (call (.ref f) [.int n t]) (EP X pins σ fun v H3 => ∃ p, v = .ref p ∧ H2 p = none ∧ H3 = upd H2 p (.tup ((key n).map V.int))) (fun _ _ => False) s2)
  (q : ∀ (ns' : List Int) H' D, ns'.Perm ns → ns'.Pairwise (fun a b => lexLt itemOrd (inls (key b)) (inls (key a)) = false) → Same H H' → H D = none → H' D = some (.lst (ns'.map V.int)) → Q (.ref D) H') :
  wpAny (model X.prog X.w) X.A (call (.builtin "sorted") [.ref l] [(Str.ofString "key", .ref f)]) (EP X pins σ Q) E s := by
 obtain ⟨its, rv, hl0, hz0⟩ := I.list (SqL.of hl)
 have hlv := rv.length
 rw [List.length_map] at hlv
 have hbig : (1001 : Nat) ≤ sizeLine := by decide
 refine call_function_entry_kw kind_sorted plain_sorted entry_sorted (ksk_s1 _ _) ?_
 unfold Builtin.«sorted»
 refine wpAny_bind (m := checkCount "sorted" 1 1 _) (wpAny_pure ?_)
 refine wpAny_bind (collect_list hl0.isList ?_ (by omega))
 refine wpAny_bind (wpAny_newList ?_ (by omega))
 have keep : ∀ b o, s.heap.get? b = some o → ((s.heap.push (seqObj "list" #[] 0)).update s.heap.objs.size (Obj.mapSeq (· ++ its.toArray))).get? b = some o := fun b o e => by
  have hlt : b < s.heap.objs.size := Heap.lt_size e
  rw [Heap.get?_update_ne _ _ _ _ (Nat.ne_of_lt hlt), Heap.get?_push_ne _ _ _ (Nat.ne_of_lt hlt)]
  exact e
 have I1 : Inv X pins σ H { s with heap := (s.heap.push (seqObj "list" #[] 0)).update s.heap.objs.size (Obj.mapSeq (· ++ its.toArray)) } := I.kept (t' := s.toks) keep
 generalize (s.heap.push (seqObj "list" #[] 0)).update s.heap.objs.size (Obj.mapSeq (· ++ its.toArray)) = h1 at I1 ⊢
 have I2 : Inv X pins σ (upd H h1.objs.size (.lst (ns.map V.int))) { s with heap := h1.push (seqObj "list" its.toArray 0) } := I1.lnew (t' := s.toks) rv (by rw [List.length_map]; omega)
 have hDn : H h1.objs.size = none := I1.fresh
 have hoD : (h1.push (seqObj "list" its.toArray 0)).get? h1.objs.size = some (seqObj "list" its.toArray 0) := Heap.get?_push_size _ rfl
 show wpAny _ _ _ _ _ { s with heap := h1.push (seqObj "list" its.toArray 0) }
 generalize h1.objs.size = D at hDn hoD I2 ⊢
 generalize h1.push (seqObj "list" its.toArray 0) = h2 at hoD I2 ⊢
 refine wpAny_bind (wpAny_holding (wpAny_call_entry_kw slot_list_sort ⟨_, hoD, rfl⟩ entry_list_sort ?body (ksk_l1 _ _)))
 case body =>
  show wpAny (model X.prog X.w) X.A.in1.in1 (Builtin.«list.sort» ⟨[.ref D], [(Str.ofString "key", .ref f)]⟩) _ _ _
  rw [ksk_t1]
  unfold ksk_tree
  refine wpAny_bind (listItems_at hoD rfl ?_)
  refine wpAny_bind (listUpdate_at hoD rfl ?_ (by rw [List.size_toArray]; omega) (Nat.zero_le _))
  obtain ⟨e1, ho1⟩ : ∃ e1, (h2.update D (Obj.mapSeq fun _ => (#[] : Array Value))).get? D = some (seqObj "list" #[] e1) := ⟨_, get?_update_seq hoD fun _ => #[]⟩
  have I3 : Inv X pins σ (upd (upd H D (.lst (ns.map V.int))) D (exact D (seqObj "list" #[] e1))) { s with heap := h2.update D (Obj.mapSeq fun _ => (#[] : Array Value)) } :=
   I2.write (x := D) (e := D) (t' := s.toks) (by rw [upd_same]; exact trivial) (.inl rfl) (fun b u hb hu => (Heap.get?_update_other h2 _ (Ne.symm hb)).trans hu) ⟨_, ho1⟩ (exact_ok ho1)
  refine wpAny_bind (seqEpoch_at ho1 rfl ?_)
  generalize h2.update D (Obj.mapSeq fun _ => (#[] : Array Value)) = h3 at I3 ⊢
  refine wpAny_bind (wpAny_newTuple ?_ (by simp only [List.toList_toArray]; omega))
  have I4 := I3.kept (h' := h3.push { cls := .type "tuple", data := .seq its.toArray.toList.toArray }) (t' := s.toks) fun b o e => Heap.get?_push_of_some _ e
  generalize h3.push { cls := .type "tuple", data := .seq its.toArray.toList.toArray } = h4 at I4 ⊢
  refine wpAny_bind (wpAny_newList ?_ (Nat.zero_le _))
  have I5 := I4.lnew (ys := []) (its := []) (t' := s.toks) .nil (Nat.zero_le _)
  have hkn := I4.fresh
  have hDD : upd (upd H D (.lst (ns.map V.int))) D (exact D (seqObj "list" #[] e1)) D = some (exact D (seqObj "list" #[] e1)) := upd_same
  have hne : h4.objs.size ≠ D := (ne_of_none hDD hkn).symm
  have hD5 : upd (upd (upd H D (.lst (ns.map V.int))) D (exact D (seqObj "list" #[] e1))) h4.objs.size (.lst []) D = some (exact D (seqObj "list" #[] e1)) := by
   rw [upd_ne hne.symm]
   exact hDD
  have sm5 : ∀ b o, H b = some o → b ≠ h4.objs.size ∧ upd (upd (upd H D (.lst (ns.map V.int))) D (exact D (seqObj "list" #[] e1))) h4.objs.size (.lst []) b = some o := fun b o e => by
   have n1 : b ≠ D := ne_of_none e hDn
   have e2 : upd (upd H D (.lst (ns.map V.int))) D (exact D (seqObj "list" #[] e1)) b = some o := by
    rw [upd_ne n1, upd_ne n1]
    exact e
   have n2 := ne_of_none e2 hkn
   exact ⟨n2, by rw [upd_ne n2]; exact e2⟩
  refine wpAny_holding ?_
  refine rest3 (ns := ns) (key := key) I5 upd_same hD5 hne rv hz hk0 (fun n hn t H2 s2 J sm => turn n hn t H2 s2 J fun b o e => sm b o (sm5 b o e).2 (sm5 b o e).1) fun ns' H' s' p1 p2 sm hD' J => ?_
  refine ⟨_, rfl, ?_⟩
  refine wpAny_pure ⟨_, rfl, .ref D, H', J, rfl, q ns' H' D p1 p2 (fun b o e => sm b o (sm5 b o e).2 (sm5 b o e).1 (ne_of_none e hDn)) hDn hD'⟩
end
def top (i : Nat) : Stmt := PySem.Challenge.pw_standingwarnings_s01_answers.main.body.getD i (.Pass ⟨0, 0, 0, 0⟩)
theorem fsc {N P : List Str} {sc : Scope} (a : sc.kind = .function := by rfl) (b : sc.isCoroutine = false := by rfl) (c : sc.isGenerator = false := by rfl) (e : N.Nodup := by decide +kernel) (f : N.take P.length = P := by rfl) (g : ∀ x ∈ P, sc.names.lookup x = some .local ∨ sc.names.lookup x = some .cell := by decide +kernel) (h : ∀ y ∈ sc.names, y.2 ≠ .free := by decide +kernel) : FnScope N P sc := ⟨a, b, c, e, f, g, h⟩
theorem ps_sA {X : Cx} {pos : Pos} {i : Nat} {x : Str} {e : Expr} {te : TE} {pos' : Pos} (hN : X.N.Nodup) (hi : X.N[i]? = some x) (he : PE X e te) (hx : Loc X.env.scope x := by first | exact Or.inl rfl | exact Or.inr rfl) (hs : swapsWith e (some (.Name x pos')) pos.line X.env = pure false := by rfl) (hf : X.fn x = true ∨ X.env.scope.names.lookup x = some .local := by first | exact .inl rfl | exact .inr rfl | assumption) : PS X (.Assign [.Name x pos'] e pos) (tAsg te (gName i)) := ps_set hN hi hx he hs hf
abbrev s_0 : Stmt := top 9
theorem sc_0 : FnScope ["panel", "kind", "number"] ["panel", "kind", "number"] (defScope s_0) := fsc
abbrev s_1 : Stmt := top 10
theorem sc_1 : FnScope ["panel", "kind", "numbers", "number"] ["panel", "kind", "numbers"] (defScope s_1) := fsc
abbrev s_2 : Stmt := top 23
theorem sc_2 : FnScope ["number", "lowest", "highest"] ["number", "lowest", "highest"] (defScope s_2) := fsc
abbrev s_3 : Stmt := top 24
theorem sc_3 : FnScope ["numbers", "ranges", "number", "ends"] ["numbers", "ranges"] (defScope s_3) := fsc
abbrev s_4 : Stmt := top 25
theorem sc_4 : FnScope ["row", "lowest", "highest", "before", "number"] ["row", "lowest", "highest"] (defScope s_4) := fsc
abbrev s_5 : Stmt := top 26
theorem sc_5 : FnScope ["row"] ["row"] (defScope s_5) := fsc
abbrev s_6 : Stmt := top 27
theorem sc_6 : FnScope ["panel", "row"] ["panel", "row"] (defScope s_6) := fsc
abbrev s_7 : Stmt := top 28
theorem sc_7 : FnScope ["panel", "number"] ["panel", "number"] (defScope s_7) := fsc
abbrev s_8 : Stmt := top 29
theorem sc_8 : FnScope ["panel"] ["panel"] (defScope s_8) := fsc
abbrev s_9 : Stmt := top 30
theorem sc_9 : FnScope ["panel", "seconds"] ["panel", "seconds"] (defScope s_9) := fsc
abbrev s_10 : Stmt := top 32
theorem sc_10 : FnScope ["panel", "warning"] ["panel", "warning"] (defScope s_10) := fsc
abbrev s_11 : Stmt := top 33
theorem sc_11 : FnScope ["warning", "shown", "number"] ["warning", "shown"] (defScope s_11) := fsc
abbrev s_12 : Stmt := top 34
theorem sc_12 : FnScope ["panel", "shown", "number", "warning", "in_sight"] ["panel"] (defScope s_12) := fsc
abbrev s_13 : Stmt := top 35
theorem sc_13 : FnScope ["panel", "warnings"] ["panel"] (defScope s_13) := fsc
abbrev s_14 : Stmt := top 36
theorem sc_14 : FnScope ["panel", "number"] ["panel"] (defScope s_14) := fsc
abbrev s_15 : Stmt := top 37
theorem sc_15 : FnScope ["panel", "number", "ranks"] ["panel"] (defScope s_15) := fsc
abbrev s_16 : Stmt := top 38
theorem sc_16 : FnScope ["panel", "came_or_went", "shown", "number", "warning"] ["panel", "came_or_went"] (defScope s_16) := fsc
abbrev s_17 : Stmt := inClass (top 40) 0
theorem sc_17 : FnScope ["self", "cause", "needed", "rank", "on_delay", "off_delay", "latch", "parts", "phases", "covers"] ["self", "cause", "needed", "rank", "on_delay", "off_delay", "latch", "parts", "phases", "covers"] (defScope s_17) := fsc
abbrev s_18 : Stmt := top 41
theorem sc_18 : FnScope ["warning"] ["warning"] (defScope s_18) := fsc
abbrev s_19 : Stmt := top 42
theorem sc_19 : FnScope ["warning", "clock"] ["warning", "clock"] (defScope s_19) := fsc
abbrev s_20 : Stmt := top 43
theorem sc_20 : FnScope ["warning"] ["warning"] (defScope s_20) := fsc
abbrev s_21 : Stmt := top 44
theorem sc_21 : FnScope ["warning", "twin"] ["warning"] (defScope s_21) := fsc
abbrev s_22 : Stmt := top 46
theorem sc_22 : FnScope ["panel", "warning", "number", "come_parts"] ["panel", "warning"] (defScope s_22) := fsc
abbrev s_23 : Stmt := top 47
theorem sc_23 : FnScope ["panel", "warning", "seconds"] ["panel", "warning", "seconds"] (defScope s_23) := fsc
abbrev s_24 : Stmt := top 48
theorem sc_24 : FnScope ["warning"] ["warning"] (defScope s_24) := fsc
abbrev s_25 : Stmt := top 49
theorem sc_25 : FnScope ["warning"] ["warning"] (defScope s_25) := fsc
abbrev s_26 : Stmt := top 50
theorem sc_26 : FnScope ["panel", "came_or_went", "number", "warning"] ["panel"] (defScope s_26) := fsc
abbrev s_27 : Stmt := top 51
theorem sc_27 : FnScope ["panel", "warning", "most", "source_on"] ["panel", "warning", "most"] (defScope s_27) := fsc
abbrev s_28 : Stmt := top 52
theorem sc_28 : FnScope ["panel", "most", "quiet", "warning"] ["panel", "most"] (defScope s_28) := fsc
abbrev s_29 : Stmt := top 53
theorem sc_29 : FnScope ["panel", "seconds", "warning"] ["panel", "seconds"] (defScope s_29) := fsc
abbrev s_30 : Stmt := top 54
theorem sc_30 : FnScope ["panel", "most", "quiet"] ["panel", "most"] (defScope s_30) := fsc
abbrev s_31 : Stmt := top 55
theorem sc_31 : FnScope ["panel", "seconds", "left"] ["panel", "seconds"] (defScope s_31) := fsc
abbrev s_32 : Stmt := top 61
theorem sc_32 : FnScope ["panel", "warning"] ["panel", "warning"] (defScope s_32) := fsc
abbrev s_33 : Stmt := top 62
theorem sc_33 : FnScope ["panel", "numbers", "phases", "covers"] ["panel", "numbers", "phases", "covers"] (defScope s_33) := fsc
abbrev s_34 : Stmt := top 63
theorem sc_34 : FnScope ["panel", "numbers", "parts", "phases", "covers"] ["panel", "numbers", "parts", "phases", "covers"] (defScope s_34) := fsc
abbrev s_35 : Stmt := top 64
theorem sc_35 : FnScope ["panel", "cause", "on"] ["panel", "cause", "on"] (defScope s_35) := fsc
abbrev s_36 : Stmt := top 65
theorem sc_36 : FnScope ["panel", "phase"] ["panel", "phase"] (defScope s_36) := fsc
abbrev s_37 : Stmt := top 66
theorem sc_37 : FnScope ["panel", "seconds", "refusal"] ["panel", "seconds"] (defScope s_37) := fsc
abbrev s_38 : Stmt := top 67
theorem sc_38 : FnScope ["panel", "number", "warning"] ["panel", "number"] (defScope s_38) := fsc
abbrev s_39 : Stmt := top 68
theorem sc_39 : FnScope ["panel", "waiting", "number", "warning"] ["panel"] (defScope s_39) := fsc
abbrev s_40 : Stmt := top 69
theorem sc_40 : FnScope ["panel", "number", "warning"] ["panel", "number"] (defScope s_40) := fsc
abbrev s_41 : Stmt := top 70
theorem sc_41 : FnScope ["panel", "number", "warning", "called_back"] ["panel"] (defScope s_41) := fsc
abbrev s_42 : Stmt := top 71
theorem sc_42 : FnScope ["panel", "number", "warning"] ["panel", "number"] (defScope s_42) := fsc
abbrev s_43 : Stmt := inClass (top 74) 0
theorem sc_43 : FnScope ["self", "cause"] ["self"] (defScope s_43) := fsc
abbrev s_44 : Stmt := top 76
theorem sc_44 : FnScope ["panel", "twin", "warning"] ["panel"] (defScope s_44) := fsc
abbrev s_45 : Stmt := top 77
theorem sc_45 : FnScope ["panel", "seconds", "twin"] ["panel", "seconds"] (defScope s_45) := fsc
abbrev s_46 : Stmt := top 78
theorem sc_46 : FnScope ["panel", "most", "listed", "twin", "passed"] ["panel", "most"] (defScope s_46) := fsc
abbrev s_47 : Stmt := top 87
theorem sc_47 : FnScope ["row"] ["row"] (defScope s_47) := fsc
abbrev s_48 : Stmt := top 88
theorem sc_48 : FnScope ["panel", "listed", "answer", "number", "warning"] ["panel"] (defScope s_48) := fsc
abbrev s_49 : Stmt := top 89
theorem sc_49 : FnScope ["panel", "on_each", "page", "listed", "pages"] ["panel", "on_each", "page"] (defScope s_49) := fsc
abbrev s_50 : Stmt := top 90
theorem sc_50 : FnScope ["panel", "number", "warning", "shown", "cover"] ["panel", "number"] (defScope s_50) := fsc
abbrev s_51 : Stmt := top 91
theorem sc_51 : FnScope ["panel"] ["panel"] (defScope s_51) := fsc
abbrev s_52 : Stmt := top 92
theorem sc_52 : FnScope ["panel", "number", "warning"] ["panel", "number"] (defScope s_52) := fsc
abbrev s_53 : Stmt := top 93
theorem sc_53 : FnScope ["panel", "number", "warning", "answer", "row"] ["panel", "number"] (defScope s_53) := fsc
abbrev s_54 : Stmt := top 94
theorem sc_54 : FnScope ["panel", "answer", "event"] ["panel"] (defScope s_54) := fsc
abbrev s_55 : Stmt := top 95
theorem sc_55 : FnScope ["panel"] ["panel"] (defScope s_55) := fsc
abbrev s_56 : Stmt := top 96
theorem sc_56 : FnScope ["panel", "seconds", "refusal"] ["panel", "seconds"] (defScope s_56) := fsc
abbrev s_57 : Stmt := top 97
theorem sc_57 : FnScope ["panel", "cause", "on", "causes_on"] ["panel"] (defScope s_57) := fsc
abbrev s_58 : Stmt := top 101
theorem sc_58 : FnScope ["panel", "place", "numbers", "rows"] ["panel", "place", "numbers", "rows"] (defScope s_58) := fsc
abbrev s_59 : Stmt := top 102
theorem sc_59 : FnScope ["panel", "place", "numbers"] ["panel", "place", "numbers"] (defScope s_59) := fsc
abbrev s_60 : Stmt := top 103
theorem sc_60 : FnScope ["panel", "place", "numbers", "rows"] ["panel", "place", "numbers", "rows"] (defScope s_60) := fsc
abbrev s_61 : Stmt := top 104
theorem sc_61 : FnScope ["calls", "start", "how_many", "rows", "at", "turn", "length"] ["calls", "start", "how_many"] (defScope s_61) := fsc
abbrev s_62 : Stmt := top 105
theorem sc_62 : FnScope ["panel", "calls", "answered", "at", "place", "rows_at", "rows", "answer", "row"] ["panel", "calls"] (defScope s_62) := fsc
abbrev s_63 : Stmt := top 106
theorem sc_63 : FnScope ["calls"] ["calls"] (defScope s_63) := fsc
structure Ad where
 C_SW : Addr
 C_Panel : Addr
 f_0 : Addr
 d_0 : FuncData
 f_1 : Addr
 d_1 : FuncData
 f_2 : Addr
 d_2 : FuncData
 f_3 : Addr
 d_3 : FuncData
 f_4 : Addr
 d_4 : FuncData
 f_5 : Addr
 d_5 : FuncData
 f_6 : Addr
 d_6 : FuncData
 f_7 : Addr
 d_7 : FuncData
 f_8 : Addr
 d_8 : FuncData
 f_9 : Addr
 d_9 : FuncData
 f_10 : Addr
 d_10 : FuncData
 f_11 : Addr
 d_11 : FuncData
 f_12 : Addr
 d_12 : FuncData
 f_13 : Addr
 d_13 : FuncData
 f_14 : Addr
 d_14 : FuncData
 f_15 : Addr
 d_15 : FuncData
 f_16 : Addr
 d_16 : FuncData
 f_17 : Addr
 d_17 : FuncData
 f_18 : Addr
 d_18 : FuncData
 f_19 : Addr
 d_19 : FuncData
 f_20 : Addr
 d_20 : FuncData
 f_21 : Addr
 d_21 : FuncData
 f_22 : Addr
 d_22 : FuncData
 f_23 : Addr
 d_23 : FuncData
 f_24 : Addr
 d_24 : FuncData
 f_25 : Addr
 d_25 : FuncData
 f_26 : Addr
 d_26 : FuncData
 f_27 : Addr
 d_27 : FuncData
 f_28 : Addr
 d_28 : FuncData
 f_29 : Addr
 d_29 : FuncData
 f_30 : Addr
 d_30 : FuncData
 f_31 : Addr
 d_31 : FuncData
 f_32 : Addr
 d_32 : FuncData
 f_33 : Addr
 d_33 : FuncData
 f_34 : Addr
 d_34 : FuncData
 f_35 : Addr
 d_35 : FuncData
 f_36 : Addr
 d_36 : FuncData
 f_37 : Addr
 d_37 : FuncData
 f_38 : Addr
 d_38 : FuncData
 f_39 : Addr
 d_39 : FuncData
 f_40 : Addr
 d_40 : FuncData
 f_41 : Addr
 d_41 : FuncData
 f_42 : Addr
 d_42 : FuncData
 f_43 : Addr
 d_43 : FuncData
 f_44 : Addr
 d_44 : FuncData
 f_45 : Addr
 d_45 : FuncData
 f_46 : Addr
 d_46 : FuncData
 f_47 : Addr
 d_47 : FuncData
 f_48 : Addr
 d_48 : FuncData
 f_49 : Addr
 d_49 : FuncData
 f_50 : Addr
 d_50 : FuncData
 f_51 : Addr
 d_51 : FuncData
 f_52 : Addr
 d_52 : FuncData
 f_53 : Addr
 d_53 : FuncData
 f_54 : Addr
 d_54 : FuncData
 f_55 : Addr
 d_55 : FuncData
 f_56 : Addr
 d_56 : FuncData
 f_57 : Addr
 d_57 : FuncData
 f_58 : Addr
 d_58 : FuncData
 f_59 : Addr
 d_59 : FuncData
 f_60 : Addr
 d_60 : FuncData
 f_61 : Addr
 d_61 : FuncData
 f_62 : Addr
 d_62 : FuncData
 f_63 : Addr
 d_63 : FuncData
 ca_13 : Addr
 ta_13 : Addr
 t_WARNING_RANGES : Addr
 t_WARNING_RANGES_0 : Addr
 t_WARNING_RANGES_1 : Addr
 t_WARNING_RANGES_2 : Addr
 t_WARNING_RANGES_3 : Addr
 t_WARNING_RANGES_4 : Addr
 t_COLLECTOR_RANGES : Addr
 t_COLLECTOR_RANGES_0 : Addr
 t_COLLECTOR_RANGES_1 : Addr
 t_COLLECTOR_RANGES_2 : Addr
 t_COLLECTOR_RANGES_3 : Addr
 t_COLLECTOR_RANGES_4 : Addr
 t_CAUSE_RANGES : Addr
 t_CAUSE_RANGES_0 : Addr
 t_CAUSE_RANGES_1 : Addr
 t_PAGE_RANGES : Addr
 t_PAGE_RANGES_0 : Addr
 t_PAGE_RANGES_1 : Addr
 t_SHAPES : Addr
 t_SHAPES_0 : Addr
 t_SHAPES_1 : Addr
 t_SHAPES_2 : Addr
 t_SHAPES_3 : Addr
 t_SHAPES_4 : Addr
 t_SHAPES_5 : Addr
 t_SHAPES_6 : Addr
 t_SHAPES_7 : Addr
 t_SHAPES_8 : Addr
 t_SHAPES_9 : Addr
 t_SHAPES_10 : Addr
 t_SHAPES_11 : Addr
 t_SHAPES_12 : Addr
 t_SHAPES_13 : Addr
 t_SHAPES_14 : Addr
 t_SHAPES_15 : Addr
 t_SHAPES_16 : Addr
 t_SHAPES_17 : Addr
 t_SHAPES_18 : Addr
 t_SHAPES_19 : Addr
def KTup (K : PySem.W.Frag) (a : Addr) (xs : List V) : Prop := ∃ (o : Obj) (its : Array Value) (n : Nat), K.lookup a = some o ∧ o.cls = .type "tuple" ∧ o.data = .seq its n ∧ its.size ≤ sizeLine ∧ Vals xs its.toList
theorem KTup.sq {K : PySem.W.Frag} {H : Hp} {a : Addr} {xs : List V} (h : KTup K a xs) : SqT K H a xs := .inr h
theorem bt_all : bootBuiltins "all" = some (.builtin "all") := by decide +kernel
theorem bt_any : bootBuiltins "any" = some (.builtin "any") := by decide +kernel
theorem bt_int : bootBuiltins "int" = some (.type "int") := by decide +kernel
theorem bt_len : bootBuiltins "len" = some (.builtin "len") := by decide +kernel
theorem bt_list : bootBuiltins "list" = some (.type "list") := by decide +kernel
theorem bt_min : bootBuiltins "min" = some (.builtin "min") := by decide +kernel
theorem bt_sorted : bootBuiltins "sorted" = some (.builtin "sorted") := by decide +kernel
theorem bt_sum : bootBuiltins "sum" = some (.builtin "sum") := by decide +kernel
structure Tx (K : PySem.W.Frag) (mg : Str → Option Value) (d : Ad) : Prop where
 cl_SW : Cls K d.C_SW
 mk_SW : Mk K d.C_SW d.f_17
 mg_SW : mg "StandingWarning" = some (.ref d.C_SW)
 n_SW_cause : NoAttr K d.C_SW "cause"
 n_SW_needed : NoAttr K d.C_SW "needed"
 n_SW_rank : NoAttr K d.C_SW "rank"
 n_SW_on_delay : NoAttr K d.C_SW "on_delay"
 n_SW_off_delay : NoAttr K d.C_SW "off_delay"
 n_SW_latch : NoAttr K d.C_SW "latch"
 n_SW_parts : NoAttr K d.C_SW "parts"
 n_SW_phases : NoAttr K d.C_SW "phases"
 n_SW_covers : NoAttr K d.C_SW "covers"
 n_SW_seconds_on : NoAttr K d.C_SW "seconds_on"
 n_SW_seconds_off : NoAttr K d.C_SW "seconds_off"
 n_SW_has_come : NoAttr K d.C_SW "has_come"
 n_SW_came_at : NoAttr K d.C_SW "came_at"
 n_SW_acknowledged : NoAttr K d.C_SW "acknowledged"
 n_SW_cancelled : NoAttr K d.C_SW "cancelled"
 n_SW_shown_since : NoAttr K d.C_SW "shown_since"
 n_SW_times_come : NoAttr K d.C_SW "times_come"
 cl_Panel : Cls K d.C_Panel
 mk_Panel : Mk K d.C_Panel d.f_43
 mg_Panel : mg "Panel" = some (.ref d.C_Panel)
 n_Panel_clock : NoAttr K d.C_Panel "clock"
 n_Panel_phase : NoAttr K d.C_Panel "phase"
 n_Panel_causes : NoAttr K d.C_Panel "causes"
 n_Panel_warnings : NoAttr K d.C_Panel "warnings"
 n_Panel_log : NoAttr K d.C_Panel "log"
 n_Panel_events_ever : NoAttr K d.C_Panel "events_ever"
 F_0 : Fun K "log_event" "log_event" s_0 d.f_0 d.d_0
 b_0 : Binds K d.d_0 ["panel", "kind", "number"] []
 mg_0 : mg "log_event" = some (.ref d.f_0)
 F_1 : Fun K "log_each" "log_each" s_1 d.f_1 d.d_1
 b_1 : Binds K d.d_1 ["panel", "kind", "numbers"] []
 mg_1 : mg "log_each" = some (.ref d.f_1)
 F_2 : Fun K "is_within" "is_within" s_2 d.f_2 d.d_2
 b_2 : Binds K d.d_2 ["number", "lowest", "highest"] []
 mg_2 : mg "is_within" = some (.ref d.f_2)
 F_3 : Fun K "are_within" "are_within" s_3 d.f_3 d.d_3
 b_3 : Binds K d.d_3 ["numbers", "ranges"] []
 mg_3 : mg "are_within" = some (.ref d.f_3)
 F_4 : Fun K "is_rising_row" "is_rising_row" s_4 d.f_4 d.d_4
 b_4 : Binds K d.d_4 ["row", "lowest", "highest"] []
 mg_4 : mg "is_rising_row" = some (.ref d.f_4)
 F_5 : Fun K "is_row_of_phases" "is_row_of_phases" s_5 d.f_5 d.d_5
 b_5 : Binds K d.d_5 ["row"] []
 mg_5 : mg "is_row_of_phases" = some (.ref d.f_5)
 F_6 : Fun K "is_row_of_warnings" "is_row_of_warnings" s_6 d.f_6 d.d_6
 b_6 : Binds K d.d_6 ["panel", "row"] []
 mg_6 : mg "is_row_of_warnings" = some (.ref d.f_6)
 F_7 : Fun K "is_warning" "is_warning" s_7 d.f_7 d.d_7
 b_7 : Binds K d.d_7 ["panel", "number"] []
 mg_7 : mg "is_warning" = some (.ref d.f_7)
 F_8 : Fun K "is_full" "is_full" s_8 d.f_8 d.d_8
 b_8 : Binds K d.d_8 ["panel"] []
 mg_8 : mg "is_full" = some (.ref d.f_8)
 F_9 : Fun K "refusal_of_seconds" "refusal_of_seconds" s_9 d.f_9 d.d_9
 b_9 : Binds K d.d_9 ["panel", "seconds"] []
 mg_9 : mg "refusal_of_seconds" = some (.ref d.f_9)
 F_10 : Fun K "is_held_back" "is_held_back" s_10 d.f_10 d.d_10
 b_10 : Binds K d.d_10 ["panel", "warning"] []
 mg_10 : mg "is_held_back" = some (.ref d.f_10)
 F_11 : Fun K "is_covered" "is_covered" s_11 d.f_11 d.d_11
 b_11 : Binds K d.d_11 ["warning", "shown"] []
 mg_11 : mg "is_covered" = some (.ref d.f_11)
 F_12 : Fun K "shown_numbers" "shown_numbers" s_12 d.f_12 d.d_12
 b_12 : Binds K d.d_12 ["panel"] []
 mg_12 : mg "shown_numbers" = some (.ref d.f_12)
 F_13 : Fun K "listed_numbers" "listed_numbers" s_13 d.f_13 d.d_13
 b_13 : Binds K d.d_13 ["panel"] []
 mg_13 : mg "listed_numbers" = some (.ref d.f_13)
 F_14 : Fun K "unacknowledged_numbers" "unacknowledged_numbers" s_14 d.f_14 d.d_14
 b_14 : Binds K d.d_14 ["panel"] []
 mg_14 : mg "unacknowledged_numbers" = some (.ref d.f_14)
 F_15 : Fun K "sound" "sound" s_15 d.f_15 d.d_15
 b_15 : Binds K d.d_15 ["panel"] []
 mg_15 : mg "sound" = some (.ref d.f_15)
 F_16 : Fun K "mark_shown" "mark_shown" s_16 d.f_16 d.d_16
 b_16 : Binds K d.d_16 ["panel", "came_or_went"] []
 mg_16 : mg "mark_shown" = some (.ref d.f_16)
 F_17 : Fun K "__init__" "StandingWarning.__init__" s_17 d.f_17 d.d_17
 b_17 : Binds K d.d_17 ["self", "cause", "needed", "rank", "on_delay", "off_delay", "latch", "parts", "phases", "covers"] []
 F_18 : Fun K "forget_the_crew" "forget_the_crew" s_18 d.f_18 d.d_18
 b_18 : Binds K d.d_18 ["warning"] []
 mg_18 : mg "forget_the_crew" = some (.ref d.f_18)
 F_19 : Fun K "come" "come" s_19 d.f_19 d.d_19
 b_19 : Binds K d.d_19 ["warning", "clock"] []
 mg_19 : mg "come" = some (.ref d.f_19)
 F_20 : Fun K "go" "go" s_20 d.f_20 d.d_20
 b_20 : Binds K d.d_20 ["warning"] []
 mg_20 : mg "go" = some (.ref d.f_20)
 F_21 : Fun K "copied_warning" "copied_warning" s_21 d.f_21 d.d_21
 b_21 : Binds K d.d_21 ["warning"] []
 mg_21 : mg "copied_warning" = some (.ref d.f_21)
 F_22 : Fun K "source_is_on" "source_is_on" s_22 d.f_22 d.d_22
 b_22 : Binds K d.d_22 ["panel", "warning"] []
 mg_22 : mg "source_is_on" = some (.ref d.f_22)
 F_23 : Fun K "count_seconds" "count_seconds" s_23 d.f_23 d.d_23
 b_23 : Binds K d.d_23 ["panel", "warning", "seconds"] []
 mg_23 : mg "count_seconds" = some (.ref d.f_23)
 F_24 : Fun K "is_due_to_come" "is_due_to_come" s_24 d.f_24 d.d_24
 b_24 : Binds K d.d_24 ["warning"] []
 mg_24 : mg "is_due_to_come" = some (.ref d.f_24)
 F_25 : Fun K "is_due_to_go" "is_due_to_go" s_25 d.f_25 d.d_25
 b_25 : Binds K d.d_25 ["warning"] []
 mg_25 : mg "is_due_to_go" = some (.ref d.f_25)
 F_26 : Fun K "pass_second" "pass_second" s_26 d.f_26 d.d_26
 b_26 : Binds K d.d_26 ["panel"] []
 mg_26 : mg "pass_second" = some (.ref d.f_26)
 F_27 : Fun K "quiet_seconds_of" "quiet_seconds_of" s_27 d.f_27 d.d_27
 b_27 : Binds K d.d_27 ["panel", "warning", "most"] []
 mg_27 : mg "quiet_seconds_of" = some (.ref d.f_27)
 F_28 : Fun K "quiet_seconds" "quiet_seconds" s_28 d.f_28 d.d_28
 b_28 : Binds K d.d_28 ["panel", "most"] []
 mg_28 : mg "quiet_seconds" = some (.ref d.f_28)
 F_29 : Fun K "skip_seconds" "skip_seconds" s_29 d.f_29 d.d_29
 b_29 : Binds K d.d_29 ["panel", "seconds"] []
 mg_29 : mg "skip_seconds" = some (.ref d.f_29)
 F_30 : Fun K "pass_stretch" "pass_stretch" s_30 d.f_30 d.d_30
 b_30 : Binds K d.d_30 ["panel", "most"] []
 mg_30 : mg "pass_stretch" = some (.ref d.f_30)
 F_31 : Fun K "pass_seconds" "pass_seconds" s_31 d.f_31 d.d_31
 b_31 : Binds K d.d_31 ["panel", "seconds"] []
 mg_31 : mg "pass_seconds" = some (.ref d.f_31)
 F_32 : Fun K "add_to_panel" "add_to_panel" s_32 d.f_32 d.d_32
 b_32 : Binds K d.d_32 ["panel", "warning"] []
 mg_32 : mg "add_to_panel" = some (.ref d.f_32)
 F_33 : Fun K "add_warning" "add_warning" s_33 d.f_33 d.d_33
 b_33 : Binds K d.d_33 ["panel", "numbers", "phases", "covers"] []
 mg_33 : mg "add_warning" = some (.ref d.f_33)
 F_34 : Fun K "add_collector" "add_collector" s_34 d.f_34 d.d_34
 b_34 : Binds K d.d_34 ["panel", "numbers", "parts", "phases", "covers"] []
 mg_34 : mg "add_collector" = some (.ref d.f_34)
 F_35 : Fun K "set_cause" "set_cause" s_35 d.f_35 d.d_35
 b_35 : Binds K d.d_35 ["panel", "cause", "on"] []
 mg_35 : mg "set_cause" = some (.ref d.f_35)
 F_36 : Fun K "set_phase" "set_phase" s_36 d.f_36 d.d_36
 b_36 : Binds K d.d_36 ["panel", "phase"] []
 mg_36 : mg "set_phase" = some (.ref d.f_36)
 F_37 : Fun K "tick" "tick" s_37 d.f_37 d.d_37
 b_37 : Binds K d.d_37 ["panel", "seconds"] []
 mg_37 : mg "tick" = some (.ref d.f_37)
 F_38 : Fun K "ack" "ack" s_38 d.f_38 d.d_38
 b_38 : Binds K d.d_38 ["panel", "number"] []
 mg_38 : mg "ack" = some (.ref d.f_38)
 F_39 : Fun K "ack_all" "ack_all" s_39 d.f_39 d.d_39
 b_39 : Binds K d.d_39 ["panel"] []
 mg_39 : mg "ack_all" = some (.ref d.f_39)
 F_40 : Fun K "cancel" "cancel" s_40 d.f_40 d.d_40
 b_40 : Binds K d.d_40 ["panel", "number"] []
 mg_40 : mg "cancel" = some (.ref d.f_40)
 F_41 : Fun K "recall" "recall" s_41 d.f_41 d.d_41
 b_41 : Binds K d.d_41 ["panel"] []
 mg_41 : mg "recall" = some (.ref d.f_41)
 F_42 : Fun K "reset" "reset" s_42 d.f_42 d.d_42
 b_42 : Binds K d.d_42 ["panel", "number"] []
 mg_42 : mg "reset" = some (.ref d.f_42)
 F_43 : Fun K "__init__" "Panel.__init__" s_43 d.f_43 d.d_43
 b_43 : Binds K d.d_43 ["self"] []
 F_44 : Fun K "copied_panel" "copied_panel" s_44 d.f_44 d.d_44
 b_44 : Binds K d.d_44 ["panel"] []
 mg_44 : mg "copied_panel" = some (.ref d.f_44)
 F_45 : Fun K "panel_ahead" "panel_ahead" s_45 d.f_45 d.d_45
 b_45 : Binds K d.d_45 ["panel", "seconds"] []
 mg_45 : mg "panel_ahead" = some (.ref d.f_45)
 F_46 : Fun K "seconds_till_list_changes" "seconds_till_list_changes" s_46 d.f_46 d.d_46
 b_46 : Binds K d.d_46 ["panel", "most"] []
 mg_46 : mg "seconds_till_list_changes" = some (.ref d.f_46)
 F_47 : Fun K "row_behind_length" "row_behind_length" s_47 d.f_47 d.d_47
 b_47 : Binds K d.d_47 ["row"] []
 mg_47 : mg "row_behind_length" = some (.ref d.f_47)
 F_48 : Fun K "tell_list" "tell_list" s_48 d.f_48 d.d_48
 b_48 : Binds K d.d_48 ["panel"] []
 mg_48 : mg "tell_list" = some (.ref d.f_48)
 F_49 : Fun K "tell_page" "tell_page" s_49 d.f_49 d.d_49
 b_49 : Binds K d.d_49 ["panel", "on_each", "page"] []
 mg_49 : mg "tell_page" = some (.ref d.f_49)
 F_50 : Fun K "tell_why" "tell_why" s_50 d.f_50 d.d_50
 b_50 : Binds K d.d_50 ["panel", "number"] []
 mg_50 : mg "tell_why" = some (.ref d.f_50)
 F_51 : Fun K "tell_sound" "tell_sound" s_51 d.f_51 d.d_51
 b_51 : Binds K d.d_51 ["panel"] []
 mg_51 : mg "tell_sound" = some (.ref d.f_51)
 F_52 : Fun K "tell_stand" "tell_stand" s_52 d.f_52 d.d_52
 b_52 : Binds K d.d_52 ["panel", "number"] []
 mg_52 : mg "tell_stand" = some (.ref d.f_52)
 F_53 : Fun K "tell_told" "tell_told" s_53 d.f_53 d.d_53
 b_53 : Binds K d.d_53 ["panel", "number"] []
 mg_53 : mg "tell_told" = some (.ref d.f_53)
 F_54 : Fun K "tell_log" "tell_log" s_54 d.f_54 d.d_54
 b_54 : Binds K d.d_54 ["panel"] []
 mg_54 : mg "tell_log" = some (.ref d.f_54)
 F_55 : Fun K "tell_next" "tell_next" s_55 d.f_55 d.d_55
 b_55 : Binds K d.d_55 ["panel"] []
 mg_55 : mg "tell_next" = some (.ref d.f_55)
 F_56 : Fun K "tell_ahead" "tell_ahead" s_56 d.f_56 d.d_56
 b_56 : Binds K d.d_56 ["panel", "seconds"] []
 mg_56 : mg "tell_ahead" = some (.ref d.f_56)
 F_57 : Fun K "tell_state" "tell_state" s_57 d.f_57 d.d_57
 b_57 : Binds K d.d_57 ["panel"] []
 mg_57 : mg "tell_state" = some (.ref d.f_57)
 F_58 : Fun K "answer_changing_call" "answer_changing_call" s_58 d.f_58 d.d_58
 b_58 : Binds K d.d_58 ["panel", "place", "numbers", "rows"] []
 mg_58 : mg "answer_changing_call" = some (.ref d.f_58)
 F_59 : Fun K "answer_telling_call" "answer_telling_call" s_59 d.f_59 d.d_59
 b_59 : Binds K d.d_59 ["panel", "place", "numbers"] []
 mg_59 : mg "answer_telling_call" = some (.ref d.f_59)
 F_60 : Fun K "answer_call" "answer_call" s_60 d.f_60 d.d_60
 b_60 : Binds K d.d_60 ["panel", "place", "numbers", "rows"] []
 mg_60 : mg "answer_call" = some (.ref d.f_60)
 F_61 : Fun K "read_rows" "read_rows" s_61 d.f_61 d.d_61
 b_61 : Binds K d.d_61 ["calls", "start", "how_many"] []
 mg_61 : mg "read_rows" = some (.ref d.f_61)
 F_62 : Fun K "answer_line" "answer_line" s_62 d.f_62 d.d_62
 b_62 : Binds K d.d_62 ["panel", "calls"] []
 mg_62 : mg "answer_line" = some (.ref d.f_62)
 F_63 : Fun K "answers" "answers" s_63 d.f_63 d.d_63
 b_63 : Binds K d.d_63 ["calls"] []
 mg_63 : mg "answers" = some (.ref d.f_63)
 c_CAME : ∃ t, mg "CAME" = some (.int 1 t)
 c_WENT : ∃ t, mg "WENT" = some (.int 2 t)
 c_FIRST_SHOWN : ∃ t, mg "FIRST_SHOWN" = some (.int 3 t)
 c_ACKNOWLEDGED : ∃ t, mg "ACKNOWLEDGED" = some (.int 4 t)
 c_CANCELLED : ∃ t, mg "CANCELLED" = some (.int 5 t)
 c_CALLED_BACK : ∃ t, mg "CALLED_BACK" = some (.int 6 t)
 c_WAS_RESET : ∃ t, mg "WAS_RESET" = some (.int 7 t)
 c_KEPT_EVENTS : ∃ t, mg "KEPT_EVENTS" = some (.int 200 t)
 c_OUT_OF_RANGE : ∃ t, mg "OUT_OF_RANGE" = some (.int (-1) t)
 c_NO_ROW_OF_WARNINGS : ∃ t, mg "NO_ROW_OF_WARNINGS" = some (.int (-4) t)
 c_TOO_FEW_PARTS : ∃ t, mg "TOO_FEW_PARTS" = some (.int (-5) t)
 c_NOT_SHOWN_OR_COME : ∃ t, mg "NOT_SHOWN_OR_COME" = some (.int (-6) t)
 c_NOT_NOW : ∃ t, mg "NOT_NOW" = some (.int (-7) t)
 c_FULL : ∃ t, mg "FULL" = some (.int (-8) t)
 c_NOT_OF_THIS_KIND : ∃ t, mg "NOT_OF_THIS_KIND" = some (.int (-9) t)
 c_HIGHEST_PHASE : ∃ t, mg "HIGHEST_PHASE" = some (.int 9 t)
 c_MOST_WARNINGS : ∃ t, mg "MOST_WARNINGS" = some (.int 24 t)
 c_LONGEST_TICK : ∃ t, mg "LONGEST_TICK" = some (.int 600 t)
 c_LATEST_CLOCK : ∃ t, mg "LATEST_CLOCK" = some (.int 1000000000 t)
 c_HIGHEST_RANK : ∃ t, mg "HIGHEST_RANK" = some (.int 3 t)
 c_CAUSES : ∃ t, mg "CAUSES" = some (.int 32 t)
 c_FARTHEST_NEXT : ∃ t, mg "FARTHEST_NEXT" = some (.int 3600 t)
 c_NOT_COME : ∃ t, mg "NOT_COME" = some (.int 0 t)
 c_SHOWN : ∃ t, mg "SHOWN" = some (.int 1 t)
 c_IS_CANCELLED : ∃ t, mg "IS_CANCELLED" = some (.int 2 t)
 c_HELD_BACK : ∃ t, mg "HELD_BACK" = some (.int 3 t)
 c_COVERED : ∃ t, mg "COVERED" = some (.int 4 t)
 c_FIRST_TELLING_PLACE : ∃ t, mg "FIRST_TELLING_PLACE" = some (.int 10 t)
 mg_WARNING_RANGES : mg "WARNING_RANGES" = some (.ref d.t_WARNING_RANGES)
 k_WARNING_RANGES : KTup K d.t_WARNING_RANGES [.ref d.t_WARNING_RANGES_0, .ref d.t_WARNING_RANGES_1, .ref d.t_WARNING_RANGES_2, .ref d.t_WARNING_RANGES_3, .ref d.t_WARNING_RANGES_4]
 k_WARNING_RANGES_0 : KTup K d.t_WARNING_RANGES_0 [.int 0, .int 31]
 k_WARNING_RANGES_1 : KTup K d.t_WARNING_RANGES_1 [.int 1, .int 3]
 k_WARNING_RANGES_2 : KTup K d.t_WARNING_RANGES_2 [.int 0, .int 3600]
 k_WARNING_RANGES_3 : KTup K d.t_WARNING_RANGES_3 [.int 0, .int 3600]
 k_WARNING_RANGES_4 : KTup K d.t_WARNING_RANGES_4 [.int 0, .int 1]
 mg_COLLECTOR_RANGES : mg "COLLECTOR_RANGES" = some (.ref d.t_COLLECTOR_RANGES)
 k_COLLECTOR_RANGES : KTup K d.t_COLLECTOR_RANGES [.ref d.t_COLLECTOR_RANGES_0, .ref d.t_COLLECTOR_RANGES_1, .ref d.t_COLLECTOR_RANGES_2, .ref d.t_COLLECTOR_RANGES_3, .ref d.t_COLLECTOR_RANGES_4]
 k_COLLECTOR_RANGES_0 : KTup K d.t_COLLECTOR_RANGES_0 [.int 1, .int 24]
 k_COLLECTOR_RANGES_1 : KTup K d.t_COLLECTOR_RANGES_1 [.int 1, .int 3]
 k_COLLECTOR_RANGES_2 : KTup K d.t_COLLECTOR_RANGES_2 [.int 0, .int 3600]
 k_COLLECTOR_RANGES_3 : KTup K d.t_COLLECTOR_RANGES_3 [.int 0, .int 3600]
 k_COLLECTOR_RANGES_4 : KTup K d.t_COLLECTOR_RANGES_4 [.int 0, .int 1]
 mg_CAUSE_RANGES : mg "CAUSE_RANGES" = some (.ref d.t_CAUSE_RANGES)
 k_CAUSE_RANGES : KTup K d.t_CAUSE_RANGES [.ref d.t_CAUSE_RANGES_0, .ref d.t_CAUSE_RANGES_1]
 k_CAUSE_RANGES_0 : KTup K d.t_CAUSE_RANGES_0 [.int 0, .int 31]
 k_CAUSE_RANGES_1 : KTup K d.t_CAUSE_RANGES_1 [.int 0, .int 1]
 mg_PAGE_RANGES : mg "PAGE_RANGES" = some (.ref d.t_PAGE_RANGES)
 k_PAGE_RANGES : KTup K d.t_PAGE_RANGES [.ref d.t_PAGE_RANGES_0, .ref d.t_PAGE_RANGES_1]
 k_PAGE_RANGES_0 : KTup K d.t_PAGE_RANGES_0 [.int 1, .int 8]
 k_PAGE_RANGES_1 : KTup K d.t_PAGE_RANGES_1 [.int 0, .int 23]
 mg_SHAPES : mg "SHAPES" = some (.ref d.t_SHAPES)
 k_SHAPES : KTup K d.t_SHAPES [.ref d.t_SHAPES_0, .ref d.t_SHAPES_1, .ref d.t_SHAPES_2, .ref d.t_SHAPES_3, .ref d.t_SHAPES_4, .ref d.t_SHAPES_5, .ref d.t_SHAPES_6, .ref d.t_SHAPES_7, .ref d.t_SHAPES_8, .ref d.t_SHAPES_9, .ref d.t_SHAPES_10, .ref d.t_SHAPES_11, .ref d.t_SHAPES_12, .ref d.t_SHAPES_13, .ref d.t_SHAPES_14, .ref d.t_SHAPES_15, .ref d.t_SHAPES_16, .ref d.t_SHAPES_17, .ref d.t_SHAPES_18, .ref d.t_SHAPES_19]
 k_SHAPES_0 : KTup K d.t_SHAPES_0 [.int 5, .int 2]
 k_SHAPES_1 : KTup K d.t_SHAPES_1 [.int 5, .int 3]
 k_SHAPES_2 : KTup K d.t_SHAPES_2 [.int 2, .int 0]
 k_SHAPES_3 : KTup K d.t_SHAPES_3 [.int 1, .int 0]
 k_SHAPES_4 : KTup K d.t_SHAPES_4 [.int 1, .int 0]
 k_SHAPES_5 : KTup K d.t_SHAPES_5 [.int 1, .int 0]
 k_SHAPES_6 : KTup K d.t_SHAPES_6 [.int 0, .int 0]
 k_SHAPES_7 : KTup K d.t_SHAPES_7 [.int 1, .int 0]
 k_SHAPES_8 : KTup K d.t_SHAPES_8 [.int 0, .int 0]
 k_SHAPES_9 : KTup K d.t_SHAPES_9 [.int 1, .int 0]
 k_SHAPES_10 : KTup K d.t_SHAPES_10 [.int 0, .int 0]
 k_SHAPES_11 : KTup K d.t_SHAPES_11 [.int 2, .int 0]
 k_SHAPES_12 : KTup K d.t_SHAPES_12 [.int 1, .int 0]
 k_SHAPES_13 : KTup K d.t_SHAPES_13 [.int 0, .int 0]
 k_SHAPES_14 : KTup K d.t_SHAPES_14 [.int 1, .int 0]
 k_SHAPES_15 : KTup K d.t_SHAPES_15 [.int 1, .int 0]
 k_SHAPES_16 : KTup K d.t_SHAPES_16 [.int 0, .int 0]
 k_SHAPES_17 : KTup K d.t_SHAPES_17 [.int 0, .int 0]
 k_SHAPES_18 : KTup K d.t_SHAPES_18 [.int 1, .int 0]
 k_SHAPES_19 : KTup K d.t_SHAPES_19 [.int 0, .int 0]
 lc_13 : d.d_13.code = .ref d.ca_13
 lt_13 : PySem.W.codeHdIn K d.ca_13 d.ta_13 = true
 no_all : mg "all" = none
 no_any : mg "any" = none
 no_enumerate : mg "enumerate" = none
 no_int : mg "int" = none
 no_len : mg "len" = none
 no_list : mg "list" = none
 no_min : mg "min" = none
 no_range : mg "range" = none
 no_sorted : mg "sorted" = none
 no_sum : mg "sum" = none
 no_zip : mg "zip" = none
end Sw
namespace Sw
open PySem PySem.Spec L2
open PySem.W (Frag nsIn codeIn keepIn findIn fnOf mg_of isFn plainGet hasDictIn plainOver makesIn codeHdIn mg_none_of)
abbrev fnX (x q : Str) (s : Stmt) (a b c : Value) (o : Option Addr) (e f : Value) : FuncData := fnOf x q (defArgs s) (defBody s) (defScope s) .none a b c o e f
open PyProof.Rows hiding St
section
variable {K : Frag} {x q : Str} {st : Stmt} {f : Addr} {fd : FuncData}
theorem fb1 {a0 : Str} (F : Fun K x q st f fd) (h : ∀ (k o p : Value) (n : Option Addr) (c t u0 : Value), bindArgs (fnX x q st k o p n c t) ⟨[u0], []⟩ = pure [(a0, u0)] := by intros; rfl) : Binds K fd [a0] [] := F.binds fun k o p n c t us hl => match us, hl with | [u0], _ => h k o p n c t u0
theorem fb2 {a0 a1 : Str} (F : Fun K x q st f fd) (h : ∀ (k o p : Value) (n : Option Addr) (c t u0 u1 : Value), bindArgs (fnX x q st k o p n c t) ⟨[u0, u1], []⟩ = pure [(a0, u0), (a1, u1)] := by intros; rfl) : Binds K fd [a0, a1] [] := F.binds fun k o p n c t us hl => match us, hl with | [u0, u1], _ => h k o p n c t u0 u1
theorem fb3 {a0 a1 a2 : Str} (F : Fun K x q st f fd) (h : ∀ (k o p : Value) (n : Option Addr) (c t u0 u1 u2 : Value), bindArgs (fnX x q st k o p n c t) ⟨[u0, u1, u2], []⟩ = pure [(a0, u0), (a1, u1), (a2, u2)] := by intros; rfl) : Binds K fd [a0, a1, a2] [] := F.binds fun k o p n c t us hl => match us, hl with | [u0, u1, u2], _ => h k o p n c t u0 u1 u2
theorem fb4 {a0 a1 a2 a3 : Str} (F : Fun K x q st f fd) (h : ∀ (k o p : Value) (n : Option Addr) (c t u0 u1 u2 u3 : Value), bindArgs (fnX x q st k o p n c t) ⟨[u0, u1, u2, u3], []⟩ = pure [(a0, u0), (a1, u1), (a2, u2), (a3, u3)] := by intros; rfl) : Binds K fd [a0, a1, a2, a3] [] := F.binds fun k o p n c t us hl => match us, hl with | [u0, u1, u2, u3], _ => h k o p n c t u0 u1 u2 u3
theorem fb5 {a0 a1 a2 a3 a4 : Str} (F : Fun K x q st f fd) (h : ∀ (k o p : Value) (n : Option Addr) (c t u0 u1 u2 u3 u4 : Value), bindArgs (fnX x q st k o p n c t) ⟨[u0, u1, u2, u3, u4], []⟩ = pure [(a0, u0), (a1, u1), (a2, u2), (a3, u3), (a4, u4)] := by intros; rfl) : Binds K fd [a0, a1, a2, a3, a4] [] := F.binds fun k o p n c t us hl => match us, hl with | [u0, u1, u2, u3, u4], _ => h k o p n c t u0 u1 u2 u3 u4
end
theorem tx_mk {K : Frag} {h : Heap} {mg : Str → Option Value} (X : K.In h) (G : h.Ns mainGlobals mg)
 {C_SW C_Panel f0 f1 f2 f3 f4 f5 f6 f7 f8 f9 f10 f11 f12 f13 f14 f15 f16 f17 f18 f19 f20 f21 f22 f23 f24 f25 f26 f27 f28 f29 f30 f31 f32 f33 f34 f35 f36 f37 f38 f39 f40 f41 f42 f43 f44 f45 f46 f47 f48 f49 f50 f51 f52 f53 f54 f55 f56 f57 f58 f59 f60 f61 f62 f63 caL taL ax117 ax118 ax121 ax124 ax127 ax130 ax12 ax13 ax16 ax19 ax22 ax25 ax5 ax6 ax9 ax47 ax48 ax51 ax54 ax55 ax58 ax91 ax94 ax97 ax100 ax103 ax106 ax109 ax112 ax59 ax62 ax65 ax68 ax71 ax74 ax77 ax80 ax83 ax86 : Addr} {od0 an0 od1 an1 od2 an2 od3 an3 od4 an4 od5 an5 od6 an6 od7 an7 od8 an8 od9 an9 od10 an10 od11 an11 od12 an12 od13 an13 od14 an14 od15 an15 od16 an16 od17 an17 od18 an18 od19 an19 od20 an20 od21 an21 od22 an22 od23 an23 od24 an24 od25 an25 od26 an26 od27 an27 od28 an28 od29 an29 od30 an30 od31 an31 od32 an32 od33 an33 od34 an34 od35 an35 od36 an36 od37 an37 od38 an38 od39 an39 od40 an40 od41 an41 od42 an42 od43 an43 od44 an44 od45 an45 od46 an46 od47 an47 od48 an48 od49 an49 od50 an50 od51 an51 od52 an52 od53 an53 od54 an54 od55 an55 od56 an56 od57 an57 od58 an58 od59 an59 od60 an60 od61 an61 od62 an62 od63 an63 odx117 odx118 odx121 odx124 odx127 odx130 odx12 odx13 odx16 odx19 odx22 odx25 odx5 odx6 odx9 odx47 odx48 odx51 odx54 odx55 odx58 odx91 odx94 odx97 odx100 odx103 odx106 odx109 odx112 odx59 odx62 odx65 odx68 odx71 odx74 odx77 odx80 odx83 odx86 : Option Addr} {sl0 sl1 sl2 sl3 sl4 sl5 sl6 sl7 sl8 sl9 sl10 sl11 sl12 sl13 sl14 sl15 sl16 sl17 sl18 sl19 sl20 sl21 sl22 sl23 sl24 sl25 sl26 sl27 sl28 sl29 sl30 sl31 sl32 sl33 sl34 sl35 sl36 sl37 sl38 sl39 sl40 sl41 sl42 sl43 sl44 sl45 sl46 sl47 sl48 sl49 sl50 sl51 sl52 sl53 sl54 sl55 sl56 sl57 sl58 sl59 sl60 sl61 sl62 sl63 slx117 slx118 slx121 slx124 slx127 slx130 slx12 slx13 slx16 slx19 slx22 slx25 slx5 slx6 slx9 slx47 slx48 slx51 slx54 slx55 slx58 slx91 slx94 slx97 slx100 slx103 slx106 slx109 slx112 slx59 slx62 slx65 slx68 slx71 slx74 slx77 slx80 slx83 slx86 : Array (Option Value)} {oc0 kV0 dc0 pm0 cd0 ct0 oc1 kV1 dc1 pm1 cd1 ct1 oc2 kV2 dc2 pm2 cd2 ct2 oc3 kV3 dc3 pm3 cd3 ct3 oc4 kV4 dc4 pm4 cd4 ct4 oc5 kV5 dc5 pm5 cd5 ct5 oc6 kV6 dc6 pm6 cd6 ct6 oc7 kV7 dc7 pm7 cd7 ct7 oc8 kV8 dc8 pm8 cd8 ct8 oc9 kV9 dc9 pm9 cd9 ct9 oc10 kV10 dc10 pm10 cd10 ct10 oc11 kV11 dc11 pm11 cd11 ct11 oc12 kV12 dc12 pm12 cd12 ct12 oc13 kV13 dc13 pm13 ct13 oc14 kV14 dc14 pm14 cd14 ct14 oc15 kV15 dc15 pm15 cd15 ct15 oc16 kV16 dc16 pm16 cd16 ct16 oc17 kV17 dc17 pm17 cd17 ct17 oc18 kV18 dc18 pm18 cd18 ct18 oc19 kV19 dc19 pm19 cd19 ct19 oc20 kV20 dc20 pm20 cd20 ct20 oc21 kV21 dc21 pm21 cd21 ct21 oc22 kV22 dc22 pm22 cd22 ct22 oc23 kV23 dc23 pm23 cd23 ct23 oc24 kV24 dc24 pm24 cd24 ct24 oc25 kV25 dc25 pm25 cd25 ct25 oc26 kV26 dc26 pm26 cd26 ct26 oc27 kV27 dc27 pm27 cd27 ct27 oc28 kV28 dc28 pm28 cd28 ct28 oc29 kV29 dc29 pm29 cd29 ct29 oc30 kV30 dc30 pm30 cd30 ct30 oc31 kV31 dc31 pm31 cd31 ct31 oc32 kV32 dc32 pm32 cd32 ct32 oc33 kV33 dc33 pm33 cd33 ct33 oc34 kV34 dc34 pm34 cd34 ct34 oc35 kV35 dc35 pm35 cd35 ct35 oc36 kV36 dc36 pm36 cd36 ct36 oc37 kV37 dc37 pm37 cd37 ct37 oc38 kV38 dc38 pm38 cd38 ct38 oc39 kV39 dc39 pm39 cd39 ct39 oc40 kV40 dc40 pm40 cd40 ct40 oc41 kV41 dc41 pm41 cd41 ct41 oc42 kV42 dc42 pm42 cd42 ct42 oc43 kV43 dc43 pm43 cd43 ct43 oc44 kV44 dc44 pm44 cd44 ct44 oc45 kV45 dc45 pm45 cd45 ct45 oc46 kV46 dc46 pm46 cd46 ct46 oc47 kV47 dc47 pm47 cd47 ct47 oc48 kV48 dc48 pm48 cd48 ct48 oc49 kV49 dc49 pm49 cd49 ct49 oc50 kV50 dc50 pm50 cd50 ct50 oc51 kV51 dc51 pm51 cd51 ct51 oc52 kV52 dc52 pm52 cd52 ct52 oc53 kV53 dc53 pm53 cd53 ct53 oc54 kV54 dc54 pm54 cd54 ct54 oc55 kV55 dc55 pm55 cd55 ct55 oc56 kV56 dc56 pm56 cd56 ct56 oc57 kV57 dc57 pm57 cd57 ct57 oc58 kV58 dc58 pm58 cd58 ct58 oc59 kV59 dc59 pm59 cd59 ct59 oc60 kV60 dc60 pm60 cd60 ct60 oc61 kV61 dc61 pm61 cd61 ct61 oc62 kV62 dc62 pm62 cd62 ct62 oc63 kV63 dc63 pm63 cd63 ct63 : Value} {tx2 tx134 tx30 tx0 tx3 tx1 tx133 tx37 tx46 tx45 tx116 tx44 tx42 tx32 tx43 tx34 tx40 tx39 tx38 tx35 tx4 tx29 tx41 tx115 tx36 tx33 tx28 tx31 tx119 tx120 tx122 tx123 tx125 tx126 tx128 tx129 tx131 tx132 tx14 tx15 tx17 tx18 tx20 tx21 tx23 tx24 tx26 tx27 tx7 tx8 tx10 tx11 tx49 tx50 tx52 tx53 tx56 tx57 tx89 tx90 tx92 tx93 tx95 tx96 tx98 tx99 tx101 tx102 tx104 tx105 tx107 tx108 tx110 tx111 tx113 tx114 tx60 tx61 tx63 tx64 tx66 tx67 tx69 tx70 tx72 tx73 tx75 tx76 tx78 tx79 tx81 tx82 tx84 tx85 tx87 tx88 : Tok} {nx117 nx118 nx121 nx124 nx127 nx130 nx12 nx13 nx16 nx19 nx22 nx25 nx5 nx6 nx9 nx47 nx48 nx51 nx54 nx55 nx58 nx91 nx94 nx97 nx100 nx103 nx106 nx109 nx112 nx59 nx62 nx65 nx68 nx71 nx74 nx77 nx80 nx83 nx86 : Nat}
 (q0 : nsIn K mainGlobals "StandingWarning" = some (some (.ref C_SW)))
 (q1 : plainGet K C_SW Str.empty = true)
 (q2 : hasDictIn K C_SW = true)
 (q3 : plainOver K C_SW = true)
 (q4 : findIn K (.ref C_SW) "__setattr__" = some (some (.builtin "object.__setattr__")))
 (q5 : makesIn K C_SW = true)
 (q6 : keepIn K (.ref C_SW) = true)
 (q7 : findIn K (.ref C_SW) "cause" = some none)
 (q8 : findIn K (.ref C_SW) "needed" = some none)
 (q9 : findIn K (.ref C_SW) "rank" = some none)
 (q10 : findIn K (.ref C_SW) "on_delay" = some none)
 (q11 : findIn K (.ref C_SW) "off_delay" = some none)
 (q12 : findIn K (.ref C_SW) "latch" = some none)
 (q13 : findIn K (.ref C_SW) "parts" = some none)
 (q14 : findIn K (.ref C_SW) "phases" = some none)
 (q15 : findIn K (.ref C_SW) "covers" = some none)
 (q16 : findIn K (.ref C_SW) "seconds_on" = some none)
 (q17 : findIn K (.ref C_SW) "seconds_off" = some none)
 (q18 : findIn K (.ref C_SW) "has_come" = some none)
 (q19 : findIn K (.ref C_SW) "came_at" = some none)
 (q20 : findIn K (.ref C_SW) "acknowledged" = some none)
 (q21 : findIn K (.ref C_SW) "cancelled" = some none)
 (q22 : findIn K (.ref C_SW) "shown_since" = some none)
 (q23 : findIn K (.ref C_SW) "times_come" = some none)
 (q24 : nsIn K mainGlobals "Panel" = some (some (.ref C_Panel)))
 (q25 : plainGet K C_Panel Str.empty = true)
 (q26 : hasDictIn K C_Panel = true)
 (q27 : plainOver K C_Panel = true)
 (q28 : findIn K (.ref C_Panel) "__setattr__" = some (some (.builtin "object.__setattr__")))
 (q29 : makesIn K C_Panel = true)
 (q30 : keepIn K (.ref C_Panel) = true)
 (q31 : findIn K (.ref C_Panel) "clock" = some none)
 (q32 : findIn K (.ref C_Panel) "phase" = some none)
 (q33 : findIn K (.ref C_Panel) "causes" = some none)
 (q34 : findIn K (.ref C_Panel) "warnings" = some none)
 (q35 : findIn K (.ref C_Panel) "log" = some none)
 (q36 : findIn K (.ref C_Panel) "events_ever" = some none)
 (a0 : nsIn K mainGlobals "log_event" = some (some (.ref f0)))
 (l0 : K.lookup f0 = some ⟨oc0, od0, .func (fnX "log_event" "log_event" s_0 kV0 dc0 pm0 an0 cd0 ct0), sl0⟩)
 (c0 : codeIn K cd0 "log_event" = true)
 (k0 : keepIn K (.ref f0) = true)
 (a1 : nsIn K mainGlobals "log_each" = some (some (.ref f1)))
 (l1 : K.lookup f1 = some ⟨oc1, od1, .func (fnX "log_each" "log_each" s_1 kV1 dc1 pm1 an1 cd1 ct1), sl1⟩)
 (c1 : codeIn K cd1 "log_each" = true)
 (k1 : keepIn K (.ref f1) = true)
 (a2 : nsIn K mainGlobals "is_within" = some (some (.ref f2)))
 (l2 : K.lookup f2 = some ⟨oc2, od2, .func (fnX "is_within" "is_within" s_2 kV2 dc2 pm2 an2 cd2 ct2), sl2⟩)
 (c2 : codeIn K cd2 "is_within" = true)
 (k2 : keepIn K (.ref f2) = true)
 (a3 : nsIn K mainGlobals "are_within" = some (some (.ref f3)))
 (l3 : K.lookup f3 = some ⟨oc3, od3, .func (fnX "are_within" "are_within" s_3 kV3 dc3 pm3 an3 cd3 ct3), sl3⟩)
 (c3 : codeIn K cd3 "are_within" = true)
 (k3 : keepIn K (.ref f3) = true)
 (a4 : nsIn K mainGlobals "is_rising_row" = some (some (.ref f4)))
 (l4 : K.lookup f4 = some ⟨oc4, od4, .func (fnX "is_rising_row" "is_rising_row" s_4 kV4 dc4 pm4 an4 cd4 ct4), sl4⟩)
 (c4 : codeIn K cd4 "is_rising_row" = true)
 (k4 : keepIn K (.ref f4) = true)
 (a5 : nsIn K mainGlobals "is_row_of_phases" = some (some (.ref f5)))
 (l5 : K.lookup f5 = some ⟨oc5, od5, .func (fnX "is_row_of_phases" "is_row_of_phases" s_5 kV5 dc5 pm5 an5 cd5 ct5), sl5⟩)
 (c5 : codeIn K cd5 "is_row_of_phases" = true)
 (k5 : keepIn K (.ref f5) = true)
 (a6 : nsIn K mainGlobals "is_row_of_warnings" = some (some (.ref f6)))
 (l6 : K.lookup f6 = some ⟨oc6, od6, .func (fnX "is_row_of_warnings" "is_row_of_warnings" s_6 kV6 dc6 pm6 an6 cd6 ct6), sl6⟩)
 (c6 : codeIn K cd6 "is_row_of_warnings" = true)
 (k6 : keepIn K (.ref f6) = true)
 (a7 : nsIn K mainGlobals "is_warning" = some (some (.ref f7)))
 (l7 : K.lookup f7 = some ⟨oc7, od7, .func (fnX "is_warning" "is_warning" s_7 kV7 dc7 pm7 an7 cd7 ct7), sl7⟩)
 (c7 : codeIn K cd7 "is_warning" = true)
 (k7 : keepIn K (.ref f7) = true)
 (a8 : nsIn K mainGlobals "is_full" = some (some (.ref f8)))
 (l8 : K.lookup f8 = some ⟨oc8, od8, .func (fnX "is_full" "is_full" s_8 kV8 dc8 pm8 an8 cd8 ct8), sl8⟩)
 (c8 : codeIn K cd8 "is_full" = true)
 (k8 : keepIn K (.ref f8) = true)
 (a9 : nsIn K mainGlobals "refusal_of_seconds" = some (some (.ref f9)))
 (l9 : K.lookup f9 = some ⟨oc9, od9, .func (fnX "refusal_of_seconds" "refusal_of_seconds" s_9 kV9 dc9 pm9 an9 cd9 ct9), sl9⟩)
 (c9 : codeIn K cd9 "refusal_of_seconds" = true)
 (k9 : keepIn K (.ref f9) = true)
 (a10 : nsIn K mainGlobals "is_held_back" = some (some (.ref f10)))
 (l10 : K.lookup f10 = some ⟨oc10, od10, .func (fnX "is_held_back" "is_held_back" s_10 kV10 dc10 pm10 an10 cd10 ct10), sl10⟩)
 (c10 : codeIn K cd10 "is_held_back" = true)
 (k10 : keepIn K (.ref f10) = true)
 (a11 : nsIn K mainGlobals "is_covered" = some (some (.ref f11)))
 (l11 : K.lookup f11 = some ⟨oc11, od11, .func (fnX "is_covered" "is_covered" s_11 kV11 dc11 pm11 an11 cd11 ct11), sl11⟩)
 (c11 : codeIn K cd11 "is_covered" = true)
 (k11 : keepIn K (.ref f11) = true)
 (a12 : nsIn K mainGlobals "shown_numbers" = some (some (.ref f12)))
 (l12 : K.lookup f12 = some ⟨oc12, od12, .func (fnX "shown_numbers" "shown_numbers" s_12 kV12 dc12 pm12 an12 cd12 ct12), sl12⟩)
 (c12 : codeIn K cd12 "shown_numbers" = true)
 (k12 : keepIn K (.ref f12) = true)
 (a13 : nsIn K mainGlobals "listed_numbers" = some (some (.ref f13)))
 (l13 : K.lookup f13 = some ⟨oc13, od13, .func (fnX "listed_numbers" "listed_numbers" s_13 kV13 dc13 pm13 an13 (.ref caL) ct13), sl13⟩)
 (c13 : codeIn K (.ref caL) "listed_numbers" = true)
 (k13 : keepIn K (.ref f13) = true)
 (a14 : nsIn K mainGlobals "unacknowledged_numbers" = some (some (.ref f14)))
 (l14 : K.lookup f14 = some ⟨oc14, od14, .func (fnX "unacknowledged_numbers" "unacknowledged_numbers" s_14 kV14 dc14 pm14 an14 cd14 ct14), sl14⟩)
 (c14 : codeIn K cd14 "unacknowledged_numbers" = true)
 (k14 : keepIn K (.ref f14) = true)
 (a15 : nsIn K mainGlobals "sound" = some (some (.ref f15)))
 (l15 : K.lookup f15 = some ⟨oc15, od15, .func (fnX "sound" "sound" s_15 kV15 dc15 pm15 an15 cd15 ct15), sl15⟩)
 (c15 : codeIn K cd15 "sound" = true)
 (k15 : keepIn K (.ref f15) = true)
 (a16 : nsIn K mainGlobals "mark_shown" = some (some (.ref f16)))
 (l16 : K.lookup f16 = some ⟨oc16, od16, .func (fnX "mark_shown" "mark_shown" s_16 kV16 dc16 pm16 an16 cd16 ct16), sl16⟩)
 (c16 : codeIn K cd16 "mark_shown" = true)
 (k16 : keepIn K (.ref f16) = true)
 (a17 : findIn K (.ref C_SW) "__init__" = some (some (.ref f17)))
 (i17 : isFn K (.ref f17) = true)
 (l17 : K.lookup f17 = some ⟨oc17, od17, .func (fnX "__init__" "StandingWarning.__init__" s_17 kV17 dc17 pm17 an17 cd17 ct17), sl17⟩)
 (c17 : codeIn K cd17 "StandingWarning.__init__" = true)
 (k17 : keepIn K (.ref f17) = true)
 (a18 : nsIn K mainGlobals "forget_the_crew" = some (some (.ref f18)))
 (l18 : K.lookup f18 = some ⟨oc18, od18, .func (fnX "forget_the_crew" "forget_the_crew" s_18 kV18 dc18 pm18 an18 cd18 ct18), sl18⟩)
 (c18 : codeIn K cd18 "forget_the_crew" = true)
 (k18 : keepIn K (.ref f18) = true)
 (a19 : nsIn K mainGlobals "come" = some (some (.ref f19)))
 (l19 : K.lookup f19 = some ⟨oc19, od19, .func (fnX "come" "come" s_19 kV19 dc19 pm19 an19 cd19 ct19), sl19⟩)
 (c19 : codeIn K cd19 "come" = true)
 (k19 : keepIn K (.ref f19) = true)
 (a20 : nsIn K mainGlobals "go" = some (some (.ref f20)))
 (l20 : K.lookup f20 = some ⟨oc20, od20, .func (fnX "go" "go" s_20 kV20 dc20 pm20 an20 cd20 ct20), sl20⟩)
 (c20 : codeIn K cd20 "go" = true)
 (k20 : keepIn K (.ref f20) = true)
 (a21 : nsIn K mainGlobals "copied_warning" = some (some (.ref f21)))
 (l21 : K.lookup f21 = some ⟨oc21, od21, .func (fnX "copied_warning" "copied_warning" s_21 kV21 dc21 pm21 an21 cd21 ct21), sl21⟩)
 (c21 : codeIn K cd21 "copied_warning" = true)
 (k21 : keepIn K (.ref f21) = true)
 (a22 : nsIn K mainGlobals "source_is_on" = some (some (.ref f22)))
 (l22 : K.lookup f22 = some ⟨oc22, od22, .func (fnX "source_is_on" "source_is_on" s_22 kV22 dc22 pm22 an22 cd22 ct22), sl22⟩)
 (c22 : codeIn K cd22 "source_is_on" = true)
 (k22 : keepIn K (.ref f22) = true)
 (a23 : nsIn K mainGlobals "count_seconds" = some (some (.ref f23)))
 (l23 : K.lookup f23 = some ⟨oc23, od23, .func (fnX "count_seconds" "count_seconds" s_23 kV23 dc23 pm23 an23 cd23 ct23), sl23⟩)
 (c23 : codeIn K cd23 "count_seconds" = true)
 (k23 : keepIn K (.ref f23) = true)
 (a24 : nsIn K mainGlobals "is_due_to_come" = some (some (.ref f24)))
 (l24 : K.lookup f24 = some ⟨oc24, od24, .func (fnX "is_due_to_come" "is_due_to_come" s_24 kV24 dc24 pm24 an24 cd24 ct24), sl24⟩)
 (c24 : codeIn K cd24 "is_due_to_come" = true)
 (k24 : keepIn K (.ref f24) = true)
 (a25 : nsIn K mainGlobals "is_due_to_go" = some (some (.ref f25)))
 (l25 : K.lookup f25 = some ⟨oc25, od25, .func (fnX "is_due_to_go" "is_due_to_go" s_25 kV25 dc25 pm25 an25 cd25 ct25), sl25⟩)
 (c25 : codeIn K cd25 "is_due_to_go" = true)
 (k25 : keepIn K (.ref f25) = true)
 (a26 : nsIn K mainGlobals "pass_second" = some (some (.ref f26)))
 (l26 : K.lookup f26 = some ⟨oc26, od26, .func (fnX "pass_second" "pass_second" s_26 kV26 dc26 pm26 an26 cd26 ct26), sl26⟩)
 (c26 : codeIn K cd26 "pass_second" = true)
 (k26 : keepIn K (.ref f26) = true)
 (a27 : nsIn K mainGlobals "quiet_seconds_of" = some (some (.ref f27)))
 (l27 : K.lookup f27 = some ⟨oc27, od27, .func (fnX "quiet_seconds_of" "quiet_seconds_of" s_27 kV27 dc27 pm27 an27 cd27 ct27), sl27⟩)
 (c27 : codeIn K cd27 "quiet_seconds_of" = true)
 (k27 : keepIn K (.ref f27) = true)
 (a28 : nsIn K mainGlobals "quiet_seconds" = some (some (.ref f28)))
 (l28 : K.lookup f28 = some ⟨oc28, od28, .func (fnX "quiet_seconds" "quiet_seconds" s_28 kV28 dc28 pm28 an28 cd28 ct28), sl28⟩)
 (c28 : codeIn K cd28 "quiet_seconds" = true)
 (k28 : keepIn K (.ref f28) = true)
 (a29 : nsIn K mainGlobals "skip_seconds" = some (some (.ref f29)))
 (l29 : K.lookup f29 = some ⟨oc29, od29, .func (fnX "skip_seconds" "skip_seconds" s_29 kV29 dc29 pm29 an29 cd29 ct29), sl29⟩)
 (c29 : codeIn K cd29 "skip_seconds" = true)
 (k29 : keepIn K (.ref f29) = true)
 (a30 : nsIn K mainGlobals "pass_stretch" = some (some (.ref f30)))
 (l30 : K.lookup f30 = some ⟨oc30, od30, .func (fnX "pass_stretch" "pass_stretch" s_30 kV30 dc30 pm30 an30 cd30 ct30), sl30⟩)
 (c30 : codeIn K cd30 "pass_stretch" = true)
 (k30 : keepIn K (.ref f30) = true)
 (a31 : nsIn K mainGlobals "pass_seconds" = some (some (.ref f31)))
 (l31 : K.lookup f31 = some ⟨oc31, od31, .func (fnX "pass_seconds" "pass_seconds" s_31 kV31 dc31 pm31 an31 cd31 ct31), sl31⟩)
 (c31 : codeIn K cd31 "pass_seconds" = true)
 (k31 : keepIn K (.ref f31) = true)
 (a32 : nsIn K mainGlobals "add_to_panel" = some (some (.ref f32)))
 (l32 : K.lookup f32 = some ⟨oc32, od32, .func (fnX "add_to_panel" "add_to_panel" s_32 kV32 dc32 pm32 an32 cd32 ct32), sl32⟩)
 (c32 : codeIn K cd32 "add_to_panel" = true)
 (k32 : keepIn K (.ref f32) = true)
 (a33 : nsIn K mainGlobals "add_warning" = some (some (.ref f33)))
 (l33 : K.lookup f33 = some ⟨oc33, od33, .func (fnX "add_warning" "add_warning" s_33 kV33 dc33 pm33 an33 cd33 ct33), sl33⟩)
 (c33 : codeIn K cd33 "add_warning" = true)
 (k33 : keepIn K (.ref f33) = true)
 (a34 : nsIn K mainGlobals "add_collector" = some (some (.ref f34)))
 (l34 : K.lookup f34 = some ⟨oc34, od34, .func (fnX "add_collector" "add_collector" s_34 kV34 dc34 pm34 an34 cd34 ct34), sl34⟩)
 (c34 : codeIn K cd34 "add_collector" = true)
 (k34 : keepIn K (.ref f34) = true)
 (a35 : nsIn K mainGlobals "set_cause" = some (some (.ref f35)))
 (l35 : K.lookup f35 = some ⟨oc35, od35, .func (fnX "set_cause" "set_cause" s_35 kV35 dc35 pm35 an35 cd35 ct35), sl35⟩)
 (c35 : codeIn K cd35 "set_cause" = true)
 (k35 : keepIn K (.ref f35) = true)
 (a36 : nsIn K mainGlobals "set_phase" = some (some (.ref f36)))
 (l36 : K.lookup f36 = some ⟨oc36, od36, .func (fnX "set_phase" "set_phase" s_36 kV36 dc36 pm36 an36 cd36 ct36), sl36⟩)
 (c36 : codeIn K cd36 "set_phase" = true)
 (k36 : keepIn K (.ref f36) = true)
 (a37 : nsIn K mainGlobals "tick" = some (some (.ref f37)))
 (l37 : K.lookup f37 = some ⟨oc37, od37, .func (fnX "tick" "tick" s_37 kV37 dc37 pm37 an37 cd37 ct37), sl37⟩)
 (c37 : codeIn K cd37 "tick" = true)
 (k37 : keepIn K (.ref f37) = true)
 (a38 : nsIn K mainGlobals "ack" = some (some (.ref f38)))
 (l38 : K.lookup f38 = some ⟨oc38, od38, .func (fnX "ack" "ack" s_38 kV38 dc38 pm38 an38 cd38 ct38), sl38⟩)
 (c38 : codeIn K cd38 "ack" = true)
 (k38 : keepIn K (.ref f38) = true)
 (a39 : nsIn K mainGlobals "ack_all" = some (some (.ref f39)))
 (l39 : K.lookup f39 = some ⟨oc39, od39, .func (fnX "ack_all" "ack_all" s_39 kV39 dc39 pm39 an39 cd39 ct39), sl39⟩)
 (c39 : codeIn K cd39 "ack_all" = true)
 (k39 : keepIn K (.ref f39) = true)
 (a40 : nsIn K mainGlobals "cancel" = some (some (.ref f40)))
 (l40 : K.lookup f40 = some ⟨oc40, od40, .func (fnX "cancel" "cancel" s_40 kV40 dc40 pm40 an40 cd40 ct40), sl40⟩)
 (c40 : codeIn K cd40 "cancel" = true)
 (k40 : keepIn K (.ref f40) = true)
 (a41 : nsIn K mainGlobals "recall" = some (some (.ref f41)))
 (l41 : K.lookup f41 = some ⟨oc41, od41, .func (fnX "recall" "recall" s_41 kV41 dc41 pm41 an41 cd41 ct41), sl41⟩)
 (c41 : codeIn K cd41 "recall" = true)
 (k41 : keepIn K (.ref f41) = true)
 (a42 : nsIn K mainGlobals "reset" = some (some (.ref f42)))
 (l42 : K.lookup f42 = some ⟨oc42, od42, .func (fnX "reset" "reset" s_42 kV42 dc42 pm42 an42 cd42 ct42), sl42⟩)
 (c42 : codeIn K cd42 "reset" = true)
 (k42 : keepIn K (.ref f42) = true)
 (a43 : findIn K (.ref C_Panel) "__init__" = some (some (.ref f43)))
 (i43 : isFn K (.ref f43) = true)
 (l43 : K.lookup f43 = some ⟨oc43, od43, .func (fnX "__init__" "Panel.__init__" s_43 kV43 dc43 pm43 an43 cd43 ct43), sl43⟩)
 (c43 : codeIn K cd43 "Panel.__init__" = true)
 (k43 : keepIn K (.ref f43) = true)
 (a44 : nsIn K mainGlobals "copied_panel" = some (some (.ref f44)))
 (l44 : K.lookup f44 = some ⟨oc44, od44, .func (fnX "copied_panel" "copied_panel" s_44 kV44 dc44 pm44 an44 cd44 ct44), sl44⟩)
 (c44 : codeIn K cd44 "copied_panel" = true)
 (k44 : keepIn K (.ref f44) = true)
 (a45 : nsIn K mainGlobals "panel_ahead" = some (some (.ref f45)))
 (l45 : K.lookup f45 = some ⟨oc45, od45, .func (fnX "panel_ahead" "panel_ahead" s_45 kV45 dc45 pm45 an45 cd45 ct45), sl45⟩)
 (c45 : codeIn K cd45 "panel_ahead" = true)
 (k45 : keepIn K (.ref f45) = true)
 (a46 : nsIn K mainGlobals "seconds_till_list_changes" = some (some (.ref f46)))
 (l46 : K.lookup f46 = some ⟨oc46, od46, .func (fnX "seconds_till_list_changes" "seconds_till_list_changes" s_46 kV46 dc46 pm46 an46 cd46 ct46), sl46⟩)
 (c46 : codeIn K cd46 "seconds_till_list_changes" = true)
 (k46 : keepIn K (.ref f46) = true)
 (a47 : nsIn K mainGlobals "row_behind_length" = some (some (.ref f47)))
 (l47 : K.lookup f47 = some ⟨oc47, od47, .func (fnX "row_behind_length" "row_behind_length" s_47 kV47 dc47 pm47 an47 cd47 ct47), sl47⟩)
 (c47 : codeIn K cd47 "row_behind_length" = true)
 (k47 : keepIn K (.ref f47) = true)
 (a48 : nsIn K mainGlobals "tell_list" = some (some (.ref f48)))
 (l48 : K.lookup f48 = some ⟨oc48, od48, .func (fnX "tell_list" "tell_list" s_48 kV48 dc48 pm48 an48 cd48 ct48), sl48⟩)
 (c48 : codeIn K cd48 "tell_list" = true)
 (k48 : keepIn K (.ref f48) = true)
 (a49 : nsIn K mainGlobals "tell_page" = some (some (.ref f49)))
 (l49 : K.lookup f49 = some ⟨oc49, od49, .func (fnX "tell_page" "tell_page" s_49 kV49 dc49 pm49 an49 cd49 ct49), sl49⟩)
 (c49 : codeIn K cd49 "tell_page" = true)
 (k49 : keepIn K (.ref f49) = true)
 (a50 : nsIn K mainGlobals "tell_why" = some (some (.ref f50)))
 (l50 : K.lookup f50 = some ⟨oc50, od50, .func (fnX "tell_why" "tell_why" s_50 kV50 dc50 pm50 an50 cd50 ct50), sl50⟩)
 (c50 : codeIn K cd50 "tell_why" = true)
 (k50 : keepIn K (.ref f50) = true)
 (a51 : nsIn K mainGlobals "tell_sound" = some (some (.ref f51)))
 (l51 : K.lookup f51 = some ⟨oc51, od51, .func (fnX "tell_sound" "tell_sound" s_51 kV51 dc51 pm51 an51 cd51 ct51), sl51⟩)
 (c51 : codeIn K cd51 "tell_sound" = true)
 (k51 : keepIn K (.ref f51) = true)
 (a52 : nsIn K mainGlobals "tell_stand" = some (some (.ref f52)))
 (l52 : K.lookup f52 = some ⟨oc52, od52, .func (fnX "tell_stand" "tell_stand" s_52 kV52 dc52 pm52 an52 cd52 ct52), sl52⟩)
 (c52 : codeIn K cd52 "tell_stand" = true)
 (k52 : keepIn K (.ref f52) = true)
 (a53 : nsIn K mainGlobals "tell_told" = some (some (.ref f53)))
 (l53 : K.lookup f53 = some ⟨oc53, od53, .func (fnX "tell_told" "tell_told" s_53 kV53 dc53 pm53 an53 cd53 ct53), sl53⟩)
 (c53 : codeIn K cd53 "tell_told" = true)
 (k53 : keepIn K (.ref f53) = true)
 (a54 : nsIn K mainGlobals "tell_log" = some (some (.ref f54)))
 (l54 : K.lookup f54 = some ⟨oc54, od54, .func (fnX "tell_log" "tell_log" s_54 kV54 dc54 pm54 an54 cd54 ct54), sl54⟩)
 (c54 : codeIn K cd54 "tell_log" = true)
 (k54 : keepIn K (.ref f54) = true)
 (a55 : nsIn K mainGlobals "tell_next" = some (some (.ref f55)))
 (l55 : K.lookup f55 = some ⟨oc55, od55, .func (fnX "tell_next" "tell_next" s_55 kV55 dc55 pm55 an55 cd55 ct55), sl55⟩)
 (c55 : codeIn K cd55 "tell_next" = true)
 (k55 : keepIn K (.ref f55) = true)
 (a56 : nsIn K mainGlobals "tell_ahead" = some (some (.ref f56)))
 (l56 : K.lookup f56 = some ⟨oc56, od56, .func (fnX "tell_ahead" "tell_ahead" s_56 kV56 dc56 pm56 an56 cd56 ct56), sl56⟩)
 (c56 : codeIn K cd56 "tell_ahead" = true)
 (k56 : keepIn K (.ref f56) = true)
 (a57 : nsIn K mainGlobals "tell_state" = some (some (.ref f57)))
 (l57 : K.lookup f57 = some ⟨oc57, od57, .func (fnX "tell_state" "tell_state" s_57 kV57 dc57 pm57 an57 cd57 ct57), sl57⟩)
 (c57 : codeIn K cd57 "tell_state" = true)
 (k57 : keepIn K (.ref f57) = true)
 (a58 : nsIn K mainGlobals "answer_changing_call" = some (some (.ref f58)))
 (l58 : K.lookup f58 = some ⟨oc58, od58, .func (fnX "answer_changing_call" "answer_changing_call" s_58 kV58 dc58 pm58 an58 cd58 ct58), sl58⟩)
 (c58 : codeIn K cd58 "answer_changing_call" = true)
 (k58 : keepIn K (.ref f58) = true)
 (a59 : nsIn K mainGlobals "answer_telling_call" = some (some (.ref f59)))
 (l59 : K.lookup f59 = some ⟨oc59, od59, .func (fnX "answer_telling_call" "answer_telling_call" s_59 kV59 dc59 pm59 an59 cd59 ct59), sl59⟩)
 (c59 : codeIn K cd59 "answer_telling_call" = true)
 (k59 : keepIn K (.ref f59) = true)
 (a60 : nsIn K mainGlobals "answer_call" = some (some (.ref f60)))
 (l60 : K.lookup f60 = some ⟨oc60, od60, .func (fnX "answer_call" "answer_call" s_60 kV60 dc60 pm60 an60 cd60 ct60), sl60⟩)
 (c60 : codeIn K cd60 "answer_call" = true)
 (k60 : keepIn K (.ref f60) = true)
 (a61 : nsIn K mainGlobals "read_rows" = some (some (.ref f61)))
 (l61 : K.lookup f61 = some ⟨oc61, od61, .func (fnX "read_rows" "read_rows" s_61 kV61 dc61 pm61 an61 cd61 ct61), sl61⟩)
 (c61 : codeIn K cd61 "read_rows" = true)
 (k61 : keepIn K (.ref f61) = true)
 (a62 : nsIn K mainGlobals "answer_line" = some (some (.ref f62)))
 (l62 : K.lookup f62 = some ⟨oc62, od62, .func (fnX "answer_line" "answer_line" s_62 kV62 dc62 pm62 an62 cd62 ct62), sl62⟩)
 (c62 : codeIn K cd62 "answer_line" = true)
 (k62 : keepIn K (.ref f62) = true)
 (a63 : nsIn K mainGlobals "answers" = some (some (.ref f63)))
 (l63 : K.lookup f63 = some ⟨oc63, od63, .func (fnX "answers" "answers" s_63 kV63 dc63 pm63 an63 cd63 ct63), sl63⟩)
 (c63 : codeIn K cd63 "answers" = true)
 (k63 : keepIn K (.ref f63) = true)
 {ccL : Value} {coL : Option Addr} {vsL : Array Value} {csL : Array (Option Value)} (tkL : K.lookup caL = some ⟨ccL, coL, .fields vsL, csL⟩) (tvL : vsL[11]? = some (.ref taL))
 (thL : codeHdIn K caL taL = true)
 (q37 : nsIn K mainGlobals "CAME" = some (some (.int 1 tx2)))
 (q38 : nsIn K mainGlobals "WENT" = some (some (.int 2 tx134)))
 (q39 : nsIn K mainGlobals "FIRST_SHOWN" = some (some (.int 3 tx30)))
 (q40 : nsIn K mainGlobals "ACKNOWLEDGED" = some (some (.int 4 tx0)))
 (q41 : nsIn K mainGlobals "CANCELLED" = some (some (.int 5 tx3)))
 (q42 : nsIn K mainGlobals "CALLED_BACK" = some (some (.int 6 tx1)))
 (q43 : nsIn K mainGlobals "WAS_RESET" = some (some (.int 7 tx133)))
 (q44 : nsIn K mainGlobals "KEPT_EVENTS" = some (some (.int 200 tx37)))
 (q45 : nsIn K mainGlobals "OUT_OF_RANGE" = some (some (.int (-1) tx46)))
 (q46 : nsIn K mainGlobals "NO_ROW_OF_WARNINGS" = some (some (.int (-4) tx45)))
 (q47 : nsIn K mainGlobals "TOO_FEW_PARTS" = some (some (.int (-5) tx116)))
 (q48 : nsIn K mainGlobals "NOT_SHOWN_OR_COME" = some (some (.int (-6) tx44)))
 (q49 : nsIn K mainGlobals "NOT_NOW" = some (some (.int (-7) tx42)))
 (q50 : nsIn K mainGlobals "FULL" = some (some (.int (-8) tx32)))
 (q51 : nsIn K mainGlobals "NOT_OF_THIS_KIND" = some (some (.int (-9) tx43)))
 (q52 : nsIn K mainGlobals "HIGHEST_PHASE" = some (some (.int 9 tx34)))
 (q53 : nsIn K mainGlobals "MOST_WARNINGS" = some (some (.int 24 tx40)))
 (q54 : nsIn K mainGlobals "LONGEST_TICK" = some (some (.int 600 tx39)))
 (q55 : nsIn K mainGlobals "LATEST_CLOCK" = some (some (.int 1000000000 tx38)))
 (q56 : nsIn K mainGlobals "HIGHEST_RANK" = some (some (.int 3 tx35)))
 (q57 : nsIn K mainGlobals "CAUSES" = some (some (.int 32 tx4)))
 (q58 : nsIn K mainGlobals "FARTHEST_NEXT" = some (some (.int 3600 tx29)))
 (q59 : nsIn K mainGlobals "NOT_COME" = some (some (.int 0 tx41)))
 (q60 : nsIn K mainGlobals "SHOWN" = some (some (.int 1 tx115)))
 (q61 : nsIn K mainGlobals "IS_CANCELLED" = some (some (.int 2 tx36)))
 (q62 : nsIn K mainGlobals "HELD_BACK" = some (some (.int 3 tx33)))
 (q63 : nsIn K mainGlobals "COVERED" = some (some (.int 4 tx28)))
 (q64 : nsIn K mainGlobals "FIRST_TELLING_PLACE" = some (some (.int 10 tx31)))
 (q65 : nsIn K mainGlobals "WARNING_RANGES" = some (some (.ref ax117)))
 (q66 : K.lookup ax117 = some ⟨.type "tuple", odx117, .seq #[.ref ax118, .ref ax121, .ref ax124, .ref ax127, .ref ax130] nx117, slx117⟩)
 (q67 : K.lookup ax118 = some ⟨.type "tuple", odx118, .seq #[.int 0 tx119, .int 31 tx120] nx118, slx118⟩)
 (q68 : K.lookup ax121 = some ⟨.type "tuple", odx121, .seq #[.int 1 tx122, .int 3 tx123] nx121, slx121⟩)
 (q69 : K.lookup ax124 = some ⟨.type "tuple", odx124, .seq #[.int 0 tx125, .int 3600 tx126] nx124, slx124⟩)
 (q70 : K.lookup ax127 = some ⟨.type "tuple", odx127, .seq #[.int 0 tx128, .int 3600 tx129] nx127, slx127⟩)
 (q71 : K.lookup ax130 = some ⟨.type "tuple", odx130, .seq #[.int 0 tx131, .int 1 tx132] nx130, slx130⟩)
 (q72 : nsIn K mainGlobals "COLLECTOR_RANGES" = some (some (.ref ax12)))
 (q73 : K.lookup ax12 = some ⟨.type "tuple", odx12, .seq #[.ref ax13, .ref ax16, .ref ax19, .ref ax22, .ref ax25] nx12, slx12⟩)
 (q74 : K.lookup ax13 = some ⟨.type "tuple", odx13, .seq #[.int 1 tx14, .int 24 tx15] nx13, slx13⟩)
 (q75 : K.lookup ax16 = some ⟨.type "tuple", odx16, .seq #[.int 1 tx17, .int 3 tx18] nx16, slx16⟩)
 (q76 : K.lookup ax19 = some ⟨.type "tuple", odx19, .seq #[.int 0 tx20, .int 3600 tx21] nx19, slx19⟩)
 (q77 : K.lookup ax22 = some ⟨.type "tuple", odx22, .seq #[.int 0 tx23, .int 3600 tx24] nx22, slx22⟩)
 (q78 : K.lookup ax25 = some ⟨.type "tuple", odx25, .seq #[.int 0 tx26, .int 1 tx27] nx25, slx25⟩)
 (q79 : nsIn K mainGlobals "CAUSE_RANGES" = some (some (.ref ax5)))
 (q80 : K.lookup ax5 = some ⟨.type "tuple", odx5, .seq #[.ref ax6, .ref ax9] nx5, slx5⟩)
 (q81 : K.lookup ax6 = some ⟨.type "tuple", odx6, .seq #[.int 0 tx7, .int 31 tx8] nx6, slx6⟩)
 (q82 : K.lookup ax9 = some ⟨.type "tuple", odx9, .seq #[.int 0 tx10, .int 1 tx11] nx9, slx9⟩)
 (q83 : nsIn K mainGlobals "PAGE_RANGES" = some (some (.ref ax47)))
 (q84 : K.lookup ax47 = some ⟨.type "tuple", odx47, .seq #[.ref ax48, .ref ax51] nx47, slx47⟩)
 (q85 : K.lookup ax48 = some ⟨.type "tuple", odx48, .seq #[.int 1 tx49, .int 8 tx50] nx48, slx48⟩)
 (q86 : K.lookup ax51 = some ⟨.type "tuple", odx51, .seq #[.int 0 tx52, .int 23 tx53] nx51, slx51⟩)
 (q87 : nsIn K mainGlobals "SHAPES" = some (some (.ref ax54)))
 (q88 : K.lookup ax54 = some ⟨.type "tuple", odx54, .seq #[.ref ax55, .ref ax58, .ref ax91, .ref ax94, .ref ax97, .ref ax100, .ref ax103, .ref ax106, .ref ax109, .ref ax112, .ref ax59, .ref ax62, .ref ax65, .ref ax68, .ref ax71, .ref ax74, .ref ax77, .ref ax80, .ref ax83, .ref ax86] nx54, slx54⟩)
 (q89 : K.lookup ax55 = some ⟨.type "tuple", odx55, .seq #[.int 5 tx56, .int 2 tx57] nx55, slx55⟩)
 (q90 : K.lookup ax58 = some ⟨.type "tuple", odx58, .seq #[.int 5 tx89, .int 3 tx90] nx58, slx58⟩)
 (q91 : K.lookup ax91 = some ⟨.type "tuple", odx91, .seq #[.int 2 tx92, .int 0 tx93] nx91, slx91⟩)
 (q92 : K.lookup ax94 = some ⟨.type "tuple", odx94, .seq #[.int 1 tx95, .int 0 tx96] nx94, slx94⟩)
 (q93 : K.lookup ax97 = some ⟨.type "tuple", odx97, .seq #[.int 1 tx98, .int 0 tx99] nx97, slx97⟩)
 (q94 : K.lookup ax100 = some ⟨.type "tuple", odx100, .seq #[.int 1 tx101, .int 0 tx102] nx100, slx100⟩)
 (q95 : K.lookup ax103 = some ⟨.type "tuple", odx103, .seq #[.int 0 tx104, .int 0 tx105] nx103, slx103⟩)
 (q96 : K.lookup ax106 = some ⟨.type "tuple", odx106, .seq #[.int 1 tx107, .int 0 tx108] nx106, slx106⟩)
 (q97 : K.lookup ax109 = some ⟨.type "tuple", odx109, .seq #[.int 0 tx110, .int 0 tx111] nx109, slx109⟩)
 (q98 : K.lookup ax112 = some ⟨.type "tuple", odx112, .seq #[.int 1 tx113, .int 0 tx114] nx112, slx112⟩)
 (q99 : K.lookup ax59 = some ⟨.type "tuple", odx59, .seq #[.int 0 tx60, .int 0 tx61] nx59, slx59⟩)
 (q100 : K.lookup ax62 = some ⟨.type "tuple", odx62, .seq #[.int 2 tx63, .int 0 tx64] nx62, slx62⟩)
 (q101 : K.lookup ax65 = some ⟨.type "tuple", odx65, .seq #[.int 1 tx66, .int 0 tx67] nx65, slx65⟩)
 (q102 : K.lookup ax68 = some ⟨.type "tuple", odx68, .seq #[.int 0 tx69, .int 0 tx70] nx68, slx68⟩)
 (q103 : K.lookup ax71 = some ⟨.type "tuple", odx71, .seq #[.int 1 tx72, .int 0 tx73] nx71, slx71⟩)
 (q104 : K.lookup ax74 = some ⟨.type "tuple", odx74, .seq #[.int 1 tx75, .int 0 tx76] nx74, slx74⟩)
 (q105 : K.lookup ax77 = some ⟨.type "tuple", odx77, .seq #[.int 0 tx78, .int 0 tx79] nx77, slx77⟩)
 (q106 : K.lookup ax80 = some ⟨.type "tuple", odx80, .seq #[.int 0 tx81, .int 0 tx82] nx80, slx80⟩)
 (q107 : K.lookup ax83 = some ⟨.type "tuple", odx83, .seq #[.int 1 tx84, .int 0 tx85] nx83, slx83⟩)
 (q108 : K.lookup ax86 = some ⟨.type "tuple", odx86, .seq #[.int 0 tx87, .int 0 tx88] nx86, slx86⟩)
 (q109 : nsIn K mainGlobals "all" = some none)
 (q110 : nsIn K mainGlobals "any" = some none)
 (q111 : nsIn K mainGlobals "enumerate" = some none)
 (q112 : nsIn K mainGlobals "int" = some none)
 (q113 : nsIn K mainGlobals "len" = some none)
 (q114 : nsIn K mainGlobals "list" = some none)
 (q115 : nsIn K mainGlobals "min" = some none)
 (q116 : nsIn K mainGlobals "range" = some none)
 (q117 : nsIn K mainGlobals "sorted" = some none)
 (q118 : nsIn K mainGlobals "sum" = some none)
 (q119 : nsIn K mainGlobals "zip" = some none)
  : ∃ d : Ad, Tx K mg d ∧ d.f_63 = f63 ∧ d.ca_13 = caL ∧ d.ta_13 = taL := by
 have F0 := fun_mk (st := s_0) l0 c0 k0
 have F1 := fun_mk (st := s_1) l1 c1 k1
 have F2 := fun_mk (st := s_2) l2 c2 k2
 have F3 := fun_mk (st := s_3) l3 c3 k3
 have F4 := fun_mk (st := s_4) l4 c4 k4
 have F5 := fun_mk (st := s_5) l5 c5 k5
 have F6 := fun_mk (st := s_6) l6 c6 k6
 have F7 := fun_mk (st := s_7) l7 c7 k7
 have F8 := fun_mk (st := s_8) l8 c8 k8
 have F9 := fun_mk (st := s_9) l9 c9 k9
 have F10 := fun_mk (st := s_10) l10 c10 k10
 have F11 := fun_mk (st := s_11) l11 c11 k11
 have F12 := fun_mk (st := s_12) l12 c12 k12
 have F13 := fun_mk (st := s_13) l13 c13 k13
 have F14 := fun_mk (st := s_14) l14 c14 k14
 have F15 := fun_mk (st := s_15) l15 c15 k15
 have F16 := fun_mk (st := s_16) l16 c16 k16
 have F17 := fun_mk (st := s_17) l17 c17 k17
 have F18 := fun_mk (st := s_18) l18 c18 k18
 have F19 := fun_mk (st := s_19) l19 c19 k19
 have F20 := fun_mk (st := s_20) l20 c20 k20
 have F21 := fun_mk (st := s_21) l21 c21 k21
 have F22 := fun_mk (st := s_22) l22 c22 k22
 have F23 := fun_mk (st := s_23) l23 c23 k23
 have F24 := fun_mk (st := s_24) l24 c24 k24
 have F25 := fun_mk (st := s_25) l25 c25 k25
 have F26 := fun_mk (st := s_26) l26 c26 k26
 have F27 := fun_mk (st := s_27) l27 c27 k27
 have F28 := fun_mk (st := s_28) l28 c28 k28
 have F29 := fun_mk (st := s_29) l29 c29 k29
 have F30 := fun_mk (st := s_30) l30 c30 k30
 have F31 := fun_mk (st := s_31) l31 c31 k31
 have F32 := fun_mk (st := s_32) l32 c32 k32
 have F33 := fun_mk (st := s_33) l33 c33 k33
 have F34 := fun_mk (st := s_34) l34 c34 k34
 have F35 := fun_mk (st := s_35) l35 c35 k35
 have F36 := fun_mk (st := s_36) l36 c36 k36
 have F37 := fun_mk (st := s_37) l37 c37 k37
 have F38 := fun_mk (st := s_38) l38 c38 k38
 have F39 := fun_mk (st := s_39) l39 c39 k39
 have F40 := fun_mk (st := s_40) l40 c40 k40
 have F41 := fun_mk (st := s_41) l41 c41 k41
 have F42 := fun_mk (st := s_42) l42 c42 k42
 have F43 := fun_mk (st := s_43) l43 c43 k43
 have F44 := fun_mk (st := s_44) l44 c44 k44
 have F45 := fun_mk (st := s_45) l45 c45 k45
 have F46 := fun_mk (st := s_46) l46 c46 k46
 have F47 := fun_mk (st := s_47) l47 c47 k47
 have F48 := fun_mk (st := s_48) l48 c48 k48
 have F49 := fun_mk (st := s_49) l49 c49 k49
 have F50 := fun_mk (st := s_50) l50 c50 k50
 have F51 := fun_mk (st := s_51) l51 c51 k51
 have F52 := fun_mk (st := s_52) l52 c52 k52
 have F53 := fun_mk (st := s_53) l53 c53 k53
 have F54 := fun_mk (st := s_54) l54 c54 k54
 have F55 := fun_mk (st := s_55) l55 c55 k55
 have F56 := fun_mk (st := s_56) l56 c56 k56
 have F57 := fun_mk (st := s_57) l57 c57 k57
 have F58 := fun_mk (st := s_58) l58 c58 k58
 have F59 := fun_mk (st := s_59) l59 c59 k59
 have F60 := fun_mk (st := s_60) l60 c60 k60
 have F61 := fun_mk (st := s_61) l61 c61 k61
 have F62 := fun_mk (st := s_62) l62 c62 k62
 have F63 := fun_mk (st := s_63) l63 c63 k63
 refine ⟨⟨C_SW,
  C_Panel,
  f0,
  fnX "log_event" "log_event" s_0 kV0 dc0 pm0 an0 cd0 ct0,
  f1,
  fnX "log_each" "log_each" s_1 kV1 dc1 pm1 an1 cd1 ct1,
  f2,
  fnX "is_within" "is_within" s_2 kV2 dc2 pm2 an2 cd2 ct2,
  f3,
  fnX "are_within" "are_within" s_3 kV3 dc3 pm3 an3 cd3 ct3,
  f4,
  fnX "is_rising_row" "is_rising_row" s_4 kV4 dc4 pm4 an4 cd4 ct4,
  f5,
  fnX "is_row_of_phases" "is_row_of_phases" s_5 kV5 dc5 pm5 an5 cd5 ct5,
  f6,
  fnX "is_row_of_warnings" "is_row_of_warnings" s_6 kV6 dc6 pm6 an6 cd6 ct6,
  f7,
  fnX "is_warning" "is_warning" s_7 kV7 dc7 pm7 an7 cd7 ct7,
  f8,
  fnX "is_full" "is_full" s_8 kV8 dc8 pm8 an8 cd8 ct8,
  f9,
  fnX "refusal_of_seconds" "refusal_of_seconds" s_9 kV9 dc9 pm9 an9 cd9 ct9,
  f10,
  fnX "is_held_back" "is_held_back" s_10 kV10 dc10 pm10 an10 cd10 ct10,
  f11,
  fnX "is_covered" "is_covered" s_11 kV11 dc11 pm11 an11 cd11 ct11,
  f12,
  fnX "shown_numbers" "shown_numbers" s_12 kV12 dc12 pm12 an12 cd12 ct12,
  f13,
  fnX "listed_numbers" "listed_numbers" s_13 kV13 dc13 pm13 an13 (.ref caL) ct13,
  f14,
  fnX "unacknowledged_numbers" "unacknowledged_numbers" s_14 kV14 dc14 pm14 an14 cd14 ct14,
  f15,
  fnX "sound" "sound" s_15 kV15 dc15 pm15 an15 cd15 ct15,
  f16,
  fnX "mark_shown" "mark_shown" s_16 kV16 dc16 pm16 an16 cd16 ct16,
  f17,
  fnX "__init__" "StandingWarning.__init__" s_17 kV17 dc17 pm17 an17 cd17 ct17,
  f18,
  fnX "forget_the_crew" "forget_the_crew" s_18 kV18 dc18 pm18 an18 cd18 ct18,
  f19,
  fnX "come" "come" s_19 kV19 dc19 pm19 an19 cd19 ct19,
  f20,
  fnX "go" "go" s_20 kV20 dc20 pm20 an20 cd20 ct20,
  f21,
  fnX "copied_warning" "copied_warning" s_21 kV21 dc21 pm21 an21 cd21 ct21,
  f22,
  fnX "source_is_on" "source_is_on" s_22 kV22 dc22 pm22 an22 cd22 ct22,
  f23,
  fnX "count_seconds" "count_seconds" s_23 kV23 dc23 pm23 an23 cd23 ct23,
  f24,
  fnX "is_due_to_come" "is_due_to_come" s_24 kV24 dc24 pm24 an24 cd24 ct24,
  f25,
  fnX "is_due_to_go" "is_due_to_go" s_25 kV25 dc25 pm25 an25 cd25 ct25,
  f26,
  fnX "pass_second" "pass_second" s_26 kV26 dc26 pm26 an26 cd26 ct26,
  f27,
  fnX "quiet_seconds_of" "quiet_seconds_of" s_27 kV27 dc27 pm27 an27 cd27 ct27,
  f28,
  fnX "quiet_seconds" "quiet_seconds" s_28 kV28 dc28 pm28 an28 cd28 ct28,
  f29,
  fnX "skip_seconds" "skip_seconds" s_29 kV29 dc29 pm29 an29 cd29 ct29,
  f30,
  fnX "pass_stretch" "pass_stretch" s_30 kV30 dc30 pm30 an30 cd30 ct30,
  f31,
  fnX "pass_seconds" "pass_seconds" s_31 kV31 dc31 pm31 an31 cd31 ct31,
  f32,
  fnX "add_to_panel" "add_to_panel" s_32 kV32 dc32 pm32 an32 cd32 ct32,
  f33,
  fnX "add_warning" "add_warning" s_33 kV33 dc33 pm33 an33 cd33 ct33,
  f34,
  fnX "add_collector" "add_collector" s_34 kV34 dc34 pm34 an34 cd34 ct34,
  f35,
  fnX "set_cause" "set_cause" s_35 kV35 dc35 pm35 an35 cd35 ct35,
  f36,
  fnX "set_phase" "set_phase" s_36 kV36 dc36 pm36 an36 cd36 ct36,
  f37,
  fnX "tick" "tick" s_37 kV37 dc37 pm37 an37 cd37 ct37,
  f38,
  fnX "ack" "ack" s_38 kV38 dc38 pm38 an38 cd38 ct38,
  f39,
  fnX "ack_all" "ack_all" s_39 kV39 dc39 pm39 an39 cd39 ct39,
  f40,
  fnX "cancel" "cancel" s_40 kV40 dc40 pm40 an40 cd40 ct40,
  f41,
  fnX "recall" "recall" s_41 kV41 dc41 pm41 an41 cd41 ct41,
  f42,
  fnX "reset" "reset" s_42 kV42 dc42 pm42 an42 cd42 ct42,
  f43,
  fnX "__init__" "Panel.__init__" s_43 kV43 dc43 pm43 an43 cd43 ct43,
  f44,
  fnX "copied_panel" "copied_panel" s_44 kV44 dc44 pm44 an44 cd44 ct44,
  f45,
  fnX "panel_ahead" "panel_ahead" s_45 kV45 dc45 pm45 an45 cd45 ct45,
  f46,
  fnX "seconds_till_list_changes" "seconds_till_list_changes" s_46 kV46 dc46 pm46 an46 cd46 ct46,
  f47,
  fnX "row_behind_length" "row_behind_length" s_47 kV47 dc47 pm47 an47 cd47 ct47,
  f48,
  fnX "tell_list" "tell_list" s_48 kV48 dc48 pm48 an48 cd48 ct48,
  f49,
  fnX "tell_page" "tell_page" s_49 kV49 dc49 pm49 an49 cd49 ct49,
  f50,
  fnX "tell_why" "tell_why" s_50 kV50 dc50 pm50 an50 cd50 ct50,
  f51,
  fnX "tell_sound" "tell_sound" s_51 kV51 dc51 pm51 an51 cd51 ct51,
  f52,
  fnX "tell_stand" "tell_stand" s_52 kV52 dc52 pm52 an52 cd52 ct52,
  f53,
  fnX "tell_told" "tell_told" s_53 kV53 dc53 pm53 an53 cd53 ct53,
  f54,
  fnX "tell_log" "tell_log" s_54 kV54 dc54 pm54 an54 cd54 ct54,
  f55,
  fnX "tell_next" "tell_next" s_55 kV55 dc55 pm55 an55 cd55 ct55,
  f56,
  fnX "tell_ahead" "tell_ahead" s_56 kV56 dc56 pm56 an56 cd56 ct56,
  f57,
  fnX "tell_state" "tell_state" s_57 kV57 dc57 pm57 an57 cd57 ct57,
  f58,
  fnX "answer_changing_call" "answer_changing_call" s_58 kV58 dc58 pm58 an58 cd58 ct58,
  f59,
  fnX "answer_telling_call" "answer_telling_call" s_59 kV59 dc59 pm59 an59 cd59 ct59,
  f60,
  fnX "answer_call" "answer_call" s_60 kV60 dc60 pm60 an60 cd60 ct60,
  f61,
  fnX "read_rows" "read_rows" s_61 kV61 dc61 pm61 an61 cd61 ct61,
  f62,
  fnX "answer_line" "answer_line" s_62 kV62 dc62 pm62 an62 cd62 ct62,
  f63,
  fnX "answers" "answers" s_63 kV63 dc63 pm63 an63 cd63 ct63,
  caL,
  taL,
  ax117,
  ax118,
  ax121,
  ax124,
  ax127,
  ax130,
  ax12,
  ax13,
  ax16,
  ax19,
  ax22,
  ax25,
  ax5,
  ax6,
  ax9,
  ax47,
  ax48,
  ax51,
  ax54,
  ax55,
  ax58,
  ax91,
  ax94,
  ax97,
  ax100,
  ax103,
  ax106,
  ax109,
  ax112,
  ax59,
  ax62,
  ax65,
  ax68,
  ax71,
  ax74,
  ax77,
  ax80,
  ax83,
  ax86⟩, ?_, rfl, rfl, rfl⟩
 exact {
  cl_SW := ⟨q1, q2, q3, q4⟩
  mk_SW := ⟨q5, a17, i17, q6⟩
  mg_SW := mg_of X G q0
  n_SW_cause := q7
  n_SW_needed := q8
  n_SW_rank := q9
  n_SW_on_delay := q10
  n_SW_off_delay := q11
  n_SW_latch := q12
  n_SW_parts := q13
  n_SW_phases := q14
  n_SW_covers := q15
  n_SW_seconds_on := q16
  n_SW_seconds_off := q17
  n_SW_has_come := q18
  n_SW_came_at := q19
  n_SW_acknowledged := q20
  n_SW_cancelled := q21
  n_SW_shown_since := q22
  n_SW_times_come := q23
  cl_Panel := ⟨q25, q26, q27, q28⟩
  mk_Panel := ⟨q29, a43, i43, q30⟩
  mg_Panel := mg_of X G q24
  n_Panel_clock := q31
  n_Panel_phase := q32
  n_Panel_causes := q33
  n_Panel_warnings := q34
  n_Panel_log := q35
  n_Panel_events_ever := q36
  F_0 := F0
  b_0 := fb3 F0
  mg_0 := mg_of X G a0
  F_1 := F1
  b_1 := fb3 F1
  mg_1 := mg_of X G a1
  F_2 := F2
  b_2 := fb3 F2
  mg_2 := mg_of X G a2
  F_3 := F3
  b_3 := fb2 F3
  mg_3 := mg_of X G a3
  F_4 := F4
  b_4 := fb3 F4
  mg_4 := mg_of X G a4
  F_5 := F5
  b_5 := fb1 F5
  mg_5 := mg_of X G a5
  F_6 := F6
  b_6 := fb2 F6
  mg_6 := mg_of X G a6
  F_7 := F7
  b_7 := fb2 F7
  mg_7 := mg_of X G a7
  F_8 := F8
  b_8 := fb1 F8
  mg_8 := mg_of X G a8
  F_9 := F9
  b_9 := fb2 F9
  mg_9 := mg_of X G a9
  F_10 := F10
  b_10 := fb2 F10
  mg_10 := mg_of X G a10
  F_11 := F11
  b_11 := fb2 F11
  mg_11 := mg_of X G a11
  F_12 := F12
  b_12 := fb1 F12
  mg_12 := mg_of X G a12
  F_13 := F13
  b_13 := fb1 F13
  mg_13 := mg_of X G a13
  F_14 := F14
  b_14 := fb1 F14
  mg_14 := mg_of X G a14
  F_15 := F15
  b_15 := fb1 F15
  mg_15 := mg_of X G a15
  F_16 := F16
  b_16 := fb2 F16
  mg_16 := mg_of X G a16
  F_17 := F17
  b_17 := F17.binds (ps := ["self", "cause", "needed", "rank", "on_delay", "off_delay", "latch", "parts", "phases", "covers"]) fun _ _ _ _ _ _ us hl => match us, hl with | [_, _, _, _, _, _, _, _, _, _], _ => rfl
  F_18 := F18
  b_18 := fb1 F18
  mg_18 := mg_of X G a18
  F_19 := F19
  b_19 := fb2 F19
  mg_19 := mg_of X G a19
  F_20 := F20
  b_20 := fb1 F20
  mg_20 := mg_of X G a20
  F_21 := F21
  b_21 := fb1 F21
  mg_21 := mg_of X G a21
  F_22 := F22
  b_22 := fb2 F22
  mg_22 := mg_of X G a22
  F_23 := F23
  b_23 := fb3 F23
  mg_23 := mg_of X G a23
  F_24 := F24
  b_24 := fb1 F24
  mg_24 := mg_of X G a24
  F_25 := F25
  b_25 := fb1 F25
  mg_25 := mg_of X G a25
  F_26 := F26
  b_26 := fb1 F26
  mg_26 := mg_of X G a26
  F_27 := F27
  b_27 := fb3 F27
  mg_27 := mg_of X G a27
  F_28 := F28
  b_28 := fb2 F28
  mg_28 := mg_of X G a28
  F_29 := F29
  b_29 := fb2 F29
  mg_29 := mg_of X G a29
  F_30 := F30
  b_30 := fb2 F30
  mg_30 := mg_of X G a30
  F_31 := F31
  b_31 := fb2 F31
  mg_31 := mg_of X G a31
  F_32 := F32
  b_32 := fb2 F32
  mg_32 := mg_of X G a32
  F_33 := F33
  b_33 := fb4 F33
  mg_33 := mg_of X G a33
  F_34 := F34
  b_34 := fb5 F34
  mg_34 := mg_of X G a34
  F_35 := F35
  b_35 := fb3 F35
  mg_35 := mg_of X G a35
  F_36 := F36
  b_36 := fb2 F36
  mg_36 := mg_of X G a36
  F_37 := F37
  b_37 := fb2 F37
  mg_37 := mg_of X G a37
  F_38 := F38
  b_38 := fb2 F38
  mg_38 := mg_of X G a38
  F_39 := F39
  b_39 := fb1 F39
  mg_39 := mg_of X G a39
  F_40 := F40
  b_40 := fb2 F40
  mg_40 := mg_of X G a40
  F_41 := F41
  b_41 := fb1 F41
  mg_41 := mg_of X G a41
  F_42 := F42
  b_42 := fb2 F42
  mg_42 := mg_of X G a42
  F_43 := F43
  b_43 := fb1 F43
  F_44 := F44
  b_44 := fb1 F44
  mg_44 := mg_of X G a44
  F_45 := F45
  b_45 := fb2 F45
  mg_45 := mg_of X G a45
  F_46 := F46
  b_46 := fb2 F46
  mg_46 := mg_of X G a46
  F_47 := F47
  b_47 := fb1 F47
  mg_47 := mg_of X G a47
  F_48 := F48
  b_48 := fb1 F48
  mg_48 := mg_of X G a48
  F_49 := F49
  b_49 := fb3 F49
  mg_49 := mg_of X G a49
  F_50 := F50
  b_50 := fb2 F50
  mg_50 := mg_of X G a50
  F_51 := F51
  b_51 := fb1 F51
  mg_51 := mg_of X G a51
  F_52 := F52
  b_52 := fb2 F52
  mg_52 := mg_of X G a52
  F_53 := F53
  b_53 := fb2 F53
  mg_53 := mg_of X G a53
  F_54 := F54
  b_54 := fb1 F54
  mg_54 := mg_of X G a54
  F_55 := F55
  b_55 := fb1 F55
  mg_55 := mg_of X G a55
  F_56 := F56
  b_56 := fb2 F56
  mg_56 := mg_of X G a56
  F_57 := F57
  b_57 := fb1 F57
  mg_57 := mg_of X G a57
  F_58 := F58
  b_58 := fb4 F58
  mg_58 := mg_of X G a58
  F_59 := F59
  b_59 := fb3 F59
  mg_59 := mg_of X G a59
  F_60 := F60
  b_60 := fb4 F60
  mg_60 := mg_of X G a60
  F_61 := F61
  b_61 := fb3 F61
  mg_61 := mg_of X G a61
  F_62 := F62
  b_62 := fb2 F62
  mg_62 := mg_of X G a62
  F_63 := F63
  b_63 := fb1 F63
  mg_63 := mg_of X G a63
  c_CAME := ⟨tx2, mg_of X G q37⟩
  c_WENT := ⟨tx134, mg_of X G q38⟩
  c_FIRST_SHOWN := ⟨tx30, mg_of X G q39⟩
  c_ACKNOWLEDGED := ⟨tx0, mg_of X G q40⟩
  c_CANCELLED := ⟨tx3, mg_of X G q41⟩
  c_CALLED_BACK := ⟨tx1, mg_of X G q42⟩
  c_WAS_RESET := ⟨tx133, mg_of X G q43⟩
  c_KEPT_EVENTS := ⟨tx37, mg_of X G q44⟩
  c_OUT_OF_RANGE := ⟨tx46, mg_of X G q45⟩
  c_NO_ROW_OF_WARNINGS := ⟨tx45, mg_of X G q46⟩
  c_TOO_FEW_PARTS := ⟨tx116, mg_of X G q47⟩
  c_NOT_SHOWN_OR_COME := ⟨tx44, mg_of X G q48⟩
  c_NOT_NOW := ⟨tx42, mg_of X G q49⟩
  c_FULL := ⟨tx32, mg_of X G q50⟩
  c_NOT_OF_THIS_KIND := ⟨tx43, mg_of X G q51⟩
  c_HIGHEST_PHASE := ⟨tx34, mg_of X G q52⟩
  c_MOST_WARNINGS := ⟨tx40, mg_of X G q53⟩
  c_LONGEST_TICK := ⟨tx39, mg_of X G q54⟩
  c_LATEST_CLOCK := ⟨tx38, mg_of X G q55⟩
  c_HIGHEST_RANK := ⟨tx35, mg_of X G q56⟩
  c_CAUSES := ⟨tx4, mg_of X G q57⟩
  c_FARTHEST_NEXT := ⟨tx29, mg_of X G q58⟩
  c_NOT_COME := ⟨tx41, mg_of X G q59⟩
  c_SHOWN := ⟨tx115, mg_of X G q60⟩
  c_IS_CANCELLED := ⟨tx36, mg_of X G q61⟩
  c_HELD_BACK := ⟨tx33, mg_of X G q62⟩
  c_COVERED := ⟨tx28, mg_of X G q63⟩
  c_FIRST_TELLING_PLACE := ⟨tx31, mg_of X G q64⟩
  mg_WARNING_RANGES := mg_of X G q65
  k_WARNING_RANGES := ⟨_, _, _, q66, rfl, rfl, (by show 5 ≤ sizeLine; decide), (.cons rfl (.cons rfl (.cons rfl (.cons rfl (.cons rfl (.nil))))))⟩
  k_WARNING_RANGES_0 := ⟨_, _, _, q67, rfl, rfl, (by show 2 ≤ sizeLine; decide), (.cons ⟨_, rfl⟩ (.cons ⟨_, rfl⟩ (.nil)))⟩
  k_WARNING_RANGES_1 := ⟨_, _, _, q68, rfl, rfl, (by show 2 ≤ sizeLine; decide), (.cons ⟨_, rfl⟩ (.cons ⟨_, rfl⟩ (.nil)))⟩
  k_WARNING_RANGES_2 := ⟨_, _, _, q69, rfl, rfl, (by show 2 ≤ sizeLine; decide), (.cons ⟨_, rfl⟩ (.cons ⟨_, rfl⟩ (.nil)))⟩
  k_WARNING_RANGES_3 := ⟨_, _, _, q70, rfl, rfl, (by show 2 ≤ sizeLine; decide), (.cons ⟨_, rfl⟩ (.cons ⟨_, rfl⟩ (.nil)))⟩
  k_WARNING_RANGES_4 := ⟨_, _, _, q71, rfl, rfl, (by show 2 ≤ sizeLine; decide), (.cons ⟨_, rfl⟩ (.cons ⟨_, rfl⟩ (.nil)))⟩
  mg_COLLECTOR_RANGES := mg_of X G q72
  k_COLLECTOR_RANGES := ⟨_, _, _, q73, rfl, rfl, (by show 5 ≤ sizeLine; decide), (.cons rfl (.cons rfl (.cons rfl (.cons rfl (.cons rfl (.nil))))))⟩
  k_COLLECTOR_RANGES_0 := ⟨_, _, _, q74, rfl, rfl, (by show 2 ≤ sizeLine; decide), (.cons ⟨_, rfl⟩ (.cons ⟨_, rfl⟩ (.nil)))⟩
  k_COLLECTOR_RANGES_1 := ⟨_, _, _, q75, rfl, rfl, (by show 2 ≤ sizeLine; decide), (.cons ⟨_, rfl⟩ (.cons ⟨_, rfl⟩ (.nil)))⟩
  k_COLLECTOR_RANGES_2 := ⟨_, _, _, q76, rfl, rfl, (by show 2 ≤ sizeLine; decide), (.cons ⟨_, rfl⟩ (.cons ⟨_, rfl⟩ (.nil)))⟩
  k_COLLECTOR_RANGES_3 := ⟨_, _, _, q77, rfl, rfl, (by show 2 ≤ sizeLine; decide), (.cons ⟨_, rfl⟩ (.cons ⟨_, rfl⟩ (.nil)))⟩
  k_COLLECTOR_RANGES_4 := ⟨_, _, _, q78, rfl, rfl, (by show 2 ≤ sizeLine; decide), (.cons ⟨_, rfl⟩ (.cons ⟨_, rfl⟩ (.nil)))⟩
  mg_CAUSE_RANGES := mg_of X G q79
  k_CAUSE_RANGES := ⟨_, _, _, q80, rfl, rfl, (by show 2 ≤ sizeLine; decide), (.cons rfl (.cons rfl (.nil)))⟩
  k_CAUSE_RANGES_0 := ⟨_, _, _, q81, rfl, rfl, (by show 2 ≤ sizeLine; decide), (.cons ⟨_, rfl⟩ (.cons ⟨_, rfl⟩ (.nil)))⟩
  k_CAUSE_RANGES_1 := ⟨_, _, _, q82, rfl, rfl, (by show 2 ≤ sizeLine; decide), (.cons ⟨_, rfl⟩ (.cons ⟨_, rfl⟩ (.nil)))⟩
  mg_PAGE_RANGES := mg_of X G q83
  k_PAGE_RANGES := ⟨_, _, _, q84, rfl, rfl, (by show 2 ≤ sizeLine; decide), (.cons rfl (.cons rfl (.nil)))⟩
  k_PAGE_RANGES_0 := ⟨_, _, _, q85, rfl, rfl, (by show 2 ≤ sizeLine; decide), (.cons ⟨_, rfl⟩ (.cons ⟨_, rfl⟩ (.nil)))⟩
  k_PAGE_RANGES_1 := ⟨_, _, _, q86, rfl, rfl, (by show 2 ≤ sizeLine; decide), (.cons ⟨_, rfl⟩ (.cons ⟨_, rfl⟩ (.nil)))⟩
  mg_SHAPES := mg_of X G q87
  k_SHAPES := ⟨_, _, _, q88, rfl, rfl, (by show 20 ≤ sizeLine; decide), (.cons rfl (.cons rfl (.cons rfl (.cons rfl (.cons rfl (.cons rfl (.cons rfl (.cons rfl (.cons rfl (.cons rfl (.cons rfl (.cons rfl (.cons rfl (.cons rfl (.cons rfl (.cons rfl (.cons rfl (.cons rfl (.cons rfl (.cons rfl (.nil)))))))))))))))))))))⟩
  k_SHAPES_0 := ⟨_, _, _, q89, rfl, rfl, (by show 2 ≤ sizeLine; decide), (.cons ⟨_, rfl⟩ (.cons ⟨_, rfl⟩ (.nil)))⟩
  k_SHAPES_1 := ⟨_, _, _, q90, rfl, rfl, (by show 2 ≤ sizeLine; decide), (.cons ⟨_, rfl⟩ (.cons ⟨_, rfl⟩ (.nil)))⟩
  k_SHAPES_2 := ⟨_, _, _, q91, rfl, rfl, (by show 2 ≤ sizeLine; decide), (.cons ⟨_, rfl⟩ (.cons ⟨_, rfl⟩ (.nil)))⟩
  k_SHAPES_3 := ⟨_, _, _, q92, rfl, rfl, (by show 2 ≤ sizeLine; decide), (.cons ⟨_, rfl⟩ (.cons ⟨_, rfl⟩ (.nil)))⟩
  k_SHAPES_4 := ⟨_, _, _, q93, rfl, rfl, (by show 2 ≤ sizeLine; decide), (.cons ⟨_, rfl⟩ (.cons ⟨_, rfl⟩ (.nil)))⟩
  k_SHAPES_5 := ⟨_, _, _, q94, rfl, rfl, (by show 2 ≤ sizeLine; decide), (.cons ⟨_, rfl⟩ (.cons ⟨_, rfl⟩ (.nil)))⟩
  k_SHAPES_6 := ⟨_, _, _, q95, rfl, rfl, (by show 2 ≤ sizeLine; decide), (.cons ⟨_, rfl⟩ (.cons ⟨_, rfl⟩ (.nil)))⟩
  k_SHAPES_7 := ⟨_, _, _, q96, rfl, rfl, (by show 2 ≤ sizeLine; decide), (.cons ⟨_, rfl⟩ (.cons ⟨_, rfl⟩ (.nil)))⟩
  k_SHAPES_8 := ⟨_, _, _, q97, rfl, rfl, (by show 2 ≤ sizeLine; decide), (.cons ⟨_, rfl⟩ (.cons ⟨_, rfl⟩ (.nil)))⟩
  k_SHAPES_9 := ⟨_, _, _, q98, rfl, rfl, (by show 2 ≤ sizeLine; decide), (.cons ⟨_, rfl⟩ (.cons ⟨_, rfl⟩ (.nil)))⟩
  k_SHAPES_10 := ⟨_, _, _, q99, rfl, rfl, (by show 2 ≤ sizeLine; decide), (.cons ⟨_, rfl⟩ (.cons ⟨_, rfl⟩ (.nil)))⟩
  k_SHAPES_11 := ⟨_, _, _, q100, rfl, rfl, (by show 2 ≤ sizeLine; decide), (.cons ⟨_, rfl⟩ (.cons ⟨_, rfl⟩ (.nil)))⟩
  k_SHAPES_12 := ⟨_, _, _, q101, rfl, rfl, (by show 2 ≤ sizeLine; decide), (.cons ⟨_, rfl⟩ (.cons ⟨_, rfl⟩ (.nil)))⟩
  k_SHAPES_13 := ⟨_, _, _, q102, rfl, rfl, (by show 2 ≤ sizeLine; decide), (.cons ⟨_, rfl⟩ (.cons ⟨_, rfl⟩ (.nil)))⟩
  k_SHAPES_14 := ⟨_, _, _, q103, rfl, rfl, (by show 2 ≤ sizeLine; decide), (.cons ⟨_, rfl⟩ (.cons ⟨_, rfl⟩ (.nil)))⟩
  k_SHAPES_15 := ⟨_, _, _, q104, rfl, rfl, (by show 2 ≤ sizeLine; decide), (.cons ⟨_, rfl⟩ (.cons ⟨_, rfl⟩ (.nil)))⟩
  k_SHAPES_16 := ⟨_, _, _, q105, rfl, rfl, (by show 2 ≤ sizeLine; decide), (.cons ⟨_, rfl⟩ (.cons ⟨_, rfl⟩ (.nil)))⟩
  k_SHAPES_17 := ⟨_, _, _, q106, rfl, rfl, (by show 2 ≤ sizeLine; decide), (.cons ⟨_, rfl⟩ (.cons ⟨_, rfl⟩ (.nil)))⟩
  k_SHAPES_18 := ⟨_, _, _, q107, rfl, rfl, (by show 2 ≤ sizeLine; decide), (.cons ⟨_, rfl⟩ (.cons ⟨_, rfl⟩ (.nil)))⟩
  k_SHAPES_19 := ⟨_, _, _, q108, rfl, rfl, (by show 2 ≤ sizeLine; decide), (.cons ⟨_, rfl⟩ (.cons ⟨_, rfl⟩ (.nil)))⟩
  lc_13 := rfl
  lt_13 := thL
  no_all := mg_none_of X G q109
  no_any := mg_none_of X G q110
  no_enumerate := mg_none_of X G q111
  no_int := mg_none_of X G q112
  no_len := mg_none_of X G q113
  no_list := mg_none_of X G q114
  no_min := mg_none_of X G q115
  no_range := mg_none_of X G q116
  no_sorted := mg_none_of X G q117
  no_sum := mg_none_of X G q118
  no_zip := mg_none_of X G q119
 }
end Sw
namespace Sw
open PySem hiding Event
open PySem.Spec L2
open PyProof.Rows hiding St
open Vbavag (Told Stand Event Panel noted held shown isShown toldOf standOf source oneSecond second seconds listed changeIn listRow newStand before)
def vN (n : Nat) : V := .int (n : Int)
def b01 (b : Bool) : Int := if b = true then 1 else 0
def wF (w : Told) (x : Stand) (lp lh lc : Addr) : List (Str × V) :=
 [("cause", vN w.cause), ("needed", vN w.need), ("rank", vN w.rank), ("on_delay", vN w.onDelay), ("off_delay", vN w.offDelay), ("latch", .int (b01 w.latch)), ("parts", .ref lp), ("phases", .ref lh), ("covers", .ref lc),
  ("seconds_on", vN x.onFor), ("seconds_off", vN x.offFor), ("has_come", .bl x.come), ("came_at", vN x.since), ("acknowledged", .bl x.acked), ("cancelled", .bl x.cancelled), ("shown_since", .bl x.shown), ("times_come", vN x.times)]
def pF (s : Panel) (lc lw lg : Addr) : List (Str × V) :=
 [("clock", vN s.now), ("phase", vN s.phase), ("causes", .ref lc), ("warnings", .ref lw), ("log", .ref lg), ("events_ever", vN s.happened)]
section
variable {w : Told} {x : Stand} {lp lh lc : Addr}
end
section
variable {s : Panel} {lc lw lg : Addr}
end
structure WarnAt (C : Addr) (ro : List Addr) (H : Hp) (a : Addr) (w : Told) (x : Stand) : Prop where
 ex : ∃ dx lp lh lc, H a = some (.ins C dx (wF w x lp lh lc)) ∧ H lp = some (.lst (w.parts.map vN)) ∧ H lh = some (.lst (w.phases.map vN)) ∧ H lc = some (.lst (w.covers.map vN)) ∧ lp ∈ ro ∧ lh ∈ ro ∧ lc ∈ ro
structure Pl where
 p : Addr
 lc : Addr
 lw : Addr
 lg : Addr
 as : List Addr
 ro : List Addr
def Pl.own (A : Pl) : List Addr := A.p :: A.lc :: A.lw :: A.lg :: A.as
def Kp (l : List Addr) (H H' : Hp) : Prop := ∀ b o, H b = some o → b ∉ l → H' b = some o
theorem Kp.refl (l : List Addr) (H : Hp) : Kp l H H := fun _ _ h _ => h
theorem Kp.trans {l : List Addr} {H H1 H2 : Hp} (a : Kp l H H1) (b : Kp l H1 H2) : Kp l H H2 := fun c o h n => b c o (a c o h n) n
theorem Kp.of_same {l : List Addr} {H H1 : Hp} (a : Same H H1) : Kp l H H1 := fun c o h _ => a c o h
theorem Kp.mono {l m : List Addr} {H H1 : Hp} (a : Kp l H H1) (h : ∀ b ∈ l, b ∈ m) : Kp m H H1 := fun c o e n => a c o e fun q => n (h c q)
theorem Kp.upd {l : List Addr} {H : Hp} {a : Addr} {o : HO} (h : a ∈ l) : Kp l H (L2.upd H a o) := fun b u e n => by
 rw [upd_ne (fun q => n (by rw [q]; exact h))]
 exact e
theorem Same.new {H : Hp} {a : Addr} {o : HO} (h : H a = Option.none) : Same H (L2.upd H a o) := fun b u e => by
 rw [upd_ne (ne_of_none e h)]
 exact e
structure LogAt (H : Hp) (lg : Addr) (log : List Event) : Prop where
 ex : ∃ ts : List Addr, H lg = some (.lst (ts.map V.ref)) ∧ ts.length = log.length ∧ ∀ (i : Nat) t e, ts[i]? = some t → log[i]? = some e → H t = some (.tup [vN e.time, vN e.kind, vN e.what])
structure PanelAt (d : Ad) (H : Hp) (A : Pl) (s : Panel) : Prop where
 obj : ∃ dp, H A.p = some (.ins d.C_Panel dp (pF s A.lc A.lw A.lg))
 cau : H A.lc = some (.lst ((List.range 32).map fun c => .bl (Vbavag.has s.on c)))
 war : H A.lw = some (.lst (A.as.map V.ref))
 log : LogAt H A.lg s.log
 la : A.as.length = s.told.length
 ls : s.stands.length = s.told.length
 at_ : ∀ (i : Nat) a w x, A.as[i]? = some a → s.told[i]? = some w → s.stands[i]? = some x → WarnAt d.C_SW A.ro H a w x
 nd : A.own.Nodup
 ap : ∀ b ∈ A.own, b ∉ A.ro
section
variable {d : Ad} {H H' : Hp} {A : Pl} {s : Panel}
theorem WarnAt.same {C : Addr} {ro : List Addr} {a : Addr} {w : Told} {x : Stand} (h : WarnAt C ro H a w x) (e : Same H H') : WarnAt C ro H' a w x := by
 obtain ⟨dx, lp, lh, lc, h1, h2, h3, h4, r⟩ := h.ex
 exact ⟨dx, lp, lh, lc, e _ _ h1, e _ _ h2, e _ _ h3, e _ _ h4, r⟩
theorem WarnAt.kp {C : Addr} {ro l : List Addr} {a : Addr} {w : Told} {x : Stand} (h : WarnAt C ro H a w x) (e : Kp l H H') (ha : a ∉ l) (hr : ∀ b ∈ ro, b ∉ l) : WarnAt C ro H' a w x := by
 obtain ⟨dx, lp, lh, lc, h1, h2, h3, h4, r1, r2, r3⟩ := h.ex
 exact ⟨dx, lp, lh, lc, e _ _ h1 ha, e _ _ h2 (hr _ r1), e _ _ h3 (hr _ r2), e _ _ h4 (hr _ r3), r1, r2, r3⟩
theorem LogAt.same {lg : Addr} {l : List Event} (h : LogAt H lg l) (e : Same H H') : LogAt H' lg l := by
 obtain ⟨ts, h1, h2, h3⟩ := h.ex
 exact ⟨ts, e _ _ h1, h2, fun i t v a b => e _ _ (h3 i t v a b)⟩
theorem PanelAt.same (h : PanelAt d H A s) (e : Same H H') : PanelAt d H' A s := by
 obtain ⟨dp, h1⟩ := h.obj
 exact ⟨⟨dp, e _ _ h1⟩, e _ _ h.cau, e _ _ h.war, h.log.same e, h.la, h.ls, fun i a w x a1 a2 a3 => (h.at_ i a w x a1 a2 a3).same e, h.nd, h.ap⟩
end
end Sw
namespace Sw
open PySem hiding Event
open PySem.Spec L2
open PyProof.Rows hiding St
open Vbavag (Told Stand Event Panel)
def plainO : HO → Bool
 | .ins _ _ _ => true
 | .lst _ => true
 | .tup _ => true
 | _ => false
def KeepP (H H' : Hp) : Prop := ∀ b o, H b = some o → plainO o = true → H' b = some o
def WA (C : Addr) (H : Hp) (a : Addr) (w : Told) (x : Stand) (r : Addr × Addr × Addr) : Prop := ∃ dx, H a = some (.ins C dx (wF w x r.1 r.2.1 r.2.2))
structure Rows (ro : List Addr) (H : Hp) (w : Told) (r : Addr × Addr × Addr) : Prop where
 p : H r.1 = some (.lst (w.parts.map vN))
 h : H r.2.1 = some (.lst (w.phases.map vN))
 c : H r.2.2 = some (.lst (w.covers.map vN))
 mp : r.1 ∈ ro
 mh : r.2.1 ∈ ro
 mc : r.2.2 ∈ ro
theorem WarnAt.open {C : Addr} {ro : List Addr} {H : Hp} {a : Addr} {w : Told} {x : Stand} (h : WarnAt C ro H a w x) : ∃ r, WA C H a w x r ∧ Rows ro H w r := by
 obtain ⟨dx, lp, lh, lc, h1, h2, h3, h4, h5, h6, h7⟩ := h.ex
 exact ⟨(lp, lh, lc), ⟨dx, h1⟩, ⟨h2, h3, h4, h5, h6, h7⟩⟩
theorem WarnAt.close {C : Addr} {ro : List Addr} {H : Hp} {a : Addr} {w : Told} {x : Stand} {r : Addr × Addr × Addr} (h : WA C H a w x r) (q : Rows ro H w r) : WarnAt C ro H a w x := by
 obtain ⟨dx, h1⟩ := h
 exact ⟨dx, r.1, r.2.1, r.2.2, h1, q.p, q.h, q.c, q.mp, q.mh, q.mc⟩
theorem WA.same {C : Addr} {H H' : Hp} {a : Addr} {w : Told} {x : Stand} {r : Addr × Addr × Addr} (h : WA C H a w x r) (e : Same H H') : WA C H' a w x r := let ⟨dx, q⟩ := h; ⟨dx, e _ _ q⟩
theorem WA.upd {C : Addr} {H : Hp} {a : Addr} {dx : Addr} {fs : List (Str × V)} {w : Told} {x : Stand} {r : Addr × Addr × Addr} (e : fs = wF w x r.1 r.2.1 r.2.2) : WA C (L2.upd H a (.ins C dx fs)) a w x r := ⟨dx, by rw [upd_same, e]⟩
section
variable {d : Ad} {H H' : Hp} {A : Pl} {s : Panel}
theorem PanelAt.keepP (h : PanelAt d H A s) (e : KeepP H H') : PanelAt d H' A s := by
 obtain ⟨dp, h1⟩ := h.obj
 refine ⟨⟨dp, e _ _ h1 rfl⟩, e _ _ h.cau rfl, e _ _ h.war rfl, ?_, h.la, h.ls, fun i a w x a1 a2 a3 => ?_, h.nd, h.ap⟩
 ·obtain ⟨ts, q1, q2, q3⟩ := h.log.ex
  exact ⟨ts, e _ _ q1 rfl, q2, fun i t v a b => e _ _ (q3 i t v a b) rfl⟩
 ·obtain ⟨dx, lp, lh, lc, q1, q2, q3, q4, r⟩ := (h.at_ i a w x a1 a2 a3).ex
  exact ⟨dx, lp, lh, lc, e _ _ q1 rfl, e _ _ q2 rfl, e _ _ q3 rfl, e _ _ q4 rfl, r⟩
theorem PanelAt.get (h : PanelAt d H A s) {i : Nat} (hi : i < s.told.length) : ∃ a w x r, A.as[i]? = some a ∧ s.told[i]? = some w ∧ s.stands[i]? = some x ∧ WA d.C_SW H a w x r ∧ Rows A.ro H w r := by
 have h1 : i < A.as.length := by rw [h.la]; exact hi
 have h2 : i < s.stands.length := by rw [h.ls]; exact hi
 obtain ⟨r, w1, w2⟩ := (h.at_ i _ _ _ (List.getElem?_eq_getElem h1) (List.getElem?_eq_getElem hi) (List.getElem?_eq_getElem h2)).open
 exact ⟨_, _, _, r, List.getElem?_eq_getElem h1, List.getElem?_eq_getElem hi, List.getElem?_eq_getElem h2, w1, w2⟩
theorem PanelAt.of (h : PanelAt d H A s) {i : Nat} {a : Addr} (ha : A.as[i]? = some a) : ∃ w x r, s.told[i]? = some w ∧ s.stands[i]? = some x ∧ WA d.C_SW H a w x r ∧ Rows A.ro H w r := by
 have hi : i < s.told.length := by
  rw [← h.la]
  exact (List.getElem?_eq_some_iff.mp ha).1
 obtain ⟨a', w, x, r, h1, h2, h3, h4, h5⟩ := h.get hi
 rw [h1] at ha
 obtain rfl := Option.some.inj ha
 exact ⟨w, x, r, h2, h3, h4, h5⟩
theorem PanelAt.as_own {i : Nat} {a : Addr} (ha : A.as[i]? = some a) : a ∈ A.own := by
 have := List.mem_of_getElem? ha
 simp [Pl.own, this]
theorem PanelAt.as_nd (h : PanelAt d H A s) : A.as.Nodup := by
 have := h.nd
 simp only [Pl.own, List.nodup_cons] at this
 exact this.2.2.2.2
theorem PanelAt.ne_p (h : PanelAt d H A s) {i : Nat} {a : Addr} (ha : A.as[i]? = some a) : A.p ≠ a ∧ A.lc ≠ a ∧ A.lw ≠ a ∧ A.lg ≠ a := by
 have nd := h.nd
 simp only [Pl.own, List.nodup_cons] at nd
 have m := List.mem_of_getElem? ha
 refine ⟨fun q => nd.1 ?_, fun q => nd.2.1 ?_, fun q => nd.2.2.1 ?_, fun q => nd.2.2.2.1 ?_⟩ <;> rw [q] <;> simp [m]
theorem PanelAt.setW (h : PanelAt d H A s) {i : Nat} {a : Addr} {w : Told} {y : Stand} {r : Addr × Addr × Addr} (ha : A.as[i]? = some a) (hw : s.told[i]? = some w) (hr : Rows A.ro H w r) (hA : WA d.C_SW H' a w y r) (k : Kp [a] H H') : PanelAt d H' A (setS s i y) := by
 obtain ⟨n1, n2, n3, n4⟩ := h.ne_p ha
 have kk : ∀ b o, H b = some o → b ≠ a → H' b = some o := fun b o e q => k b o e (by simpa using q)
 have nro : ∀ b ∈ A.ro, b ≠ a := fun b hb q => h.ap a (PanelAt.as_own ha) (by rw [← q]; exact hb)
 obtain ⟨dp, h1⟩ := h.obj
 have hi : i < s.stands.length := by
  rw [h.ls]
  exact (List.getElem?_eq_some_iff.mp hw).1
 refine ⟨⟨dp, kk _ _ h1 n1⟩, kk _ _ h.cau n2, kk _ _ h.war n3, ?_, h.la, ?_, fun j b w' x' a1 a2 a3 => ?_, h.nd, h.ap⟩
 ·obtain ⟨ts, q1, q2, q3⟩ := h.log.ex
  obtain ⟨dx, q4⟩ := hA
  obtain ⟨w0, x0, r0, _, _, ⟨dx0, q6⟩, _⟩ := h.of ha
  exact ⟨ts, kk _ _ q1 n4, q2, fun j t v b1 b2 => kk _ _ (q3 j t v b1 b2) (ne_of (q3 j t v b1 b2) q6 (by intro z; cases z))⟩
 ·show (s.stands.set i y).length = _
  rw [List.length_set]
  exact h.ls
 ·by_cases hj : j = i
  ·subst hj
   rw [ha] at a1
   obtain rfl := Option.some.inj a1
   have a2' : s.told[j]? = some w' := a2
   rw [hw] at a2'
   obtain rfl := Option.some.inj a2'
   have a3' : (s.stands.set j y)[j]? = some x' := a3
   rw [List.getElem?_set_self hi] at a3'
   obtain rfl := Option.some.inj a3'
   exact WarnAt.close hA ⟨kk _ _ hr.p (nro _ hr.mp), kk _ _ hr.h (nro _ hr.mh), kk _ _ hr.c (nro _ hr.mc), hr.mp, hr.mh, hr.mc⟩
  ·have a3' : (s.stands.set i y)[j]? = some x' := a3
   rw [List.getElem?_set_ne (fun q => hj q.symm)] at a3'
   have nb : b ≠ a := fun q => hj (nd_ix h.as_nd a1 (by rw [q]; exact ha))
   exact (h.at_ j b w' x' a1 a2 a3').kp k (by simpa using nb) fun c hc => by simpa using nro c hc
theorem PanelAt.setP (h : PanelAt d H A s) {t : Panel} {dp : Addr} (e : H' A.p = some (.ins d.C_Panel dp (pF t A.lc A.lw A.lg))) (k : Kp [A.p] H H') (h1 : t.on = s.on) (h2 : t.told = s.told) (h3 : t.stands = s.stands) (h4 : t.log = s.log) : PanelAt d H' A t := by
 have nd := h.nd
 simp only [Pl.own, List.nodup_cons] at nd
 have kk : ∀ b o, H b = some o → b ≠ A.p → H' b = some o := fun b o e q => k b o e (by simpa using q)
 have nro : ∀ b ∈ A.ro, b ≠ A.p := fun b hb q => h.ap A.p (by simp [Pl.own]) (by rw [← q]; exact hb)
 obtain ⟨dq, h0⟩ := h.obj
 refine ⟨⟨dp, e⟩, by rw [h1]; exact kk _ _ h.cau (fun q => nd.1 (by rw [← q]; simp)), kk _ _ h.war (fun q => nd.1 (by rw [← q]; simp)), ?_, by rw [h2]; exact h.la, by rw [h2, h3]; exact h.ls, fun j b w' x' a1 a2 a3 => ?_, h.nd, h.ap⟩
 ·obtain ⟨ts, q1, q2, q3⟩ := h.log.ex
  rw [h4]
  exact ⟨ts, kk _ _ q1 (fun q => nd.1 (by rw [← q]; simp)), q2, fun j t v b1 b2 => kk _ _ (q3 j t v b1 b2) (ne_of (q3 j t v b1 b2) h0 (by intro z; cases z))⟩
 ·rw [h2] at a2
  rw [h3] at a3
  exact (h.at_ j b w' x' a1 a2 a3).kp k (by have := (h.ne_p a1).1; simpa using fun q => this q.symm) fun c hc => by simpa using nro c hc
end
theorem inV_nats (i : Nat) : ∀ (l : List Nat), inV (vN i) (l.map vN) = decide (i ∈ l)
 | [] => by simp [inV]
 | a :: r => by
  have ih := inV_nats i r
  unfold inV at ih ⊢
  rw [List.map_cons, List.any_cons, ih]
  have e : eqV (vN a) (vN i) = decide (i = a) := by
   show ((a : Int) == (i : Int)) = _
   by_cases h : i = a
   ·subst h
    simp
   ·have h2 : ¬ (a : Int) = (i : Int) := fun q => h (by omega)
    simp [h, h2]
  rw [e, Bool.eq_iff_iff]
  simp [List.mem_cons]
theorem flat_nats (l : List Nat) : (l.map vN).all flatV = true := by
 rw [List.all_eq_true]
 intro x hx
 obtain ⟨a, _, rfl⟩ := List.mem_map.mp hx
 rfl
theorem map_at {α : Type} {f : α → V} {l : List α} {i : Nat} {y : V} (h : (l.map f)[i]? = some y) : ∃ x, l[i]? = some x ∧ y = f x := by
 rw [List.getElem?_map] at h
 cases e : l[i]? with
 | none =>
  rw [e] at h
  cases h
 | some x =>
  rw [e] at h
  exact ⟨x, rfl, (Option.some.inj h).symm⟩
theorem at_map {α : Type} {f : α → V} {l : List α} {i : Nat} {x : α} (h : l[i]? = some x) : atI (l.map f) (i : Int) = some (f x) := atI_nat (by rw [List.getElem?_map, h]; rfl)
end Sw
namespace Sw
theorem ifT {c : Bool} {A B : Prop} (h : c = true) (x : A) : if c = true then A else B := by
 rw [if_pos h]
 exact x
theorem ifF {c : Bool} {A B : Prop} (h : c = false) (x : B) : if c = true then A else B := by
 rw [if_neg (by rw [h]; exact Bool.false_ne_true)]
 exact x
end Sw
namespace Sw
open PySem L2
theorem ixL {X : Cx} {K : PySem.W.Frag} (h : X.K = K) : IxR X (rIxL K) := h ▸ ix_list
theorem ixT {X : Cx} {K : PySem.W.Frag} (h : X.K = K) : IxR X (rIxT K) := h ▸ ix_tup
theorem inS {X : Cx} {K : PySem.W.Frag} (h : X.K = K) : OpR X (compareOp .In) (rIn K false) := h ▸ op_in_seq
theorem lenS {X : Cx} {K : PySem.W.Frag} (h : X.K = K) : CallR X (.builtin "len") (fun xs H Q => ∃ p ys, xs = [.ref p] ∧ (SqL K H p ys ∨ SqT K H p ys) ∧ Q (.int ys.length) H) := h ▸ call_len_seq
end Sw
namespace Sw
open PySem L2
theorem pgTwo {X : Cx} {K : PySem.W.Frag} {i j : Nat} {x y : Str} {p1 p2 pos : Pos} {kk : Nat} (hK : X.K = K) (hc : X.calm = true) (h1 : PG X (.Name x p1) (gName i)) (h2 : PG X (.Name y p2) (gName j)) : PG X (.Tuple [.Name x p1, .Name y p2] kk pos) (gTwo K i j) :=
 hK ▸ pg_tup hc (pgs_cons h1 (pgs_cons h2 pgs_nil))
end Sw
namespace Sw
open PySem hiding Event
open PySem.Spec L2
open PyProof.Rows hiding St
open Vbavag (Told Stand Event Panel noted held shown isShown toldOf standOf source oneSecond second seconds listed changeIn listRow newStand before)
def sp_is_within : Sp := fun vs H Q _ => ∃ n lo hi : Int, vs = [.int n, .int lo, .int hi] ∧ Q (.bl (Vbavag.inR n lo hi)) H
def sp_is_rising (K : PySem.W.Frag) : Sp := fun vs H Q _ => ∃ (a : Addr) (ns : List Int) (lo hi : Int), vs = [.ref a, .int lo, .int hi] ∧ SqL K H a (ns.map V.int) ∧ Q (.bl (risesFrom lo hi ns)) H
def sp_phases (K : PySem.W.Frag) : Sp := fun vs H Q _ => ∃ (a : Addr) (ns : List Int), vs = [.ref a] ∧ SqL K H a (ns.map V.int) ∧ Q (.bl (risesFrom 0 9 ns)) H
def sp_rowW (K : PySem.W.Frag) (d : Ad) : Sp := fun vs H Q _ => ∃ (A : Pl) (s : Panel) (a : Addr) (ns : List Int), vs = [.ref A.p, .ref a] ∧ PanelAt d H A s ∧ SqL K H a (ns.map V.int) ∧ Q (.bl (risesFrom 0 ((s.told.length : Int) - 1) ns)) H
def sp_is_warning (d : Ad) : Sp := fun vs H Q _ => ∃ (A : Pl) (s : Panel) (n : Int), vs = [.ref A.p, .int n] ∧ PanelAt d H A s ∧ Q (.bl (Vbavag.isThere s n)) H
def sp_is_full (d : Ad) : Sp := fun vs H Q _ => ∃ (A : Pl) (s : Panel), vs = [.ref A.p] ∧ PanelAt d H A s ∧ Q (.bl (decide (24 ≤ s.told.length))) H
def refS (s : Panel) (k : Int) : Int := if Vbavag.inR k 1 600 = false then -1 else if Vbavag.LATE < s.now + k.toNat then -8 else 0
def sp_refusal (d : Ad) : Sp := fun vs H Q _ => ∃ (A : Pl) (s : Panel) (k : Int), vs = [.ref A.p, .int k] ∧ PanelAt d H A s ∧ Q (.int (refS s k)) H
def Ranges (K : PySem.W.Frag) (H : Hp) (b : Addr) (ps : List (Int × Int)) : Prop := ∃ rs : List Addr, SqT K H b (rs.map V.ref) ∧ rs.length = ps.length ∧ ∀ (i : Nat) r p, rs[i]? = some r → ps[i]? = some p → KTup K r [.int p.1, .int p.2]
def within : List Int → List (Int × Int) → Bool
 | n :: ns, p :: ps => Vbavag.inR n p.1 p.2 && within ns ps
 | _, _ => true
def sp_are (K : PySem.W.Frag) : Sp := fun vs H Q _ => ∃ (a b : Addr) (ns : List Int) (ps : List (Int × Int)), vs = [.ref a, .ref b] ∧ SqL K H a (ns.map V.int) ∧ Ranges K H b ps ∧ ns.length = ps.length ∧ ns.length ≤ 1000 ∧ ∀ H', Same H H' → Q (.bl (within ns ps)) H'
section
variable {P : Program} {w : World} {K : PySem.W.Frag} {mg : Str → Option Value} {base : Heap} {d : Ad}
theorem ok_2 (T : Tx K mg d) : FnOk P w K mg base CX0 1 d.f_2 d.d_2 ["number", "lowest", "highest"] (sp_is_within) := by
 refine T.F_2.ok sc_2 (fun vs H Q E h => ?_) (fun cdv Ar outer s0 H vs Q E hr h => ?_)
 ·obtain ⟨n, lo, hi, rfl, k⟩ := h
  rfl
 obtain ⟨n, lo, hi, rfl, k⟩ := h
 refine ⟨_, (pss_one (ps_ret (pe_and (pe_cmpR op_le (pv 1) (pv 0) (nomark _)) (pe_one (pe_cmpR op_le (pv 0) (pv 2) (nomark _)))))), ?_⟩
 refine ⟨_, rfl, _, rfl, _, _, rfl, rfl, _, rfl, ?_⟩
 unfold Vbavag.inR at k
 by_cases h1 : lo ≤ n
 ·refine ifT (decide_eq_true h1) ⟨_, rfl, _, rfl, _, _, rfl, rfl, ?_⟩
  rw [decide_eq_true h1, Bool.true_and] at k
  exact k
 ·refine ifF (decide_eq_false h1) ?_
  rw [decide_eq_false h1, Bool.false_and] at k
  exact k
theorem rises_drop {lo hi : Int} {ns : List Int} {i : Nat} {n : Int} (h : ns[i]? = some n) : risesFrom lo hi (ns.drop i) = (decide (lo ≤ n) && decide (n ≤ hi) && risesFrom (n + 1) hi (ns.drop (i + 1))) := by
 rw [drop_at h]
 rfl
theorem ok_4 (T : Tx K mg d) : FnOk P w K mg base CX0 1 d.f_4 d.d_4 ["row", "lowest", "highest"] (sp_is_rising K) := by
 refine T.F_4.ok sc_4 (fun vs H Q E h => ?_) (fun cdv Ar outer s0 H vs Q E hr h => ?_)
 ·obtain ⟨a, ns, lo, hi, rfl, hS, k⟩ := h
  rfl
 obtain ⟨a, ns, lo, hi, rfl, hS, k⟩ := h
 refine ⟨_, (pss_cons (ps_sA (i := 3) sc_4.nd rfl (pe_op op_sub (pv 1) pe_int)) (pss_cons (ps_for PassesOwn.never rfl (pi_list (pv 0)) (pg_name (i := 4) sc_4.nd rfl (Or.inl rfl) (Or.inl rfl)) (pss_cons (ps_if (pw_or (pt_cmpR op_le (pv 4) (pv 3) (nomark _)) (pw_or1 (pt_cmpR op_gt (pv 4) (pv 2) (nomark _)))).pt (pss_one (ps_ret pe_bl)) pss_nil) (pss_one (ps_sA (i := 3) sc_4.nd rfl (pv 4))))) (pss_one (ps_ret pe_bl)))), ?_⟩
 refine ⟨_, rfl, _, _, rfl, rfl, ?_⟩
 refine ⟨_, rfl, a, rfl, ⟨_, hS⟩, for_list (K := K) (a := a) (xs := ns.map V.int) (fun i σ H' => ∃ (v : Option V) (b : Int), H' = H ∧ σ = [some (.ref a), some (.int lo), some (.int hi), some (.int b), v] ∧ risesFrom (b + 1) hi (ns.drop i) = risesFrom lo hi ns)
  ⟨none, lo - 1, rfl, rfl, by rw [List.drop_zero, Int.sub_add_cancel]⟩ (fun i σ H' _ ⟨_, _, e, _⟩ => by rw [e]; exact hS) ?_ ?_⟩
 ·rintro i y σ H' hi' ⟨v, b, rfl, rfl, hb⟩
  obtain ⟨n, hn, rfl⟩ := map_at hi'
  rw [rises_drop hn] at hb
  refine ⟨_, rfl, _, rfl, _, _, rfl, rfl, _, rfl, ?_⟩
  by_cases h1 : n ≤ b
  ·refine ifT (decide_eq_true h1) (iteT ?_)
   have e : risesFrom lo hi ns = false := by
    rw [← hb, decide_eq_false (by omega : ¬ b + 1 ≤ n)]
    simp
   rw [e] at k
   exact k
  ·refine ifF (decide_eq_false h1) ⟨_, rfl, _, rfl, _, _, rfl, rfl, _, rfl, ?_⟩
   by_cases h2 : hi < n
   ·refine ifT (decide_eq_true h2) ?_
    have e : risesFrom lo hi ns = false := by
     rw [← hb, decide_eq_false (by omega : ¬ n ≤ hi)]
     simp
    rw [e] at k
    exact k
   ·refine ifF (decide_eq_false h2) ⟨_, rfl, _, n, rfl, rfl, ?_⟩
    rw [← hb, decide_eq_true (by omega : b + 1 ≤ n), decide_eq_true (by omega : n ≤ hi)]
    simp
 ·rintro σ H' ⟨v, b, rfl, rfl, hb⟩
  have e : ns.drop (ns.map V.int).length = [] := by rw [List.length_map]; simp
  rw [e] at hb
  have e2 : risesFrom lo hi ns = true := hb.symm
  rw [e2] at k
  exact k
theorem ok_5 (T : Tx K mg d) : FnOk P w K mg base CX0 2 d.f_5 d.d_5 ["row"] (sp_phases K) := by
 refine T.F_5.ok sc_5 (fun vs H Q E h => ?_) (fun cdv Ar outer s0 H vs Q E hr h => ?_)
 ·obtain ⟨a, ns, rfl, hS, k⟩ := h
  rfl
 obtain ⟨a, ns, rfl, hS, k⟩ := h
 refine ⟨_, (pss_one (ps_ret (pe_call (ok_4 T) (hr.mono (by decide)) rfl T.mg_4 T.F_4.kp T.b_4 .nil pass0 (pa_cons (pv 0) (pa_cons pe_int (pa_cons (pe_cst rfl T.c_HIGHEST_PHASE) pa_nil)))))), ?_⟩
 exact ⟨_, rfl, a, ns, 0, 9, rfl, hS, k⟩
theorem ok_6 (T : Tx K mg d) : FnOk P w K mg base CX0 2 d.f_6 d.d_6 ["panel", "row"] (sp_rowW K d) := by
 refine T.F_6.ok sc_6 (fun vs H Q E h => ?_) (fun cdv Ar outer s0 H vs Q E hr h => ?_)
 ·obtain ⟨A, s, a, ns, rfl, hP, hS, k⟩ := h
  rfl
 obtain ⟨A, s, a, ns, rfl, hP, hS, k⟩ := h
 refine ⟨_, (pss_one (ps_ret (pe_call (ok_4 T) (hr.mono (by decide)) rfl T.mg_4 T.F_4.kp T.b_4 .nil pass0 (pa_cons (pv 1) (pa_cons pe_int (pa_cons (pe_op op_sub (pe_callB call_len_seq rfl T.no_len bt_len (pa_cons (pe_at T.cl_Panel T.n_Panel_warnings (pv 0)) pa_nil)) pe_int) pa_nil)))))), ?_⟩
 obtain ⟨dp, hp⟩ := hP.obj
 refine ⟨_, rfl, _, rfl, _, _, _, _, rfl, hp, rfl, _, _, rfl, .inl (SqL.of hP.war), _, _, rfl, rfl, a, ns, 0, _, rfl, hS, ?_⟩
 rw [List.length_map, hP.la]
 exact k
theorem ok_7 (T : Tx K mg d) : FnOk P w K mg base CX0 2 d.f_7 d.d_7 ["panel", "number"] (sp_is_warning d) := by
 refine T.F_7.ok sc_7 (fun vs H Q E h => ?_) (fun cdv Ar outer s0 H vs Q E hr h => ?_)
 ·obtain ⟨A, s, n, rfl, hP, k⟩ := h
  rfl
 obtain ⟨A, s, n, rfl, hP, k⟩ := h
 refine ⟨_, (pss_one (ps_ret (pe_call (ok_2 T) (hr.mono (by decide)) rfl T.mg_2 T.F_2.kp T.b_2 .nil pass0 (pa_cons (pv 1) (pa_cons pe_int (pa_cons (pe_op op_sub (pe_callB call_len_seq rfl T.no_len bt_len (pa_cons (pe_at T.cl_Panel T.n_Panel_warnings (pv 0)) pa_nil)) pe_int) pa_nil)))))), ?_⟩
 obtain ⟨dp, hp⟩ := hP.obj
 refine ⟨_, rfl, _, rfl, _, _, _, _, rfl, hp, rfl, _, _, rfl, .inl (SqL.of hP.war), _, _, rfl, rfl, _, _, _, rfl, ?_⟩
 rw [List.length_map, hP.la]
 exact k
theorem ok_8 (T : Tx K mg d) : FnOk P w K mg base CX0 1 d.f_8 d.d_8 ["panel"] (sp_is_full d) := by
 refine T.F_8.ok sc_8 (fun vs H Q E h => ?_) (fun cdv Ar outer s0 H vs Q E hr h => ?_)
 ·obtain ⟨A, s, rfl, hP, k⟩ := h
  rfl
 obtain ⟨A, s, rfl, hP, k⟩ := h
 refine ⟨_, (pss_one (ps_ret (pe_cmpR op_ge (pe_callB call_len_seq rfl T.no_len bt_len (pa_cons (pe_at T.cl_Panel T.n_Panel_warnings (pv 0)) pa_nil)) (pe_cst rfl T.c_MOST_WARNINGS) (nomark _)))), ?_⟩
 obtain ⟨dp, hp⟩ := hP.obj
 refine ⟨_, rfl, _, _, _, _, rfl, hp, rfl, _, _, rfl, .inl (SqL.of hP.war), _, _, rfl, rfl, ?_⟩
 rw [List.length_map, hP.la]
 have e : decide ((24 : Int) ≤ (s.told.length : Int)) = decide (24 ≤ s.told.length) := by
  by_cases h : 24 ≤ s.told.length
  ·rw [decide_eq_true h, decide_eq_true (by omega)]
  ·rw [decide_eq_false h, decide_eq_false (by omega)]
 show Q (V.bl (decide ((24 : Int) ≤ (s.told.length : Int)))) H
 rw [e]
 exact k
theorem ok_9 (T : Tx K mg d) : FnOk P w K mg base CX0 2 d.f_9 d.d_9 ["panel", "seconds"] (sp_refusal d) := by
 refine T.F_9.ok sc_9 (fun vs H Q E h => ?_) (fun cdv Ar outer s0 H vs Q E hr h => ?_)
 ·obtain ⟨A, s, n, rfl, hP, k⟩ := h
  rfl
 obtain ⟨A, s, n, rfl, hP, k⟩ := h
 refine ⟨_, (pss_cons (ps_if (pt_not (pt_val (pe_call (ok_2 T) (hr.mono (by decide)) rfl T.mg_2 T.F_2.kp T.b_2 .nil pass0 (pa_cons (pv 1) (pa_cons pe_int (pa_cons (pe_cst rfl T.c_LONGEST_TICK) pa_nil)))))) (pss_one (ps_ret (pe_cst rfl T.c_OUT_OF_RANGE))) pss_nil) (pss_cons (ps_if (pt_cmpR op_gt (pe_op op_add (pe_at T.cl_Panel T.n_Panel_clock (pv 0)) (pv 1)) (pe_cst rfl T.c_LATEST_CLOCK) (nomark _)) (pss_one (ps_ret (pe_cst rfl T.c_FULL))) pss_nil) (pss_one (ps_ret pe_int)))), ?_⟩
 obtain ⟨dp, hp⟩ := hP.obj
 refine ⟨_, rfl, _, _, _, rfl, _, rfl, ?_⟩
 unfold refS at k
 cases h1 : Vbavag.inR n 1 600 with
 | false =>
  rw [h1, if_pos rfl] at k
  exact k
 | true =>
  rw [h1, if_neg (by decide)] at k
  refine iteF ?_
  have hn : 0 ≤ n := by
   unfold Vbavag.inR at h1
   have := (Bool.and_eq_true_iff.mp h1).1
   have := of_decide_eq_true this
   omega
  refine ⟨_, rfl, _, _, _, _, rfl, hp, rfl, _, rfl, _, _, rfl, rfl, _, _, rfl, rfl, _, rfl, ?_⟩
  by_cases h2 : (1000000000 : Int) < (s.now : Int) + n
  ·refine ifT (decide_eq_true h2) ?_
   rw [if_pos (by show 1000000000 < s.now + n.toNat; omega)] at k
   exact k
  ·refine ifF (decide_eq_false h2) ?_
   rw [if_neg (by show ¬ 1000000000 < s.now + n.toNat; omega)] at k
   exact k
theorem within_take {ns : List Int} {ps : List (Int × Int)} {i : Nat} {n : Int} {p : Int × Int} : ns[i]? = some n → ps[i]? = some p → within (ns.take (i + 1)) (ps.take (i + 1)) = (within (ns.take i) (ps.take i) && Vbavag.inR n p.1 p.2) := by
 induction ns generalizing ps i with
 | nil => intro h; simp at h
 | cons a r ih =>
  intro h1 h2
  cases ps with
  | nil => simp at h2
  | cons b t =>
   cases i with
   | zero =>
    have e1 : a = n := by simpa using h1
    have e2 : b = p := by simpa using h2
    subst e1 e2
    simp [within]
   | succ j =>
    have e := ih (ps := t) (i := j) (by simpa using h1) (by simpa using h2)
    simp only [List.take_succ_cons, within]
    rw [e, Bool.and_assoc]
theorem ok_3 (T : Tx K mg d) : FnOk P w K mg base CX0 2 d.f_3 d.d_3 ["numbers", "ranges"] (sp_are K) := by
 refine T.F_3.ok sc_3 (fun vs H Q E h => ?_) (fun cdv Ar outer s0 H vs Q E hr h => ?_)
 ·obtain ⟨a, b, ns, ps, rfl, hS, ⟨rs, hR, hrl, hr2⟩, hl, hz, k⟩ := h
  rfl
 obtain ⟨a, b, ns, ps, rfl, hS, ⟨rs, hR, hrl, hr2⟩, hl, hz, k⟩ := h
 refine ⟨_, (pss_one (ps_ret (pe_callB (cr_all rfl) rfl T.no_all bt_all (pa_cons (pe_lc rfl sc_3.nd (pi_zipT rfl T.no_zip (pa_cons (pv 0) (pa_cons (pv 1) pa_nil))) (blkOk_by (own := [("number", 2), ("ends", 3)]) rfl) (fun _ _ _ _ _ => (pgTwo (K := K) rfl rfl (pg_name (i := 2) sc_3.nd rfl (Or.inl rfl) (Or.inr rfl)) (pg_name (i := 3) sc_3.nd rfl (Or.inl rfl) (Or.inr rfl)))) (fun _ _ _ _ _ => pts_nil) (fun _ _ _ _ _ => (pe_call (ok_2 T) (hr.mono (by decide)) rfl T.mg_2 T.F_2.kp T.b_2 .nil pass0 (pa_cons (pv 2) (pa_cons (pe_ix (ixT (K := K) rfl) (pv 3) pe_int (fun _ _ => rfl)) (pa_cons (pe_ix (ixT (K := K) rfl) (pv 3) pe_int (fun _ _ => rfl)) pa_nil)))))) pa_nil)))), ?_⟩
 have hbig : (1001 : Nat) ≤ sizeLine := by decide
 refine ⟨_, rfl, _, rfl, a, b, _, _, rfl, hS, hR, ?_⟩
 intro D hD
 have kD : Same H (upd H D (.lst [])) := Same.new hD
 refine lc_zipT (K := K) (a := a) (b := b) (xs := ns.map V.int) (ys := rs.map V.ref) (i1 := 2) (i2 := 3) (fun i H' => Same H H' ∧ ∃ bs : List Bool, H' D = some (.lst (bs.map V.bl)) ∧ bs.length = i ∧ bs.all id = within (ns.take i) (ps.take i))
  ⟨kD, [], upd_same, rfl, rfl⟩ (by rw [List.length_map, List.length_map]; omega) (fun i H' _ ⟨sm, _⟩ => ⟨sm.seq hS, ?_⟩) ?_ ?_
 ·rcases hR with (h | ⟨o, h⟩) | h
  ·exact .inl (.inl (sm _ _ h))
  ·exact .inl (.inr ⟨o, sm _ _ h⟩)
  ·exact .inr h
 ·rintro i x y H' T' hx hy ⟨sm, bs, hb, hbl, hba⟩ hT'
  obtain ⟨n, hn, rfl⟩ := map_at hx
  obtain ⟨r, hr', rfl⟩ := map_at hy
  have hip : i < ps.length := by
   have := (List.getElem?_eq_some_iff.mp hr').1
   omega
  obtain ⟨p, hp⟩ : ∃ p, ps[i]? = some p := ⟨_, List.getElem?_eq_getElem hip⟩
  have hk := hr2 i r p hr' hp
  have n1 : D ≠ T' := ne_of_none hb hT'
  refine ⟨rfl, ?_⟩
  refine ⟨_, rfl, _, rfl, r, _, 0, .int p.1, rfl, rfl, hk.sq, rfl, _, rfl, r, _, 1, .int p.2, rfl, rfl, hk.sq, rfl, _, _, _, rfl, ?_⟩
  refine ⟨_, by rw [upd_ne n1]; exact hb, by rw [List.length_map]; omega, ?_⟩
  refine ⟨fun c o e => ?_, bs ++ [Vbavag.inR n p.1 p.2], ?_, by rw [List.length_append, hbl]; rfl, ?_⟩
  ·rw [upd_ne (ne_of_none e hD), upd_ne (ne_of_none (sm c o e) hT')]
   exact sm c o e
  ·rw [upd_same, List.map_append]
   rfl
  ·rw [List.all_append, hba, within_take hn hp]
   simp
 ·rintro H' ⟨sm, bs, hb, hbl, hba⟩
  refine ⟨D, bs, rfl, SqL.of hb, ?_⟩
  have e := k H' sm
  rw [List.length_map] at hba
  rw [List.take_of_length_le (Nat.le_refl _), List.take_of_length_le (by omega)] at hba
  rw [hba]
  exact e
end
theorem PanelAt.setL {d : Ad} {H H' : Hp} {A : Pl} {s : Panel} (h : PanelAt d H A s) {t : Panel} {dp : Addr} (e : H' A.p = some (.ins d.C_Panel dp (pF t A.lc A.lw A.lg))) (hl : LogAt H' A.lg t.log) (k : Kp [A.p, A.lg] H H') (h1 : t.on = s.on) (h2 : t.told = s.told) (h3 : t.stands = s.stands) : PanelAt d H' A t := by
 have nd := h.nd
 simp only [Pl.own, List.nodup_cons] at nd
 have kk : ∀ b o, H b = some o → b ≠ A.p → b ≠ A.lg → H' b = some o := fun b o e q1 q2 => k b o e (by simp [q1, q2])
 have nro : ∀ b ∈ A.ro, b ≠ A.p ∧ b ≠ A.lg := fun b hb => ⟨fun q => h.ap A.p (by simp [Pl.own]) (by rw [← q]; exact hb), fun q => h.ap A.lg (by simp [Pl.own]) (by rw [← q]; exact hb)⟩
 refine ⟨⟨dp, e⟩, by rw [h1]; exact kk _ _ h.cau (fun q => nd.1 (by rw [← q]; simp)) (fun q => nd.2.1 (by rw [q]; simp)), kk _ _ h.war (fun q => nd.1 (by rw [← q]; simp)) (fun q => nd.2.2.1 (by rw [q]; simp)), hl, by rw [h2]; exact h.la, by rw [h2, h3]; exact h.ls, fun j b w' x' a1 a2 a3 => ?_, h.nd, h.ap⟩
 rw [h2] at a2
 rw [h3] at a3
 obtain ⟨n1, n2, n3, n4⟩ := h.ne_p a1
 refine (h.at_ j b w' x' a1 a2 a3).kp k ?_ fun c hc => ?_
 ·simp only [List.mem_cons, List.not_mem_nil, or_false, not_or]
  exact ⟨fun q => n1 q.symm, fun q => n4 q.symm⟩
 ·simp only [List.mem_cons, List.not_mem_nil, or_false, not_or]
  exact nro c hc
def sp_log_event (d : Ad) : Sp := fun vs H Q _ => ∃ (A : Pl) (s : Panel) (kind num : Nat), vs = [.ref A.p, vN kind, vN num] ∧ PanelAt d H A s ∧ s.log.length ≤ 200 ∧ ∀ H', PanelAt d H' A (noted s [⟨s.now, kind, num⟩]) → Kp [A.p, A.lg] H H' → Q .non H'
def evs (s : Panel) (kind : Nat) (l : List Nat) : List Event := l.map fun i => ⟨s.now, kind, i⟩
def sp_log_each (K : PySem.W.Frag) (d : Ad) : Sp := fun vs H Q _ => ∃ (A : Pl) (s : Panel) (kind : Nat) (a : Addr) (l : List Nat), vs = [.ref A.p, vN kind, .ref a] ∧ PanelAt d H A s ∧ H a = some (.lst (l.map vN)) ∧ a ∉ A.own ∧ s.log.length ≤ 200 ∧ ∀ H', PanelAt d H' A (noted s (evs s kind l)) → Kp [A.p, A.lg] H H' → Q .non H'
section
variable {P : Program} {w : World} {K : PySem.W.Frag} {mg : Str → Option Value} {base : Heap} {d : Ad}
theorem ok_0 (T : Tx K mg d) : FnOk P w K mg base CX0 1 d.f_0 d.d_0 ["panel", "kind", "number"] (sp_log_event d) := by
 refine T.F_0.ok sc_0 (fun vs H Q E h => ?_) (fun cdv Ar outer s0 H vs Q E hr h => ?_)
 ·obtain ⟨A, s, kind, num, rfl, hP, hlen, k⟩ := h
  rfl
 obtain ⟨A, s, kind, num, rfl, hP, hlen, k⟩ := h
 refine ⟨_, (pss_cons (ps_aug_at T.cl_Panel T.n_Panel_events_ever (pv 0) pe_int) (pss_cons (ps_expr (pe_bm PySem.F.plainAttrs_list PySem.F.slot_list_append PySem.F.type_list_append mt_append (pe_at T.cl_Panel T.n_Panel_log (pv 0)) (pa_cons (pe_tup (pa_cons (pe_at T.cl_Panel T.n_Panel_clock (pv 0)) (pa_cons (pv 1) (pa_cons (pv 2) pa_nil)))) pa_nil))) (pss_one (ps_if (pt_cmpR op_gt (pe_callB call_len_seq rfl T.no_len bt_len (pa_cons (pe_at T.cl_Panel T.n_Panel_log (pv 0)) pa_nil)) (pe_cst rfl T.c_KEPT_EVENTS) (nomark _)) (pss_one (ps_expr (pe_bm PySem.F.plainAttrs_list PySem.F.slot_list_pop PySem.F.type_list_pop mt_popAt (pe_at T.cl_Panel T.n_Panel_log (pv 0)) (pa_cons pe_int pa_nil)))) pss_nil)))), ?_⟩
 have hbig : (1001 : Nat) ≤ sizeLine := by decide
 obtain ⟨dp, hp⟩ := hP.obj
 obtain ⟨ts, hlg, htl, hts⟩ := hP.log.ex
 have nd := hP.nd
 simp only [Pl.own, List.nodup_cons] at nd
 have npl : A.p ≠ A.lg := fun q => nd.1 (by rw [q]; simp)
 refine ⟨_, rfl, _, _, _, _, rfl, hp, rfl, _, _, _, rfl, hp, (by show 6 < 1000; decide), ?_⟩
 have e1 : putF "events_ever" (V.int ((s.happened : Int) + 1)) (pF s A.lc A.lw A.lg) = pF { s with happened := s.happened + 1 } A.lc A.lw A.lg := rfl
 show tSeq _ _ _ _ (upd H A.p (.ins d.C_Panel dp (putF "events_ever" (V.int ((s.happened : Int) + 1)) (pF s A.lc A.lw A.lg))))
 rw [e1]
 have hlg1 : upd H A.p (.ins d.C_Panel dp (pF { s with happened := s.happened + 1 } A.lc A.lw A.lg)) A.lg = some (.lst (ts.map V.ref)) := by
  rw [upd_ne npl.symm]
  exact hlg
 refine ⟨_, rfl, _, _, _, _, rfl, upd_same, rfl, .inl ⟨rfl, _, SqL.of hlg1⟩, _, rfl, _, _, _, _, rfl, upd_same, rfl, _, rfl, _, rfl, (by show 3 ≤ sizeLine; decide), fun t ht => ?_⟩
 have nt : A.lg ≠ t := ne_of_none hlg1 ht
 have ntp : A.p ≠ t := ne_of_none upd_same ht
 have hHt : H t = none := by
  rw [upd_ne ntp.symm] at ht
  exact ht
 refine ⟨_, _, _, rfl, rfl, by rw [upd_ne nt]; exact hlg1, by rw [List.length_map]; omega, ?_⟩
 have hp3 : upd (upd (upd H A.p (.ins d.C_Panel dp (pF { s with happened := s.happened + 1 } A.lc A.lw A.lg))) t (.tup [vN s.now, vN kind, vN num])) A.lg (.lst (ts.map V.ref ++ [V.ref t])) A.p = some (.ins d.C_Panel dp (pF { s with happened := s.happened + 1 } A.lc A.lw A.lg)) := by
  rw [upd_ne npl, upd_ne ntp, upd_same]
 refine ⟨_, rfl, _, _, _, _, rfl, hp3, rfl, _, _, rfl, .inl (SqL.of upd_same), _, _, rfl, rfl, _, rfl, ?_⟩
 have hst : ∀ (H' : Hp), (∀ b o, H b = some o → b ≠ A.p → b ≠ A.lg → H' b = some o) → Kp [A.p, A.lg] H H' := fun H' q b o e n => by
  simp only [List.mem_cons, List.not_mem_nil, or_false, not_or] at n
  exact q b o e n.1 n.2
 have kt : ∀ (j : Nat) u e, (ts ++ [t])[j]? = some u → (s.log ++ [(⟨s.now, kind, num⟩ : Event)])[j]? = some e → ∀ L, upd (upd (upd H A.p (.ins d.C_Panel dp (pF { s with happened := s.happened + 1 } A.lc A.lw A.lg))) t (.tup [vN s.now, vN kind, vN num])) A.lg (.lst L) u = some (.tup [vN e.time, vN e.kind, vN e.what]) := fun j u e h1 h2 L => by
  by_cases hj : j < ts.length
  ·rw [List.getElem?_append_left hj] at h1
   rw [List.getElem?_append_left (by omega)] at h2
   have q := hts j u e h1 h2
   rw [upd_ne (ne_of q hlg (by intro z; cases z)), upd_ne (ne_of_none q hHt), upd_ne (ne_of q hp (by intro z; cases z))]
   exact q
  ·have hj2 : j = ts.length := by
    have h5 := (List.getElem?_eq_some_iff.mp h1).1
    rw [List.length_append] at h5
    have h6 : j < ts.length + 1 := h5
    omega
   subst hj2
   rw [List.getElem?_append_right (Nat.le_refl _), Nat.sub_self] at h1
   rw [htl, List.getElem?_append_right (Nat.le_refl _), Nat.sub_self] at h2
   obtain rfl : t = u := Option.some.inj h1
   obtain rfl : (⟨s.now, kind, num⟩ : Event) = e := Option.some.inj h2
   rw [upd_ne nt.symm, upd_same]
 have hlen2 : ((ts.map V.ref) ++ [V.ref t]).length = s.log.length + 1 := by
  rw [List.length_append, List.length_map, htl]
  rfl
 have kept : ∀ L, Kp [A.p, A.lg] H (upd (upd (upd H A.p (.ins d.C_Panel dp (pF { s with happened := s.happened + 1 } A.lc A.lw A.lg))) t (.tup [vN s.now, vN kind, vN num])) A.lg (.lst L)) := fun L => hst _ fun b o e q1 q2 => by
  rw [upd_ne q2, upd_ne (ne_of_none e hHt), upd_ne q1]
  exact e
 have hn : noted s [⟨s.now, kind, num⟩] = { s with log := keep (s.log ++ [⟨s.now, kind, num⟩]), happened := s.happened + 1 } := rfl
 have hbool : decide ((200 : Int) < (((ts.map V.ref) ++ [V.ref t]).length : Int)) = decide (200 < s.log.length + 1) := by
  rw [hlen2]
  by_cases h : 200 < s.log.length + 1
  ·rw [decide_eq_true h, decide_eq_true (by omega)]
  ·rw [decide_eq_false h, decide_eq_false (by omega)]
 have ll : (s.log ++ [(⟨s.now, kind, num⟩ : Event)]).length = s.log.length + 1 := by rw [List.length_append]; rfl
 by_cases h2 : 200 < s.log.length + 1
 ·rw [hbool]
  refine ifT (decide_eq_true h2) ?_
  obtain ⟨t0, ts', ets⟩ : ∃ t0 ts', ts = t0 :: ts' := by
   cases ts with
   | nil =>
    have : (0 : Nat) = s.log.length := htl
    omega
   | cons t0 ts' => exact ⟨t0, ts', rfl⟩
  refine ⟨_, rfl, _, _, _, _, rfl, hp3, rfl, .inl ⟨rfl, _, SqL.of upd_same⟩, _, _, 0, 0, V.ref t0, rfl, rfl, upd_same, by decide, by decide, by rw [hlen2]; exact seqIndex_of (by decide) (by omega), by rw [ets]; rfl, ?_⟩
  rw [upd_upd]
  refine k _ ?_ (kept _)
  rw [hn, keep_one hlen, ll, if_pos h2]
  refine hP.setL (dp := dp) (by rw [upd_ne npl, upd_ne ntp, upd_same]; rfl) ⟨ts' ++ [t], ?_, ?_, fun j u e h3 h4 => ?_⟩ (kept _) rfl rfl rfl
  ·rw [upd_same, ets]
   simp
  ·show _ = ((s.log ++ [(⟨s.now, kind, num⟩ : Event)]).drop 1).length
   rw [List.length_drop, ll, List.length_append]
   have : ts'.length + 1 = ts.length := by rw [ets]; rfl
   show ts'.length + 1 = _
   omega
  ·have h4' : ((s.log ++ [(⟨s.now, kind, num⟩ : Event)]).drop 1)[j]? = some e := h4
   rw [List.getElem?_drop] at h4'
   refine kt (1 + j) u e ?_ h4' _
   rw [ets]
   have : 1 + j = j + 1 := by omega
   rw [this]
   exact h3
 ·rw [hbool]
  refine ifF (decide_eq_false h2) ?_
  refine k _ ?_ (kept _)
  rw [hn, keep_one hlen, ll, if_neg h2]
  refine hP.setL (dp := dp) (by rw [upd_ne npl, upd_ne ntp, upd_same]; rfl) ⟨ts ++ [t], ?_, ?_, fun j u e h3 h4 => kt j u e h3 h4 _⟩ (kept _) rfl rfl rfl
  ·rw [upd_same, List.map_append]
   rfl
  ·show _ = (s.log ++ [(⟨s.now, kind, num⟩ : Event)]).length
   rw [ll, List.length_append, htl]
   rfl
theorem evs_take (s : Panel) (kind : Nat) {l : List Nat} {i n : Nat} (h : l[i]? = some n) : evs s kind (l.take (i + 1)) = evs s kind (l.take i) ++ [⟨s.now, kind, n⟩] := by
 unfold evs
 rw [take_snoc h, List.map_append]
 rfl
theorem ok_1 (T : Tx K mg d) : FnOk P w K mg base CX0 2 d.f_1 d.d_1 ["panel", "kind", "numbers"] (sp_log_each K d) := by
 refine T.F_1.ok sc_1 (fun vs H Q E h => ?_) (fun cdv Ar outer s0 H vs Q E hr h => ?_)
 ·obtain ⟨A, s, kind, a, l, rfl, hP, ha, hao, hlen, k⟩ := h
  rfl
 obtain ⟨A, s, kind, a, l, rfl, hP, ha, hao, hlen, k⟩ := h
 refine ⟨_, (pss_one (ps_for PassesOwn.never rfl (pi_list (pv 2)) (pg_name (i := 3) sc_1.nd rfl (Or.inl rfl) (Or.inl rfl)) (pss_one (ps_expr (pe_call (ok_0 T) (hr.mono (by decide)) rfl T.mg_0 T.F_0.kp T.b_0 .nil pass0 (pa_cons (pv 0) (pa_cons (pv 1) (pa_cons (pv 3) pa_nil)))))))), ?_⟩
 have nap : a ∉ [A.p, A.lg] := fun q => hao (by
  simp only [List.mem_cons, List.not_mem_nil, or_false] at q
  rcases q with q | q <;> rw [q] <;> simp [Pl.own])
 refine ⟨_, rfl, a, rfl, ⟨_, SqL.of ha⟩, for_list (K := K) (a := a) (xs := l.map vN) (fun i σ H' => ∃ v : Option V, σ = [some (.ref A.p), some (vN kind), some (.ref a), v] ∧ PanelAt d H' A (noted s (evs s kind (l.take i))) ∧ Kp [A.p, A.lg] H H')
  ⟨none, rfl, by rw [List.take_zero]; show PanelAt d H A (noted s []); rw [noted_nil hlen]; exact hP, Kp.refl _ _⟩ (fun i σ H' _ ⟨_, _, _, kp⟩ => SqL.of (kp _ _ ha nap)) ?_ ?_⟩
 ·rintro i y σ H' hi ⟨v, rfl, hP', kp⟩
  obtain ⟨n, hn, rfl⟩ := map_at hi
  refine ⟨_, rfl, _, rfl, _, rfl, A, _, kind, n, rfl, hP', noted_log_le _ _, fun H2 hP2 kp2 => ?_⟩
  refine ⟨_, rfl, ?_, kp.trans kp2⟩
  rw [noted_noted, noted_now] at hP2
  rw [evs_take s kind hn]
  exact hP2
 ·rintro σ H' ⟨v, rfl, hP', kp⟩
  rw [List.length_map, List.take_length] at hP'
  exact k H' hP' kp
end
def newF (v1 v2 v3 v4 v5 v6 v7 v8 v9 : V) : List (Str × V) :=
 [("cause", v1), ("needed", v2), ("rank", v3), ("on_delay", v4), ("off_delay", v5), ("latch", v6), ("parts", v7), ("phases", v8), ("covers", v9),
  ("seconds_on", .int 0), ("seconds_off", .int 0), ("has_come", .bl false), ("came_at", .int 0), ("acknowledged", .bl false), ("cancelled", .bl false), ("shown_since", .bl false), ("times_come", .int 0)]
def sp_winit (d : Ad) : Sp := fun vs H Q _ => ∃ (p dx : Addr) (v1 v2 v3 v4 v5 v6 v7 v8 v9 : V), vs = [.ref p, v1, v2, v3, v4, v5, v6, v7, v8, v9] ∧ H p = some (.ins d.C_SW dx []) ∧ ∀ H', H' p = some (.ins d.C_SW dx (newF v1 v2 v3 v4 v5 v6 v7 v8 v9)) → Kp [p] H H' → Q .non H'
def forgot (x : Stand) : Stand := { x with acked := false, cancelled := false, shown := false }
def sp_forget (d : Ad) : Sp := fun vs H Q _ => ∃ a w x r, vs = [.ref a] ∧ WA d.C_SW H a w x r ∧ ∀ H', WA d.C_SW H' a w (forgot x) r → Kp [a] H H' → Q .non H'
def came (x : Stand) (t : Nat) : Stand := ⟨x.onFor, x.offFor, true, t, false, false, false, x.times + 1⟩
def sp_come (d : Ad) : Sp := fun vs H Q _ => ∃ a w x r, ∃ t : Nat, vs = [.ref a, vN t] ∧ WA d.C_SW H a w x r ∧ ∀ H', WA d.C_SW H' a w (came x t) r → Kp [a] H H' → Q .non H'
def sp_go (d : Ad) : Sp := fun vs H Q _ => ∃ a w x r, vs = [.ref a] ∧ WA d.C_SW H a w x r ∧ ∀ H', WA d.C_SW H' a w (gone x) r → Kp [a] H H' → Q .non H'
def sp_copyW (d : Ad) : Sp := fun vs H Q _ => ∃ a w x r, vs = [.ref a] ∧ WA d.C_SW H a w x r ∧ ∀ H' p, WA d.C_SW H' p w x r → Same H H' → H p = none → Q (.ref p) H'
theorem Kp.one {H : Hp} {p : Addr} {o : HO} : Kp [p] H (L2.upd H p o) := Kp.upd (by simp)
section
variable {P : Program} {w : World} {K : PySem.W.Frag} {mg : Str → Option Value} {base : Heap} {d : Ad}
theorem ok_17 (T : Tx K mg d) : FnOk P w K mg base CX0 1 d.f_17 d.d_17 ["self", "cause", "needed", "rank", "on_delay", "off_delay", "latch", "parts", "phases", "covers"] (sp_winit d) := by
 refine T.F_17.ok sc_17 (fun vs H Q E h => ?_) (fun cdv Ar outer s0 H vs Q E hr h => ?_)
 ·obtain ⟨p, dx, v1, v2, v3, v4, v5, v6, v7, v8, v9, rfl, hp, k⟩ := h
  rfl
 obtain ⟨p, dx, v1, v2, v3, v4, v5, v6, v7, v8, v9, rfl, hp, k⟩ := h
 refine ⟨_, (pss_cons (ps_at T.cl_SW T.n_SW_cause (pv 0) (pv 1)) (pss_cons (ps_at T.cl_SW T.n_SW_needed (pv 0) (pv 2)) (pss_cons (ps_at T.cl_SW T.n_SW_rank (pv 0) (pv 3)) (pss_cons (ps_at T.cl_SW T.n_SW_on_delay (pv 0) (pv 4)) (pss_cons (ps_at T.cl_SW T.n_SW_off_delay (pv 0) (pv 5)) (pss_cons (ps_at T.cl_SW T.n_SW_latch (pv 0) (pv 6)) (pss_cons (ps_at T.cl_SW T.n_SW_parts (pv 0) (pv 7)) (pss_cons (ps_at T.cl_SW T.n_SW_phases (pv 0) (pv 8)) (pss_cons (ps_at T.cl_SW T.n_SW_covers (pv 0) (pv 9)) (pss_cons (ps_at T.cl_SW T.n_SW_seconds_on (pv 0) pe_int) (pss_cons (ps_at T.cl_SW T.n_SW_seconds_off (pv 0) pe_int) (pss_cons (ps_at T.cl_SW T.n_SW_has_come (pv 0) pe_bl) (pss_cons (ps_at T.cl_SW T.n_SW_came_at (pv 0) pe_int) (pss_cons (ps_at T.cl_SW T.n_SW_acknowledged (pv 0) pe_bl) (pss_cons (ps_at T.cl_SW T.n_SW_cancelled (pv 0) pe_bl) (pss_cons (ps_at T.cl_SW T.n_SW_shown_since (pv 0) pe_bl) (pss_one (ps_at T.cl_SW T.n_SW_times_come (pv 0) pe_int)))))))))))))))))), ?_⟩
 refine ⟨_, rfl, _, rfl, _, _, _, rfl, hp, (by show 0 < 1000; decide), ?_⟩
 refine ⟨_, rfl, _, rfl, _, _, _, rfl, upd_same, (by show 1 < 1000; decide), ?_⟩
 refine ⟨_, rfl, _, rfl, _, _, _, rfl, upd_same, (by show 2 < 1000; decide), ?_⟩
 refine ⟨_, rfl, _, rfl, _, _, _, rfl, upd_same, (by show 3 < 1000; decide), ?_⟩
 refine ⟨_, rfl, _, rfl, _, _, _, rfl, upd_same, (by show 4 < 1000; decide), ?_⟩
 refine ⟨_, rfl, _, rfl, _, _, _, rfl, upd_same, (by show 5 < 1000; decide), ?_⟩
 refine ⟨_, rfl, _, rfl, _, _, _, rfl, upd_same, (by show 6 < 1000; decide), ?_⟩
 refine ⟨_, rfl, _, rfl, _, _, _, rfl, upd_same, (by show 7 < 1000; decide), ?_⟩
 refine ⟨_, rfl, _, rfl, _, _, _, rfl, upd_same, (by show 8 < 1000; decide), ?_⟩
 refine ⟨_, rfl, _, _, _, rfl, upd_same, (by show 9 < 1000; decide), ?_⟩
 refine ⟨_, rfl, _, _, _, rfl, upd_same, (by show 10 < 1000; decide), ?_⟩
 refine ⟨_, rfl, _, _, _, rfl, upd_same, (by show 11 < 1000; decide), ?_⟩
 refine ⟨_, rfl, _, _, _, rfl, upd_same, (by show 12 < 1000; decide), ?_⟩
 refine ⟨_, rfl, _, _, _, rfl, upd_same, (by show 13 < 1000; decide), ?_⟩
 refine ⟨_, rfl, _, _, _, rfl, upd_same, (by show 14 < 1000; decide), ?_⟩
 refine ⟨_, rfl, _, _, _, rfl, upd_same, (by show 15 < 1000; decide), ?_⟩
 refine ⟨_, rfl, _, _, _, rfl, upd_same, (by show 16 < 1000; decide), ?_⟩
 refine k _ (by rw [upd_same]; rfl) fun b o e n => ?_
 have nb : b ≠ p := by simpa using n
 iterate 17 rw [upd_ne nb]
 exact e
theorem ok_18 (T : Tx K mg d) : FnOk P w K mg base CX0 1 d.f_18 d.d_18 ["warning"] (sp_forget d) := by
 refine T.F_18.ok sc_18 (fun vs H Q E h => ?_) (fun cdv Ar outer s0 H vs Q E hr h => ?_)
 ·obtain ⟨a, w, x, r, rfl, ⟨dx, hw⟩, k⟩ := h
  rfl
 obtain ⟨a, w, x, r, rfl, ⟨dx, hw⟩, k⟩ := h
 refine ⟨_, (pss_cons (ps_at T.cl_SW T.n_SW_acknowledged (pv 0) pe_bl) (pss_cons (ps_at T.cl_SW T.n_SW_cancelled (pv 0) pe_bl) (pss_one (ps_at T.cl_SW T.n_SW_shown_since (pv 0) pe_bl)))), ?_⟩
 refine ⟨_, rfl, _, _, _, rfl, hw, (by show 17 < 1000; decide), ?_⟩
 refine ⟨_, rfl, _, _, _, rfl, upd_same, (by show 17 < 1000; decide), ?_⟩
 refine ⟨_, rfl, _, _, _, rfl, upd_same, (by show 17 < 1000; decide), ?_⟩
 refine k _ ⟨dx, by rw [upd_same]; rfl⟩ fun b o e n => ?_
 have nb : b ≠ a := by simpa using n
 iterate 3 rw [upd_ne nb]
 exact e
theorem ok_19 (T : Tx K mg d) : FnOk P w K mg base CX0 2 d.f_19 d.d_19 ["warning", "clock"] (sp_come d) := by
 refine T.F_19.ok sc_19 (fun vs H Q E h => ?_) (fun cdv Ar outer s0 H vs Q E hr h => ?_)
 ·obtain ⟨a, w, x, r, t, rfl, ⟨dx, hw⟩, k⟩ := h
  rfl
 obtain ⟨a, w, x, r, t, rfl, ⟨dx, hw⟩, k⟩ := h
 refine ⟨_, (pss_cons (ps_at T.cl_SW T.n_SW_has_come (pv 0) pe_bl) (pss_cons (ps_at T.cl_SW T.n_SW_came_at (pv 0) (pv 1)) (pss_cons (ps_aug_at T.cl_SW T.n_SW_times_come (pv 0) pe_int) (pss_one (ps_expr (pe_call (ok_18 T) (hr.mono (by decide)) rfl T.mg_18 T.F_18.kp T.b_18 .nil pass0 (pa_cons (pv 0) pa_nil))))))), ?_⟩
 refine ⟨_, rfl, _, _, _, rfl, hw, (by show 17 < 1000; decide), ?_⟩
 refine ⟨_, rfl, _, rfl, _, _, _, rfl, upd_same, (by show 17 < 1000; decide), ?_⟩
 refine ⟨_, rfl, _, _, _, _, rfl, upd_same, rfl, _, _, _, rfl, upd_same, (by show 17 < 1000; decide), ?_⟩
 refine ⟨_, rfl, a, w, ⟨x.onFor, x.offFor, true, t, x.acked, x.cancelled, x.shown, x.times + 1⟩, r, rfl, ⟨dx, by rw [upd_same]; rfl⟩, fun H2 h2 k2 => ?_⟩
 refine k H2 h2 fun b o e n => k2 b o ?_ n
 have nb : b ≠ a := by simpa using n
 iterate 3 rw [upd_ne nb]
 exact e
theorem ok_20 (T : Tx K mg d) : FnOk P w K mg base CX0 2 d.f_20 d.d_20 ["warning"] (sp_go d) := by
 refine T.F_20.ok sc_20 (fun vs H Q E h => ?_) (fun cdv Ar outer s0 H vs Q E hr h => ?_)
 ·obtain ⟨a, w, x, r, rfl, ⟨dx, hw⟩, k⟩ := h
  rfl
 obtain ⟨a, w, x, r, rfl, ⟨dx, hw⟩, k⟩ := h
 refine ⟨_, (pss_cons (ps_at T.cl_SW T.n_SW_has_come (pv 0) pe_bl) (pss_cons (ps_at T.cl_SW T.n_SW_came_at (pv 0) pe_int) (pss_one (ps_expr (pe_call (ok_18 T) (hr.mono (by decide)) rfl T.mg_18 T.F_18.kp T.b_18 .nil pass0 (pa_cons (pv 0) pa_nil)))))), ?_⟩
 refine ⟨_, rfl, _, _, _, rfl, hw, (by show 17 < 1000; decide), ?_⟩
 refine ⟨_, rfl, _, _, _, rfl, upd_same, (by show 17 < 1000; decide), ?_⟩
 refine ⟨_, rfl, a, w, ⟨x.onFor, x.offFor, false, 0, x.acked, x.cancelled, x.shown, x.times⟩, r, rfl, ⟨dx, by rw [upd_same]; rfl⟩, fun H2 h2 k2 => ?_⟩
 refine k H2 h2 fun b o e n => k2 b o ?_ n
 have nb : b ≠ a := by simpa using n
 iterate 2 rw [upd_ne nb]
 exact e
theorem ok_21 (T : Tx K mg d) : FnOk P w K mg base CX0 3 d.f_21 d.d_21 ["warning"] (sp_copyW d) := by
  refine T.F_21.ok sc_21 (fun vs H Q E h => ?_) (fun cdv Ar outer s0 H vs Q E hr h => ?_)
  · obtain ⟨a, w, x, r, rfl, ⟨da, hw⟩, k⟩ := h
    rfl
  obtain ⟨a, w, x, r, rfl, ⟨da, hw⟩, k⟩ := h
  refine ⟨_, (pss_cons (ps_sA (i := 1) sc_21.nd rfl (pe_make T.mk_SW (ok_17 T) (hr.mono (by decide)) rfl T.mg_SW T.b_17 .nil pass0 (pa_cons (pe_at T.cl_SW T.n_SW_cause (pv 0)) (pa_cons (pe_at T.cl_SW T.n_SW_needed (pv 0)) (pa_cons (pe_at T.cl_SW T.n_SW_rank (pv 0)) (pa_cons (pe_at T.cl_SW T.n_SW_on_delay (pv 0)) (pa_cons (pe_at T.cl_SW T.n_SW_off_delay (pv 0)) (pa_cons (pe_at T.cl_SW T.n_SW_latch (pv 0)) (pa_cons (pe_at T.cl_SW T.n_SW_parts (pv 0)) (pa_cons (pe_at T.cl_SW T.n_SW_phases (pv 0)) (pa_cons (pe_at T.cl_SW T.n_SW_covers (pv 0)) pa_nil))))))))))) (pss_cons (ps_at T.cl_SW T.n_SW_seconds_on (pv 1) (pe_at T.cl_SW T.n_SW_seconds_on (pv 0))) (pss_cons (ps_at T.cl_SW T.n_SW_seconds_off (pv 1) (pe_at T.cl_SW T.n_SW_seconds_off (pv 0))) (pss_cons (ps_at T.cl_SW T.n_SW_has_come (pv 1) (pe_at T.cl_SW T.n_SW_has_come (pv 0))) (pss_cons (ps_at T.cl_SW T.n_SW_came_at (pv 1) (pe_at T.cl_SW T.n_SW_came_at (pv 0))) (pss_cons (ps_at T.cl_SW T.n_SW_acknowledged (pv 1) (pe_at T.cl_SW T.n_SW_acknowledged (pv 0))) (pss_cons (ps_at T.cl_SW T.n_SW_cancelled (pv 1) (pe_at T.cl_SW T.n_SW_cancelled (pv 0))) (pss_cons (ps_at T.cl_SW T.n_SW_shown_since (pv 1) (pe_at T.cl_SW T.n_SW_shown_since (pv 0))) (pss_cons (ps_at T.cl_SW T.n_SW_times_come (pv 1) (pe_at T.cl_SW T.n_SW_times_come (pv 0))) (pss_one (ps_ret (pv 1)))))))))))), ?_⟩
  refine ⟨_, rfl, _, _, _, _, rfl, hw, rfl, _, rfl, _, _, _, _, rfl, hw, rfl, _, rfl, _, _, _, _, rfl, hw, rfl, _, rfl, _, _, _, _, rfl, hw, rfl, _, rfl, _, _, _, _, rfl, hw, rfl, _, rfl, _, _, _, _, rfl, hw, rfl, _, rfl, _, _, _, _, rfl, hw, rfl, _, rfl, _, _, _, _, rfl, hw, rfl, _, rfl, _, _, _, _, rfl, hw, rfl, ?_⟩
  intro p dx np nd ne
  refine ⟨p, dx, _, _, _, _, _, _, _, _, _, rfl, upd_same, fun H1 h1 k1 => ⟨rfl, ?_⟩⟩
  have s1 : Same H H1 := Same.made np nd fun b o e q => k1 b o e (by simpa using q)
  have nap : a ≠ p := ne_of_none hw np
  have h1 : H1 p = some (.ins d.C_SW dx (wF w Vbavag.newStand r.1 r.2.1 r.2.2)) := h1
  have hw1 := s1 _ _ hw
  refine ⟨_, rfl, _, _, _, _, rfl, hw1, rfl, _, rfl, _, _, _, rfl, h1, (by show 17 < 1000; decide), ?_⟩
  refine ⟨_, rfl, _, _, _, _, rfl, (by rw [upd_ne nap]; exact hw1), rfl, _, rfl, _, _, _, rfl, upd_same, (by show 17 < 1000; decide), ?_⟩
  refine ⟨_, rfl, _, _, _, _, rfl, (by iterate 2 rw [upd_ne nap]
                                       exact hw1), rfl, _, rfl, _, _, _, rfl, upd_same, (by show 17 < 1000; decide), ?_⟩
  refine ⟨_, rfl, _, _, _, _, rfl, (by iterate 3 rw [upd_ne nap]
                                       exact hw1), rfl, _, rfl, _, _, _, rfl, upd_same, (by show 17 < 1000; decide), ?_⟩
  refine ⟨_, rfl, _, _, _, _, rfl, (by iterate 4 rw [upd_ne nap]
                                       exact hw1), rfl, _, rfl, _, _, _, rfl, upd_same, (by show 17 < 1000; decide), ?_⟩
  refine ⟨_, rfl, _, _, _, _, rfl, (by iterate 5 rw [upd_ne nap]
                                       exact hw1), rfl, _, rfl, _, _, _, rfl, upd_same, (by show 17 < 1000; decide), ?_⟩
  refine ⟨_, rfl, _, _, _, _, rfl, (by iterate 6 rw [upd_ne nap]
                                       exact hw1), rfl, _, rfl, _, _, _, rfl, upd_same, (by show 17 < 1000; decide), ?_⟩
  refine ⟨_, rfl, _, _, _, _, rfl, (by iterate 7 rw [upd_ne nap]
                                       exact hw1), rfl, _, rfl, _, _, _, rfl, upd_same, (by show 17 < 1000; decide), ?_⟩
  refine ⟨_, rfl, k _ p ⟨dx, by rw [upd_same]; rfl⟩ (fun b o e => ?_) np⟩
  have nb : b ≠ p := ne_of_none e np
  iterate 8 rw [upd_ne nb]
  exact s1 b o e
end
def sp_pinit (d : Ad) : Sp := fun vs H Q _ => ∃ (p dx : Addr), vs = [.ref p] ∧ H p = some (.ins d.C_Panel dx []) ∧ ∀ H' A, A.p = p → A.as = [] → A.ro = [] → PanelAt d H' A Vbavag.start → Kp [p] H H' → (∀ b ∈ [A.lc, A.lw, A.lg], H b = none) → Q .non H'
section
variable {P : Program} {w : World} {K : PySem.W.Frag} {mg : Str → Option Value} {base : Heap} {d : Ad}
theorem ok_43 (T : Tx K mg d) : FnOk P w K mg base CX0 1 d.f_43 d.d_43 ["self"] (sp_pinit d) := by
 refine T.F_43.ok sc_43 (fun vs H Q E h => ?_) (fun cdv Ar outer s0 H vs Q E hr h => ?_)
 ·obtain ⟨p, dx, rfl, hp, k⟩ := h
  rfl
 obtain ⟨p, dx, rfl, hp, k⟩ := h
 refine ⟨_, (pss_cons (ps_at T.cl_Panel T.n_Panel_clock (pv 0) pe_int) (pss_cons (ps_at T.cl_Panel T.n_Panel_phase (pv 0) pe_int) (pss_cons (ps_at T.cl_Panel T.n_Panel_causes (pv 0) (pe_lc rfl sc_43.nd (pi_range1 rfl T.no_range (pa_cons (pe_cst rfl T.c_CAUSES) pa_nil)) (blkOk_by (own := [("cause", 1)]) rfl) (fun _ _ _ _ _ => (pg_name (i := 1) sc_43.nd rfl (Or.inl rfl) (Or.inr rfl))) (fun _ _ _ _ _ => pts_nil) (fun _ _ _ _ _ => pe_bl))) (pss_cons (ps_at T.cl_Panel T.n_Panel_warnings (pv 0) (pe_lst pa_nil)) (pss_cons (ps_at T.cl_Panel T.n_Panel_log (pv 0) (pe_lst pa_nil)) (pss_one (ps_at T.cl_Panel T.n_Panel_events_ever (pv 0) pe_int))))))), ?_⟩
 refine ⟨_, rfl, _, _, _, rfl, hp, (by show 0 < 1000; decide), ?_⟩
 refine ⟨_, rfl, _, _, _, rfl, upd_same, (by show 1 < 1000; decide), ?_⟩
 refine ⟨32, rfl, by decide, by decide, ?_⟩
 intro lc hlc
 have npc : p ≠ lc := ne_of_none upd_same hlc
 have hbig : (1001 : Nat) ≤ sizeLine := by decide
 refine lc_range (lo := 0) (n := 32) (fun i H' => H' lc = some (.lst (List.replicate i (V.bl false))) ∧ ∀ b, b ≠ lc → H' b = upd (upd H p (.ins d.C_Panel dx (putF "clock" (.int 0) []))) p (.ins d.C_Panel dx (putF "phase" (.int 0) (putF "clock" (.int 0) []))) b)
  ⟨upd_same, fun b hb => upd_ne hb⟩ (fun i H' hi ⟨h1, h2⟩ => ⟨rfl, ?_⟩) ?_
 ·refine ⟨_, h1, by rw [List.length_replicate]; omega, ?_, fun b hb => ?_⟩
  ·rw [upd_same, List.replicate_succ']
  ·rw [upd_ne hb]
   exact h2 b hb
 ·rintro H1 ⟨h1, h2⟩
  have hp1 : H1 p = some (.ins d.C_Panel dx (putF "phase" (.int 0) (putF "clock" (.int 0) []))) := by
   rw [h2 p npc, upd_same]
  have hHc : H lc = none := by
   have q := hlc
   rw [upd_ne npc.symm, upd_ne npc.symm] at q
   exact q
  refine ⟨_, rfl, _, _, _, rfl, hp1, (by show 2 < 1000; decide), ?_⟩
  refine ⟨Nat.zero_le _, fun lw hlw => ?_⟩
  have npw : p ≠ lw := ne_of_none upd_same hlw
  have ncw : lc ≠ lw := ne_of_none (by rw [upd_ne npc.symm]; exact h1) hlw
  refine ⟨_, rfl, _, _, _, rfl, by rw [upd_ne npw, upd_same], (by show 3 < 1000; decide), ?_⟩
  refine ⟨Nat.zero_le _, fun lg hlg => ?_⟩
  have npg : p ≠ lg := ne_of_none upd_same hlg
  have ncg : lc ≠ lg := ne_of_none (by rw [upd_ne npc.symm, upd_ne ncw, upd_ne npc.symm]; exact h1) hlg
  have nwg : lw ≠ lg := ne_of_none (by rw [upd_ne npw.symm, upd_same]) hlg
  refine ⟨_, rfl, _, _, _, rfl, by rw [upd_ne npg, upd_same], (by show 4 < 1000; decide), ?_⟩
  refine ⟨_, rfl, _, _, _, rfl, upd_same, (by show 5 < 1000; decide), ?_⟩
  have hHw : H lw = none := by
   have q := hlw
   rw [upd_ne npw.symm, h2 lw ncw.symm, upd_ne npw.symm, upd_ne npw.symm] at q
   exact q
  have hHg : H lg = none := by
   have q := hlg
   rw [upd_ne npg.symm, upd_ne nwg.symm, upd_ne npg.symm, h2 lg ncg.symm, upd_ne npg.symm, upd_ne npg.symm] at q
   exact q
  refine k _ ⟨p, lc, lw, lg, [], []⟩ rfl rfl rfl ⟨⟨dx, by rw [upd_same]; rfl⟩, ?_, ?_, ⟨[], ?_, rfl, fun i t e h => absurd h (by simp)⟩, rfl, rfl, fun i a w x h => absurd h (by simp), ?_, fun b _ => by simp⟩ (fun b o e n => ?_) (fun b hb => ?_)
  ·show upd _ _ _ lc = _
   rw [upd_ne npc.symm, upd_ne npc.symm, upd_ne ncg, upd_ne npc.symm, upd_ne ncw, upd_ne npc.symm]
   exact h1
  ·show upd _ _ _ lw = _
   rw [upd_ne npw.symm, upd_ne npw.symm, upd_ne nwg, upd_ne npw.symm, upd_same]
   rfl
  ·show upd _ _ _ lg = _
   rw [upd_ne npg.symm, upd_ne npg.symm, upd_same]
   rfl
  ·show ([p, lc, lw, lg] : List Addr).Nodup
   simp [npc, npw, npg, ncw, ncg, nwg]
  ·have nb : b ≠ p := by simpa using n
   have n1 : b ≠ lc := ne_of_none e hHc
   have n2 : b ≠ lw := ne_of_none e hHw
   have n3 : b ≠ lg := ne_of_none e hHg
   rw [upd_ne nb, upd_ne nb, upd_ne n3, upd_ne nb, upd_ne n2, upd_ne nb, h2 b n1, upd_ne nb, upd_ne nb]
   exact e
  ·simp only [List.mem_cons, List.not_mem_nil, or_false] at hb
   rcases hb with q | q | q <;> rw [q] <;> assumption
end
theorem inV_has (i : Nat) (l : List Nat) : inV (vN i) (l.map vN) = Vbavag.has l i := by
 rw [inV_nats, Bool.eq_iff_iff, decide_eq_true_iff, has_iff]
def sp_held (d : Ad) : Sp := fun vs H Q _ => ∃ (A : Pl) (s : Panel) (a : Addr) (w : Told) (x : Stand) (r : Addr × Addr × Addr), vs = [.ref A.p, .ref a] ∧ PanelAt d H A s ∧ WA d.C_SW H a w x r ∧ Rows A.ro H w r ∧ Q (.bl (held s.phase w x)) H
def sp_cov (d : Ad) : Sp := fun vs H Q _ => ∃ (ro : List Addr) (a b : Addr) (w : Told) (x : Stand) (r : Addr × Addr × Addr) (ns : List Nat), vs = [.ref a, .ref b] ∧ WA d.C_SW H a w x r ∧ Rows ro H w r ∧ w.covers.length ≤ 1000 ∧ H b = some (.lst (ns.map vN)) ∧ ∀ H', Same H H' → Q (.bl (w.covers.any fun j => decide (j ∈ ns))) H'
def Short (s : Panel) : Prop := ∀ w ∈ s.told, w.parts.length ≤ 32 ∧ w.phases.length ≤ 32 ∧ w.covers.length ≤ 32 ∧ w.covers.Pairwise (· < ·)
structure Rd1 (d : Ad) (H : Hp) (A : Pl) (s : Panel) : Prop where
 at_ : PanelAt d H A s
 few : s.told.length ≤ 24
 short : Short s
theorem Rd1.same {d : Ad} {H H' : Hp} {A : Pl} {s : Panel} (h : Rd1 d H A s) (e : Same H H') : Rd1 d H' A s := ⟨h.at_.same e, h.few, h.short⟩
def sp_shown (d : Ad) : Sp := fun vs H Q _ => ∃ (A : Pl) (s : Panel), vs = [.ref A.p] ∧ Rd1 d H A s ∧ ∀ H' p, Same H H' → H p = none → H' p = some (.lst ((nums (shown s)).map vN)) → Q (.ref p) H'
section
variable {P : Program} {w : World} {K : PySem.W.Frag} {mg : Str → Option Value} {base : Heap} {d : Ad}
theorem ok_10 (T : Tx K mg d) : FnOk P w K mg base CX0 1 d.f_10 d.d_10 ["panel", "warning"] (sp_held d) := by
 refine T.F_10.ok sc_10 (fun vs H Q E h => ?_) (fun cdv Ar outer s0 H vs Q E hr h => ?_)
 ·obtain ⟨A, s, a, w, x, r, rfl, hP, ⟨dx, hw⟩, hr', k⟩ := h
  rfl
 obtain ⟨A, s, a, w, x, r, rfl, hP, ⟨dx, hw⟩, hr', k⟩ := h
 refine ⟨_, (pss_one (ps_ret (pe_and (pe_cmpR op_in_seq (pe_at T.cl_Panel T.n_Panel_phase (pv 0)) (pe_at T.cl_SW T.n_SW_phases (pv 1)) (by with_unfolding_all rfl)) (pe_one (pe_not (pe_at T.cl_SW T.n_SW_shown_since (pv 1))))))), ?_⟩
 obtain ⟨dp, hp⟩ := hP.obj
 refine ⟨_, rfl, _, _, _, _, rfl, hp, rfl, _, rfl, _, _, _, _, rfl, hw, rfl, _, _, rfl, .inl (SqL.of hr'.h), rfl, flat_nats _, _, rfl, ?_⟩
 show if inV (vN s.phase) (w.phases.map vN) = true then _ else _
 rw [inV_has]
 unfold held at k
 cases h1 : Vbavag.has w.phases s.phase with
 | false =>
  rw [h1, Bool.false_and] at k
  exact iteF k
 | true =>
  rw [h1, Bool.true_and] at k
  exact iteT ⟨_, rfl, _, _, _, _, rfl, hw, rfl, _, rfl, k⟩
theorem ok_11 (T : Tx K mg d) : FnOk P w K mg base CX0 1 d.f_11 d.d_11 ["warning", "shown"] (sp_cov d) := by
 refine T.F_11.ok sc_11 (fun vs H Q E h => ?_) (fun cdv Ar outer s0 H vs Q E hr h => ?_)
 ·obtain ⟨ro, a, b, w, x, r, ns, rfl, ⟨dx, hw⟩, hr', hz, hb, k⟩ := h
  rfl
 obtain ⟨ro, a, b, w, x, r, ns, rfl, ⟨dx, hw⟩, hr', hz, hb, k⟩ := h
 refine ⟨_, (pss_one (ps_ret (pe_callB (cr_any rfl) rfl T.no_any bt_any (pa_cons (pe_lc rfl sc_11.nd (pi_list (pe_at T.cl_SW T.n_SW_covers (pv 0))) (blkOk_by (own := [("number", 2)]) rfl) (fun _ _ _ _ _ => (pg_name (i := 2) sc_11.nd rfl (Or.inl rfl) (Or.inr rfl))) (fun _ _ _ _ _ => pts_nil) (fun _ _ _ _ _ => (pe_cmpR (inS (K := K) rfl) (pv 2) (pv 1) (by with_unfolding_all rfl)))) pa_nil)))), ?_⟩
 have hbig : (1001 : Nat) ≤ sizeLine := by decide
 refine ⟨_, rfl, _, _, _, _, rfl, hw, rfl, _, rfl, ⟨_, SqL.of hr'.c⟩, ?_⟩
 intro D hD
 refine lc_list (K := K) (a := r.2.2) (xs := w.covers.map vN) (fun i H' => Same H H' ∧ H' D = some (.lst ((w.covers.take i).map fun j => V.bl (decide (j ∈ ns)))))
  ⟨Same.new hD, upd_same⟩ (fun i H' _ ⟨sm, _⟩ => SqL.of (sm _ _ hr'.c)) ?_ ?_
 ·rintro i y H' hi ⟨sm, hD'⟩
  obtain ⟨n, hn, rfl⟩ := map_at hi
  refine ⟨rfl, _, rfl, _, rfl, _, _, rfl, .inl (SqL.of (sm _ _ hb)), rfl, flat_nats _, _, hD', ?_, fun c o e => ?_, ?_⟩
  ·rw [List.length_map, List.length_take]
   omega
  ·rw [upd_ne (ne_of_none e hD)]
   exact sm c o e
  ·rw [upd_same, take_snoc hn, List.map_append]
   show some (HO.lst (_ ++ [V.bl (inV (vN n) (ns.map vN))])) = _
   rw [inV_nats]
   rfl
 ·rintro H' ⟨sm, hD'⟩
  rw [List.length_map, List.take_length] at hD'
  refine ⟨D, w.covers.map fun j => decide (j ∈ ns), rfl, SqL.of (by rw [hD', List.map_map]; rfl), ?_⟩
  have e : (w.covers.map fun j => decide (j ∈ ns)).any id = w.covers.any fun j => decide (j ∈ ns) := by
   rw [List.any_map]
   rfl
  rw [e]
  exact k H' sm
theorem tAndV.of {ta tb : TE} {σ : St} {H : Hp} {Q : VK} {c e : Bool} (ha : ∀ Q' : VK, Q' (.bl c) H → ta σ H Q') (hb : c = true → ∀ Q' : VK, Q' (.bl e) H → tb σ H Q') (q : Q (.bl (c && e)) H) : tAndV ta tb σ H Q := by
 refine ha _ ⟨c, rfl, ?_⟩
 cases c with
 | false => exact iteF q
 | true => exact iteT (hb rfl _ q)
theorem any_nums {l : List Bool} {c : List Nat} : (c.any fun j => decide (j ∈ nums l)) = c.any fun j => l.getD j false := by
 congr 1
 funext j
 rw [Bool.eq_iff_iff, decide_eq_true_iff, mem_nums]
theorem nums_le (l : List Bool) : (nums l).length ≤ l.length := by
 unfold nums
 refine Nat.le_trans (List.length_filter_le _ _) ?_
 rw [List.length_range]
 exact Nat.le_refl _
theorem ok_12 (T : Tx K mg d) : FnOk P w K mg base CX0 2 d.f_12 d.d_12 ["panel"] (sp_shown d) := by
 refine T.F_12.ok sc_12 (fun vs H Q E h => ?_) (fun cdv Ar outer s0 H vs Q E hr h => ?_)
 ·obtain ⟨A, s, rfl, hR, k⟩ := h
  rfl
 obtain ⟨A, s, rfl, hR, k⟩ := h
 refine ⟨_, (pss_cons (ps_sA (i := 1) sc_12.nd rfl (pe_lst pa_nil)) (pss_cons (ps_for PassesOwn.never rfl (pi_enum rfl T.no_enumerate (pa_cons (pe_at T.cl_Panel T.n_Panel_warnings (pv 0)) pa_nil)) (pgTwo (K := K) rfl rfl (pg_name (i := 2) sc_12.nd rfl (Or.inl rfl) (Or.inl rfl)) (pg_name (i := 3) sc_12.nd rfl (Or.inl rfl) (Or.inl rfl))) (pss_cons (ps_sA (i := 4) sc_12.nd rfl (pe_and (pe_at T.cl_SW T.n_SW_has_come (pv 3)) (pe_and (pe_not (pe_at T.cl_SW T.n_SW_cancelled (pv 3))) (pe_one (pe_not (pe_call (ok_10 T) (hr.mono (by decide)) rfl T.mg_10 T.F_10.kp T.b_10 .nil pass0 (pa_cons (pv 0) (pa_cons (pv 3) pa_nil)))))))) (pss_one (ps_if (PW.pt (pw_and (pt_val (pv 4)) (pw_and1 (pt_not (pt_val (pe_call (ok_11 T) (hr.mono (by decide)) rfl T.mg_11 T.F_11.kp T.b_11 .nil pass0 (pa_cons (pv 3) (pa_cons (pv 1) pa_nil)))))))) (pss_one (ps_expr (pe_bm PySem.F.plainAttrs_list PySem.F.slot_list_append PySem.F.type_list_append mt_append (pv 1) (pa_cons (pv 2) pa_nil)))) pss_nil)))) (pss_one (ps_ret (pv 1))))), ?_⟩
 have hP := hR.at_
 have hbig : (1001 : Nat) ≤ sizeLine := by decide
 obtain ⟨dp, hp⟩ := hP.obj
 refine ⟨Nat.zero_le _, fun q hq => ?_⟩
 have s0 : Same H (upd H q (.lst [])) := Same.new hq
 refine ⟨_, rfl, _, _, _, _, rfl, s0 _ _ hp, rfl, _, _, rfl, SqL.of (s0 _ _ hP.war), for_enum (K := K) (a := A.lw) (xs := A.as.map V.ref) (i1 := 2) (i2 := 3)
  (fun i σ H' => ∃ v2 v3 v4 : Option V, σ = [some (.ref A.p), some (.ref q), v2, v3, v4] ∧ Same H H' ∧ H' q = some (.lst ((nums (shownUp s i)).map vN))) ⟨none, none, none, rfl, s0, upd_same⟩ (fun i σ H' _ ⟨_, _, _, _, sm, _⟩ => SqL.of (sm _ _ hP.war)) ?_ ?_⟩
 ·rintro i y σ H' T' hi ⟨v2, v3, v4, rfl, sm, hq'⟩ hT'
  obtain ⟨a, ha, rfl⟩ := map_at hi
  have s2 : Same H (upd H' T' (.tup [.int (i : Nat), .ref a])) := fun c o e => by
   rw [upd_ne (ne_of_none (sm c o e) hT')]
   exact sm c o e
  have hP2 := hP.same s2
  have hq2 : upd H' T' (.tup [.int (i : Nat), .ref a]) q = some (.lst ((nums (shownUp s i)).map vN)) := by
   rw [upd_ne (ne_of_none hq' hT')]
   exact hq'
  obtain ⟨w, x, r, hw, hx, ⟨dx, hwa⟩, hr'⟩ := hP2.of ha
  have hi' : i < s.told.length := (List.getElem?_eq_some_iff.mp hw).1
  have hls := hP.ls
  have hup := shownUp_length hls (i := i) (by omega)
  generalize upd H' T' (.tup [.int (i : Nat), .ref a]) = H2 at s2 hP2 hq2 hwa hr'
  obtain ⟨_, _, hcz, _⟩ := hR.short w (List.mem_of_getElem? hw)
  have hsu := shownUp_succ hls hw hx
  refine tAndV.of (c := x.come) (e := !x.cancelled && !held s.phase w x) (fun Q' h => ⟨_, rfl, _, _, _, _, rfl, hwa, rfl, h⟩) (fun _ Q' h => tAndV.of (c := !x.cancelled) (e := !held s.phase w x) (fun Q' h => ⟨_, rfl, _, _, _, _, rfl, hwa, rfl, _, rfl, h⟩)
   (fun _ Q' h => ⟨_, rfl, _, rfl, A, s, a, w, x, r, rfl, hP2, ⟨dx, hwa⟩, hr', _, rfl, h⟩) h) ?_
  refine ⟨_, rfl, _, rfl, ?_⟩
  cases hb : (x.come && (!x.cancelled && !held s.phase w x)) with
  | false =>
   refine iteF (iteF ⟨_, _, _, rfl, s2, ?_⟩)
   have e : vis s.phase (shownUp s i) w x = false := by
    unfold vis
    rw [Bool.and_eq_false_iff] at hb
    rcases hb with h | h
    ·rw [h]
     rfl
    ·rw [Bool.and_eq_false_iff] at h
     rcases h with h | h
     ·rw [h]
      simp
     ·rw [h]
      simp
   rw [hsu, e, nums_snoc]
   simpa using hq2
  | true =>
   refine iteT ⟨_, rfl, _, rfl, A.ro, a, q, w, x, r, _, rfl, ⟨dx, hwa⟩, hr', by omega, hq2, fun H3 s3 => ⟨_, rfl, ?_⟩⟩
   have hq3 := s3 _ _ hq2
   have e : vis s.phase (shownUp s i) w x = !(w.covers.any fun j => decide (j ∈ nums (shownUp s i))) := by
    rw [any_nums]
    unfold vis
    simp only [Bool.and_eq_true] at hb
    rw [hb.1, hb.2.1, hb.2.2]
    simp
   cases hv : (w.covers.any fun j => decide (j ∈ nums (shownUp s i))) with
   | true =>
    rw [hv] at e
    have hv := e
    refine iteF ⟨_, _, _, rfl, s2.trans s3, ?_⟩
    rw [hsu, hv, nums_snoc]
    simpa using hq3
   | false =>
    rw [hv] at e
    have hv := e
    refine iteT ⟨_, rfl, .inl ⟨rfl, _, SqL.of hq3⟩, _, rfl, _, _, _, rfl, rfl, hq3, ?_, _, _, _, rfl, fun c o e' => ?_, ?_⟩
    ·have := nums_le (shownUp s i)
     rw [List.length_map]
     have := hR.few
     omega
    ·rw [upd_ne (ne_of_none e' hq)]
     exact s3 _ _ (s2 _ _ e')
    ·rw [upd_same, hsu, hv, nums_snoc, if_pos (show (!false) = true from rfl), List.map_append, hup]
     rfl
 ·rintro σ H' ⟨v2, v3, v4, rfl, sm, hq'⟩
  refine ⟨_, rfl, k H' q sm hq ?_⟩
  rw [List.length_map, hP.la, shownUp_all hP.ls] at hq'
  exact hq'
end
def sp_unack (d : Ad) : Sp := fun vs H Q _ => ∃ (A : Pl) (s : Panel), vs = [.ref A.p] ∧ Rd1 d H A s ∧ ∀ H' p, Same H H' → H p = none → H' p = some (.lst ((waiting s).map vN)) → Q (.ref p) H'
def sp_sound (d : Ad) : Sp := fun vs H Q _ => ∃ (A : Pl) (s : Panel), vs = [.ref A.p] ∧ Rd1 d H A s ∧ ∀ H', Same H H' → Q (vN (Vbavag.sound s)) H'
theorem nums_lt {d : Ad} {H : Hp} {A : Pl} {s : Panel} (h : PanelAt d H A s) {n : Nat} (hn : n ∈ nums (shown s)) : n < s.told.length := by
 rw [nums_shown h.ls] at hn
 exact List.mem_range.mp (List.mem_filter.mp hn).1
theorem shownOnes_nums {d : Ad} {H : Hp} {A : Pl} {s : Panel} (h : PanelAt d H A s) : shownOnes s = nums (shown s) := (nums_shown h.ls).symm
theorem waiting_lt {s : Panel} {n : Nat} (hn : n ∈ waiting s) : n < s.told.length := List.mem_range.mp (List.mem_filter.mp (List.mem_filter.mp hn).1).1
theorem waiting_le (s : Panel) : (waiting s).length ≤ s.told.length := Nat.le_trans (List.length_filter_le _ _) (shownOnes_le s)
theorem filter_take {α : Type} (p : α → Bool) {l : List α} {i : Nat} {x : α} (h : l[i]? = some x) : (l.take (i + 1)).filter p = (l.take i).filter p ++ if p x = true then [x] else [] := by
 rw [take_snoc h, List.filter_append]
 congr 1
 by_cases hp : p x = true
 ·rw [if_pos hp, List.filter_cons, if_pos hp]
  rfl
 ·rw [if_neg hp, List.filter_cons, if_neg hp]
  rfl
section
variable {P : Program} {w : World} {K : PySem.W.Frag} {mg : Str → Option Value} {base : Heap} {d : Ad}
theorem ok_14 (T : Tx K mg d) : FnOk P w K mg base CX0 3 d.f_14 d.d_14 ["panel"] (sp_unack d) := by
 refine T.F_14.ok sc_14 (fun vs H Q E h => ?_) (fun cdv Ar outer s0 H vs Q E hr h => ?_)
 ·obtain ⟨A, s, rfl, hR, k⟩ := h
  rfl
 obtain ⟨A, s, rfl, hR, k⟩ := h
 refine ⟨_, (pss_one (ps_ret (pe_lc rfl sc_14.nd (pi_list (pe_call (ok_12 T) (hr.mono (by decide)) rfl T.mg_12 T.F_12.kp T.b_12 .nil pass0 (pa_cons (pv 0) pa_nil))) (blkOk_by (own := [("number", 1)]) rfl) (fun _ _ _ _ _ => (pg_name (i := 1) sc_14.nd rfl (Or.inl rfl) (Or.inr rfl))) (fun _ _ _ _ _ => (pts_one (pt_not (pt_val (pe_at T.cl_SW T.n_SW_acknowledged (pe_ix (ixL (K := K) rfl) (pe_at T.cl_Panel T.n_Panel_warnings (pv 0)) (pv 1) (fun _ _ => rfl))))))) (fun _ _ _ _ _ => (pv 1))))), ?_⟩
 have hbig : (1001 : Nat) ≤ sizeLine := by decide
 refine ⟨_, rfl, A, s, rfl, hR, fun H1 p s1 np hp => ⟨p, rfl, ⟨_, SqL.of hp⟩, ?_⟩⟩
 intro D hD
 have hnD : H D = none := s1.free hD
 refine lc_list (K := K) (a := p) (xs := (nums (shown s)).map vN) (fun i H' => Same H1 H' ∧ H' D = some (.lst ((((nums (shown s)).take i).filter fun n => !(standOf s n).acked).map vN)))
  ⟨Same.new hD, upd_same⟩ (fun i H' _ ⟨sm, _⟩ => SqL.of (sm _ _ hp)) ?_ ?_
 ·rintro i y H' hi ⟨sm, hD'⟩
  obtain ⟨n, hn, rfl⟩ := map_at hi
  have hP2 := (hR.same (s1.trans sm)).at_
  obtain ⟨dp, hp2⟩ := hP2.obj
  obtain ⟨a, w, x, r, ha, hw, hx, ⟨dx, hwa⟩, hr'⟩ := hP2.get (nums_lt hR.at_ (List.mem_of_getElem? hn))
  refine ⟨rfl, ⟨_, rfl, _, _, _, _, rfl, hp2, rfl, _, rfl, _, _, _, _, rfl, rfl, SqL.of hP2.war, at_map ha, _, _, _, _, rfl, hwa, rfl, _, rfl, ?_⟩⟩
  have e := filter_take (fun n => !(standOf s n).acked) hn
  rw [standOf_at hx] at e
  cases h1 : x.acked with
  | true =>
   rw [h1] at e
   refine iteF ⟨sm, ?_⟩
   rw [e]
   simpa using hD'
  | false =>
   rw [h1] at e
   refine iteT ⟨_, rfl, _, hD', ?_, fun c o q => ?_, ?_⟩
   ·rw [List.length_map]
    have h2 := List.length_filter_le (fun n => !(standOf s n).acked) ((nums (shown s)).take i)
    have h3 : ((nums (shown s)).take i).length ≤ (nums (shown s)).length := by rw [List.length_take]; omega
    have h4 := nums_le (shown s)
    rw [shown_length hR.at_.ls] at h4
    have := hR.few
    omega
   ·rw [upd_ne (ne_of_none q hD)]
    exact sm c o q
   ·rw [upd_same, e, List.map_append]
    rfl
 ·rintro H' ⟨sm, hD'⟩
  refine k H' D (s1.trans sm) hnD ?_
  rw [List.length_map, List.take_length] at hD'
  unfold waiting
  rw [shownOnes_nums hR.at_]
  exact hD'
theorem ok_15 (T : Tx K mg d) : FnOk P w K mg base CX0 4 d.f_15 d.d_15 ["panel"] (sp_sound d) := by
 refine T.F_15.ok sc_15 (fun vs H Q E h => ?_) (fun cdv Ar outer s0 H vs Q E hr h => ?_)
 ·obtain ⟨A, s, rfl, hR, k⟩ := h
  rfl
 obtain ⟨A, s, rfl, hR, k⟩ := h
 refine ⟨_, (pss_cons (ps_setLc (i := 2) rfl sc_15.nd rfl rfl (sw_true rfl rfl rfl rfl) (pi_list (pe_call (ok_14 T) (hr.mono (by decide)) rfl T.mg_14 T.F_14.kp T.b_14 .nil pass0 (pa_cons (pv 0) pa_nil))) (blkOk_by (own := [("number", 1)]) rfl) (fun _ _ _ _ _ => (pg_name (i := 1) sc_15.nd rfl (Or.inl rfl) (Or.inr rfl))) (fun _ _ _ _ _ => pts_nil) (fun _ _ _ _ _ => (pe_at T.cl_SW T.n_SW_rank (pe_ix (ixL (K := K) rfl) (pe_at T.cl_Panel T.n_Panel_warnings (pv 0)) (pv 1) (fun _ _ => rfl))))) (pss_cons (ps_if (pt_cmpR op_in_seq pe_int (pv 2) (by with_unfolding_all rfl)) (pss_one (ps_ret pe_int)) pss_nil) (pss_cons (ps_if (pt_cmpR op_in_seq pe_int (pv 2) (by with_unfolding_all rfl)) (pss_one (ps_ret pe_int)) pss_nil) (pss_one (ps_ret pe_int))))), ?_⟩
 have hbig : (1001 : Nat) ≤ sizeLine := by decide
 refine ⟨_, rfl, A, s, rfl, hR, fun H1 p s1 np hp => ⟨p, rfl, ⟨_, SqL.of hp⟩, ?_⟩⟩
 intro D hD
 have hnD : H D = none := s1.free hD
 have fewW := waiting_le s
 have few := hR.few
 refine lc_list (K := K) (a := p) (xs := (waiting s).map vN) (fun i H' => Same H1 H' ∧ H' D = some (.lst ((((waiting s).take i).map fun n => (toldOf s n).rank).map vN)))
  ⟨Same.new hD, upd_same⟩ (fun i H' _ ⟨sm, _⟩ => SqL.of (sm _ _ hp)) ?_ ?_
 ·rintro i y H' hi ⟨sm, hD'⟩
  obtain ⟨n, hn, rfl⟩ := map_at hi
  have hP2 := (hR.same (s1.trans sm)).at_
  obtain ⟨dp, hp2⟩ := hP2.obj
  obtain ⟨a, w, x, r, ha, hw, hx, ⟨dx, hwa⟩, hr'⟩ := hP2.get (waiting_lt (List.mem_of_getElem? hn))
  refine ⟨rfl, _, rfl, _, _, _, _, rfl, hp2, rfl, _, rfl, _, _, _, _, rfl, rfl, SqL.of hP2.war, at_map ha, _, _, _, _, rfl, hwa, rfl, _, hD', ?_, fun c o q => ?_, ?_⟩
  ·rw [List.length_map, List.length_map, List.length_take]
   omega
  ·rw [upd_ne (ne_of_none q hD)]
   exact sm c o q
  ·rw [upd_same, take_snoc hn, List.map_append, List.map_append]
   show _ = some (HO.lst (_ ++ [vN (toldOf s n).rank]))
   rw [toldOf_at hw]
 ·rintro H' ⟨sm, hD'⟩
  have k' := k H' (s1.trans sm)
  rw [List.length_map, List.take_length] at hD'
  have hD2 : H' D = some (.lst ((ranksOf s).map vN)) := hD'
  rw [sound_eq] at k'
  refine ⟨_, rfl, _, _, rfl, .inl (SqL.of hD2), rfl, flat_nats _, _, rfl, ?_⟩
  show if inV (vN 3) ((ranksOf s).map vN) = true then _ else _
  rw [inV_nats]
  by_cases h3 : 3 ∈ ranksOf s
  ·rw [if_pos (decide_eq_true h3)]
   rw [if_pos h3] at k'
   exact k'
  ·rw [if_neg (by simpa using h3)]
   rw [if_neg h3] at k'
   refine ⟨_, rfl, _, _, rfl, .inl (SqL.of hD2), rfl, flat_nats _, _, rfl, ?_⟩
   show if inV (vN 2) ((ranksOf s).map vN) = true then _ else _
   rw [inV_nats]
   by_cases h2 : 2 ∈ ranksOf s
   ·rw [if_pos (decide_eq_true h2)]
    rw [if_pos h2] at k'
    exact k'
   ·rw [if_neg (by simpa using h2)]
    rw [if_neg h2] at k'
    exact k'
end
def DictAt (H : Hp) (a : Addr) (n : Nat) (D : Nat → Option Nat) : Prop := ∃ kvs, H a = some (.dK kvs) ∧ ∀ i, i < n → valV kvs (Sum.inl (i : Int)) = (D i).map vN
def sp_mark (d : Ad) : Sp := fun vs H Q _ => ∃ (A : Pl) (s : Panel) (c : Addr) (D : Nat → Option Nat), vs = [.ref A.p, .ref c] ∧ Rd1 d H A s ∧ s.log.length ≤ 200 ∧ DictAt H c s.told.length D ∧ ∀ H', PanelAt d H' A (pyMark D s) → Kp A.own H H' → Q .non H'
def markAt (D : Nat → Option Nat) (s : Panel) (i : Nat) : Panel := noted { s with stands := markUp (shown s) s.stands i } (evUp s.now D (shown s) s.stands i)
theorem markAt_zero {D : Nat → Option Nat} {s : Panel} (h : s.log.length ≤ 200) : markAt D s 0 = s := by
 unfold markAt
 rw [markUp_zero]
 exact noted_nil h
theorem markAt_all {D : Nat → Option Nat} {s : Panel} : markAt D s s.stands.length = pyMark D s := by
 unfold markAt pyMark
 rw [markUp_all]
theorem Kp.sub {l m : List Addr} {H H' : Hp} (a : Kp l H H') (h : ∀ b ∈ l, b ∈ m) : Kp m H H' := a.mono h
theorem own_pg (A : Pl) : ∀ b ∈ [A.p, A.lg], b ∈ A.own := fun b hb => by
 simp only [List.mem_cons, List.not_mem_nil, or_false] at hb
 rcases hb with q | q <;> rw [q] <;> simp [Pl.own]
theorem own_a {A : Pl} {i : Nat} {a : Addr} (h : A.as[i]? = some a) : ∀ b ∈ [a], b ∈ A.own := fun b hb => by
 rw [List.mem_singleton.mp hb]
 exact PanelAt.as_own h
theorem markAt_succ {D : Nat → Option Nat} {s : Panel} {i : Nat} {b : Bool} {x : Stand} (hb : (shown s)[i]? = some b) (hx : s.stands[i]? = some x) :
  markAt D s (i + 1) = noted (setS (noted (markAt D s i) (match D i with | some k => [⟨s.now, k, i⟩] | none => [])) i (marked1 b x)) (if b = true ∧ x.shown = false then [⟨s.now, 3, i⟩] else []) := by
 unfold markAt
 rw [markUp_succ hb hx, noted_noted, noted_setS, noted_noted, List.append_assoc]
 have e1 : (shown s).getD i false = b := by rw [getD_get, hb]; rfl
 have e2 : s.stands.getD i Vbavag.newStand = x := by rw [getD_get, hx]; rfl
 show noted _ (evUp s.now D (shown s) s.stands i ++ ev1 s.now i (D i) ((shown s).getD i false) (s.stands.getD i Vbavag.newStand)) = _
 rw [e1, e2]
 rfl
section
variable {P : Program} {w : World} {K : PySem.W.Frag} {mg : Str → Option Value} {base : Heap} {d : Ad}
theorem ok_16 (T : Tx K mg d) : FnOk P w K mg base CX0 3 d.f_16 d.d_16 ["panel", "came_or_went"] (sp_mark d) := by
  refine T.F_16.ok sc_16 (fun vs H Q E h => ?_) (fun cdv Ar outer s0 H vs Q E hr h => ?_)
  · obtain ⟨A, s, c, D, rfl, hR, hlog, ⟨kvs, hc, hcv⟩, k⟩ := h
    rfl
  obtain ⟨A, s, c, D, rfl, hR, hlog, ⟨kvs, hc, hcv⟩, k⟩ := h
  refine ⟨_, (pss_cons (ps_sA (i := 2) sc_16.nd rfl (pe_call (ok_12 T) (hr.mono (by decide)) rfl T.mg_12 T.F_12.kp T.b_12 .nil pass0 (pa_cons (pv 0) pa_nil))) (pss_one (ps_for PassesOwn.never rfl (pi_enum rfl T.no_enumerate (pa_cons (pe_at T.cl_Panel T.n_Panel_warnings (pv 0)) pa_nil)) (pgTwo (K := K) rfl rfl (pg_name (i := 3) sc_16.nd rfl (Or.inl rfl) (Or.inl rfl)) (pg_name (i := 4) sc_16.nd rfl (Or.inl rfl) (Or.inl rfl))) (pss_cons (ps_if (pt_cmp (pc_din (hu_of hr) (pv 3) (pv 1))) (pss_one (ps_expr (pe_call (ok_0 T) (hr.mono (by decide)) rfl T.mg_0 T.F_0.kp T.b_0 .nil pass0 (pa_cons (pv 0) (pa_cons (pe_dget (hu_of hr) (pv 1) (pv 3) (fun _ _ => rfl)) (pa_cons (pv 3) pa_nil)))))) pss_nil) (pss_one (ps_if (PW.pt (pw_and (pt_cmpR op_in_seq (pv 3) (pv 2) (by with_unfolding_all rfl)) (pw_and1 (pt_not (pt_val (pe_at T.cl_SW T.n_SW_shown_since (pv 4))))))) (pss_cons (ps_at T.cl_SW T.n_SW_shown_since (pv 4) pe_bl) (pss_one (ps_expr (pe_call (ok_0 T) (hr.mono (by decide)) rfl T.mg_0 T.F_0.kp T.b_0 .nil pass0 (pa_cons (pv 0) (pa_cons (pe_cst rfl T.c_FIRST_SHOWN) (pa_cons (pv 3) pa_nil))))))) pss_nil)))))), ?_⟩
  refine ⟨_, rfl, A, s, rfl, hR, fun H1 q s1 nq hq => ?_⟩
  have hP1 := (hR.same s1).at_
  obtain ⟨dp, hp⟩ := hP1.obj
  have nco : c ∉ A.own := fun z => by
    have hP := hR.at_
    obtain ⟨dp0, hp0⟩ := hP.obj
    simp only [Pl.own, List.mem_cons] at z
    rcases z with z | z | z | z | z
    · rw [z, hp0] at hc; cases hc
    · rw [z, hP.cau] at hc; cases hc
    · rw [z, hP.war] at hc; cases hc
    · obtain ⟨ts, e, _⟩ := hP.log.ex
      rw [z, e] at hc; cases hc
    · obtain ⟨j, e⟩ := List.mem_iff_getElem?.mp z
      obtain ⟨_, _, _, _, _, ⟨_, e2⟩, _⟩ := hP.of e
      rw [e2] at hc; cases hc
  have nqo : q ∉ A.own := fun z => by
    have hP := hR.at_
    obtain ⟨dp0, hp0⟩ := hP.obj
    simp only [Pl.own, List.mem_cons] at z
    rcases z with z | z | z | z | z
    · rw [z, hp0] at nq; cases nq
    · rw [z, hP.cau] at nq; cases nq
    · rw [z, hP.war] at nq; cases nq
    · obtain ⟨ts, e, _⟩ := hP.log.ex
      rw [z, e] at nq; cases nq
    · obtain ⟨j, e⟩ := List.mem_iff_getElem?.mp z
      obtain ⟨_, _, _, _, _, ⟨_, e2⟩, _⟩ := hP.of e
      rw [e2] at nq; cases nq
  have hls := hR.at_.ls
  refine ⟨_, rfl, _, _, _, _, rfl, hp, rfl, _, _, rfl, SqL.of hP1.war, for_enum (K := K) (a := A.lw) (xs := A.as.map V.ref) (i1 := 3) (i2 := 4)
    (fun i σ H' => ∃ v3 v4 : Option V, σ = [some (.ref A.p), some (.ref c), some (.ref q), v3, v4] ∧ PanelAt d H' A (markAt D s i) ∧ Kp A.own H1 H') ⟨none, none, rfl, by rw [markAt_zero hlog]; exact hP1, Kp.refl _ _⟩ (fun i σ H' _ ⟨_, _, _, hP', _⟩ => SqL.of hP'.war) ?_ ?_⟩
  · rintro i y σ H' T' hi ⟨v3, v4, rfl, hP', kp⟩ hT'
    obtain ⟨a, ha, rfl⟩ := map_at hi
    have sT : Same H' (upd H' T' (.tup [.int (i : Nat), .ref a])) := Same.new hT'
    have hP2 := hP'.same sT
    have kp2 : Kp A.own H1 (upd H' T' (.tup [.int (i : Nat), .ref a])) := kp.trans (Kp.of_same sT)
    generalize upd H' T' (.tup [.int (i : Nat), .ref a]) = H2 at hP2 kp2
    have hi' : i < s.told.length := by
      rw [← hR.at_.la]
      exact (List.getElem?_eq_some_iff.mp ha).1
    obtain ⟨x, hx⟩ : ∃ x, s.stands[i]? = some x := ex_get (by omega)
    obtain ⟨w, hw⟩ : ∃ w, s.told[i]? = some w := ex_get hi'
    have hb := shown_at hls hw hx
    have hsucc := markAt_succ (D := D) hb hx
    have hlen' : (markAt D s i).log.length ≤ 200 := noted_log_le _ _
    have hnow : (markAt D s i).now = s.now := noted_now _ _
    have hc2 : H2 c = some (.dK kvs) := kp2 _ _ (s1 _ _ hc) nco
    have hq2 := kp2 _ _ hq nqo
    refine ⟨_, rfl, _, rfl, c, _, rfl, DGet.k (k := Sum.inl (i : Int)) hc2, _, rfl, ?_⟩
    rw [hcv i hi']
    have tail : ∀ H3, PanelAt d H3 A (noted (markAt D s i) (match D i with | some k => [⟨s.now, k, i⟩] | none => [])) → Kp A.own H2 H3 →
        (tIfS (tAnd (tTest (tOp (rIn K false) (tVar 3) (tVar 2))) (tNot (tB (tAt d.C_SW (tVar 4) "shown_since")))) (tSeq (sAt d.C_SW (tVar 4) (tC (.bl true)) "shown_since") (tDrop (tCall (sp_log_event d) [] E0 (tCons (tVar 0) (tCons (tC (.int 3)) (tCons (tVar 3) tNil)))))) tNext)
          { nx := fun σ H' => ∃ v3 v4 : Option V, σ = [some (.ref A.p), some (.ref c), some (.ref q), v3, v4] ∧ PanelAt d H' A (markAt D s (i + 1)) ∧ Kp A.own H1 H', rt := Q,
            ct := fun σ H' => ∃ v3 v4 : Option V, σ = [some (.ref A.p), some (.ref c), some (.ref q), v3, v4] ∧ PanelAt d H' A (markAt D s (i + 1)) ∧ Kp A.own H1 H', bk := fun _ H' => Q .non H' }
          [some (.ref A.p), some (.ref c), some (.ref q), some (.int (i : Nat)), some (.ref a)] H3 := by
      intro H3 hP3 kp3
      have hq3 := kp3 _ _ hq2 nqo
      obtain ⟨w', x', r, hw', hx', ⟨dx, hwa⟩, hr'⟩ := hP3.of ha
      have hx'' : x' = x := by
        rw [noted_stands] at hx'
        have e := markUp_at (bs := shown s) hx
        have e2 : (markAt D s i).stands = markUp (shown s) s.stands i := noted_stands _ _
        rw [e2, e] at hx'
        exact (Option.some.inj hx').symm
      subst hx''
      refine ⟨_, rfl, _, rfl, _, _, rfl, .inl (SqL.of hq3), rfl, flat_nats _, _, rfl, ?_⟩
      show if inV (vN i) ((nums (shown s)).map vN) = true then _ else _
      rw [inV_nats]
      have hmem : decide (i ∈ nums (shown s)) = vis s.phase (shownUp s i) w x' := by
        rw [Bool.eq_iff_iff, decide_eq_true_iff, mem_nums, getD_get, hb]
        exact Iff.rfl
      rw [hmem]
      generalize vis s.phase (shownUp s i) w x' = b at hsucc
      cases b with
      | false =>
        refine iteF (iteF ⟨_, _, rfl, ?_, kp2.trans kp3⟩)
        rw [hsucc, if_neg (by simp)]
        have e : marked1 false x' = x' := rfl
        have e2 : setS (noted (markAt D s i) (match D i with | some k => [⟨s.now, k, i⟩] | none => [])) i x' = noted (markAt D s i) (match D i with | some k => [⟨s.now, k, i⟩] | none => []) := by
          unfold setS
          rw [show (noted (markAt D s i) (match D i with | some k => [⟨s.now, k, i⟩] | none => [])).stands.set i x' = (noted (markAt D s i) (match D i with | some k => [⟨s.now, k, i⟩] | none => [])).stands from by
            have hlt := (List.getElem?_eq_some_iff.mp hx').1
            have e4 := (List.getElem?_eq_some_iff.mp hx').2
            rw [← e4]
            exact List.set_getElem_self hlt]
        rw [e, e2, noted_nil (noted_log_le _ _)]
        exact hP3
      | true =>
        refine iteT ⟨_, rfl, _, _, _, _, rfl, hwa, rfl, _, rfl, ?_⟩
        cases hsh : x'.shown with
        | true =>
          refine iteF ⟨_, _, rfl, ?_, kp2.trans kp3⟩
          rw [hsucc, if_neg (by rw [hsh]; simp)]
          have e : marked1 true x' = x' := by
            unfold marked1
            rw [if_pos rfl]
            cases x'
            simp only at hsh
            rw [hsh]
          have e2 : setS (noted (markAt D s i) (match D i with | some k => [⟨s.now, k, i⟩] | none => [])) i x' = noted (markAt D s i) (match D i with | some k => [⟨s.now, k, i⟩] | none => []) := by
            unfold setS
            rw [show (noted (markAt D s i) (match D i with | some k => [⟨s.now, k, i⟩] | none => [])).stands.set i x' = (noted (markAt D s i) (match D i with | some k => [⟨s.now, k, i⟩] | none => [])).stands from by
              have hlt := (List.getElem?_eq_some_iff.mp hx').1
              have e4 := (List.getElem?_eq_some_iff.mp hx').2
              rw [← e4]
              exact List.set_getElem_self hlt]
          rw [e, e2, noted_nil (noted_log_le _ _)]
          exact hP3
        | false =>
          refine iteT ⟨_, rfl, _, _, _, rfl, hwa, (by show 17 < 1000; decide), ?_⟩
          have e1 : putF "shown_since" (V.bl true) (wF w' x' r.1 r.2.1 r.2.2) = wF w' (marked1 true x') r.1 r.2.1 r.2.2 := rfl
          have hP4 := hP3.setW (H' := upd H3 a (.ins d.C_SW dx (putF "shown_since" (V.bl true) (wF w' x' r.1 r.2.1 r.2.2)))) (y := marked1 true x') ha hw' hr' (WA.upd e1) Kp.one
          have kp4 : Kp A.own H3 (upd H3 a (.ins d.C_SW dx (putF "shown_since" (V.bl true) (wF w' x' r.1 r.2.1 r.2.2)))) := Kp.one.sub (own_a ha)
          generalize upd H3 a (.ins d.C_SW dx (putF "shown_since" (V.bl true) (wF w' x' r.1 r.2.1 r.2.2))) = H4 at hP4 kp4
          refine ⟨_, rfl, _, rfl, A, _, 3, i, rfl, hP4, ?_, fun H5 hP5 kp5 => ⟨_, _, rfl, ?_, ((kp2.trans kp3).trans kp4).trans (kp5.sub (own_pg A))⟩⟩
          · exact noted_log_le _ _
          · rw [hsucc, if_pos ⟨rfl, hsh⟩]
            have e5 : (setS (noted (markAt D s i) (match D i with | some k => [⟨s.now, k, i⟩] | none => [])) i (marked1 true x')).now = s.now := by
              show (noted (markAt D s i) (match D i with | some k => [⟨s.now, k, i⟩] | none => [])).now = _
              rw [noted_now, hnow]
            rw [e5] at hP5
            exact hP5
    cases hD : D i with
    | none =>
      rw [hD] at tail
      refine iteF ?_
      refine tail H2 ?_ (Kp.refl _ _)
      rw [noted_nil hlen']
      exact hP2
    | some kd =>
      rw [hD] at tail
      refine iteT ?_
      refine ⟨_, rfl, _, rfl, _, rfl, c, _, rfl, ?_, _, rfl, A, _, kd, i, rfl, hP2, hlen', fun H3 hP3 kp3 => ?_⟩
      · have e := DGet.k (k := Sum.inl (i : Int)) hc2
        rw [hcv i hi', hD] at e
        exact e
      · rw [hnow] at hP3
        exact tail H3 hP3 (kp3.sub (own_pg A))
  · rintro σ H' ⟨v3, v4, rfl, hP', kp⟩
    rw [List.length_map, hR.at_.la, ← hls, markAt_all] at hP'
    exact k H' hP' ((Kp.of_same s1).trans kp)
end
structure ToldOk (l : List Told) : Prop where
 parts : ∀ (i : Nat) w, l[i]? = some w → ∀ j ∈ w.parts, j < i
 need : ∀ w ∈ l, (w.need = 0 ∧ w.parts = []) ∨ (0 < w.need ∧ w.parts ≠ [])
 cause : ∀ w ∈ l, w.cause < 32
theorem Wf.toldOk {s : Panel} (h : Wf s) : ToldOk s.told := ⟨h.parts, h.need, h.cause⟩
structure At1 (d : Ad) (H : Hp) (A : Pl) (s : Panel) (i : Nat) (a : Addr) (w : Told) (x : Stand) : Prop extends Rd1 d H A s where
 ok : ToldOk s.told
 ha : A.as[i]? = some a
 hw : s.told[i]? = some w
 hx : s.stands[i]? = some x
theorem At1.wa {d : Ad} {H : Hp} {A : Pl} {s : Panel} {i : Nat} {a : Addr} {w : Told} {x : Stand} (h : At1 d H A s i a w x) : ∃ r, WA d.C_SW H a w x r ∧ Rows A.ro H w r := by
 obtain ⟨w', x', r, h1, h2, h3, h4⟩ := h.at_.of h.ha
 rw [h.hw] at h1
 rw [h.hx] at h2
 obtain rfl := Option.some.inj h1
 obtain rfl := Option.some.inj h2
 exact ⟨r, h3, h4⟩
theorem At1.same {d : Ad} {H H' : Hp} {A : Pl} {s : Panel} {i : Nat} {a : Addr} {w : Told} {x : Stand} (h : At1 d H A s i a w x) (e : Same H H') : At1 d H' A s i a w x := ⟨h.toRd1.same e, h.ok, h.ha, h.hw, h.hx⟩
def sp_source (d : Ad) : Sp := fun vs H Q _ => ∃ (A : Pl) (s : Panel) (i : Nat) (a : Addr) (w : Told) (x : Stand), vs = [.ref A.p, .ref a] ∧ At1 d H A s i a w x ∧ ∀ H', Same H H' → Q (.bl (source s.on s.stands w)) H'
def sp_count (d : Ad) : Sp := fun vs H Q _ => ∃ (A : Pl) (s : Panel) (i : Nat) (a : Addr) (w : Told) (x : Stand) (k : Nat), vs = [.ref A.p, .ref a, vN k] ∧ At1 d H A s i a w x ∧ ∀ H', PanelAt d H' A (setS s i (ran (source s.on s.stands w) k x)) → Kp [a] H H' → Q .non H'
def dueC (w : Told) (x : Stand) : Bool := !x.come && decide (w.onDelay < x.onFor)
def dueG (w : Told) (x : Stand) : Bool := x.come && (!w.latch && decide (w.offDelay < x.offFor))
def sp_dueC (d : Ad) : Sp := fun vs H Q _ => ∃ a w x r, vs = [.ref a] ∧ WA d.C_SW H a w x r ∧ Q (.bl (dueC w x)) H
def sp_dueG (d : Ad) : Sp := fun vs H Q _ => ∃ a w x r, vs = [.ref a] ∧ WA d.C_SW H a w x r ∧ Q (.bl (dueG w x)) H
def sp_quietOf (d : Ad) : Sp := fun vs H Q _ => ∃ (A : Pl) (s : Panel) (i : Nat) (a : Addr) (w : Told) (x : Stand) (m : Int), vs = [.ref A.p, .ref a, .int m] ∧ At1 d H A s i a w x ∧ ∀ H', Same H H' → Q (.int (quietOf (source s.on s.stands w) w x m)) H'
def sp_quiet (d : Ad) : Sp := fun vs H Q _ => ∃ (A : Pl) (s : Panel) (m : Int), vs = [.ref A.p, .int m] ∧ Rd1 d H A s ∧ ToldOk s.told ∧ ∀ H', Same H H' → Q (.int (quiet s m)) H'
theorem dec_vN (a : Nat) (b : Int) : decide (vN a = V.int b) = decide ((a : Int) = b) := by
 by_cases h : (a : Int) = b
 ·rw [decide_eq_true h, decide_eq_true (by unfold vN; rw [h])]
 ·have h2 : ¬ vN a = V.int b := fun q => h (V.int.inj q)
  rw [decide_eq_false h, decide_eq_false h2]
theorem dec_int (a b : Int) : decide (V.int a = V.int b) = decide (a = b) := by
 by_cases h : a = b
 ·rw [decide_eq_true h, decide_eq_true (by rw [h])]
 ·rw [decide_eq_false h, decide_eq_false (fun q => h (V.int.inj q))]
theorem dec_latch (b : Bool) : decide (V.int (b01 b) = V.int 0) = !b := by cases b <;> decide
theorem dec_lt (a b : Nat) : decide ((a : Int) < (b : Int)) = decide (a < b) := by
 by_cases h : a < b
 ·rw [decide_eq_true h, decide_eq_true (by omega)]
 ·rw [decide_eq_false h, decide_eq_false (by omega)]
theorem dec_le (a b : Nat) : decide ((a : Int) ≤ (b : Int)) = decide (a ≤ b) := by
 by_cases h : a ≤ b
 ·rw [decide_eq_true h, decide_eq_true (by omega)]
 ·rw [decide_eq_false h, decide_eq_false (by omega)]
section
variable {P : Program} {w : World} {K : PySem.W.Frag} {mg : Str → Option Value} {base : Heap} {d : Ad}
theorem ok_22 (T : Tx K mg d) : FnOk P w K mg base CX0 1 d.f_22 d.d_22 ["panel", "warning"] (sp_source d) := by
 refine T.F_22.ok sc_22 (fun vs H Q E h => ?_) (fun cdv Ar outer s0 H vs Q E hr h => ?_)
 ·obtain ⟨A, s, i, a, w, x, rfl, hA, k⟩ := h
  rfl
 obtain ⟨A, s, i, a, w, x, rfl, hA, k⟩ := h
 refine ⟨_, (pss_cons (ps_if (pt_cmpR op_eq (pe_at T.cl_SW T.n_SW_needed (pv 1)) pe_int (nomark _)) (pss_one (ps_ret (pe_ix ix_list (pe_at T.cl_Panel T.n_Panel_causes (pv 0)) (pe_at T.cl_SW T.n_SW_cause (pv 1)) (fun _ _ => rfl)))) pss_nil) (pss_cons (ps_setLc (i := 3) rfl sc_22.nd rfl rfl (sw_true rfl rfl rfl rfl) (pi_list (pe_at T.cl_SW T.n_SW_parts (pv 1))) (blkOk_by (own := [("number", 2)]) rfl) (fun _ _ _ _ _ => (pg_name (i := 2) sc_22.nd rfl (Or.inl rfl) (Or.inr rfl))) (fun _ _ _ _ _ => (pts_one (pt_val (pe_at T.cl_SW T.n_SW_has_come (pe_ix (ixL (K := K) rfl) (pe_at T.cl_Panel T.n_Panel_warnings (pv 0)) (pv 2) (fun _ _ => rfl)))))) (fun _ _ _ _ _ => (pv 2))) (pss_one (ps_ret (pe_cmpR op_ge (pe_callB call_len_seq rfl T.no_len bt_len (pa_cons (pv 3) pa_nil)) (pe_at T.cl_SW T.n_SW_needed (pv 1)) (nomark _)))))), ?_⟩
 have hbig : (1001 : Nat) ≤ sizeLine := by decide
 obtain ⟨r, ⟨dx, hwa⟩, hr'⟩ := hA.wa
 have hP := hA.at_
 obtain ⟨dp, hp⟩ := hP.obj
 have hmem := List.mem_of_getElem? hA.hw
 refine ⟨_, rfl, _, _, _, _, rfl, hwa, rfl, rfl, _, rfl, ?_⟩
 rw [dec_vN]
 rcases hA.ok.need w hmem with ⟨h0, hpe⟩ | ⟨h0, hpn⟩
 ·have hc := hA.ok.cause w hmem
  refine ifT (by rw [h0]; decide) ⟨_, rfl, _, _, _, _, rfl, hp, rfl, _, rfl, _, _, _, _, rfl, hwa, rfl, _, _, _, _, rfl, rfl, SqL.of hP.cau, at_map (x := w.cause) (by rw [List.getElem?_range hc]), ?_⟩
  have e : source s.on s.stands w = Vbavag.has s.on w.cause := by
   unfold source
   rw [hpe]
   rfl
  rw [e] at k
  exact k H (Same.refl H)
 ·have hne : ¬ ((w.need : Int) = 0) := by omega
  refine ifF (decide_eq_false hne) ?_
  have hes : source s.on s.stands w = decide (w.need ≤ (w.parts.filter (Vbavag.comeAt s.stands)).length) := by
   unfold source
   rw [if_neg (by simpa using hpn)]
  obtain ⟨hpl, _, _⟩ := hA.short w hmem
  refine ⟨_, rfl, _, _, _, _, rfl, hwa, rfl, r.1, rfl, ⟨_, SqL.of hr'.p⟩, ?_⟩
  intro D hD
  refine lc_list (K := K) (a := r.1) (xs := w.parts.map vN) (fun i H' => Same H H' ∧ H' D = some (.lst (((w.parts.take i).filter (Vbavag.comeAt s.stands)).map vN)))
   ⟨Same.new hD, upd_same⟩ (fun i H' _ ⟨sm, _⟩ => SqL.of (sm _ _ hr'.p)) ?_ ?_
  ·rintro j y H' hj ⟨sm, hD'⟩
   obtain ⟨n, hn, rfl⟩ := map_at hj
   have hP2 := hP.same sm
   obtain ⟨dp2, hp2⟩ := hP2.obj
   have hnl : n < s.told.length := by
    have h1 := hA.ok.parts i w hA.hw n (List.mem_of_getElem? hn)
    have h2 := (List.getElem?_eq_some_iff.mp hA.hw).1
    omega
   obtain ⟨b, w2, x2, r2, hb, hw2, hx2, ⟨dx2, hwa2⟩, hr2⟩ := hP2.get hnl
   have ec : Vbavag.comeAt s.stands n = x2.come := by
    unfold Vbavag.comeAt
    rw [getD_get, hx2]
    rfl
   refine ⟨rfl, ⟨_, rfl, _, _, _, _, rfl, hp2, rfl, _, rfl, _, _, _, _, rfl, rfl, SqL.of hP2.war, at_map hb, _, _, _, _, rfl, hwa2, rfl, _, rfl, ?_⟩⟩
   have e := filter_take (Vbavag.comeAt s.stands) hn
   rw [ec] at e
   cases hc : x2.come with
   | false =>
    rw [hc] at e
    refine iteF ⟨sm, ?_⟩
    rw [e]
    simpa using hD'
   | true =>
    rw [hc] at e
    refine iteT ⟨_, rfl, _, hD', ?_, fun c o q => ?_, ?_⟩
    ·rw [List.length_map]
     have h2 := List.length_filter_le (Vbavag.comeAt s.stands) (w.parts.take j)
     rw [List.length_take] at h2
     omega
    ·rw [upd_ne (ne_of_none q hD)]
     exact sm c o q
    ·rw [upd_same, e, List.map_append]
     rfl
  ·rintro H' ⟨sm, hD'⟩
   rw [List.length_map, List.take_length] at hD'
   have k' := k H' sm
   rw [hes] at k'
   refine ⟨_, rfl, _, _, rfl, .inl (SqL.of hD'), _, rfl, _, _, _, _, rfl, sm _ _ hwa, rfl, _, _, rfl, rfl, ?_⟩
   rw [List.length_map]
   show Q (V.bl (decide ((w.need : Int) ≤ (((w.parts.filter (Vbavag.comeAt s.stands)).length : Nat) : Int)))) H'
   rw [dec_le]
   exact k'
theorem ok_23 (T : Tx K mg d) : FnOk P w K mg base CX0 2 d.f_23 d.d_23 ["panel", "warning", "seconds"] (sp_count d) := by
 refine T.F_23.ok sc_23 (fun vs H Q E h => ?_) (fun cdv Ar outer s0 H vs Q E hr h => ?_)
 ·obtain ⟨A, s, i, a, w, x, n, rfl, hA, k⟩ := h
  rfl
 obtain ⟨A, s, i, a, w, x, n, rfl, hA, k⟩ := h
 refine ⟨_, (pss_one (ps_if (pt_val (pe_call (ok_22 T) (hr.mono (by decide)) rfl T.mg_22 T.F_22.kp T.b_22 .nil pass0 (pa_cons (pv 0) (pa_cons (pv 1) pa_nil)))) (pss_cons (ps_aug_at T.cl_SW T.n_SW_seconds_on (pv 1) (pv 2)) (pss_one (ps_at T.cl_SW T.n_SW_seconds_off (pv 1) pe_int))) (pss_cons (ps_at T.cl_SW T.n_SW_seconds_on (pv 1) pe_int) (pss_one (ps_aug_at T.cl_SW T.n_SW_seconds_off (pv 1) (pv 2)))))), ?_⟩
 refine ⟨_, rfl, _, rfl, A, s, i, a, w, x, rfl, hA, fun H1 s1 => ⟨_, rfl, ?_⟩⟩
 have hA1 := hA.same s1
 obtain ⟨r, ⟨dx, hwa⟩, hr'⟩ := hA1.wa
 have ks : ∀ {H2 : Hp}, Kp [a] H1 H2 → Kp [a] H H2 := fun q => (Kp.of_same s1).trans q
 cases hs : source s.on s.stands w with
 | true =>
  rw [hs] at k
  refine iteT ⟨_, rfl, _, _, _, _, rfl, hwa, rfl, _, rfl, _, _, _, rfl, hwa, (by show 17 < 1000; decide), ?_⟩
  refine ⟨_, rfl, _, _, _, rfl, upd_same, (by show 17 < 1000; decide), ?_⟩
  rw [upd_upd]
  exact k _ (hA1.at_.setW (r := r) hA.ha hA.hw hr' (WA.upd rfl) Kp.one) (ks Kp.one)
 | false =>
  rw [hs] at k
  refine iteF ⟨_, rfl, _, _, _, rfl, hwa, (by show 17 < 1000; decide), ?_⟩
  refine ⟨_, rfl, _, _, _, _, rfl, upd_same, rfl, _, rfl, _, _, _, rfl, upd_same, (by show 17 < 1000; decide), ?_⟩
  rw [upd_upd]
  exact k _ (hA1.at_.setW (r := r) hA.ha hA.hw hr' (WA.upd rfl) Kp.one) (ks Kp.one)
theorem ok_24 (T : Tx K mg d) : FnOk P w K mg base CX0 1 d.f_24 d.d_24 ["warning"] (sp_dueC d) := by
 refine T.F_24.ok sc_24 (fun vs H Q E h => ?_) (fun cdv Ar outer s0 H vs Q E hr h => ?_)
 ·obtain ⟨a, w, x, r, rfl, ⟨dx, hwa⟩, k⟩ := h
  rfl
 obtain ⟨a, w, x, r, rfl, ⟨dx, hwa⟩, k⟩ := h
 refine ⟨_, (pss_one (ps_ret (pe_and (pe_not (pe_at T.cl_SW T.n_SW_has_come (pv 0))) (pe_one (pe_cmpR op_gt (pe_at T.cl_SW T.n_SW_seconds_on (pv 0)) (pe_at T.cl_SW T.n_SW_on_delay (pv 0)) (nomark _)))))), ?_⟩
 refine tAndV.of (c := !x.come) (e := decide (w.onDelay < x.onFor)) (fun Q' h => ⟨_, rfl, _, _, _, _, rfl, hwa, rfl, _, rfl, h⟩) (fun _ Q' h => ⟨_, rfl, _, _, _, _, rfl, hwa, rfl, _, rfl, _, _, _, _, rfl, hwa, rfl, _, _, rfl, rfl, ?_⟩) k
 show Q' (V.bl (decide ((w.onDelay : Int) < (x.onFor : Int)))) H
 rw [dec_lt]
 exact h
theorem ok_25 (T : Tx K mg d) : FnOk P w K mg base CX0 1 d.f_25 d.d_25 ["warning"] (sp_dueG d) := by
 refine T.F_25.ok sc_25 (fun vs H Q E h => ?_) (fun cdv Ar outer s0 H vs Q E hr h => ?_)
 ·obtain ⟨a, w, x, r, rfl, ⟨dx, hwa⟩, k⟩ := h
  rfl
 obtain ⟨a, w, x, r, rfl, ⟨dx, hwa⟩, k⟩ := h
 refine ⟨_, (pss_one (ps_ret (pe_and (pe_at T.cl_SW T.n_SW_has_come (pv 0)) (pe_and (pe_cmpR op_eq (pe_at T.cl_SW T.n_SW_latch (pv 0)) pe_int (nomark _)) (pe_one (pe_cmpR op_gt (pe_at T.cl_SW T.n_SW_seconds_off (pv 0)) (pe_at T.cl_SW T.n_SW_off_delay (pv 0)) (nomark _))))))), ?_⟩
 refine tAndV.of (c := x.come) (e := !w.latch && decide (w.offDelay < x.offFor)) (fun Q' h => ⟨_, rfl, _, _, _, _, rfl, hwa, rfl, h⟩) (fun _ Q' h => tAndV.of (c := !w.latch) (e := decide (w.offDelay < x.offFor)) (fun Q' h => ⟨_, rfl, _, _, _, _, rfl, hwa, rfl, rfl, ?_⟩) (fun _ Q' h => ⟨_, rfl, _, _, _, _, rfl, hwa, rfl, _, rfl, _, _, _, _, rfl, hwa, rfl, _, _, rfl, rfl, ?_⟩) h) k
 ·rw [dec_latch]
  exact h
 ·show Q' (V.bl (decide ((w.offDelay : Int) < (x.offFor : Int)))) H
  rw [dec_lt]
  exact h
theorem min_if (a b : Int) : (if b < a then b else a) = min a b := by
 rw [Int.min_def]
 split <;> split <;> omega
theorem ok_27 (T : Tx K mg d) : FnOk P w K mg base CX0 2 d.f_27 d.d_27 ["panel", "warning", "most"] (sp_quietOf d) := by
 refine T.F_27.ok sc_27 (fun vs H Q E h => ?_) (fun cdv Ar outer s0 H vs Q E hr h => ?_)
 ·obtain ⟨A, s, i, a, w, x, m, rfl, hA, k⟩ := h
  rfl
 obtain ⟨A, s, i, a, w, x, m, rfl, hA, k⟩ := h
 refine ⟨_, (pss_cons (ps_sA (i := 3) sc_27.nd rfl (pe_call (ok_22 T) (hr.mono (by decide)) rfl T.mg_22 T.F_22.kp T.b_22 .nil pass0 (pa_cons (pv 0) (pa_cons (pv 1) pa_nil)))) (pss_cons (ps_if (PW.pt (pw_and (pt_val (pv 3)) (pw_and1 (pt_not (pt_val (pe_at T.cl_SW T.n_SW_has_come (pv 1))))))) (pss_one (ps_ret (pe_callB (call_min2 rfl) rfl T.no_min bt_min (pa_cons (pv 2) (pa_cons (pe_op op_sub (pe_at T.cl_SW T.n_SW_on_delay (pv 1)) (pe_at T.cl_SW T.n_SW_seconds_on (pv 1))) pa_nil))))) pss_nil) (pss_cons (ps_if (PW.pt (pw_and (pt_not (pt_val (pv 3))) (pw_and (pt_val (pe_at T.cl_SW T.n_SW_has_come (pv 1))) (pw_and1 (pt_cmpR op_eq (pe_at T.cl_SW T.n_SW_latch (pv 1)) pe_int (nomark _)))))) (pss_one (ps_ret (pe_callB (call_min2 rfl) rfl T.no_min bt_min (pa_cons (pv 2) (pa_cons (pe_op op_sub (pe_at T.cl_SW T.n_SW_off_delay (pv 1)) (pe_at T.cl_SW T.n_SW_seconds_off (pv 1))) pa_nil))))) pss_nil) (pss_one (ps_ret (pv 2)))))), ?_⟩
 refine ⟨_, rfl, _, rfl, A, s, i, a, w, x, rfl, hA, fun H1 s1 => ?_⟩
 obtain ⟨r, ⟨dx, hwa⟩, hr'⟩ := (hA.same s1).wa
 have k := k H1 s1
 unfold quietOf at k
 refine ⟨_, rfl, _, rfl, ?_⟩
 cases hs : source s.on s.stands w with
 | true =>
  rw [hs] at k
  refine iteT ⟨_, rfl, _, _, _, _, rfl, hwa, rfl, _, rfl, ?_⟩
  cases hc : x.come with
  | false =>
   rw [hc] at k
   refine iteT ⟨_, rfl, _, rfl, _, _, _, _, rfl, hwa, rfl, _, rfl, _, _, _, _, rfl, hwa, rfl, _, _, rfl, rfl, _, _, rfl, ?_⟩
   rw [min_if]
   exact k
  | true =>
   rw [hc] at k
   refine iteF ⟨_, rfl, _, rfl, iteF (iteF ⟨_, rfl, k⟩)⟩
 | false =>
  rw [hs] at k
  refine iteF (iteF ⟨_, rfl, _, rfl, iteT ⟨_, rfl, _, _, _, _, rfl, hwa, rfl, _, rfl, ?_⟩⟩)
  cases hc : x.come with
  | false =>
   rw [hc] at k
   exact iteF (iteF ⟨_, rfl, k⟩)
  | true =>
   rw [hc] at k
   refine iteT ⟨_, rfl, _, _, _, _, rfl, hwa, rfl, rfl, _, rfl, ?_⟩
   rw [dec_latch]
   cases hl : w.latch with
   | true =>
    rw [hl] at k
    exact iteF ⟨_, rfl, k⟩
   | false =>
    rw [hl] at k
    refine iteT ⟨_, rfl, _, rfl, _, _, _, _, rfl, hwa, rfl, _, rfl, _, _, _, _, rfl, hwa, rfl, _, _, rfl, rfl, _, _, rfl, ?_⟩
    rw [min_if]
    exact k
theorem ok_28 (T : Tx K mg d) : FnOk P w K mg base CX0 3 d.f_28 d.d_28 ["panel", "most"] (sp_quiet d) := by
 refine T.F_28.ok sc_28 (fun vs H Q E h => ?_) (fun cdv Ar outer s0 H vs Q E hr h => ?_)
 ·obtain ⟨A, s, m, rfl, hR, hT, k⟩ := h
  rfl
 obtain ⟨A, s, m, rfl, hR, hT, k⟩ := h
 refine ⟨_, (pss_cons (ps_sA (i := 2) sc_28.nd rfl (pv 1)) (pss_cons (ps_for PassesOwn.never rfl (pi_list (pe_at T.cl_Panel T.n_Panel_warnings (pv 0))) (pg_name (i := 3) sc_28.nd rfl (Or.inl rfl) (Or.inl rfl)) (pss_one (ps_sA (i := 2) sc_28.nd rfl (pe_call (ok_27 T) (hr.mono (by decide)) rfl T.mg_27 T.F_27.kp T.b_27 .nil pass0 (pa_cons (pv 0) (pa_cons (pv 3) (pa_cons (pv 2) pa_nil))))))) (pss_one (ps_ret (pv 2))))), ?_⟩
 have hP := hR.at_
 obtain ⟨dp, hp⟩ := hP.obj
 refine ⟨_, rfl, ?_⟩
 refine ⟨_, rfl, _, _, _, _, rfl, hp, rfl, _, rfl, ⟨_, SqL.of hP.war⟩, for_list (K := K) (a := A.lw) (xs := A.as.map V.ref) (fun i σ H' => ∃ v : Option V, σ = [some (.ref A.p), some (.int m), some (.int (quietUp s m i)), v] ∧ Same H H')
  ⟨none, rfl, Same.refl H⟩ (fun i σ H' _ ⟨_, _, sm⟩ => SqL.of (sm _ _ hP.war)) ?_ ?_⟩
 ·rintro i y σ H' hi ⟨v, rfl, sm⟩
  obtain ⟨a, ha, rfl⟩ := map_at hi
  have hi' : i < s.told.length := by
   rw [← hP.la]
   exact (List.getElem?_eq_some_iff.mp ha).1
  have hls := hP.ls
  obtain ⟨x, hx⟩ : ∃ x, s.stands[i]? = some x := ex_get (by omega)
  obtain ⟨w, hw⟩ : ∃ w, s.told[i]? = some w := ex_get hi'
  refine ⟨_, rfl, _, rfl, _, rfl, A, s, i, a, w, x, quietUp s m i, rfl, ⟨hR.same sm, hT, ha, hw, hx⟩, fun H2 s2 => ⟨some (.ref a), ?_, sm.trans s2⟩⟩
  show _ = [some (V.ref A.p), some (V.int m), some (V.int (quietOf (source s.on s.stands (toldOf s i)) (toldOf s i) (standOf s i) (quietUp s m i))), _]
  rw [toldOf_at hw, standOf_at hx]
  rfl
 ·rintro σ H' ⟨v, rfl, sm⟩
  refine ⟨_, rfl, ?_⟩
  rw [List.length_map, hP.la]
  exact k H' sm
end
structure Ok (d : Ad) (H : Hp) (A : Pl) (s : Panel) : Prop where
 at_ : PanelAt d H A s
 wf : Wf s
 short : Short s
theorem Ok.rd {d : Ad} {H : Hp} {A : Pl} {s : Panel} (h : Ok d H A s) : Rd1 d H A s := ⟨h.at_, h.wf.few, h.short⟩
theorem Ok.same {d : Ad} {H H' : Hp} {A : Pl} {s : Panel} (h : Ok d H A s) (e : Same H H') : Ok d H' A s := ⟨h.at_.same e, h.wf, h.short⟩
def sp_second (d : Ad) : Sp := fun vs H Q _ => ∃ (A : Pl) (s : Panel), vs = [.ref A.p] ∧ Ok d H A s ∧ ∀ H', PanelAt d H' A (second s) → Kp A.own H H' → Q .non H'
def midP (s : Panel) (i : Nat) : Panel := { s with now := s.now + 1, stands := midway s i }
theorem not_own {d : Ad} {H : Hp} {A : Pl} {s : Panel} (hP : PanelAt d H A s) {c : Addr} (h : ∀ o, H c = some o → plainO o = false) (he : ∃ o, H c = some o) : c ∉ A.own := fun z => by
 obtain ⟨o, ho⟩ := he
 have hf := h o ho
 obtain ⟨dp0, hp0⟩ := hP.obj
 simp only [Pl.own, List.mem_cons] at z
 rcases z with z | z | z | z | z
 ·rw [z, hp0] at ho; cases ho; cases hf
 ·rw [z, hP.cau] at ho; cases ho; cases hf
 ·rw [z, hP.war] at ho; cases ho; cases hf
 ·obtain ⟨ts, e, _⟩ := hP.log.ex
  rw [z, e] at ho; cases ho; cases hf
 ·obtain ⟨j, e⟩ := List.mem_iff_getElem?.mp z
  obtain ⟨_, _, _, _, _, ⟨_, e2⟩, _⟩ := hP.of e
  rw [e2] at ho; cases ho; cases hf
theorem not_own_none {d : Ad} {H : Hp} {A : Pl} {s : Panel} (hP : PanelAt d H A s) {c : Addr} (h : H c = none) : c ∉ A.own := fun z => by
 obtain ⟨dp0, hp0⟩ := hP.obj
 simp only [Pl.own, List.mem_cons] at z
 rcases z with z | z | z | z | z
 ·rw [z, hp0] at h; cases h
 ·rw [z, hP.cau] at h; cases h
 ·rw [z, hP.war] at h; cases h
 ·obtain ⟨ts, e, _⟩ := hP.log.ex
  rw [z, e] at h; cases h
 ·obtain ⟨j, e⟩ := List.mem_iff_getElem?.mp z
  obtain ⟨_, _, _, _, _, ⟨_, e2⟩, _⟩ := hP.of e
  rw [e2] at h; cases h
theorem second_one (s : Panel) (src : Bool) (w : Told) (x : Stand) : oneSecond (s.now + 1) src w x =
  if dueC w (ran src 1 x) = true then came (ran src 1 x) (s.now + 1) else if dueG w (ran src 1 x) = true then gone (ran src 1 x) else ran src 1 x := by
 unfold oneSecond dueC dueG came gone ran
 dsimp only
 cases hc : x.come
 ·cases src <;> simp [hc] <;> (try rfl)
 ·cases hl : w.latch <;> cases src <;> simp [hc, hl] <;> (try rfl)
section
variable {P : Program} {w : World} {K : PySem.W.Frag} {mg : Str → Option Value} {base : Heap} {d : Ad}
theorem secCode_at {s : Panel} (hl : s.stands.length = s.told.length) {i : Nat} {w : Told} {x : Stand} (hw : s.told[i]? = some w) (hx : s.stands[i]? = some x) :
  secCode s i = if dueC w (ran (source s.on (secUp s i) w) 1 x) = true then some 1 else if dueG w (ran (source s.on (secUp s i) w) 1 x) = true then some 2 else none := by
 unfold secCode
 have e1 : s.stands.getD i Vbavag.newStand = x := by rw [getD_get, hx]; rfl
 have e2 : (Vbavag.secondFrom (s.now + 1) s.on [] s.told s.stands).getD i Vbavag.newStand = oneSecond (s.now + 1) (source s.on (secUp s i) w) w x := by
  rw [getD_get, secUp_at hl hw hx]
  rfl
 rw [e1, e2, second_one]
 unfold code
 have hrc : (ran (source s.on (secUp s i) w) 1 x).come = x.come := rfl
 by_cases h1 : dueC w (ran (source s.on (secUp s i) w) 1 x) = true
 ·rw [if_pos h1, if_pos h1]
  have hc : x.come = false := by
   unfold dueC at h1
   rw [hrc] at h1
   simp only [Bool.and_eq_true, Bool.not_eq_true'] at h1
   exact h1.1
  rw [hc]
  rfl
 ·rw [if_neg h1, if_neg h1]
  by_cases h2 : dueG w (ran (source s.on (secUp s i) w) 1 x) = true
  ·rw [if_pos h2, if_pos h2]
   have hc : x.come = true := by
    unfold dueG at h2
    rw [hrc] at h2
    simp only [Bool.and_eq_true] at h2
    exact h2.1
   rw [hc]
   rfl
  ·rw [if_neg h2, if_neg h2, hrc]
   cases x.come <;> rfl
theorem ok_26 (T : Tx K mg d) : FnOk P w K mg base CX0 4 d.f_26 d.d_26 ["panel"] (sp_second d) := by
 refine T.F_26.ok sc_26 (fun vs H Q E h => ?_) (fun cdv Ar outer s0 H vs Q E hr h => ?_)
 ·obtain ⟨A, s, rfl, hO, k⟩ := h
  rfl
 obtain ⟨A, s, rfl, hO, k⟩ := h
 refine ⟨_, (pss_cons (ps_aug_at T.cl_Panel T.n_Panel_clock (pv 0) pe_int) (pss_cons (ps_sA (i := 1) sc_26.nd rfl pe_dnewK) (pss_cons (ps_for PassesOwn.never rfl (pi_enum rfl T.no_enumerate (pa_cons (pe_at T.cl_Panel T.n_Panel_warnings (pv 0)) pa_nil)) (pgTwo (K := K) rfl rfl (pg_name (i := 2) sc_26.nd rfl (Or.inl rfl) (Or.inl rfl)) (pg_name (i := 3) sc_26.nd rfl (Or.inl rfl) (Or.inl rfl))) (pss_cons (ps_expr (pe_call (ok_23 T) (hr.mono (by decide)) rfl T.mg_23 T.F_23.kp T.b_23 .nil pass0 (pa_cons (pv 0) (pa_cons (pv 3) (pa_cons pe_int pa_nil))))) (pss_one (ps_if (pt_val (pe_call (ok_24 T) (hr.mono (by decide)) rfl T.mg_24 T.F_24.kp T.b_24 .nil pass0 (pa_cons (pv 3) pa_nil))) (pss_cons (ps_expr (pe_call (ok_19 T) (hr.mono (by decide)) rfl T.mg_19 T.F_19.kp T.b_19 .nil pass0 (pa_cons (pv 3) (pa_cons (pe_at T.cl_Panel T.n_Panel_clock (pv 0)) pa_nil)))) (pss_one (ps_dput (hu_of hr) (pv 1) (pv 2) (pe_cst rfl T.c_CAME) rfl))) (pss_one (ps_if (pt_val (pe_call (ok_25 T) (hr.mono (by decide)) rfl T.mg_25 T.F_25.kp T.b_25 .nil pass0 (pa_cons (pv 3) pa_nil))) (pss_cons (ps_expr (pe_call (ok_20 T) (hr.mono (by decide)) rfl T.mg_20 T.F_20.kp T.b_20 .nil pass0 (pa_cons (pv 3) pa_nil))) (pss_one (ps_dput (hu_of hr) (pv 1) (pv 2) (pe_cst rfl T.c_WENT) rfl))) pss_nil)))))) (pss_one (ps_expr (pe_call (ok_16 T) (hr.mono (by decide)) rfl T.mg_16 T.F_16.kp T.b_16 .nil pass0 (pa_cons (pv 0) (pa_cons (pv 1) pa_nil)))))))), ?_⟩
 have hP := hO.at_
 have hls := hP.ls
 have hbig : (1001 : Nat) ≤ sizeLine := by decide
 obtain ⟨dp, hp⟩ := hP.obj
 refine ⟨_, rfl, _, _, _, _, rfl, hp, rfl, _, _, _, rfl, hp, (by show 6 < 1000; decide), ?_⟩
 have hP1 : PanelAt d (upd H A.p (.ins d.C_Panel dp (putF "clock" (V.int ((s.now : Int) + 1)) (pF s A.lc A.lw A.lg)))) A { s with now := s.now + 1 } :=
  hP.setP (dp := dp) (by rw [upd_same]; rfl) Kp.one rfl rfl rfl rfl
 have kp1 : Kp A.own H (upd H A.p (.ins d.C_Panel dp (putF "clock" (V.int ((s.now : Int) + 1)) (pF s A.lc A.lw A.lg)))) := Kp.one.sub fun b hb => by
  rw [List.mem_singleton.mp hb]
  simp [Pl.own]
 generalize upd H A.p (.ins d.C_Panel dp (putF "clock" (V.int ((s.now : Int) + 1)) (pF s A.lc A.lw A.lg))) = H1 at hP1 kp1
 intro c hc
 have s2 : Same H1 (upd H1 c (.dK [])) := Same.new hc
 have hP2 := hP1.same s2
 have nco : c ∉ A.own := not_own_none hP1 hc
 have hHc : H c = none := by
  cases q : H c with
  | none => rfl
  | some o =>
   rw [kp1 c o q nco] at hc
   cases hc
 have kp2 : Kp A.own H (upd H1 c (.dK [])) := kp1.trans (Kp.of_same s2)
 have hcc : upd H1 c (.dK []) c = some (.dK []) := upd_same
 generalize upd H1 c (.dK []) = H2 at hP2 kp2 hcc
 obtain ⟨dp2, hp2⟩ := hP2.obj
 refine ⟨_, rfl, _, _, _, _, rfl, hp2, rfl, _, _, rfl, SqL.of hP2.war, for_enum (K := K) (a := A.lw) (xs := A.as.map V.ref) (i1 := 2) (i2 := 3)
  (fun i σ H' => ∃ (v2 v3 : Option V) (kvs : List (Key × V)), σ = [some (.ref A.p), some (.ref c), v2, v3] ∧ PanelAt d H' A (midP s i) ∧ Kp A.own H H' ∧ H' c = some (.dK kvs) ∧ kvs.length ≤ i ∧ ∀ j : Nat, valV kvs (Sum.inl (j : Int)) = if j < i then (secCode s j).map vN else none)
  ⟨none, none, [], rfl, by unfold midP; rw [midway_zero]; exact hP2, kp2, hcc, Nat.le_refl _, fun j => by rw [if_neg (Nat.not_lt_zero _)]; rfl⟩ (fun i σ H' _ ⟨_, _, _, _, hP', _⟩ => SqL.of hP'.war) ?_ ?_⟩
 ·rintro i y σ H' T' hi ⟨v2, v3, kvs, rfl, hP', kp, hcv, hcl, hval⟩ hT'
  obtain ⟨a, ha, rfl⟩ := map_at hi
  have sT : Same H' (upd H' T' (.tup [.int (i : Nat), .ref a])) := Same.new hT'
  have hP3 := hP'.same sT
  have kp3 : Kp A.own H (upd H' T' (.tup [.int (i : Nat), .ref a])) := kp.trans (Kp.of_same sT)
  have hc3 := sT _ _ hcv
  generalize upd H' T' (.tup [.int (i : Nat), .ref a]) = H3 at hP3 kp3 hc3
  have hi' : i < s.told.length := by
   rw [← hP.la]
   exact (List.getElem?_eq_some_iff.mp ha).1
  have hfew := hO.wf.few
  obtain ⟨x, hx⟩ : ∃ x, s.stands[i]? = some x := ex_get (by omega)
  obtain ⟨w, hw⟩ : ∃ w, s.told[i]? = some w := ex_get hi'
  have hmx : (midP s i).stands[i]? = some x := midway_at hls hx
  have hsrc : source (midP s i).on (midP s i).stands w = source s.on (secUp s i) w := source_midway hls (by omega) (hO.wf.parts i w hw)
  have hsucc := midway_succ hls hw hx
  rw [second_one] at hsucc
  have hcode := secCode_at hls hw hx
  have hnone : valV kvs (Sum.inl (i : Int)) = none := by rw [hval i, if_neg (Nat.lt_irrefl _)]
  refine ⟨_, rfl, _, rfl, A, midP s i, i, a, w, x, 1, rfl, ⟨⟨hP3, hO.wf.few, hO.short⟩, hO.wf.toldOk, ha, hw, hmx⟩, fun H4 hP4 kp4 => ?_⟩
  rw [hsrc] at hP4
  generalize hy : ran (source s.on (secUp s i) w) 1 x = y at hP4 hsucc hcode
  have kp4' := kp3.trans (kp4.sub (own_a ha))
  have hc4 : H4 c = some (.dK kvs) := kp4 _ _ hc3 (fun z => nco (own_a ha c z))
  obtain ⟨w', y', r, hw', hy', ⟨dx, hwa⟩, hr'⟩ := hP4.of ha
  have hsl : i < (midP s i).stands.length := (List.getElem?_eq_some_iff.mp hmx).1
  have ey : y' = y := by
   have e : ((midP s i).stands.set i y)[i]? = some y' := hy'
   rw [List.getElem?_set_self hsl] at e
   exact (Option.some.inj e).symm
  subst ey
  have ew : w' = w := by
   have e : s.told[i]? = some w' := hw'
   rw [hw] at e
   exact (Option.some.inj e).symm
  subst ew
  have hset : ∀ z, setS (setS (midP s i) i y') i z = { s with now := s.now + 1, stands := (midway s i).set i z } := fun z => by
   unfold setS midP
   dsimp only
   rw [List.set_set]
  have vnext : ∀ (kvs' : List (Key × V)), (∀ j : Nat, valV kvs' (Sum.inl (j : Int)) = if j = i then (secCode s i).map vN else valV kvs (Sum.inl (j : Int))) → ∀ j : Nat, valV kvs' (Sum.inl (j : Int)) = if j < i + 1 then (secCode s j).map vN else none := fun kvs' h j => by
   rw [h j]
   by_cases hj : j = i
   ·subst hj
    rw [if_pos rfl, if_pos (by omega)]
   ·rw [if_neg hj, hval j]
    by_cases h2 : j < i
    ·rw [if_pos h2, if_pos (by omega)]
    ·rw [if_neg h2, if_neg (by omega)]
  have vput : ∀ n : Nat, secCode s i = some n → ∀ j : Nat, valV (putK kvs (Sum.inl (i : Int)) (vN n)) (Sum.inl (j : Int)) = if j = i then (secCode s i).map vN else valV kvs (Sum.inl (j : Int)) := fun n hn j => by
   rw [valV_put, hn]
   by_cases hj : j = i
   ·rw [if_pos (by rw [hj]), if_pos hj]
    rfl
   ·rw [if_neg (fun q => hj (by have := Sum.inl.inj q; omega)), if_neg hj]
  have put : ∀ (H5 : Hp) (n : Nat) (z : Stand), secCode s i = some n → midway s (i + 1) = (midway s i).set i z → PanelAt d H5 A (setS (setS (midP s i) i y') i z) → Kp [a] H4 H5 →
    ∃ (v2 v3 : Option V) (kvs' : List (Key × V)), [some (V.ref A.p), some (V.ref c), some (V.int (i : Nat)), some (V.ref a)] = [some (.ref A.p), some (.ref c), v2, v3] ∧ PanelAt d (upd H5 c (.dK (putK kvs (Sum.inl (i : Int)) (vN n)))) A (midP s (i + 1)) ∧ Kp A.own H (upd H5 c (.dK (putK kvs (Sum.inl (i : Int)) (vN n)))) ∧
     upd H5 c (.dK (putK kvs (Sum.inl (i : Int)) (vN n))) c = some (.dK kvs') ∧ kvs'.length ≤ i + 1 ∧ ∀ j : Nat, valV kvs' (Sum.inl (j : Int)) = if j < i + 1 then (secCode s j).map vN else none := by
   intro H5 n z hn hmid hP5 kp5
   have hc5 : H5 c = some (.dK kvs) := kp5 _ _ hc4 (fun z => nco (own_a ha c z))
   rw [hset] at hP5
   refine ⟨_, _, putK kvs (Sum.inl (i : Int)) (vN n), rfl, ?_, ?_, upd_same, ?_, vnext _ (vput n hn)⟩
   ·unfold midP
    rw [hmid]
    refine hP5.keepP fun b o e q => ?_
    rw [upd_ne (fun z => by rw [z, hc5] at e; cases e; cases q)]
    exact e
   ·intro b o e m
    rw [upd_ne (ne_of_none e hHc)]
    exact (kp4'.trans (kp5.sub (own_a ha))) b o e m
   ·have := length_putK kvs (Sum.inl (i : Int)) (vN n)
    omega
  refine ⟨_, rfl, a, w', y', r, rfl, ⟨dx, hwa⟩, _, rfl, ?_⟩
  cases h1 : dueC w' y' with
  | true =>
   rw [h1, if_pos rfl] at hsucc hcode
   obtain ⟨dp4, hp4⟩ := hP4.obj
   refine iteT ⟨_, rfl, _, rfl, _, _, _, _, rfl, hp4, rfl, a, w', y', r, s.now + 1, rfl, ⟨dx, hwa⟩, fun H5 h5 kp5 => ?_⟩
   have hc5 : H5 c = some (.dK kvs) := kp5 _ _ hc4 (fun z => nco (own_a ha c z))
   exact ⟨_, rfl, _, rfl, c, _, rfl, DPut.k (k := Sum.inl (i : Int)) hc5 (by omega), put H5 1 _ hcode hsucc (hP4.setW (y := came y' (s.now + 1)) ha hw' hr' h5 kp5) kp5⟩
  | false =>
   rw [h1, if_neg Bool.false_ne_true] at hsucc hcode
   refine iteF ⟨_, rfl, a, w', y', r, rfl, ⟨dx, hwa⟩, _, rfl, ?_⟩
   cases h2 : dueG w' y' with
   | true =>
    rw [h2, if_pos rfl] at hsucc hcode
    refine iteT ⟨_, rfl, a, w', y', r, rfl, ⟨dx, hwa⟩, fun H5 h5 kp5 => ?_⟩
    have hc5 : H5 c = some (.dK kvs) := kp5 _ _ hc4 (fun z => nco (own_a ha c z))
    exact ⟨_, rfl, _, rfl, c, _, rfl, DPut.k (k := Sum.inl (i : Int)) hc5 (by omega), put H5 2 _ hcode hsucc (hP4.setW (y := gone y') ha hw' hr' h5 kp5) kp5⟩
   | false =>
    rw [h2, if_neg Bool.false_ne_true] at hsucc hcode
    refine iteF ⟨_, _, kvs, rfl, ?_, kp4', hc4, by omega, vnext kvs fun j => ?_⟩
    ·have e : setS (midP s i) i y' = midP s (i + 1) := by
      unfold setS midP
      dsimp only
      rw [hsucc]
     rw [← e]
     exact hP4
    ·by_cases hj : j = i
     ·rw [if_pos hj, hj, hnone, hcode]
      rfl
     ·rw [if_neg hj]
 ·rintro σ H' ⟨v2, v3, kvs, rfl, hP', kp, hcv, hcl, hval⟩
  rw [List.length_map, hP.la] at hP' hval
  refine ⟨_, rfl, _, rfl, A, midP s s.told.length, c, secCode s, rfl, ⟨hP', hO.wf.few, hO.short⟩, hO.wf.log, ⟨kvs, hcv, fun i hi => by rw [hval i, if_pos (show i < s.told.length from hi)]⟩, fun H2 hP2 kp2 => k H2 ?_ (kp.trans kp2)⟩
  rw [second_py hO.wf]
  unfold midP at hP2
  rw [midway_all hls] at hP2
  exact hP2
end
def sp_skip (d : Ad) : Sp := fun vs H Q _ => ∃ (A : Pl) (s : Panel) (k : Nat), vs = [.ref A.p, vN k] ∧ Ok d H A s ∧ ∀ H', PanelAt d H' A (skip k s) → Kp A.own H H' → Q .non H'
def skipUp (s : Panel) (k i : Nat) : Panel := { s with now := s.now + k, stands := (List.range i).map (runs s k) ++ s.stands.drop i }
theorem skipUp_zero (s : Panel) (k : Nat) : skipUp s k 0 = { s with now := s.now + k } := by
 unfold skipUp
 simp
theorem skipUp_all {s : Panel} (hl : s.stands.length = s.told.length) (k : Nat) : skipUp s k s.told.length = skip k s := by
 unfold skipUp skip
 rw [← hl, List.drop_length, List.append_nil]
theorem skipUp_at {s : Panel} {k i : Nat} {x : Stand} (hx : s.stands[i]? = some x) : (skipUp s k i).stands[i]? = some x := by
 show ((List.range i).map (runs s k) ++ s.stands.drop i)[i]? = _
 rw [List.getElem?_append_right (by rw [List.length_map, List.length_range]; exact Nat.le_refl _), List.length_map, List.length_range, Nat.sub_self, drop_at hx]
 rfl
theorem skipUp_src {s : Panel} (hl : s.stands.length = s.told.length) {k i : Nat} {w : Told} (hi : i ≤ s.told.length) (hp : ∀ j ∈ w.parts, j < i) : source (skipUp s k i).on (skipUp s k i).stands w = source s.on s.stands w := by
 refine source_congr fun j hj => ?_
 have hji := hp j hj
 obtain ⟨x, hx⟩ : ∃ x, s.stands[j]? = some x := ex_get (by omega)
 unfold Vbavag.comeAt
 have e : ((List.range i).map (runs s k) ++ s.stands.drop i)[j]? = some (runs s k j) := by
  rw [List.getElem?_append_left (by rw [List.length_map, List.length_range]; exact hji), List.getElem?_map, List.getElem?_range hji]
  rfl
 show (((List.range i).map (runs s k) ++ s.stands.drop i).getD j Vbavag.newStand).come = _
 rw [getD_get, getD_get, e, hx]
 show (standOf s j).come = x.come
 rw [standOf_at hx]
theorem skipUp_succ {s : Panel} {k i : Nat} {w : Told} {x : Stand} (hw : s.told[i]? = some w) (hx : s.stands[i]? = some x) : setS (skipUp s k i) i (ran (source s.on s.stands w) k x) = skipUp s k (i + 1) := by
 unfold setS skipUp
 dsimp only
 congr 1
 have e : ((List.range i).map (runs s k)).length = i := by rw [List.length_map, List.length_range]
 rw [List.set_append_right _ _ (by omega), e, Nat.sub_self, drop_at hx, List.range_succ, List.map_append]
 have e2 : runs s k i = ran (source s.on s.stands w) k x := by
  unfold runs
  rw [toldOf_at hw, standOf_at hx]
 simp [e2]
def sp_stretch (d : Ad) : Sp := fun vs H Q _ => ∃ (A : Pl) (s : Panel) (m : Nat), vs = [.ref A.p, vN m] ∧ 0 < m ∧ Ok d H A s ∧ Tame s ∧ ∀ H' (r : Nat), 0 < r → r ≤ m → PanelAt d H' A (seconds r s) → (∀ j, j < r → listed (seconds j s) = listed s) → Kp A.own H H' → Q (vN r) H'
def sp_secs (d : Ad) : Sp := fun vs H Q _ => ∃ (A : Pl) (s : Panel) (m : Nat), vs = [.ref A.p, vN m] ∧ Ok d H A s ∧ Tame s ∧ ∀ H', PanelAt d H' A (seconds m s) → Kp A.own H H' → Q .non H'
theorem second_told (s : Panel) (h : Wf s) : (second s).told = s.told := by
 rw [second_py h, pyMark_told]
theorem seconds_told : ∀ (k : Nat) (s : Panel), Wf s → (seconds k s).told = s.told
 | 0, _, _ => rfl
 | k + 1, s, h => (seconds_told k (second s) h.second).trans (second_told s h)
theorem Short.seconds {s : Panel} (h : Short s) (hw : Wf s) (k : Nat) : Short (seconds k s) := by
 unfold Short
 rw [seconds_told k s hw]
 exact h
theorem seconds_succ (k : Nat) (s : Panel) : seconds (k + 1) s = second (seconds k s) := by
 rw [seconds_add]
 rfl
section
variable {P : Program} {w : World} {K : PySem.W.Frag} {mg : Str → Option Value} {base : Heap} {d : Ad}
theorem ok_29 (T : Tx K mg d) : FnOk P w K mg base CX0 3 d.f_29 d.d_29 ["panel", "seconds"] (sp_skip d) := by
 refine T.F_29.ok sc_29 (fun vs H Q E h => ?_) (fun cdv Ar outer s0 H vs Q E hr h => ?_)
 ·obtain ⟨A, s, n, rfl, hO, k⟩ := h
  rfl
 obtain ⟨A, s, n, rfl, hO, k⟩ := h
 refine ⟨_, (pss_cons (ps_aug_at T.cl_Panel T.n_Panel_clock (pv 0) (pv 1)) (pss_one (ps_for PassesOwn.never rfl (pi_list (pe_at T.cl_Panel T.n_Panel_warnings (pv 0))) (pg_name (i := 2) sc_29.nd rfl (Or.inl rfl) (Or.inl rfl)) (pss_one (ps_expr (pe_call (ok_23 T) (hr.mono (by decide)) rfl T.mg_23 T.F_23.kp T.b_23 .nil pass0 (pa_cons (pv 0) (pa_cons (pv 2) (pa_cons (pv 1) pa_nil))))))))), ?_⟩
 have hP := hO.at_
 have hls := hP.ls
 obtain ⟨dp, hp⟩ := hP.obj
 refine ⟨_, rfl, _, _, _, _, rfl, hp, rfl, _, rfl, _, _, _, rfl, hp, (by show 6 < 1000; decide), ?_⟩
 have hP1 : PanelAt d (upd H A.p (.ins d.C_Panel dp (putF "clock" (V.int ((s.now : Int) + (n : Int))) (pF s A.lc A.lw A.lg)))) A { s with now := s.now + n } :=
  hP.setP (dp := dp) (by rw [upd_same]; rfl) Kp.one rfl rfl rfl rfl
 have kp1 : Kp A.own H (upd H A.p (.ins d.C_Panel dp (putF "clock" (V.int ((s.now : Int) + (n : Int))) (pF s A.lc A.lw A.lg)))) := Kp.one.sub fun b hb => by
  rw [List.mem_singleton.mp hb]
  simp [Pl.own]
 generalize upd H A.p (.ins d.C_Panel dp (putF "clock" (V.int ((s.now : Int) + (n : Int))) (pF s A.lc A.lw A.lg))) = H1 at hP1 kp1
 obtain ⟨dp1, hp1⟩ := hP1.obj
 refine ⟨_, rfl, _, _, _, _, rfl, hp1, rfl, _, rfl, ⟨_, SqL.of hP1.war⟩, for_list (K := K) (a := A.lw) (xs := A.as.map V.ref) (fun i σ H' => ∃ v : Option V, σ = [some (.ref A.p), some (vN n), v] ∧ PanelAt d H' A (skipUp s n i) ∧ Kp A.own H H')
  ⟨none, rfl, by rw [skipUp_zero]; exact hP1, kp1⟩ (fun i σ H' _ ⟨_, _, hP', _⟩ => SqL.of hP'.war) ?_ ?_⟩
 ·rintro i y σ H' hi ⟨v, rfl, hP', kp⟩
  obtain ⟨a, ha, rfl⟩ := map_at hi
  have hi' : i < s.told.length := by
   rw [← hP.la]
   exact (List.getElem?_eq_some_iff.mp ha).1
  obtain ⟨x, hx⟩ : ∃ x, s.stands[i]? = some x := ex_get (by omega)
  obtain ⟨w, hw⟩ : ∃ w, s.told[i]? = some w := ex_get hi'
  refine ⟨_, rfl, _, rfl, _, rfl, A, skipUp s n i, i, a, w, x, n, rfl, ⟨⟨hP', hO.wf.few, hO.short⟩, hO.wf.toldOk, ha, hw, skipUp_at hx⟩, fun H2 hP2 kp2 => ⟨some (.ref a), rfl, ?_, kp.trans (kp2.sub (own_a ha))⟩⟩
  rw [skipUp_src hls (by omega) (hO.wf.parts i w hw), skipUp_succ hw hx] at hP2
  exact hP2
 ·rintro σ H' ⟨v, rfl, hP', kp⟩
  rw [List.length_map, hP.la, skipUp_all hls] at hP'
  exact k H' hP' kp
theorem ok_30 (T : Tx K mg d) : FnOk P w K mg base CX0 5 d.f_30 d.d_30 ["panel", "most"] (sp_stretch d) := by
 refine T.F_30.ok sc_30 (fun vs H Q E h => ?_) (fun cdv Ar outer s0 H vs Q E hr h => ?_)
 ·obtain ⟨A, s, m, rfl, hm, hO, hT, k⟩ := h
  rfl
 obtain ⟨A, s, m, rfl, hm, hO, hT, k⟩ := h
 refine ⟨_, (pss_cons (ps_sA (i := 2) sc_30.nd rfl (pe_call (ok_28 T) (hr.mono (by decide)) rfl T.mg_28 T.F_28.kp T.b_28 .nil pass0 (pa_cons (pv 0) (pa_cons (pv 1) pa_nil)))) (pss_cons (ps_if (pt_cmpR op_gt (pv 2) pe_int (nomark _)) (pss_one (ps_expr (pe_call (ok_29 T) (hr.mono (by decide)) rfl T.mg_29 T.F_29.kp T.b_29 .nil pass0 (pa_cons (pv 0) (pa_cons (pv 2) pa_nil))))) pss_nil) (pss_cons (ps_if (pt_cmpR op_eq (pv 2) (pv 1) (nomark _)) (pss_one (ps_ret (pv 1))) pss_nil) (pss_cons (ps_expr (pe_call (ok_26 T) (hr.mono (by decide)) rfl T.mg_26 T.F_26.kp T.b_26 .nil pass0 (pa_cons (pv 0) pa_nil))) (pss_one (ps_ret (pe_op op_add (pv 2) pe_int))))))), ?_⟩
 have hls := hO.at_.ls
 refine ⟨_, rfl, _, rfl, A, s, m, rfl, hO.rd, hO.wf.toldOk, fun H1 s1 => ?_⟩
 have hO1 := hO.same s1
 have hq0 := quiet_nonneg hT hls (m := (m : Int)) (by omega)
 have hqm := quietUp_le s (m : Int) s.told.length
 obtain ⟨q, hq⟩ : ∃ q : Nat, quiet s (m : Int) = (q : Int) := ⟨(quiet s (m : Int)).toNat, by omega⟩
 have hqm : q ≤ m := by
  have : quiet s (m : Int) ≤ m := hqm
  omega
 rw [hq]
 have quietL : ∀ j, j ≤ q → listed (seconds j s) = listed s := fun j hj => listed_quiet (m := (m : Int)) hO.wf (by rw [hq]; omega)
 have tail : ∀ H2, PanelAt d H2 A (seconds q s) → Kp A.own H H2 →
   (tSeq (tIfS (tTest (tOp rEq (tVar 2) (tVar 1))) (tRet (tVar 1)) tNext) (tSeq (tDrop (tCall (sp_second d) [] E0 (tCons (tVar 0) tNil))) (tRet (tOp (rI0 fun i j => .int (i + j)) (tVar 2) (tC (.int 1)))))) { nx := fun _ H' => Q .non H', rt := Q } [some (.ref A.p), some (vN m), some (.int (q : Int))] H2 := by
  intro H2 hP2 kp2
  refine ⟨_, rfl, _, rfl, rfl, _, rfl, ?_⟩
  by_cases he : q = m
  ·refine ifT (decide_eq_true (by rw [he]; rfl)) ⟨_, rfl, ?_⟩
   subst he
   exact k H2 q hm (Nat.le_refl _) hP2 (fun j hj => quietL j (by omega)) kp2
  ·refine ifF (decide_eq_false fun z => he (by have := V.int.inj z; omega)) ⟨_, rfl, A, seconds q s, rfl, ⟨hP2, Wf.seconds q hO.wf, hO.short.seconds hO.wf q⟩, fun H3 hP3 kp3 => ⟨_, rfl, _, _, rfl, rfl, ?_⟩⟩
   rw [← seconds_succ] at hP3
   exact k H3 (q + 1) (by omega) (by omega) hP3 (fun j hj => quietL j (by omega)) (kp2.trans kp3)
 refine ⟨_, rfl, _, _, rfl, rfl, _, rfl, ?_⟩
 by_cases h0 : 0 < q
 ·refine ifT (decide_eq_true (by omega)) ⟨_, rfl, _, rfl, A, s, q, rfl, hO1, fun H2 hP2 kp2 => tail H2 ?_ ((Kp.of_same s1).trans kp2)⟩
  rw [seconds_quiet hO.wf h0 (Int.le_of_eq hq.symm)]
  exact hP2
 ·have hz : q = 0 := by omega
  refine ifF (decide_eq_false (by omega)) (tail H1 ?_ (Kp.of_same s1))
  rw [hz]
  exact hO1.at_
theorem ok_31 (T : Tx K mg d) : FnOk P w K mg base CX0 6 d.f_31 d.d_31 ["panel", "seconds"] (sp_secs d) := by
 refine T.F_31.ok sc_31 (fun vs H Q E h => ?_) (fun cdv Ar outer s0 H vs Q E hr h => ?_)
 ·obtain ⟨A, s, m, rfl, hO, hT, k⟩ := h
  rfl
 obtain ⟨A, s, m, rfl, hO, hT, k⟩ := h
 refine ⟨_, (pss_cons (ps_sA (i := 2) sc_31.nd rfl (pv 1)) (pss_one (ps_while PassesOwn.never (pt_cmpR op_gt (pv 2) pe_int (nomark _)) (pss_one (ps_aug (i := 2) sc_31.nd rfl (Or.inl rfl) (pe_call (ok_30 T) (hr.mono (by decide)) rfl T.mg_30 T.F_30.kp T.b_30 .nil pass0 (pa_cons (pv 0) (pa_cons (pv 2) pa_nil))) ip_sub))))), ?_⟩
 refine ⟨_, rfl, ?_⟩
 refine while_by (fun σ H' => ∃ n : Nat, n ≤ m ∧ σ = [some (.ref A.p), some (vN m), some (.int ((m : Int) - n))] ∧ PanelAt d H' A (seconds n s) ∧ Kp A.own H H') (fun σ H' => match σ with | [_, _, some (.int l)] => l.toNat | _ => 0) ⟨0, Nat.zero_le _, by simp; rfl, hO.at_, Kp.refl _ _⟩ ?_ ?_
 ·rintro σ H' ⟨n, hn, rfl, hP', kp⟩
  refine ⟨_, rfl, _, _, rfl, rfl, _, rfl, ?_⟩
  by_cases h : n < m
  ·have e : (m : Int) - n = ((m - n : Nat) : Int) := by omega
   refine ifT (decide_eq_true (by omega)) ⟨_, rfl, _, rfl, _, rfl, A, seconds n s, m - n, by rw [e]; rfl, by omega, ⟨hP', Wf.seconds n hO.wf, hO.short.seconds hO.wf n⟩, Tame.seconds hO.wf n hT, fun H2 r hr0 hr1 hP2 _ kp2 => ⟨_, _, rfl, rfl, ⟨n + r, by omega, ?_, ?_, kp.trans kp2⟩, ?_⟩⟩
   ·show [some (V.ref A.p), some (vN m), some (V.int ((m : Int) - n - r))] = _
    have e2 : (m : Int) - n - r = (m : Int) - ((n + r : Nat) : Int) := by omega
    rw [e2]
   ·rw [seconds_add]
    exact hP2
   ·show ((m : Int) - n - r).toNat < ((m : Int) - n).toNat
    omega
  ·have hnm : n = m := by omega
   subst hnm
   exact ifF (decide_eq_false (by omega)) (k H' hP' kp)
 ·rintro σ H' Q1 Q2 h ⟨v, e, i, j, e1, e2, b, e3, q⟩
  exact ⟨v, e, i, j, e1, e2, b, e3, h _ _ q⟩
end
structure Good (d : Ad) (H : Hp) (A : Pl) (s : Panel) : Prop extends Ok d H A s where
 tame : Tame s
theorem Good.same {d : Ad} {H H' : Hp} {A : Pl} {s : Panel} (h : Good d H A s) (e : Same H H') : Good d H' A s := ⟨h.toOk.same e, h.tame⟩
def Fin9B (d : Ad) (H : Hp) (A : Pl) (B : List Addr) (r : Panel × List Int) (Q : VK) : Prop :=
 ∀ H' p A', A'.p = A.p → Good d H' A' r.1 → (∀ b ∈ A'.own, b ∈ A.own ∨ H b = none) → (∀ b ∈ A'.ro, b ∈ A.ro ∨ H b = none ∨ b ∈ B) → H' p = some (.lst (r.2.map V.int)) → H p = none → Kp A.own H H' → Q (.ref p) H'
def Fin9 (d : Ad) (H : Hp) (A : Pl) (r : Panel × List Int) (Q : VK) : Prop := Fin9B d H A [] r Q
theorem Fin9B.fin' {d : Ad} {H H1 : Hp} {A : Pl} {B : List Addr} {r : Panel × List Int} {Q : VK} (h : Fin9B d H A B r Q) (hG : Good d H1 A r.1) (kp : Kp A.own H H1) {xs : List V} (ex : xs = r.2.map V.int) {p : Addr} (hp : H1 p = none) : Q (.ref p) (upd H1 p (.lst xs)) := by
 have np : p ∉ A.own := fun z => not_own_none hG.at_ hp z
 have hHp : H p = none := by
  cases q : H p with
  | none => rfl
  | some o =>
   rw [kp p o q np] at hp
   cases hp
 exact h _ p A rfl (hG.same (Same.new hp)) (fun _ q => .inl q) (fun _ q => .inl q) (by rw [upd_same, ex]) hHp (kp.trans (Kp.of_same (Same.new hp)))
theorem Fin9.fin' {d : Ad} {H H1 : Hp} {A : Pl} {r : Panel × List Int} {Q : VK} (h : Fin9 d H A r Q) (hG : Good d H1 A r.1) (kp : Kp A.own H H1) {xs : List V} (ex : xs = r.2.map V.int) {p : Addr} (hp : H1 p = none) : Q (.ref p) (upd H1 p (.lst xs)) :=
 Fin9B.fin' h hG kp ex hp
theorem Fin9B.f9 {d : Ad} {H : Hp} {A : Pl} {B : List Addr} {r : Panel × List Int} {Q : VK} (h : Fin9B d H A B r Q) : Fin9 d H A r Q :=
 fun H' p A' e hG n1 n2 hp np kp => h H' p A' e hG n1 (fun b hb => (n2 b hb).imp id fun q => q.imp id fun z => absurd z (by simp)) hp np kp
theorem one_line : (1 : Nat) ≤ sizeLine := by decide
theorem isThere_nat {s : Panel} {n : Int} (h : Vbavag.isThere s n = true) : ∃ i : Nat, n = (i : Int) ∧ i < s.told.length := by
 unfold Vbavag.isThere Vbavag.inR at h
 simp only [Bool.and_eq_true, decide_eq_true_eq] at h
 obtain ⟨h1, h2⟩ := h
 have h2 : n ≤ (s.told.length : Int) - 1 := h2
 exact ⟨n.toNat, by omega, by omega⟩
theorem dec_shown (s : Panel) (i : Nat) : decide (i ∈ nums (shown s)) = isShown s i := by
 rw [Bool.eq_iff_iff, decide_eq_true_iff, mem_nums]
 exact Iff.rfl
theorem Short.of {s t : Panel} (h : Short s) (e : t.told = s.told) : Short t := by
 unfold Short
 rw [e]
 exact h
def sp_num (d : Ad) (f : Panel → Int → Panel × List Int) : Sp := fun vs H Q _ => ∃ (A : Pl) (s : Panel) (n : Int), vs = [.ref A.p, .int n] ∧ Good d H A s ∧ Fin9 d H A (f s n) Q
def sp_no (d : Ad) (f : Panel → Panel × List Int) : Sp := fun vs H Q _ => ∃ (A : Pl) (s : Panel), vs = [.ref A.p] ∧ Good d H A s ∧ Fin9 d H A (f s) Q
section
variable {P : Program} {w : World} {K : PySem.W.Frag} {mg : Str → Option Value} {base : Heap} {d : Ad}
theorem ok_38 (T : Tx K mg d) : FnOk P w K mg base CX0 3 d.f_38 d.d_38 ["panel", "number"] (sp_num d Vbavag.ackCall) := by
 refine T.F_38.ok sc_38 (fun vs H Q E h => ?_) (fun cdv Ar outer s0 H vs Q E hr h => ?_)
 ·obtain ⟨A, s, n, rfl, hG, k⟩ := h
  rfl
 obtain ⟨A, s, n, rfl, hG, k⟩ := h
 refine ⟨_, (pss_cons (ps_if (pt_not (pt_val (pe_call (ok_7 T) (hr.mono (by decide)) rfl T.mg_7 T.F_7.kp T.b_7 .nil pass0 (pa_cons (pv 0) (pa_cons (pv 1) pa_nil))))) (pss_one (ps_ret (pe_lst (pa_cons (pe_cst rfl T.c_OUT_OF_RANGE) pa_nil)))) pss_nil) (pss_cons (ps_if (pt_cmpR op_notIn_seq (pv 1) (pe_call (ok_12 T) (hr.mono (by decide)) rfl T.mg_12 T.F_12.kp T.b_12 .nil pass0 (pa_cons (pv 0) pa_nil)) (by with_unfolding_all rfl)) (pss_one (ps_ret (pe_lst (pa_cons (pe_cst rfl T.c_NOT_SHOWN_OR_COME) pa_nil)))) pss_nil) (pss_cons (ps_sA (i := 2) sc_38.nd rfl (pe_ix ix_list (pe_at T.cl_Panel T.n_Panel_warnings (pv 0)) (pv 1) (fun _ _ => rfl))) (pss_cons (ps_if (pt_val (pe_at T.cl_SW T.n_SW_acknowledged (pv 2))) (pss_one (ps_ret (pe_lst (pa_cons (pe_cst rfl T.c_NOT_NOW) pa_nil)))) pss_nil) (pss_cons (ps_at T.cl_SW T.n_SW_acknowledged (pv 2) pe_bl) (pss_cons (ps_expr (pe_call (ok_0 T) (hr.mono (by decide)) rfl T.mg_0 T.F_0.kp T.b_0 .nil pass0 (pa_cons (pv 0) (pa_cons (pe_cst rfl T.c_ACKNOWLEDGED) (pa_cons (pv 1) pa_nil))))) (pss_one (ps_ret (pe_lst (pa_cons pe_int pa_nil)))))))))), ?_⟩
 refine ⟨_, rfl, _, rfl, A, s, n, rfl, hG.at_, _, rfl, ?_⟩
 cases h1 : Vbavag.isThere s n with
 | false =>
  have e : Vbavag.ackCall s n = (s, [-1]) := by
   unfold Vbavag.ackCall Vbavag.ofShown
   rw [if_pos h1]
   rfl
  rw [e] at k
  exact iteT ⟨one_line, fun p hp => k.fin' hG (Kp.refl _ _) rfl hp⟩
 | true =>
  obtain ⟨i, rfl, hi⟩ := isThere_nat h1
  refine iteF ⟨_, rfl, _, rfl, A, s, rfl, hG.rd, fun H1 p s1 np hp => ⟨p, _, rfl, .inl (SqL.of hp), rfl, flat_nats _, _, rfl, ?_⟩⟩
  show if (!inV (vN i) ((nums (shown s)).map vN)) = true then _ else _
  rw [inV_nats, dec_shown]
  have hG1 := hG.same s1
  cases h2 : isShown s i with
  | false =>
   have e : Vbavag.ackCall s (i : Int) = (s, [-6]) := by
    unfold Vbavag.ackCall Vbavag.ofShown
    simp only [Int.toNat_natCast]
    rw [if_neg (by rw [h1]; decide), if_pos h2]
    rfl
   rw [e] at k
   exact iteT ⟨one_line, fun p hp => k.fin' hG1 (Kp.of_same s1) rfl hp⟩
  | true =>
   obtain ⟨dp, hp1⟩ := hG1.at_.obj
   obtain ⟨a, w, x, r, ha, hw, hx, ⟨dx, hwa⟩, hr'⟩ := hG1.at_.get hi
   refine iteF ⟨_, rfl, _, _, _, _, rfl, hp1, rfl, _, rfl, _, _, _, _, rfl, rfl, SqL.of hG1.at_.war, at_map ha, ?_⟩
   refine ⟨_, rfl, _, _, _, _, rfl, hwa, rfl, _, rfl, ?_⟩
   cases h3 : x.acked with
   | true =>
    have e : Vbavag.ackCall s (i : Int) = (s, [-7]) := by
     unfold Vbavag.ackCall Vbavag.ofShown
     simp only [Int.toNat_natCast]
     rw [if_neg (by rw [h1]; decide), if_neg (by show ¬ isShown s i = false; rw [h2]; decide), if_pos (by show (standOf s i).acked = true; rw [standOf_at hx]; exact h3)]
     rfl
    rw [e] at k
    exact iteT ⟨one_line, fun p hp => k.fin' hG1 (Kp.of_same s1) rfl hp⟩
   | false =>
    have e : Vbavag.ackCall s (i : Int) = (noted (setS s i (ackd x)) [⟨s.now, 4, i⟩], [0]) := by
     unfold Vbavag.ackCall Vbavag.ofShown
     simp only [Int.toNat_natCast]
     rw [if_neg (by rw [h1]; decide), if_neg (by show ¬ isShown s i = false; rw [h2]; decide), if_neg (by show ¬ (standOf s i).acked = true; rw [standOf_at hx, h3]; decide)]
     show (Vbavag.change s i _ 4, [0]) = _
     rw [ack_change hG.wf hx]
    rw [e] at k
    refine iteF ⟨_, rfl, _, _, _, rfl, hwa, (by show 17 < 1000; decide), ?_⟩
    have e1 : putF "acknowledged" (V.bl true) (wF w x r.1 r.2.1 r.2.2) = wF w (ackd x) r.1 r.2.1 r.2.2 := rfl
    have hP2 := hG1.at_.setW (H' := upd H1 a (.ins d.C_SW dx (putF "acknowledged" (V.bl true) (wF w x r.1 r.2.1 r.2.2)))) (y := ackd x) ha hw hr' (WA.upd e1) Kp.one
    have kp2 : Kp A.own H (upd H1 a (.ins d.C_SW dx (putF "acknowledged" (V.bl true) (wF w x r.1 r.2.1 r.2.2)))) := (Kp.of_same s1).trans (Kp.one.sub (own_a ha))
    generalize upd H1 a (.ins d.C_SW dx (putF "acknowledged" (V.bl true) (wF w x r.1 r.2.1 r.2.2))) = H2 at hP2 kp2
    refine ⟨_, rfl, _, rfl, A, setS s i (ackd x), 4, i, rfl, hP2, hG.wf.log, fun H3 hP3 kp3 => ⟨one_line, fun p hp => k.fin' ⟨⟨hP3, noted_Wf (hG.wf.ackd hx).1 _, hG.short.of (noted_told _ _)⟩, (Tame.setC (y := ackd x) hG.tame hx rfl rfl rfl).noted _⟩ (kp2.trans (kp3.sub (own_pg A))) rfl hp⟩⟩
theorem ackEach_snoc (s : Panel) (l : List Nat) (j : Nat) : ackEach s (l ++ [j]) = setS (ackEach s l) j (ackd (standOf (ackEach s l) j)) := by
 rw [← each_ack, each_snoc, each_ack]
theorem ackEach_told (s : Panel) (l : List Nat) : (ackEach s l).told = s.told := by
 rw [← each_ack, each_told]
theorem ok_39 (T : Tx K mg d) : FnOk P w K mg base CX0 4 d.f_39 d.d_39 ["panel"] (sp_no d Vbavag.ackAllCall) := by
 refine T.F_39.ok sc_39 (fun vs H Q E h => ?_) (fun cdv Ar outer s0 H vs Q E hr h => ?_)
 ·obtain ⟨A, s, rfl, hG, k⟩ := h
  rfl
 obtain ⟨A, s, rfl, hG, k⟩ := h
 refine ⟨_, (pss_cons (ps_sA (i := 1) sc_39.nd rfl (pe_call (ok_14 T) (hr.mono (by decide)) rfl T.mg_14 T.F_14.kp T.b_14 .nil pass0 (pa_cons (pv 0) pa_nil))) (pss_cons (ps_for PassesOwn.never rfl (pi_list (pv 1)) (pg_name (i := 2) sc_39.nd rfl (Or.inl rfl) (Or.inl rfl)) (pss_cons (ps_sA (i := 3) sc_39.nd rfl (pe_ix ix_list (pe_at T.cl_Panel T.n_Panel_warnings (pv 0)) (pv 2) (fun _ _ => rfl))) (pss_one (ps_at T.cl_SW T.n_SW_acknowledged (pv 3) pe_bl)))) (pss_cons (ps_expr (pe_call (ok_1 T) (hr.mono (by decide)) rfl T.mg_1 T.F_1.kp T.b_1 .nil pass0 (pa_cons (pv 0) (pa_cons (pe_cst rfl T.c_ACKNOWLEDGED) (pa_cons (pv 1) pa_nil))))) (pss_one (ps_ret (pe_lst (pa_cons (pe_callB call_len_seq rfl T.no_len bt_len (pa_cons (pv 1) pa_nil)) pa_nil))))))), ?_⟩
 refine ⟨_, rfl, A, s, rfl, hG.rd, fun H1 q s1 nq hq => ?_⟩
 have hG1 := hG.same s1
 have nqo : q ∉ A.own := not_own_none hG.at_ nq
 have hlt : ∀ i ∈ waiting s, i < s.told.length := fun i hi => waiting_lt hi
 have hle := waiting_le s
 have hfew := hG.wf.few
 refine ⟨_, rfl, q, rfl, ⟨_, SqL.of hq⟩, for_list (K := K) (a := q) (xs := (waiting s).map vN) (fun i σ H' => ∃ v2 v3 : Option V, σ = [some (.ref A.p), some (.ref q), v2, v3] ∧ PanelAt d H' A (ackEach s ((waiting s).take i)) ∧ Kp A.own H1 H')
  ⟨none, none, rfl, hG1.at_, Kp.refl _ _⟩ (fun i σ H' _ ⟨_, _, _, _, kp⟩ => SqL.of (kp _ _ hq nqo)) ?_ ?_⟩
 ·rintro i y σ H' hi ⟨v2, v3, rfl, hP', kp⟩
  obtain ⟨n, hn, rfl⟩ := map_at hi
  have hnl := hlt n (List.mem_of_getElem? hn)
  obtain ⟨dp, hp1⟩ := hP'.obj
  obtain ⟨a, w, x, r, ha, hw, hx, ⟨dx, hwa⟩, hr'⟩ := hP'.get (i := n) (by rw [ackEach_told]; exact hnl)
  refine ⟨_, rfl, _, _, _, _, rfl, hp1, rfl, _, rfl, _, _, _, _, rfl, rfl, SqL.of hP'.war, at_map ha, ?_⟩
  refine ⟨_, rfl, _, _, _, rfl, hwa, (by show 17 < 1000; decide), ?_⟩
  have e1 : putF "acknowledged" (V.bl true) (wF w x r.1 r.2.1 r.2.2) = wF w (ackd x) r.1 r.2.1 r.2.2 := rfl
  refine ⟨_, _, rfl, ?_, kp.trans (Kp.one.sub (own_a ha))⟩
  rw [take_snoc hn, ackEach_snoc, standOf_at hx]
  exact hP'.setW (y := ackd x) ha hw hr' (WA.upd e1) Kp.one
 ·rintro σ H' ⟨v2, v3, rfl, hP', kp⟩
  rw [List.length_map, List.take_length] at hP'
  have hwf := ackEach_Wf (waiting s) hG.wf hlt
  have hq' := kp _ _ hq nqo
  refine ⟨_, rfl, _, rfl, A, ackEach s (waiting s), 4, q, waiting s, rfl, hP', hq', nqo, hwf.log, fun H2 hP2 kp2 => ?_⟩
  have kp3 := kp.trans (kp2.sub (own_pg A))
  refine ⟨_, rfl, _, _, rfl, .inl (SqL.of (kp3 _ _ hq nqo)), one_line, fun p hp => ?_⟩
  have e : Vbavag.ackAllCall s = (noted (ackEach s (waiting s)) (evs (ackEach s (waiting s)) 4 (waiting s)), [((waiting s).length : Int)]) := by
   unfold Vbavag.ackAllCall
   rw [ackAll_waiting]
   show (List.foldl _ s (waiting s), _) = _
   rw [ackAll_fold (waiting s) hG.wf hlt]
   unfold evs
   rw [ackEach_now]
   rfl
  rw [e] at k
  refine k.fin' ⟨⟨hP2, noted_Wf hwf _, hG.short.of ((noted_told _ _).trans (ackEach_told _ _))⟩, (Tame.ackEach _ hG.tame).noted _⟩ ((Kp.of_same s1).trans kp3) (by rw [List.length_map]; rfl) hp
end
def sp_numB (d : Ad) (f : Panel → Int → Panel × List Int) : Sp := fun vs H Q _ => ∃ (A : Pl) (s : Panel) (n : Int), vs = [.ref A.p, .int n] ∧ Good d H A s ∧ Fin9 d H A (f s n) Q
def sp_noB (d : Ad) (f : Panel → Panel × List Int) : Sp := fun vs H Q _ => ∃ (A : Pl) (s : Panel), vs = [.ref A.p] ∧ Good d H A s ∧ Fin9 d H A (f s) Q
theorem empty_dict {H : Hp} {c : Addr} {n : Nat} (h : H c = some (.dK [])) : DictAt H c n noD := ⟨[], h, fun i _ => rfl⟩
section
variable {P : Program} {w : World} {K : PySem.W.Frag} {mg : Str → Option Value} {base : Heap} {d : Ad}
theorem ok_40 (T : Tx K mg d) : FnOk P w K mg base CX0 4 d.f_40 d.d_40 ["panel", "number"] (sp_numB d Vbavag.cancelCall) := by
 refine T.F_40.ok sc_40 (fun vs H Q E h => ?_) (fun cdv Ar outer s0 H vs Q E hr h => ?_)
 ·obtain ⟨A, s, n, rfl, hG, k⟩ := h
  rfl
 obtain ⟨A, s, n, rfl, hG, k⟩ := h
 refine ⟨_, (pss_cons (ps_if (pt_not (pt_val (pe_call (ok_7 T) (hr.mono (by decide)) rfl T.mg_7 T.F_7.kp T.b_7 .nil pass0 (pa_cons (pv 0) (pa_cons (pv 1) pa_nil))))) (pss_one (ps_ret (pe_lst (pa_cons (pe_cst rfl T.c_OUT_OF_RANGE) pa_nil)))) pss_nil) (pss_cons (ps_if (pt_cmpR op_notIn_seq (pv 1) (pe_call (ok_12 T) (hr.mono (by decide)) rfl T.mg_12 T.F_12.kp T.b_12 .nil pass0 (pa_cons (pv 0) pa_nil)) (by with_unfolding_all rfl)) (pss_one (ps_ret (pe_lst (pa_cons (pe_cst rfl T.c_NOT_SHOWN_OR_COME) pa_nil)))) pss_nil) (pss_cons (ps_sA (i := 2) sc_40.nd rfl (pe_ix ix_list (pe_at T.cl_Panel T.n_Panel_warnings (pv 0)) (pv 1) (fun _ _ => rfl))) (pss_cons (ps_if (pt_not (pt_val (pe_at T.cl_SW T.n_SW_acknowledged (pv 2)))) (pss_one (ps_ret (pe_lst (pa_cons (pe_cst rfl T.c_NOT_NOW) pa_nil)))) pss_nil) (pss_cons (ps_if (pt_cmpR op_eq (pe_at T.cl_SW T.n_SW_rank (pv 2)) (pe_cst rfl T.c_HIGHEST_RANK) (nomark _)) (pss_one (ps_ret (pe_lst (pa_cons (pe_cst rfl T.c_NOT_OF_THIS_KIND) pa_nil)))) pss_nil) (pss_cons (ps_at T.cl_SW T.n_SW_cancelled (pv 2) pe_bl) (pss_cons (ps_expr (pe_call (ok_16 T) (hr.mono (by decide)) rfl T.mg_16 T.F_16.kp T.b_16 .nil pass0 (pa_cons (pv 0) (pa_cons pe_dnewK pa_nil)))) (pss_cons (ps_expr (pe_call (ok_0 T) (hr.mono (by decide)) rfl T.mg_0 T.F_0.kp T.b_0 .nil pass0 (pa_cons (pv 0) (pa_cons (pe_cst rfl T.c_CANCELLED) (pa_cons (pv 1) pa_nil))))) (pss_one (ps_ret (pe_lst (pa_cons pe_int pa_nil)))))))))))), ?_⟩
 refine ⟨_, rfl, _, rfl, A, s, n, rfl, hG.at_, _, rfl, ?_⟩
 cases h1 : Vbavag.isThere s n with
 | false =>
  have e : Vbavag.cancelCall s n = (s, [-1]) := by
   unfold Vbavag.cancelCall Vbavag.ofShown
   rw [if_pos h1]
   rfl
  rw [e] at k
  exact iteT ⟨one_line, fun p hp => k.fin' hG (Kp.refl _ _) rfl hp⟩
 | true =>
  obtain ⟨i, rfl, hi⟩ := isThere_nat h1
  refine iteF ⟨_, rfl, _, rfl, A, s, rfl, hG.rd, fun H1 p s1 np hp => ⟨p, _, rfl, .inl (SqL.of hp), rfl, flat_nats _, _, rfl, ?_⟩⟩
  show if (!inV (vN i) ((nums (shown s)).map vN)) = true then _ else _
  rw [inV_nats, dec_shown]
  have hG1 := hG.same s1
  cases h2 : isShown s i with
  | false =>
   have e : Vbavag.cancelCall s (i : Int) = (s, [-6]) := by
    unfold Vbavag.cancelCall Vbavag.ofShown
    simp only [Int.toNat_natCast]
    rw [if_neg (by rw [h1]; decide), if_pos h2]
    rfl
   rw [e] at k
   exact iteT ⟨one_line, fun p hp => k.fin' hG1 (Kp.of_same s1) rfl hp⟩
  | true =>
   obtain ⟨dp, hp1⟩ := hG1.at_.obj
   obtain ⟨a, w, x, r, ha, hw, hx, ⟨dx, hwa⟩, hr'⟩ := hG1.at_.get hi
   refine iteF ⟨_, rfl, _, _, _, _, rfl, hp1, rfl, _, rfl, _, _, _, _, rfl, rfl, SqL.of hG1.at_.war, at_map ha, ?_⟩
   refine ⟨_, rfl, _, _, _, _, rfl, hwa, rfl, _, rfl, ?_⟩
   cases h3 : x.acked with
   | false =>
    have e : Vbavag.cancelCall s (i : Int) = (s, [-7]) := by
     unfold Vbavag.cancelCall Vbavag.ofShown
     simp only [Int.toNat_natCast]
     rw [if_neg (by rw [h1]; decide), if_neg (by rw [h2]; decide), if_pos (by rw [standOf_at hx]; exact h3)]
     rfl
    rw [e] at k
    exact iteT ⟨one_line, fun p hp => k.fin' hG1 (Kp.of_same s1) rfl hp⟩
   | true =>
    refine iteF ⟨_, rfl, _, _, _, _, rfl, hwa, rfl, rfl, _, rfl, ?_⟩
    by_cases h4 : w.rank = 3
    ·have e : Vbavag.cancelCall s (i : Int) = (s, [-9]) := by
      unfold Vbavag.cancelCall Vbavag.ofShown
      simp only [Int.toNat_natCast]
      rw [if_neg (by rw [h1]; decide), if_neg (by rw [h2]; decide), if_neg (by rw [standOf_at hx, h3]; decide), if_pos (by rw [toldOf_at hw]; exact h4)]
      rfl
     rw [e] at k
     exact ifT (decide_eq_true (by rw [h4]; rfl)) ⟨one_line, fun p hp => k.fin' hG1 (Kp.of_same s1) rfl hp⟩
    ·have e : Vbavag.cancelCall s (i : Int) = (noted (pyMark noD (setS s i { x with cancelled := true })) [⟨s.now, 5, i⟩], [0]) := by
      unfold Vbavag.cancelCall Vbavag.ofShown
      simp only [Int.toNat_natCast]
      rw [if_neg (by rw [h1]; decide), if_neg (by rw [h2]; decide), if_neg (by rw [standOf_at hx, h3]; decide), if_neg (by rw [toldOf_at hw]; exact h4)]
      rw [cancel_change hG.wf hx]
     rw [e] at k
     refine ifF (decide_eq_false fun z => h4 (by have := V.int.inj z; omega)) ⟨_, rfl, _, _, _, rfl, hwa, (by show 17 < 1000; decide), ?_⟩
     have e1 : putF "cancelled" (V.bl true) (wF w x r.1 r.2.1 r.2.2) = wF w { x with cancelled := true } r.1 r.2.1 r.2.2 := rfl
     have hP2 := hG1.at_.setW (H' := upd H1 a (.ins d.C_SW dx (putF "cancelled" (V.bl true) (wF w x r.1 r.2.1 r.2.2)))) (y := { x with cancelled := true }) ha hw hr' (WA.upd e1) Kp.one
     have kp2 : Kp A.own H (upd H1 a (.ins d.C_SW dx (putF "cancelled" (V.bl true) (wF w x r.1 r.2.1 r.2.2)))) := (Kp.of_same s1).trans (Kp.one.sub (own_a ha))
     generalize upd H1 a (.ins d.C_SW dx (putF "cancelled" (V.bl true) (wF w x r.1 r.2.1 r.2.2))) = H2 at hP2 kp2
     refine ⟨_, rfl, fun c hc => ⟨A, setS s i { x with cancelled := true }, c, noD, rfl, ⟨hP2.same (Same.new hc), hG.wf.few, hG.short⟩, hG.wf.log, empty_dict upd_same, fun H3 hP3 kp3 => ?_⟩⟩
     have kp3' := (kp2.trans (Kp.of_same (Same.new hc))).trans kp3
     have hwf : Wf (pyMark noD (setS s i { x with cancelled := true })) := hG.wf.setMark fun q => hG.wf.hid x (List.mem_of_getElem? hx) q
     have hnow : (pyMark noD (setS s i { x with cancelled := true })).now = s.now := pyMark_now _ _
     refine ⟨_, rfl, _, rfl, A, pyMark noD (setS s i { x with cancelled := true }), 5, i, rfl, hP3, hwf.log, fun H4 hP4 kp4 => ⟨one_line, fun p hp => k.fin' ⟨⟨?_, noted_Wf hwf _, hG.short.of ((noted_told _ _).trans (pyMark_told _ _))⟩, ((Tame.setC (y := { x with cancelled := true }) hG.tame hx rfl rfl rfl).pyMark (setS_len hG.wf.len)).noted _⟩ (kp3'.trans (kp4.sub (own_pg A))) rfl hp⟩⟩
     rw [hnow] at hP4
     exact hP4
theorem ok_42 (T : Tx K mg d) : FnOk P w K mg base CX0 4 d.f_42 d.d_42 ["panel", "number"] (sp_numB d Vbavag.resetCall) := by
 refine T.F_42.ok sc_42 (fun vs H Q E h => ?_) (fun cdv Ar outer s0 H vs Q E hr h => ?_)
 ·obtain ⟨A, s, n, rfl, hG, k⟩ := h
  rfl
 obtain ⟨A, s, n, rfl, hG, k⟩ := h
 refine ⟨_, (pss_cons (ps_if (pt_not (pt_val (pe_call (ok_7 T) (hr.mono (by decide)) rfl T.mg_7 T.F_7.kp T.b_7 .nil pass0 (pa_cons (pv 0) (pa_cons (pv 1) pa_nil))))) (pss_one (ps_ret (pe_lst (pa_cons (pe_cst rfl T.c_OUT_OF_RANGE) pa_nil)))) pss_nil) (pss_cons (ps_sA (i := 2) sc_42.nd rfl (pe_ix ix_list (pe_at T.cl_Panel T.n_Panel_warnings (pv 0)) (pv 1) (fun _ _ => rfl))) (pss_cons (ps_if (pt_not (pt_val (pe_at T.cl_SW T.n_SW_has_come (pv 2)))) (pss_one (ps_ret (pe_lst (pa_cons (pe_cst rfl T.c_NOT_SHOWN_OR_COME) pa_nil)))) pss_nil) (pss_cons (ps_if (pt_cmpR op_eq (pe_at T.cl_SW T.n_SW_latch (pv 2)) pe_int (nomark _)) (pss_one (ps_ret (pe_lst (pa_cons (pe_cst rfl T.c_NOT_OF_THIS_KIND) pa_nil)))) pss_nil) (pss_cons (ps_if (pt_cmpR op_le (pe_at T.cl_SW T.n_SW_seconds_off (pv 2)) (pe_at T.cl_SW T.n_SW_off_delay (pv 2)) (nomark _)) (pss_one (ps_ret (pe_lst (pa_cons (pe_cst rfl T.c_NOT_NOW) pa_nil)))) pss_nil) (pss_cons (ps_expr (pe_call (ok_20 T) (hr.mono (by decide)) rfl T.mg_20 T.F_20.kp T.b_20 .nil pass0 (pa_cons (pv 2) pa_nil))) (pss_cons (ps_expr (pe_call (ok_16 T) (hr.mono (by decide)) rfl T.mg_16 T.F_16.kp T.b_16 .nil pass0 (pa_cons (pv 0) (pa_cons (pe_disp (pps_cons (pv 1) (pe_cst rfl T.c_WENT) pps_nil) rfl rfl (by simp) (by decide)) pa_nil)))) (pss_cons (ps_expr (pe_call (ok_0 T) (hr.mono (by decide)) rfl T.mg_0 T.F_0.kp T.b_0 .nil pass0 (pa_cons (pv 0) (pa_cons (pe_cst rfl T.c_WAS_RESET) (pa_cons (pv 1) pa_nil))))) (pss_one (ps_ret (pe_lst (pa_cons pe_int pa_nil)))))))))))), ?_⟩
 refine ⟨_, rfl, _, rfl, A, s, n, rfl, hG.at_, _, rfl, ?_⟩
 cases h1 : Vbavag.isThere s n with
 | false =>
  have e : Vbavag.resetCall s n = (s, [-1]) := by
   unfold Vbavag.resetCall
   rw [if_pos h1]
   rfl
  rw [e] at k
  exact iteT ⟨one_line, fun p hp => k.fin' hG (Kp.refl _ _) rfl hp⟩
 | true =>
  obtain ⟨i, rfl, hi⟩ := isThere_nat h1
  obtain ⟨dp, hp1⟩ := hG.at_.obj
  obtain ⟨a, w, x, r, ha, hw, hx, ⟨dx, hwa⟩, hr'⟩ := hG.at_.get hi
  have spec : Vbavag.resetCall s (i : Int) = if x.come = false then Vbavag.no s 6 else if w.latch = false then Vbavag.no s 9 else if x.offFor ≤ w.offDelay then Vbavag.no s 7 else (Vbavag.change s i gone 7, [0]) := by
   unfold Vbavag.resetCall
   simp only [Int.toNat_natCast]
   rw [if_neg (by rw [h1]; decide), standOf_at hx, toldOf_at hw]
   rfl
  rw [spec] at k
  refine iteF ⟨_, rfl, _, _, _, _, rfl, hp1, rfl, _, rfl, _, _, _, _, rfl, rfl, SqL.of hG.at_.war, at_map ha, ?_⟩
  refine ⟨_, rfl, _, _, _, _, rfl, hwa, rfl, _, rfl, ?_⟩
  cases h2 : x.come with
  | false =>
   rw [if_pos h2] at k
   exact iteT ⟨one_line, fun p hp => k.fin' hG (Kp.refl _ _) rfl hp⟩
  | true =>
   rw [if_neg (by rw [h2]; decide)] at k
   refine iteF ⟨_, rfl, _, _, _, _, rfl, hwa, rfl, rfl, _, rfl, ?_⟩
   rw [dec_latch]
   cases h3 : w.latch with
   | false =>
    rw [if_pos h3] at k
    exact iteT ⟨one_line, fun p hp => k.fin' hG (Kp.refl _ _) rfl hp⟩
   | true =>
    rw [if_neg (by rw [h3]; decide)] at k
    refine iteF ⟨_, rfl, _, _, _, _, rfl, hwa, rfl, _, rfl, _, _, _, _, rfl, hwa, rfl, _, _, rfl, rfl, _, rfl, ?_⟩
    by_cases h4 : x.offFor ≤ w.offDelay
    ·rw [if_pos h4] at k
     exact ifT (decide_eq_true (by omega)) ⟨one_line, fun p hp => k.fin' hG (Kp.refl _ _) rfl hp⟩
    ·rw [if_neg h4, reset_change hG.wf hx h2] at k
     refine ifF (decide_eq_false (by omega)) ⟨_, rfl, a, w, x, r, rfl, ⟨dx, hwa⟩, fun H2 h2' kp2 => ?_⟩
     have hP2 := hG.at_.setW (y := gone x) ha hw hr' h2' kp2
     refine ⟨_, rfl, fun c hc => ⟨_, rfl, upd_same, [(Sum.inl (i : Int), vN 2)], rfl, (by show 1 ≤ 15; decide), ?_⟩⟩
     have hdict : DictAt (upd (upd H2 c (.dK [])) c (.dK (mergeK [] [((Sum.inl (i : Int) : Key), vN 2)]))) c s.told.length (oneD i 2) := by
      refine ⟨_, upd_same, fun j _ => ?_⟩
      show valV [((Sum.inl (i : Int) : Key), vN 2)] (Sum.inl (j : Int)) = _
      unfold oneD
      by_cases hj : j = i
      ·rw [if_pos hj, hj, valV_pos rfl]
       rfl
      ·rw [if_neg hj, valV_neg (fun z => hj (by have := Sum.inl.inj z; omega)), valV_nil]
       rfl
     have s3 : Same H2 (upd (upd H2 c (.dK [])) c (.dK (mergeK [] [((Sum.inl (i : Int) : Key), vN 2)]))) := by
      rw [upd_upd]
      exact Same.new hc
     refine ⟨A, setS s i (gone x), c, oneD i 2, rfl, ⟨hP2.same s3, hG.wf.few, hG.short⟩, hG.wf.log, hdict, fun H3 hP3 kp3 => ?_⟩
     have kp3' := ((kp2.sub (own_a ha)).trans (Kp.of_same s3)).trans kp3
     have hwf : Wf (pyMark (oneD i 2) (setS s i (gone x))) := hG.wf.setMark fun _ => rfl
     have hnow : (pyMark (oneD i 2) (setS s i (gone x))).now = s.now := pyMark_now _ _
     have ht : Tame (setS s i (gone x)) := hG.tame.setS hx fun w' hw' => by
      rw [hw] at hw'
      obtain rfl := Option.some.inj hw'
      have t := hG.tame i w x hw hx
      refine ⟨fun _ => ?_, fun q => absurd (show false = true from q) Bool.false_ne_true, t.2.2⟩
      show x.onFor ≤ w.onDelay
      rcases t.2.2 with q | q
      ·omega
      ·omega
     refine ⟨_, rfl, _, rfl, A, pyMark (oneD i 2) (setS s i (gone x)), 7, i, rfl, hP3, hwf.log, fun H4 hP4 kp4 => ⟨one_line, fun p hp => k.fin' ⟨⟨?_, noted_Wf hwf _, hG.short.of ((noted_told _ _).trans (pyMark_told _ _))⟩, (ht.pyMark (setS_len hG.wf.len)).noted _⟩ (kp3'.trans (kp4.sub (own_pg A))) rfl hp⟩⟩
     rw [hnow] at hP4
     exact hP4
theorem ok_41 (T : Tx K mg d) : FnOk P w K mg base CX0 4 d.f_41 d.d_41 ["panel"] (sp_noB d Vbavag.recallCall) := by
 refine T.F_41.ok sc_41 (fun vs H Q E h => ?_) (fun cdv Ar outer s0 H vs Q E hr h => ?_)
 ·obtain ⟨A, s, rfl, hG, k⟩ := h
  rfl
 obtain ⟨A, s, rfl, hG, k⟩ := h
 refine ⟨_, (pss_cons (ps_setLc (i := 3) rfl sc_41.nd rfl rfl (sw_true rfl rfl rfl rfl) (pi_enum rfl T.no_enumerate (pa_cons (pe_at T.cl_Panel T.n_Panel_warnings (pv 0)) pa_nil)) (blkOk_by (own := [("number", 1), ("warning", 2)]) rfl) (fun _ _ _ _ _ => (pgTwo (K := K) rfl rfl (pg_name (i := 1) sc_41.nd rfl (Or.inl rfl) (Or.inr rfl)) (pg_name (i := 2) sc_41.nd rfl (Or.inl rfl) (Or.inr rfl)))) (fun _ _ _ _ _ => (pts_one (pt_val (pe_at T.cl_SW T.n_SW_cancelled (pv 2))))) (fun _ _ _ _ _ => (pv 1))) (pss_cons (ps_for PassesOwn.never rfl (pi_list (pv 3)) (pg_name (i := 1) sc_41.nd rfl (Or.inl rfl) (Or.inl rfl)) (pss_cons (ps_sA (i := 2) sc_41.nd rfl (pe_ix ix_list (pe_at T.cl_Panel T.n_Panel_warnings (pv 0)) (pv 1) (fun _ _ => rfl))) (pss_one (ps_at T.cl_SW T.n_SW_cancelled (pv 2) pe_bl)))) (pss_cons (ps_expr (pe_call (ok_16 T) (hr.mono (by decide)) rfl T.mg_16 T.F_16.kp T.b_16 .nil pass0 (pa_cons (pv 0) (pa_cons pe_dnewK pa_nil)))) (pss_cons (ps_expr (pe_call (ok_1 T) (hr.mono (by decide)) rfl T.mg_1 T.F_1.kp T.b_1 .nil pass0 (pa_cons (pv 0) (pa_cons (pe_cst rfl T.c_CALLED_BACK) (pa_cons (pv 3) pa_nil))))) (pss_one (ps_ret (pe_lst (pa_cons (pe_callB call_len_seq rfl T.no_len bt_len (pa_cons (pv 3) pa_nil)) pa_nil)))))))), ?_⟩
 have hbig : (1001 : Nat) ≤ sizeLine := by decide
 have hP := hG.at_
 obtain ⟨dp, hp1⟩ := hP.obj
 refine ⟨_, rfl, _, _, _, _, rfl, hp1, rfl, _, _, rfl, SqL.of hP.war, ?_⟩
 intro q hq
 have nqo : q ∉ A.own := not_own_none hP hq
 have hls := hP.ls
 have hfew := hG.wf.few
 have up : ∀ (i : Nat) x, s.stands[i]? = some x → i < s.told.length → ((List.range (i + 1)).filter fun j => (standOf s j).cancelled) = ((List.range i).filter fun j => (standOf s j).cancelled) ++ if x.cancelled = true then [i] else [] := fun i x hx hi => by
  rw [List.range_succ, List.filter_append]
  congr 1
  rw [List.filter_cons, standOf_at hx]
  rfl
 refine lc_enum (K := K) (a := A.lw) (xs := A.as.map V.ref) (i1 := 1) (i2 := 2) (fun i H' => Same H H' ∧ H' q = some (.lst (((List.range i).filter fun j => (standOf s j).cancelled).map vN)))
  ⟨Same.new hq, upd_same⟩ (fun i H' _ ⟨sm, _⟩ => SqL.of (sm _ _ hP.war)) ?_ ?_
 ·rintro i y H' T' hi ⟨sm, hq'⟩ hT'
  obtain ⟨a, ha, rfl⟩ := map_at hi
  have s2 : Same H (upd H' T' (.tup [.int (i : Nat), .ref a])) := sm.trans (Same.new hT')
  have hq2 : upd H' T' (.tup [.int (i : Nat), .ref a]) q = some (.lst (((List.range i).filter fun j => (standOf s j).cancelled).map vN)) := Same.new hT' _ _ hq'
  generalize upd H' T' (.tup [.int (i : Nat), .ref a]) = H2 at s2 hq2
  obtain ⟨w, x, r, hw, hx, ⟨dx, hwa⟩, hr'⟩ := (hP.same s2).of ha
  have hi' : i < s.told.length := (List.getElem?_eq_some_iff.mp hw).1
  have hup := up i x hx hi'
  refine ⟨rfl, _, rfl, _, _, _, _, rfl, hwa, rfl, _, rfl, ?_⟩
  cases hc : x.cancelled with
  | false =>
   rw [hc] at hup
   refine iteF ⟨s2, ?_⟩
   rw [hup]
   simpa using hq2
  | true =>
   rw [hc] at hup
   refine iteT ⟨_, rfl, _, hq2, ?_, fun c o e => ?_, ?_⟩
   ·rw [List.length_map]
    have h2 := List.length_filter_le (fun j => (standOf s j).cancelled) (List.range i)
    rw [List.length_range] at h2
    omega
   ·rw [upd_ne (ne_of_none e hq)]
    exact s2 c o e
   ·rw [upd_same, hup, List.map_append]
    rfl
 ·rintro H1 ⟨s1, hq1⟩
  rw [List.length_map, hP.la] at hq1
  have hq1 : H1 q = some (.lst ((cancelledOnes s).map vN)) := hq1
  have hlt : ∀ i ∈ cancelledOnes s, i < s.told.length := fun i hi => List.mem_range.mp (List.mem_filter.mp hi).1
  have hle : (cancelledOnes s).length ≤ s.told.length := by
   unfold cancelledOnes
   refine Nat.le_trans (List.length_filter_le _ _) ?_
   rw [List.length_range]
   exact Nat.le_refl _
  refine ⟨_, rfl, q, rfl, ⟨_, SqL.of hq1⟩, for_list (K := K) (a := q) (xs := (cancelledOnes s).map vN) (fun i σ H' => ∃ v1 v2 : Option V, σ = [some (.ref A.p), v1, v2, some (.ref q)] ∧ PanelAt d H' A (each unc s ((cancelledOnes s).take i)) ∧ Kp A.own H1 H')
   ⟨none, none, rfl, hP.same s1, Kp.refl _ _⟩ (fun i σ H' _ ⟨_, _, _, _, kp⟩ => SqL.of (kp _ _ hq1 nqo)) ?_ ?_⟩
  ·rintro i y σ H' hi ⟨v1, v2, rfl, hP', kp⟩
   obtain ⟨n, hn, rfl⟩ := map_at hi
   have hnl := hlt n (List.mem_of_getElem? hn)
   obtain ⟨dp', hp'⟩ := hP'.obj
   obtain ⟨a, w, x, r, ha, hw, hx, ⟨dx, hwa⟩, hr'⟩ := hP'.get (i := n) (by rw [each_told]; exact hnl)
   refine ⟨_, rfl, _, _, _, _, rfl, hp', rfl, _, rfl, _, _, _, _, rfl, rfl, SqL.of hP'.war, at_map ha, ?_⟩
   refine ⟨_, rfl, _, _, _, rfl, hwa, (by show 17 < 1000; decide), ?_⟩
   have e1 : putF "cancelled" (V.bl false) (wF w x r.1 r.2.1 r.2.2) = wF w (unc x) r.1 r.2.1 r.2.2 := rfl
   refine ⟨_, _, rfl, ?_, kp.trans (Kp.one.sub (own_a ha))⟩
   rw [take_snoc hn, each_snoc, standOf_at hx]
   exact hP'.setW (y := unc x) ha hw hr' (WA.upd e1) Kp.one
  ·rintro σ H2 ⟨v1, v2, rfl, hP2, kp2⟩
   rw [List.length_map, List.take_length] at hP2
   have hq2 := kp2 _ _ hq1 nqo
   have hee := each_eq unc (cancelledOnes s) s
   have hlog : (each unc s (cancelledOnes s)).log.length ≤ 200 := by
    rw [hee]
    exact hG.wf.log
   have hsh : Short (each unc s (cancelledOnes s)) := by
    unfold Short
    rw [each_told]
    exact hG.short
   refine ⟨_, rfl, fun c hc => ⟨A, each unc s (cancelledOnes s), c, noD, rfl, ⟨hP2.same (Same.new hc), by rw [each_told]; exact hfew, hsh⟩, hlog, empty_dict upd_same, fun H3 hP3 kp3 => ?_⟩⟩
   have kp3' := (kp2.trans (Kp.of_same (Same.new hc))).trans kp3
   have hwf := hG.wf.recall
   have hnow : (pyMark noD (each unc s (cancelledOnes s))).now = s.now := by
    rw [pyMark_now, hee]
   refine ⟨_, rfl, _, rfl, A, pyMark noD (each unc s (cancelledOnes s)), 6, q, cancelledOnes s, rfl, hP3, kp3' _ _ hq1 nqo, nqo, hwf.log, fun H4 hP4 kp4 => ?_⟩
   have kp4' := kp3'.trans (kp4.sub (own_pg A))
   refine ⟨_, rfl, _, _, rfl, .inl (SqL.of (kp4' _ _ hq1 nqo)), one_line, fun p hp => ?_⟩
   have e : Vbavag.recallCall s = (noted (pyMark noD (each unc s (cancelledOnes s))) (evs (pyMark noD (each unc s (cancelledOnes s))) 6 (cancelledOnes s)), [((cancelledOnes s).length : Int)]) := by
    unfold Vbavag.recallCall
    show (noted (Vbavag.settled s _) ((cancelledOnes s).map _), _) = _
    rw [recall_settled hG.wf]
    unfold evs
    rw [hnow]
    rfl
   rw [e] at k
   exact k.fin' ⟨⟨hP4, noted_Wf hwf _, hsh.of ((noted_told _ _).trans (pyMark_told _ _))⟩, ((hG.tame.recall hls).pyMark (by rw [each_told, each_len]; exact hls)).noted _⟩ ((Kp.of_same s1).trans kp4') (by rw [List.length_map]; rfl) hp
end
theorem PanelAt.setCa {d : Ad} {H H' : Hp} {A : Pl} {s : Panel} (h : PanelAt d H A s) {on : List Nat} (e : H' A.lc = some (.lst ((List.range 32).map fun c => .bl (Vbavag.has on c)))) (k : Kp [A.lc] H H') : PanelAt d H' A { s with on := on } := by
 have nd := h.nd
 simp only [Pl.own, List.nodup_cons] at nd
 have kk : ∀ b o, H b = some o → b ≠ A.lc → H' b = some o := fun b o e q => k b o e (by simpa using q)
 have nro : ∀ b ∈ A.ro, b ≠ A.lc := fun b hb q => h.ap A.lc (by simp [Pl.own]) (by rw [← q]; exact hb)
 obtain ⟨dq, h0⟩ := h.obj
 refine ⟨⟨dq, kk _ _ h0 (fun q => nd.1 (by rw [q]; simp))⟩, e, kk _ _ h.war (fun q => nd.2.1 (by rw [← q]; simp)), ?_, h.la, h.ls, fun j b w' x' a1 a2 a3 => ?_, h.nd, h.ap⟩
 ·obtain ⟨ts, q1, q2, q3⟩ := h.log.ex
  exact ⟨ts, kk _ _ q1 (fun q => nd.2.1 (by rw [← q]; simp)), q2, fun j t v b1 b2 => kk _ _ (q3 j t v b1 b2) (ne_of (q3 j t v b1 b2) h.cau (by intro z; cases z))⟩
 ·exact (h.at_ j b w' x' a1 a2 a3).kp k (by have := (h.ne_p a1).2.1; simpa using fun q => this q.symm) fun c hc => by simpa using nro c hc
theorem causes_set {on : List Nat} {c : Nat} {v : Bool} (hc : c < 32) : ((List.range 32).map fun c => V.bl (Vbavag.has on c)).set c (.bl v) = (List.range 32).map fun e => V.bl (Vbavag.has (Vbavag.setCause on c v) e) := by
 refine List.ext_getElem? fun j => ?_
 by_cases hj : j < 32
 ·rw [set_get (by rw [List.length_map, List.length_range]; exact hc), List.getElem?_map, List.getElem?_map, List.getElem?_range hj]
  show (if c = j then some (V.bl v) else some (V.bl (Vbavag.has on j))) = some (V.bl (Vbavag.has (Vbavag.setCause on c v) j))
  rw [setCause_has hj]
  by_cases e : c = j
  ·rw [if_pos e, if_pos e.symm]
  ·rw [if_neg e, if_neg (fun q => e q.symm)]
 ·rw [List.getElem?_eq_none (by simp; omega), List.getElem?_eq_none (by simp; omega)]
theorem rng2 {K : PySem.W.Frag} {H : Hp} {b r0 r1 : Addr} {p0 p1 : Int × Int} (h : KTup K b [.ref r0, .ref r1]) (h0 : KTup K r0 [.int p0.1, .int p0.2]) (h1 : KTup K r1 [.int p1.1, .int p1.2]) : Ranges K H b [p0, p1] := by
 refine ⟨[r0, r1], h.sq, rfl, fun i r p e1 e2 => ?_⟩
 match i, e1, e2 with
 | 0, e1, e2 =>
  obtain rfl := Option.some.inj e1
  obtain rfl := Option.some.inj e2
  exact h0
 | 1, e1, e2 =>
  obtain rfl := Option.some.inj e1
  obtain rfl := Option.some.inj e2
  exact h1
 | i + 2, e1, e2 => exact absurd e1 (by simp)
def causeCall (s : Panel) (c b : Int) : Panel × List Int := Vbavag.step s (.cause c b)
def phaseCall (s : Panel) (p : Int) : Panel × List Int := Vbavag.step s (.phase p)
def sp_cause (d : Ad) : Sp := fun vs H Q _ => ∃ (A : Pl) (s : Panel) (n b : Int), vs = [.ref A.p, .int n, .int b] ∧ Good d H A s ∧ Fin9 d H A (causeCall s n b) Q
def sp_numC (d : Ad) (f : Panel → Int → Panel × List Int) : Sp := fun vs H Q _ => ∃ (A : Pl) (s : Panel) (n : Int), vs = [.ref A.p, .int n] ∧ Good d H A s ∧ Fin9 d H A (f s n) Q
theorem inR_nat {n lo hi : Int} (h : Vbavag.inR n lo hi = true) : lo ≤ n ∧ n ≤ hi := by
 unfold Vbavag.inR at h
 simp only [Bool.and_eq_true, decide_eq_true_eq] at h
 exact h
section
variable {P : Program} {w : World} {K : PySem.W.Frag} {mg : Str → Option Value} {base : Heap} {d : Ad}
theorem ok_35 (T : Tx K mg d) : FnOk P w K mg base CX0 3 d.f_35 d.d_35 ["panel", "cause", "on"] (sp_cause d) := by
 refine T.F_35.ok sc_35 (fun vs H Q E h => ?_) (fun cdv Ar outer s0 H vs Q E hr h => ?_)
 ·obtain ⟨A, s, n, b, rfl, hG, k⟩ := h
  rfl
 obtain ⟨A, s, n, b, rfl, hG, k⟩ := h
 refine ⟨_, (pss_cons (ps_if (pt_not (pt_val (pe_call (ok_3 T) (hr.mono (by decide)) rfl T.mg_3 T.F_3.kp T.b_3 .nil pass0 (pa_cons (pe_lst (pa_cons (pv 1) (pa_cons (pv 2) pa_nil))) (pa_cons (pe_glob (v := .ref d.t_CAUSE_RANGES) rfl T.mg_CAUSE_RANGES rfl) pa_nil))))) (pss_one (ps_ret (pe_lst (pa_cons (pe_cst rfl T.c_OUT_OF_RANGE) pa_nil)))) pss_nil) (pss_cons (ps_asg (pe_cmpR op_eq (pv 2) pe_int (nomark _)) (pg_sub (pe_at T.cl_Panel T.n_Panel_causes (pv 0)) (pv 1) set_list)) (pss_one (ps_ret (pe_lst (pa_cons pe_int pa_nil)))))), ?_⟩
 refine ⟨_, rfl, _, rfl, (by show 2 ≤ sizeLine; decide), fun l hl => ⟨l, d.t_CAUSE_RANGES, [n, b], [(0, 31), (0, 1)], rfl, SqL.of upd_same, rng2 T.k_CAUSE_RANGES T.k_CAUSE_RANGES_0 T.k_CAUSE_RANGES_1, rfl, (by show 2 ≤ 1000; decide), fun H1 s1 => ⟨_, rfl, ?_⟩⟩⟩
 have sA : Same H H1 := (Same.new hl).trans s1
 have hG1 := hG.same sA
 have ew : within [n, b] [(0, 31), (0, 1)] = (Vbavag.inR n 0 31 && Vbavag.inR b 0 1) := by
  show (Vbavag.inR n 0 31 && (Vbavag.inR b 0 1 && true)) = _
  rw [Bool.and_true]
 rw [ew]
 cases h1 : (Vbavag.inR n 0 31 && Vbavag.inR b 0 1) with
 | false =>
  have e : causeCall s n b = (s, [-1]) := by
   unfold causeCall Vbavag.step
   dsimp only
   rw [if_pos h1]
   rfl
  rw [e] at k
  exact iteT ⟨one_line, fun p hp => k.fin' hG1 (Kp.of_same sA) rfl hp⟩
 | true =>
  have h2 := Bool.and_eq_true_iff.mp h1
  obtain ⟨hn0, hn1⟩ := inR_nat h2.1
  obtain ⟨i, rfl⟩ : ∃ i : Nat, n = (i : Int) := ⟨n.toNat, by omega⟩
  have e : causeCall s (i : Int) b = ({ s with on := Vbavag.setCause s.on i (decide (b = 1)) }, [0]) := by
   unfold causeCall Vbavag.step
   dsimp only
   rw [if_neg (by rw [h1]; decide)]
   rfl
  rw [e] at k
  obtain ⟨dp, hp1⟩ := hG1.at_.obj
  have hi : i < 32 := by omega
  refine iteF ⟨_, rfl, rfl, _, rfl, _, _, _, _, rfl, hp1, rfl, _, rfl, _, _, _, i, rfl, rfl, hG1.at_.cau, ?_, ?_⟩
  ·unfold ixN
   rw [if_pos (by omega), if_pos (by rw [List.length_map, List.length_range]; omega)]
   simp
  ·rw [dec_int, causes_set hi]
   have kp2 : Kp [A.lc] H1 (upd H1 A.lc (.lst ((List.range 32).map fun e => V.bl (Vbavag.has (Vbavag.setCause s.on i (decide (b = 1))) e)))) := Kp.one
   have hP2 := hG1.at_.setCa (on := Vbavag.setCause s.on i (decide (b = 1))) upd_same kp2
   refine ⟨one_line, fun p hp => k.fin' ⟨⟨hP2, hG.wf.causes i _, hG.short⟩, hG.tame⟩ ((Kp.of_same sA).trans (kp2.sub fun b hb => ?_)) rfl hp⟩
   rw [List.mem_singleton.mp hb]
   simp [Pl.own]
theorem ok_36 (T : Tx K mg d) : FnOk P w K mg base CX0 4 d.f_36 d.d_36 ["panel", "phase"] (sp_numC d phaseCall) := by
 refine T.F_36.ok sc_36 (fun vs H Q E h => ?_) (fun cdv Ar outer s0 H vs Q E hr h => ?_)
 ·obtain ⟨A, s, n, rfl, hG, k⟩ := h
  rfl
 obtain ⟨A, s, n, rfl, hG, k⟩ := h
 refine ⟨_, (pss_cons (ps_if (pt_not (pt_val (pe_call (ok_2 T) (hr.mono (by decide)) rfl T.mg_2 T.F_2.kp T.b_2 .nil pass0 (pa_cons (pv 1) (pa_cons pe_int (pa_cons (pe_cst rfl T.c_HIGHEST_PHASE) pa_nil)))))) (pss_one (ps_ret (pe_lst (pa_cons (pe_cst rfl T.c_OUT_OF_RANGE) pa_nil)))) pss_nil) (pss_cons (ps_at T.cl_Panel T.n_Panel_phase (pv 0) (pv 1)) (pss_cons (ps_expr (pe_call (ok_16 T) (hr.mono (by decide)) rfl T.mg_16 T.F_16.kp T.b_16 .nil pass0 (pa_cons (pv 0) (pa_cons pe_dnewK pa_nil)))) (pss_one (ps_ret (pe_lst (pa_cons pe_int pa_nil))))))), ?_⟩
 refine ⟨_, rfl, n, 0, 9, rfl, _, rfl, ?_⟩
 cases h1 : Vbavag.inR n 0 9 with
 | false =>
  have e : phaseCall s n = (s, [-1]) := by
   unfold phaseCall Vbavag.step
   dsimp only
   rw [if_pos h1]
   rfl
  rw [e] at k
  exact iteT ⟨one_line, fun p hp => k.fin' hG (Kp.refl _ _) rfl hp⟩
 | true =>
  obtain ⟨hn0, hn1⟩ := inR_nat h1
  obtain ⟨i, rfl⟩ : ∃ i : Nat, n = (i : Int) := ⟨n.toNat, by omega⟩
  have e : phaseCall s (i : Int) = (pyMark noD { s with phase := i }, [0]) := by
   unfold phaseCall Vbavag.step
   dsimp only
   rw [if_neg (by rw [h1]; decide)]
   show (Vbavag.settled { s with phase := i } s.stands, [0]) = _
   rw [phase_settled hG.wf]
  rw [e] at k
  obtain ⟨dp, hp1⟩ := hG.at_.obj
  refine iteF ⟨_, rfl, _, rfl, _, _, _, rfl, hp1, (by show 6 < 1000; decide), ?_⟩
  have hP1 : PanelAt d (upd H A.p (.ins d.C_Panel dp (putF "phase" (V.int (i : Int)) (pF s A.lc A.lw A.lg)))) A { s with phase := i } :=
   hG.at_.setP (dp := dp) (by rw [upd_same]; rfl) Kp.one rfl rfl rfl rfl
  have kp1 : Kp A.own H (upd H A.p (.ins d.C_Panel dp (putF "phase" (V.int (i : Int)) (pF s A.lc A.lw A.lg)))) := Kp.one.sub fun b hb => by
   rw [List.mem_singleton.mp hb]
   simp [Pl.own]
  generalize upd H A.p (.ins d.C_Panel dp (putF "phase" (V.int (i : Int)) (pF s A.lc A.lw A.lg))) = H1 at hP1 kp1
  refine ⟨_, rfl, fun c hc => ⟨A, { s with phase := i }, c, noD, rfl, ⟨hP1.same (Same.new hc), hG.wf.few, hG.short⟩, hG.wf.log, ⟨[], upd_same, fun i _ => rfl⟩, fun H3 hP3 kp3 => ⟨one_line, fun p hp => k.fin' ⟨⟨hP3, hG.wf.phase i, hG.short.of (pyMark_told _ _)⟩, Tame.pyMark (s := { s with phase := i }) hG.tame hG.wf.len⟩ ((kp1.trans (Kp.of_same (Same.new hc))).trans kp3) rfl hp⟩⟩⟩
theorem nums_len {d : Ad} {H : Hp} {A : Pl} {s : Panel} (h : PanelAt d H A s) : (nums (shown s)).length = (listed s).length := by
 rw [listed_length, shownOnes_nums h]
theorem ok_37 (T : Tx K mg d) : FnOk P w K mg base CX0 7 d.f_37 d.d_37 ["panel", "seconds"] (sp_numC d Vbavag.tickCall) := by
 refine T.F_37.ok sc_37 (fun vs H Q E h => ?_) (fun cdv Ar outer s0 H vs Q E hr h => ?_)
 ·obtain ⟨A, s, n, rfl, hG, k⟩ := h
  rfl
 obtain ⟨A, s, n, rfl, hG, k⟩ := h
 refine ⟨_, (pss_cons (ps_sA (i := 2) sc_37.nd rfl (pe_call (ok_9 T) (hr.mono (by decide)) rfl T.mg_9 T.F_9.kp T.b_9 .nil pass0 (pa_cons (pv 0) (pa_cons (pv 1) pa_nil)))) (pss_cons (ps_if (pt_cmpR op_ne (pv 2) pe_int (nomark _)) (pss_one (ps_ret (pe_lst (pa_cons (pv 2) pa_nil)))) pss_nil) (pss_cons (ps_expr (pe_call (ok_31 T) (hr.mono (by decide)) rfl T.mg_31 T.F_31.kp T.b_31 .nil pass0 (pa_cons (pv 0) (pa_cons (pv 1) pa_nil)))) (pss_one (ps_ret (pe_lst (pa_cons (pe_at T.cl_Panel T.n_Panel_clock (pv 0)) (pa_cons (pe_callB call_len_seq rfl T.no_len bt_len (pa_cons (pe_call (ok_12 T) (hr.mono (by decide)) rfl T.mg_12 T.F_12.kp T.b_12 .nil pass0 (pa_cons (pv 0) pa_nil)) pa_nil)) (pa_cons (pe_call (ok_15 T) (hr.mono (by decide)) rfl T.mg_15 T.F_15.kp T.b_15 .nil pass0 (pa_cons (pv 0) pa_nil)) pa_nil))))))))), ?_⟩
 refine ⟨_, rfl, _, rfl, A, s, n, rfl, hG.at_, ?_⟩
 refine ⟨_, rfl, rfl, _, rfl, ?_⟩
 rw [dec_int]
 unfold Vbavag.tickCall at k
 cases h1 : Vbavag.inR n 1 600 with
 | false =>
  rw [if_pos h1] at k
  have e : refS s n = -1 := by
   unfold refS
   rw [if_pos h1]
  rw [e]
  exact ifT (c := !decide ((-1 : Int) = 0)) (by decide) ⟨_, rfl, one_line, fun p hp => k.fin' hG (Kp.refl _ _) rfl hp⟩
 | true =>
  rw [if_neg (by rw [h1]; decide)] at k
  by_cases h2 : Vbavag.LATE < s.now + n.toNat
  ·rw [if_pos h2] at k
   have e : refS s n = -8 := by
    unfold refS
    rw [if_neg (by rw [h1]; decide), if_pos h2]
   rw [e]
   exact ifT (c := !decide ((-8 : Int) = 0)) (by decide) ⟨_, rfl, one_line, fun p hp => k.fin' hG (Kp.refl _ _) rfl hp⟩
  ·rw [if_neg h2] at k
   have e : refS s n = 0 := by
    unfold refS
    rw [if_neg (by rw [h1]; decide), if_neg h2]
   rw [e]
   obtain ⟨hn0, hn1⟩ := inR_nat h1
   obtain ⟨m, rfl⟩ : ∃ m : Nat, n = (m : Int) := ⟨n.toNat, by omega⟩
   refine ifF (c := !decide ((0 : Int) = 0)) (by decide) ⟨_, rfl, _, rfl, A, s, m, rfl, hG.toOk, hG.tame, fun H1 hP1 kp1 => ?_⟩
   rw [Int.toNat_natCast] at k
   have hG1 : Good d H1 A (seconds m s) := ⟨⟨hP1, Wf.seconds m hG.wf, hG.short.seconds hG.wf m⟩, Tame.seconds hG.wf m hG.tame⟩
   obtain ⟨dp, hp1⟩ := hP1.obj
   refine ⟨_, rfl, _, _, _, _, rfl, hp1, rfl, _, rfl, A, _, rfl, hG1.rd, fun H2 q s2 nq hq => ⟨_, _, rfl, .inl (SqL.of hq), _, rfl, A, _, rfl, (hG1.same s2).rd, fun H3 s3 => ⟨(by show 3 ≤ sizeLine; decide), fun p hp => ?_⟩⟩⟩
   refine k.fin' (hG1.same (s2.trans s3)) (kp1.trans (Kp.of_same (s2.trans s3))) ?_ hp
   rw [List.length_map, nums_len hP1]
   rfl
end
def Pl.plus (A : Pl) (a : Addr) (r : Addr × Addr × Addr) : Pl := { A with as := A.as ++ [a], ro := r.1 :: r.2.1 :: r.2.2 :: A.ro.filter fun b => b != a }
structure NewAt (d : Ad) (H : Hp) (A : Pl) (a : Addr) (w : Told) (r : Addr × Addr × Addr) : Prop where
 obj : WA d.C_SW H a w newStand r
 rows : Rows [r.1, r.2.1, r.2.2] H w r
 n1 : r.1 ∉ a :: A.own
 n2 : r.2.1 ∉ a :: A.own
 n3 : r.2.2 ∉ a :: A.own
 na : a ∉ A.own
theorem WarnAt.more {C : Addr} {ro ro' : List Addr} {H : Hp} {a : Addr} {w : Told} {x : Stand} (h : WarnAt C ro H a w x) (e : ∀ b xs, H b = some (.lst xs) → b ∈ ro → b ∈ ro') : WarnAt C ro' H a w x := by
 obtain ⟨dx, lp, lh, lc, h1, h2, h3, h4, r1, r2, r3⟩ := h.ex
 exact ⟨dx, lp, lh, lc, h1, h2, h3, h4, e _ _ h2 r1, e _ _ h3 r2, e _ _ h4 r3⟩
theorem PanelAt.plus {d : Ad} {H H' : Hp} {A : Pl} {s : Panel} {a : Addr} {w : Told} {r : Addr × Addr × Addr} (h : PanelAt d H A s) (n : NewAt d H A a w r) (e : H' A.lw = some (.lst ((A.as ++ [a]).map V.ref))) (k : Kp [A.lw] H H') : PanelAt d H' (A.plus a r) (added s w) := by
 have nd := h.nd
 have nd0 := h.nd
 simp only [Pl.own, List.nodup_cons] at nd
 have kk : ∀ b o, H b = some o → b ≠ A.lw → H' b = some o := fun b o e q => k b o e (by simpa using q)
 have mlw : A.lw ∈ A.own := by simp [Pl.own]
 have nro : ∀ b ∈ A.ro, b ≠ A.lw := fun b hb q => h.ap A.lw mlw (by rw [← q]; exact hb)
 obtain ⟨dq, h0⟩ := h.obj
 have n1 : r.1 ≠ A.lw := fun q => n.n1 (by rw [q]; exact List.mem_cons_of_mem _ mlw)
 have n2 : r.2.1 ≠ A.lw := fun q => n.n2 (by rw [q]; exact List.mem_cons_of_mem _ mlw)
 have n3 : r.2.2 ≠ A.lw := fun q => n.n3 (by rw [q]; exact List.mem_cons_of_mem _ mlw)
 have na : a ≠ A.lw := fun q => n.na (by rw [q]; exact mlw)
 have m1 : A.p ≠ A.lw := fun q => nd.1 (by rw [q]; simp)
 have m2 : A.lc ≠ A.lw := fun q => nd.2.1 (by rw [q]; simp)
 have m3 : A.lg ≠ A.lw := fun q => nd.2.2.1 (by rw [← q]; simp)
 obtain ⟨dxa, hoa⟩ := n.obj
 refine ⟨⟨dq, kk _ _ h0 m1⟩, kk _ _ h.cau m2, e, ?_, ?_, ?_, fun j b w' x' a1 a2 a3 => ?_, ?_, ?_⟩
 ·obtain ⟨ts, q1, q2, q3⟩ := h.log.ex
  exact ⟨ts, kk _ _ q1 m3, q2, fun j t v b1 b2 => kk _ _ (q3 j t v b1 b2) (ne_of (q3 j t v b1 b2) h.war (by intro z; cases z))⟩
 ·show (A.as ++ [a]).length = (s.told ++ [w]).length
  rw [List.length_append, List.length_append, h.la]
  rfl
 ·exact added_len h.ls
 ·have a1 : (A.as ++ [a])[j]? = some b := a1
  have a2 : (s.told ++ [w])[j]? = some w' := a2
  have a3 : (s.stands ++ [newStand])[j]? = some x' := a3
  have hls := h.ls
  have hla := h.la
  by_cases hj : j < s.told.length
  ·rw [List.getElem?_append_left (by omega)] at a1 a2 a3
   exact ((h.at_ j b w' x' a1 a2 a3).kp k (by have := (h.ne_p a1).2.2.1; simpa using fun q => this q.symm) fun c hc => by simpa using nro c hc).more fun c xs hc hm => by
    have : c ≠ a := ne_of hc (kk _ _ hoa na) (by intro z; cases z)
    simp [Pl.plus, hm, this]
  ·have hj2 : j = s.told.length := by
    have := (List.getElem?_eq_some_iff.mp a2).1
    rw [List.length_append] at this
    have : j < s.told.length + 1 := this
    omega
   subst hj2
   rw [List.getElem?_append_right (Nat.le_refl _), Nat.sub_self] at a2
   rw [List.getElem?_append_right (by omega), hla, Nat.sub_self] at a1
   rw [List.getElem?_append_right (by omega), hls, Nat.sub_self] at a3
   obtain rfl : a = b := Option.some.inj a1
   obtain rfl : w = w' := Option.some.inj a2
   obtain rfl : newStand = x' := Option.some.inj a3
   obtain ⟨dx, ho⟩ := n.obj
   exact WarnAt.close (r := r) ⟨dx, kk _ _ ho na⟩ ⟨kk _ _ n.rows.p n1, kk _ _ n.rows.h n2, kk _ _ n.rows.c n3, by simp [Pl.plus], by simp [Pl.plus], by simp [Pl.plus]⟩
 ·show (A.p :: A.lc :: A.lw :: A.lg :: (A.as ++ [a])).Nodup
  have e2 : A.p :: A.lc :: A.lw :: A.lg :: (A.as ++ [a]) = A.own ++ [a] := rfl
  rw [e2]
  exact nd_snoc nd0 n.na
 ·intro b hb
  have hb : b ∈ A.own ++ [a] := hb
  show b ∉ r.1 :: r.2.1 :: r.2.2 :: A.ro.filter fun b => b != a
  have hb2 : b ∈ a :: A.own := by
   rcases List.mem_append.mp hb with q | q
   ·exact List.mem_cons_of_mem _ q
   ·rw [List.mem_singleton.mp q]
    exact List.mem_cons_self ..
  simp only [List.mem_cons, not_or]
  refine ⟨fun q => n.n1 (by rw [← q]; exact hb2), fun q => n.n2 (by rw [← q]; exact hb2), fun q => n.n3 (by rw [← q]; exact hb2), fun q => ?_⟩
  have q := List.mem_filter.mp q
  rcases List.mem_append.mp hb with z | z
  ·exact h.ap b z q.1
  ·rw [List.mem_singleton.mp z] at q
   simp at q
def sp_addp (d : Ad) : Sp := fun vs H Q _ => ∃ (A : Pl) (s : Panel) (a : Addr) (w : Told) (r : Addr × Addr × Addr), vs = [.ref A.p, .ref a] ∧ Good d H A s ∧ NewAt d H A a w r ∧
 ∀ H' p, PanelAt d H' (A.plus a r) (added s w) → H' p = some (.lst [vN s.told.length]) → H p = none → Kp A.own H H' → Q (.ref p) H'
def Five (H : Hp) (a : Addr) (c r e f h : Int) : Prop := H a = some (.lst [.int c, .int r, .int e, .int f, .int h])
def sp_addw (d : Ad) : Sp := fun vs H Q _ => ∃ (A : Pl) (s : Panel) (ln lh lc : Addr) (c r e f h : Int) (l m : List Int), vs = [.ref A.p, .ref ln, .ref lh, .ref lc] ∧ Good d H A s ∧ Five H ln c r e f h ∧ H lh = some (.lst (l.map V.int)) ∧ H lc = some (.lst (m.map V.int)) ∧ lh ∉ A.own ∧ lc ∉ A.own ∧ l.length ≤ 32 ∧ m.length ≤ 32 ∧
 Fin9B d H A [lh, lc] (Vbavag.warningCall s c r e f h l m) Q
def sp_addc (d : Ad) : Sp := fun vs H Q _ => ∃ (A : Pl) (s : Panel) (ln lp lh lc : Addr) (c r e f h : Int) (k l m : List Int), vs = [.ref A.p, .ref ln, .ref lp, .ref lh, .ref lc] ∧ Good d H A s ∧ Five H ln c r e f h ∧ H lp = some (.lst (k.map V.int)) ∧ H lh = some (.lst (l.map V.int)) ∧ H lc = some (.lst (m.map V.int)) ∧ lp ∉ A.own ∧ lh ∉ A.own ∧ lc ∉ A.own ∧ k.length ≤ 32 ∧ l.length ≤ 32 ∧ m.length ≤ 32 ∧
 Fin9B d H A [lp, lh, lc] (Vbavag.collectorCall s c r e f h k l m) Q
theorem rng5 {K : PySem.W.Frag} {H : Hp} {b r0 r1 r2 r3 r4 : Addr} {p0 p1 p2 p3 p4 : Int × Int} (h : KTup K b [.ref r0, .ref r1, .ref r2, .ref r3, .ref r4]) (h0 : KTup K r0 [.int p0.1, .int p0.2]) (h1 : KTup K r1 [.int p1.1, .int p1.2]) (h2 : KTup K r2 [.int p2.1, .int p2.2])
  (h3 : KTup K r3 [.int p3.1, .int p3.2]) (h4 : KTup K r4 [.int p4.1, .int p4.2]) : Ranges K H b [p0, p1, p2, p3, p4] := by
 refine ⟨[r0, r1, r2, r3, r4], h.sq, rfl, fun i r p e1 e2 => ?_⟩
 match i, e1, e2 with
 | 0, e1, e2 =>
  obtain rfl := Option.some.inj e1
  obtain rfl := Option.some.inj e2
  exact h0
 | 1, e1, e2 =>
  obtain rfl := Option.some.inj e1
  obtain rfl := Option.some.inj e2
  exact h1
 | 2, e1, e2 =>
  obtain rfl := Option.some.inj e1
  obtain rfl := Option.some.inj e2
  exact h2
 | 3, e1, e2 =>
  obtain rfl := Option.some.inj e1
  obtain rfl := Option.some.inj e2
  exact h3
 | 4, e1, e2 =>
  obtain rfl := Option.some.inj e1
  obtain rfl := Option.some.inj e2
  exact h4
 | i + 5, e1, e2 => exact absurd e1 (by simp)
theorem rises_ge {hi : Int} : ∀ {l : List Int} {lo : Int}, risesFrom lo hi l = true → ∀ x ∈ l, lo ≤ x ∧ x ≤ hi
 | [], _, _, x, hx => absurd hx (by simp)
 | a :: r, lo, h, x, hx => by
  have h : (decide (lo ≤ a) && decide (a ≤ hi) && risesFrom (a + 1) hi r) = true := h
  simp only [Bool.and_eq_true, decide_eq_true_eq] at h
  rcases List.mem_cons.mp hx with q | q
  ·rw [q]
   exact h.1
  ·have := rises_ge h.2 x q
   omega
theorem rises_up {hi : Int} : ∀ {l : List Int} {lo : Int}, 0 ≤ lo → risesFrom lo hi l = true → (Vbavag.nats l).Pairwise (· < ·)
 | [], _, _, _ => List.Pairwise.nil
 | a :: r, lo, h0, h => by
  have h : (decide (lo ≤ a) && decide (a ≤ hi) && risesFrom (a + 1) hi r) = true := h
  simp only [Bool.and_eq_true, decide_eq_true_eq] at h
  refine List.pairwise_cons.mpr ⟨fun b hb => ?_, rises_up (lo := a + 1) (by omega) h.2⟩
  obtain ⟨x, hx, rfl⟩ := List.mem_map.mp (show b ∈ r.map Int.toNat from hb)
  have := rises_ge h.2 x hx
  omega
theorem nats_map {l : List Int} (h : ∀ x ∈ l, 0 ≤ x) : l.map V.int = (Vbavag.nats l).map vN := by
 unfold Vbavag.nats
 rw [List.map_map]
 refine List.map_congr_left fun x hx => ?_
 show V.int x = V.int ((x.toNat : Nat) : Int)
 rw [Int.toNat_of_nonneg (h x hx)]
theorem nats_lt {l : List Int} {n : Nat} (h : ∀ x ∈ l, 0 ≤ x ∧ x ≤ (n : Int) - 1) : ∀ j ∈ Vbavag.nats l, j < n := fun j hj => by
 unfold Vbavag.nats at hj
 obtain ⟨x, hx, rfl⟩ := List.mem_map.mp hj
 have := h x hx
 omega
theorem names_rise (s : Panel) (m : List Int) : Vbavag.namesOk s m = risesFrom 0 ((s.told.length : Int) - 1) m := (rises_iff _ m 0).symm
theorem phases_rise (l : List Int) : Vbavag.phasesOk l = risesFrom 0 9 l := (rises_iff 9 l 0).symm
theorem latch_int {h : Int} (e : Vbavag.inR h 0 1 = true) : V.int h = V.int (b01 (decide (h = 1))) := by
 obtain ⟨h0, h1⟩ := inR_nat e
 have : h = 0 ∨ h = 1 := by omega
 rcases this with q | q <;> subst q <;> rfl
theorem nat_int {n lo hi : Int} (e : Vbavag.inR n lo hi = true) (h : 0 ≤ lo) : V.int n = vN n.toNat := by
 obtain ⟨h0, h1⟩ := inR_nat e
 show V.int n = V.int ((n.toNat : Nat) : Int)
 rw [Int.toNat_of_nonneg (by omega)]
section
variable {P : Program} {w : World} {K : PySem.W.Frag} {mg : Str → Option Value} {base : Heap} {d : Ad}
theorem ok_32 (T : Tx K mg d) : FnOk P w K mg base CX0 1 d.f_32 d.d_32 ["panel", "warning"] (sp_addp d) := by
 refine T.F_32.ok sc_32 (fun vs H Q E h => ?_) (fun cdv Ar outer s0 H vs Q E hr h => ?_)
 ·obtain ⟨A, s, a, w, r, rfl, hG, hN, k⟩ := h
  rfl
 obtain ⟨A, s, a, w, r, rfl, hG, hN, k⟩ := h
 refine ⟨_, (pss_cons (ps_expr (pe_bm PySem.F.plainAttrs_list PySem.F.slot_list_append PySem.F.type_list_append mt_append (pe_at T.cl_Panel T.n_Panel_warnings (pv 0)) (pa_cons (pv 1) pa_nil))) (pss_one (ps_ret (pe_lst (pa_cons (pe_op op_sub (pe_callB call_len_seq rfl T.no_len bt_len (pa_cons (pe_at T.cl_Panel T.n_Panel_warnings (pv 0)) pa_nil)) pe_int) pa_nil))))), ?_⟩
 have hbig : (1001 : Nat) ≤ sizeLine := by decide
 have hP := hG.at_
 obtain ⟨dp, hp⟩ := hP.obj
 have nd := hP.nd
 simp only [Pl.own, List.nodup_cons] at nd
 have npw : A.p ≠ A.lw := fun q => nd.1 (by rw [q]; simp)
 have hfew := hG.wf.few
 have hla := hP.la
 refine ⟨_, rfl, _, _, _, _, rfl, hp, rfl, .inl ⟨rfl, _, SqL.of hP.war⟩, _, rfl, _, _, _, rfl, rfl, hP.war, by rw [List.length_map]; omega, ?_⟩
 have kp1 : Kp [A.lw] H (upd H A.lw (.lst (A.as.map V.ref ++ [V.ref a]))) := Kp.one
 have hP1 := hP.plus hN (H' := upd H A.lw (.lst (A.as.map V.ref ++ [V.ref a]))) (by rw [upd_same, List.map_append]; rfl) kp1
 have hp1 : upd H A.lw (.lst (A.as.map V.ref ++ [V.ref a])) A.p = some (.ins d.C_Panel dp (pF s A.lc A.lw A.lg)) := by
  rw [upd_ne npw]
  exact hp
 refine ⟨_, rfl, _, _, _, _, rfl, hp1, rfl, _, _, rfl, .inl (SqL.of upd_same), _, _, rfl, rfl, one_line, fun p hp' => ?_⟩
 have nHp : H p = none := by
  have q := hp'
  by_cases z : p = A.lw
  ·rw [z, upd_same] at q
   cases q
  ·rw [upd_ne z] at q
   exact q
 refine k _ p (hP1.same (Same.new hp')) ?_ nHp ((kp1.sub fun b hb => ?_).trans (Kp.of_same (Same.new hp')))
 ·rw [upd_same, List.length_append, List.length_map, hla]
  show some (HO.lst [V.int ((((s.told.length + 1 : Nat)) : Int) - 1)]) = some (HO.lst [V.int (s.told.length : Int)])
  have e : (((s.told.length + 1 : Nat)) : Int) - 1 = (s.told.length : Int) := by omega
  rw [e]
 ·rw [List.mem_singleton.mp hb]
  simp [Pl.own]
theorem Fin9B.plus {d : Ad} {H H1 : Hp} {A : Pl} {B : List Addr} {s : Panel} {a : Addr} {w : Told} {r : Addr × Addr × Addr} {Q : VK} (k : Fin9B d H A B (added s w, [(s.told.length : Int)]) Q) (s1 : Same H H1) (hHa : H a = none) (hB : ∀ c ∈ [r.1, r.2.1, r.2.2], H c = none ∨ c ∈ B) (hwf : Wf (added s w)) (hsh : Short (added s w)) (ht : Tame (added s w)) :
  ∀ H' p, PanelAt d H' (A.plus a r) (added s w) → H' p = some (.lst [vN s.told.length]) → H1 p = none → Kp A.own H1 H' → Q (.ref p) H' := by
 intro H' p hP hp np kp
 refine k H' p (A.plus a r) rfl ⟨⟨hP, hwf, hsh⟩, ht⟩ (fun b hb => ?_) (fun b hb => ?_) hp (s1.free np) ((Kp.of_same s1).trans kp)
 rotate_left
 ·have hb : b ∈ r.1 :: r.2.1 :: r.2.2 :: A.ro.filter fun b => b != a := hb
  simp only [List.mem_cons] at hb
  rcases hb with q | q | q | q
  ·exact .inr (hB b (by simp [q]))
  ·exact .inr (hB b (by simp [q]))
  ·exact .inr (hB b (by simp [q]))
  ·exact .inl (List.mem_filter.mp q).1
 have hb : b ∈ A.own ++ [a] := hb
 rcases List.mem_append.mp hb with q | q
 ·exact .inl q
 ·rw [List.mem_singleton.mp q]
  exact .inr hHa
theorem Short.added {s : Panel} (h : Short s) {w : Told} (h1 : w.parts.length ≤ 32) (h2 : w.phases.length ≤ 32) (h3 : w.covers.length ≤ 32) (h4 : w.covers.Pairwise (· < ·)) : Short (added s w) := fun v hv => by
 have hv : v ∈ s.told ++ [w] := hv
 rcases List.mem_append.mp hv with q | q
 ·exact h v q
 ·rw [List.mem_singleton.mp q]
  exact ⟨h1, h2, h3, h4⟩
theorem nats_len (l : List Int) : (Vbavag.nats l).length = l.length := by
 unfold Vbavag.nats
 rw [List.length_map]
theorem ok_33 (T : Tx K mg d) : FnOk P w K mg base CX0 3 d.f_33 d.d_33 ["panel", "numbers", "phases", "covers"] (sp_addw d) := by
 refine T.F_33.ok sc_33 (fun vs H Q E h => ?_) (fun cdv Ar outer s0 H vs Q E hr h => ?_)
 ·obtain ⟨A, s, ln, lh, lc, c, r, e, f, h, l, m, rfl, hG, hn, hh, hc, nh, nc, zl, zm, k⟩ := h
  rfl
 obtain ⟨A, s, ln, lh, lc, c, r, e, f, h, l, m, rfl, hG, hn, hh, hc, nh, nc, zl, zm, k⟩ := h
 refine ⟨_, (pss_cons (ps_if (PW.pt (pw_or (pt_not (pt_val (pe_call (ok_3 T) (hr.mono (by decide)) rfl T.mg_3 T.F_3.kp T.b_3 .nil pass0 (pa_cons (pv 1) (pa_cons (pe_glob (v := .ref d.t_WARNING_RANGES) rfl T.mg_WARNING_RANGES rfl) pa_nil))))) (pw_or1 (pt_not (pt_val (pe_call (ok_5 T) (hr.mono (by decide)) rfl T.mg_5 T.F_5.kp T.b_5 .nil pass0 (pa_cons (pv 2) pa_nil))))))) (pss_one (ps_ret (pe_lst (pa_cons (pe_cst rfl T.c_OUT_OF_RANGE) pa_nil)))) pss_nil) (pss_cons (ps_if (pt_not (pt_val (pe_call (ok_6 T) (hr.mono (by decide)) rfl T.mg_6 T.F_6.kp T.b_6 .nil pass0 (pa_cons (pv 0) (pa_cons (pv 3) pa_nil))))) (pss_one (ps_ret (pe_lst (pa_cons (pe_cst rfl T.c_NO_ROW_OF_WARNINGS) pa_nil)))) pss_nil) (pss_cons (ps_if (pt_val (pe_call (ok_8 T) (hr.mono (by decide)) rfl T.mg_8 T.F_8.kp T.b_8 .nil pass0 (pa_cons (pv 0) pa_nil))) (pss_one (ps_ret (pe_lst (pa_cons (pe_cst rfl T.c_FULL) pa_nil)))) pss_nil) (pss_one (ps_ret (pe_call (ok_32 T) (hr.mono (by decide)) rfl T.mg_32 T.F_32.kp T.b_32 .nil pass0 (pa_cons (pv 0) (pa_cons (pe_make T.mk_SW (ok_17 T) (hr.mono (by decide)) rfl T.mg_SW T.b_17 .nil pass0 (pa_cons (pe_ix ix_list (pv 1) pe_int (fun _ _ => rfl)) (pa_cons pe_int (pa_cons (pe_ix ix_list (pv 1) pe_int (fun _ _ => rfl)) (pa_cons (pe_ix ix_list (pv 1) pe_int (fun _ _ => rfl)) (pa_cons (pe_ix ix_list (pv 1) pe_int (fun _ _ => rfl)) (pa_cons (pe_ix ix_list (pv 1) pe_int (fun _ _ => rfl)) (pa_cons (pe_lst pa_nil) (pa_cons (pv 2) (pa_cons (pv 3) pa_nil)))))))))) pa_nil)))))))), ?_⟩
 refine ⟨_, rfl, ln, d.t_WARNING_RANGES, [c, r, e, f, h], [(0, 31), (1, 3), (0, 3600), (0, 3600), (0, 1)], rfl, SqL.of hn, rng5 T.k_WARNING_RANGES T.k_WARNING_RANGES_0 T.k_WARNING_RANGES_1 T.k_WARNING_RANGES_2 T.k_WARNING_RANGES_3 T.k_WARNING_RANGES_4, rfl, (by show 5 ≤ 1000; decide), fun H1 s1 => ⟨_, rfl, ?_⟩⟩
 have hG1 := hG.same s1
 have ew : within [c, r, e, f, h] [(0, 31), (1, 3), (0, 3600), (0, 3600), (0, 1)] = (Vbavag.inR c 0 31 && Vbavag.timesOk r e f h) := by
  show (Vbavag.inR c 0 31 && (Vbavag.inR r 1 3 && (Vbavag.inR e 0 3600 && (Vbavag.inR f 0 3600 && (Vbavag.inR h 0 1 && true))))) = _
  rw [Bool.and_true]
  rfl
 rw [ew]
 have spec : Vbavag.warningCall s c r e f h l m = if ((Vbavag.inR c 0 31 && Vbavag.timesOk r e f h) && risesFrom 0 9 l) = false then Vbavag.no s 1 else if risesFrom 0 ((s.told.length : Int) - 1) m = false then Vbavag.no s 4 else if 24 ≤ s.told.length then Vbavag.no s 8 else Vbavag.add s ⟨c.toNat, 0, [], r.toNat, e.toNat, f.toNat, decide (h = 1), Vbavag.nats l, Vbavag.nats m⟩ := by
  unfold Vbavag.warningCall
  rw [names_rise, phases_rise, Bool.and_assoc]
  rfl
 rw [spec] at k
 have no1 : ((Vbavag.inR c 0 31 && Vbavag.timesOk r e f h) && risesFrom 0 9 l) = false → ∀ p, H1 p = none → Q (.ref p) (upd H1 p (.lst [.int (-1)])) := fun z p hp => by
  rw [if_pos z] at k
  exact k.fin' hG1 (Kp.of_same s1) rfl hp
 cases h1 : (Vbavag.inR c 0 31 && Vbavag.timesOk r e f h) with
 | false =>
  rw [h1] at no1
  exact iteT (iteT ⟨one_line, fun p hp => no1 rfl p hp⟩)
 | true =>
  refine iteF ⟨_, rfl, lh, l, rfl, SqL.of (s1 _ _ hh), _, rfl, ?_⟩
  rw [h1] at no1 k
  cases h2 : risesFrom 0 9 l with
  | false =>
   rw [h2] at no1
   exact iteT ⟨one_line, fun p hp => no1 rfl p hp⟩
  | true =>
   rw [h2, if_neg (by decide)] at k
   refine iteF ⟨_, rfl, _, rfl, A, s, lc, m, rfl, hG1.at_, SqL.of (s1 _ _ hc), _, rfl, ?_⟩
   cases h3 : risesFrom 0 ((s.told.length : Int) - 1) m with
   | false =>
    rw [if_pos h3] at k
    exact iteT ⟨one_line, fun p hp => k.fin' hG1 (Kp.of_same s1) rfl hp⟩
   | true =>
    rw [if_neg (by rw [h3]; decide)] at k
    refine iteF ⟨_, rfl, A, s, rfl, hG1.at_, _, rfl, ?_⟩
    by_cases h4 : 24 ≤ s.told.length
    ·rw [if_pos h4] at k
     exact ifT (decide_eq_true h4) ⟨one_line, fun p hp => k.fin' hG1 (Kp.of_same s1) rfl hp⟩
    ·rw [if_neg h4] at k
     have hn1 := s1 _ _ hn
     refine ifF (decide_eq_false h4) ⟨_, rfl, _, rfl, _, _, _, _, rfl, rfl, SqL.of hn1, rfl, _, rfl, _, _, _, _, rfl, rfl, SqL.of hn1, rfl, _, rfl, _, _, _, _, rfl, rfl, SqL.of hn1, rfl, _, rfl, _, _, _, _, rfl, rfl, SqL.of hn1, rfl, _, rfl, _, _, _, _, rfl, rfl, SqL.of hn1, rfl, Nat.zero_le _, fun lp hlp => ⟨_, rfl, _, rfl, ?_⟩⟩
     intro x dx nx ndx ne
     refine ⟨x, dx, _, _, _, _, _, _, _, _, _, rfl, upd_same, fun H2 h2' k2 => ⟨rfl, ?_⟩⟩
     have s2 : Same (upd H1 lp (.lst [])) H2 := Same.made nx ndx fun b o z q => k2 b o z (by simpa using q)
     have sp : Same H1 (upd H1 lp (.lst [])) := Same.new hlp
     have s3 : Same H1 H2 := sp.trans s2
     have s4 : Same H H2 := s1.trans s3
     have hlp2 : H2 lp = some (.lst []) := s2 _ _ upd_same
     have nxp : x ≠ lp := (ne_of_none upd_same nx).symm
     have nH1x : H1 x = none := sp.free nx
     have nHx : H x = none := s1.free nH1x
     have nHlp : H lp = none := s1.free hlp
     simp only [Vbavag.timesOk, Bool.and_eq_true] at h1
     obtain ⟨i1, i2, i3, i4, i5⟩ := h1
     have gl := rises_ge h2
     have gm := rises_ge h3
     have fs : H2 x = some (.ins d.C_SW dx (wF ⟨c.toNat, 0, [], r.toNat, e.toNat, f.toNat, decide (h = 1), Vbavag.nats l, Vbavag.nats m⟩ newStand lp lh lc)) := by
      rw [h2', nat_int i1 (by decide), nat_int i2 (by decide), nat_int i3 (by decide), nat_int i4 (by decide), latch_int i5]
      rfl
     have eP : Vbavag.add s ⟨c.toNat, 0, [], r.toNat, e.toNat, f.toNat, decide (h = 1), Vbavag.nats l, Vbavag.nats m⟩ = (added s ⟨c.toNat, 0, [], r.toNat, e.toNat, f.toNat, decide (h = 1), Vbavag.nats l, Vbavag.nats m⟩, [(s.told.length : Int)]) := by
      unfold Vbavag.add
      rw [add_added hG.wf]
      rfl
     rw [eP] at k
     have b1 := inR_nat i1
     have b2 := inR_nat i2
     refine ⟨A, s, x, ⟨c.toNat, 0, [], r.toNat, e.toNat, f.toNat, decide (h = 1), Vbavag.nats l, Vbavag.nats m⟩, (lp, lh, lc), rfl, hG.same s4, ⟨⟨dx, fs⟩, ⟨hlp2, ?_, ?_, by simp, by simp, by simp⟩, ?_, ?_, ?_, not_own_none hG.at_ nHx⟩, k.plus s4 nHx (by intro c hc; simp only [List.mem_cons, List.not_mem_nil, or_false] at hc; rcases hc with q | q | q <;> subst q <;> first | exact .inl nHlp | (right; simp)) (hG.wf.added (by omega) (fun j hj => absurd hj (by simp)) (nats_lt gm) (.inl ⟨rfl, rfl⟩) (by show c.toNat < 32; omega) (by show 1 ≤ r.toNat ∧ r.toNat ≤ 3; omega)) (hG.short.added (Nat.zero_le _) (by show (Vbavag.nats l).length ≤ 32; rw [nats_len]; exact zl) (by show (Vbavag.nats m).length ≤ 32; rw [nats_len]; exact zm) (rises_up (hi := (s.told.length : Int) - 1) (Int.le_refl 0) (by assumption))) (hG.tame.added hG.wf.len)⟩
     ·show H2 lh = some (.lst ((Vbavag.nats l).map vN))
      rw [← nats_map fun y hy => (gl y hy).1]
      exact s4 _ _ hh
     ·show H2 lc = some (.lst ((Vbavag.nats m).map vN))
      rw [← nats_map fun y hy => (gm y hy).1]
      exact s4 _ _ hc
     ·simp only [List.mem_cons, not_or]
      exact ⟨nxp.symm, not_own_none hG.at_ nHlp⟩
     ·simp only [List.mem_cons, not_or]
      exact ⟨ne_of_none hh nHx, nh⟩
     ·simp only [List.mem_cons, not_or]
      exact ⟨ne_of_none hc nHx, nc⟩
theorem ok_34 (T : Tx K mg d) : FnOk P w K mg base CX0 3 d.f_34 d.d_34 ["panel", "numbers", "parts", "phases", "covers"] (sp_addc d) := by
 refine T.F_34.ok sc_34 (fun vs H Q E h => ?_) (fun cdv Ar outer s0 H vs Q E hr h => ?_)
 ·obtain ⟨A, s, ln, lp, lh, lc, c, r, e, f, h, kk, l, m, rfl, hG, hn, hk, hh, hc, nk, nh, nc, zk, zl, zm, k⟩ := h
  rfl
 obtain ⟨A, s, ln, lp, lh, lc, c, r, e, f, h, kk, l, m, rfl, hG, hn, hk, hh, hc, nk, nh, nc, zk, zl, zm, k⟩ := h
 refine ⟨_, (pss_cons (ps_if (PW.pt (pw_or (pt_not (pt_val (pe_call (ok_3 T) (hr.mono (by decide)) rfl T.mg_3 T.F_3.kp T.b_3 .nil pass0 (pa_cons (pv 1) (pa_cons (pe_glob (v := .ref d.t_COLLECTOR_RANGES) rfl T.mg_COLLECTOR_RANGES rfl) pa_nil))))) (pw_or1 (pt_not (pt_val (pe_call (ok_5 T) (hr.mono (by decide)) rfl T.mg_5 T.F_5.kp T.b_5 .nil pass0 (pa_cons (pv 3) pa_nil))))))) (pss_one (ps_ret (pe_lst (pa_cons (pe_cst rfl T.c_OUT_OF_RANGE) pa_nil)))) pss_nil) (pss_cons (ps_if (PW.pt (pw_or (pt_not (pt_val (pe_call (ok_6 T) (hr.mono (by decide)) rfl T.mg_6 T.F_6.kp T.b_6 .nil pass0 (pa_cons (pv 0) (pa_cons (pv 2) pa_nil))))) (pw_or1 (pt_not (pt_val (pe_call (ok_6 T) (hr.mono (by decide)) rfl T.mg_6 T.F_6.kp T.b_6 .nil pass0 (pa_cons (pv 0) (pa_cons (pv 4) pa_nil)))))))) (pss_one (ps_ret (pe_lst (pa_cons (pe_cst rfl T.c_NO_ROW_OF_WARNINGS) pa_nil)))) pss_nil) (pss_cons (ps_if (pt_cmpR op_lt (pe_callB call_len_seq rfl T.no_len bt_len (pa_cons (pv 2) pa_nil)) (pe_ix ix_list (pv 1) pe_int (fun _ _ => rfl)) (nomark _)) (pss_one (ps_ret (pe_lst (pa_cons (pe_cst rfl T.c_TOO_FEW_PARTS) pa_nil)))) pss_nil) (pss_cons (ps_if (pt_val (pe_call (ok_8 T) (hr.mono (by decide)) rfl T.mg_8 T.F_8.kp T.b_8 .nil pass0 (pa_cons (pv 0) pa_nil))) (pss_one (ps_ret (pe_lst (pa_cons (pe_cst rfl T.c_FULL) pa_nil)))) pss_nil) (pss_one (ps_ret (pe_call (ok_32 T) (hr.mono (by decide)) rfl T.mg_32 T.F_32.kp T.b_32 .nil pass0 (pa_cons (pv 0) (pa_cons (pe_make T.mk_SW (ok_17 T) (hr.mono (by decide)) rfl T.mg_SW T.b_17 .nil pass0 (pa_cons pe_int (pa_cons (pe_ix ix_list (pv 1) pe_int (fun _ _ => rfl)) (pa_cons (pe_ix ix_list (pv 1) pe_int (fun _ _ => rfl)) (pa_cons (pe_ix ix_list (pv 1) pe_int (fun _ _ => rfl)) (pa_cons (pe_ix ix_list (pv 1) pe_int (fun _ _ => rfl)) (pa_cons (pe_ix ix_list (pv 1) pe_int (fun _ _ => rfl)) (pa_cons (pv 2) (pa_cons (pv 3) (pa_cons (pv 4) pa_nil)))))))))) pa_nil))))))))), ?_⟩
 refine ⟨_, rfl, ln, d.t_COLLECTOR_RANGES, [c, r, e, f, h], [(1, 24), (1, 3), (0, 3600), (0, 3600), (0, 1)], rfl, SqL.of hn, rng5 T.k_COLLECTOR_RANGES T.k_COLLECTOR_RANGES_0 T.k_COLLECTOR_RANGES_1 T.k_COLLECTOR_RANGES_2 T.k_COLLECTOR_RANGES_3 T.k_COLLECTOR_RANGES_4, rfl, (by show 5 ≤ 1000; decide), fun H1 s1 => ⟨_, rfl, ?_⟩⟩
 have hG1 := hG.same s1
 have ew : within [c, r, e, f, h] [(1, 24), (1, 3), (0, 3600), (0, 3600), (0, 1)] = (Vbavag.inR c 1 24 && Vbavag.timesOk r e f h) := by
  show (Vbavag.inR c 1 24 && (Vbavag.inR r 1 3 && (Vbavag.inR e 0 3600 && (Vbavag.inR f 0 3600 && (Vbavag.inR h 0 1 && true))))) = _
  rw [Bool.and_true]
  rfl
 rw [ew]
 have spec : Vbavag.collectorCall s c r e f h kk l m = if ((Vbavag.inR c 1 24 && Vbavag.timesOk r e f h) && risesFrom 0 9 l) = false then Vbavag.no s 1 else if (risesFrom 0 ((s.told.length : Int) - 1) kk && risesFrom 0 ((s.told.length : Int) - 1) m) = false then Vbavag.no s 4 else if (kk.length : Int) < c then Vbavag.no s 5 else if 24 ≤ s.told.length then Vbavag.no s 8 else Vbavag.add s ⟨0, c.toNat, Vbavag.nats kk, r.toNat, e.toNat, f.toNat, decide (h = 1), Vbavag.nats l, Vbavag.nats m⟩ := by
  unfold Vbavag.collectorCall
  rw [names_rise, names_rise, phases_rise, Bool.and_assoc]
  rfl
 rw [spec] at k
 have no1 : ((Vbavag.inR c 1 24 && Vbavag.timesOk r e f h) && risesFrom 0 9 l) = false → ∀ p, H1 p = none → Q (.ref p) (upd H1 p (.lst [.int (-1)])) := fun z p hp => by
  rw [if_pos z] at k
  exact k.fin' hG1 (Kp.of_same s1) rfl hp
 cases h1 : (Vbavag.inR c 1 24 && Vbavag.timesOk r e f h) with
 | false =>
  rw [h1] at no1
  exact iteT (iteT ⟨one_line, fun p hp => no1 rfl p hp⟩)
 | true =>
  refine iteF ⟨_, rfl, lh, l, rfl, SqL.of (s1 _ _ hh), _, rfl, ?_⟩
  rw [h1] at no1 k
  cases h2 : risesFrom 0 9 l with
  | false =>
   rw [h2] at no1
   exact iteT ⟨one_line, fun p hp => no1 rfl p hp⟩
  | true =>
   rw [h2, if_neg (by decide)] at k
   have no4 : (risesFrom 0 ((s.told.length : Int) - 1) kk && risesFrom 0 ((s.told.length : Int) - 1) m) = false → ∀ p, H1 p = none → Q (.ref p) (upd H1 p (.lst [.int (-4)])) := fun z p hp => by
    rw [if_pos z] at k
    exact k.fin' hG1 (Kp.of_same s1) rfl hp
   refine iteF ⟨_, rfl, _, rfl, A, s, lp, kk, rfl, hG1.at_, SqL.of (s1 _ _ hk), _, rfl, ?_⟩
   cases h3 : risesFrom 0 ((s.told.length : Int) - 1) kk with
   | false =>
    rw [h3] at no4
    exact iteT (iteT ⟨one_line, fun p hp => no4 rfl p hp⟩)
   | true =>
    rw [h3] at no4 k
    refine iteF ⟨_, rfl, _, rfl, A, s, lc, m, rfl, hG1.at_, SqL.of (s1 _ _ hc), _, rfl, ?_⟩
    cases h3m : risesFrom 0 ((s.told.length : Int) - 1) m with
    | false =>
     rw [h3m] at no4
     exact iteT ⟨one_line, fun p hp => no4 rfl p hp⟩
    | true =>
     rw [h3m, if_neg (by decide)] at k
     have hn1 := s1 _ _ hn
     refine iteF ⟨_, rfl, _, _, rfl, .inl (SqL.of (s1 _ _ hk)), _, rfl, _, _, _, _, rfl, rfl, SqL.of hn1, rfl, _, _, rfl, rfl, _, rfl, ?_⟩
     rw [List.length_map]
     by_cases h5 : (kk.length : Int) < c
     ·rw [if_pos h5] at k
      exact ifT (decide_eq_true h5) ⟨one_line, fun p hp => k.fin' hG1 (Kp.of_same s1) rfl hp⟩
     ·rw [if_neg h5] at k
      refine ifF (decide_eq_false h5) ⟨_, rfl, A, s, rfl, hG1.at_, _, rfl, ?_⟩
      by_cases h4 : 24 ≤ s.told.length
      ·rw [if_pos h4] at k
       exact ifT (decide_eq_true h4) ⟨one_line, fun p hp => k.fin' hG1 (Kp.of_same s1) rfl hp⟩
      ·rw [if_neg h4] at k
       refine ifF (decide_eq_false h4) ⟨_, rfl, _, rfl, _, _, _, _, rfl, rfl, SqL.of hn1, rfl, _, rfl, _, _, _, _, rfl, rfl, SqL.of hn1, rfl, _, rfl, _, _, _, _, rfl, rfl, SqL.of hn1, rfl, _, rfl, _, _, _, _, rfl, rfl, SqL.of hn1, rfl, _, rfl, _, _, _, _, rfl, rfl, SqL.of hn1, rfl, _, rfl, _, rfl, _, rfl, ?_⟩
       intro x dx nx ndx ne
       refine ⟨x, dx, _, _, _, _, _, _, _, _, _, rfl, upd_same, fun H2 h2' k2 => ⟨rfl, ?_⟩⟩
       have s3 : Same H1 H2 := Same.made nx ndx fun b o z q => k2 b o z (by simpa using q)
       have s4 : Same H H2 := s1.trans s3
       have nHx : H x = none := s1.free nx
       simp only [Vbavag.timesOk, Bool.and_eq_true] at h1
       obtain ⟨i1, i2, i3, i4, i5⟩ := h1
       have gl := rises_ge h2
       have gk := rises_ge h3
       have gm := rises_ge h3m
       have fs : H2 x = some (.ins d.C_SW dx (wF ⟨0, c.toNat, Vbavag.nats kk, r.toNat, e.toNat, f.toNat, decide (h = 1), Vbavag.nats l, Vbavag.nats m⟩ newStand lp lh lc)) := by
        rw [h2', nat_int i1 (by decide), nat_int i2 (by decide), nat_int i3 (by decide), nat_int i4 (by decide), latch_int i5]
        rfl
       have eP : Vbavag.add s ⟨0, c.toNat, Vbavag.nats kk, r.toNat, e.toNat, f.toNat, decide (h = 1), Vbavag.nats l, Vbavag.nats m⟩ = (added s ⟨0, c.toNat, Vbavag.nats kk, r.toNat, e.toNat, f.toNat, decide (h = 1), Vbavag.nats l, Vbavag.nats m⟩, [(s.told.length : Int)]) := by
        unfold Vbavag.add
        rw [add_added hG.wf]
        rfl
       rw [eP] at k
       have b1 := inR_nat i1
       have b2 := inR_nat i2
       have hne : Vbavag.nats kk ≠ [] := fun z => by
        have e0 : (Vbavag.nats kk).length = 0 := by rw [z]; rfl
        rw [nats_len] at e0
        omega
       refine ⟨A, s, x, ⟨0, c.toNat, Vbavag.nats kk, r.toNat, e.toNat, f.toNat, decide (h = 1), Vbavag.nats l, Vbavag.nats m⟩, (lp, lh, lc), rfl, hG.same s4, ⟨⟨dx, fs⟩, ⟨?_, ?_, ?_, by simp, by simp, by simp⟩, ?_, ?_, ?_, not_own_none hG.at_ nHx⟩, k.plus s4 nHx (fun c hc => .inr hc) (hG.wf.added (by omega) (nats_lt gk) (nats_lt gm) (.inr ⟨by show 0 < c.toNat; omega, hne⟩) (by show 0 < 32; decide) (by show 1 ≤ r.toNat ∧ r.toNat ≤ 3; omega)) (hG.short.added (by show (Vbavag.nats kk).length ≤ 32; rw [nats_len]; exact zk) (by show (Vbavag.nats l).length ≤ 32; rw [nats_len]; exact zl) (by show (Vbavag.nats m).length ≤ 32; rw [nats_len]; exact zm) (rises_up (hi := (s.told.length : Int) - 1) (Int.le_refl 0) (by assumption))) (hG.tame.added hG.wf.len)⟩
       ·show H2 lp = some (.lst ((Vbavag.nats kk).map vN))
        rw [← nats_map fun y hy => (gk y hy).1]
        exact s4 _ _ hk
       ·show H2 lh = some (.lst ((Vbavag.nats l).map vN))
        rw [← nats_map fun y hy => (gl y hy).1]
        exact s4 _ _ hh
       ·show H2 lc = some (.lst ((Vbavag.nats m).map vN))
        rw [← nats_map fun y hy => (gm y hy).1]
        exact s4 _ _ hc
       ·simp only [List.mem_cons, not_or]
        exact ⟨ne_of_none hk nHx, nk⟩
       ·simp only [List.mem_cons, not_or]
        exact ⟨ne_of_none hh nHx, nh⟩
       ·simp only [List.mem_cons, not_or]
        exact ⟨ne_of_none hc nHx, nc⟩
end
def lamPos : Pos := ⟨69, 44, 69, 118⟩
def lamQ : Str := (envOfC "listed_numbers" (defScope s_13) 0 0 .none).qual ++ "<lambda>"
def TabL (d : Ad) (H : Hp) : Prop := Tab d.ta_13 lamPos lamQ H
def Bs (base : Heap) (mg : Str → Option Value) (d : Ad) : Prop := base.BuiltinsAt mg d.ta_13
theorem TabL.kp {d : Ad} {H H' : Hp} {l : List Addr} (h : TabL d H) (k : Kp l H H') (n : ∀ b ∈ l, ∀ o, H b = some o → plainO o = true) : TabL d H' := by
 rcases h with h | ⟨c, h1, h2⟩
 ·exact .inl (k _ _ h fun z => by have := n _ z _ h; cases this)
 ·exact .inr ⟨c, k _ _ h1 (fun z => by have := n _ z _ h1; cases this), k _ _ h2 fun z => by have := n _ z _ h2; cases this⟩
theorem TabL.same {d : Ad} {H H' : Hp} (h : TabL d H) (k : Same H H') : TabL d H' := h.kp (l := []) (fun b o e _ => k b o e) (fun b hb => absurd hb (by simp))
theorem own_plain {d : Ad} {H : Hp} {A : Pl} {s : Panel} (h : PanelAt d H A s) : ∀ b ∈ A.own, ∀ o, H b = some o → plainO o = true := fun b hb o ho => by
 cases q : plainO o with
 | true => rfl
 | false => exact absurd hb (not_own h (fun o' e => by rw [ho] at e; cases e; exact q) ⟨o, ho⟩)
theorem TabL.own {d : Ad} {H H' : Hp} {A : Pl} {s : Panel} (h : TabL d H) (hP : PanelAt d H A s) (k : Kp A.own H H') : TabL d H' := h.kp k (own_plain hP)
def KpT (d : Ad) (H H' : Hp) : Prop := ∀ b o, H b = some o → b ≠ d.ta_13 → H' b = some o
theorem TabL.is {d : Ad} {H : Hp} (h : TabL d H) : ∃ o, H d.ta_13 = some (.tbl o) := by
 rcases h with h | ⟨c, h1, h2⟩
 ·exact ⟨_, h⟩
 ·exact ⟨_, h1⟩
theorem KpT.keepP {d : Ad} {H H' : Hp} (h : KpT d H H') (t : TabL d H) : KeepP H H' := fun b o e q => h b o e fun z => by
 obtain ⟨o', e'⟩ := t.is
 rw [z, e'] at e
 cases e
 cases q
theorem KpT.of_same {d : Ad} {H H' : Hp} (h : Same H H') : KpT d H H' := fun b o e _ => h b o e
theorem KpT.trans {d : Ad} {H H1 H2 : Hp} (h : KpT d H H1) (h2 : KpT d H1 H2) : KpT d H H2 := fun b o e n => h2 b o (h b o e n) n
theorem KpT.free {d : Ad} {H H1 : Hp} (h : KpT d H H1) (t : TabL d H1) {b : Addr} (e : H1 b = none) : H b = none := by
 cases q : H b with
 | none => rfl
 | some o =>
  obtain ⟨o', e'⟩ := t.is
  rw [h b o q fun z => by rw [z, e'] at e; cases e] at e
  cases e
theorem Rd1.keepP {d : Ad} {H H' : Hp} {A : Pl} {s : Panel} (h : Rd1 d H A s) (e : KeepP H H') : Rd1 d H' A s := ⟨h.at_.keepP e, h.few, h.short⟩
theorem Good.keepP {d : Ad} {H H' : Hp} {A : Pl} {s : Panel} (h : Good d H A s) (e : KeepP H H') : Good d H' A s := ⟨⟨h.at_.keepP e, h.wf, h.short⟩, h.tame⟩
def keyOf (s : Panel) (n : Int) : List Int := [-((toldOf s n.toNat).rank : Int), -((standOf s n.toNat).since : Int), n]
theorem before_of {s : Panel} {i j : Nat} (h : lexLt itemOrd (inls (keyOf s (j : Int))) (inls (keyOf s (i : Int))) = false) (hne : i ≠ j) : before s i j = true := by
 have h : (decide (-((toldOf s j).rank : Int) < -((toldOf s i).rank : Int)) || (!decide (-((toldOf s i).rank : Int) < -((toldOf s j).rank : Int)) && (decide (-((standOf s j).since : Int) < -((standOf s i).since : Int)) || (!decide (-((standOf s i).since : Int) < -((standOf s j).since : Int)) && (decide ((j : Int) < i) || (!decide ((i : Int) < j) && false)))))) = false := h
 rw [before_iff]
 simp only [Bool.or_eq_false_iff, Bool.and_eq_false_iff, decide_eq_false_iff_not, Bool.not_eq_false', decide_eq_true_eq, Bool.and_false] at h
 omega
theorem sorted_is {d : Ad} {H : Hp} {A : Pl} {s : Panel} (hP : PanelAt d H A s) {ns : List Int} (hp : ns.Perm ((nums (shown s)).map fun n : Nat => (n : Int))) (hs : ns.Pairwise fun a b => lexLt itemOrd (inls (keyOf s b)) (inls (keyOf s a)) = false) : ns.map V.int = (listed s).map vN := by
 have pos : ∀ x ∈ ns, 0 ≤ x := fun x hx => by
  obtain ⟨n, _, rfl⟩ := List.mem_map.mp (hp.mem_iff.mp hx)
  omega
 have e : ns = (ns.map Int.toNat).map fun n : Nat => (n : Int) := by
  rw [List.map_map]
  conv => lhs; rw [← List.map_id ns]
  exact List.map_congr_left fun x hx => by show x = ((x.toNat : Nat) : Int); rw [Int.toNat_of_nonneg (pos x hx)]
 have hp2 : (ns.map Int.toNat).Perm (shownOnes s) := by
  rw [shownOnes_nums hP]
  have q := hp.map Int.toNat
  rw [List.map_map] at q
  have e2 : (nums (shown s)).map (Int.toNat ∘ fun n : Nat => (n : Int)) = nums (shown s) := by
   conv => rhs; rw [← List.map_id (nums (shown s))]
   exact List.map_congr_left fun n _ => by show (n : Int).toNat = n; exact Int.toNat_natCast n
  rw [e2] at q
  exact q
 have nd : (ns.map Int.toNat).Nodup := hp2.nodup_iff.mpr (nodup_filter_range _ _)
 have hl : ns.map Int.toNat = listed s := by
  refine listed_unique hp2 ?_
  rw [e, List.pairwise_map] at hs
  refine (hs.and nd).imp fun {a b} q => before_of q.1 q.2
 rw [e, hl, List.map_map]
 rfl
theorem pa_run {X : Cx} {es : List Expr} {t : TA} {pos : Pos} {pins : List (Addr × Obj)} {s : Shared} {σ : St} {H : Hp} {R : List Value → Shared → Prop} (I : Inv X pins σ H s) (ha : PA X es t) (Q : List V → Hp → Prop) (h : t σ H Q) (k : ∀ us s2, AP X pins σ Q us s2 → R us s2) : wpAny (model X.prog X.w) X.A (spliced (backTo pos (starEach es X.env))) R X.xe s :=
 thn (ha pos pins s σ H Q I h) k
def sp_listed (d : Ad) : Sp := fun vs H Q _ => ∃ (A : Pl) (s : Panel), vs = [.ref A.p] ∧ Rd1 d H A s ∧ TabL d H ∧ ∀ H' p, H p = none → H' p = some (.lst ((listed s).map vN)) → TabL d H' → KpT d H H' → Q (.ref p) H'
section
variable {P : Program} {w : World} {K : PySem.W.Frag} {mg : Str → Option Value} {base : Heap} {d : Ad}
theorem ok_13 (T : Tx K mg d) (hB : Bs base mg d) : FnOk P w K mg base CX0 3 d.f_13 d.d_13 ["panel"] (sp_listed d) := by
 obtain ⟨oc, od, kV, doc, pm, an, cdv, ct, osl, e, lk, hcd⟩ := T.F_13.ex
 have hc := T.lc_13
 rw [e] at hc
 have hc : cdv = .ref d.ca_13 := hc
 subst hc
 rw [e] at lk ⊢
 refine fn_of lk hcd sc_13 (fun vs H Q E h => ?_) fun Ar outer s0 H vs Q E hr h => ?_
 ·obtain ⟨A, s, rfl, _⟩ := h
  rfl
 obtain ⟨A, s, rfl, hR, tab, k⟩ := h
 refine ⟨_, PSs.nox (pss_cons (ps_sA (i := 1) sc_13.nd rfl (pe_at T.cl_Panel T.n_Panel_warnings (pv 0))) (pss_one (ps_ret (te := fun σ H1 Q1 => H1 = H ∧ σ[0]? = some (some (.ref A.p)) ∧ σ[1]? = some (some (.ref A.lw)) ∧ ∀ H' p, H p = none → H' p = some (.lst ((listed s).map vN)) → TabL d H' → KpT d H H' → Q1 (.ref p) H') ?_))), ?_⟩
 ·intro pins s1 σ H1 Q1 I h
  obtain ⟨rfl, h0, h1, k1⟩ := h
  refine wpAny_Call_Name_kw (ld_blt I rfl T.no_sorted bt_sorted ?_)
  refine callWith_kw ?_
  refine pa_run I (pa_cons (pe_call (ok_12 T) (hr.mono (by decide)) rfl T.mg_12 T.F_12.kp T.b_12 .nil pass0 (pa_cons (pv 0) pa_nil)) pa_nil) (fun vs H2 => ∃ q, vs = [.ref q] ∧ Same H1 H2 ∧ H1 q = none ∧ H2 q = some (.lst ((nums (shown s)).map vN))) ⟨_, h0, A, s, rfl, hR, fun H2 q s2 nq hq => ⟨q, rfl, s2, nq, hq⟩⟩ fun us s2 hq => ?_
  obtain ⟨vs, H2, I2, r, q, rfl, s12, nq, hq⟩ := hq
  obtain ⟨u, rfl, ru⟩ := vals1 r
  cases ru
  have hmod := I2.ok.mod.kin
  obtain ⟨cw, hcw⟩ : ∃ c, (cellsFrom (s0.heap.objs.size + 1) (defScope s_13).names []).lookup (Str.ofString "warnings") = some c := cell_has rfl
  refine kws_cons (thn (lam_make I2 rfl (PySem.W.codeHd_of_K hmod T.lt_13) hB (tab.same s12) rfl rfl hcw) fun v s3 hv => ?_)
  obtain ⟨f, c', H3, pm', ctv, rfl, I3, nf, hf, hc', tab3, old⟩ := hv
  refine kws_nil ?_
  have hq3 : H3 q = some (.lst ((nums (shown s)).map vN)) := old _ _ hq fun z => by
   obtain ⟨o, e'⟩ := (tab.same s12).is
   rw [z, e'] at hq
   cases hq
  have k13 : KpT d H1 H3 := fun b o e n => old b o (s12 b o e) n
  have hR3 : Rd1 d H3 A s := hR.keepP (k13.keepP tab)
  have few := hR.few
  have lenN := nums_le (shown s)
  have lenS := shown_length hR.at_.ls
  refine sorted3 (l := q) (f := f) (key := keyOf s) (ns := (nums (shown s)).map fun n : Nat => (n : Int)) I3 (by rw [List.map_map]; exact hq3) (by rw [List.length_map]; omega) (fun n => by intro z; cases z) (fun n hn t H4 s4 I4 s34 => ?_) fun ns' H' D hp hs sH nD hD => ?_
  ·obtain ⟨i, hi, rfl⟩ := List.mem_map.mp hn
   have hi' := nums_lt hR3.at_ hi
   have hR4 := hR3.same s34
   obtain ⟨a, w', x, r, ha, hw, hx, ⟨dx, hwa⟩, hr'⟩ := hR4.at_.get hi'
   obtain ⟨m, hns, hl⟩ := I4.loc
   obtain ⟨u, ru, lk'⟩ := hl 1 "warnings" (.ref A.lw) rfl h1 (Or.inr (Or.inl rfl))
   have hcell : s4.heap.IsCell cw (some u) := by
    rcases lk' with ⟨z, _⟩ | ⟨_, c, hc, hcc⟩
    ·have z : (defScope s_13).names.lookup (Str.ofString "warnings") = some NameKind.local := z
     exact absurd z (by decide +kernel)
    ·have : some c = some cw := hc.symm.trans hcw
     cases this
     exact hcc
   refine lam_run I4 I4.ok.frames (I4.ok.hd rfl) hr.depth (I4.hok f _ (s34 _ _ hf)).1 (I4.hok c' _ (s34 _ _ hc')).1 rfl rfl rfl rfl rfl rfl (by decide +kernel) (fun z hz => ?_) hcell ru (I4.freeC "warnings" cw hcw)
    (pe_tup (pa_cons (pe_un un_neg (pe_at T.cl_SW T.n_SW_rank (pe_ix (ixL (K := K) rfl) (pv 1) (pv 0) (fun _ _ => rfl)))) (pa_cons (pe_un un_neg (pe_at T.cl_SW T.n_SW_came_at (pe_ix (ixL (K := K) rfl) (pv 1) (pv 0) (fun _ _ => rfl)))) (pa_cons (pv 0) pa_nil)))) ?_
   ·have hz : List.lookup z [(Str.ofString "number", NameKind.local), (Str.ofString "warnings", NameKind.free)] = some NameKind.free := hz
    rw [List.lookup_cons] at hz
    cases q1 : z == Str.ofString "number" with
    | true =>
     rw [q1] at hz
     cases hz
    | false =>
     rw [q1] at hz
     have hz : List.lookup z [(Str.ofString "warnings", NameKind.free)] = some NameKind.free := hz
     rw [List.lookup_cons] at hz
     cases q2 : z == Str.ofString "warnings" with
     | true => exact beq_iff_eq.mp q2
     | false =>
      rw [q2] at hz
      cases hz
   ·have hlw := hR4.at_.war
    refine ⟨_, rfl, _, rfl, _, _, _, _, rfl, rfl, SqL.of hlw, at_map ha, _, _, _, _, rfl, hwa, rfl, _, rfl, _, rfl, _, rfl, _, _, _, _, rfl, rfl, SqL.of hlw, at_map ha, _, _, _, _, rfl, hwa, rfl, _, rfl, _, rfl, (by show 3 ≤ sizeLine; decide), fun p hp => ⟨p, rfl, hp, ?_⟩⟩
    have e1 : toldOf s i = w' := by
     unfold toldOf
     rw [List.getD_eq_getElem?_getD, hw]
     rfl
    have e2 : standOf s i = x := by
     unfold standOf
     rw [List.getD_eq_getElem?_getD, hx]
     rfl
    show upd H4 p (.tup [V.int (-((w'.rank : Nat) : Int)), V.int (-((x.since : Nat) : Int)), V.int (i : Int)]) = upd H4 p (.tup [V.int (-((toldOf s (i : Int).toNat).rank : Int)), V.int (-((standOf s (i : Int).toNat).since : Int)), V.int (i : Int)])
    rw [Int.toNat_natCast, e1, e2]
  ·exact k1 H' D (k13.free tab3 nD) (by rw [hD, sorted_is hR.at_ hp hs]) (TabL.same tab3 sH) (k13.trans (KpT.of_same sH))
 ·obtain ⟨dp, hp⟩ := hR.at_.obj
  exact ⟨_, rfl, _, _, _, _, rfl, hp, rfl, rfl, rfl, rfl, k⟩
end
structure Twin (d : Ad) (H0 H : Hp) (A : Pl) (s : Panel) : Prop where
 good : Good d H A s
 new : ∀ b ∈ A.own, H0 b = none
def sp_copyP (d : Ad) : Sp := fun vs H Q _ => ∃ (A : Pl) (s : Panel), vs = [.ref A.p] ∧ Good d H A s ∧ ∀ H' A', Same H H' → Twin d H H' A' (noLog s) → Q (.ref A'.p) H'
def sp_ahead (d : Ad) : Sp := fun vs H Q _ => ∃ (A : Pl) (s : Panel) (m : Nat), vs = [.ref A.p, vN m] ∧ Good d H A s ∧ ∀ H' A', Same H H' → Twin d H H' A' (seconds m (noLog s)) → Q (.ref A'.p) H'
def sp_till (d : Ad) : Sp := fun vs H Q _ => ∃ (A : Pl) (s : Panel) (m : Nat), vs = [.ref A.p, vN m] ∧ Good d H A s ∧ TabL d H ∧ ∀ H', TabL d H' → KpT d H H' → Q (vN (changeIn m 0 s (listed s))) H'
theorem Kp.same_of {H H1 H2 : Hp} {l : List Addr} (h : Same H H1) (k : Kp l H1 H2) (n : ∀ b ∈ l, H b = none) : Same H H2 := fun b o e => k b o (h b o e) fun z => by
 rw [n b z] at e
 cases e
theorem KpT.of_kp {d : Ad} {H H1 H2 : Hp} {l : List Addr} (h : KpT d H H1) (k : Kp l H1 H2) (n : ∀ b ∈ l, H b = none) : KpT d H H2 := fun b o e z => k b o (h b o e z) fun y => by
 rw [n b y] at e
 cases e
theorem nd_new {α : Type} {l : List α} {a : α} (h : l.Nodup) (n : a ∉ l) : (a :: l).Nodup := List.nodup_cons.mpr ⟨n, h⟩
theorem dp_nats {K : PySem.W.Frag} {H : Hp} : ∀ (l : List Nat), DpAll K H (l.map vN) (l.map fun n : Nat => PyData.int (n : Int))
 | [] => .nil
 | n :: r => .cons (.int _) (dp_nats r)
theorem dp_list {K : PySem.W.Frag} {H : Hp} {a : Addr} {l : List Nat} (h : H a = some (.lst (l.map vN))) : Dp K H (.ref a) (.list (l.map fun n : Nat => PyData.int (n : Int))) := .lst (SqL.of h) (dp_nats l)
section
variable {P : Program} {w : World} {K : PySem.W.Frag} {mg : Str → Option Value} {base : Heap} {d : Ad}
theorem ok_44 (T : Tx K mg d) : FnOk P w K mg base CX0 4 d.f_44 d.d_44 ["panel"] (sp_copyP d) := by
 refine T.F_44.ok sc_44 (fun vs H Q E h => ?_) (fun cdv Ar outer s0 H vs Q E hr h => ?_)
 ·obtain ⟨A, s, rfl, hG, k⟩ := h
  rfl
 obtain ⟨A, s, rfl, hG, k⟩ := h
 refine ⟨_, (pss_cons (ps_sA (i := 1) sc_44.nd rfl (pe_make0 T.mk_Panel (ok_43 T) (hr.mono (by decide)) rfl T.mg_Panel T.b_43 .nil pass0)) (pss_cons (ps_at T.cl_Panel T.n_Panel_clock (pv 1) (pe_at T.cl_Panel T.n_Panel_clock (pv 0))) (pss_cons (ps_at T.cl_Panel T.n_Panel_phase (pv 1) (pe_at T.cl_Panel T.n_Panel_phase (pv 0))) (pss_cons (ps_at T.cl_Panel T.n_Panel_causes (pv 1) (pe_callTy call_list_of rfl T.no_list bt_list (pa_cons (pe_at T.cl_Panel T.n_Panel_causes (pv 0)) pa_nil))) (pss_cons (ps_at T.cl_Panel T.n_Panel_warnings (pv 1) (pe_lc rfl sc_44.nd (pi_list (pe_at T.cl_Panel T.n_Panel_warnings (pv 0))) (blkOk_by (own := [("warning", 2)]) rfl) (fun _ _ _ _ _ => (pg_name (i := 2) sc_44.nd rfl (Or.inl rfl) (Or.inr rfl))) (fun _ _ _ _ _ => pts_nil) (fun _ _ _ _ _ => (pe_call (ok_21 T) (hr.mono (by decide)) rfl T.mg_21 T.F_21.kp T.b_21 .nil pass0 (pa_cons (pv 2) pa_nil))))) (pss_one (ps_ret (pv 1)))))))), ?_⟩
 have hbig : (1001 : Nat) ≤ sizeLine := by decide
 have hP := hG.at_
 have few := hG.wf.few
 obtain ⟨dp, hp⟩ := hP.obj
 intro x dx nx ndx nxd
 refine ⟨x, dx, rfl, upd_same, fun H1 A1 e1 e2 e3 hP1 k1 n1 => ⟨rfl, ?_⟩⟩
 subst e1
 have s1 : Same H H1 := Same.made nx ndx fun b o z q => k1 b o z (by simpa using q)
 obtain ⟨dt, ht⟩ := hP1.obj
 have nlg : H A1.lg = none := by
  have q := n1 A1.lg (by simp)
  by_cases z : A1.lg = A1.p
  ·rw [z]
   exact nx
  ·rw [upd_ne z] at q
   by_cases z2 : A1.lg = dx
   ·rw [z2]
    exact ndx
   ·rw [upd_ne z2] at q
    exact q
 have hlg1 : H1 A1.lg = some (.lst []) := by
  obtain ⟨ts, q1, q2, _⟩ := hP1.log.ex
  have : ts = [] := List.length_eq_zero_iff.mp q2
  rw [this] at q1
  exact q1
 generalize A1.p = x at *
 generalize A1.lg = lg at *
 generalize A1.lc = lc0 at *
 generalize A1.lw = lw0 at *
 have nxg : x ≠ lg := ne_of ht hlg1 (by intro z; cases z)
 have nAx : A.p ≠ x := ne_of_none hp nx
 refine ⟨_, rfl, _, _, _, _, rfl, s1 _ _ hp, rfl, _, rfl, _, _, _, rfl, ht, (by show 6 < 1000; decide), ?_⟩
 refine ⟨_, rfl, _, _, _, _, rfl, by rw [upd_ne nAx]; exact s1 _ _ hp, rfl, _, rfl, _, _, _, rfl, upd_same, (by show 6 < 1000; decide), ?_⟩
 have hx2 : upd (upd H1 x (.ins d.C_Panel dt (putF "clock" (vN s.now) (pF Vbavag.start lc0 lw0 lg)))) x (.ins d.C_Panel dt (putF "phase" (vN s.phase) (putF "clock" (vN s.now) (pF Vbavag.start lc0 lw0 lg)))) x = some (.ins d.C_Panel dt (putF "phase" (vN s.phase) (putF "clock" (vN s.now) (pF Vbavag.start lc0 lw0 lg)))) := upd_same
 have k2 : ∀ b o, H1 b = some o → b ≠ x → upd (upd H1 x (.ins d.C_Panel dt (putF "clock" (vN s.now) (pF Vbavag.start lc0 lw0 lg)))) x (.ins d.C_Panel dt (putF "phase" (vN s.phase) (putF "clock" (vN s.now) (pF Vbavag.start lc0 lw0 lg)))) b = some o := fun b o e n => by
  rw [upd_ne n, upd_ne n]
  exact e
 generalize upd (upd H1 x (.ins d.C_Panel dt (putF "clock" (vN s.now) (pF Vbavag.start lc0 lw0 lg)))) x (.ins d.C_Panel dt (putF "phase" (vN s.phase) (putF "clock" (vN s.now) (pF Vbavag.start lc0 lw0 lg)))) = H2 at hx2 k2
 have s2 : Same H H2 := fun b o e => k2 b o (s1 b o e) (ne_of_none e nx)
 refine ⟨_, rfl, _, _, _, _, rfl, s2 _ _ hp, rfl, _, _, rfl, .inl (SqL.of (s2 _ _ hP.cau)), fun l hl => ?_⟩
 have nxl : x ≠ l := ne_of_none hx2 hl
 have ngl : lg ≠ l := ne_of_none (k2 _ _ hlg1 nxg.symm) hl
 refine ⟨_, rfl, _, _, _, rfl, by rw [upd_ne nxl]; exact hx2, (by show 6 < 1000; decide), ?_⟩
 have nlH : H l = none := s2.free hl
 have hx3 : upd (upd H2 l (.lst ((List.range 32).map fun c => V.bl (Vbavag.has s.on c)))) x (.ins d.C_Panel dt (putF "causes" (.ref l) (putF "phase" (vN s.phase) (putF "clock" (vN s.now) (pF Vbavag.start lc0 lw0 lg))))) x = some (.ins d.C_Panel dt (putF "causes" (.ref l) (putF "phase" (vN s.phase) (putF "clock" (vN s.now) (pF Vbavag.start lc0 lw0 lg))))) := upd_same
 have hl3 : upd (upd H2 l (.lst ((List.range 32).map fun c => V.bl (Vbavag.has s.on c)))) x (.ins d.C_Panel dt (putF "causes" (.ref l) (putF "phase" (vN s.phase) (putF "clock" (vN s.now) (pF Vbavag.start lc0 lw0 lg))))) l = some (.lst ((List.range 32).map fun c => V.bl (Vbavag.has s.on c))) := by
  rw [upd_ne nxl.symm, upd_same]
 have hg3 : upd (upd H2 l (.lst ((List.range 32).map fun c => V.bl (Vbavag.has s.on c)))) x (.ins d.C_Panel dt (putF "causes" (.ref l) (putF "phase" (vN s.phase) (putF "clock" (vN s.now) (pF Vbavag.start lc0 lw0 lg))))) lg = some (.lst []) := by
  rw [upd_ne nxg.symm, upd_ne ngl]
  exact k2 _ _ hlg1 nxg.symm
 have s3 : Same H (upd (upd H2 l (.lst ((List.range 32).map fun c => V.bl (Vbavag.has s.on c)))) x (.ins d.C_Panel dt (putF "causes" (.ref l) (putF "phase" (vN s.phase) (putF "clock" (vN s.now) (pF Vbavag.start lc0 lw0 lg)))))) := fun b o e => by
  rw [upd_ne (ne_of_none e nx), upd_ne (ne_of_none e nlH)]
  exact s2 b o e
 generalize upd (upd H2 l (.lst ((List.range 32).map fun c => V.bl (Vbavag.has s.on c)))) x (.ins d.C_Panel dt (putF "causes" (.ref l) (putF "phase" (vN s.phase) (putF "clock" (vN s.now) (pF Vbavag.start lc0 lw0 lg))))) = H3 at hx3 hl3 hg3 s3
 refine ⟨_, rfl, _, _, _, _, rfl, s3 _ _ hp, rfl, _, rfl, ⟨_, SqL.of (s3 _ _ hP.war)⟩, ?_⟩
 intro D hD
 refine lc_list (K := K) (a := A.lw) (xs := A.as.map V.ref) (fun i H' => Same H3 H' ∧ ∃ cs : List Addr, cs.length = i ∧ H' D = some (.lst (cs.map V.ref)) ∧ (∀ c ∈ cs, H3 c = none ∧ c ≠ D ∧ ∃ o, H' c = some o) ∧ cs.Nodup ∧ ∀ (j : Nat) c w' x', cs[j]? = some c → s.told[j]? = some w' → s.stands[j]? = some x' → ∃ r, WA d.C_SW H' c w' x' r ∧ Rows A.ro H w' r)
  ⟨Same.new hD, [], rfl, upd_same, fun c hc => absurd hc (by simp), List.nodup_nil, fun j c w' x' hc => absurd hc (by simp)⟩ (fun i H' _ ⟨sm, _⟩ => SqL.of (sm _ _ (s3 _ _ hP.war))) ?_ ?_
 ·rintro i y H' hi ⟨sm, cs, hcl, hD', hcs, nd, hat⟩
  obtain ⟨a, ha, rfl⟩ := map_at hi
  obtain ⟨w', x', r, hw, hx, hwa, hr'⟩ := hP.of ha
  have hi' := (List.getElem?_eq_some_iff.mp hw).1
  refine ⟨rfl, _, rfl, a, w', x', r, rfl, hwa.same (s3.trans sm), fun H4 p hW s4 np => ⟨_, s4 _ _ hD', by rw [List.length_map]; omega, ?_⟩⟩
  have npD : p ≠ D := (ne_of_none hD' np).symm
  have npc : p ∉ cs := fun z => by
   obtain ⟨_, _, o, ho⟩ := hcs p z
   rw [ho] at np
   cases np
  have sD : ∀ b o, H' b = some o → b ≠ D → upd H4 D (.lst (cs.map V.ref ++ [V.ref p])) b = some o := fun b o e n => by
   rw [upd_ne n]
   exact s4 b o e
  refine ⟨fun b o e => sD b o (sm b o e) (ne_of_none e hD), cs ++ [p], by rw [List.length_append, hcl]; rfl, by rw [upd_same, List.map_append]; rfl, fun c hc => ?_, nd_snoc nd npc, fun j c w1 x1 hc hw1 hx1 => ?_⟩
  ·rcases List.mem_append.mp hc with z | z
   ·obtain ⟨q1, q2, o, ho⟩ := hcs c z
    exact ⟨q1, q2, o, sD _ _ ho q2⟩
   ·rw [List.mem_singleton.mp z]
    obtain ⟨dq, hq⟩ := hW
    exact ⟨sm.free np, npD, _, by rw [upd_ne npD]; exact hq⟩
  ·by_cases hj : j < cs.length
   ·rw [List.getElem?_append_left hj] at hc
    obtain ⟨r1, ⟨dr, hr1⟩, hr2⟩ := hat j c w1 x1 hc hw1 hx1
    obtain ⟨_, q2, _⟩ := hcs c (List.mem_of_getElem? hc)
    exact ⟨r1, ⟨dr, sD _ _ hr1 q2⟩, hr2⟩
   ·have hj2 : j = i := by
     have := (List.getElem?_eq_some_iff.mp hc).1
     rw [List.length_append] at this
     have : j < cs.length + 1 := this
     omega
    subst hj2
    rw [List.getElem?_append_right (by omega), hcl, Nat.sub_self] at hc
    obtain rfl : p = c := Option.some.inj hc
    obtain rfl : w' = w1 := Option.some.inj (hw.symm.trans hw1)
    obtain rfl : x' = x1 := Option.some.inj (hx.symm.trans hx1)
    obtain ⟨dq, hq⟩ := hW
    exact ⟨r, ⟨dq, by rw [upd_ne npD]; exact hq⟩, hr'⟩
 ·rintro H' ⟨sm, cs, hcl, hD', hcs, nd, hat⟩
  rw [List.length_map] at hcl
  have nxD : x ≠ D := ne_of_none hx3 hD
  have nlD : l ≠ D := ne_of_none hl3 hD
  have ngD : lg ≠ D := ne_of_none hg3 hD
  have ncx : ∀ c ∈ cs, x ≠ c := fun c hc => ne_of_none hx3 (hcs c hc).1
  have ncl : ∀ c ∈ cs, l ≠ c := fun c hc => ne_of_none hl3 (hcs c hc).1
  have ncg : ∀ c ∈ cs, lg ≠ c := fun c hc => ne_of_none hg3 (hcs c hc).1
  have ncD : ∀ c ∈ cs, D ≠ c := fun c hc => (hcs c hc).2.1.symm
  refine ⟨_, rfl, _, _, _, rfl, sm _ _ hx3, (by show 6 < 1000; decide), ?_⟩
  refine ⟨_, rfl, ?_⟩
  have s5 : Same H (upd H' x (.ins d.C_Panel dt (putF "warnings" (.ref D) (putF "causes" (.ref l) (putF "phase" (vN s.phase) (putF "clock" (vN s.now) (pF Vbavag.start lc0 lw0 lg))))))) := fun b o e => by
   rw [upd_ne (ne_of_none e nx)]
   exact sm b o (s3 b o e)
  have hla := hP.la
  refine k _ ⟨x, l, D, lg, cs, A.ro.filter fun b => (H b).isSome⟩ s5 ⟨⟨⟨⟨⟨dt, by rw [upd_same]; rfl⟩, ?_, ?_, ⟨[], ?_, rfl, fun i t e h => absurd h (by simp)⟩, ?_, hP.ls, fun i a w' x' a1 a2 a3 => ?_, ?_, fun b hb => ?_⟩, noLog_wf hG.wf, hG.short⟩, noLog_tame hG.tame⟩, fun b hb => ?_⟩
  ·show upd _ _ _ l = _
   rw [upd_ne nxl.symm]
   exact sm _ _ hl3
  ·show upd _ _ _ D = _
   rw [upd_ne nxD.symm]
   exact hD'
  ·show upd _ _ _ lg = _
   rw [upd_ne nxg.symm]
   exact sm _ _ hg3
  ·show cs.length = s.told.length
   omega
  ·obtain ⟨r, ⟨dr, hr1⟩, hr2⟩ := hat i a w' x' a1 a2 a3
   have hm := List.mem_of_getElem? a1
   refine WarnAt.close (r := r) ⟨dr, by rw [upd_ne (ncx a hm).symm]; exact hr1⟩ ⟨s5 _ _ hr2.p, s5 _ _ hr2.h, s5 _ _ hr2.c, ?_, ?_, ?_⟩
   ·exact List.mem_filter.mpr ⟨hr2.mp, by rw [hr2.p]; rfl⟩
   ·exact List.mem_filter.mpr ⟨hr2.mh, by rw [hr2.h]; rfl⟩
   ·exact List.mem_filter.mpr ⟨hr2.mc, by rw [hr2.c]; rfl⟩
  ·show (x :: l :: D :: lg :: cs).Nodup
   refine nd_new (nd_new (nd_new (nd_new nd ?_) ?_) ?_) ?_
   ·exact fun z => ncg _ z rfl
   ·simp only [List.mem_cons, not_or]
    exact ⟨ngD.symm, fun z => ncD _ z rfl⟩
   ·simp only [List.mem_cons, not_or]
    exact ⟨nlD, ngl.symm, fun z => ncl _ z rfl⟩
   ·simp only [List.mem_cons, not_or]
    exact ⟨nxl, nxD, nxg, fun z => ncx _ z rfl⟩
  all_goals
   have hH : H b = none := by
    have hb : b ∈ x :: l :: D :: lg :: cs := hb
    simp only [List.mem_cons] at hb
    rcases hb with rfl | rfl | rfl | rfl | hb
    ·exact nx
    ·exact nlH
    ·exact s3.free hD
    ·exact nlg
    ·exact s3.free (hcs b hb).1
  ·intro z
   have := (List.mem_filter.mp z).2
   rw [hH] at this
   cases this
  ·exact hH
theorem Good.seconds {d : Ad} {H H' : Hp} {A : Pl} {s : Panel} (h : Good d H A s) {m : Nat} (hP : PanelAt d H' A (seconds m s)) : Good d H' A (seconds m s) := ⟨⟨hP, Wf.seconds m h.wf, h.short.seconds h.wf m⟩, Tame.seconds h.wf m h.tame⟩
theorem ok_45 (T : Tx K mg d) : FnOk P w K mg base CX0 7 d.f_45 d.d_45 ["panel", "seconds"] (sp_ahead d) := by
 refine T.F_45.ok sc_45 (fun vs H Q E h => ?_) (fun cdv Ar outer s0 H vs Q E hr h => ?_)
 ·obtain ⟨A, s, m, rfl, hG, k⟩ := h
  rfl
 obtain ⟨A, s, m, rfl, hG, k⟩ := h
 refine ⟨_, (pss_cons (ps_sA (i := 2) sc_45.nd rfl (pe_call (ok_44 T) (hr.mono (by decide)) rfl T.mg_44 T.F_44.kp T.b_44 .nil pass0 (pa_cons (pv 0) pa_nil))) (pss_cons (ps_expr (pe_call (ok_31 T) (hr.mono (by decide)) rfl T.mg_31 T.F_31.kp T.b_31 .nil pass0 (pa_cons (pv 2) (pa_cons (pv 1) pa_nil)))) (pss_one (ps_ret (pv 2))))), ?_⟩
 exact ⟨_, rfl, A, s, rfl, hG, fun H1 A1 s1 tw => ⟨_, rfl, _, rfl, A1, noLog s, m, rfl, tw.good.toOk, tw.good.tame, fun H2 hP2 kp2 => ⟨_, rfl, k H2 A1 (Kp.same_of s1 kp2 tw.new) ⟨tw.good.seconds hP2, tw.new⟩⟩⟩⟩
theorem eqv_nats : ∀ (l m : List Nat), PyData.eqvAll (l.map fun n : Nat => PyData.int (n : Int)) (m.map fun n : Nat => PyData.int (n : Int)) = decide (l = m)
 | [], [] => by simp [PyData.eqvAll]
 | [], _ :: _ => by simp [PyData.eqvAll]
 | _ :: _, [] => by simp [PyData.eqvAll]
 | a :: l, b :: m => by
  have e : PyData.eqvAll ((a :: l).map fun n : Nat => PyData.int (n : Int)) ((b :: m).map fun n : Nat => PyData.int (n : Int)) = (((a : Int) == (b : Int)) && PyData.eqvAll (l.map fun n : Nat => PyData.int (n : Int)) (m.map fun n : Nat => PyData.int (n : Int))) := by
   simp only [List.map_cons, PyData.eqvAll, PyData.eqv]
  rw [e, eqv_nats l m, Bool.eq_iff_iff, Bool.and_eq_true]
  simp only [beq_iff_eq, decide_eq_true_eq, List.cons.injEq]
  constructor
  ·rintro ⟨q, r⟩
   exact ⟨by omega, r⟩
  ·rintro ⟨q, r⟩
   exact ⟨by omega, r⟩
theorem eqv_list (l m : List Nat) : PyData.eqv (.list (l.map fun n : Nat => PyData.int (n : Int))) (.list (m.map fun n : Nat => PyData.int (n : Int))) = decide (l = m) := by
 rw [← eqv_nats]
 simp only [PyData.eqv]
theorem shaped_nats (l : List Nat) : SeqAt.shaped (.list (l.map fun n : Nat => PyData.int (n : Int))) = true := by
 have h1 : ∀ l : List Nat, PyData.canLayAll0 (l.map fun n : Nat => PyData.int (n : Int)) = true := fun l => by
  induction l with
  | nil => simp [PyData.canLayAll0]
  | cons a r ih => simp only [List.map_cons, PyData.canLayAll0, PyData.canLay0, ih, Bool.and_self]
 have h2 : ∀ l : List Nat, PyData.depthAll (l.map fun n : Nat => PyData.int (n : Int)) = 0 := fun l => by
  induction l with
  | nil => simp [PyData.depthAll]
  | cons a r ih => simp only [List.map_cons, PyData.depthAll, PyData.depth, ih, Nat.max_self]
 unfold SeqAt.shaped
 simp only [PyData.canLay0, PyData.depth, h1, h2]
 decide
theorem ok_46 (T : Tx K mg d) (hB : Bs base mg d) : FnOk P w K mg base CX0 6 d.f_46 d.d_46 ["panel", "most"] (sp_till d) := by
 refine T.F_46.ok sc_46 (fun vs H Q E h => ?_) (fun cdv Ar outer s0 H vs Q E hr h => ?_)
 ·obtain ⟨A, s, m, rfl, hG, tab, k⟩ := h
  rfl
 obtain ⟨A, s, m, rfl, hG, tab, k⟩ := h
 refine ⟨_, (pss_cons (ps_sA (i := 2) sc_46.nd rfl (pe_call (ok_13 T hB) (hr.mono (by decide)) rfl T.mg_13 T.F_13.kp T.b_13 .nil pass0 (pa_cons (pv 0) pa_nil))) (pss_cons (ps_sA (i := 3) sc_46.nd rfl (pe_call (ok_44 T) (hr.mono (by decide)) rfl T.mg_44 T.F_44.kp T.b_44 .nil pass0 (pa_cons (pv 0) pa_nil))) (pss_cons (ps_sA (i := 4) sc_46.nd rfl pe_int) (pss_cons (ps_while PassesOwn.never (pt_cmpR op_lt (pv 4) (pv 1) (nomark _)) (pss_cons (ps_aug (i := 4) sc_46.nd rfl (Or.inl rfl) (pe_call (ok_30 T) (hr.mono (by decide)) rfl T.mg_30 T.F_30.kp T.b_30 .nil pass0 (pa_cons (pv 3) (pa_cons (pe_op op_sub (pv 1) (pv 4)) pa_nil))) ip_add) (pss_one (ps_if (pt_cmpR (op_neD hr.units) (pe_call (ok_13 T hB) (hr.mono (by decide)) rfl T.mg_13 T.F_13.kp T.b_13 .nil pass0 (pa_cons (pv 3) pa_nil)) (pv 2) (nomark _)) (pss_one (ps_ret (pv 4))) pss_nil)))) (pss_one (ps_ret pe_int)))))), ?_⟩
 refine ⟨_, rfl, A, s, rfl, hG.rd, tab, fun H1 q nq hq tab1 k1 => ⟨_, rfl, A, s, rfl, hG.keepP (k1.keepP tab), fun H2 A2 s2 tw => ?_⟩⟩
 have k2 : KpT d H H2 := k1.trans (KpT.of_same s2)
 have tab2 : TabL d H2 := tab1.same s2
 have new : ∀ b ∈ A2.own, H b = none := fun b hb => k1.free tab1 (tw.new b hb)
 have nqA : q ∉ A2.own := fun z => by
  rw [tw.new q z] at hq
  cases hq
 have nqT : q ≠ d.ta_13 := fun z => by
  obtain ⟨o, e⟩ := tab1.is
  rw [z, e] at hq
  cases hq
 have E0 : ∀ j, listed (seconds j (noLog s)) = listed (seconds j s) := fun j => ((noLog_eqv s).seconds j).listed
 refine while_by (fun σ H' => ∃ n : Nat, n ≤ m ∧ σ = [some (.ref A.p), some (vN m), some (.ref q), some (.ref A2.p), some (vN n)] ∧ PanelAt d H' A2 (seconds n (noLog s)) ∧ KpT d H H' ∧ TabL d H' ∧ H' q = some (.lst ((listed s).map vN)) ∧ ∀ j, j ≤ n → listed (seconds j s) = listed s) (fun σ H' => match σ with | [_, _, _, _, some (.int l)] => ((m : Int) - l).toNat | _ => 0)
  ⟨0, Nat.zero_le _, rfl, tw.good.at_, k2, tab2, s2 _ _ hq, fun j hj => by rw [Nat.le_zero.mp hj]; rfl⟩ ?_ ?_
 ·rintro σ H3 ⟨n, hn, rfl, hP3, k3, tab3, hq3, same⟩
  refine ⟨_, rfl, _, rfl, _, _, rfl, rfl, _, rfl, ?_⟩
  by_cases h : n < m
  ·have e : (m : Int) - n = ((m - n : Nat) : Int) := by omega
   have hG3 := tw.good.seconds hP3
   refine ifT (decide_eq_true (by omega)) ⟨_, rfl, _, rfl, _, rfl, _, rfl, _, _, rfl, rfl, A2, seconds n (noLog s), m - n, (by show [V.ref A2.p, V.int ((m : Int) - n)] = _; rw [e]; rfl), by omega, hG3.toOk, hG3.tame, fun H4 r hr0 hr1 hP4 hls kp4 => ⟨_, _, rfl, rfl, ?_⟩⟩
   rw [← seconds_add] at hP4
   have hG4 := tw.good.seconds hP4
   have tab4 : TabL d H4 := tab3.own hP3 kp4
   have k4 : KpT d H H4 := k3.of_kp kp4 new
   have hq4 := kp4 _ _ hq3 nqA
   refine ⟨_, rfl, A2, _, rfl, hG4.rd, tab4, fun H5 q5 nq5 hq5 tab5 k5 => ⟨_, rfl, _, _, dp_list hq5, dp_list (k5 _ _ hq4 nqT), shaped_nats _, shaped_nats _, _, rfl, ?_⟩⟩
   have same2 : ∀ j, j < n + r → listed (seconds j s) = listed s := fun j hj => by
    by_cases hjn : j ≤ n
    ·exact same j hjn
    ·have e1 := hls (j - n) (by omega)
     rw [← seconds_add, show n + (j - n) = j by omega, E0, E0] at e1
     rw [e1]
     exact same n (Nat.le_refl _)
   rw [eqv_list, E0]
   have en : V.int ((n : Int) + (r : Int)) = vN (n + r) := by
    show V.int ((n : Int) + (r : Int)) = V.int ((n + r : Nat) : Int)
    rw [Int.natCast_add]
   by_cases hd : listed (seconds (n + r) s) = listed s
   ·refine ifF (by rw [decide_eq_true hd]; rfl) ⟨⟨n + r, by omega, ?_, hP4.keepP (k5.keepP tab4), k4.trans k5, tab5, k5 _ _ hq4 nqT, fun j hj => ?_⟩, ?_⟩
    ·show [some (V.ref A.p), some (vN m), some (V.ref q), some (V.ref A2.p), some (V.int ((n : Int) + (r : Int)))] = _
     rw [en]
    ·by_cases hj2 : j < n + r
     ·exact same2 j hj2
     ·rw [show j = n + r by omega]
      exact hd
    ·show ((m : Int) - ((n : Int) + (r : Int))).toNat < ((m : Int) - (n : Int)).toNat
     omega
   ·refine ifT (by rw [decide_eq_false hd]; rfl) ⟨_, rfl, ?_⟩
    have ec : changeIn m 0 s (listed s) = n + r := by
     obtain ⟨t, ht⟩ : ∃ t, n + r = t + 1 := ⟨n + r - 1, by omega⟩
     rw [changeIn_at m 0 s t (by omega) (fun j hj => same2 (j + 1) (by omega)) (by rw [← ht]; exact hd)]
     omega
    have := k H5 tab5 (k4.trans k5)
    rw [ec, ← en] at this
    exact this
  ·have hnm : n = m := by omega
   subst hnm
   refine ifF (decide_eq_false (by omega)) ?_
   have ec : changeIn n 0 s (listed s) = 0 := changeIn_none n 0 s fun j hj => same (j + 1) (by omega)
   have := k H3 tab3 k3
   rw [ec] at this
   exact this
 ·rintro σ H' Q1 Q2 h ⟨v, e, u, e0, i, j, e1, e2, b, e3, q⟩
  exact ⟨v, e, u, e0, i, j, e1, e2, b, e3, h _ _ q⟩
end
def Tl (H : Hp) (ans : List Int) (Q : VK) : Prop := ∀ H' p, Same H H' → H p = none → H' p = some (.lst (ans.map V.int)) → Q (.ref p) H'
theorem Tl.fin {H H1 : Hp} {ans : List Int} {Q : VK} (k : Tl H ans Q) (s1 : Same H H1) {p : Addr} (hp : H1 p = none) {xs : List V} (e : xs = ans.map V.int) : Q (.ref p) (upd H1 p (.lst xs)) :=
 k _ p (s1.trans (Same.new hp)) (s1.free hp) (by rw [upd_same, e])
def sp_tell0 (d : Ad) (f : Panel → List Int) : Sp := fun vs H Q _ => ∃ (A : Pl) (s : Panel), vs = [.ref A.p] ∧ Good d H A s ∧ Tl H (f s) Q
def sp_tell1 (d : Ad) (f : Panel → Int → List Int) : Sp := fun vs H Q _ => ∃ (A : Pl) (s : Panel) (n : Int), vs = [.ref A.p, .int n] ∧ Good d H A s ∧ Tl H (f s n) Q
def sp_rbl : Sp := fun vs H Q _ => ∃ (a : Addr) (xs : List V), vs = [.ref a] ∧ H a = some (.lst xs) ∧ xs.length ≤ 1000 ∧ ∀ H' p, Same H H' → H p = none → H' p = some (.lst (.int xs.length :: xs)) → Q (.ref p) H'
theorem row_int (l : List Nat) : (Vbavag.row l).map V.int = V.int ((l.map vN).length : Nat) :: l.map vN := by
 unfold Vbavag.row Vbavag.ints
 rw [List.map_cons, List.map_map, List.length_map]
 rfl
def tSound (s : Panel) : List Int := (Vbavag.step s .sound).2
def tStand (s : Panel) (n : Int) : List Int := (Vbavag.step s (.stand n)).2
def tTold (s : Panel) (n : Int) : List Int := (Vbavag.step s (.told n)).2
def tLog (s : Panel) : List Int := (Vbavag.step s .log).2
def tState (s : Panel) : List Int := (Vbavag.step s .state).2
section
variable {P : Program} {w : World} {K : PySem.W.Frag} {mg : Str → Option Value} {base : Heap} {d : Ad}
theorem ok_47 (T : Tx K mg d) : FnOk P w K mg base CX0 1 d.f_47 d.d_47 ["row"] (sp_rbl) := by
 refine T.F_47.ok sc_47 (fun vs H Q E h => ?_) (fun cdv Ar outer s0 H vs Q E hr h => ?_)
 ·obtain ⟨a, xs, rfl, ha, hz, k⟩ := h
  rfl
 obtain ⟨a, xs, rfl, ha, hz, k⟩ := h
 refine ⟨_, (pss_one (ps_ret (pe_op op_cat (pe_lst (pa_cons (pe_callB call_len_seq rfl T.no_len bt_len (pa_cons (pv 0) pa_nil)) pa_nil)) (pv 0)))), ?_⟩
 have hbig : (2001 : Nat) ≤ sizeLine := by decide
 refine ⟨_, rfl, _, _, rfl, .inl (SqL.of ha), one_line, fun p hp => ⟨_, rfl, _, _, _, _, rfl, rfl, upd_same, Same.new hp _ _ ha, (by show 1 + xs.length ≤ sizeLine; omega), fun q hq => ?_⟩⟩
 exact k _ q ((Same.new hp).trans (Same.new hq)) ((Same.new hp).free hq) upd_same
theorem ok_51 (T : Tx K mg d) : FnOk P w K mg base CX0 5 d.f_51 d.d_51 ["panel"] (sp_tell0 d tSound) := by
 refine T.F_51.ok sc_51 (fun vs H Q E h => ?_) (fun cdv Ar outer s0 H vs Q E hr h => ?_)
 ·obtain ⟨A, s, rfl, hG, k⟩ := h
  rfl
 obtain ⟨A, s, rfl, hG, k⟩ := h
 refine ⟨_, (pss_one (ps_ret (pe_lst (pa_cons (pe_call (ok_15 T) (hr.mono (by decide)) rfl T.mg_15 T.F_15.kp T.b_15 .nil pass0 (pa_cons (pv 0) pa_nil)) pa_nil)))), ?_⟩
 exact ⟨_, rfl, A, s, rfl, hG.rd, fun H1 s1 => ⟨one_line, fun p hp => k.fin s1 hp rfl⟩⟩
theorem ok_52 (T : Tx K mg d) : FnOk P w K mg base CX0 3 d.f_52 d.d_52 ["panel", "number"] (sp_tell1 d tStand) := by
 refine T.F_52.ok sc_52 (fun vs H Q E h => ?_) (fun cdv Ar outer s0 H vs Q E hr h => ?_)
 ·obtain ⟨A, s, n, rfl, hG, k⟩ := h
  rfl
 obtain ⟨A, s, n, rfl, hG, k⟩ := h
 refine ⟨_, (pss_cons (ps_if (pt_not (pt_val (pe_call (ok_7 T) (hr.mono (by decide)) rfl T.mg_7 T.F_7.kp T.b_7 .nil pass0 (pa_cons (pv 0) (pa_cons (pv 1) pa_nil))))) (pss_one (ps_ret (pe_lst (pa_cons (pe_cst rfl T.c_OUT_OF_RANGE) pa_nil)))) pss_nil) (pss_cons (ps_sA (i := 2) sc_52.nd rfl (pe_ix ix_list (pe_at T.cl_Panel T.n_Panel_warnings (pv 0)) (pv 1) (fun _ _ => rfl))) (pss_one (ps_ret (pe_lst (pa_cons (pe_at T.cl_SW T.n_SW_seconds_on (pv 2)) (pa_cons (pe_at T.cl_SW T.n_SW_seconds_off (pv 2)) (pa_cons (pe_callTy call_int1 rfl T.no_int bt_int (pa_cons (pe_at T.cl_SW T.n_SW_has_come (pv 2)) pa_nil)) (pa_cons (pe_at T.cl_SW T.n_SW_came_at (pv 2)) (pa_cons (pe_callTy call_int1 rfl T.no_int bt_int (pa_cons (pe_at T.cl_SW T.n_SW_acknowledged (pv 2)) pa_nil)) (pa_cons (pe_callTy call_int1 rfl T.no_int bt_int (pa_cons (pe_at T.cl_SW T.n_SW_cancelled (pv 2)) pa_nil)) (pa_cons (pe_callTy call_int1 rfl T.no_int bt_int (pa_cons (pe_at T.cl_SW T.n_SW_shown_since (pv 2)) pa_nil)) (pa_cons (pe_at T.cl_SW T.n_SW_times_come (pv 2)) pa_nil))))))))))))), ?_⟩
 refine ⟨_, rfl, _, rfl, A, s, n, rfl, hG.at_, _, rfl, ?_⟩
 unfold tStand Vbavag.step at k
 dsimp only at k
 cases h1 : Vbavag.isThere s n with
 | false =>
  rw [if_pos h1] at k
  exact iteT ⟨one_line, fun p hp => k.fin (Same.refl _) hp rfl⟩
 | true =>
  rw [if_neg (by rw [h1]; decide)] at k
  obtain ⟨i, rfl, hi⟩ := isThere_nat h1
  obtain ⟨dp, hp1⟩ := hG.at_.obj
  obtain ⟨a, w, x, r, ha, hw, hx, ⟨dx, hwa⟩, hr'⟩ := hG.at_.get hi
  rw [Int.toNat_natCast, standOf_at hx] at k
  refine iteF ⟨_, rfl, _, _, _, _, rfl, hp1, rfl, _, rfl, _, _, _, _, rfl, rfl, SqL.of hG.at_.war, at_map ha, ?_⟩
  refine ⟨_, rfl, _, _, _, _, rfl, hwa, rfl, _, rfl, _, _, _, _, rfl, hwa, rfl, _, rfl, _, _, _, _, rfl, hwa, rfl, .inr ⟨_, rfl, _, rfl, _, _, _, _, rfl, hwa, rfl, _, rfl, _, _, _, _, rfl, hwa, rfl, .inr ⟨_, rfl, _, rfl, _, _, _, _, rfl, hwa, rfl, .inr ⟨_, rfl, _, rfl, _, _, _, _, rfl, hwa, rfl, .inr ⟨_, rfl, _, rfl, _, _, _, _, rfl, hwa, rfl, (by show 8 ≤ sizeLine; decide), fun p hp => k.fin (Same.refl _) hp rfl⟩⟩⟩⟩⟩
theorem ok_54 (T : Tx K mg d) : FnOk P w K mg base CX0 1 d.f_54 d.d_54 ["panel"] (sp_tell0 d tLog) := by
 refine T.F_54.ok sc_54 (fun vs H Q E h => ?_) (fun cdv Ar outer s0 H vs Q E hr h => ?_)
 ·obtain ⟨A, s, rfl, hG, k⟩ := h
  rfl
 obtain ⟨A, s, rfl, hG, k⟩ := h
 refine ⟨_, (pss_cons (ps_sA (i := 1) sc_54.nd rfl (pe_lst (pa_cons (pe_at T.cl_Panel T.n_Panel_events_ever (pv 0)) (pa_cons (pe_callB call_len_seq rfl T.no_len bt_len (pa_cons (pe_at T.cl_Panel T.n_Panel_log (pv 0)) pa_nil)) pa_nil)))) (pss_cons (ps_for PassesOwn.never rfl (pi_list (pe_at T.cl_Panel T.n_Panel_log (pv 0))) (pg_name (i := 2) sc_54.nd rfl (Or.inl rfl) (Or.inl rfl)) (pss_one (ps_expr (pe_bm PySem.F.plainAttrs_list PySem.F.slot_list_extend PySem.F.type_list_extend mt_extT (pv 1) (pa_cons (pv 2) pa_nil))))) (pss_one (ps_ret (pv 1))))), ?_⟩
 have hbig : (2001 : Nat) ≤ sizeLine := by decide
 obtain ⟨dp, hp1⟩ := hG.at_.obj
 obtain ⟨ts, q1, q2, q3⟩ := hG.at_.log.ex
 have hll := hG.wf.log
 refine ⟨_, rfl, _, _, _, _, rfl, hp1, rfl, _, rfl, _, _, _, _, rfl, hp1, rfl, _, _, rfl, .inl (SqL.of q1), (by show 2 ≤ sizeLine; decide), fun b hb => ?_⟩
 have sb : Same H (upd H b (.lst [vN s.happened, .int ((ts.map V.ref).length : Nat)])) := Same.new hb
 refine ⟨_, rfl, _, _, _, _, rfl, sb _ _ hp1, rfl, _, rfl, ⟨_, SqL.of (sb _ _ q1)⟩, ?_⟩
 refine for_list (K := K) (a := A.lg) (xs := ts.map V.ref) (fun i σ H' => ∃ v : Option V, σ = [some (.ref A.p), some (.ref b), v] ∧ Same H H' ∧ H' b = some (.lst ((Int.ofNat s.happened :: Int.ofNat s.log.length :: (s.log.take i).flatMap fun e => [Int.ofNat e.time, Int.ofNat e.kind, Int.ofNat e.what]).map V.int)))
  ⟨none, rfl, sb, by rw [upd_same, List.length_map, q2]; rfl⟩ (fun i σ H' _ ⟨_, _, sm, _⟩ => SqL.of (sm _ _ q1)) ?_ ?_
 ·rintro i y σ H' hi ⟨v, rfl, sm, hb'⟩
  obtain ⟨t, ht, rfl⟩ := map_at hi
  have hil : i < s.log.length := by
   rw [← q2]
   exact (List.getElem?_eq_some_iff.mp ht).1
  have he := List.getElem?_eq_getElem hil
  have hte := sm _ _ (q3 i t _ ht he)
  refine ⟨_, rfl, .inl ⟨rfl, _, SqL.of hb'⟩, _, rfl, b, t, _, _, rfl, rfl, hb', SqT.of hte, ?_, ⟨_, rfl, ?_, ?_⟩⟩
  ·rw [List.length_map, List.length_cons, List.length_cons]
   have e3 : ((s.log.take i).flatMap fun e => [Int.ofNat e.time, Int.ofNat e.kind, Int.ofNat e.what]).length = 3 * (s.log.take i).length := by
    generalize s.log.take i = l
    induction l with
    | nil => rfl
    | cons a r ih => rw [List.flatMap_cons, List.length_append, ih]; show 3 + 3 * r.length = 3 * (r.length + 1); omega
   rw [e3, List.length_take]
   show _ + 3 ≤ sizeLine
   omega
  ·exact fun c o e => by
    rw [upd_ne (ne_of_none e hb)]
    exact sm c o e
  ·rw [upd_same, take_snoc he, List.flatMap_append, ← List.cons_append, ← List.cons_append, List.map_append]
   rfl
 ·rintro σ H' ⟨v, rfl, sm, hb'⟩
  rw [List.length_map, q2, List.take_length] at hb'
  exact ⟨_, rfl, k H' b sm hb hb'⟩
theorem ok_53 (T : Tx K mg d) : FnOk P w K mg base CX0 3 d.f_53 d.d_53 ["panel", "number"] (sp_tell1 d tTold) := by
 refine T.F_53.ok sc_53 (fun vs H Q E h => ?_) (fun cdv Ar outer s0 H vs Q E hr h => ?_)
 ·obtain ⟨A, s, n, rfl, hG, k⟩ := h
  rfl
 obtain ⟨A, s, n, rfl, hG, k⟩ := h
 refine ⟨_, (pss_cons (ps_if (pt_not (pt_val (pe_call (ok_7 T) (hr.mono (by decide)) rfl T.mg_7 T.F_7.kp T.b_7 .nil pass0 (pa_cons (pv 0) (pa_cons (pv 1) pa_nil))))) (pss_one (ps_ret (pe_lst (pa_cons (pe_cst rfl T.c_OUT_OF_RANGE) pa_nil)))) pss_nil) (pss_cons (ps_sA (i := 2) sc_53.nd rfl (pe_ix ix_list (pe_at T.cl_Panel T.n_Panel_warnings (pv 0)) (pv 1) (fun _ _ => rfl))) (pss_cons (ps_sA (i := 3) sc_53.nd rfl (pe_lst (pa_cons (pe_at T.cl_SW T.n_SW_cause (pv 2)) (pa_cons (pe_at T.cl_SW T.n_SW_needed (pv 2)) (pa_cons (pe_at T.cl_SW T.n_SW_rank (pv 2)) (pa_cons (pe_at T.cl_SW T.n_SW_on_delay (pv 2)) (pa_cons (pe_at T.cl_SW T.n_SW_off_delay (pv 2)) (pa_cons (pe_at T.cl_SW T.n_SW_latch (pv 2)) pa_nil)))))))) (pss_cons (ps_for PassesOwn.never rfl (pi_tup (pe_tup (pa_cons (pe_at T.cl_SW T.n_SW_parts (pv 2)) (pa_cons (pe_at T.cl_SW T.n_SW_phases (pv 2)) (pa_cons (pe_at T.cl_SW T.n_SW_covers (pv 2)) pa_nil))))) (pg_name (i := 4) sc_53.nd rfl (Or.inl rfl) (Or.inl rfl)) (pss_one (ps_expr (pe_bm PySem.F.plainAttrs_list PySem.F.slot_list_extend PySem.F.type_list_extend mt_extend (pv 3) (pa_cons (pe_call (ok_47 T) (hr.mono (by decide)) rfl T.mg_47 T.F_47.kp T.b_47 .nil pass0 (pa_cons (pv 4) pa_nil)) pa_nil))))) (pss_one (ps_ret (pv 3))))))), ?_⟩
 have hbig : (2001 : Nat) ≤ sizeLine := by decide
 refine ⟨_, rfl, _, rfl, A, s, n, rfl, hG.at_, _, rfl, ?_⟩
 unfold tTold Vbavag.step at k
 dsimp only at k
 cases h1 : Vbavag.isThere s n with
 | false =>
  rw [if_pos h1] at k
  exact iteT ⟨one_line, fun p hp => k.fin (Same.refl _) hp rfl⟩
 | true =>
  rw [if_neg (by rw [h1]; decide)] at k
  obtain ⟨i, rfl, hi⟩ := isThere_nat h1
  obtain ⟨dp, hp1⟩ := hG.at_.obj
  obtain ⟨a, w, x, r, ha, hw, hx, ⟨dx, hwa⟩, hr'⟩ := hG.at_.get hi
  have e1 : toldOf s i = w := by
   unfold toldOf
   rw [List.getD_eq_getElem?_getD, hw]
   rfl
  rw [Int.toNat_natCast, e1] at k
  obtain ⟨z1, z2, z3, _⟩ := hG.short w (List.mem_of_getElem? hw)
  refine iteF ⟨_, rfl, _, _, _, _, rfl, hp1, rfl, _, rfl, _, _, _, _, rfl, rfl, SqL.of hG.at_.war, at_map ha, ?_⟩
  refine ⟨_, rfl, _, _, _, _, rfl, hwa, rfl, _, rfl, _, _, _, _, rfl, hwa, rfl, _, rfl, _, _, _, _, rfl, hwa, rfl, _, rfl, _, _, _, _, rfl, hwa, rfl, _, rfl, _, _, _, _, rfl, hwa, rfl, _, rfl, _, _, _, _, rfl, hwa, rfl, (by show 6 ≤ sizeLine; decide), fun b hb => ?_⟩
  have sb : ∀ o, Same H (upd H b o) := fun o => Same.new hb
  refine ⟨_, rfl, _, _, _, _, rfl, sb _ _ _ hwa, rfl, _, rfl, _, _, _, _, rfl, sb _ _ _ hwa, rfl, _, rfl, _, _, _, _, rfl, sb _ _ _ hwa, rfl, (by show 3 ≤ sizeLine; decide), fun tp htp => ⟨tp, rfl, ⟨_, SqT.of upd_same⟩, ?_⟩⟩
  have nbt : b ≠ tp := ne_of_none upd_same htp
  have st := (sb (.lst [vN w.cause, vN w.need, vN w.rank, vN w.onDelay, vN w.offDelay, .int (b01 w.latch)])).trans (Same.new (o := .tup [.ref r.1, .ref r.2.1, .ref r.2.2]) htp)
  have nHt : H tp = none := (sb _).free htp
  refine for_tup (K := K) (a := tp) (xs := [.ref r.1, .ref r.2.1, .ref r.2.2]) (fun i σ H' => ∃ v : Option V, σ = [some (.ref A.p), some (.int _), some (.ref a), some (.ref b), v] ∧ Same H H' ∧ H' tp = some (.tup [.ref r.1, .ref r.2.1, .ref r.2.2]) ∧ H' b = some (.lst (([Int.ofNat w.cause, Int.ofNat w.need, Int.ofNat w.rank, Int.ofNat w.onDelay, Int.ofNat w.offDelay, Vbavag.bit w.latch] ++ (([w.parts, w.phases, w.covers].take i).flatMap Vbavag.row)).map V.int)))
   ⟨none, rfl, st, upd_same, by rw [upd_ne nbt, upd_same]; rfl⟩ (fun i σ H' _ ⟨_, _, _, ht, _⟩ => SqT.of ht) ?_ ?_
  ·rintro j y σ H' hj ⟨v, rfl, sm, ht', hb'⟩
   obtain ⟨rr, l, rfl, hl, hll, hlr⟩ : ∃ (rr : Addr) (l : List Nat), y = .ref rr ∧ H rr = some (.lst (l.map vN)) ∧ l.length ≤ 32 ∧ [w.parts, w.phases, w.covers][j]? = some l := by
    match j, hj with
    | 0, hj => exact ⟨r.1, w.parts, (Option.some.inj hj).symm, hr'.p, z1, rfl⟩
    | 1, hj => exact ⟨r.2.1, w.phases, (Option.some.inj hj).symm, hr'.h, z2, rfl⟩
    | 2, hj => exact ⟨r.2.2, w.covers, (Option.some.inj hj).symm, hr'.c, z3, rfl⟩
    | j + 3, hj => exact absurd hj (by simp)
   refine ⟨_, rfl, .inl ⟨rfl, _, SqL.of hb'⟩, _, rfl, rr, l.map vN, rfl, sm _ _ hl, by rw [List.length_map]; omega, fun H2 p s2 np hp => ⟨b, p, _, _, rfl, rfl, s2 _ _ hb', hp, ?_, ⟨_, rfl, ?_, ?_, ?_⟩⟩⟩
   ·rw [List.length_map, List.length_append]
    have e3 : (([w.parts, w.phases, w.covers].take j).flatMap Vbavag.row).length ≤ 99 := by
     have q : ∀ l : List Nat, (Vbavag.row l).length = l.length + 1 := fun l => by
      unfold Vbavag.row Vbavag.ints
      rw [List.length_cons, List.length_map]
     match j with
     | 0 => exact Nat.zero_le _
     | 1 => simp [q]; omega
     | 2 => simp [q]; omega
     | j + 3 => simp [q]; omega
    show 6 + (([w.parts, w.phases, w.covers].take j).flatMap Vbavag.row).length + ((l.map vN).length + 1) ≤ sizeLine
    rw [List.length_map]
    omega
   ·exact fun c o e => by
     rw [upd_ne (ne_of_none e hb)]
     exact s2 c o (sm c o e)
   ·rw [upd_ne nbt.symm]
    exact s2 _ _ ht'
   ·rw [upd_same, take_snoc hlr, List.flatMap_append, ← List.append_assoc, List.map_append (l₂ := [l].flatMap Vbavag.row)]
    have e5 : ([l].flatMap Vbavag.row).map V.int = V.int ((l.map vN).length : Nat) :: l.map vN := by
     rw [List.flatMap_cons, List.flatMap_nil, List.append_nil, row_int]
    rw [e5]
  ·rintro σ H' ⟨v, rfl, sm, ht', hb'⟩
   refine ⟨_, rfl, k H' b sm hb ?_⟩
   rw [hb']
   show some (HO.lst (List.map V.int ([_, _, _, _, _, _] ++ (Vbavag.row w.parts ++ (Vbavag.row w.phases ++ (Vbavag.row w.covers ++ [])))))) = _
   rw [List.append_nil]
   rfl
theorem ok_57 (T : Tx K mg d) : FnOk P w K mg base CX0 2 d.f_57 d.d_57 ["panel"] (sp_tell0 d tState) := by
 refine T.F_57.ok sc_57 (fun vs H Q E h => ?_) (fun cdv Ar outer s0 H vs Q E hr h => ?_)
 ·obtain ⟨A, s, rfl, hG, k⟩ := h
  rfl
 obtain ⟨A, s, rfl, hG, k⟩ := h
 refine ⟨_, (pss_cons (ps_setLc (i := 3) rfl sc_57.nd rfl rfl (sw_true rfl rfl rfl rfl) (pi_enum rfl T.no_enumerate (pa_cons (pe_at T.cl_Panel T.n_Panel_causes (pv 0)) pa_nil)) (blkOk_by (own := [("cause", 1), ("on", 2)]) rfl) (fun _ _ _ _ _ => (pgTwo (K := K) rfl rfl (pg_name (i := 1) sc_57.nd rfl (Or.inl rfl) (Or.inr rfl)) (pg_name (i := 2) sc_57.nd rfl (Or.inl rfl) (Or.inr rfl)))) (fun _ _ _ _ _ => (pts_one (pt_val (pv 2)))) (fun _ _ _ _ _ => (pv 1))) (pss_one (ps_ret (pe_op op_cat (pe_op op_cat (pe_lst (pa_cons (pe_at T.cl_Panel T.n_Panel_clock (pv 0)) (pa_cons (pe_at T.cl_Panel T.n_Panel_phase (pv 0)) pa_nil))) (pe_call (ok_47 T) (hr.mono (by decide)) rfl T.mg_47 T.F_47.kp T.b_47 .nil pass0 (pa_cons (pv 3) pa_nil))) (pe_lst (pa_cons (pe_callB call_len_seq rfl T.no_len bt_len (pa_cons (pe_at T.cl_Panel T.n_Panel_warnings (pv 0)) pa_nil)) pa_nil)))))), ?_⟩
 have hbig : (2001 : Nat) ≤ sizeLine := by decide
 have hP := hG.at_
 obtain ⟨dp, hp1⟩ := hP.obj
 refine ⟨_, rfl, _, _, _, _, rfl, hp1, rfl, _, _, rfl, SqL.of hP.cau, ?_⟩
 intro q hq
 refine lc_enum (K := K) (a := A.lc) (xs := (List.range 32).map fun c => V.bl (Vbavag.has s.on c)) (i1 := 1) (i2 := 2) (fun i H' => Same H H' ∧ i ≤ 32 ∧ H' q = some (.lst (((List.range i).filter (Vbavag.has s.on)).map vN)))
  ⟨Same.new hq, by omega, upd_same⟩ (fun i H' _ ⟨sm, _⟩ => SqL.of (sm _ _ hP.cau)) ?_ ?_
 ·rintro i y H' T' hi ⟨sm, _, hq'⟩ hT'
  obtain ⟨c, hc, rfl⟩ := map_at hi
  have hi2 : i < 32 := by
   have := (List.getElem?_eq_some_iff.mp hc).1
   rw [List.length_range] at this
   exact this
  obtain rfl : i = c := by
   rw [List.getElem?_range hi2] at hc
   exact Option.some.inj hc
  have s2 : Same H (upd H' T' (.tup [.int (i : Nat), .bl (Vbavag.has s.on i)])) := sm.trans (Same.new hT')
  have hq2 : upd H' T' (.tup [.int (i : Nat), .bl (Vbavag.has s.on i)]) q = some (.lst (((List.range i).filter (Vbavag.has s.on)).map vN)) := Same.new hT' _ _ hq'
  generalize upd H' T' (.tup [.int (i : Nat), .bl (Vbavag.has s.on i)]) = H2 at s2 hq2
  have up : ((List.range (i + 1)).filter (Vbavag.has s.on)) = ((List.range i).filter (Vbavag.has s.on)) ++ if Vbavag.has s.on i = true then [i] else [] := by
   rw [List.range_succ, List.filter_append]
   congr 1
   rw [List.filter_cons]
   rfl
  refine ⟨rfl, _, rfl, _, rfl, ?_⟩
  cases hh : Vbavag.has s.on i with
  | false =>
   rw [hh] at up
   refine iteF ⟨s2, by omega, ?_⟩
   rw [up, if_neg (by decide), List.append_nil]
   exact hq2
  | true =>
   rw [hh] at up
   refine iteT ⟨_, rfl, _, hq2, ?_, fun c o e => ?_, by omega, ?_⟩
   ·rw [List.length_map]
    have := List.length_filter_le (Vbavag.has s.on) (List.range i)
    rw [List.length_range] at this
    omega
   ·rw [upd_ne (ne_of_none e hq)]
    exact s2 c o e
   ·rw [up, if_pos rfl, upd_same, List.map_append]
    rfl
 ·rintro H1 ⟨s1, _, hq1⟩
  rw [List.length_map, List.length_range, ← hG.wf.on] at hq1
  have hlo : s.on.length ≤ 32 := by
   rw [hG.wf.on]
   have := List.length_filter_le (Vbavag.has s.on) (List.range 32)
   rw [List.length_range] at this
   exact this
  have hp2 := s1 _ _ hp1
  refine ⟨_, rfl, _, _, _, _, rfl, hp2, rfl, _, rfl, _, _, _, _, rfl, hp2, rfl, (by show 2 ≤ sizeLine; decide), fun b hb => ?_⟩
  have s2 : ∀ o, Same H1 (upd H1 b o) := fun o => Same.new hb
  refine ⟨_, rfl, q, s.on.map vN, rfl, s2 _ _ _ hq1, by rw [List.length_map]; omega, fun H3 p s3 np hp => ⟨_, _, _, _, rfl, rfl, s3 _ _ upd_same, hp, ?_, fun b2 hb2 => ?_⟩⟩
  ·show 2 + ((s.on.map vN).length + 1) ≤ sizeLine
   rw [List.length_map]
   omega
  ·have s4 : ∀ o, Same H3 (upd H3 b2 o) := fun o => Same.new hb2
   have sH : ∀ o, Same H (upd H3 b2 o) := fun o => ((s1.trans (s2 _)).trans s3).trans (s4 o)
   refine ⟨_, rfl, _, _, _, _, rfl, sH _ _ _ hp1, rfl, _, _, rfl, .inl (SqL.of (sH _ _ _ hP.war)), one_line, fun b3 hb3 => ⟨_, _, _, _, rfl, rfl, Same.new hb3 _ _ upd_same, upd_same, ?_, fun b4 hb4 => ?_⟩⟩
   ·rw [List.length_append]
    show 2 + ((s.on.map vN).length + 1) + 1 ≤ sizeLine
    rw [List.length_map]
    omega
   ·refine k.fin ((sH _).trans (Same.new hb3)) hb4 ?_
    have e9 : tState s = [Int.ofNat s.now, Int.ofNat s.phase] ++ (Vbavag.row s.on ++ [Int.ofNat s.told.length]) := rfl
    rw [e9, List.map_append, List.map_append, row_int, List.length_map, List.length_map, hP.la, List.append_assoc]
    rfl
end
def TlT (d : Ad) (H : Hp) (ans : List Int) (Q : VK) : Prop := ∀ H' p, TabL d H' → KpT d H H' → H p = none → H' p = some (.lst (ans.map V.int)) → Q (.ref p) H'
theorem TlT.fin {d : Ad} {H H1 : Hp} {ans : List Int} {Q : VK} (k : TlT d H ans Q) (t1 : TabL d H1) (k1 : KpT d H H1) {p : Addr} (hp : H1 p = none) {xs : List V} (e : xs = ans.map V.int) : Q (.ref p) (upd H1 p (.lst xs)) :=
 k _ p (t1.same (Same.new hp)) (k1.trans (KpT.of_same (Same.new hp))) (k1.free t1 hp) (by rw [upd_same, e])
theorem TlT.tl {d : Ad} {H : Hp} {ans : List Int} {Q : VK} (k : TlT d H ans Q) (t : TabL d H) : Tl H ans Q := fun H' p s np hp => k H' p (t.same s) (KpT.of_same s) np hp
def sp_tlist (d : Ad) : Sp := fun vs H Q _ => ∃ (A : Pl) (s : Panel), vs = [.ref A.p] ∧ Rd1 d H A s ∧ TabL d H ∧ TlT d H (listRow s) Q
def sp_tellT0 (d : Ad) (f : Panel → List Int) : Sp := fun vs H Q _ => ∃ (A : Pl) (s : Panel), vs = [.ref A.p] ∧ Good d H A s ∧ TabL d H ∧ TlT d H (f s) Q
def sp_tellT1 (d : Ad) (f : Panel → Int → List Int) : Sp := fun vs H Q _ => ∃ (A : Pl) (s : Panel) (n : Int), vs = [.ref A.p, .int n] ∧ Good d H A s ∧ TabL d H ∧ TlT d H (f s n) Q
def sp_tellT2 (d : Ad) (f : Panel → Int → Int → List Int) : Sp := fun vs H Q _ => ∃ (A : Pl) (s : Panel) (n m : Int), vs = [.ref A.p, .int n, .int m] ∧ Good d H A s ∧ TabL d H ∧ TlT d H (f s n m) Q
def tNext (s : Panel) : List Int := (Vbavag.step s .next).2
def tAhead (s : Panel) (n : Int) : List Int := (Vbavag.step s (.ahead n)).2
def tPage (s : Panel) (n m : Int) : List Int := (Vbavag.step s (.page n m)).2
def tWhy (s : Panel) (n : Int) : List Int := (Vbavag.step s (.why n)).2
theorem listed_lt {s : Panel} {n : Nat} (h : n ∈ listed s) : n < s.told.length := List.mem_range.mp (List.mem_filter.mp ((listed_perm s).mem_iff.mp h)).1
theorem listed_le (s : Panel) : (listed s).length ≤ s.told.length := by
 rw [listed_length]
 exact shownOnes_le s
theorem flat4 {α : Type} (f : α → List Int) (hf : ∀ a, (f a).length = 4) : ∀ l : List α, (l.flatMap f).length = 4 * l.length
 | [] => rfl
 | a :: r => by
  rw [List.flatMap_cons, List.length_append, hf, flat4 f hf r, List.length_cons]
  omega
theorem cut_page (l : List Nat) (n p : Nat) : cutV (l.map vN) (some ((p : Int) * (n : Int))) (some (((p : Int) + 1) * (n : Int))) = ((l.drop (n * p)).take n).map vN := by
 have e1 : (p : Int) * (n : Int) = ((n * p : Nat) : Int) := by rw [Int.natCast_mul, Int.mul_comm]
 have e2 : ((p : Int) + 1) * (n : Int) = ((n * p + n : Nat) : Int) := by rw [Int.natCast_add, Int.natCast_mul, Int.add_mul, Int.one_mul, Int.mul_comm (p : Int)]
 unfold cutV
 rw [e1, e2, HT.sIx_nat, HT.sIx_nat, List.length_map]
 by_cases h : n * p ≤ l.length
 ·rw [Nat.min_eq_left h, List.map_take, List.map_drop]
  by_cases h2 : n * p + n ≤ l.length
  ·rw [Nat.min_eq_left h2, Nat.add_sub_cancel_left]
  ·rw [Nat.min_eq_right (by omega), List.take_of_length_le (by rw [List.length_drop, List.length_map]; omega), List.take_of_length_le (by rw [List.length_drop, List.length_map]; omega)]
 ·rw [Nat.min_eq_right (by omega), List.drop_of_length_le (by rw [List.length_map]; omega), List.drop_of_length_le (by omega)]
  simp
theorem pages_int (l n : Nat) (h : 1 ≤ n) : ((l : Int) + (n : Int) - 1) / (n : Int) = Int.ofNat ((l + n - 1) / n) := by
 have e : (l : Int) + (n : Int) - 1 = ((l + n - 1 : Nat) : Int) := by omega
 rw [e]
 exact (Int.natCast_ediv (l + n - 1) n).symm
theorem cov_shown {s : Panel} (hw : Wf s) {i : Nat} {w : Told} (h : s.told[i]? = some w) : (w.covers.any fun j => (shownUp s i).getD j false) = w.covers.any (isShown s) := by
 have hi := (List.getElem?_eq_some_iff.mp h).1
 rw [Bool.eq_iff_iff, List.any_eq_true, List.any_eq_true]
 have e : ∀ j ∈ w.covers, (shownUp s i).getD j false = isShown s j := fun j hj => by
  have hji := hw.covers i w h j hj
  unfold isShown
  rw [← shown_take hw.len (Nat.le_of_lt hi), List.getD_eq_getElem?_getD, List.getD_eq_getElem?_getD, List.getElem?_take_of_lt hji]
 constructor
 ·rintro ⟨j, h1, h2⟩
  exact ⟨j, h1, by rw [← e j h1]; exact h2⟩
 ·rintro ⟨j, h1, h2⟩
  exact ⟨j, h1, by rw [e j h1]; exact h2⟩
theorem covered_min {s : Panel} {w : Told} (hs : w.covers.Pairwise (· < ·)) (ha : w.covers.any (isShown s) = true) {m : Int} (h1 : m ∈ (w.covers.filter (isShown s)).map fun n : Nat => (n : Int)) (h2 : ∀ y, y ∈ (w.covers.filter (isShown s)).map (fun n : Nat => (n : Int)) → m ≤ y) : m = Int.ofNat ((w.covers.find? (isShown s)).getD 99) := by
 cases hf : w.covers.filter (isShown s) with
 | nil =>
  rw [hf] at h1
  cases h1
 | cons a r =>
  have e : w.covers.find? (isShown s) = some a := by
   rw [← List.head?_filter, hf]
   rfl
  have hp : (a :: r).Pairwise (· < ·) := by
   rw [← hf]
   exact hs.filter _
  rw [hf] at h1 h2
  rw [e]
  show m = (a : Int)
  have q1 := h2 a (by simp)
  obtain ⟨b, hb, rfl⟩ := List.mem_map.mp h1
  rcases List.mem_cons.mp hb with rfl | hb
  ·rfl
  ·have := (List.pairwise_cons.mp hp).1 b hb
   omega
section
variable {P : Program} {w : World} {K : PySem.W.Frag} {mg : Str → Option Value} {base : Heap} {d : Ad}
theorem ok_48 (T : Tx K mg d) (hB : Bs base mg d) : FnOk P w K mg base CX0 4 d.f_48 d.d_48 ["panel"] (sp_tlist d) := by
 refine T.F_48.ok sc_48 (fun vs H Q E h => ?_) (fun cdv Ar outer s0 H vs Q E hr h => ?_)
 ·obtain ⟨A, s, rfl, hR, tab, k⟩ := h
  rfl
 obtain ⟨A, s, rfl, hR, tab, k⟩ := h
 refine ⟨_, (pss_cons (ps_sA (i := 1) sc_48.nd rfl (pe_call (ok_13 T hB) (hr.mono (by decide)) rfl T.mg_13 T.F_13.kp T.b_13 .nil pass0 (pa_cons (pv 0) pa_nil))) (pss_cons (ps_sA (i := 2) sc_48.nd rfl (pe_lst (pa_cons (pe_callB call_len_seq rfl T.no_len bt_len (pa_cons (pv 1) pa_nil)) pa_nil))) (pss_cons (ps_for PassesOwn.never rfl (pi_list (pv 1)) (pg_name (i := 3) sc_48.nd rfl (Or.inl rfl) (Or.inl rfl)) (pss_cons (ps_sA (i := 4) sc_48.nd rfl (pe_ix ix_list (pe_at T.cl_Panel T.n_Panel_warnings (pv 0)) (pv 3) (fun _ _ => rfl))) (pss_one (ps_expr (pe_bm PySem.F.plainAttrs_list PySem.F.slot_list_extend PySem.F.type_list_extend mt_extend (pv 2) (pa_cons (pe_lst (pa_cons (pv 3) (pa_cons (pe_at T.cl_SW T.n_SW_rank (pv 4)) (pa_cons (pe_at T.cl_SW T.n_SW_came_at (pv 4)) (pa_cons (pe_callTy call_int1 rfl T.no_int bt_int (pa_cons (pe_at T.cl_SW T.n_SW_acknowledged (pv 4)) pa_nil)) pa_nil))))) pa_nil)))))) (pss_one (ps_ret (pv 2)))))), ?_⟩
 have hbig : (2001 : Nat) ≤ sizeLine := by decide
 have few := hR.few
 have hll := listed_le s
 refine ⟨_, rfl, A, s, rfl, hR, tab, fun H1 q nq hq tab1 k1 => ⟨_, rfl, _, _, rfl, .inl (SqL.of hq), one_line, fun b hb => ?_⟩⟩
 have hR1 := hR.keepP (k1.keepP tab)
 have sb : Same H1 (upd H1 b (.lst [.int (((listed s).map vN).length : Nat)])) := Same.new hb
 refine ⟨_, rfl, _, rfl, ⟨_, SqL.of (sb _ _ hq)⟩, ?_⟩
 refine for_list (K := K) (a := q) (xs := (listed s).map vN) (fun i σ H' => ∃ v v2 : Option V, σ = [some (.ref A.p), some (.ref q), some (.ref b), v, v2] ∧ Same H1 H' ∧ H' b = some (.lst ((Int.ofNat (listed s).length :: ((listed s).take i).flatMap fun i => [Int.ofNat i, Int.ofNat (toldOf s i).rank, Int.ofNat (standOf s i).since, Vbavag.bit (standOf s i).acked]).map V.int)))
  ⟨none, none, rfl, sb, by rw [upd_same, List.length_map]; rfl⟩ (fun i σ H' _ ⟨_, _, _, sm, _⟩ => SqL.of (sm _ _ hq)) ?_ ?_
 ·rintro i y σ H' hi ⟨v, v2, rfl, sm, hb'⟩
  obtain ⟨n, hn, rfl⟩ := map_at hi
  have hn' := listed_lt (List.mem_of_getElem? hn)
  have hR' := hR1.same sm
  obtain ⟨dp, hp⟩ := hR'.at_.obj
  obtain ⟨a, w, x, r, ha, hw, hx, ⟨dx, hwa⟩, hr'⟩ := hR'.at_.get hn'
  have hi2 := (List.getElem?_eq_some_iff.mp hn).1
  refine ⟨_, rfl, _, _, _, _, rfl, hp, rfl, _, rfl, _, _, _, _, rfl, rfl, SqL.of hR'.at_.war, at_map ha, ?_⟩
  refine ⟨_, rfl, .inl ⟨rfl, _, SqL.of hb'⟩, _, rfl, _, rfl, _, _, _, _, rfl, hwa, rfl, _, rfl, _, _, _, _, rfl, hwa, rfl, _, rfl, _, _, _, _, rfl, hwa, rfl, .inr ⟨_, rfl, (by show 4 ≤ sizeLine; decide), fun c hc => ⟨b, c, _, _, rfl, rfl, Same.new hc _ _ hb', upd_same, ?_, _, _, rfl, fun e o ho => ?_, ?_⟩⟩⟩
  ·rw [List.length_map, List.length_cons, flat4 _ (fun _ => rfl), List.length_take]
   show _ + 4 ≤ sizeLine
   omega
  ·rw [upd_ne (ne_of_none ho hb)]
   exact Same.new hc _ _ (sm e o ho)
  ·rw [upd_same, take_snoc hn, List.flatMap_append, ← List.cons_append, List.map_append, List.flatMap_cons, List.flatMap_nil, toldOf_at hw, standOf_at hx]
   rfl
 ·rintro σ H' ⟨v, v2, rfl, sm, hb'⟩
  rw [List.length_map, List.take_length] at hb'
  exact ⟨_, rfl, k H' b (tab1.same sm) (k1.trans (KpT.of_same sm)) (k1.free tab1 hb) hb'⟩
theorem ok_49 (T : Tx K mg d) (hB : Bs base mg d) : FnOk P w K mg base CX0 4 d.f_49 d.d_49 ["panel", "on_each", "page"] (sp_tellT2 d tPage) := by
 refine T.F_49.ok sc_49 (fun vs H Q E h => ?_) (fun cdv Ar outer s0 H vs Q E hr h => ?_)
 ·obtain ⟨A, s, n, m, rfl, hG, tab, k⟩ := h
  rfl
 obtain ⟨A, s, n, m, rfl, hG, tab, k⟩ := h
 refine ⟨_, (pss_cons (ps_if (pt_not (pt_val (pe_call (ok_3 T) (hr.mono (by decide)) rfl T.mg_3 T.F_3.kp T.b_3 .nil pass0 (pa_cons (pe_lst (pa_cons (pv 1) (pa_cons (pv 2) pa_nil))) (pa_cons (pe_glob (v := .ref d.t_PAGE_RANGES) rfl T.mg_PAGE_RANGES rfl) pa_nil))))) (pss_one (ps_ret (pe_lst (pa_cons (pe_cst rfl T.c_OUT_OF_RANGE) pa_nil)))) pss_nil) (pss_cons (ps_sA (i := 3) sc_49.nd rfl (pe_call (ok_13 T hB) (hr.mono (by decide)) rfl T.mg_13 T.F_13.kp T.b_13 .nil pass0 (pa_cons (pv 0) pa_nil))) (pss_cons (ps_sA (i := 4) sc_49.nd rfl (pe_op op_fdiv (pe_op op_sub (pe_op op_add (pe_callB call_len_seq rfl T.no_len bt_len (pa_cons (pv 3) pa_nil)) (pv 1)) pe_int) (pv 1))) (pss_one (ps_ret (pe_op op_cat (pe_lst (pa_cons (pv 4) pa_nil)) (pe_call (ok_47 T) (hr.mono (by decide)) rfl T.mg_47 T.F_47.kp T.b_47 .nil pass0 (pa_cons (pe_slice sl_list (pv 3) (po_some (pe_op op_mul (pv 2) (pv 1))) (po_some (pe_op op_mul (pe_op op_add (pv 2) pe_int) (pv 1)))) pa_nil)))))))), ?_⟩
 have hbig : (2001 : Nat) ≤ sizeLine := by decide
 have few := hG.wf.few
 have hll := listed_le s
 refine ⟨_, rfl, _, rfl, (by show 2 ≤ sizeLine; decide), fun l hl => ⟨l, d.t_PAGE_RANGES, [n, m], [(1, 8), (0, 23)], rfl, SqL.of upd_same, rng2 T.k_PAGE_RANGES T.k_PAGE_RANGES_0 T.k_PAGE_RANGES_1, rfl, (by show 2 ≤ 1000; decide), fun H1 s1 => ⟨_, rfl, ?_⟩⟩⟩
 have sA : Same H H1 := (Same.new hl).trans s1
 have hG1 := hG.same sA
 have ew : within [n, m] [(1, 8), (0, 23)] = (Vbavag.inR n 1 8 && Vbavag.inR m 0 23) := by
  show (Vbavag.inR n 1 8 && (Vbavag.inR m 0 23 && true)) = _
  rw [Bool.and_true]
 rw [ew]
 unfold tPage Vbavag.step at k
 dsimp only at k
 cases h1 : (Vbavag.inR n 1 8 && Vbavag.inR m 0 23) with
 | false =>
  rw [if_pos h1] at k
  exact iteT ⟨one_line, fun p hp => k.fin (tab.same sA) (KpT.of_same sA) hp rfl⟩
 | true =>
  rw [if_neg (by rw [h1]; decide)] at k
  have h2 := Bool.and_eq_true_iff.mp h1
  obtain ⟨hn0, hn1⟩ := inR_nat h2.1
  obtain ⟨hm0, hm1⟩ := inR_nat h2.2
  obtain ⟨i, rfl⟩ : ∃ i : Nat, n = (i : Int) := ⟨n.toNat, by omega⟩
  obtain ⟨j, rfl⟩ : ∃ j : Nat, m = (j : Int) := ⟨m.toNat, by omega⟩
  rw [Int.toNat_natCast, Int.toNat_natCast] at k
  refine iteF ⟨_, rfl, A, s, rfl, hG1.rd, tab.same sA, fun H2 q nq hq tab2 k2 => ?_⟩
  have kA : KpT d H H2 := (KpT.of_same sA).trans k2
  refine ⟨_, rfl, _, _, rfl, .inl (SqL.of hq), _, rfl, _, _, rfl, rfl, _, _, rfl, rfl, _, rfl, _, _, rfl, rfl, ⟨by omega, by omega⟩, ?_⟩
  refine ⟨_, rfl, one_line, fun b hb => ⟨_, rfl, _, rfl, _, rfl, _, _, rfl, rfl, .inl ⟨by omega, by omega⟩, _, rfl, _, rfl, _, _, rfl, rfl, _, rfl, _, _, rfl, rfl, .inl ⟨by omega, by omega⟩, _, rfl, _, _, rfl, SqL.of (Same.new hb _ _ hq), fun c hc => ?_⟩⟩
  refine ⟨c, _, rfl, upd_same, ?_, fun H3 p s3 np hp => ⟨_, _, _, _, rfl, rfl, s3 _ _ (Same.new hc _ _ upd_same), hp, ?_, fun e he => ?_⟩⟩
  ·have := cutV_length ((listed s).map vN) (some ((j : Int) * (i : Int))) (some (((j : Int) + 1) * (i : Int)))
   rw [List.length_map] at this
   exact Nat.le_trans this (by omega)
  ·have := cutV_length ((listed s).map vN) (some ((j : Int) * (i : Int))) (some (((j : Int) + 1) * (i : Int)))
   rw [List.length_map] at this
   show 1 + ((cutV ((listed s).map vN) (some ((j : Int) * (i : Int))) (some (((j : Int) + 1) * (i : Int)))).length + 1) ≤ sizeLine
   omega
  ·have s23 : Same H2 H3 := ((Same.new hb).trans (Same.new hc)).trans s3
   refine k.fin (tab2.same s23) (kA.trans (KpT.of_same s23)) he ?_
   show V.int ((((listed s).map vN).length + (i : Int) - 1) / (i : Int)) :: (V.int ((cutV ((listed s).map vN) (some ((j : Int) * (i : Int))) (some (((j : Int) + 1) * (i : Int)))).length : Nat) :: cutV ((listed s).map vN) (some ((j : Int) * (i : Int))) (some (((j : Int) + 1) * (i : Int)))) = V.int (Int.ofNat (Vbavag.pages s i)) :: (Vbavag.row (((listed s).drop (i * j)).take i)).map V.int
   rw [cut_page, row_int, List.length_map (as := listed s), pages_int _ _ (by omega)]
   rfl
theorem ok_50 (T : Tx K mg d) : FnOk P w K mg base CX0 3 d.f_50 d.d_50 ["panel", "number"] (sp_tell1 d tWhy) := by
 refine T.F_50.ok sc_50 (fun vs H Q E h => ?_) (fun cdv Ar outer s0 H vs Q E hr h => ?_)
 ·obtain ⟨A, s, n, rfl, hG, k⟩ := h
  rfl
 obtain ⟨A, s, n, rfl, hG, k⟩ := h
 refine ⟨_, (pss_cons (ps_if (pt_not (pt_val (pe_call (ok_7 T) (hr.mono (by decide)) rfl T.mg_7 T.F_7.kp T.b_7 .nil pass0 (pa_cons (pv 0) (pa_cons (pv 1) pa_nil))))) (pss_one (ps_ret (pe_lst (pa_cons (pe_cst rfl T.c_OUT_OF_RANGE) pa_nil)))) pss_nil) (pss_cons (ps_sA (i := 2) sc_50.nd rfl (pe_ix ix_list (pe_at T.cl_Panel T.n_Panel_warnings (pv 0)) (pv 1) (fun _ _ => rfl))) (pss_cons (ps_sA (i := 3) sc_50.nd rfl (pe_call (ok_12 T) (hr.mono (by decide)) rfl T.mg_12 T.F_12.kp T.b_12 .nil pass0 (pa_cons (pv 0) pa_nil))) (pss_cons (ps_if (pt_not (pt_val (pe_at T.cl_SW T.n_SW_has_come (pv 2)))) (pss_one (ps_ret (pe_lst (pa_cons (pe_cst rfl T.c_NOT_COME) pa_nil)))) pss_nil) (pss_cons (ps_if (pt_cmpR op_in_seq (pv 1) (pv 3) (by with_unfolding_all rfl)) (pss_one (ps_ret (pe_lst (pa_cons (pe_cst rfl T.c_SHOWN) pa_nil)))) pss_nil) (pss_cons (ps_if (pt_val (pe_at T.cl_SW T.n_SW_cancelled (pv 2))) (pss_one (ps_ret (pe_lst (pa_cons (pe_cst rfl T.c_IS_CANCELLED) pa_nil)))) pss_nil) (pss_cons (ps_if (pt_val (pe_call (ok_10 T) (hr.mono (by decide)) rfl T.mg_10 T.F_10.kp T.b_10 .nil pass0 (pa_cons (pv 0) (pa_cons (pv 2) pa_nil)))) (pss_one (ps_ret (pe_lst (pa_cons (pe_cst rfl T.c_HELD_BACK) pa_nil)))) pss_nil) (pss_one (ps_ret (pe_lst (pa_cons (pe_cst rfl T.c_COVERED) (pa_cons (pe_callB (cr_min rfl) rfl T.no_min bt_min (pa_cons (pe_lc rfl sc_50.nd (pi_list (pe_at T.cl_SW T.n_SW_covers (pv 2))) (blkOk_by (own := [("cover", 4)]) rfl) (fun _ _ _ _ _ => (pg_name (i := 4) sc_50.nd rfl (Or.inl rfl) (Or.inr rfl))) (fun _ _ _ _ _ => (pts_one (pt_cmpR (inS (K := K) rfl) (pv 4) (pv 3) (by with_unfolding_all rfl)))) (fun _ _ _ _ _ => (pv 4))) pa_nil)) pa_nil)))))))))))), ?_⟩
 have hbig : (2001 : Nat) ≤ sizeLine := by decide
 refine ⟨_, rfl, _, rfl, A, s, n, rfl, hG.at_, _, rfl, ?_⟩
 unfold tWhy Vbavag.step at k
 dsimp only at k
 cases h1 : Vbavag.isThere s n with
 | false =>
  rw [if_pos h1] at k
  exact iteT ⟨one_line, fun p hp => k.fin (Same.refl _) hp rfl⟩
 | true =>
  rw [if_neg (by rw [h1]; decide)] at k
  obtain ⟨i, rfl, hi⟩ := isThere_nat h1
  obtain ⟨dp, hp1⟩ := hG.at_.obj
  obtain ⟨a, w, x, r, ha, hw, hx, ⟨dx, hwa⟩, hr'⟩ := hG.at_.get hi
  rw [Int.toNat_natCast] at k
  have ewhy : Vbavag.why s i = if x.come = false then 0 else if isShown s i = true then 1 else if x.cancelled = true then 2 else if held s.phase w x = true then 3 else 4 := by
   unfold Vbavag.why
   rw [toldOf_at hw, standOf_at hx]
  have fin : ∀ (v : Nat), Vbavag.why s i = v → v ≠ 4 → ∀ H1, Same H H1 → ∀ p, H1 p = none → Q (.ref p) (upd H1 p (.lst [vN v])) := fun v ev nv H1 s1 p hp => by
   rw [ev, if_neg nv] at k
   exact k.fin s1 hp rfl
  refine iteF ⟨_, rfl, _, _, _, _, rfl, hp1, rfl, _, rfl, _, _, _, _, rfl, rfl, SqL.of hG.at_.war, at_map ha, ?_⟩
  refine ⟨_, rfl, A, s, rfl, hG.rd, fun H1 p s1 np hp => ⟨_, rfl, _, _, _, _, rfl, s1 _ _ hwa, rfl, _, rfl, ?_⟩⟩
  cases h2 : x.come with
  | false =>
   rw [h2, if_pos rfl] at ewhy
   exact iteT ⟨one_line, fun q hq => fin 0 ewhy (by decide) H1 s1 q hq⟩
  | true =>
   rw [h2, if_neg (by decide)] at ewhy
   refine iteF ⟨_, rfl, _, rfl, p, _, rfl, .inl (SqL.of hp), rfl, flat_nats _, _, rfl, ?_⟩
   show if inV (vN i) ((nums (shown s)).map vN) = true then _ else _
   rw [inV_nats, dec_shown]
   cases h3 : isShown s i with
   | true =>
    rw [h3, if_pos rfl] at ewhy
    exact iteT ⟨one_line, fun q hq => fin 1 ewhy (by decide) H1 s1 q hq⟩
   | false =>
    rw [h3, if_neg (by decide)] at ewhy
    refine iteF ⟨_, rfl, _, _, _, _, rfl, s1 _ _ hwa, rfl, _, rfl, ?_⟩
    cases h4 : x.cancelled with
    | true =>
     rw [h4, if_pos rfl] at ewhy
     exact iteT ⟨one_line, fun q hq => fin 2 ewhy (by decide) H1 s1 q hq⟩
    | false =>
     rw [h4, if_neg (by decide)] at ewhy
     have hr1 : Rows A.ro H1 w r := ⟨s1 _ _ hr'.p, s1 _ _ hr'.h, s1 _ _ hr'.c, hr'.mp, hr'.mh, hr'.mc⟩
     refine iteF ⟨_, rfl, _, rfl, A, s, a, w, x, r, rfl, hG.at_.same s1, ⟨dx, s1 _ _ hwa⟩, hr1, _, rfl, ?_⟩
     cases h5 : held s.phase w x with
     | true =>
      rw [h5, if_pos rfl] at ewhy
      exact iteT ⟨one_line, fun q hq => fin 3 ewhy (by decide) H1 s1 q hq⟩
     | false =>
      rw [h5, if_neg (by decide)] at ewhy
      rw [ewhy, if_pos rfl] at k
      have hcov : w.covers.any (isShown s) = true := by
       rw [isShown_at hG.wf.len hw hx] at h3
       unfold vis at h3
       rw [h2, h4, h5, cov_shown hG.wf hw] at h3
       simpa using h3
      obtain ⟨_, _, z3, zp⟩ := hG.short w (List.mem_of_getElem? hw)
      refine iteF ⟨_, rfl, _, _, _, _, rfl, s1 _ _ hwa, rfl, _, rfl, ⟨_, SqL.of hr1.c⟩, ?_⟩
      intro D hD
      refine lc_list (K := K) (a := r.2.2) (xs := w.covers.map vN) (fun i H' => Same H1 H' ∧ H' D = some (.lst (((w.covers.take i).filter (isShown s)).map vN)))
       ⟨Same.new hD, upd_same⟩ (fun i H' _ ⟨sm, _⟩ => SqL.of (sm _ _ hr1.c)) ?_ ?_
      ·rintro i y H' hi ⟨sm, hD'⟩
       obtain ⟨n, hn, rfl⟩ := map_at hi
       refine ⟨rfl, _, rfl, _, rfl, p, _, rfl, .inl (SqL.of (sm _ _ hp)), rfl, flat_nats _, _, rfl, ?_⟩
       show if inV (vN n) ((nums (shown s)).map vN) = true then _ else _
       rw [inV_nats, dec_shown]
       have up := filter_take (isShown s) hn
       cases hs : isShown s n with
       | false =>
        rw [hs, if_neg (by decide), List.append_nil] at up
        refine iteF ⟨sm, ?_⟩
        rw [up]
        exact hD'
       | true =>
        rw [hs, if_pos rfl] at up
        refine iteT ⟨_, rfl, _, hD', ?_, fun c o e => ?_, ?_⟩
        ·rw [List.length_map]
         have q1 := List.length_filter_le (isShown s) (w.covers.take i)
         rw [List.length_take] at q1
         omega
        ·rw [upd_ne (ne_of_none e hD)]
         exact sm c o e
        ·rw [up, upd_same, List.map_append]
         rfl
      ·rintro H2 ⟨sm, hD'⟩
       rw [List.length_map, List.take_length] at hD'
       refine ⟨D, (w.covers.filter (isShown s)).map fun n : Nat => (n : Int), rfl, SqL.of (by rw [hD', List.map_map]; rfl), ?_, fun m hm1 hm2 => ⟨(by show 2 ≤ sizeLine; decide), fun q hq => k.fin (s1.trans sm) hq ?_⟩⟩
       ·rw [List.length_map]
        obtain ⟨c, hc1, hc2⟩ := List.any_eq_true.mp hcov
        exact List.length_pos_of_mem (List.mem_filter.mpr ⟨hc1, hc2⟩)
       ·rw [covered_min zp hcov hm1 hm2]
        unfold Vbavag.coveredBy
        rw [toldOf_at hw]
        rfl
theorem ok_55 (T : Tx K mg d) (hB : Bs base mg d) : FnOk P w K mg base CX0 7 d.f_55 d.d_55 ["panel"] (sp_tellT0 d tNext) := by
 refine T.F_55.ok sc_55 (fun vs H Q E h => ?_) (fun cdv Ar outer s0 H vs Q E hr h => ?_)
 ·obtain ⟨A, s, rfl, hG, tab, k⟩ := h
  rfl
 obtain ⟨A, s, rfl, hG, tab, k⟩ := h
 refine ⟨_, (pss_one (ps_ret (pe_lst (pa_cons (pe_call (ok_46 T hB) (hr.mono (by decide)) rfl T.mg_46 T.F_46.kp T.b_46 .nil pass0 (pa_cons (pv 0) (pa_cons (pe_cst rfl T.c_FARTHEST_NEXT) pa_nil))) pa_nil)))), ?_⟩
 exact ⟨_, rfl, A, s, 3600, rfl, hG, tab, fun H1 tab1 k1 => ⟨one_line, fun p hp => k.fin tab1 k1 hp rfl⟩⟩
theorem ok_56 (T : Tx K mg d) (hB : Bs base mg d) : FnOk P w K mg base CX0 8 d.f_56 d.d_56 ["panel", "seconds"] (sp_tellT1 d tAhead) := by
 refine T.F_56.ok sc_56 (fun vs H Q E h => ?_) (fun cdv Ar outer s0 H vs Q E hr h => ?_)
 ·obtain ⟨A, s, n, rfl, hG, tab, k⟩ := h
  rfl
 obtain ⟨A, s, n, rfl, hG, tab, k⟩ := h
 refine ⟨_, (pss_cons (ps_sA (i := 2) sc_56.nd rfl (pe_call (ok_9 T) (hr.mono (by decide)) rfl T.mg_9 T.F_9.kp T.b_9 .nil pass0 (pa_cons (pv 0) (pa_cons (pv 1) pa_nil)))) (pss_cons (ps_if (pt_cmpR op_ne (pv 2) pe_int (nomark _)) (pss_one (ps_ret (pe_lst (pa_cons (pv 2) pa_nil)))) pss_nil) (pss_one (ps_ret (pe_call (ok_48 T hB) (hr.mono (by decide)) rfl T.mg_48 T.F_48.kp T.b_48 .nil pass0 (pa_cons (pe_call (ok_45 T) (hr.mono (by decide)) rfl T.mg_45 T.F_45.kp T.b_45 .nil pass0 (pa_cons (pv 0) (pa_cons (pv 1) pa_nil))) pa_nil)))))), ?_⟩
 refine ⟨_, rfl, _, rfl, A, s, n, rfl, hG.at_, ?_⟩
 refine ⟨_, rfl, rfl, _, rfl, ?_⟩
 rw [dec_int]
 have ea : tAhead s n = match (Vbavag.tickCall s n).2 with
  | [_, _, _] => listRow (seconds n.toNat s)
  | l => l := rfl
 unfold Vbavag.tickCall at ea
 cases h1 : Vbavag.inR n 1 600 with
 | false =>
  rw [if_pos h1] at ea
  have ea : tAhead s n = [-1] := ea
  rw [ea] at k
  have e : refS s n = -1 := by
   unfold refS
   rw [if_pos h1]
  rw [e]
  exact ifT (c := !decide ((-1 : Int) = 0)) (by decide) ⟨_, rfl, one_line, fun p hp => k.fin tab (KpT.of_same (Same.refl _)) hp rfl⟩
 | true =>
  rw [if_neg (by rw [h1]; decide)] at ea
  by_cases h2 : Vbavag.LATE < s.now + n.toNat
  ·rw [if_pos h2] at ea
   have ea : tAhead s n = [-8] := ea
   rw [ea] at k
   have e : refS s n = -8 := by
    unfold refS
    rw [if_neg (by rw [h1]; decide), if_pos h2]
   rw [e]
   exact ifT (c := !decide ((-8 : Int) = 0)) (by decide) ⟨_, rfl, one_line, fun p hp => k.fin tab (KpT.of_same (Same.refl _)) hp rfl⟩
  ·rw [if_neg h2] at ea
   have ea : tAhead s n = listRow (seconds n.toNat s) := ea
   rw [ea] at k
   have e : refS s n = 0 := by
    unfold refS
    rw [if_neg (by rw [h1]; decide), if_neg h2]
   rw [e]
   obtain ⟨hn0, hn1⟩ := inR_nat h1
   obtain ⟨m, rfl⟩ : ∃ m : Nat, n = (m : Int) := ⟨n.toNat, by omega⟩
   rw [Int.toNat_natCast] at k
   refine ifF (c := !decide ((0 : Int) = 0)) (by decide) ⟨_, rfl, _, rfl, A, s, m, rfl, hG, fun H1 A1 s1 tw => ⟨A1, _, rfl, tw.good.rd, tab.same s1, fun H2 p tab2 k2 np hp => k H2 p tab2 ((KpT.of_same s1).trans k2) (s1.free np) ?_⟩⟩
   rw [hp, ((noLog_eqv s).seconds m).listRow]
end
structure CallAt (H : Hp) (A : Pl) (ln lr : Addr) (ns : List Int) (rs : List Addr) (rows : List (List Int)) : Prop where
 nums : H ln = some (.lst (ns.map V.int))
 rws : H lr = some (.lst (rs.map V.ref))
 len : rs.length = rows.length
 at_ : ∀ (j : Nat) r row, rs[j]? = some r → rows[j]? = some row → H r = some (.lst (row.map V.int)) ∧ r ∉ A.own ∧ row.length ≤ 32
def Fin10 (d : Ad) (H : Hp) (A : Pl) (B : List Addr) (r : Panel × List Int) (Q : VK) : Prop :=
 ∀ H' p A', A'.p = A.p → Good d H' A' r.1 → (∀ b ∈ A'.own, b ∈ A.own ∨ H b = none) → (∀ b ∈ A'.ro, b ∈ A.ro ∨ H b = none ∨ b ∈ B) → TabL d H' → H' p = some (.lst (r.2.map V.int)) → H p = none → (∀ b o, H b = some o → b ∉ A.own → b ≠ d.ta_13 → H' b = some o) → Q (.ref p) H'
theorem Fin10.f9 {d : Ad} {H : Hp} {A : Pl} {B : List Addr} {r : Panel × List Int} {Q : VK} {s : Panel} (k : Fin10 d H A B r Q) (hP : PanelAt d H A s) (t : TabL d H) : Fin9B d H A B r Q :=
 fun H' p A' e hG n n2 hp np kp => k H' p A' e hG n n2 (t.own hP kp) hp np fun b o ho nb _ => kp b o ho nb
theorem Fin10.tl {d : Ad} {H : Hp} {A : Pl} {B : List Addr} {ans : List Int} {Q : VK} {s : Panel} (k : Fin10 d H A B (s, ans) Q) (hG : Good d H A s) (t : TabL d H) : TlT d H ans Q :=
 fun H' p t' kp np hp => k H' p A rfl (hG.keepP (kp.keepP t)) (fun b hb => .inl hb) (fun b hb => .inl hb) t' hp np fun b o ho _ nt => kp b o ho nt
theorem Fin10.nil {d : Ad} {H : Hp} {A : Pl} {B : List Addr} {r : Panel × List Int} {Q : VK} (h : Fin10 d H A B r Q) : Fin10 d H A [] r Q :=
 fun H' p A' e hG n1 n2 t hp np kp => h H' p A' e hG n1 (fun b hb => (n2 b hb).imp id fun q => q.imp id fun z => absurd z (by simp)) t hp np kp
def sp_change (d : Ad) : Sp := fun vs H Q _ => ∃ (A : Pl) (s : Panel) (pl : Int) (ln lr : Addr) (ns : List Int) (rs : List Addr) (rows : List (List Int)), vs = [.ref A.p, .int pl, .ref ln, .ref lr] ∧ Good d H A s ∧ CallAt H A ln lr ns rs rows ∧ PyVbavag.shape pl = some (ns.length, rows.length) ∧ pl < 10 ∧ Fin9B d H A rs (Vbavag.stepRaw s ((pl :: ns) :: rows)) Q
def sp_telling (d : Ad) : Sp := fun vs H Q _ => ∃ (A : Pl) (s : Panel) (pl : Int) (ln : Addr) (ns : List Int) (rows : List (List Int)), vs = [.ref A.p, .int pl, .ref ln] ∧ Good d H A s ∧ TabL d H ∧ H ln = some (.lst (ns.map V.int)) ∧ PyVbavag.shape pl = some (ns.length, rows.length) ∧ 10 ≤ pl ∧ Fin10 d H A [] (Vbavag.stepRaw s ((pl :: ns) :: rows)) Q
def sp_call (d : Ad) : Sp := fun vs H Q _ => ∃ (A : Pl) (s : Panel) (pl : Int) (ln lr : Addr) (ns : List Int) (rs : List Addr) (rows : List (List Int)), vs = [.ref A.p, .int pl, .ref ln, .ref lr] ∧ Good d H A s ∧ TabL d H ∧ CallAt H A ln lr ns rs rows ∧ PyVbavag.shape pl = some (ns.length, rows.length) ∧ Fin10 d H A rs (Vbavag.stepRaw s ((pl :: ns) :: rows)) Q
theorem len0 {α : Type} {l : List α} (h : l.length = 0) : l = [] := List.length_eq_zero_iff.mp h
theorem len1 {α : Type} {l : List α} (h : l.length = 1) : ∃ a, l = [a] := List.length_eq_one_iff.mp h
theorem lenS1 {α : Type} {l : List α} {n : Nat} (h : l.length = n + 1) : ∃ a r, l = a :: r ∧ r.length = n := by
 cases l with
 | nil => cases h
 | cons a r => exact ⟨a, r, rfl, by simpa using h⟩
theorem len2 {α : Type} {l : List α} (h : l.length = 2) : ∃ a b, l = [a, b] := by
 obtain ⟨a, r, rfl, h1⟩ := lenS1 h
 obtain ⟨b, rfl⟩ := len1 h1
 exact ⟨a, b, rfl⟩
theorem len3 {α : Type} {l : List α} (h : l.length = 3) : ∃ a b c, l = [a, b, c] := by
 obtain ⟨a, r, rfl, h1⟩ := lenS1 h
 obtain ⟨b, c, rfl⟩ := len2 h1
 exact ⟨a, b, c, rfl⟩
theorem len5 {α : Type} {l : List α} (h : l.length = 5) : ∃ a b c e f, l = [a, b, c, e, f] := by
 obtain ⟨a, r, rfl, h1⟩ := lenS1 h
 obtain ⟨b, r, rfl, h2⟩ := lenS1 h1
 obtain ⟨c, e, f, rfl⟩ := len3 h2
 exact ⟨a, b, c, e, f, rfl⟩
section
variable {P : Program} {w : World} {K : PySem.W.Frag} {mg : Str → Option Value} {base : Heap} {d : Ad}
theorem ok_58 (T : Tx K mg d) : FnOk P w K mg base CX0 8 d.f_58 d.d_58 ["panel", "place", "numbers", "rows"] (sp_change d) := by
 refine T.F_58.ok sc_58 (fun vs H Q E h => ?_) (fun cdv Ar outer s0 H vs Q E hr h => ?_)
 ·obtain ⟨A, s, pl, ln, lr, ns, rs, rows, rfl, hG, hC, hS, hlt, k⟩ := h
  rfl
 obtain ⟨A, s, pl, ln, lr, ns, rs, rows, rfl, hG, hC, hS, hlt, k⟩ := h
 refine ⟨_, (pss_cons (ps_if (pt_cmpR op_eq (pv 1) pe_int (nomark _)) (pss_one (ps_ret (pe_call (ok_33 T) (hr.mono (by decide)) rfl T.mg_33 T.F_33.kp T.b_33 .nil pass0 (pa_cons (pv 0) (pa_cons (pv 2) (pa_cons (pe_ix ix_list (pv 3) pe_int (fun _ _ => rfl)) (pa_cons (pe_ix ix_list (pv 3) pe_int (fun _ _ => rfl)) pa_nil))))))) pss_nil) (pss_cons (ps_if (pt_cmpR op_eq (pv 1) pe_int (nomark _)) (pss_one (ps_ret (pe_call (ok_34 T) (hr.mono (by decide)) rfl T.mg_34 T.F_34.kp T.b_34 .nil pass0 (pa_cons (pv 0) (pa_cons (pv 2) (pa_cons (pe_ix ix_list (pv 3) pe_int (fun _ _ => rfl)) (pa_cons (pe_ix ix_list (pv 3) pe_int (fun _ _ => rfl)) (pa_cons (pe_ix ix_list (pv 3) pe_int (fun _ _ => rfl)) pa_nil)))))))) pss_nil) (pss_cons (ps_if (pt_cmpR op_eq (pv 1) pe_int (nomark _)) (pss_one (ps_ret (pe_call (ok_35 T) (hr.mono (by decide)) rfl T.mg_35 T.F_35.kp T.b_35 .nil pass0 (pa_cons (pv 0) (pa_cons (pe_ix ix_list (pv 2) pe_int (fun _ _ => rfl)) (pa_cons (pe_ix ix_list (pv 2) pe_int (fun _ _ => rfl)) pa_nil)))))) pss_nil) (pss_cons (ps_if (pt_cmpR op_eq (pv 1) pe_int (nomark _)) (pss_one (ps_ret (pe_call (ok_36 T) (hr.mono (by decide)) rfl T.mg_36 T.F_36.kp T.b_36 .nil pass0 (pa_cons (pv 0) (pa_cons (pe_ix ix_list (pv 2) pe_int (fun _ _ => rfl)) pa_nil))))) pss_nil) (pss_cons (ps_if (pt_cmpR op_eq (pv 1) pe_int (nomark _)) (pss_one (ps_ret (pe_call (ok_37 T) (hr.mono (by decide)) rfl T.mg_37 T.F_37.kp T.b_37 .nil pass0 (pa_cons (pv 0) (pa_cons (pe_ix ix_list (pv 2) pe_int (fun _ _ => rfl)) pa_nil))))) pss_nil) (pss_cons (ps_if (pt_cmpR op_eq (pv 1) pe_int (nomark _)) (pss_one (ps_ret (pe_call (ok_38 T) (hr.mono (by decide)) rfl T.mg_38 T.F_38.kp T.b_38 .nil pass0 (pa_cons (pv 0) (pa_cons (pe_ix ix_list (pv 2) pe_int (fun _ _ => rfl)) pa_nil))))) pss_nil) (pss_cons (ps_if (pt_cmpR op_eq (pv 1) pe_int (nomark _)) (pss_one (ps_ret (pe_call (ok_39 T) (hr.mono (by decide)) rfl T.mg_39 T.F_39.kp T.b_39 .nil pass0 (pa_cons (pv 0) pa_nil)))) pss_nil) (pss_cons (ps_if (pt_cmpR op_eq (pv 1) pe_int (nomark _)) (pss_one (ps_ret (pe_call (ok_40 T) (hr.mono (by decide)) rfl T.mg_40 T.F_40.kp T.b_40 .nil pass0 (pa_cons (pv 0) (pa_cons (pe_ix ix_list (pv 2) pe_int (fun _ _ => rfl)) pa_nil))))) pss_nil) (pss_cons (ps_if (pt_cmpR op_eq (pv 1) pe_int (nomark _)) (pss_one (ps_ret (pe_call (ok_41 T) (hr.mono (by decide)) rfl T.mg_41 T.F_41.kp T.b_41 .nil pass0 (pa_cons (pv 0) pa_nil)))) pss_nil) (pss_one (ps_ret (pe_call (ok_42 T) (hr.mono (by decide)) rfl T.mg_42 T.F_42.kp T.b_42 .nil pass0 (pa_cons (pv 0) (pa_cons (pe_ix ix_list (pv 2) pe_int (fun _ _ => rfl)) pa_nil)))))))))))))), ?_⟩
 rcases shape_cases hS with h | h | h | h | h | h | h | h | h | h | h | h | h | h | h | h | h | h | h | h
 ·obtain ⟨rfl, h1, h2⟩ := h
  obtain ⟨x0, x1, x2, x3, x4, rfl⟩ := len5 h1
  obtain ⟨l0, l1, rfl⟩ := len2 h2
  have hn := hC.nums
  have hl := hC.len
  have hl : rs.length = 2 := hl
  obtain ⟨r0, r1, rfl⟩ := len2 hl
  have hrw := hC.rws
  obtain ⟨a0, b0, c0⟩ := hC.at_ 0 _ _ rfl rfl
  obtain ⟨a1, b1, c1⟩ := hC.at_ 1 _ _ rfl rfl
  exact ⟨_, rfl, rfl, _, rfl, ifT rfl ⟨_, rfl, _, rfl, _, rfl, _, _, _, _, rfl, rfl, SqL.of hrw, rfl, _, rfl, _, _, _, _, rfl, rfl, SqL.of hrw, rfl, A, s, ln, r0, r1, x0, x1, x2, x3, x4, l0, l1, rfl, hG, hn, a0, a1, b0, b1, c0, c1, k⟩⟩
 ·obtain ⟨rfl, h1, h2⟩ := h
  obtain ⟨x0, x1, x2, x3, x4, rfl⟩ := len5 h1
  obtain ⟨l0, l1, l2, rfl⟩ := len3 h2
  have hn := hC.nums
  have hl := hC.len
  have hl : rs.length = 3 := hl
  obtain ⟨r0, r1, r2, rfl⟩ := len3 hl
  have hrw := hC.rws
  obtain ⟨a0, b0, c0⟩ := hC.at_ 0 _ _ rfl rfl
  obtain ⟨a1, b1, c1⟩ := hC.at_ 1 _ _ rfl rfl
  obtain ⟨a2, b2, c2⟩ := hC.at_ 2 _ _ rfl rfl
  exact ⟨_, rfl, rfl, _, rfl, ifF rfl ⟨_, rfl, rfl, _, rfl, ifT rfl ⟨_, rfl, _, rfl, _, rfl, _, _, _, _, rfl, rfl, SqL.of hrw, rfl, _, rfl, _, _, _, _, rfl, rfl, SqL.of hrw, rfl, _, rfl, _, _, _, _, rfl, rfl, SqL.of hrw, rfl, A, s, ln, r0, r1, r2, x0, x1, x2, x3, x4, l0, l1, l2, rfl, hG, hn, a0, a1, a2, b0, b1, b2, c0, c1, c2, k⟩⟩⟩
 ·obtain ⟨rfl, h1, h2⟩ := h
  obtain ⟨x0, x1, rfl⟩ := len2 h1
  obtain rfl := len0 h2
  have hn := hC.nums
  exact ⟨_, rfl, rfl, _, rfl, ifF rfl ⟨_, rfl, rfl, _, rfl, ifF rfl ⟨_, rfl, rfl, _, rfl, ifT rfl ⟨_, rfl, _, rfl, _, _, _, _, rfl, rfl, SqL.of hn, rfl, _, rfl, _, _, _, _, rfl, rfl, SqL.of hn, rfl, A, s, x0, x1, rfl, hG, k.f9⟩⟩⟩⟩
 ·obtain ⟨rfl, h1, h2⟩ := h
  obtain ⟨x0, rfl⟩ := len1 h1
  obtain rfl := len0 h2
  have hn := hC.nums
  exact ⟨_, rfl, rfl, _, rfl, ifF rfl ⟨_, rfl, rfl, _, rfl, ifF rfl ⟨_, rfl, rfl, _, rfl, ifF rfl ⟨_, rfl, rfl, _, rfl, ifT rfl ⟨_, rfl, _, rfl, _, _, _, _, rfl, rfl, SqL.of hn, rfl, A, s, x0, rfl, hG, k.f9⟩⟩⟩⟩⟩
 ·obtain ⟨rfl, h1, h2⟩ := h
  obtain ⟨x0, rfl⟩ := len1 h1
  obtain rfl := len0 h2
  have hn := hC.nums
  exact ⟨_, rfl, rfl, _, rfl, ifF rfl ⟨_, rfl, rfl, _, rfl, ifF rfl ⟨_, rfl, rfl, _, rfl, ifF rfl ⟨_, rfl, rfl, _, rfl, ifF rfl ⟨_, rfl, rfl, _, rfl, ifT rfl ⟨_, rfl, _, rfl, _, _, _, _, rfl, rfl, SqL.of hn, rfl, A, s, x0, rfl, hG, k.f9⟩⟩⟩⟩⟩⟩
 ·obtain ⟨rfl, h1, h2⟩ := h
  obtain ⟨x0, rfl⟩ := len1 h1
  obtain rfl := len0 h2
  have hn := hC.nums
  exact ⟨_, rfl, rfl, _, rfl, ifF rfl ⟨_, rfl, rfl, _, rfl, ifF rfl ⟨_, rfl, rfl, _, rfl, ifF rfl ⟨_, rfl, rfl, _, rfl, ifF rfl ⟨_, rfl, rfl, _, rfl, ifF rfl ⟨_, rfl, rfl, _, rfl, ifT rfl ⟨_, rfl, _, rfl, _, _, _, _, rfl, rfl, SqL.of hn, rfl, A, s, x0, rfl, hG, k.f9⟩⟩⟩⟩⟩⟩⟩
 ·obtain ⟨rfl, h1, h2⟩ := h
  obtain rfl := len0 h1
  obtain rfl := len0 h2
  have hn := hC.nums
  exact ⟨_, rfl, rfl, _, rfl, ifF rfl ⟨_, rfl, rfl, _, rfl, ifF rfl ⟨_, rfl, rfl, _, rfl, ifF rfl ⟨_, rfl, rfl, _, rfl, ifF rfl ⟨_, rfl, rfl, _, rfl, ifF rfl ⟨_, rfl, rfl, _, rfl, ifF rfl ⟨_, rfl, rfl, _, rfl, ifT rfl ⟨_, rfl, A, s, rfl, hG, k.f9⟩⟩⟩⟩⟩⟩⟩⟩
 ·obtain ⟨rfl, h1, h2⟩ := h
  obtain ⟨x0, rfl⟩ := len1 h1
  obtain rfl := len0 h2
  have hn := hC.nums
  exact ⟨_, rfl, rfl, _, rfl, ifF rfl ⟨_, rfl, rfl, _, rfl, ifF rfl ⟨_, rfl, rfl, _, rfl, ifF rfl ⟨_, rfl, rfl, _, rfl, ifF rfl ⟨_, rfl, rfl, _, rfl, ifF rfl ⟨_, rfl, rfl, _, rfl, ifF rfl ⟨_, rfl, rfl, _, rfl, ifF rfl ⟨_, rfl, rfl, _, rfl, ifT rfl ⟨_, rfl, _, rfl, _, _, _, _, rfl, rfl, SqL.of hn, rfl, A, s, x0, rfl, hG, k.f9⟩⟩⟩⟩⟩⟩⟩⟩⟩
 ·obtain ⟨rfl, h1, h2⟩ := h
  obtain rfl := len0 h1
  obtain rfl := len0 h2
  have hn := hC.nums
  exact ⟨_, rfl, rfl, _, rfl, ifF rfl ⟨_, rfl, rfl, _, rfl, ifF rfl ⟨_, rfl, rfl, _, rfl, ifF rfl ⟨_, rfl, rfl, _, rfl, ifF rfl ⟨_, rfl, rfl, _, rfl, ifF rfl ⟨_, rfl, rfl, _, rfl, ifF rfl ⟨_, rfl, rfl, _, rfl, ifF rfl ⟨_, rfl, rfl, _, rfl, ifF rfl ⟨_, rfl, rfl, _, rfl, ifT rfl ⟨_, rfl, A, s, rfl, hG, k.f9⟩⟩⟩⟩⟩⟩⟩⟩⟩⟩
 ·obtain ⟨rfl, h1, h2⟩ := h
  obtain ⟨x0, rfl⟩ := len1 h1
  obtain rfl := len0 h2
  have hn := hC.nums
  exact ⟨_, rfl, rfl, _, rfl, ifF rfl ⟨_, rfl, rfl, _, rfl, ifF rfl ⟨_, rfl, rfl, _, rfl, ifF rfl ⟨_, rfl, rfl, _, rfl, ifF rfl ⟨_, rfl, rfl, _, rfl, ifF rfl ⟨_, rfl, rfl, _, rfl, ifF rfl ⟨_, rfl, rfl, _, rfl, ifF rfl ⟨_, rfl, rfl, _, rfl, ifF rfl ⟨_, rfl, rfl, _, rfl, ifF rfl ⟨_, rfl, _, rfl, _, _, _, _, rfl, rfl, SqL.of hn, rfl, A, s, x0, rfl, hG, k.f9⟩⟩⟩⟩⟩⟩⟩⟩⟩⟩
 ·obtain ⟨rfl, h1, h2⟩ := h
  exact absurd hlt (by decide)
 ·obtain ⟨rfl, h1, h2⟩ := h
  exact absurd hlt (by decide)
 ·obtain ⟨rfl, h1, h2⟩ := h
  exact absurd hlt (by decide)
 ·obtain ⟨rfl, h1, h2⟩ := h
  exact absurd hlt (by decide)
 ·obtain ⟨rfl, h1, h2⟩ := h
  exact absurd hlt (by decide)
 ·obtain ⟨rfl, h1, h2⟩ := h
  exact absurd hlt (by decide)
 ·obtain ⟨rfl, h1, h2⟩ := h
  exact absurd hlt (by decide)
 ·obtain ⟨rfl, h1, h2⟩ := h
  exact absurd hlt (by decide)
 ·obtain ⟨rfl, h1, h2⟩ := h
  exact absurd hlt (by decide)
 ·obtain ⟨rfl, h1, h2⟩ := h
  exact absurd hlt (by decide)
theorem ok_59 (T : Tx K mg d) (hB : Bs base mg d) : FnOk P w K mg base CX0 9 d.f_59 d.d_59 ["panel", "place", "numbers"] (sp_telling d) := by
 refine T.F_59.ok sc_59 (fun vs H Q E h => ?_) (fun cdv Ar outer s0 H vs Q E hr h => ?_)
 ·obtain ⟨A, s, pl, ln, ns, rows, rfl, hG, tab, hn, hS, hge, k⟩ := h
  rfl
 obtain ⟨A, s, pl, ln, ns, rows, rfl, hG, tab, hn, hS, hge, k⟩ := h
 refine ⟨_, (pss_cons (ps_if (pt_cmpR op_eq (pv 1) pe_int (nomark _)) (pss_one (ps_ret (pe_call (ok_48 T hB) (hr.mono (by decide)) rfl T.mg_48 T.F_48.kp T.b_48 .nil pass0 (pa_cons (pv 0) pa_nil)))) pss_nil) (pss_cons (ps_if (pt_cmpR op_eq (pv 1) pe_int (nomark _)) (pss_one (ps_ret (pe_call (ok_49 T hB) (hr.mono (by decide)) rfl T.mg_49 T.F_49.kp T.b_49 .nil pass0 (pa_cons (pv 0) (pa_cons (pe_ix ix_list (pv 2) pe_int (fun _ _ => rfl)) (pa_cons (pe_ix ix_list (pv 2) pe_int (fun _ _ => rfl)) pa_nil)))))) pss_nil) (pss_cons (ps_if (pt_cmpR op_eq (pv 1) pe_int (nomark _)) (pss_one (ps_ret (pe_call (ok_50 T) (hr.mono (by decide)) rfl T.mg_50 T.F_50.kp T.b_50 .nil pass0 (pa_cons (pv 0) (pa_cons (pe_ix ix_list (pv 2) pe_int (fun _ _ => rfl)) pa_nil))))) pss_nil) (pss_cons (ps_if (pt_cmpR op_eq (pv 1) pe_int (nomark _)) (pss_one (ps_ret (pe_call (ok_51 T) (hr.mono (by decide)) rfl T.mg_51 T.F_51.kp T.b_51 .nil pass0 (pa_cons (pv 0) pa_nil)))) pss_nil) (pss_cons (ps_if (pt_cmpR op_eq (pv 1) pe_int (nomark _)) (pss_one (ps_ret (pe_call (ok_52 T) (hr.mono (by decide)) rfl T.mg_52 T.F_52.kp T.b_52 .nil pass0 (pa_cons (pv 0) (pa_cons (pe_ix ix_list (pv 2) pe_int (fun _ _ => rfl)) pa_nil))))) pss_nil) (pss_cons (ps_if (pt_cmpR op_eq (pv 1) pe_int (nomark _)) (pss_one (ps_ret (pe_call (ok_53 T) (hr.mono (by decide)) rfl T.mg_53 T.F_53.kp T.b_53 .nil pass0 (pa_cons (pv 0) (pa_cons (pe_ix ix_list (pv 2) pe_int (fun _ _ => rfl)) pa_nil))))) pss_nil) (pss_cons (ps_if (pt_cmpR op_eq (pv 1) pe_int (nomark _)) (pss_one (ps_ret (pe_call (ok_54 T) (hr.mono (by decide)) rfl T.mg_54 T.F_54.kp T.b_54 .nil pass0 (pa_cons (pv 0) pa_nil)))) pss_nil) (pss_cons (ps_if (pt_cmpR op_eq (pv 1) pe_int (nomark _)) (pss_one (ps_ret (pe_call (ok_55 T hB) (hr.mono (by decide)) rfl T.mg_55 T.F_55.kp T.b_55 .nil pass0 (pa_cons (pv 0) pa_nil)))) pss_nil) (pss_cons (ps_if (pt_cmpR op_eq (pv 1) pe_int (nomark _)) (pss_one (ps_ret (pe_call (ok_56 T hB) (hr.mono (by decide)) rfl T.mg_56 T.F_56.kp T.b_56 .nil pass0 (pa_cons (pv 0) (pa_cons (pe_ix ix_list (pv 2) pe_int (fun _ _ => rfl)) pa_nil))))) pss_nil) (pss_one (ps_ret (pe_call (ok_57 T) (hr.mono (by decide)) rfl T.mg_57 T.F_57.kp T.b_57 .nil pass0 (pa_cons (pv 0) pa_nil))))))))))))), ?_⟩
 rcases shape_cases hS with h | h | h | h | h | h | h | h | h | h | h | h | h | h | h | h | h | h | h | h
 ·obtain ⟨rfl, h1, h2⟩ := h
  exact absurd hge (by decide)
 ·obtain ⟨rfl, h1, h2⟩ := h
  exact absurd hge (by decide)
 ·obtain ⟨rfl, h1, h2⟩ := h
  exact absurd hge (by decide)
 ·obtain ⟨rfl, h1, h2⟩ := h
  exact absurd hge (by decide)
 ·obtain ⟨rfl, h1, h2⟩ := h
  exact absurd hge (by decide)
 ·obtain ⟨rfl, h1, h2⟩ := h
  exact absurd hge (by decide)
 ·obtain ⟨rfl, h1, h2⟩ := h
  exact absurd hge (by decide)
 ·obtain ⟨rfl, h1, h2⟩ := h
  exact absurd hge (by decide)
 ·obtain ⟨rfl, h1, h2⟩ := h
  exact absurd hge (by decide)
 ·obtain ⟨rfl, h1, h2⟩ := h
  exact absurd hge (by decide)
 ·obtain ⟨rfl, h1, h2⟩ := h
  obtain rfl := len0 h1
  obtain rfl := len0 h2
  have ek : Vbavag.stepRaw s [[10]] = (s, Vbavag.listRow s) := rfl
  rw [ek] at k
  have hk := Fin10.tl k hG tab
  exact ⟨_, rfl, rfl, _, rfl, ifT rfl ⟨_, rfl, A, s, rfl, hG.rd, tab, hk⟩⟩
 ·obtain ⟨rfl, h1, h2⟩ := h
  obtain ⟨x0, x1, rfl⟩ := len2 h1
  obtain rfl := len0 h2
  have ek : Vbavag.stepRaw s [[11, x0, x1]] = (s, tPage s x0 x1) := by
   show Vbavag.step s (.page x0 x1) = (s, (Vbavag.step s (.page x0 x1)).2)
   unfold Vbavag.step
   dsimp only
   split
   ·rfl
   ·rfl
  rw [ek] at k
  have hk := Fin10.tl k hG tab
  exact ⟨_, rfl, rfl, _, rfl, ifF rfl ⟨_, rfl, rfl, _, rfl, ifT rfl ⟨_, rfl, _, rfl, _, _, _, _, rfl, rfl, SqL.of hn, rfl, _, rfl, _, _, _, _, rfl, rfl, SqL.of hn, rfl, A, s, x0, x1, rfl, hG, tab, hk⟩⟩⟩
 ·obtain ⟨rfl, h1, h2⟩ := h
  obtain ⟨x0, rfl⟩ := len1 h1
  obtain rfl := len0 h2
  have ek : Vbavag.stepRaw s [[12, x0]] = (s, tWhy s x0) := by
   show Vbavag.step s (.why x0) = (s, (Vbavag.step s (.why x0)).2)
   unfold Vbavag.step
   dsimp only
   split
   ·rfl
   ·rfl
  rw [ek] at k
  have hk := Fin10.tl k hG tab
  exact ⟨_, rfl, rfl, _, rfl, ifF rfl ⟨_, rfl, rfl, _, rfl, ifF rfl ⟨_, rfl, rfl, _, rfl, ifT rfl ⟨_, rfl, _, rfl, _, _, _, _, rfl, rfl, SqL.of hn, rfl, A, s, x0, rfl, hG, (hk.tl tab)⟩⟩⟩⟩
 ·obtain ⟨rfl, h1, h2⟩ := h
  obtain rfl := len0 h1
  obtain rfl := len0 h2
  have ek : Vbavag.stepRaw s [[13]] = (s, tSound s) := rfl
  rw [ek] at k
  have hk := Fin10.tl k hG tab
  exact ⟨_, rfl, rfl, _, rfl, ifF rfl ⟨_, rfl, rfl, _, rfl, ifF rfl ⟨_, rfl, rfl, _, rfl, ifF rfl ⟨_, rfl, rfl, _, rfl, ifT rfl ⟨_, rfl, A, s, rfl, hG, (hk.tl tab)⟩⟩⟩⟩⟩
 ·obtain ⟨rfl, h1, h2⟩ := h
  obtain ⟨x0, rfl⟩ := len1 h1
  obtain rfl := len0 h2
  have ek : Vbavag.stepRaw s [[14, x0]] = (s, tStand s x0) := by
   show Vbavag.step s (.stand x0) = (s, (Vbavag.step s (.stand x0)).2)
   unfold Vbavag.step
   dsimp only
   split
   ·rfl
   ·rfl
  rw [ek] at k
  have hk := Fin10.tl k hG tab
  exact ⟨_, rfl, rfl, _, rfl, ifF rfl ⟨_, rfl, rfl, _, rfl, ifF rfl ⟨_, rfl, rfl, _, rfl, ifF rfl ⟨_, rfl, rfl, _, rfl, ifF rfl ⟨_, rfl, rfl, _, rfl, ifT rfl ⟨_, rfl, _, rfl, _, _, _, _, rfl, rfl, SqL.of hn, rfl, A, s, x0, rfl, hG, (hk.tl tab)⟩⟩⟩⟩⟩⟩
 ·obtain ⟨rfl, h1, h2⟩ := h
  obtain ⟨x0, rfl⟩ := len1 h1
  obtain rfl := len0 h2
  have ek : Vbavag.stepRaw s [[15, x0]] = (s, tTold s x0) := by
   show Vbavag.step s (.told x0) = (s, (Vbavag.step s (.told x0)).2)
   unfold Vbavag.step
   dsimp only
   split
   ·rfl
   ·rfl
  rw [ek] at k
  have hk := Fin10.tl k hG tab
  exact ⟨_, rfl, rfl, _, rfl, ifF rfl ⟨_, rfl, rfl, _, rfl, ifF rfl ⟨_, rfl, rfl, _, rfl, ifF rfl ⟨_, rfl, rfl, _, rfl, ifF rfl ⟨_, rfl, rfl, _, rfl, ifF rfl ⟨_, rfl, rfl, _, rfl, ifT rfl ⟨_, rfl, _, rfl, _, _, _, _, rfl, rfl, SqL.of hn, rfl, A, s, x0, rfl, hG, (hk.tl tab)⟩⟩⟩⟩⟩⟩⟩
 ·obtain ⟨rfl, h1, h2⟩ := h
  obtain rfl := len0 h1
  obtain rfl := len0 h2
  have ek : Vbavag.stepRaw s [[16]] = (s, tLog s) := rfl
  rw [ek] at k
  have hk := Fin10.tl k hG tab
  exact ⟨_, rfl, rfl, _, rfl, ifF rfl ⟨_, rfl, rfl, _, rfl, ifF rfl ⟨_, rfl, rfl, _, rfl, ifF rfl ⟨_, rfl, rfl, _, rfl, ifF rfl ⟨_, rfl, rfl, _, rfl, ifF rfl ⟨_, rfl, rfl, _, rfl, ifF rfl ⟨_, rfl, rfl, _, rfl, ifT rfl ⟨_, rfl, A, s, rfl, hG, (hk.tl tab)⟩⟩⟩⟩⟩⟩⟩⟩
 ·obtain ⟨rfl, h1, h2⟩ := h
  obtain rfl := len0 h1
  obtain rfl := len0 h2
  have ek : Vbavag.stepRaw s [[17]] = (s, tNext s) := rfl
  rw [ek] at k
  have hk := Fin10.tl k hG tab
  exact ⟨_, rfl, rfl, _, rfl, ifF rfl ⟨_, rfl, rfl, _, rfl, ifF rfl ⟨_, rfl, rfl, _, rfl, ifF rfl ⟨_, rfl, rfl, _, rfl, ifF rfl ⟨_, rfl, rfl, _, rfl, ifF rfl ⟨_, rfl, rfl, _, rfl, ifF rfl ⟨_, rfl, rfl, _, rfl, ifF rfl ⟨_, rfl, rfl, _, rfl, ifT rfl ⟨_, rfl, A, s, rfl, hG, tab, hk⟩⟩⟩⟩⟩⟩⟩⟩⟩
 ·obtain ⟨rfl, h1, h2⟩ := h
  obtain ⟨x0, rfl⟩ := len1 h1
  obtain rfl := len0 h2
  have ek : Vbavag.stepRaw s [[18, x0]] = (s, tAhead s x0) := rfl
  rw [ek] at k
  have hk := Fin10.tl k hG tab
  exact ⟨_, rfl, rfl, _, rfl, ifF rfl ⟨_, rfl, rfl, _, rfl, ifF rfl ⟨_, rfl, rfl, _, rfl, ifF rfl ⟨_, rfl, rfl, _, rfl, ifF rfl ⟨_, rfl, rfl, _, rfl, ifF rfl ⟨_, rfl, rfl, _, rfl, ifF rfl ⟨_, rfl, rfl, _, rfl, ifF rfl ⟨_, rfl, rfl, _, rfl, ifF rfl ⟨_, rfl, rfl, _, rfl, ifT rfl ⟨_, rfl, _, rfl, _, _, _, _, rfl, rfl, SqL.of hn, rfl, A, s, x0, rfl, hG, tab, hk⟩⟩⟩⟩⟩⟩⟩⟩⟩⟩
 ·obtain ⟨rfl, h1, h2⟩ := h
  obtain rfl := len0 h1
  obtain rfl := len0 h2
  have ek : Vbavag.stepRaw s [[19]] = (s, tState s) := rfl
  rw [ek] at k
  have hk := Fin10.tl k hG tab
  exact ⟨_, rfl, rfl, _, rfl, ifF rfl ⟨_, rfl, rfl, _, rfl, ifF rfl ⟨_, rfl, rfl, _, rfl, ifF rfl ⟨_, rfl, rfl, _, rfl, ifF rfl ⟨_, rfl, rfl, _, rfl, ifF rfl ⟨_, rfl, rfl, _, rfl, ifF rfl ⟨_, rfl, rfl, _, rfl, ifF rfl ⟨_, rfl, rfl, _, rfl, ifF rfl ⟨_, rfl, rfl, _, rfl, ifF rfl ⟨_, rfl, A, s, rfl, hG, (hk.tl tab)⟩⟩⟩⟩⟩⟩⟩⟩⟩⟩
theorem ok_60 (T : Tx K mg d) (hB : Bs base mg d) : FnOk P w K mg base CX0 10 d.f_60 d.d_60 ["panel", "place", "numbers", "rows"] (sp_call d) := by
 refine T.F_60.ok sc_60 (fun vs H Q E h => ?_) (fun cdv Ar outer s0 H vs Q E hr h => ?_)
 ·obtain ⟨A, s, pl, ln, lr, ns, rs, rows, rfl, hG, tab, hC, hS, k⟩ := h
  rfl
 obtain ⟨A, s, pl, ln, lr, ns, rs, rows, rfl, hG, tab, hC, hS, k⟩ := h
 refine ⟨_, (pss_cons (ps_if (pt_cmpR op_lt (pv 1) (pe_cst rfl T.c_FIRST_TELLING_PLACE) (nomark _)) (pss_one (ps_ret (pe_call (ok_58 T) (hr.mono (by decide)) rfl T.mg_58 T.F_58.kp T.b_58 .nil pass0 (pa_cons (pv 0) (pa_cons (pv 1) (pa_cons (pv 2) (pa_cons (pv 3) pa_nil))))))) pss_nil) (pss_one (ps_ret (pe_call (ok_59 T hB) (hr.mono (by decide)) rfl T.mg_59 T.F_59.kp T.b_59 .nil pass0 (pa_cons (pv 0) (pa_cons (pv 1) (pa_cons (pv 2) pa_nil))))))), ?_⟩
 refine ⟨_, rfl, _, _, rfl, rfl, _, rfl, ?_⟩
 by_cases h : pl < 10
 ·exact ifT (decide_eq_true h) ⟨_, rfl, _, rfl, _, rfl, _, rfl, A, s, pl, ln, lr, ns, rs, rows, rfl, hG, hC, hS, h, k.f9 hG.at_ tab⟩
 ·exact ifF (decide_eq_false h) ⟨_, rfl, _, rfl, _, rfl, A, s, pl, ln, ns, rows, rfl, hG, tab, hC.nums, hS, by omega, k.nil⟩
end
theorem cut_mid (a x b : List Int) : cutV ((a ++ (x ++ b)).map V.int) (some (a.length : Int)) (some ((a.length : Int) + (x.length : Int))) = x.map V.int := by
 have e : (a.length : Int) + (x.length : Int) = ((a.length + x.length : Nat) : Int) := by omega
 unfold cutV
 rw [e, HT.sIx_nat, HT.sIx_nat, List.length_map, List.length_append, List.length_append, Nat.min_eq_left (by omega), Nat.min_eq_left (by omega), Nat.add_sub_cancel_left, List.map_append, List.map_append]
 rw [List.drop_append_of_le_length (by rw [List.length_map]; omega), List.drop_of_length_le (by rw [List.length_map]; omega), List.nil_append, List.take_append_of_le_length (by rw [List.length_map]; omega), List.take_of_length_le (by rw [List.length_map]; omega)]
theorem rowsFlat_snoc (xs : List (List Int)) (x : List Int) : rowsFlat (xs ++ [x]) = rowsFlat xs ++ ((x.length : Int) :: x) := by
 induction xs with
 | nil => simp [rowsFlat]
 | cons a r ih =>
  show ((a.length : Int) :: a) ++ rowsFlat (r ++ [x]) = ((a.length : Int) :: a) ++ rowsFlat r ++ _
  rw [ih, List.append_assoc]
theorem rowsFlat_append (xs ys : List (List Int)) : rowsFlat (xs ++ ys) = rowsFlat xs ++ rowsFlat ys := by
 induction xs with
 | nil => rfl
 | cons a r ih =>
  show ((a.length : Int) :: a) ++ rowsFlat (r ++ ys) = ((a.length : Int) :: a) ++ rowsFlat r ++ _
  rw [ih, List.append_assoc]
theorem rowsFlat_split {xs : List (List Int)} {i : Nat} {x : List Int} (h : xs[i]? = some x) : rowsFlat xs = rowsFlat (xs.take i) ++ ((x.length : Int) :: (x ++ rowsFlat (xs.drop (i + 1)))) := by
 have e : xs = xs.take i ++ x :: xs.drop (i + 1) := by
  obtain ⟨hi, hx⟩ := List.getElem?_eq_some_iff.mp h
  conv => lhs; rw [← List.take_append_drop i xs]
  rw [List.drop_eq_getElem_cons hi, hx]
 conv => lhs; rw [e]
 rw [rowsFlat_append]
 show _ ++ (((x.length : Int) :: x) ++ _) = _
 rfl
theorem sqSame {K : PySem.W.Frag} {H H' : Hp} {a : Addr} {xs : List V} (h : SqL K H a xs) (e : Same H H') : SqL K H' a xs := by
 rcases h with (h | ⟨o, h⟩) | h
 ·exact .inl (.inl (e _ _ h))
 ·exact .inl (.inr ⟨o, e _ _ h⟩)
 ·exact .inr h
def sp_rr (K : PySem.W.Frag) : Sp := fun vs H Q _ => ∃ (lc : Addr) (pre t : List Int) (xs : List (List Int)), vs = [.ref lc, vN pre.length, vN xs.length] ∧ xs.length ≤ 3 ∧ SqL K H lc ((pre ++ (rowsFlat xs ++ t)).map V.int) ∧
 ∀ H' lr (rs : List Addr), Same H H' → H lr = none → H' lr = some (.lst (rs.map V.ref)) → rs.length = xs.length → (∀ (j : Nat) r row, rs[j]? = some r → xs[j]? = some row → H' r = some (.lst (row.map V.int)) ∧ H r = none) → Q (.ref lr) H'
section
variable {P : Program} {w : World} {K : PySem.W.Frag} {mg : Str → Option Value} {base : Heap} {d : Ad}
theorem ok_61 (T : Tx K mg d) : FnOk P w K mg base CX0 1 d.f_61 d.d_61 ["calls", "start", "how_many"] (sp_rr K) := by
 refine T.F_61.ok sc_61 (fun vs H Q E h => ?_) (fun cdv Ar outer s0 H vs Q E hr h => ?_)
 ·obtain ⟨lc, pre, t, xs, rfl, hx3, hlc, k⟩ := h
  rfl
 obtain ⟨lc, pre, t, xs, rfl, hx3, hlc, k⟩ := h
 refine ⟨_, (pss_cons (ps_sA (i := 3) sc_61.nd rfl (pe_lst pa_nil)) (pss_cons (ps_sA (i := 4) sc_61.nd rfl (pv 1)) (pss_cons (ps_for PassesOwn.never rfl (pi_range1 rfl T.no_range (pa_cons (pv 2) pa_nil)) (pg_name (i := 5) sc_61.nd rfl (Or.inl rfl) (Or.inl rfl)) (pss_cons (ps_sA (i := 6) sc_61.nd rfl (pe_ix ix_list (pv 0) (pv 4) (fun _ _ => rfl))) (pss_cons (ps_expr (pe_bm PySem.F.plainAttrs_list PySem.F.slot_list_append PySem.F.type_list_append mt_append (pv 3) (pa_cons (pe_slice sl_list (pv 0) (po_some (pe_op op_add (pv 4) pe_int)) (po_some (pe_op op_add (pe_op op_add (pv 4) pe_int) (pv 6)))) pa_nil))) (pss_one (ps_aug (i := 4) sc_61.nd rfl (Or.inl rfl) (pe_op op_add pe_int (pv 6)) ip_add))))) (pss_one (ps_ret (pv 3)))))), ?_⟩
 have hbig : (2001 : Nat) ≤ sizeLine := by decide
 refine ⟨Nat.zero_le _, fun lr hlr => ⟨_, rfl, _, rfl, _, rfl, (by show -(2 ^ 62) ≤ (xs.length : Int); omega), (by show (xs.length : Int) < 2 ^ 62; omega), ?_⟩⟩
 refine for_range (lo := 0) (n := ((xs.length : Int)).toNat) (fun i σ H' => ∃ (v5 v6 : Option V) (rs : List Addr), i ≤ xs.length ∧ σ = [some (.ref lc), some (vN pre.length), some (vN xs.length), some (.ref lr), some (vN (pre.length + (rowsFlat (xs.take i)).length)), v5, v6] ∧ Same H H' ∧ H' lr = some (.lst (rs.map V.ref)) ∧ rs.length = i ∧ (∀ (j : Nat) r row, rs[j]? = some r → xs[j]? = some row → H' r = some (.lst (row.map V.int)) ∧ H r = none ∧ r ≠ lr))
  ⟨none, none, [], Nat.zero_le _, rfl, Same.new hlr, upd_same, rfl, fun j r row h => absurd h (by simp)⟩ ?_ ?_
 ·rintro i σ H' hi ⟨v5, v6, rs, _, rfl, sm, hlr', hrl, hrs⟩
  rw [Int.toNat_natCast] at hi
  have hx := List.getElem?_eq_getElem hi
  have hsp := rowsFlat_split hx
  generalize xs[i] = x at hx hsp
  have eq1 : pre ++ (rowsFlat xs ++ t) = (pre ++ rowsFlat (xs.take i)) ++ ((x.length : Int) :: (x ++ (rowsFlat (xs.drop (i + 1)) ++ t))) := by
   rw [hsp]
   simp only [List.append_assoc, List.cons_append]
  have eq2 : pre ++ (rowsFlat xs ++ t) = ((pre ++ rowsFlat (xs.take i)) ++ [(x.length : Int)]) ++ (x ++ (rowsFlat (xs.drop (i + 1)) ++ t)) := by
   rw [hsp]
   simp only [List.append_assoc, List.cons_append, List.nil_append]
  have hl' : SqL K H' lc (((pre ++ rowsFlat (xs.take i)) ++ ((x.length : Int) :: (x ++ (rowsFlat (xs.drop (i + 1)) ++ t)))).map V.int) := by
   rw [← eq1]
   exact sqSame hlc sm
  have hat : atI (((pre ++ rowsFlat (xs.take i)) ++ ((x.length : Int) :: (x ++ (rowsFlat (xs.drop (i + 1)) ++ t)))).map V.int) ((pre.length + (rowsFlat (xs.take i)).length : Nat) : Int) = some (vN x.length) := by
   refine atI_nat ?_
   rw [List.map_append, List.getElem?_append_right (by rw [List.length_map, List.length_append]; omega), List.length_map, List.length_append, Nat.sub_self]
   rfl
  have hl2 : SqL K H' lc ((((pre ++ rowsFlat (xs.take i)) ++ [(x.length : Int)]) ++ (x ++ (rowsFlat (xs.drop (i + 1)) ++ t))).map V.int) := by
   rw [← eq2]
   exact sqSame hlc sm
  have hcut := cut_mid ((pre ++ rowsFlat (xs.take i)) ++ [(x.length : Int)]) x (rowsFlat (xs.drop (i + 1)) ++ t)
  have e1 : (((pre ++ rowsFlat (xs.take i)) ++ [(x.length : Int)]).length : Int) = ((pre.length + (rowsFlat (xs.take i)).length : Nat) : Int) + 1 := by
   rw [List.length_append, List.length_append]
   show ((_ + 1 : Nat) : Int) = _
   omega
  rw [e1] at hcut
  refine ⟨_, rfl, _, rfl, _, _, _, _, rfl, rfl, hl', hat, ?_⟩
  refine ⟨_, rfl, .inl ⟨rfl, _, SqL.of hlr'⟩, _, rfl, _, rfl, _, _, rfl, rfl, _, rfl, _, rfl, _, _, rfl, rfl, _, rfl, _, _, rfl, rfl, _, rfl, _, _, rfl, hl2, fun c hc => ⟨lr, _, _, rfl, rfl, Same.new hc _ _ hlr', by rw [List.length_map]; omega, ?_⟩⟩
  have ncl : c ≠ lr := (ne_of_none hlr' hc).symm
  refine ⟨_, rfl, _, rfl, _, _, rfl, rfl, _, _, rfl, rfl, some (.int (0 + (i : Int))), some (vN x.length), rs ++ [c], by omega, ?_, fun b o e => ?_, ?_, ?_, fun j r row h1 h2 => ?_⟩
  ·show [some (V.ref lc), some (vN pre.length), some (vN xs.length), some (V.ref lr), some (V.int (((pre.length + (rowsFlat (xs.take i)).length : Nat) : Int) + (1 + (x.length : Int)))), some (V.int (0 + (i : Int))), some (vN x.length)] = _
   have e2 : ((pre.length + (rowsFlat (xs.take i)).length : Nat) : Int) + (1 + (x.length : Int)) = ((pre.length + (rowsFlat (xs.take (i + 1))).length : Nat) : Int) := by
    rw [take_snoc hx, rowsFlat_snoc, List.length_append, List.length_cons]
    omega
   rw [e2]
   rfl
  ·rw [upd_ne (ne_of_none e hlr)]
   exact Same.new hc _ _ (sm b o e)
  ·rw [upd_same, List.map_append]
   rfl
  ·rw [List.length_append, hrl]
   rfl
  ·by_cases hj : j < rs.length
   ·rw [List.getElem?_append_left hj] at h1
    obtain ⟨q1, q2, nr⟩ := hrs j r row h1 h2
    refine ⟨?_, q2, nr⟩
    rw [upd_ne nr]
    exact Same.new hc _ _ q1
   ·have hj2 : j = i := by
     have := (List.getElem?_eq_some_iff.mp h1).1
     rw [List.length_append] at this
     have : j < rs.length + 1 := this
     omega
    subst hj2
    rw [List.getElem?_append_right (by omega), hrl, Nat.sub_self] at h1
    obtain rfl : c = r := Option.some.inj h1
    obtain rfl : x = row := Option.some.inj (hx.symm.trans h2)
    refine ⟨?_, sm.free hc, ncl⟩
    rw [upd_ne ncl, upd_same]
    exact congrArg (fun z => some (HO.lst z)) hcut
 ·rintro σ H' ⟨v5, v6, rs, _, rfl, sm, hlr', hrl, hrs⟩
  rw [Int.toNat_natCast] at hrl
  exact ⟨_, rfl, k H' lr rs sm hlr hlr' hrl fun j r row h1 h2 => let ⟨q1, q2, _⟩ := hrs j r row h1 h2; ⟨q1, q2⟩⟩
end
theorem listRow_len {s : Panel} (h : s.told.length ≤ 24) : (listRow s).length ≤ 97 := by
 unfold Vbavag.listRow
 rw [List.length_cons, flat4 _ (fun _ => rfl)]
 have := listed_le s
 omega
theorem row_len (l : List Nat) : (Vbavag.row l).length = l.length + 1 := by
 unfold Vbavag.row Vbavag.ints
 rw [List.length_cons, List.length_map]
theorem logRow_len {s : Panel} (h : s.log.length ≤ 200) : (Vbavag.logRow s).length ≤ 602 := by
 unfold Vbavag.logRow
 rw [List.length_cons, List.length_cons]
 have e3 : ∀ l : List Event, (l.flatMap fun e => [Int.ofNat e.time, Int.ofNat e.kind, Int.ofNat e.what]).length = 3 * l.length := fun l => by
  induction l with
  | nil => rfl
  | cons a r ih =>
   rw [List.flatMap_cons, List.length_append, ih]
   show 3 + 3 * r.length = 3 * (r.length + 1)
   omega
 rw [e3]
 omega
theorem toldRow_len {w : Told} (h : w.parts.length ≤ 32 ∧ w.phases.length ≤ 32 ∧ w.covers.length ≤ 32 ∧ w.covers.Pairwise (· < ·)) : (Vbavag.toldRow w).length ≤ 602 := by
 unfold Vbavag.toldRow
 rw [List.length_append, List.length_append, List.length_append, row_len, row_len, row_len]
 show 6 + _ ≤ 602
 omega
theorem ofShown_len {s : Panel} {i : Int} {x : Panel × List Int} (h : x.2.length ≤ 602) : (Vbavag.ofShown s i x).2.length ≤ 602 := by
 unfold Vbavag.ofShown
 split
 ·show 1 ≤ 602; decide
 ·split
  ·show 1 ≤ 602; decide
  ·exact h
theorem tick_len (s : Panel) (k : Int) : (Vbavag.tickCall s k).2.length ≤ 602 := by
 unfold Vbavag.tickCall
 split
 ·show 1 ≤ 602; decide
 ·split
  ·show 1 ≤ 602; decide
  ·show 3 ≤ 602; decide
theorem step_len {s : Panel} (hw : Wf s) (hs : Short s) (c : Vbavag.Call) : (Vbavag.step s c).2.length ≤ 602 := by
 have one : (1 : Nat) ≤ 602 := by decide
 cases c with
 | warning c r e f h l m =>
  show (Vbavag.warningCall s c r e f h l m).2.length ≤ 602
  unfold Vbavag.warningCall
  split
  ·exact one
  split
  ·exact one
  split
  ·exact one
  ·exact one
 | collector c r e f h k l m =>
  show (Vbavag.collectorCall s c r e f h k l m).2.length ≤ 602
  unfold Vbavag.collectorCall
  split
  ·exact one
  split
  ·exact one
  split
  ·exact one
  split
  ·exact one
  ·exact one
 | cause c b =>
  unfold Vbavag.step
  dsimp only
  split
  ·exact one
  ·exact one
 | phase p =>
  unfold Vbavag.step
  dsimp only
  split
  ·exact one
  ·exact one
 | tick k => exact tick_len s k
 | ack i =>
  refine ofShown_len ?_
  split
  ·exact one
  ·exact one
 | ackAll => exact one
 | cancel i =>
  refine ofShown_len ?_
  split
  ·exact one
  split
  ·exact one
  ·exact one
 | recall => exact one
 | reset i =>
  show (Vbavag.resetCall s i).2.length ≤ 602
  unfold Vbavag.resetCall
  split
  ·exact one
  dsimp only
  split
  ·exact one
  split
  ·exact one
  split
  ·exact one
  ·exact one
 | list => exact Nat.le_trans (listRow_len hw.few) (by decide)
 | page n p =>
  unfold Vbavag.step
  dsimp only
  split
  ·exact one
  ·rw [List.length_cons, row_len, List.length_take, List.length_drop]
   have := listed_le s
   have := hw.few
   omega
 | why i =>
  unfold Vbavag.step
  dsimp only
  split
  ·exact one
  ·dsimp only
   split
   ·show 2 ≤ 602; decide
   ·exact one
 | sound => exact one
 | stand i =>
  unfold Vbavag.step
  dsimp only
  split
  ·exact one
  ·show 8 ≤ 602; decide
 | told i =>
  unfold Vbavag.step
  dsimp only
  by_cases h : Vbavag.isThere s i = false
  ·rw [if_pos h]
   exact one
  ·rw [if_neg h]
   obtain ⟨j, rfl, hj⟩ := isThere_nat (by simpa using h)
   rw [Int.toNat_natCast, toldOf_at (List.getElem?_eq_getElem hj)]
   exact toldRow_len (hs _ (List.getElem_mem hj))
 | log => exact logRow_len hw.log
 | next => exact one
 | ahead k =>
  show (match (Vbavag.tickCall s k).2 with | [_, _, _] => listRow (seconds k.toNat s) | l => l).length ≤ 602
  split
  ·exact Nat.le_trans (listRow_len (Wf.seconds k.toNat hw).few) (by decide)
  ·exact tick_len s k
 | state =>
  show ([Int.ofNat s.now, Int.ofNat s.phase] ++ (Vbavag.row s.on ++ [Int.ofNat s.told.length])).length ≤ 602
  rw [List.length_append, List.length_append, row_len]
  have hlo : s.on.length ≤ 32 := by
   rw [hw.on]
   have := List.length_filter_le (Vbavag.has s.on) (List.range 32)
   rw [List.length_range] at this
   exact this
  show 2 + (s.on.length + 1 + 1) ≤ 602
  omega
theorem raw_len {s : Panel} (hw : Wf s) (hs : Short s) (c : List (List Int)) : (Vbavag.stepRaw s c).2.length ≤ 602 := by
 unfold Vbavag.stepRaw
 split
 ·show 1 ≤ 602; decide
 ·exact step_len hw hs _
theorem told_len : ∀ {l : List (List Int)}, (∀ a ∈ l, a.length ≤ 602) → (PyFlat.told l).length ≤ 603 * l.length
 | [], _ => Nat.le_refl 0
 | a :: r, h => by
  rw [told_cons, List.length_append, List.length_cons, List.length_cons]
  have h1 := h a (by simp)
  have h2 := told_len (l := r) fun b hb => h b (List.mem_cons_of_mem _ hb)
  omega
theorem asked_rows {a : List Int} {xs : List (List Int)} (h : VbavagNeutral.asked1 (a :: xs) = true) : ∀ x ∈ xs, x.length ≤ 32 := by
 have rw1 : ∀ {l : List Int}, VbavagNeutral.row l = true → l.length ≤ 32 := fun {l} h => by
  unfold VbavagNeutral.row at h
  exact of_decide_eq_true (Bool.and_eq_true_iff.mp h).1
 match xs, h with
 | [], _ => exact fun x hx => absurd hx (by simp)
 | [l], h =>
  have h := (Bool.and_eq_true_iff.mp (show (VbavagNeutral.numbers a && VbavagNeutral.row l) = true from h)).2
  intro x hx
  rw [List.mem_singleton.mp hx]
  exact rw1 h
 | [l, m], h =>
  have h := (Bool.and_eq_true_iff.mp (show (VbavagNeutral.numbers a && (VbavagNeutral.row l && VbavagNeutral.row m)) = true from h)).2
  have h := Bool.and_eq_true_iff.mp h
  intro x hx
  simp only [List.mem_cons, List.not_mem_nil, or_false] at hx
  rcases hx with rfl | rfl
  ·exact rw1 h.1
  ·exact rw1 h.2
 | [k, l, m], h =>
  have h := (Bool.and_eq_true_iff.mp (show (VbavagNeutral.numbers a && (VbavagNeutral.row k && (VbavagNeutral.row l && VbavagNeutral.row m))) = true from h)).2
  have h := Bool.and_eq_true_iff.mp h
  have h2 := Bool.and_eq_true_iff.mp h.2
  intro x hx
  simp only [List.mem_cons, List.not_mem_nil, or_false] at hx
  rcases hx with rfl | rfl | rfl
  ·exact rw1 h.1
  ·exact rw1 h2.1
  ·exact rw1 h2.2
 | _ :: _ :: _ :: _ :: _, h => exact Bool.noConfusion h
theorem rowsFlat_sum (xs : List (List Int)) : (xs.map fun x => (1 + (x.length : Int))).sum = ((rowsFlat xs).length : Int) := by
 induction xs with
 | nil => rfl
 | cons a r ih =>
  rw [List.map_cons, List.sum_cons, ih]
  show (1 + (a.length : Int)) + _ = ((((a.length : Int) :: a) ++ rowsFlat r).length : Int)
  rw [List.length_append, List.length_cons]
  omega
theorem shape_rows {p : Int} {n k : Nat} (h : PyVbavag.shape p = some (n, k)) : k ≤ 3 := by
 rcases shape_cases h with h | h | h | h | h | h | h | h | h | h | h | h | h | h | h | h | h | h | h | h <;> omega
theorem shape_at {K : PySem.W.Frag} {mg : Str → Option Value} {d : Ad} (T : Tx K mg d) {p : Int} {n k : Nat} (h : PyVbavag.shape p = some (n, k)) : ∃ a xs, (∀ H, SqT K H d.t_SHAPES xs) ∧ atI xs p = some (.ref a) ∧ KTup K a [vN n, vN k] := by
 rcases shape_cases h with h | h | h | h | h | h | h | h | h | h | h | h | h | h | h | h | h | h | h | h <;> obtain ⟨rfl, rfl, rfl⟩ := h
 ·exact ⟨_, _, fun H => T.k_SHAPES.sq, rfl, T.k_SHAPES_0⟩
 ·exact ⟨_, _, fun H => T.k_SHAPES.sq, rfl, T.k_SHAPES_1⟩
 ·exact ⟨_, _, fun H => T.k_SHAPES.sq, rfl, T.k_SHAPES_2⟩
 ·exact ⟨_, _, fun H => T.k_SHAPES.sq, rfl, T.k_SHAPES_3⟩
 ·exact ⟨_, _, fun H => T.k_SHAPES.sq, rfl, T.k_SHAPES_4⟩
 ·exact ⟨_, _, fun H => T.k_SHAPES.sq, rfl, T.k_SHAPES_5⟩
 ·exact ⟨_, _, fun H => T.k_SHAPES.sq, rfl, T.k_SHAPES_6⟩
 ·exact ⟨_, _, fun H => T.k_SHAPES.sq, rfl, T.k_SHAPES_7⟩
 ·exact ⟨_, _, fun H => T.k_SHAPES.sq, rfl, T.k_SHAPES_8⟩
 ·exact ⟨_, _, fun H => T.k_SHAPES.sq, rfl, T.k_SHAPES_9⟩
 ·exact ⟨_, _, fun H => T.k_SHAPES.sq, rfl, T.k_SHAPES_10⟩
 ·exact ⟨_, _, fun H => T.k_SHAPES.sq, rfl, T.k_SHAPES_11⟩
 ·exact ⟨_, _, fun H => T.k_SHAPES.sq, rfl, T.k_SHAPES_12⟩
 ·exact ⟨_, _, fun H => T.k_SHAPES.sq, rfl, T.k_SHAPES_13⟩
 ·exact ⟨_, _, fun H => T.k_SHAPES.sq, rfl, T.k_SHAPES_14⟩
 ·exact ⟨_, _, fun H => T.k_SHAPES.sq, rfl, T.k_SHAPES_15⟩
 ·exact ⟨_, _, fun H => T.k_SHAPES.sq, rfl, T.k_SHAPES_16⟩
 ·exact ⟨_, _, fun H => T.k_SHAPES.sq, rfl, T.k_SHAPES_17⟩
 ·exact ⟨_, _, fun H => T.k_SHAPES.sq, rfl, T.k_SHAPES_18⟩
 ·exact ⟨_, _, fun H => T.k_SHAPES.sq, rfl, T.k_SHAPES_19⟩
def KpO (d : Ad) (A : Pl) (H H' : Hp) : Prop := ∀ b o, H b = some o → b ∉ A.own → b ≠ d.ta_13 → H' b = some o
def ArgL (K : PySem.W.Frag) (H : Hp) (A : List Addr) (lc : Addr) (xs : List V) : Prop := (Rd H lc (.lst xs) ∧ lc ∉ A) ∨ ∀ H', SqL K H' lc xs
theorem ArgL.now {K : PySem.W.Frag} {H : Hp} {d : Ad} {A : Pl} {lc : Addr} {xs : List V} (h : ArgL K H A.own lc xs) (t : TabL d H) {H' : Hp} (k : KpO d A H H') : SqL K H' lc xs := by
 rcases h with ⟨h, n⟩ | h
 ·obtain ⟨q, e⟩ := t.is
  rcases h with h | ⟨o, h⟩
  ·exact .inl (.inl (k _ _ h n fun z => by rw [z, e] at h; cases h))
  ·exact .inl (.inr ⟨o, k _ _ h n fun z => by rw [z, e] at h; cases h⟩)
 ·exact h H'
def sp_line (K : PySem.W.Frag) (d : Ad) : Sp := fun vs H Q _ => ∃ (A : Pl) (lc : Addr) (l : List Int) (f : Nat) (cs : List (List (List Int))), vs = [.ref A.p, .ref lc] ∧ Good d H A Vbavag.start ∧ TabL d H ∧ ArgL K H A.own lc (l.map V.int) ∧ A.ro = [] ∧ PyFlat.calls PyVbavag.shape f l = some cs ∧ cs.length ≤ 400 ∧ cs.all VbavagNeutral.asked1 = true ∧
 ∀ H' p, H' p = some (.lst ((PyFlat.told (PyFlat.played VbavagNeutral.step Vbavag.start cs)).map V.int)) → H p = none → KpO d A H H' → TabL d H' → Q (.ref p) H'
def sp_ans (K : PySem.W.Frag) (d : Ad) : Sp := fun vs H Q _ => ∃ (lc : Addr) (l : List Int), vs = [.ref lc] ∧ TabL d H ∧ SqL K H lc (l.map V.int) ∧ PyVbavag.answers_asked l = true ∧
 ∀ H' p, H' p = some (.lst ((PyVbavag.answers l).map V.int)) → H p = none → KpT d H H' → TabL d H' → Q (.ref p) H'
theorem PanelAt.off {d : Ad} {H H' : Hp} {A : Pl} {s : Panel} {b : Addr} {ys : List V} (h : PanelAt d H A s) (nb : b ∉ A.own) (nr : b ∉ A.ro) (hb : H b = some (.lst ys)) (k : Kp [b] H H') : PanelAt d H' A s := by
 have kk : ∀ c o, H c = some o → c ≠ b → H' c = some o := fun c o e q => k c o e (by simpa using q)
 have no : ∀ c ∈ A.own, c ≠ b := fun c hc q => nb (by rw [← q]; exact hc)
 obtain ⟨dq, h0⟩ := h.obj
 refine ⟨⟨dq, kk _ _ h0 (no _ (by simp [Pl.own]))⟩, kk _ _ h.cau (no _ (by simp [Pl.own])), kk _ _ h.war (no _ (by simp [Pl.own])), ?_, h.la, h.ls, fun j c w' x' a1 a2 a3 => ?_, h.nd, h.ap⟩
 ·obtain ⟨ts, q1, q2, q3⟩ := h.log.ex
  exact ⟨ts, kk _ _ q1 (no _ (by simp [Pl.own])), q2, fun j t v b1 b2 => kk _ _ (q3 j t v b1 b2) (ne_of (q3 j t v b1 b2) hb (by intro z; cases z))⟩
 ·exact (h.at_ j c w' x' a1 a2 a3).kp k (by simpa using no c (PanelAt.as_own a1)) fun e he => by simpa using fun q : e = b => nr (by rw [← q]; exact he)
section
variable {P : Program} {w : World} {K : PySem.W.Frag} {mg : Str → Option Value} {base : Heap} {d : Ad}
theorem ok_62 (T : Tx K mg d) (hB : Bs base mg d) : FnOk P w K mg base CX0 11 d.f_62 d.d_62 ["panel", "calls"] (sp_line K d) := by
 refine T.F_62.ok sc_62 (fun vs H Q E h => ?_) (fun cdv Ar outer s0 H vs Q E hr h => ?_)
 ·obtain ⟨A, lc, l, f, cs, rfl, hG, tab, hlc, hro, hcs, hfew, hask, k⟩ := h
  rfl
 obtain ⟨A, lc, l, f, cs, rfl, hG, tab, hlc, hro, hcs, hfew, hask, k⟩ := h
 refine ⟨_, (pss_cons (ps_sA (i := 2) sc_62.nd rfl (pe_lst pa_nil)) (pss_cons (ps_sA (i := 3) sc_62.nd rfl pe_int) (pss_cons (ps_while PassesOwn.never (pt_cmpR op_lt (pv 3) (pe_callB call_len_seq rfl T.no_len bt_len (pa_cons (pv 1) pa_nil)) (nomark _)) (pss_cons (ps_sA (i := 4) sc_62.nd rfl (pe_ix ix_list (pv 1) (pv 3) (fun _ _ => rfl))) (pss_cons (ps_sA (i := 5) sc_62.nd rfl (pe_op op_add (pe_op op_add (pv 3) pe_int) (pe_ix ix_tup (pe_ix ix_tup (pe_glob (v := .ref d.t_SHAPES) rfl T.mg_SHAPES rfl) (pv 4) (fun _ _ => rfl)) pe_int (fun _ _ => rfl)))) (pss_cons (ps_sA (i := 6) sc_62.nd rfl (pe_call (ok_61 T) (hr.mono (by decide)) rfl T.mg_61 T.F_61.kp T.b_61 .nil pass0 (pa_cons (pv 1) (pa_cons (pv 5) (pa_cons (pe_ix ix_tup (pe_ix ix_tup (pe_glob (v := .ref d.t_SHAPES) rfl T.mg_SHAPES rfl) (pv 4) (fun _ _ => rfl)) pe_int (fun _ _ => rfl)) pa_nil))))) (pss_cons (ps_sA (i := 7) sc_62.nd rfl (pe_call (ok_60 T hB) (hr.mono (by decide)) rfl T.mg_60 T.F_60.kp T.b_60 .nil pass0 (pa_cons (pv 0) (pa_cons (pv 4) (pa_cons (pe_slice sl_list (pv 1) (po_some (pe_op op_add (pv 3) pe_int)) (po_some (pv 5))) (pa_cons (pv 6) pa_nil)))))) (pss_cons (ps_expr (pe_bm PySem.F.plainAttrs_list PySem.F.slot_list_append PySem.F.type_list_append mt_append (pv 2) (pa_cons (pe_callB call_len_seq rfl T.no_len bt_len (pa_cons (pv 7) pa_nil)) pa_nil))) (pss_cons (ps_expr (pe_bm PySem.F.plainAttrs_list PySem.F.slot_list_extend PySem.F.type_list_extend mt_extend (pv 2) (pa_cons (pv 7) pa_nil))) (pss_one (ps_sA (i := 3) sc_62.nd rfl (pe_op op_add (pv 5) (pe_callB (cr_sum rfl) rfl T.no_sum bt_sum (pa_cons (pe_lc rfl sc_62.nd (pi_list (pv 6)) (blkOk_by (own := [("row", 8)]) rfl) (fun _ _ _ _ _ => (pg_name (i := 8) sc_62.nd rfl (Or.inl rfl) (Or.inr rfl))) (fun _ _ _ _ _ => pts_nil) (fun _ _ _ _ _ => (pe_op op_add pe_int (pe_callB (lenS (K := K) rfl) rfl T.no_len bt_len (pa_cons (pv 8) pa_nil))))) pa_nil)))))))))))) (pss_one (ps_ret (pv 2)))))), ?_⟩
 have hbig : (300000 : Nat) ≤ sizeLine := by decide
 refine ⟨Nat.zero_le _, fun b hb => ?_⟩
 refine while_by (fun σ H' => ∃ (A' : Pl) (s : Panel) (pre t : List Int) (f' : Nat) (cs' : List (List (List Int))) (dn : List (List Int)) (v4 v5 v6 v7 v8 : Option V),
   σ = [some (.ref A.p), some (.ref lc), some (.ref b), some (vN pre.length), v4, v5, v6, v7, v8] ∧ l = pre ++ t ∧ PyFlat.calls PyVbavag.shape f' t = some cs' ∧ dn ++ PyFlat.played VbavagNeutral.step s cs' = PyFlat.played VbavagNeutral.step Vbavag.start cs ∧ dn.length + cs'.length = cs.length ∧ (∀ a ∈ dn, a.length ≤ 602) ∧ cs'.all VbavagNeutral.asked1 = true ∧
   A'.p = A.p ∧ Good d H' A' s ∧ TabL d H' ∧ (∀ c ∈ A'.own, c ∈ A.own ∨ H c = none) ∧ KpO d A H H' ∧ H' b = some (.lst ((PyFlat.told dn).map V.int)) ∧ b ∉ A'.own ∧ b ∉ A'.ro)
  (fun σ H' => match σ with | [_, _, _, some (.int n), _, _, _, _, _] => ((l.length : Int) - n).toNat | _ => 0)
  ⟨A, Vbavag.start, [], l, f, cs, [], none, none, none, none, none, rfl, rfl, hcs, rfl, Nat.zero_add _, fun a ha => absurd ha (by simp), hask, rfl, hG.same (Same.new hb), tab.same (Same.new hb), fun c hc => .inl hc, fun c o e _ _ => Same.new hb _ _ e, upd_same, not_own_none hG.at_ hb, by rw [hro]; simp⟩ ?_ ?_
 ·rintro σ H1 ⟨A1, s, pre, t, f', cs', dn, v4, v5, v6, v7, v8, rfl, hl, hc, hpl, hcn, hdn, hask', eA, hG1, tab1, hown, kO, hb1, nb1, nr1⟩
  have hlc1 : SqL K H1 lc (l.map V.int) := hlc.now tab kO
  refine ⟨_, rfl, _, rfl, _, _, rfl, .inl hlc1, _, _, rfl, rfl, _, rfl, ?_⟩
  cases t with
  | nil =>
   rw [List.append_nil] at hl
   subst hl
   have e0 := calls_nil hc
   subst e0
   rw [show PyFlat.played VbavagNeutral.step s [] = [] from rfl, List.append_nil] at hpl
   refine ifF (decide_eq_false (by rw [List.length_map]; omega)) ⟨_, rfl, k H1 b ?_ hb kO tab1⟩
   rw [hb1, hpl]
  | cons p r =>
   obtain ⟨a, xs, t', cs2, f2, hS, rfl, rfl, hc2⟩ := calls_step hc
   subst hl
   have hx3 := shape_rows hS
   obtain ⟨sa, sxs, hsq, hsat, hsk⟩ := shape_at T hS
   have hask1 : VbavagNeutral.asked1 ((p :: a) :: xs) = true ∧ cs2.all VbavagNeutral.asked1 = true := by
    rw [List.all_cons] at hask'
    exact Bool.and_eq_true_iff.mp hask'
   have hrow := asked_rows hask1.1
   refine ifT (decide_eq_true ?_) ?_
   ·rw [List.length_map, List.length_append, List.length_cons]
    omega
   have hat : atI ((pre ++ p :: (a ++ (rowsFlat xs ++ t'))).map V.int) ((pre.length : Nat) : Int) = some (.int p) := by
    refine atI_nat ?_
    rw [List.map_append, List.getElem?_append_right (by rw [List.length_map]; omega), List.length_map, Nat.sub_self]
    rfl
   refine ⟨_, rfl, _, rfl, _, _, _, _, rfl, rfl, hlc1, hat, ?_⟩
   refine ⟨_, rfl, _, _, rfl, rfl, _, rfl, _, _, _, _, rfl, rfl, hsq _, hsat, _, _, _, _, rfl, rfl, hsk.sq, rfl, _, _, rfl, rfl, ?_⟩
   have hl1 : SqL K H1 lc (((pre ++ p :: a) ++ (rowsFlat xs ++ t')).map V.int) := by
    have eq : (pre ++ p :: a) ++ (rowsFlat xs ++ t') = pre ++ p :: (a ++ (rowsFlat xs ++ t')) := by simp only [List.append_assoc, List.cons_append]
    rw [eq]
    exact hlc1
   have hl2 : SqL K H1 lc (((pre ++ [p]) ++ (a ++ (rowsFlat xs ++ t'))).map V.int) := by
    have eq : (pre ++ [p]) ++ (a ++ (rowsFlat xs ++ t')) = pre ++ p :: (a ++ (rowsFlat xs ++ t')) := by simp only [List.append_assoc, List.cons_append, List.nil_append]
    rw [eq]
    exact hlc1
   have e5 : ((pre.length : Nat) : Int) + 1 + ((a.length : Nat) : Int) = (((pre ++ p :: a).length : Nat) : Int) := by
    rw [List.length_append, List.length_cons]
    omega
   have e6 : ((pre.length : Nat) : Int) + 1 = (((pre ++ [p]).length : Nat) : Int) := by
    rw [List.length_append]
    show _ = ((pre.length + 1 : Nat) : Int)
    omega
   refine ⟨_, rfl, _, rfl, _, rfl, _, _, _, _, rfl, rfl, hsq _, hsat, _, _, _, _, rfl, rfl, hsk.sq, rfl, lc, pre ++ p :: a, t', xs, ?_, hx3, hl1, fun H2 lr rs s2 nlr hlr hrl hrs => ?_⟩
   ·show [V.ref lc, V.int (((pre.length : Nat) : Int) + 1 + ((a.length : Nat) : Int)), vN xs.length] = _
    rw [e5]
    rfl
   refine ⟨_, rfl, _, rfl, _, rfl, _, rfl, _, _, rfl, rfl, _, rfl, _, rfl, _, rfl, _, _, rfl, sqSame hl2 s2, fun ln hln => ?_⟩
   have hcut := cut_mid (pre ++ [p]) a (rowsFlat xs ++ t')
   rw [← e6] at hcut
   have s3 : ∀ o, Same H2 (upd H2 ln o) := fun o => Same.new hln
   have sA : ∀ o, Same H1 (upd H2 ln o) := fun o => s2.trans (s3 o)
   refine ⟨_, rfl, A1, s, p, ln, lr, a, rs, xs, (by rw [eA]; rfl), hG1.same (sA _), tab1.same (sA _), ⟨?_, s3 _ _ _ hlr, hrl, fun j r' row h1 h2 => ?_⟩, hS, ?_⟩
   ·rw [upd_same]
    exact congrArg (fun z => some (HO.lst z)) hcut
   ·obtain ⟨q1, q2⟩ := hrs j r' row h1 h2
    exact ⟨s3 _ _ _ q1, not_own_none hG1.at_ q2, hrow row (List.mem_of_getElem? h2)⟩
   intro H4 p4 A4 eA4 hG4 hown4 hro4 tab4 hp4 np4 kO4
   have hb2 := sA (.lst (cutV ((pre ++ [p] ++ (a ++ (rowsFlat xs ++ t'))).map V.int) (some (((pre.length : Nat) : Int) + 1)) (some (((pre.length : Nat) : Int) + 1 + ((a.length : Nat) : Int))))) _ _ hb1
   have nbT : b ≠ d.ta_13 := fun z => by
    obtain ⟨o, e⟩ := tab1.is
    rw [z, e] at hb1
    cases hb1
   have hb4 := kO4 _ _ hb2 nb1 nbT
   have isT : ∀ {c : Addr} {ys : List V}, H2 c = some (.lst ys) → c ≠ d.ta_13 := fun {c ys} e z => by
    obtain ⟨o, e'⟩ := (tab1.same s2).is
    rw [z, e'] at e
    cases e
   have hlr4 := kO4 _ _ (s3 _ _ _ hlr) (not_own_none hG1.at_ nlr) (isT hlr)
   have hrs4 : ∀ (j : Nat) r' row, rs[j]? = some r' → xs[j]? = some row → H4 r' = some (.lst (row.map V.int)) ∧ r' ≠ b := fun j r' row h1 h2 => by
    obtain ⟨q1, q2⟩ := hrs j r' row h1 h2
    exact ⟨kO4 _ _ (s3 _ _ _ q1) (not_own_none hG1.at_ q2) (isT q1), (ne_of_none hb1 q2).symm⟩
   have nlb : lr ≠ b := (ne_of_none hb1 nlr).symm
   have npb : p4 ≠ b := (ne_of_none hb2 np4).symm
   have nb4 : b ∉ A4.own := fun z => by
    rcases hown4 b z with q | q
    ·exact nb1 q
    ·rw [q] at hb2
     cases hb2
   have nr4 : b ∉ A4.ro := fun z => by
    rcases hro4 b z with q | q | q
    ·exact nr1 q
    ·rw [q] at hb2
     cases hb2
    ·obtain ⟨j, hj⟩ := List.getElem?_of_mem q
     have hjl := (List.getElem?_eq_some_iff.mp hj).1
     exact (hrs4 j b _ hj (List.getElem?_eq_getElem (by omega))).2 rfl
   have hlenA : (Vbavag.stepRaw s ((p :: a) :: xs)).2.length ≤ 602 := raw_len hG1.wf hG1.short _
   have hdl := told_len hdn
   have hcl : dn.length + (cs2.length + 1) = cs.length := by
    rw [← hcn, List.length_cons]
   have e7 : ∀ c : List (List Int), VbavagNeutral.step s c = Vbavag.stepRaw s c := fun _ => rfl
   generalize hans : (Vbavag.stepRaw s ((p :: a) :: xs)).2 = ans at hp4 hlenA
   generalize hnew : (Vbavag.stepRaw s ((p :: a) :: xs)).1 = s' at hG4
   refine ⟨_, rfl, .inl ⟨rfl, _, SqL.of hb4⟩, _, rfl, _, _, rfl, .inl (SqL.of hp4), b, _, _, rfl, rfl, hb4, by rw [List.length_map]; omega, ?_⟩
   refine ⟨_, rfl, .inl ⟨rfl, _, SqL.of upd_same⟩, _, rfl, b, p4, _, _, rfl, rfl, upd_same, by rw [upd_ne npb]; exact hp4, ?_, ?_⟩
   ·rw [List.length_append, List.length_map, List.length_map]
    show _ + 1 + _ ≤ sizeLine
    omega
   have kb : ∀ o1 o2, Kp [b] H4 (upd (upd H4 b o1) b o2) := fun o1 o2 => (Kp.one (p := b)).trans Kp.one
   have k6 := kb (.lst ((PyFlat.told dn).map V.int ++ [.int ((ans.map V.int).length : Nat)])) (.lst ((PyFlat.told dn).map V.int ++ [.int ((ans.map V.int).length : Nat)] ++ ans.map V.int))
   have hb6 : upd (upd H4 b (.lst ((PyFlat.told dn).map V.int ++ [.int ((ans.map V.int).length : Nat)]))) b (.lst ((PyFlat.told dn).map V.int ++ [.int ((ans.map V.int).length : Nat)] ++ ans.map V.int)) b = some (.lst ((PyFlat.told (dn ++ [ans])).map V.int)) := by
    rw [upd_same, told_append, List.map_append, List.append_assoc, List.length_map]
    congr 3
    show _ = ((((ans.length : Int) :: ans) ++ []).map V.int)
    rw [List.append_nil]
    rfl
   generalize upd (upd H4 b (.lst ((PyFlat.told dn).map V.int ++ [.int ((ans.map V.int).length : Nat)]))) b (.lst ((PyFlat.told dn).map V.int ++ [.int ((ans.map V.int).length : Nat)] ++ ans.map V.int)) = H6 at k6 hb6
   have kk6 : ∀ c o, H4 c = some o → c ≠ b → H6 c = some o := fun c o e q => k6 c o e (by simpa using q)
   have tab6 : TabL d H6 := tab4.kp k6 fun c hc o ho => by
    rw [List.mem_singleton.mp hc, hb4] at ho
    cases ho
    rfl
   have hP6 := hG4.at_.off nb4 nr4 hb4 k6
   have hlr6 := kk6 _ _ hlr4 nlb
   refine ⟨_, rfl, _, rfl, _, rfl, ⟨_, SqL.of hlr6⟩, ?_⟩
   intro D hD
   refine lc_list (K := K) (a := lr) (xs := rs.map V.ref) (fun i H' => Same H6 H' ∧ H' D = some (.lst (((xs.take i).map fun x => (1 + (x.length : Int))).map V.int)))
    ⟨Same.new hD, upd_same⟩ (fun i H' _ ⟨sm, _⟩ => SqL.of (sm _ _ hlr6)) ?_ ?_
   ·rintro i y H' hi ⟨sm, hD'⟩
    obtain ⟨r', hr', rfl⟩ := map_at hi
    have hi2 := (List.getElem?_eq_some_iff.mp hr').1
    have hxi := List.getElem?_eq_getElem (l := xs) (i := i) (by omega)
    obtain ⟨q1, q2⟩ := hrs4 i r' _ hr' hxi
    generalize xs[i]'(by omega) = x at hxi q1
    refine ⟨rfl, _, rfl, _, _, rfl, .inl (SqL.of (sm _ _ (kk6 _ _ q1 q2))), _, _, rfl, rfl, _, hD', ?_, fun c o e => ?_, ?_⟩
    ·rw [List.length_map, List.length_map, List.length_take]
     omega
    ·rw [upd_ne (ne_of_none e hD)]
     exact sm c o e
    ·rw [upd_same, take_snoc hxi, List.map_append, List.map_append, List.length_map]
     rfl
   ·rintro H7 ⟨s7, hD7⟩
    rw [List.length_map, hrl, List.take_length] at hD7
    refine ⟨D, _, rfl, SqL.of hD7, _, _, rfl, rfl, ⟨A4, s', pre ++ (p :: (a ++ rowsFlat xs)), t', f2, cs2, dn ++ [ans], some (.int p), some (.int (((pre.length : Nat) : Int) + 1 + ((a.length : Nat) : Int))), some (.ref lr), some (.ref p4), v8, ?_, ?_, hc2, ?_, ?_, ?_, hask1.2, eA4.trans eA, ?_, tab6.same s7, ?_, ?_, s7 _ _ hb6, nb4, nr4⟩, ?_⟩
    ·show [some (V.ref A.p), some (V.ref lc), some (V.ref b), some (V.int (((pre.length : Nat) : Int) + 1 + ((a.length : Nat) : Int) + (xs.map fun x => (1 + (x.length : Int))).sum)), some (V.int p), some (V.int (((pre.length : Nat) : Int) + 1 + ((a.length : Nat) : Int))), some (V.ref lr), some (V.ref p4), v8] = _
     have e8 : ((pre.length : Nat) : Int) + 1 + ((a.length : Nat) : Int) + (xs.map fun x => (1 + (x.length : Int))).sum = (((pre ++ (p :: (a ++ rowsFlat xs))).length : Nat) : Int) := by
      rw [rowsFlat_sum, List.length_append, List.length_cons, List.length_append]
      omega
     rw [e8]
     rfl
    ·simp only [List.append_assoc, List.cons_append]
    ·rw [← hpl, played_cons, hans, hnew, List.append_assoc]
     rfl
    ·rw [List.length_append, ← hcl]
     show dn.length + 1 + cs2.length = _
     omega
    ·intro y hy
     rcases List.mem_append.mp hy with q | q
     ·exact hdn y q
     ·rw [List.mem_singleton.mp q]
      exact hlenA
    ·exact ⟨⟨hP6.same s7, hG4.wf, hG4.short⟩, hG4.tame⟩
    ·intro c hc'
     by_cases hcA : c ∈ A.own
     ·exact .inl hcA
     rcases hown4 c hc' with q | q
     ·exact hown c q
     ·refine .inr ?_
      cases e : H c with
      | none => rfl
      | some o =>
       have nT : c ≠ d.ta_13 := fun z => by
        obtain ⟨o', e'⟩ := (tab1.same s2).is
        rw [z, s3 _ _ _ e'] at q
        cases q
       rw [sA _ _ _ (kO c o e hcA nT)] at q
       cases q
    ·intro c o e hcA hcT
     have nc1 : c ∉ A1.own := fun z => by
      rcases hown c z with q | q
      ·exact hcA q
      ·rw [q] at e
       cases e
     exact s7 _ _ (kk6 _ _ (kO4 _ _ (sA _ _ _ (kO c o e hcA hcT)) nc1 hcT) (ne_of_none e hb))
    ·show (((pre ++ p :: (a ++ (rowsFlat xs ++ t'))).length : Int) - (((pre.length : Nat) : Int) + 1 + ((a.length : Nat) : Int) + (xs.map fun x => (1 + (x.length : Int))).sum)).toNat < (((pre ++ p :: (a ++ (rowsFlat xs ++ t'))).length : Int) - ((pre.length : Nat) : Int)).toNat
     rw [rowsFlat_sum, List.length_append, List.length_cons, List.length_append, List.length_append]
     omega
 ·rintro σ H' Q1 Q2 h ⟨v, e, u, e0, y, ys, e9, e10, i, j, e1, e2, b, e3, q⟩
  exact ⟨v, e, u, e0, y, ys, e9, e10, i, j, e1, e2, b, e3, h _ _ q⟩
theorem start_good {H : Hp} {A : Pl} (hP : PanelAt d H A Vbavag.start) : Good d H A Vbavag.start :=
 ⟨⟨hP, wf_start, fun w hw => absurd hw (by simp [Vbavag.start])⟩, fun i w x hw => absurd hw (by simp [Vbavag.start])⟩
theorem ok_63 (T : Tx K mg d) (hB : Bs base mg d) : FnOk P w K mg base CX0 12 d.f_63 d.d_63 ["calls"] (sp_ans K d) := by
 refine T.F_63.ok sc_63 (fun vs H Q E h => ?_) (fun cdv Ar outer s0 H vs Q E hr h => ?_)
 ·obtain ⟨lc, l, rfl, tab, hlc, hask, k⟩ := h
  rfl
 obtain ⟨lc, l, rfl, tab, hlc, hask, k⟩ := h
 refine ⟨_, (pss_one (ps_ret (pe_call (ok_62 T hB) (hr.mono (by decide)) rfl T.mg_62 T.F_62.kp T.b_62 .nil pass0 (pa_cons (pe_make0 T.mk_Panel (ok_43 T) (hr.mono (by decide)) rfl T.mg_Panel T.b_43 .nil pass0) (pa_cons (pv 0) pa_nil))))), ?_⟩
 intro x dx nx ndx nxd
 refine ⟨x, dx, rfl, upd_same, fun H1 A1 e1 e2 e3 hP1 k1 n1 => ⟨rfl, ?_⟩⟩
 subst e1
 have s1 : Same H H1 := Same.made nx ndx fun b o z q => k1 b o z (by simpa using q)
 have free : ∀ b, upd (upd H dx (.own A1.p)) A1.p (.ins d.C_Panel dx []) b = none → H b = none := fun b q => by
  by_cases z : b = A1.p
  ·rw [z]
   exact nx
  ·rw [upd_ne z] at q
   by_cases z2 : b = dx
   ·rw [z2]
    exact ndx
   ·rw [upd_ne z2] at q
    exact q
 have new : ∀ b ∈ A1.own, H b = none := fun b hb => by
  have hb : b ∈ A1.p :: A1.lc :: A1.lw :: A1.lg :: A1.as := hb
  rw [e2] at hb
  rcases List.mem_cons.mp hb with q | q
  ·rw [q]
   exact nx
  ·exact free b (n1 b q)
 unfold PyVbavag.answers_asked at hask
 unfold PyVbavag.answers at k
 rw [calls_whole] at hask k
 cases hc : PyFlat.calls PyVbavag.shape l.length l with
 | none =>
  rw [hc] at hask
  cases hask
 | some cs =>
  rw [hc] at hask k
  dsimp only at hask k
  obtain ⟨q1, q2⟩ := Bool.and_eq_true_iff.mp hask
  have q1 : cs.length ≤ 400 := of_decide_eq_true q1
  have q3 : cs.all VbavagNeutral.asked1 = true := (Bool.and_eq_true_iff.mp q2).2
  refine ⟨_, rfl, A1, lc, l, l.length, cs, rfl, start_good hP1, tab.same s1, ?_, e3, hc, q1, q3, fun H' p hp np kO tab' => k H' p hp (s1.free np) (fun b o e n => kO b o (s1 _ _ e) (fun z => ?_) n) tab'⟩
  ·rcases hlc with (h | ⟨o, h⟩) | h
   ·exact .inl ⟨.inl (s1 _ _ h), fun z => by rw [new _ z] at h; cases h⟩
   ·exact .inl ⟨.inr ⟨o, s1 _ _ h⟩, fun z => by rw [new _ z] at h; cases h⟩
   ·exact .inr fun _ => .inr h
  ·rw [new _ z] at e
   cases e
end
end Sw
namespace Sw
open PySem hiding Event
open PySem.W (WData Codec OpenSpec Well WellAll ReadsW ReadsAllW)
open PySem.Spec L2
open PyProof.Rows hiding St
theorem spec_callT {P : Program} {w : World} {K : PySem.W.Frag} {mg mb : Str → Option Value} {k : Nat} {fa c T : Addr} {fd : FuncData} {ps : List Str} {sp : Sp} {s₁ : Shared} {vals : List Value} {ds : List WData} {R : PySem.W.WRecords} {cl : Str → Option Addr} {d0 : WData}
  (KX : K.In s₁.heap) (hns : s₁.heap.Ns mainGlobals mg) (hb : s₁.heap.Ns builtinsNs mb) (hbb : ∀ x : Str, x ≠ "__name__" → mb x = bootBuiltins x) (hlim : s₁.heap.NoLimit) (hg : s₁.gens = #[])
  (hT : s₁.heap.TableAt c T #[]) (hKT : K.lookup T = none) (hBm : ∃ bm ob, mg "__builtins__" = some (.ref bm) ∧ bm ≠ builtinsNs ∧ s₁.heap.get? bm = some ob ∧ ob.cls = .type "module" ∧ ob.dict = some builtinsNs ∧ ob.data = .plain)
  (hwl : WellAll w.params s₁.heap vals ds) (hpl : plWs ds = true) (hwt : ∀ d ∈ ds, d.weight ≤ 1048576) (hr : Room k callerA)
  (F : ∀ base : Heap, K.In base → base.BuiltinsAt mg T → FnOk P w K mg base CX0 k fa fd ps sp) (hbind : ∀ (s : Shared) (us : List Value), us.length = ps.length → BindsTo s fd ⟨us, []⟩ (ps.zip us)) (hlen : ds.length = ps.length)
  (hsp : ∀ (H0 H : Hp) (xs : List V), Same H0 H → H T = some (.tbl #[]) → DwAll K H0 xs ds → sp xs H (fun v H' => Dw K H' v d0) fun _ _ _ => False) :
  codeAny (model P w) callerA (.call (.ref fa) ⟨vals, []⟩) (fun r s' => ∃ u as, r = .ok (.ret u) ∧ ReadsW R cl s'.heap u d0 as ∧ OldK s₁.heap s'.heap ∧ s'.os = s₁.os ∧ AllBare s'.gens) s₁ := by
 obtain ⟨A, ho, ar⟩ := area_all ds vals hwl hpl hwt
 have hO : OnlyF (argH K s₁.heap A) := argH_only ar
 have hok : HOk P w (argH K s₁.heap A) s₁.heap := argH_ok ar
 have hS := dw_all KX ar ds vals hwl hpl ho
 have hV := vals_toV ho
 have hK : ∀ b u, argH K s₁.heap A b = some u → K.lookup b = none := fun b u q => (argH_is ar q).1
 have noC : ∀ {b : Addr} {o : Obj}, s₁.heap.get? b = some o → o.cls ≠ .type "list" → o.cls ≠ .type "tuple" → argH K s₁.heap A b = none := fun {b o} e n1 n2 => by
  cases q : argH K s₁.heap A b with
  | none => rfl
  | some u =>
   obtain ⟨_, vs, _, _, ⟨e2, _⟩ | ⟨e2, _⟩⟩ := argH_is ar q
   ·rw [e2] at e
    cases e
    exact absurd rfl n1
   ·rw [e2] at e
    cases e
    exact absurd rfl n2
 have noA : ∀ {b : Addr} {o : Obj} {es : Array DictEntry} {ep : Nat}, s₁.heap.get? b = some o → o.data = .dict es ep → argH K s₁.heap A b = none := fun {b o es ep} e d => by
  cases q : argH K s₁.heap A b with
  | none => rfl
  | some u =>
   obtain ⟨_, vs, _, _, ⟨e2, _⟩ | ⟨e2, _⟩⟩ := argH_is ar q
   ·rw [e2] at e
    cases e
    have d' : Data.seq vs.toArray _ = Data.dict es ep := d
    cases d'
   ·rw [e2] at e
    cases e
    have d' : Data.seq vs.toArray _ = Data.dict es ep := d
    cases d'
 have hTo := hT.2
 have nT : argH K s₁.heap A T = none := noC hTo (by intro z; cases z) (by intro z; cases z)
 generalize argH K s₁.heap A = H0 at hO hok hS hK noA noC nT
 have s01 : Same H0 (upd H0 T (.tbl #[])) := Same.new nT
 have hok1 : HOk P w (upd H0 T (.tbl #[])) s₁.heap := fun b u q => by
  by_cases hb : b = T
  ·rw [hb, upd_same] at q
   cases q
   rw [hb]
   exact hTo
  ·rw [upd_ne hb] at q
   exact (hok b u q).stay (fun _ _ _ e => e) (fun d e => s01 _ _ e) fun d xs e => s01 _ _ e
 have hT1 : upd H0 T (.tbl #[]) T = some (.tbl #[]) := upd_same
 have ne1 : ∀ b, b ≠ T → upd H0 T (.tbl #[]) b = H0 b := fun b h => upd_ne h
 generalize upd H0 T (.tbl #[]) = H at s01 hok1 hT1 ne1
 have base_of : ∀ {b : Addr} {o : Obj}, s₁.heap.get? b = some o → H b = none → (hidT s₁.heap H).get? b = some o := fun e n => hidT_get e n
 have noD : ∀ {b : Addr} {o : Obj} {es : Array DictEntry} {ep : Nat}, s₁.heap.get? b = some o → o.data = .dict es ep → H b = none := fun {b o es ep} e d => by
  rw [ne1 b fun z => by rw [z, hTo] at e; cases e; cases d]
  exact noA e d
 have nsK : ∀ {b : Addr} {m : Str → Option Value}, s₁.heap.Ns b m → (hidT s₁.heap H).Ns b m := fun {b m} ⟨o, es, ep, e, d, r⟩ => ⟨o, es, ep, base_of e (noD e d), d, r⟩
 have nKT : ∀ b o, K.lookup b = some o → b ≠ T := fun b o e z => by
  rw [z, hKT] at e
  cases e
 have nK : ∀ b o, K.lookup b = some o → H b = none := fun b o e => by
  rw [ne1 b (nKT b o e)]
  cases q : H0 b with
  | none => rfl
  | some u =>
   rw [hK b u q] at e
   cases e
 have hKb : K.In (hidT s₁.heap H) := fun b o e => base_of (KX b o e) (nK b o e)
 have hM : Mod K mg (hidT s₁.heap H) := ⟨hKb, nsK hns, ⟨mb, nsK hb, hbb⟩, let ⟨mc, h1, h2⟩ := hlim; ⟨mc, nsK h1, h2⟩⟩
 have hBA : (hidT s₁.heap H).BuiltinsAt mg T := by
  obtain ⟨bm, ob, b1, b2, b3, b4, b5, b6⟩ := hBm
  have nbT : bm ≠ T := fun z => by rw [z, hTo] at b3; cases b3; cases b4
  have nbG : bm ≠ mainGlobals := fun z => by
   obtain ⟨o, es, ep, e, dd, _⟩ := hns
   rw [z, e] at b3
   cases b3
   rw [dd] at b6
   cases b6
  exact ⟨bm, ob, b1, b2, nbG, nbT, base_of b3 (by rw [ne1 bm nbT]; exact noC b3 (by rw [b4]; decide) (by rw [b4]; decide)), b4, b5, b6⟩
 have e0 : Env0 P w K mg (hidT s₁.heap H) callerA [] s₁ H := ⟨rfl, hM, fun b o e => of_hidT e, Nat.le_of_eq (hidT_size _ _), trivial, fun b hb => absurd (show b ∈ ([] : List Addr) from hb) (by simp), hok1, .of_eq hg⟩
 have hl : vals.length = ps.length := by rw [wellAll_len hwl]; exact hlen
 refine codeAny_mono ((F _ hKb hBA).run callerA [] s₁ H ⟨vals, []⟩ vals (vals.map toV) _ _ hr e0 (hbind s₁ vals hl) hV (hsp H0 H _ s01 hT1 hS)) fun r s' x => ?_
 cases r with
 | error e => exact (show False from x).elim
 | ok fl =>
  cases fl with
  | next => exact False.elim x
  | brk => exact False.elim x
  | cont => exact False.elim x
  | ret u =>
   obtain ⟨v, H', os, bare, un, hok', r', q⟩ := x
   have kept : ∀ b o, s₁.heap.get? b = some o → b ≠ T → s'.heap.get? b = some o := fun b o e nb => by
    cases q2 : H b with
    | none => exact un.keep b o e q2 (by intro z; exact absurd (show b ∈ ([] : List Addr) from z) (by simp)) (by simp)
    | some u2 =>
     rcases hO b with z | ⟨ob, u3, z⟩
     ·rw [ne1 b nb, z] at q2
      cases q2
     ·have z1 := s01 _ _ z
      have z2 := un.frzs b ob _ z1
      obtain ⟨e1, _⟩ := hok1 b _ z1
      obtain ⟨e2, _⟩ := hok' b _ z2
      rw [e] at e1
      cases e1
      exact e2
   have KX' : K.In s'.heap := fun b o e => kept b o (KX b o e) (nKT b o e)
   obtain ⟨as, hrd⟩ := Dw.reads (R := R) (cl := cl) hok' KX' d0 v u q r'
   obtain ⟨more, hm⟩ := un.tbls T #[] hT1
   have hT2 : s'.heap.get? T = some { cls := .none, data := .fields (#[] ++ more) } := hok' T _ hm
   refine ⟨u, as, rfl, hrd, ⟨fun b o e => ?_, fun b o e => ?_⟩, os, bare⟩
   ·by_cases nb : b = T
    ·subst nb
     have eo := Option.some.inj (e.symm.trans hTo)
     subst eo
     exact .inr (.inl ⟨hT.isCodeTable, rfl, #[], more, rfl, hT2⟩)
    ·exact .inl (kept b o e nb)
   ·by_cases nb : b = T
    ·exact ⟨_, by rw [nb]; exact hT2⟩
    ·exact ⟨o, kept b o e nb⟩
theorem walk_specT {r : OpenSpec} {k : Nat} {q : Program} {loose : List Str} {XP : (Str → Option Value) → Heap → Prop} {YP : World → Heap → Prop} {d : DefRec} {K : Params → PySem.W.Frag} {ps : List Str} {nm : Str}
  (hwell : r.wellSaid = true) (hlen : r.args.length = ps.length) (hr : Room k callerA)
  (hY : ∀ (w : World) (h : Heap), YP w h → (K w.params).In h) (hrec : ((recsOf q).find? fun e => e.name == nm).isSome = true)
  (F : ∀ (w : World) (mg : Str → Option Value) (fa : Addr) (h : Heap), YP w h → (K w.params).In h → h.Ns mainGlobals mg → mg d.name = some (.ref fa) →
   ∃ (fd : FuncData) (c T : Addr) (sp : Sp), PySem.W.tabIn (K w.params) nm = some (c, T) ∧ (K w.params).lookup T = none ∧ (∀ (s : Shared) (us : List Value), us.length = ps.length → BindsTo s fd ⟨us, []⟩ (ps.zip us)) ∧
    (∀ base : Heap, (K w.params).In base → base.BuiltinsAt mg T → FnOk r.prog w (K w.params) mg base CX0 k fa fd ps sp) ∧
    ∀ (H0 H : Hp) (xs : List V) (a : Codec.denoteAll r.args), Same H0 H → H T = some (.tbl #[]) → Codec.withinAll r.args a = true → Codec.app r.args r.asked a = true → DwAll (K w.params) H0 xs (Codec.encAll r.args a) →
     sp xs H (fun v H' => Dw (K w.params) H' v (r.ret.enc (Codec.app r.args r.f a))) fun _ _ _ => False) :
  PySem.W.WalkOS q loose XP YP r d [] (fun f vs => PySem.call f vs) := by
 intro w s_0 s₁ mg mb G Y fa o pm cd doc dV kV ho hd hcd hD hmg hg args vals as hpre hlay hrd hwl hlo
 obtain ⟨a, e1, e2⟩ := PySem.W.os_pre_some hpre
 obtain ⟨e3, hwi⟩ := Codec.encAll_of_decAll r.args args a e1
 subst e3
 have KX := hY w _ Y
 obtain ⟨fd, c, T, sp, ht, hKT, hb, hF, hsp⟩ := F w mg fa _ Y KX G.T.g hmg
 obtain ⟨rec, hrec⟩ := Option.isSome_iff_exists.mp hrec
 obtain ⟨hcode, htab⟩ := PySem.W.tab_of G.T KX hrec ht
 have hT : s₁.heap.TableAt c T #[] := hcode.tab htab
 refine PySem.W.enter_call (codeAny_mono (spec_callT (R := []) (cl := classAt s_0.heap) (d0 := r.ret.enc (Codec.app r.args r.f a)) KX G.T.g G.T.b G.T.builtins G.T.nolimit hg hT hKT G.T.bmain hwl (pl_encAll _ _) (layable_weight hlay) hr hF hb (by rw [encAll_len]; exact hlen)
  (fun H0 H xs hs hH hS => hsp H0 H xs a hs hH hwi e2 hS)) fun r' s' hq => ?_)
 obtain ⟨u, as', rfl, h1, h2, h3, h4⟩ := hq
 exact ⟨.inl ⟨u, _, as', rfl, fun _ => rfl, h1, (OpenSpec.post_iff hwell hwi _ _).mpr rfl, fun z => Bool.noConfusion (show false = true from z)⟩, h2, h3, h4⟩
end Sw
namespace Sw
open PySem hiding Event
open PySem.Spec L2
open PyProof.Rows hiding St
open PySem.W (WData Codec OpenSpec Well WellAll ReadsW ReadsAllW)
theorem ask_open {K : PySem.W.Frag} {d : Ad} {H0 H : Hp} {xs : List V} (l : List Int) (hs : Same H0 H) (hT : H d.ta_13 = some (.tbl #[])) (hask : PyVbavag.answers_asked l = true) (hx : DwAll K H0 xs [.list (l.map WData.int)]) :
  sp_ans K d xs H (fun v H' => Dw K H' v (.list ((PyVbavag.answers l).map WData.int))) fun _ _ _ => False := by
 cases hx with
 | cons h1 h2 =>
  cases h2
  cases h1 with
  | lst hs' ha =>
   have e := L2.ints_dw l _ ha
   subst e
   exact ⟨_, l, rfl, .inl hT, sqSame hs' hs, hask, fun H' p hp _ _ _ => .lst (SqL.of hp) (dw_ints _)⟩
theorem fin_mk {w : World} {K : PySem.W.Frag} {mg : Str → Option Value} {fa f_63 ca ta : Addr} (hd : ∃ d : Ad, Tx K mg d ∧ d.f_63 = f_63 ∧ d.ca_13 = ca ∧ d.ta_13 = ta) (hfa : mg "answers" = some (.ref fa)) (hti : PySem.W.tabIn K "listed_numbers" = some (ca, ta)) (hKT : K.lookup ta = none) :
  ∃ (fd : FuncData) (c T : Addr) (sp : Sp), PySem.W.tabIn K "listed_numbers" = some (c, T) ∧ K.lookup T = none ∧ (∀ (s : Shared) (us : List Value), us.length = (["calls"] : List Str).length → BindsTo s fd ⟨us, []⟩ ((["calls"] : List Str).zip us)) ∧
    (∀ base : Heap, K.In base → base.BuiltinsAt mg T → FnOk PySem.Challenge.rw_standingwarnings_s01_answers.prog w K mg base CX0 12 fa fd ["calls"] sp) ∧
    ∀ (H0 H : Hp) (xs : List V) (a : Codec.denoteAll PySem.Challenge.rw_standingwarnings_s01_answers.args), Same H0 H → H T = some (.tbl #[]) → Codec.withinAll PySem.Challenge.rw_standingwarnings_s01_answers.args a = true → Codec.app PySem.Challenge.rw_standingwarnings_s01_answers.args PySem.Challenge.rw_standingwarnings_s01_answers.asked a = true → DwAll K H0 xs (Codec.encAll PySem.Challenge.rw_standingwarnings_s01_answers.args a) →
     sp xs H (fun v H' => Dw K H' v (PySem.Challenge.rw_standingwarnings_s01_answers.ret.enc (Codec.app PySem.Challenge.rw_standingwarnings_s01_answers.args PySem.Challenge.rw_standingwarnings_s01_answers.f a))) fun _ _ _ => False := by
 obtain ⟨d, T, _, rfl, rfl⟩ := hd
 have e := hfa.symm.trans T.mg_63
 cases e
 refine ⟨d.d_63, _, _, sp_ans K d, hti, hKT, fun s us hu => ?_, fun base _ hB => ok_63 T hB, fun H0 H xs a hs hT _ hask hx => ask_open a.1 hs hT hask hx⟩
 obtain ⟨oc, od, kV, doc, pm, an, cdv, ct, osl, e, lk, hcd⟩ := T.F_63.ex
 rw [e]
 match us, hu with
 | [_], _ => exact .of_eq rfl
end Sw
namespace PySem.W.Fast
theorem tw17402890115384959496:True:=⟨⟩
theorem tw2455542409779832989:True:=⟨⟩
theorem tw12759022262551742585:True:=⟨⟩
theorem tw9025164661336732981:True:=⟨⟩
theorem tw18018566831520559490:True:=⟨⟩
theorem tw8997504671895884549:True:=⟨⟩
theorem tw17681888642731883248:True:=⟨⟩
theorem tw4262841482472836020:True:=⟨⟩
theorem tw3850821721931805789:True:=⟨⟩
theorem tw7631430264572423887:True:=⟨⟩
theorem tw10384311145577403329:True:=⟨⟩
theorem tw5975081054263682387:True:=⟨⟩
theorem tw12779484260124982525:True:=⟨⟩
theorem tw13019234105184557170:True:=⟨⟩
theorem tw65404734390408503:True:=⟨⟩
theorem tw2793341736550932749:True:=⟨⟩
theorem tw12147961221294079327:True:=⟨⟩
theorem tw8686433408878786740:True:=⟨⟩
theorem tw16428530309240520864:True:=⟨⟩
theorem tw5289009369961895847:True:=⟨⟩
theorem tw5436132584989288998:True:=⟨⟩
theorem tw6916167789154275181:True:=⟨⟩
theorem tw640501776504054191:True:=⟨⟩
theorem tw11669187232676697508:True:=⟨⟩
theorem tw4355292666114924698:True:=⟨⟩
theorem tw17826717280303050845:True:=⟨⟩
theorem tw6056882691536940054:True:=⟨⟩
theorem tw7131611420321027894:True:=⟨⟩
theorem tw9116266540024239040:True:=⟨⟩
theorem tw8691588944418626871:True:=⟨⟩
theorem tw6483108128211803673:True:=⟨⟩
theorem tw10512175708099740211:True:=⟨⟩
theorem tw10270008047336105162:True:=⟨⟩
theorem tw7640836955519230664:True:=⟨⟩
theorem tw17579897449244378458:True:=⟨⟩
theorem tw372945006567382072:True:=⟨⟩
theorem tw1396217624653245045:True:=⟨⟩
theorem tw3525973545025311623:True:=⟨⟩
theorem tw4997651680756997671:True:=⟨⟩
theorem tw14720655201659989633:True:=⟨⟩
theorem tw4464785725268100702:True:=⟨⟩
theorem tw1675475459868277464:True:=⟨⟩
theorem tw1396486661961599123:True:=⟨⟩
theorem tw13889735355977773612:True:=⟨⟩
theorem tw13479354321897817883:True:=⟨⟩
theorem tw2736012680664800557:True:=⟨⟩
theorem tw12157237450538205781:True:=⟨⟩
theorem tw4432147501370367717:True:=⟨⟩
theorem tw1431996029158768665:True:=⟨⟩
theorem tw16075268663683381938:True:=⟨⟩
theorem tw16592464424401279758:True:=⟨⟩
theorem tw18405254937603298853:True:=⟨⟩
theorem tw10991610162799785803:True:=⟨⟩
theorem tw2685466184281483422:True:=⟨⟩
theorem tw11752883713345281476:True:=⟨⟩
theorem tw13443905530727437774:True:=⟨⟩
theorem tw14154797405489324520:True:=⟨⟩
theorem tw12877042714825842180:True:=⟨⟩
theorem tw10640729971624106094:True:=⟨⟩
theorem tw18076571548141660322:True:=⟨⟩
theorem tw4119785121231191078:True:=⟨⟩
theorem tw2366414755866788327:True:=⟨⟩
theorem tw2467637757531458364:True:=⟨⟩
theorem tw16629025440521108408:True:=⟨⟩
theorem tw3324384930236958783:True:=⟨⟩
theorem tw2647062259421899597:True:=⟨⟩
theorem tw6857563107112387354:True:=⟨⟩
theorem tw14122112600229932497:True:=⟨⟩
theorem tw14935809827738974619:True:=⟨⟩
theorem tw7538785325514412216:True:=⟨⟩
theorem tw12490173117055967253:True:=⟨⟩
theorem tw9990524392803144382:True:=⟨⟩
theorem tw10162316371585786893:True:=⟨⟩
theorem tw8918660890311883218:True:=⟨⟩
theorem tw4808817140707111693:True:=⟨⟩
theorem tw13820504625733008125:True:=⟨⟩
theorem tw10546471044485308230:True:=⟨⟩
theorem tw8300104982508080758:True:=⟨⟩
theorem tw6348041361933078290:True:=⟨⟩
theorem tw16688416121106581222:True:=⟨⟩
theorem tw14962852318813565086:True:=⟨⟩
theorem tw7724112708860788011:True:=⟨⟩
theorem tw12027061578245360160:True:=⟨⟩
theorem tw9769930784046620610:True:=⟨⟩
theorem tw120218696629611993:True:=⟨⟩
theorem tw3679200961303112753:True:=⟨⟩
theorem tw9539601071841748244:True:=⟨⟩
theorem tw13235466062372803853:True:=⟨⟩
theorem tw11806471345560946853:True:=⟨⟩
theorem tw6590179990446301790:True:=⟨⟩
theorem tw16274237017126755201:True:=⟨⟩
theorem tw17500510262836063810:True:=⟨⟩
theorem tw5037429767728548447:True:=⟨⟩
theorem tw5171155781459095657:True:=⟨⟩
theorem tw2976875361090257260:True:=⟨⟩
theorem tw10187025513867714129:True:=⟨⟩
theorem tw8600440446464343574:True:=⟨⟩
theorem tw7730334755780713797:True:=⟨⟩
theorem tw14259800485528876326:True:=⟨⟩
theorem tw328029739009100307:True:=⟨⟩
theorem tw1612754908130203814:True:=⟨⟩
theorem tw6778100604810268517:True:=⟨⟩
theorem tw834930744819094240:True:=⟨⟩
theorem tw2642478747402838019:True:=⟨⟩
theorem tw5079112519066438164:True:=⟨⟩
theorem tw11282108989343862349:True:=⟨⟩
theorem tw8745646255719777275:True:=⟨⟩
theorem tw14242599011043991446:True:=⟨⟩
theorem tw11139238820807944207:True:=⟨⟩
theorem tw6837670096891648822:True:=⟨⟩
theorem tw2785929589806434617:True:=⟨⟩
theorem tw8712495533517891626:True:=⟨⟩
theorem tw4563476972058609668:True:=⟨⟩
theorem tw8014164300076581160:True:=⟨⟩
theorem tw9584697569222830772:True:=⟨⟩
theorem tw5246837958245794320:True:=⟨⟩
theorem tw10260963602225701187:True:=⟨⟩
theorem tw16849043273328760907:True:=⟨⟩
theorem tw1410987209096746632:True:=⟨⟩
theorem tw2556483670445667663:True:=⟨⟩
theorem tw16988806107908193990:True:=⟨⟩
theorem tw15022727513652086235:True:=⟨⟩
theorem tw9227916046182698811:True:=⟨⟩
theorem tw204238507662318733:True:=⟨⟩
theorem tw7001986679401632289:True:=⟨⟩
theorem tw9597553702998666570:True:=⟨⟩
theorem tw8809900419973966009:True:=⟨⟩
theorem tw8678510482815552039:True:=⟨⟩
theorem tw3048387234239703975:True:=⟨⟩
theorem tw3121642349340834067:True:=⟨⟩
theorem tw17161628718838610636:True:=⟨⟩
theorem tw12645180878371769012:True:=⟨⟩
theorem tw16763765526725389227:True:=⟨⟩
theorem tw12855946745622947169:True:=⟨⟩
theorem tw4670409134485997215:True:=⟨⟩
theorem tw3267402624127722911:True:=⟨⟩
theorem tw413519544318325956:True:=⟨⟩
theorem tw2375574613245894443:True:=⟨⟩
theorem tw14038956281777684072:True:=⟨⟩
theorem tw13487060821441047290:True:=⟨⟩
theorem tw14573673438489279353:True:=⟨⟩
theorem tw17557723942326026785:True:=⟨⟩
theorem tw15713200230292200094:True:=⟨⟩
theorem tw1824640375605420219:True:=⟨⟩
theorem tw5492158549338290380:True:=⟨⟩
theorem tw8535584969334392239:True:=⟨⟩
theorem tw2458572730393150327:True:=⟨⟩
theorem tw10201849274667727936:True:=⟨⟩
theorem tw14982887819590390739:True:=⟨⟩
theorem tw10145917478234034437:True:=⟨⟩
theorem tw14462661898316077091:True:=⟨⟩
theorem tw10706522952149141415:True:=⟨⟩
theorem tw12166844904793705682:True:=⟨⟩
theorem tw10044921252979675588:True:=⟨⟩
theorem tw5377701902847640841:True:=⟨⟩
theorem tw10856649021384598559:True:=⟨⟩
theorem tw16046706702128505165:True:=⟨⟩
theorem tw2532624612581486630:True:=⟨⟩
theorem tw7597617482523991205:True:=⟨⟩
theorem tw12350527312819634806:True:=⟨⟩
theorem tw2023230912805532145:True:=⟨⟩
theorem tw16770353733650180642:True:=⟨⟩
theorem tw17174687182268375869:True:=⟨⟩
theorem tw4053118227942044489:True:=⟨⟩
theorem tw15802423568409339709:True:=⟨⟩
theorem tw12998513329860725463:True:=⟨⟩
theorem tw15053097876993165605:True:=⟨⟩
theorem tw7976104500128792182:True:=⟨⟩
theorem tw15545260986738257018:True:=⟨⟩
theorem tw16611670059126482966:True:=⟨⟩
theorem tw1059746372950218433:True:=⟨⟩
theorem tw12853682605166741146:True:=⟨⟩
theorem tw13115472523263274262:True:=⟨⟩
theorem tw10378961155735711275:True:=⟨⟩
theorem tw10021790959748186678:True:=⟨⟩
theorem tw6901574892354054979:True:=⟨⟩
theorem tw18180603574910612426:True:=⟨⟩
theorem tw16345353285428434841:True:=⟨⟩
theorem tw14439741899799400324:True:=⟨⟩
theorem tw5167936643638636388:True:=⟨⟩
theorem tw16723699045249345226:True:=⟨⟩
theorem tw12557560966475053190:True:=⟨⟩
theorem tw12978919085044146537:True:=⟨⟩
theorem tw772040439533238325:True:=⟨⟩
theorem tw11072917898236261245:True:=⟨⟩
theorem tw4614099652489973496:True:=⟨⟩
theorem tw4094039237129562339:True:=⟨⟩
theorem tw8660577730933931725:True:=⟨⟩
theorem tw4043578810463894075:True:=⟨⟩
theorem tw7000224585091206414:True:=⟨⟩
theorem tw3227337466597299343:True:=⟨⟩
theorem tw3904229790500849474:True:=⟨⟩
theorem tw4593244338317007705:True:=⟨⟩
theorem tw17179176311396370124:True:=⟨⟩
theorem tw11311741340910249960:True:=⟨⟩
theorem tw7131959293551742003:True:=⟨⟩
theorem tw13767915595127441899:True:=⟨⟩
theorem tw653515322157696130:True:=⟨⟩
theorem tw15847679023393620174:True:=⟨⟩
theorem tw14434433371503948052:True:=⟨⟩
theorem tw10325400827607565258:True:=⟨⟩
theorem tw1551731409342454823:True:=⟨⟩
theorem tw5021246591239295140:True:=⟨⟩
theorem tw900694562173868975:True:=⟨⟩
theorem tw3747452979729063536:True:=⟨⟩
theorem tw3806579432412782379:True:=⟨⟩
theorem tw3032988760498168861:True:=⟨⟩
theorem tw5640615193409393024:True:=⟨⟩
theorem tw6022323766274632038:True:=⟨⟩
theorem tw17936587984583194355:True:=⟨⟩
theorem tw6040864032995625246:True:=⟨⟩
theorem tw11786312763604880772:True:=⟨⟩
theorem tw8613340924546680051:True:=⟨⟩
theorem tw13634980223469529462:True:=⟨⟩
theorem tw12663890486558409650:True:=⟨⟩
theorem tw16669408068814399579:True:=⟨⟩
theorem tw8332126026088927989:True:=⟨⟩
theorem tw3035007550181965126:True:=⟨⟩
theorem tw10794236487244831756:True:=⟨⟩
theorem tw17403703059745687441:True:=⟨⟩
theorem tw4869598657520463474:True:=⟨⟩
theorem tw11289888231302272946:True:=⟨⟩
theorem tw10987550864830800978:True:=⟨⟩
theorem tw9891400994769728592:True:=⟨⟩
theorem tw7769925456752080619:True:=⟨⟩
theorem tw15681791295223875828:True:=⟨⟩
theorem tw6797540409096063152:True:=⟨⟩
theorem tw7014447323260402487:True:=⟨⟩
theorem tw14637474737903444812:True:=⟨⟩
theorem tw12949745976488079395:True:=⟨⟩
theorem tw8027253303000742942:True:=⟨⟩
theorem tw637529000401202480:True:=⟨⟩
theorem tw10763382312173005640:True:=⟨⟩
theorem tw6651467448217790259:True:=⟨⟩
theorem tw7671368155214185452:True:=⟨⟩
theorem tw15517915608389058410:True:=⟨⟩
theorem tw12668757852519194039:True:=⟨⟩
theorem tw8776440400527880421:True:=⟨⟩
theorem tw2516961596555771355:True:=⟨⟩
theorem tw11597608440097359408:True:=⟨⟩
theorem tw1480210004022395789:True:=⟨⟩
theorem tw14350803753382450727:True:=⟨⟩
theorem tw17896387705242039704:True:=⟨⟩
theorem tw9824076963970914249:True:=⟨⟩
theorem tw12341378348565168351:True:=⟨⟩
theorem tw419921440423368827:True:=⟨⟩
theorem tw5668665839406732358:True:=⟨⟩
theorem tw15402853974460324074:True:=⟨⟩
theorem tw10038171808302124260:True:=⟨⟩
theorem tw10976609674471316871:True:=⟨⟩
theorem tw11909945681950232492:True:=⟨⟩
theorem tw2857316192162521743:True:=⟨⟩
theorem tw1560309236777610548:True:=⟨⟩
theorem tw160789417949716842:True:=⟨⟩
theorem tw6872799623260501143:True:=⟨⟩
theorem tw4919062221163628440:True:=⟨⟩
theorem tw4775152165758945970:True:=⟨⟩
theorem tw3732940772707295109:True:=⟨⟩
theorem tw3122289963965626347:True:=⟨⟩
theorem tw11251242795440347108:True:=⟨⟩
theorem tw13497877193557453218:True:=⟨⟩
theorem tw1849950994405226116:True:=⟨⟩
theorem tw12450970690332920499:True:=⟨⟩
theorem tw1805090602274411491:True:=⟨⟩
theorem tw3515141545816616210:True:=⟨⟩
theorem tw16581056993043589133:True:=⟨⟩
theorem tw2161765900682461141:True:=⟨⟩
theorem tw14495279974645678299:True:=⟨⟩
theorem tw297210940766307926:True:=⟨⟩
theorem tw7693877686953820731:True:=⟨⟩
theorem tw7898027037647124821:True:=⟨⟩
theorem tw6957813865743374892:True:=⟨⟩
theorem tw6044096666702127843:True:=⟨⟩
theorem tw13989508438483617807:True:=⟨⟩
theorem tw14035948896917203078:True:=⟨⟩
theorem tw7519416685644245696:True:=⟨⟩
theorem tw15793773615505740016:True:=⟨⟩
theorem tw8934410201304036164:True:=⟨⟩
theorem tw7712596658243925875:True:=⟨⟩
theorem tw4614760510583877308:True:=⟨⟩
theorem tw9932781424284101840:True:=⟨⟩
theorem tw15460881018973762568:True:=⟨⟩
theorem tw16348338917978076649:True:=⟨⟩
theorem tw4726366586515271048:True:=⟨⟩
theorem tw3319908482512348095:True:=⟨⟩
theorem tw11451750748027522577:True:=⟨⟩
theorem tw467030935178155085:True:=⟨⟩
theorem tw5998304429208785900:True:=⟨⟩
theorem tw11759571138280884217:True:=⟨⟩
theorem tw405616763883784769:True:=⟨⟩
theorem tw8735029369493335207:True:=⟨⟩
theorem tw16611684700024384717:True:=⟨⟩
theorem tw17351319866678343735:True:=⟨⟩
theorem tw17696273051294285061:True:=⟨⟩
theorem tw10995842845962982150:True:=⟨⟩
theorem tw280331286422694454:True:=⟨⟩
theorem tw5740127286804408066:True:=⟨⟩
theorem tw3563188938046980378:True:=⟨⟩
theorem tw11742241590226999079:True:=⟨⟩
theorem tw14228758189532768989:True:=⟨⟩
theorem tw3622228139091867121:True:=⟨⟩
theorem tw7038497645095420051:True:=⟨⟩
theorem tw16177296338250042414:True:=⟨⟩
theorem tw16788779018883785914:True:=⟨⟩
theorem tw15933776259115076045:True:=⟨⟩
theorem tw7219279726118925746:True:=⟨⟩
theorem tw4875727475936509478:True:=⟨⟩
theorem tw12242141488511620699:True:=⟨⟩
theorem tw3656580105145835915:True:=⟨⟩
theorem tw11701788579399453069:True:=⟨⟩
theorem tw11432056677609673031:True:=⟨⟩
theorem tw7753214431416621542:True:=⟨⟩
theorem tw8697082420693830493:True:=⟨⟩
theorem tw5321286148042402416:True:=⟨⟩
theorem tw9660567175733387776:True:=⟨⟩
theorem tw16588697533645841030:True:=⟨⟩
theorem tw5489257660623285414:True:=⟨⟩
theorem tw15367073844336765539:True:=⟨⟩
theorem tw12904135365130056009:True:=⟨⟩
theorem tw15520470694531087181:True:=⟨⟩
theorem tw8995981314155864028:True:=⟨⟩
theorem tw9041272087016667836:True:=⟨⟩
theorem tw14003198651768394315:True:=⟨⟩
theorem tw8779331023312758539:True:=⟨⟩
theorem tw2648046238504686504:True:=⟨⟩
theorem tw11275653175654061987:True:=⟨⟩
theorem tw2348484214250260746:True:=⟨⟩
theorem tw11399889410866149288:True:=⟨⟩
theorem tw5515655046675547704:True:=⟨⟩
theorem tw5630224643385711830:True:=⟨⟩
theorem tw5187438908402236006:True:=⟨⟩
theorem tw5436362042210778043:True:=⟨⟩
theorem tw7370050465749196268:True:=⟨⟩
theorem tw3668591379677620374:True:=⟨⟩
theorem tw18327416797740259818:True:=⟨⟩
theorem tw14753507673416998694:True:=⟨⟩
theorem tw3361340819448492835:True:=⟨⟩
theorem tw4222126679933481768:True:=⟨⟩
theorem tw7058322808349125433:True:=⟨⟩
theorem tw13300138725076331331:True:=⟨⟩
theorem tw6905161947600409983:True:=⟨⟩
theorem tw11662436785993676795:True:=⟨⟩
theorem tw13649988177111539788:True:=⟨⟩
theorem tw52895408770214021:True:=⟨⟩
theorem tw13424075827898449826:True:=⟨⟩
theorem tw5985915326636179336:True:=⟨⟩
theorem tw1988469727635721241:True:=⟨⟩
theorem tw10276603463951160525:True:=⟨⟩
theorem tw4595643394446846361:True:=⟨⟩
theorem tw4065203003320992462:True:=⟨⟩
theorem tw13777087369096317923:True:=⟨⟩
theorem tw6412870550411891343:True:=⟨⟩
theorem tw6261750129935392878:True:=⟨⟩
theorem tw10997077885018796842:True:=⟨⟩
theorem tw6131881193654252120:True:=⟨⟩
theorem tw13943499833615132466:True:=⟨⟩
theorem tw1669243537427349608:True:=⟨⟩
theorem tw12850223396630782564:True:=⟨⟩
theorem tw7759620241481955032:True:=⟨⟩
theorem tw17415845732288453922:True:=⟨⟩
theorem tw11027087186788485118:True:=⟨⟩
theorem tw18223012181056538990:True:=⟨⟩
theorem tw4017100147030582072:True:=⟨⟩
theorem tw13851094607516765117:True:=⟨⟩
theorem tw14497683275313971206:True:=⟨⟩
theorem tw6285620127984858671:True:=⟨⟩
theorem tw2266537670259671614:True:=⟨⟩
theorem tw11891039633635148996:True:=⟨⟩
theorem tw17232275539250147771:True:=⟨⟩
theorem tw2270457121750797383:True:=⟨⟩
theorem tw12565446108687177723:True:=⟨⟩
theorem tw5949520941343898663:True:=⟨⟩
theorem tw2553774137068018601:True:=⟨⟩
theorem tw16812824438098955704:True:=⟨⟩
theorem tw4773420738794353008:True:=⟨⟩
theorem tw8879280794437869538:True:=⟨⟩
theorem tw13238765894607231050:True:=⟨⟩
theorem tw12337787153772571889:True:=⟨⟩
theorem tw16195216984796443193:True:=⟨⟩
theorem tw14729459403705669741:True:=⟨⟩
theorem tw12751269061868267444:True:=⟨⟩
theorem tw15298662543813459217:True:=⟨⟩
theorem tw17724410116735803611:True:=⟨⟩
theorem tw16002305029136626564:True:=⟨⟩
theorem tw10033186794713881314:True:=⟨⟩
theorem tw11925649343483895687:True:=⟨⟩
theorem tw9137252512348251832:True:=⟨⟩
theorem tw8123059609826135134:True:=⟨⟩
theorem tw15880506277937743730:True:=⟨⟩
theorem tw8575247734552614381:True:=⟨⟩
theorem tw9845252804540742336:True:=⟨⟩
theorem tw18263561901627355809:True:=⟨⟩
theorem tw1430557761979676572:True:=⟨⟩
theorem tw16153853270771669442:True:=⟨⟩
theorem tw15766645557878821458:True:=⟨⟩
theorem tw336378465538154341:True:=⟨⟩
theorem tw3874385088365933817:True:=⟨⟩
theorem tw13236753022318959951:True:=⟨⟩
theorem tw15852604622557674011:True:=⟨⟩
theorem tw16761176488782702882:True:=⟨⟩
theorem tw10352244949520533579:True:=⟨⟩
theorem tw3723089096073812756:True:=⟨⟩
theorem tw6877467535142718893:True:=⟨⟩
theorem tw10619106389408898817:True:=⟨⟩
theorem tw3600625639776900457:True:=⟨⟩
theorem tw936483242606003262:True:=⟨⟩
theorem tw11945475449934905219:True:=⟨⟩
theorem tw15471913606768194038:True:=⟨⟩
theorem tw3258883445131616682:True:=⟨⟩
theorem tw10727246329095159046:True:=⟨⟩
theorem tw13929940295633608976:True:=⟨⟩
theorem tw6484462616360555465:True:=⟨⟩
theorem tw16931190633679089680:True:=⟨⟩
theorem tw12432097372496685186:True:=⟨⟩
theorem tw14133071129130344970:True:=⟨⟩
theorem tw12138412691311023781:True:=⟨⟩
theorem tw4241566486333837685:True:=⟨⟩
theorem tw15881516006460175931:True:=⟨⟩
theorem tw12684674480679533882:True:=⟨⟩
theorem tw6064445104293035674:True:=⟨⟩
theorem tw11450949336095442503:True:=⟨⟩
theorem tw8419981894769499491:True:=⟨⟩
theorem tw3274697638331187149:True:=⟨⟩
theorem tw1233662590709328922:True:=⟨⟩
theorem tw10478374504114002243:True:=⟨⟩
theorem tw2123245173355747200:True:=⟨⟩
theorem tw17074516014559844955:True:=⟨⟩
theorem tw2062755758173156071:True:=⟨⟩
theorem tw10418382055068297827:True:=⟨⟩
theorem tw8983033191325714372:True:=⟨⟩
theorem tw628340374123396658:True:=⟨⟩
theorem tw16663845283798007604:True:=⟨⟩
theorem tw12469278385509168142:True:=⟨⟩
theorem tw4278271479495616539:True:=⟨⟩
theorem tw12013658554008025539:True:=⟨⟩
theorem tw4691602031562278580:True:=⟨⟩
theorem tw4104562165797618711:True:=⟨⟩
theorem tw1907606940331532814:True:=⟨⟩
theorem tw17641950062234499742:True:=⟨⟩
theorem tw3497544007688939609:True:=⟨⟩
theorem tw3840343724473029971:True:=⟨⟩
theorem tw6113099932633678569:True:=⟨⟩
theorem tw4891999969946067955:True:=⟨⟩
theorem tw5546262218870107390:True:=⟨⟩
theorem tw3600649951522686483:True:=⟨⟩
theorem tw1877109739237684632:True:=⟨⟩
theorem tw3821804363611038880:True:=⟨⟩
theorem tw7170197554019874606:True:=⟨⟩
theorem tw8903636494462340437:True:=⟨⟩
theorem tw5722356166346602960:True:=⟨⟩
theorem tw5273925025265434684:True:=⟨⟩
theorem tw1657144115201298056:True:=⟨⟩
theorem tw747989023829730717:True:=⟨⟩
theorem tw8133429788769088055:True:=⟨⟩
theorem tw10299513945873895739:True:=⟨⟩
theorem tw2423749960232539495:True:=⟨⟩
theorem tw16537078366700720712:True:=⟨⟩
theorem tw4111780799186768744:True:=⟨⟩
theorem tw11332102507178691527:True:=⟨⟩
theorem tw3796639496518924603:True:=⟨⟩
theorem tw7281368564980483764:True:=⟨⟩
theorem tw4119661127366610454:True:=⟨⟩
theorem tw5225516538400897040:True:=⟨⟩
end PySem.W.Fast
open PySem PySem.W PyProof.Rows
set_option maxRecDepth 100000 in
set_option maxHeartbeats 0 in
theorem PySem.Challenge.cw_standingwarnings_s01_answers_holds : PySem.Challenge.rw_standingwarnings_s01_answers.Holds := by
 w_on; k_headS; (case hw => exact ⟨[.list [.int 6]], by decide +kernel, by decide +kernel⟩)
 k_fillS
 refine Sw.walk_specT (r := PySem.Challenge.rw_standingwarnings_s01_answers) (k := 12) (ps := ["calls"]) (nm := "listed_numbers") (by decide +kernel) rfl ⟨rfl, by decide, by decide⟩ (fun w h Y => PySem.W.kIn_of Y) (by decide +kernel) ?F
 intro w mg fa h Y KX G hmg
 refine' Sw.fin_mk (Sw.tx_mk KX G ?q0 ?q1 ?q2 ?q3 ?q4 ?q5 ?q6 ?q7 ?q8 ?q9 ?q10 ?q11 ?q12 ?q13 ?q14 ?q15 ?q16 ?q17 ?q18 ?q19 ?q20 ?q21 ?q22 ?q23 ?q24 ?q25 ?q26 ?q27 ?q28 ?q29 ?q30 ?q31 ?q32 ?q33 ?q34 ?q35 ?q36 ?a0 ?l0 ?c0 ?k0 ?a1 ?l1 ?c1 ?k1 ?a2 ?l2 ?c2 ?k2 ?a3 ?l3 ?c3 ?k3 ?a4 ?l4 ?c4 ?k4 ?a5 ?l5 ?c5 ?k5 ?a6 ?l6 ?c6 ?k6 ?a7 ?l7 ?c7 ?k7 ?a8 ?l8 ?c8 ?k8 ?a9 ?l9 ?c9 ?k9 ?a10 ?l10 ?c10 ?k10 ?a11 ?l11 ?c11 ?k11 ?a12 ?l12 ?c12 ?k12 ?a13 ?l13 ?c13 ?k13 ?a14 ?l14 ?c14 ?k14 ?a15 ?l15 ?c15 ?k15 ?a16 ?l16 ?c16 ?k16 ?a17 ?i17 ?l17 ?c17 ?k17 ?a18 ?l18 ?c18 ?k18 ?a19 ?l19 ?c19 ?k19 ?a20 ?l20 ?c20 ?k20 ?a21 ?l21 ?c21 ?k21 ?a22 ?l22 ?c22 ?k22 ?a23 ?l23 ?c23 ?k23 ?a24 ?l24 ?c24 ?k24 ?a25 ?l25 ?c25 ?k25 ?a26 ?l26 ?c26 ?k26 ?a27 ?l27 ?c27 ?k27 ?a28 ?l28 ?c28 ?k28 ?a29 ?l29 ?c29 ?k29 ?a30 ?l30 ?c30 ?k30 ?a31 ?l31 ?c31 ?k31 ?a32 ?l32 ?c32 ?k32 ?a33 ?l33 ?c33 ?k33 ?a34 ?l34 ?c34 ?k34 ?a35 ?l35 ?c35 ?k35 ?a36 ?l36 ?c36 ?k36 ?a37 ?l37 ?c37 ?k37 ?a38 ?l38 ?c38 ?k38 ?a39 ?l39 ?c39 ?k39 ?a40 ?l40 ?c40 ?k40 ?a41 ?l41 ?c41 ?k41 ?a42 ?l42 ?c42 ?k42 ?a43 ?i43 ?l43 ?c43 ?k43 ?a44 ?l44 ?c44 ?k44 ?a45 ?l45 ?c45 ?k45 ?a46 ?l46 ?c46 ?k46 ?a47 ?l47 ?c47 ?k47 ?a48 ?l48 ?c48 ?k48 ?a49 ?l49 ?c49 ?k49 ?a50 ?l50 ?c50 ?k50 ?a51 ?l51 ?c51 ?k51 ?a52 ?l52 ?c52 ?k52 ?a53 ?l53 ?c53 ?k53 ?a54 ?l54 ?c54 ?k54 ?a55 ?l55 ?c55 ?k55 ?a56 ?l56 ?c56 ?k56 ?a57 ?l57 ?c57 ?k57 ?a58 ?l58 ?c58 ?k58 ?a59 ?l59 ?c59 ?k59 ?a60 ?l60 ?c60 ?k60 ?a61 ?l61 ?c61 ?k61 ?a62 ?l62 ?c62 ?k62 ?a63 ?l63 ?c63 ?k63 ?tkL ?tvL ?thL ?q37 ?q38 ?q39 ?q40 ?q41 ?q42 ?q43 ?q44 ?q45 ?q46 ?q47 ?q48 ?q49 ?q50 ?q51 ?q52 ?q53 ?q54 ?q55 ?q56 ?q57 ?q58 ?q59 ?q60 ?q61 ?q62 ?q63 ?q64 ?q65 ?q66 ?q67 ?q68 ?q69 ?q70 ?q71 ?q72 ?q73 ?q74 ?q75 ?q76 ?q77 ?q78 ?q79 ?q80 ?q81 ?q82 ?q83 ?q84 ?q85 ?q86 ?q87 ?q88 ?q89 ?q90 ?q91 ?q92 ?q93 ?q94 ?q95 ?q96 ?q97 ?q98 ?q99 ?q100 ?q101 ?q102 ?q103 ?q104 ?q105 ?q106 ?q107 ?q108 ?q109 ?q110 ?q111 ?q112 ?q113 ?q114 ?q115 ?q116 ?q117 ?q118 ?q119) hmg ?tiL ?ktL
 (case q0 => k_is); (case q1 => k_is); (case q2 => k_is); (case q3 => k_is); (case q4 => k_is); (case q5 => k_is); (case q6 => k_is); (case q7 => k_is); (case q8 => k_is); (case q9 => k_is); (case q10 => k_is); (case q11 => k_is)
 (case q12 => k_is); (case q13 => k_is); (case q14 => k_is); (case q15 => k_is); (case q16 => k_is); (case q17 => k_is); (case q18 => k_is); (case q19 => k_is); (case q20 => k_is); (case q21 => k_is); (case q22 => k_is); (case q23 => k_is)
 (case q24 => k_is); (case q25 => k_is); (case q26 => k_is); (case q27 => k_is); (case q28 => k_is); (case q29 => k_is); (case q30 => k_is); (case q31 => k_is); (case q32 => k_is); (case q33 => k_is); (case q34 => k_is); (case q35 => k_is)
 (case q36 => k_is); (case a0 => k_is); (case l0 => k_is); (case c0 => k_is); (case k0 => k_is); (case a1 => k_is); (case l1 => k_is); (case c1 => k_is); (case k1 => k_is); (case a2 => k_is); (case l2 => k_is); (case c2 => k_is)
 (case k2 => k_is); (case a3 => k_is); (case l3 => k_is); (case c3 => k_is); (case k3 => k_is); (case a4 => k_is); (case l4 => k_is); (case c4 => k_is); (case k4 => k_is); (case a5 => k_is); (case l5 => k_is); (case c5 => k_is)
 (case k5 => k_is); (case a6 => k_is); (case l6 => k_is); (case c6 => k_is); (case k6 => k_is); (case a7 => k_is); (case l7 => k_is); (case c7 => k_is); (case k7 => k_is); (case a8 => k_is); (case l8 => k_is); (case c8 => k_is)
 (case k8 => k_is); (case a9 => k_is); (case l9 => k_is); (case c9 => k_is); (case k9 => k_is); (case a10 => k_is); (case l10 => k_is); (case c10 => k_is); (case k10 => k_is); (case a11 => k_is); (case l11 => k_is); (case c11 => k_is)
 (case k11 => k_is); (case a12 => k_is); (case l12 => k_is); (case c12 => k_is); (case k12 => k_is); (case a13 => k_is); (case l13 => k_is); (case c13 => k_is); (case k13 => k_is); (case a14 => k_is); (case l14 => k_is); (case c14 => k_is)
 (case k14 => k_is); (case a15 => k_is); (case l15 => k_is); (case c15 => k_is); (case k15 => k_is); (case a16 => k_is); (case l16 => k_is); (case c16 => k_is); (case k16 => k_is); (case a17 => k_is); (case i17 => k_is); (case l17 => k_is)
 (case c17 => k_is); (case k17 => k_is); (case a18 => k_is); (case l18 => k_is); (case c18 => k_is); (case k18 => k_is); (case a19 => k_is); (case l19 => k_is); (case c19 => k_is); (case k19 => k_is); (case a20 => k_is); (case l20 => k_is)
 (case c20 => k_is); (case k20 => k_is); (case a21 => k_is); (case l21 => k_is); (case c21 => k_is); (case k21 => k_is); (case a22 => k_is); (case l22 => k_is); (case c22 => k_is); (case k22 => k_is); (case a23 => k_is); (case l23 => k_is)
 (case c23 => k_is); (case k23 => k_is); (case a24 => k_is); (case l24 => k_is); (case c24 => k_is); (case k24 => k_is); (case a25 => k_is); (case l25 => k_is); (case c25 => k_is); (case k25 => k_is); (case a26 => k_is); (case l26 => k_is)
 (case c26 => k_is); (case k26 => k_is); (case a27 => k_is); (case l27 => k_is); (case c27 => k_is); (case k27 => k_is); (case a28 => k_is); (case l28 => k_is); (case c28 => k_is); (case k28 => k_is); (case a29 => k_is); (case l29 => k_is)
 (case c29 => k_is); (case k29 => k_is); (case a30 => k_is); (case l30 => k_is); (case c30 => k_is); (case k30 => k_is); (case a31 => k_is); (case l31 => k_is); (case c31 => k_is); (case k31 => k_is); (case a32 => k_is); (case l32 => k_is)
 (case c32 => k_is); (case k32 => k_is); (case a33 => k_is); (case l33 => k_is); (case c33 => k_is); (case k33 => k_is); (case a34 => k_is); (case l34 => k_is); (case c34 => k_is); (case k34 => k_is); (case a35 => k_is); (case l35 => k_is)
 (case c35 => k_is); (case k35 => k_is); (case a36 => k_is); (case l36 => k_is); (case c36 => k_is); (case k36 => k_is); (case a37 => k_is); (case l37 => k_is); (case c37 => k_is); (case k37 => k_is); (case a38 => k_is); (case l38 => k_is)
 (case c38 => k_is); (case k38 => k_is); (case a39 => k_is); (case l39 => k_is); (case c39 => k_is); (case k39 => k_is); (case a40 => k_is); (case l40 => k_is); (case c40 => k_is); (case k40 => k_is); (case a41 => k_is); (case l41 => k_is)
 (case c41 => k_is); (case k41 => k_is); (case a42 => k_is); (case l42 => k_is); (case c42 => k_is); (case k42 => k_is); (case a43 => k_is); (case i43 => k_is); (case l43 => k_is); (case c43 => k_is); (case k43 => k_is); (case a44 => k_is)
 (case l44 => k_is); (case c44 => k_is); (case k44 => k_is); (case a45 => k_is); (case l45 => k_is); (case c45 => k_is); (case k45 => k_is); (case a46 => k_is); (case l46 => k_is); (case c46 => k_is); (case k46 => k_is); (case a47 => k_is)
 (case l47 => k_is); (case c47 => k_is); (case k47 => k_is); (case a48 => k_is); (case l48 => k_is); (case c48 => k_is); (case k48 => k_is); (case a49 => k_is); (case l49 => k_is); (case c49 => k_is); (case k49 => k_is); (case a50 => k_is)
 (case l50 => k_is); (case c50 => k_is); (case k50 => k_is); (case a51 => k_is); (case l51 => k_is); (case c51 => k_is); (case k51 => k_is); (case a52 => k_is); (case l52 => k_is); (case c52 => k_is); (case k52 => k_is); (case a53 => k_is)
 (case l53 => k_is); (case c53 => k_is); (case k53 => k_is); (case a54 => k_is); (case l54 => k_is); (case c54 => k_is); (case k54 => k_is); (case a55 => k_is); (case l55 => k_is); (case c55 => k_is); (case k55 => k_is); (case a56 => k_is)
 (case l56 => k_is); (case c56 => k_is); (case k56 => k_is); (case a57 => k_is); (case l57 => k_is); (case c57 => k_is); (case k57 => k_is); (case a58 => k_is); (case l58 => k_is); (case c58 => k_is); (case k58 => k_is); (case a59 => k_is)
 (case l59 => k_is); (case c59 => k_is); (case k59 => k_is); (case a60 => k_is); (case l60 => k_is); (case c60 => k_is); (case k60 => k_is); (case a61 => k_is); (case l61 => k_is); (case c61 => k_is); (case k61 => k_is); (case a62 => k_is)
 (case l62 => k_is); (case c62 => k_is); (case k62 => k_is); (case a63 => k_is); (case l63 => k_is); (case c63 => k_is); (case k63 => k_is); (case tkL => k_is); (case tvL => rfl); (case thL => kernel_rfl); (case q37 => k_is); (case q38 => k_is)
 (case q39 => k_is); (case q40 => k_is); (case q41 => k_is); (case q42 => k_is); (case q43 => k_is); (case q44 => k_is); (case q45 => k_is); (case q46 => k_is); (case q47 => k_is); (case q48 => k_is); (case q49 => k_is); (case q50 => k_is)
 (case q51 => k_is); (case q52 => k_is); (case q53 => k_is); (case q54 => k_is); (case q55 => k_is); (case q56 => k_is); (case q57 => k_is); (case q58 => k_is); (case q59 => k_is); (case q60 => k_is); (case q61 => k_is); (case q62 => k_is)
 (case q63 => k_is); (case q64 => k_is); (case q65 => k_is); (case q66 => k_is); (case q67 => k_is); (case q68 => k_is); (case q69 => k_is); (case q70 => k_is); (case q71 => k_is); (case q72 => k_is); (case q73 => k_is); (case q74 => k_is)
 (case q75 => k_is); (case q76 => k_is); (case q77 => k_is); (case q78 => k_is); (case q79 => k_is); (case q80 => k_is); (case q81 => k_is); (case q82 => k_is); (case q83 => k_is); (case q84 => k_is); (case q85 => k_is); (case q86 => k_is)
 (case q87 => k_is); (case q88 => k_is); (case q89 => k_is); (case q90 => k_is); (case q91 => k_is); (case q92 => k_is); (case q93 => k_is); (case q94 => k_is); (case q95 => k_is); (case q96 => k_is); (case q97 => k_is); (case q98 => k_is)
 (case q99 => k_is); (case q100 => k_is); (case q101 => k_is); (case q102 => k_is); (case q103 => k_is); (case q104 => k_is); (case q105 => k_is); (case q106 => k_is); (case q107 => k_is); (case q108 => k_is); (case q109 => k_is); (case q110 => k_is)
 (case q111 => k_is); (case q112 => k_is); (case q113 => k_is); (case q114 => k_is); (case q115 => k_is); (case q116 => k_is); (case q117 => k_is); (case q118 => k_is); (case q119 => k_is)
 (case tiL => kernel_rfl); (case ktL => kernel_rfl)
#print axioms PySem.Challenge.cw_standingwarnings_s01_answers_holds
