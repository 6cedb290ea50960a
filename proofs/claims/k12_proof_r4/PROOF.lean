import PyProof.Rows.All
import Wide.All
import OpenK.AllK
import Wide.FinOn
import Lean
import PyProof.EqAt
import PyProof.EqKinds
import PyProof.TupleCall
import PyProof.CollectWalk
import PySem.Challenge.RW_fewsaves_k12_runs_stopped
set_option Elab.async false
set_option linter.all false
set_option maxRecDepth 100000
set_option compiler.extract_closed false
set_option genInjectivity false
set_option genSizeOfSpec false
namespace L2
open PySem PySem.Spec PyProof.Rows
noncomputable abbrev Key := Sum Int Str
noncomputable def keyIs : Key → Value → Bool
 | .inl k, v => Value.isInt k v
 | .inr x, v => Value.isStrOf x v
noncomputable def keyH (w : World) : Key → Int
 | .inl k => hashInt k
 | .inr x => hashStr w x
theorem keyIs_shape : ∀ {k : Key} {v : Value}, keyIs k v = true → (∃ i t, k = Sum.inl i ∧ v = Value.int i t) ∨ (∃ x t, k = Sum.inr x ∧ v = Value.str x t)
 | .inl i, v, h => by
  obtain ⟨t, e⟩ := Value.isInt_shape (k := i) (v := v) h
  exact .inl ⟨i, t, rfl, e⟩
 | .inr x, v, h => by
  obtain ⟨t, e⟩ := Value.isStrOf_shape (x := x) (v := v) h
  exact .inr ⟨x, t, rfl, e⟩
theorem keyIs_int (i : Int) (t : Tok) : keyIs (.inl i) (.int i t) = true := by simp [keyIs, Value.isInt]
theorem keyIs_str (x : Str) (t : Tok) : keyIs (.inr x) (.str x t) = true := by simp [keyIs, Value.isStrOf]
theorem key_ll (a b : Int) : decide ((Sum.inl a : Key) = Sum.inl b) = (a == b) := by
 by_cases e : a = b
 ·subst e; simp
 ·have h : ¬ (Sum.inl a : Key) = Sum.inl b := fun q => e (Sum.inl.inj q)
  rw [decide_eq_false h]
  exact (beq_eq_false_iff_ne.mpr e).symm
theorem key_rr (a b : Str) : decide ((Sum.inr a : Key) = Sum.inr b) = decide (a = b) := by
 by_cases e : a = b
 ·subst e; simp
 ·have h : ¬ (Sum.inr a : Key) = Sum.inr b := fun q => e (Sum.inr.inj q)
  rw [decide_eq_false h, decide_eq_false e]
theorem key_lr (a : Int) (b : Str) : decide ((Sum.inl a : Key) = Sum.inr b) = false := decide_eq_false (fun q => nomatch q)
theorem key_rl (a : Str) (b : Int) : decide ((Sum.inr a : Key) = Sum.inl b) = false := decide_eq_false (fun q => nomatch q)
noncomputable def mixKind (prog : Program) (w : World) : PySem.KeyKind prog w Key where
 is := keyIs
 hash := keyH w
 inj := fun v a b ha hb => by
  rcases keyIs_shape ha with ⟨i, t, rfl, rfl⟩ | ⟨x, t, rfl, rfl⟩
  ·rcases keyIs_shape hb with ⟨j, u, rfl, e⟩ | ⟨y, u, rfl, e⟩
   ·injection e with e1 _; rw [e1]
   ·exact nomatch e
  ·rcases keyIs_shape hb with ⟨j, u, rfl, e⟩ | ⟨y, u, rfl, e⟩
   ·exact nomatch e
   ·injection e with e1 _; rw [e1]
 byValue := fun k v h => by
  rcases keyIs_shape h with ⟨i, t, rfl, rfl⟩ | ⟨x, t, rfl, rfl⟩ <;> rfl
 pyHash := fun hv h => by
  rcases keyIs_shape hv with ⟨i, t, rfl, rfl⟩ | ⟨x, t, rfl, rfl⟩
  ·exact wpAny_pyHash_int h
  ·exact wpAny_pyHash_str h
 eqBool := fun hu hv h => by
  rcases keyIs_shape hu with ⟨i, t, rfl, rfl⟩ | ⟨x, t, rfl, rfl⟩
  ·rcases keyIs_shape hv with ⟨j, u, rfl, rfl⟩ | ⟨y, u, rfl, rfl⟩
   ·rw [key_ll] at h; exact wpAny_eqBool_int h
   ·rw [key_lr] at h; exact SeqAt.EqAt.int_str i t y u _ _ _ _ h
  ·rcases keyIs_shape hv with ⟨j, u, rfl, rfl⟩ | ⟨y, u, rfl, rfl⟩
   ·rw [key_rl] at h; exact SeqAt.EqAt.str_int x t j u _ _ _ _ h
   ·rw [key_rr] at h; exact wpAny_eqBool_str h
 «strs» := fun k x t v h => by
  rcases keyIs_shape h with ⟨i, u, rfl, e⟩ | ⟨y, u, rfl, e⟩
  ·exact nomatch e
  ·injection e with e1 _
   subst e1
   cases v <;> rfl
theorem mixKind_int (prog : Program) (w : World) (i : Int) (t : Tok) : (mixKind prog w).is (.inl i) (.int i t) = true := keyIs_int i t
theorem mixKind_str (prog : Program) (w : World) (x : Str) (t : Tok) : (mixKind prog w).is (.inr x) (.str x t) = true := keyIs_str x t
end L2
namespace L2
open PySem PySem.Spec PyProof.Rows
set_option genInjectivity true in
inductive V where
 | non | bl (b : Bool) | int (i : Int) | str (x : Str) | byt (b : Array UInt8) | flt (b : UInt64) | ref (a : Addr) | ty (n : String)
 deriving DecidableEq
noncomputable def RelV : V → Value → Prop
 | .non, u => u = Value.none
 | .bl b, u => u = Value.bool b
 | .int i, u => ∃ t, u = Value.int i t
 | .str x, u => ∃ t, u = Value.str x t
 | .byt b, u => ∃ t, u = Value.bytes b t
 | .flt b, u => ∃ t, u = Value.float b t
 | .ref a, u => u = Value.ref a
 | .ty n, u => u = Value.type n
noncomputable abbrev Vals : List V → List Value → Prop := Paired RelV
theorem Vals.length {xs : List V} {us : List Value} (r : Vals xs us) : xs.length = us.length := Paired.length r
theorem Vals.get : ∀ {xs : List V} {us : List Value} {i : Nat} {x : V}, Vals xs us → xs[i]? = some x → ∃ u, us[i]? = some u ∧ RelV x u
 | _, _, _, _, .nil, e => by simp at e
 | _, _, 0, _, .cons r _, e => by simp at e; subst e; exact ⟨_, rfl, r⟩
 | _, _, i + 1, x, .cons _ t, e => by
  obtain ⟨u, h1, h2⟩ := Vals.get (i := i) (x := x) t (by simpa using e)
  exact ⟨u, by simpa using h1, h2⟩
theorem Vals.set {x : V} {u : Value} (r : RelV x u) : ∀ {xs : List V} {us : List Value} (i : Nat), Vals xs us → Vals (xs.set i x) (us.set i u)
 | _, _, _, .nil => .nil
 | _, _, 0, .cons _ t => .cons r t
 | _, _, i + 1, .cons q t => .cons q (Vals.set r i t)
theorem Vals.append {xs ys : List V} {us ws : List Value} (h : Vals xs us) (s : Vals ys ws) : Vals (xs ++ ys) (us ++ ws) := by
 induction h with
 | nil => exact s
 | cons r _ ih => exact .cons r ih
theorem Vals.take : ∀ {xs : List V} {us : List Value} (n : Nat), Vals xs us → Vals (xs.take n) (us.take n)
 | _, _, 0, _ => .nil
 | _, _, _ + 1, .nil => .nil
 | _, _, n + 1, .cons r t => .cons r (Vals.take n t)
theorem Vals.drop : ∀ {xs : List V} {us : List Value} (n : Nat), Vals xs us → Vals (xs.drop n) (us.drop n)
 | _, _, 0, r => r
 | _, _, _ + 1, .nil => .nil
 | _, _, n + 1, .cons _ t => Vals.drop n t
noncomputable def RelO : Option V → Option Value → Prop
 | some v, some u => RelV v u
 | none, none => True
 | _, _ => False
noncomputable def KV {κ : Type} : List (κ × V) → List (κ × Value) → Prop := Paired fun (p : κ × V) (q : κ × Value) => p.1 = q.1 ∧ RelV p.2 q.2
noncomputable def kV : Key → V
 | .inl i => .int i
 | .inr x => .str x
inductive HO where
 | lst (xs : List V)
 | tup (xs : List V)
 | dK (kvs : List (Key × V)) | dT (kvs : List (List Key × V))
 | set (S : Int → Bool) (n : Nat)
 | ins (C dx : Addr) (fs : List (Str × V))
 | own (x : Addr)
 | xd (fs : List (Str × V))
 | met (f x : Addr)
 | rng (lo hi : Int)
 | frz (o : Obj) (u : HO)
 | tbl (ps : Array Value)
 | ext (φ : Addr → Heap → Prop)
noncomputable abbrev Hp := Addr → Option HO
noncomputable def upd (H : Hp) (a : Addr) (o : HO) : Hp := fun b => if b = a then some o else H b
theorem upd_same {H : Hp} {a : Addr} {o : HO} : upd H a o a = some o := by unfold upd; rw [if_pos rfl]
theorem upd_ne {H : Hp} {a b : Addr} {o : HO} (h : b ≠ a) : upd H a o b = H b := by unfold upd; rw [if_neg h]
theorem upd_upd {H : Hp} {a : Addr} {o u : HO} : upd (upd H a o) a u = upd H a u := by
 funext b; unfold upd; split <;> rfl
theorem ne_of {H : Hp} {a b : Addr} {o u : HO} (h : H a = some o) (h' : H b = some u) (d : o ≠ u) : a ≠ b := by
 intro e; subst e; rw [h] at h'; exact d (Option.some.inj h')
theorem ne_of_none {H : Hp} {a b : Addr} {o : HO} (h : H a = some o) (h' : H b = none) : a ≠ b := by
 intro e; subst e; rw [h] at h'; cases h'
section
variable (P : Program) (w : World)
noncomputable def ObjOk (H : Hp) (h : Heap) (a : Addr) : HO → Prop
 | .lst xs => xs.length ≤ sizeLine ∧ ∃ (its : List Value) (n : Nat), Vals xs its ∧ h.get? a = some { cls := .type "list", data := .seq its.toArray n }
 | .tup xs => xs.length ≤ sizeLine ∧ ∃ its : List Value, Vals xs its ∧ IsTup h a its.toArray
 | .dK kvs => kvs.length ≤ sizeLine ∧ (a == sysModules) = false ∧ ∃ vs, KV kvs vs ∧ h.DictOf (mixKind P w) a vs
 | .dT kvs => kvs.length ≤ sizeLine ∧ (a == sysModules) = false ∧ ∃ xs : List (List Key × Addr × Value),
   Paired (fun (p : List Key × V) (q : List Key × Addr × Value) => p.1 = q.1 ∧ H q.2.1 = some (.tup (p.1.map kV)) ∧ RelV p.2 q.2.2) kvs xs ∧
   ∃ o es ep, h.get? a = some o ∧ o.ExactDict ∧ o.data = .dict es ep ∧ es.toList = xs.map (entryOfKey (tupleKind (mixKind P w))) ∧ (xs.map (·.1)).Nodup
 | .set S n => h.SetOf (intKind P w) a S n
 | .ins C dx fs => H dx = some (.own a) ∧ fs.length ≤ 1000 ∧ dx ≠ a ∧ h.get? a = some (PySem.W.instObj C dx) ∧
   ∃ mA, h.Ns1 dx mA ∧ (∀ f, RelO (fs.lookup f) (mA f)) ∧ PySem.Within mA (fs.map (·.1))
 | .own _ => ∃ o, h.get? a = some o
 | .xd fs => ∃ mA, h.Ns1 a mA ∧ ∀ f, RelO (fs.lookup f) (mA f)
 | .rng lo hi => ∃ t u v, h.get? a = some { cls := .type "range", data := .fields #[.int lo t, .int hi u, .int 1 v] }
 | .frz o u => h.get? a = some o ∧ ObjOk H h a u
 | .tbl ps => h.get? a = some { cls := .none, data := .fields ps }
 | .met f x => h.get? a = some (PySem.W.methodObj (.ref f) (.ref x))
 | .ext φ => φ a h ∧ (∃ o, h.get? a = some o) ∧ ∀ h1 h2 : Heap, φ a h1 → (∀ o, h1.get? a = some o → h2.get? a = some o) → φ a h2
def HOk (H : Hp) (h : Heap) : Prop := ∀ a o, H a = some o → ObjOk P w H h a o
end
section
variable {P : Program} {w : World} {H H' : Hp} {h h' : Heap} {a : Addr} {o : HO}
theorem ObjOk.lt (x : ObjOk P w H h a o) : a < h.objs.size := by
 cases o with
 | lst xs => obtain ⟨_, _, _, _, e⟩ := x; exact Heap.lt_size e
 | tup xs => obtain ⟨_, _, _, p⟩ := x; exact p.lt
 | dK kvs => obtain ⟨_, _, _, _, o, _, _, e, _⟩ := x; exact Heap.lt_size e
 | dT kvs => obtain ⟨_, _, _, _, o, _, _, e, _⟩ := x; exact Heap.lt_size e
 | set S n => obtain ⟨o, _, _, _, e, _⟩ := x; exact Heap.lt_size e
 | ins C dx fs => obtain ⟨_, _, _, e, _⟩ := x; exact Heap.lt_size e
 | own y => obtain ⟨_, e⟩ := x; exact Heap.lt_size e
 | xd fs => obtain ⟨_, ⟨_, _, _, e, _⟩, _⟩ := x; exact Heap.lt_size e
 | rng lo hi => obtain ⟨_, _, _, e⟩ := x; exact Heap.lt_size e
 | frz ob u => obtain ⟨e, _⟩ := x; exact Heap.lt_size e
 | tbl ps => exact Heap.lt_size (show h.get? a = some _ from x)
 | met f y => exact Heap.lt_size (show h.get? a = some _ from x)
 | ext φ => obtain ⟨_, ⟨_, e⟩, _⟩ := x; exact Heap.lt_size e
theorem Paired.mapP {α β : Type} {F G : α → β → Prop} {l₁ : List α} {l₂ : List β} (h : Paired F l₁ l₂) (f : ∀ a b, F a b → G a b) : Paired G l₁ l₂ := by
 induction h with
 | nil => exact .nil
 | cons r _ ih => exact .cons (f _ _ r) ih
theorem ObjOk.stay (x : ObjOk P w H h a o) (k : ∀ b u, (b = a ∨ H b = some (.own a)) → h.get? b = some u → h'.get? b = some u)
  (ho : ∀ b, H b = some (.own a) → H' b = some (.own a)) (ht : ∀ b xs, H b = some (.tup xs) → H' b = some (.tup xs)) : ObjOk P w H' h' a o := by
 induction o with
 | lst xs => obtain ⟨z, its, n, r, e⟩ := x; exact ⟨z, its, n, r, k _ _ (.inl rfl) e⟩
 | tup xs => obtain ⟨z, its, r, ob, e, c⟩ := x; exact ⟨z, its, r, ob, k _ _ (.inl rfl) e, c⟩
 | dK kvs => obtain ⟨z, y, vs, r, ob, es, ep, e, c⟩ := x; exact ⟨z, y, vs, r, ob, es, ep, k _ _ (.inl rfl) e, c⟩
 | dT kvs =>
  obtain ⟨z, y, xs, r, ob, es, ep, e, c⟩ := x
  exact ⟨z, y, xs, Paired.mapP r fun p q z => ⟨z.1, ht _ _ z.2.1, z.2.2⟩, ob, es, ep, k _ _ (.inl rfl) e, c⟩
 | set S n => obtain ⟨ob, es, ep, t, e, c⟩ := x; exact ⟨ob, es, ep, t, k _ _ (.inl rfl) e, c⟩
 | ins C dx fs =>
  obtain ⟨d, z, ne, e, mA, ⟨od, es, ep, e2, c⟩, r⟩ := x
  exact ⟨ho _ d, z, ne, k _ _ (.inl rfl) e, mA, ⟨od, es, ep, k _ _ (.inr d) e2, c⟩, r⟩
 | own y => obtain ⟨ob, e⟩ := x; exact ⟨ob, k _ _ (.inl rfl) e⟩
 | xd fs => obtain ⟨mA, ⟨od, es, ep, e, c⟩, r⟩ := x; exact ⟨mA, ⟨od, es, ep, k _ _ (.inl rfl) e, c⟩, r⟩
 | rng lo hi => obtain ⟨t, u, v, e⟩ := x; exact ⟨t, u, v, k _ _ (.inl rfl) e⟩
 | frz ob u ih => obtain ⟨e, q⟩ := x; exact ⟨k _ _ (.inl rfl) e, ih q⟩
 | tbl ps =>
  have e : h.get? a = some { cls := .none, data := .fields ps } := x
  show h'.get? a = some { cls := .none, data := .fields ps }
  exact k a _ (.inl rfl) e
 | met f y =>
  have e : h.get? a = some (PySem.W.methodObj (.ref f) (.ref y)) := x
  show h'.get? a = some (PySem.W.methodObj (.ref f) (.ref y))
  exact k a _ (.inl rfl) e
 | ext φ => obtain ⟨p, ⟨o, e⟩, st⟩ := x; exact ⟨st _ _ p fun o q => k _ _ (.inl rfl) q, ⟨o, k _ _ (.inl rfl) e⟩, st⟩
theorem HOk.lt (x : HOk P w H h) (e : H a = some o) : a < h.objs.size := (x a o e).lt
theorem HOk.fresh (x : HOk P w H h) (e : h.objs.size ≤ a) : H a = none := by
 cases q : H a with
 | none => rfl
 | some u => exact absurd (Nat.lt_of_lt_of_le (x.lt q) e) (Nat.lt_irrefl _)
theorem HOk.kept (x : HOk P w H h) (k : ∀ b u, h.get? b = some u → h'.get? b = some u) : HOk P w H h' := fun a o e =>
 (x a o e).stay (fun b u _ q => k b u q) (fun _ q => q) fun _ _ q => q
theorem HOk.laid (x : HOk P w H h) (k : ∀ b u, h.get? b = some u → h'.get? b = some u) (hp : h.objs.size ≤ a) (new : ObjOk P w (upd H a o) h' a o) : HOk P w (upd H a o) h' := fun b u e => by
 have hn := x.fresh hp
 by_cases hb : b = a
 ·subst hb; rw [upd_same] at e; cases e; exact new
 ·rw [upd_ne hb] at e
  exact (x b u e).stay (fun c v _ q => k c v q) (fun c q => by rw [upd_ne (ne_of_none q hn)]; exact q) fun c xs q => by rw [upd_ne (ne_of_none q hn)]; exact q
end
def Rd (H : Hp) (a : Addr) (u : HO) : Prop := H a = some u ∨ ∃ o, H a = some (.frz o u)
theorem Rd.ok {P : Program} {w : World} {H : Hp} {h : Heap} {a : Addr} {u : HO} (r : Rd H a u) (x : HOk P w H h) : ObjOk P w H h a u := by
 rcases r with r | ⟨o, r⟩
 ·exact x a u r
 ·obtain ⟨_, q⟩ := x a _ r
  exact q
noncomputable def Mut : Option HO → Prop
 | some (.lst _) => True
 | some (.dK _) => True
 | some (.dT _) => True
 | some (.set _ _) => True
 | some (.ins _ _ _) => True
 | some (.ext _) => True
 | _ => False
section
variable {P : Program} {w : World} {H : Hp} {h h' : Heap} {x e : Addr} {o' : HO}
theorem HOk.write (ok : HOk P w H h) (mu : Mut (H x)) (he : e = x ∨ H e = some (.own x)) (k : ∀ b u, b ≠ e → h.get? b = some u → h'.get? b = some u) (heo : ∃ u, h'.get? e = some u)
  (new : ObjOk P w (upd H x o') h' x o') : HOk P w (upd H x o') h' := fun b u q => by
 have nown : ∀ c y, H c = some (.own y) → c ≠ x := fun c y r z => by subst z; rw [r] at mu; exact mu
 have ntup : ∀ c xs, H c = some (.tup xs) → c ≠ x := fun c xs r z => by subst z; rw [r] at mu; exact mu
 by_cases hb : b = x
 ·subst hb; rw [upd_same] at q; cases q; exact new
 ·rw [upd_ne hb] at q
  by_cases hbe : b = e
  ·have q' : H b = some (.own x) := by
    rcases he with z | z
    ·exact absurd (hbe.trans z) hb
    ·rw [hbe]; exact z
   rw [q] at q'; cases q'
   obtain ⟨v, hv⟩ := heo
   exact ⟨v, by rw [hbe]; exact hv⟩
  ·refine (ok b u q).stay (fun c v hc r => k c v ?_ r) (fun c r => by rw [upd_ne (nown c b r)]; exact r) fun c xs r => by rw [upd_ne (ntup c xs r)]; exact r
   rcases hc with rfl | hc
   ·exact hbe
   ·rintro rfl
    rcases he with z | z
    ·exact nown c b hc z
    ·rw [hc] at z; cases z; exact hb rfl
end
structure Un (fs ex : List Addr) (H H' : Hp) (h h' : Heap) : Prop where
 keep : ∀ b o, h.get? b = some o → H b = none → b ∉ fs → b ∉ ex → h'.get? b = some o
 slot : ∀ b o, h.get? b = some o → H b = none → b ∈ fs → b ∉ ex → ∃ sl, h'.get? b = some { o with slots := sl }
 free : ∀ b o, h.get? b = some o → H b = none → b ∉ ex → H' b = none
 there : ∀ b o, h.get? b = some o → b ∉ ex → ∃ o', h'.get? b = some o'
 tups : ∀ b xs, H b = some (.tup xs) → H' b = some (.tup xs)
 frzs : ∀ b o u, H b = some (.frz o u) → H' b = some (.frz o u)
 tbls : ∀ b ps, H b = some (.tbl ps) → ∃ more, H' b = some (.tbl (ps ++ more))
section
variable {fs fs' ex ex' : List Addr} {H H1 H2 : Hp} {h h1 h2 h' : Heap} {a x e : Addr} {o : HO}
theorem Un.any (u : Un fs ex H H1 h h1) {b : Addr} {ob : Obj} (q : h.get? b = some ob) (n : H b = none) (hx : b ∉ ex) : ∃ sl, h1.get? b = some { ob with slots := sl } := by
 by_cases hb : b ∈ fs
 ·exact u.slot b ob q n hb hx
 ·exact ⟨ob.slots, u.keep b ob q n hb hx⟩
theorem Un.kept (k : ∀ b u, h.get? b = some u → h'.get? b = some u) : Un fs ex H H h h' :=
 ⟨fun b ob q _ _ _ => k b ob q, fun b ob q _ _ _ => ⟨ob.slots, k b ob q⟩, fun _ _ _ n _ => n, fun b ob q _ => ⟨ob, k b ob q⟩, fun _ _ q => q, fun _ _ _ q => q, fun _ ps q => ⟨#[], by rw [q]; simp⟩⟩
theorem Un.refl : Un fs ex H H h h := Un.kept fun _ _ q => q
theorem Un.laid (k : ∀ b u, h.get? b = some u → h'.get? b = some u) (hp : h.objs.size ≤ a) (hn : H a = none) : Un fs ex H (upd H a o) h h' where
 keep := fun b u q _ _ _ => k b u q
 slot := fun b u q _ _ _ => ⟨u.slots, k b u q⟩
 free := fun b u q n _ => by rw [upd_ne (Nat.ne_of_lt (Nat.lt_of_lt_of_le (Heap.lt_size q) hp))]; exact n
 there := fun b u q _ => ⟨u, k b u q⟩
 tups := fun b xs q => by rw [upd_ne (ne_of_none q hn)]; exact q
 frzs := fun b u xs q => by rw [upd_ne (ne_of_none q hn)]; exact q
 tbls := fun b ps q => ⟨#[], by rw [upd_ne (ne_of_none q hn), q]; simp⟩
theorem Un.write (mu : Mut (H x)) (he : e = x ∨ H e = some (.own x)) (k : ∀ b u, b ≠ e → h.get? b = some u → h'.get? b = some u) (heo : ∃ u, h'.get? e = some u) : Un fs ex H (upd H x o) h h' := by
 have hx : ∀ b, H b = none → b ≠ x := fun b n z => by subst z; rw [n] at mu; exact mu
 have hb : ∀ b, H b = none → b ≠ e := fun b n z => by
  subst z
  rcases he with r | r
  ·exact hx b n r
  ·rw [n] at r; cases r
 have hm : ∀ b u, H b = some u → ¬ Mut (some u) → b ≠ x := fun b u q nm z => by subst z; rw [q] at mu; exact nm mu
 refine ⟨fun b u q n _ _ => k b u (hb b n) q, fun b u q n _ _ => ⟨u.slots, k b u (hb b n) q⟩, fun b u q n _ => by rw [upd_ne (hx b n)]; exact n, fun b u q _ => ?_,
  fun b xs q => by rw [upd_ne (hm b _ q fun z => z)]; exact q, fun b u xs q => by rw [upd_ne (hm b _ q fun z => z)]; exact q, fun b ps q => ⟨#[], by rw [upd_ne (hm b _ q fun z => z), q]; simp⟩⟩
 by_cases hbe : b = e
 ·subst hbe; exact heo
 ·exact ⟨u, k b u hbe q⟩
end
noncomputable def trk (h : Heap) (H : Hp) : List Addr := (List.range h.objs.size).filter fun a => (H a).isSome
noncomputable def hidT (h : Heap) (H : Hp) : Heap := PySem.W.hideAll h (trk h H)
theorem hidT_size (h : Heap) (H : Hp) : (hidT h H).objs.size = h.objs.size := PySem.W.hideAll_size _ _
theorem hidT_get {h : Heap} {H : Hp} {b : Addr} {o : Obj} (e : h.get? b = some o) (n : H b = none) : (hidT h H).get? b = some o :=
 PySem.W.hideAll_get _ e fun hm => by
  have q : (H b).isSome = true := (List.mem_filter.mp hm).2
  rw [n] at q; simp at q
theorem of_hidT {h : Heap} {H : Hp} {b : Addr} {o : Obj} (e : (hidT h H).get? b = some o) : h.get? b = some o ∧ H b = none := by
 have e' : h.get? b = some o := PySem.W.of_hideAll (trk h H) e
 refine ⟨e', ?_⟩
 cases q : H b with
 | none => rfl
 | some x =>
  have hm : b ∈ trk h H := List.mem_filter.mpr ⟨List.mem_range.mpr (Heap.lt_size e'), by simp [q]⟩
  have z : (hidT h H).get? b = none := PySem.W.hideAll_none (trk h H) hm
  rw [z] at e; cases e
noncomputable def allNews (g h : Heap) (L : Addr) : List (Addr × Obj) := (List.range h.objs.size).filterMap fun a => if a = L ∨ (g.get? a).isSome = true then none else (h.get? a).map fun o => (a, o)
noncomputable def rest (g h : Heap) (L d : Addr) : List (Addr × Obj) := (allNews g h L).filter fun p => decide (p.1 ≠ d)
end L2
namespace L2
open PySem PySem.Spec PyProof.Rows
structure Mod (K : PySem.W.Frag) (mg : Str → Option Value) (base : Heap) : Prop where
 kin : K.In base
 glob : base.Ns mainGlobals mg
 blt : ∃ mb, base.Ns builtinsNs mb ∧ ∀ x : Str, x ≠ "__name__" → mb x = bootBuiltins x
 nolimit : base.NoLimit
structure Cx where
 prog : Program
 w : World
 K : PySem.W.Frag
 mg : Str → Option Value
 base : Heap
 A : Around
 N : List Str
 s₀ : Shared
 H₀ : Hp
 env : Env
 outer : List Env
 stack : List Env
 ex : List Addr
 fn : Str → Bool
 calm : Bool
 pn : List (Addr × Obj)
 xe : Value → Shared → Prop
noncomputable def frs (l : List Env) : List Addr := l.filterMap (·.frame)
noncomputable abbrev Cx.fs (X : Cx) : List Addr := frs X.outer
def Vis (sc : Scope) (x : Str) : Prop := sc.names.lookup x = some .local ∨ sc.names.lookup x = some .cell ∨ sc.names.lookup x = some .free
def Loc (sc : Scope) (x : Str) : Prop := sc.names.lookup x = some .local ∨ sc.names.lookup x = some .cell
def Look (env : Env) (h : Heap) (m : Str → Option Value) (x : Str) (u : Value) : Prop :=
 (env.kindOf x = some .local ∧ m x = some u) ∨ ((env.kindOf x = some .cell ∨ env.kindOf x = some .free) ∧ ∃ c, env.cells.lookup x = some c ∧ h.IsCell c (some u))
structure Cx.Ok (X : Cx) : Prop where
 mod : Mod X.K X.mg X.base
 kind : X.env.scope.kind = .function
 glob : X.env.globals = mainGlobals
 blt : X.env.builtins = builtinsNs
 above : X.s₀.heap.objs.size ≤ X.env.locals
 inj : ∀ x y c, X.env.cells.lookup x = some c → X.env.cells.lookup y = some c → x = y
 has : ∀ x, (X.env.kindOf x = some .cell ∨ X.env.kindOf x = some .free) → ∃ c, X.env.cells.lookup x = some c
 cab : ∀ x c, X.fn x = true → X.env.cells.lookup x = some c → X.s₀.heap.objs.size ≤ c
 hd : X.calm = true → X.A.handled = none
 frames : X.A.frames = some X.stack
 stk : X.stack = X.outer ∨ (X.stack = X.env :: X.outer ∧ X.env.frame = some X.env.locals)
 exf : ∀ b ∈ X.ex, b ≠ X.env.locals ∧ ∀ x c, X.env.cells.lookup x = some c → c ≠ b
 bs : ∀ b o, X.base.get? b = some o → X.s₀.heap.get? b = some o ∧ X.H₀ b = none
 bsz : X.base.objs.size ≤ X.s₀.heap.objs.size
 noex : ∀ b o, X.base.get? b = some o → b ∉ X.ex
 exfs : ∀ b ∈ X.ex, b ∉ X.fs
 funs : X.s₀.heap.FunFrames X.base X.outer
 frf : ∀ b ∈ X.fs, X.H₀ b = none
structure Inv (X : Cx) (pins : List (Addr × Obj)) (σ : List (Option V)) (H : Hp) (s : Shared) : Prop where
 ok : X.Ok
 os : s.os = X.s₀.os
 bare : AllBare s.gens
 base : Un X.fs X.ex X.H₀ H X.s₀.heap s.heap
 loc : ∃ m, s.heap.Ns X.env.locals m ∧ ∀ (i : Nat) (x : Str) (v : V), X.N[i]? = some x → σ[i]? = some (some v) → Vis X.env.scope x → ∃ u, RelV v u ∧ Look X.env s.heap m x u
 cell : ∀ x c, X.env.cells.lookup x = some c → ∃ v, s.heap.IsCell c v
 free : H X.env.locals = none
 freeC : ∀ x c, X.env.cells.lookup x = some c → H c = none
 pin : ∀ p ∈ X.pn ++ pins, s.heap.get? p.1 = some p.2 ∧ H p.1 = none ∧ p.1 ≠ X.env.locals ∧ p.1 ∉ X.fs ∧ ∀ v, p.2.data ≠ .cell v
 hok : HOk X.prog X.w H s.heap
 len : σ.length = X.N.length
section
variable {X : Cx} {pins : List (Addr × Obj)} {σ : List (Option V)} {H H' : Hp} {s : Shared} {h' : Heap}
theorem Cx.Ok.nofr (ok : X.Ok) {b : Addr} {o : Obj} (e : X.base.get? b = some o) : b ∉ X.fs := fun hb => by
 have := (ok.funs.mem hb).1
 rw [e] at this; cases this
theorem Inv.bs (I : Inv X pins σ H s) : ∀ b o, X.base.get? b = some o → s.heap.get? b = some o ∧ H b = none := fun b o e =>
 ⟨I.base.keep b o (I.ok.bs b o e).1 (I.ok.bs b o e).2 (I.ok.nofr e) (I.ok.noex b o e), I.base.free b o (I.ok.bs b o e).1 (I.ok.bs b o e).2 (I.ok.noex b o e)⟩
theorem Inv.bk (I : Inv X pins σ H s) : ∀ b o, X.base.get? b = some o → s.heap.get? b = some o := fun b o e => (I.bs b o e).1
theorem Inv.mod (I : Inv X pins σ H s) : Mod X.K X.mg X.base := I.ok.mod
theorem Inv.kIn (I : Inv X pins σ H s) : X.K.In s.heap := I.ok.mod.kin.keeps I.bk
theorem Inv.lt (I : Inv X pins σ H s) : X.env.locals < s.heap.objs.size := let ⟨_, hn, _⟩ := I.loc; hn.lt
theorem Inv.sz (I : Inv X pins σ H s) : X.s₀.heap.objs.size ≤ s.heap.objs.size := Nat.le_trans I.ok.above (Nat.le_of_lt I.lt)
theorem Inv.nofs (I : Inv X pins σ H s) {a : Addr} (h : s.heap.objs.size ≤ a) : a ∉ X.fs := fun hb => by
 obtain ⟨_, o, ho, _⟩ := I.ok.funs.mem hb
 exact absurd (Nat.lt_of_lt_of_le (Heap.lt_size ho) (Nat.le_trans I.sz h)) (Nat.lt_irrefl _)
theorem Inv.cne (I : Inv X pins σ H s) : ∀ x c, X.env.cells.lookup x = some c → c ≠ X.env.locals := fun x c e z => by
 obtain ⟨v, o, ho, hd⟩ := I.cell x c e
 obtain ⟨m, ⟨o', es, ep, ho', hd', _⟩, _⟩ := I.loc
 rw [z, ho'] at ho; cases ho; rw [hd'] at hd; cases hd
theorem Inv.funs (I : Inv X pins σ H s) : s.heap.FunFrames X.base X.outer := by
 have all : ∀ (l : List Env), (∀ b ∈ frs l, b ∈ X.fs) → X.s₀.heap.FunFrames X.base l → s.heap.FunFrames X.base l := by
  intro l
  induction l with
  | nil => intro _ _; trivial
  | cons env r ih =>
   intro hs hl
   obtain ⟨hk, ⟨L, o, hf, hn, ho, hd⟩, hr⟩ := hl
   have hL : L ∈ X.fs := hs L (by unfold frs; rw [List.filterMap_cons, hf]; exact List.mem_cons_self)
   obtain ⟨sl, e⟩ := I.base.slot L o ho (I.ok.frf L hL) hL fun z => I.ok.exfs L z hL
   exact ⟨hk, ⟨L, _, hf, hn, e, hd⟩, ih (fun b hb => hs b (by unfold frs; rw [List.filterMap_cons, hf]; exact List.mem_cons_of_mem _ hb)) hr⟩
 exact all X.outer (fun _ hb => hb) I.ok.funs
theorem Inv.stack (I : Inv X pins σ H s) : s.heap.FunFrames X.base X.stack := by
 rcases I.ok.stk with e | ⟨e, hf⟩
 ·rw [e]; exact I.funs
 ·rw [e]
  obtain ⟨m, hn, _⟩ := I.loc
  refine .cons (by rw [I.ok.kind]; decide) hf hn ?_ I.funs
  exact Heap.get?_none_of_le (Nat.le_trans I.ok.bsz I.ok.above)
theorem Inv.stkSub (I : Inv X pins σ H s) : ∀ b ∈ frs X.stack, b ∈ X.env.locals :: X.fs := fun b hb => by
 rcases I.ok.stk with e | ⟨e, hf⟩
 ·rw [e] at hb; exact List.mem_cons_of_mem _ hb
 ·rw [e] at hb
  unfold frs at hb
  rw [List.filterMap_cons, hf] at hb
  exact hb
theorem Inv.stkFree (I : Inv X pins σ H s) : ∀ b ∈ frs X.stack, H b = none := fun b hb => by
 rcases List.mem_cons.mp (I.stkSub b hb) with e | hb
 ·rw [e]; exact I.free
 ·obtain ⟨_, o, ho, _⟩ := I.ok.funs.mem hb
  exact I.base.free b o ho (I.ok.frf b hb) fun z => I.ok.exfs b z hb
theorem Inv.step {g' : Array GenState} {t' : Nat} {d' : Drawn} {ch : List Addr} (I : Inv X pins σ H s)
  (hch : ∀ b ∈ ch, (b ∈ X.ex ∨ X.s₀.heap.objs.size ≤ b) ∧ b ≠ X.env.locals ∧ (∀ x c, X.env.cells.lookup x = some c → c ≠ b) ∧ ∀ p ∈ X.pn ++ pins, p.1 ≠ b)
  (keep : ∀ b o, b ≠ X.env.locals → b ∉ X.fs → b ∉ ch → s.heap.get? b = some o → H b = none → h'.get? b = some o)
  (slot : ∀ b o, b ≠ X.env.locals → b ∈ X.fs → b ∉ ch → s.heap.get? b = some o → H b = none → ∃ sl, h'.get? b = some { o with slots := sl }) (free : ∀ b o, b ∉ ch → s.heap.get? b = some o → H b = none → H' b = none)
  (there : ∀ b o, b ∉ ch → s.heap.get? b = some o → ∃ o', h'.get? b = some o')
  (tups : ∀ b xs, H b = some (.tup xs) → H' b = some (.tup xs)) (frzs : ∀ b o u, H b = some (.frz o u) → H' b = some (.frz o u)) (tbls : ∀ b ps, H b = some (.tbl ps) → ∃ more, H' b = some (.tbl (ps ++ more)))
  (ns : ∀ m, s.heap.Ns X.env.locals m → h'.Ns X.env.locals m) (hok : HOk X.prog X.w H' h') (hg : AllBare g') :
  Inv X pins σ H' { s with heap := h', gens := g', drawn := d', toks := t' } := by
 have neL : ∀ b o, X.s₀.heap.get? b = some o → b ≠ X.env.locals := fun b o e => Nat.ne_of_lt (Nat.lt_of_lt_of_le (Heap.lt_size e) I.ok.above)
 have neC : ∀ b o, X.s₀.heap.get? b = some o → b ∉ X.ex → b ∉ ch := fun b o e hx hb => by
  rcases (hch b hb).1 with z | z
  ·exact hx z
  ·exact absurd (Nat.lt_of_lt_of_le (Heap.lt_size e) z) (Nat.lt_irrefl _)
 have cellK : ∀ x c, X.env.cells.lookup x = some c → ∀ v, s.heap.IsCell c v → h'.IsCell c v := fun x c e v ⟨o, ho, hd⟩ => by
  have nch : c ∉ ch := fun z => (hch c z).2.2.1 x c e rfl
  by_cases hc : c ∈ X.fs
  ·obtain ⟨sl, q⟩ := slot c o (I.cne x c e) hc nch ho (I.freeC x c e)
   exact ⟨_, q, hd⟩
  ·exact ⟨o, keep c o (I.cne x c e) hc nch ho (I.freeC x c e), hd⟩
 refine ⟨I.ok, I.os, hg, ⟨fun b o e n hb hx => ?_, fun b o e n hb hx => ?_, fun b o e n hx => ?_, fun b o e hx => ?_, fun b xs e => tups b xs (I.base.tups b xs e), fun b o xs e => frzs b o xs (I.base.frzs b o xs e), fun b ps e => ?_⟩, ?_, fun x c e => ?_, ?_, fun x c e => ?_, fun p hp => ?_, hok, I.len⟩
 ·exact keep b o (neL b o e) hb (neC b o e hx) (I.base.keep b o e n hb hx) (I.base.free b o e n hx)
 ·obtain ⟨sl, e1⟩ := I.base.slot b o e n hb hx
  obtain ⟨sl', e2⟩ := slot b _ (neL b o e) hb (neC b o e hx) e1 (I.base.free b o e n hx)
  exact ⟨sl', e2⟩
 ·obtain ⟨o', e1⟩ := I.base.there b o e hx
  exact free b o' (neC b o e hx) e1 (I.base.free b o e n hx)
 ·obtain ⟨o', e1⟩ := I.base.there b o e hx
  exact there b o' (neC b o e hx) e1
 ·obtain ⟨m1, e1⟩ := I.base.tbls b ps e
  obtain ⟨m2, e2⟩ := tbls b _ e1
  exact ⟨m1 ++ m2, by rw [e2, Array.append_assoc]⟩
 ·obtain ⟨m, hn, hl⟩ := I.loc
  refine ⟨m, ns m hn, fun i x v e1 e2 e3 => ?_⟩
  obtain ⟨u, r, l⟩ := hl i x v e1 e2 e3
  refine ⟨u, r, ?_⟩
  rcases l with l | ⟨k, c, e, z⟩
  ·exact .inl l
  ·exact .inr ⟨k, c, e, cellK x c e _ z⟩
 ·obtain ⟨v, z⟩ := I.cell x c e
  exact ⟨v, cellK x c e v z⟩
 ·obtain ⟨m, ⟨o, _, _, ho, _⟩, _⟩ := I.loc
  exact free _ o (fun z => (hch _ z).2.1 rfl) ho I.free
 ·obtain ⟨v, o, ho, hd⟩ := I.cell x c e
  exact free c o (fun z => (hch c z).2.2.1 x c e rfl) ho (I.freeC x c e)
 ·obtain ⟨e, n, ne, nf, d⟩ := I.pin p hp
  have nch : p.1 ∉ ch := fun z => (hch p.1 z).2.2.2 p hp rfl
  exact ⟨keep p.1 p.2 ne nf nch e n, free p.1 p.2 nch e n, ne, nf, d⟩
theorem Inv.un {t' : Nat} (I : Inv X pins σ H s) (u : Un X.fs [] H H' s.heap h') (hok : HOk X.prog X.w H' h') : Inv X pins σ H' { s with heap := h', toks := t' } := by
 obtain ⟨m, ⟨o, es, ep, ho, r⟩, _⟩ := id I.loc
 obtain ⟨sl, hL⟩ := u.any ho I.free (by simp)
 exact I.step (g' := s.gens) (d' := s.drawn) (ch := []) (fun _ z => nomatch z) (fun b o _ hb _ e n => u.keep b o e n hb (by simp)) (fun b o _ hb _ e n => u.slot b o e n hb (by simp)) (fun b o _ e n => u.free b o e n (by simp)) (fun b o _ e => u.there b o e (by simp)) u.tups u.frzs u.tbls (fun m' hm => by
  obtain ⟨o', es', ep', ho', r'⟩ := hm
  rw [ho] at ho'; cases ho'
  exact ⟨_, es', ep', hL, r'⟩) hok I.bare
theorem Inv.call {g' : Array GenState} {t' : Nat} {d' : Drawn} {ch : List Addr} (I : Inv X pins σ H s) (u : Un (frs X.stack) ch H H' s.heap h') (hok : HOk X.prog X.w H' h') (hg : AllBare g')
  (hch : ∀ b ∈ ch, (b ∈ X.ex ∨ X.s₀.heap.objs.size ≤ b) ∧ b ≠ X.env.locals ∧ (∀ x c, X.env.cells.lookup x = some c → c ≠ b) ∧ ∀ p ∈ X.pn ++ pins, p.1 ≠ b) :
  Inv X pins σ H' { s with heap := h', gens := g', drawn := d', toks := t' } := by
 obtain ⟨m, ⟨o, es, ep, ho, r⟩, _⟩ := id I.loc
 obtain ⟨sl, hL⟩ := u.any ho I.free fun z => (hch _ z).2.1 rfl
 exact I.step (ch := ch) hch (fun b o hL hb hc e n => u.keep b o e n (fun z => (List.mem_cons.mp (I.stkSub b z)).elim hL hb) hc) (fun b o _ _ hc e n => u.any e n hc) (fun b o hc e n => u.free b o e n hc) (fun b o hc e => u.there b o e hc) u.tups u.frzs u.tbls (fun m' hm => by
  obtain ⟨o', es', ep', ho', r'⟩ := hm
  rw [ho] at ho'; cases ho'
  exact ⟨_, es', ep', hL, r'⟩) hok hg
theorem Inv.turned {t' : Nat} {it : Addr} (I : Inv X pins σ H s) (k : ∀ b o, b ≠ it → s.heap.get? b = some o → h'.get? b = some o) (hn : H it = none) (hL : it ≠ X.env.locals)
  (h1 : it ∈ X.ex ∨ X.s₀.heap.objs.size ≤ it) (h2 : ∀ x c, X.env.cells.lookup x = some c → c ≠ it) (h3 : ∀ p ∈ X.pn ++ pins, p.1 ≠ it) : Inv X pins σ H { s with heap := h', toks := t' } := by
 have nit : ∀ b u, H b = some u → b ≠ it := fun b u e z => by rw [z, hn] at e; cases e
 refine I.step (g' := s.gens) (d' := s.drawn) (ch := [it]) (fun b hb => ?_) (fun b o _ _ hc e _ => k b o (fun z => hc (by simp [z])) e) (fun b o _ _ hc e _ => ⟨o.slots, k b o (fun z => hc (by simp [z])) e⟩) (fun _ _ _ _ n => n)
  (fun b o hc e => ⟨o, k b o (fun z => hc (by simp [z])) e⟩) (fun _ _ e => e) (fun _ _ _ e => e) (fun b ps e => ⟨#[], by rw [e]; simp⟩) (fun m hm => ?_) (fun b u e => ?_) I.bare
 ·have e : b = it := by simpa using hb
  subst e
  exact ⟨h1, hL, h2, h3⟩
 ·obtain ⟨o, es, ep, ho, r⟩ := hm
  exact ⟨o, es, ep, k _ o (Ne.symm hL) ho, r⟩
 ·refine (I.hok b u e).stay (fun c v hc q => k c v ?_ q) (fun _ q => q) fun _ _ q => q
  rcases hc with z | z
  ·rw [z]; exact nit b u e
  ·exact nit c _ z
theorem Inv.tok (I : Inv X pins σ H s) (t : Nat) : Inv X pins σ H { s with toks := t } := I.un (h' := s.heap) (t' := t) Un.refl I.hok
theorem Inv.kept {t' : Nat} (I : Inv X pins σ H s) (k : ∀ b u, s.heap.get? b = some u → h'.get? b = some u) : Inv X pins σ H { s with heap := h', toks := t' } := I.un (Un.kept k) (I.hok.kept k)
theorem Inv.laid {a : Addr} {o : HO} {t' : Nat} (I : Inv X pins σ H s) (k : ∀ b u, s.heap.get? b = some u → h'.get? b = some u) (hp : s.heap.objs.size ≤ a) (new : ObjOk X.prog X.w (upd H a o) h' a o) :
  Inv X pins σ (upd H a o) { s with heap := h', toks := t' } := I.un (Un.laid k hp (I.hok.fresh hp)) (I.hok.laid k hp new)
theorem Inv.write {x e : Addr} {o : HO} {t' : Nat} (I : Inv X pins σ H s) (mu : Mut (H x)) (he : e = x ∨ H e = some (.own x)) (k : ∀ b u, b ≠ e → s.heap.get? b = some u → h'.get? b = some u) (heo : ∃ u, h'.get? e = some u)
  (new : ObjOk X.prog X.w (upd H x o) h' x o) : Inv X pins σ (upd H x o) { s with heap := h', toks := t' } := I.un (Un.write mu he k heo) (I.hok.write mu he k heo new)
theorem Inv.pins_of {pins' : List (Addr × Obj)} (I : Inv X pins σ H s) (h : ∀ p ∈ pins', s.heap.get? p.1 = some p.2 ∧ H p.1 = none ∧ p.1 ≠ X.env.locals ∧ p.1 ∉ X.fs ∧ ∀ v, p.2.data ≠ .cell v) : Inv X pins' σ H s :=
 ⟨I.ok, I.os, I.bare, I.base, I.loc, I.cell, I.free, I.freeC, fun p hp => (List.mem_append.mp hp).elim (fun z => I.pin p (List.mem_append_left _ z)) (h p), I.hok, I.len⟩
theorem nodup_ix {N : List Str} (hN : N.Nodup) {i j : Nat} {x : Str} (a : N[i]? = some x) (b : N[j]? = some x) : i = j := by
 obtain ⟨h1, e1⟩ := List.getElem?_eq_some_iff.mp a
 obtain ⟨h2, e2⟩ := List.getElem?_eq_some_iff.mp b
 exact (List.getElem_inj hN).mp (e1.trans e2.symm)
theorem store_ok2 {M : Model} {A : Around} {E : Value → Shared → Prop} {i : Nat} {x : Str} {v : V} {u : Value} {Q : Unit → Shared → Prop} (I : Inv X pins σ H s) (hN : X.N.Nodup) (hi : X.N[i]? = some x) (hx : Loc X.env.scope x) (r : RelV v u)
  (h : ∀ s', Inv X pins (σ.set i (some v)) H s' → (∃ a, Heap.SameBut a s.heap s'.heap ∧ (a = X.env.locals ∨ X.env.cells.lookup x = some a)) → Q () s') (hf : X.fn x = true ∨ X.env.scope.names.lookup x = some .local := by first | exact .inl rfl | exact .inr rfl | assumption) : wpAny M A (storeName X.env x u) Q E s := by
 obtain ⟨m, hn, hl⟩ := id I.loc
 have hcls : (X.env.scope.kind == .class || (X.env.scope.kind == .module && X.env.locals != X.env.globals)) = false := by rw [I.ok.kind]; rfl
 have hiσ : i < σ.length := by rw [I.len]; exact (List.getElem?_eq_some_iff.mp hi).1
 have cne := I.cne
 have tracked : ∀ {a : Addr} {h' : Heap}, (∃ o, s.heap.get? a = some o ∧ H a = none) → Heap.SameBut a s.heap h' → HOk X.prog X.w H h' := fun {a h'} ha hs b ob e => by
  obtain ⟨_, _, hfree⟩ := ha
  refine (I.hok b ob e).stay (fun c w' hc q => (hs.2 c ?_).trans q) (fun _ q => q) fun _ _ q => q
  rintro rfl
  rcases hc with rfl | hc
  ·rw [hfree] at e; cases e
  ·rw [hfree] at hc; cases hc
 rcases hx with hk | hk
 ·refine wpAny_storeName_local hk hn (fun h' hn' hs => ?_) hcls
  obtain ⟨oL, _, _, hoL, _⟩ := id hn
  refine h _ ⟨I.ok, I.os, I.bare, ⟨fun b o e n hb hx => ?_, fun b o e n hb hx => ?_, I.base.free, fun b o e hx => ?_, I.base.tups, I.base.frzs, I.base.tbls⟩, ⟨_, hn', fun j y v' e1 e2 e3 => ?_⟩, fun y c e => ?_, I.free, I.freeC, fun p hp => ?_, tracked ⟨oL, hoL, I.free⟩ hs, by simpa using I.len⟩ ⟨_, hs, .inl rfl⟩
  ·exact (hs.2 b (Nat.ne_of_lt (Nat.lt_of_lt_of_le (Heap.lt_size e) I.ok.above))).trans (I.base.keep b o e n hb hx)
  ·obtain ⟨sl, e1⟩ := I.base.slot b o e n hb hx
   exact ⟨sl, (hs.2 b (Nat.ne_of_lt (Nat.lt_of_lt_of_le (Heap.lt_size e) I.ok.above))).trans e1⟩
  ·obtain ⟨o', e1⟩ := I.base.there b o e hx
   exact ⟨o', (hs.2 b (Nat.ne_of_lt (Nat.lt_of_lt_of_le (Heap.lt_size e) I.ok.above))).trans e1⟩
  ·by_cases hj : j = i
   ·subst hj
    rw [hi] at e1; cases e1
    rw [List.getElem?_set_self hiσ] at e2
    cases e2
    exact ⟨u, r, .inl ⟨hk, by simp⟩⟩
   ·rw [List.getElem?_set_ne (Ne.symm hj)] at e2
    obtain ⟨u', r', q⟩ := hl j y v' e1 e2 e3
    refine ⟨u', r', ?_⟩
    rcases q with ⟨k, e⟩ | ⟨k, c, e, z⟩
    ·refine .inl ⟨k, ?_⟩
     have : y ≠ x := fun e => hj (nodup_ix hN e1 (e ▸ hi))
     simp [this, e]
    ·exact .inr ⟨k, c, e, z.sameBut hs (cne y c e)⟩
  ·obtain ⟨w', z⟩ := I.cell y c e
   exact ⟨w', z.sameBut hs (cne y c e)⟩
  ·obtain ⟨e, n, ne, nf, d⟩ := I.pin p hp
   exact ⟨(hs.2 p.1 ne).trans e, n, ne, nf, d⟩
 ·have hfn : X.fn x = true := by
   rcases hf with z | z
   ·exact z
   ·rw [z] at hk; cases hk
  obtain ⟨c, hc⟩ := I.ok.has x (.inl hk)
  obtain ⟨w', z⟩ := I.cell x c hc
  refine wpAny_storeName_cell I.ok.kind hk hc z (fun h' hc' hs => ?_)
  obtain ⟨oc, hoc, hocd⟩ := id z
  refine h { s with heap := h' } ⟨I.ok, I.os, I.bare, ⟨fun b o e n hb hx => ?_, fun b o e n hb hx => ?_, I.base.free, fun b o e hx => ?_, I.base.tups, I.base.frzs, I.base.tbls⟩, ⟨m, hn.sameBut hs (Ne.symm (cne x c hc)), fun j y v' e1 e2 e3 => ?_⟩, fun y c' e => ?_, I.free, I.freeC, fun p hp => ?_, tracked ⟨oc, hoc, I.freeC x c hc⟩ hs, by simpa using I.len⟩ ⟨c, hs, .inr hc⟩
  ·exact (hs.2 b (Nat.ne_of_lt (Nat.lt_of_lt_of_le (Heap.lt_size e) (I.ok.cab x c hfn hc)))).trans (I.base.keep b o e n hb hx)
  ·obtain ⟨sl, e1⟩ := I.base.slot b o e n hb hx
   exact ⟨sl, (hs.2 b (Nat.ne_of_lt (Nat.lt_of_lt_of_le (Heap.lt_size e) (I.ok.cab x c hfn hc)))).trans e1⟩
  ·obtain ⟨o', e1⟩ := I.base.there b o e hx
   exact ⟨o', (hs.2 b (Nat.ne_of_lt (Nat.lt_of_lt_of_le (Heap.lt_size e) (I.ok.cab x c hfn hc)))).trans e1⟩
  ·by_cases hj : j = i
   ·subst hj
    rw [hi] at e1; cases e1
    rw [List.getElem?_set_self hiσ] at e2
    cases e2
    exact ⟨u, r, .inr ⟨.inl hk, c, hc, hc'⟩⟩
   ·rw [List.getElem?_set_ne (Ne.symm hj)] at e2
    obtain ⟨u', r', q⟩ := hl j y v' e1 e2 e3
    refine ⟨u', r', ?_⟩
    rcases q with q | ⟨k, c', e, z'⟩
    ·exact .inl q
    ·refine .inr ⟨k, c', e, z'.sameBut hs ?_⟩
     rintro rfl
     exact hj (nodup_ix hN e1 (I.ok.inj _ _ _ e hc ▸ hi))
  ·by_cases hcc : c' = c
   ·subst hcc; exact ⟨_, hc'⟩
   ·obtain ⟨w2, z2⟩ := I.cell y c' e
    exact ⟨w2, z2.sameBut hs hcc⟩
  ·obtain ⟨e, n, ne, nf, d⟩ := I.pin p hp
   refine ⟨(hs.2 p.1 ?_).trans e, n, ne, nf, d⟩
   intro q
   rw [q, hoc] at e
   have q' : oc = p.2 := Option.some.inj e
   exact d w' (by rw [← q']; exact hocd)
theorem store_ok {M : Model} {A : Around} {E : Value → Shared → Prop} {i : Nat} {x : Str} {v : V} {u : Value} {Q : Unit → Shared → Prop} (I : Inv X pins σ H s) (hN : X.N.Nodup) (hi : X.N[i]? = some x) (hx : Loc X.env.scope x) (r : RelV v u)
  (h : ∀ s', Inv X pins (σ.set i (some v)) H s' → Q () s') (hf : X.fn x = true ∨ X.env.scope.names.lookup x = some .local := by first | exact .inl rfl | exact .inr rfl | assumption) : wpAny M A (storeName X.env x u) Q E s :=
 store_ok2 I hN hi hx r (fun s' I' _ => h s' I') hf
theorem Inv.call' {s' : Shared} {ch : List Addr} (I : Inv X pins σ H s) (ho : s'.os = s.os) (u : Un (frs X.stack) ch H H' s.heap s'.heap) (hok : HOk X.prog X.w H' s'.heap) (hg : AllBare s'.gens)
  (hch : ∀ b ∈ ch, (b ∈ X.ex ∨ X.s₀.heap.objs.size ≤ b) ∧ b ≠ X.env.locals ∧ (∀ x c, X.env.cells.lookup x = some c → c ≠ b) ∧ ∀ p ∈ X.pn ++ pins, p.1 ≠ b) : Inv X pins σ H' s' := by
 obtain ⟨h', g', d', t', o'⟩ := s'
 have e : o' = s.os := ho
 subst e
 exact I.call (g' := g') (t' := t') (d' := d') u hok hg hch
end
noncomputable abbrev XK := Value → Option Addr → Hp → Prop
noncomputable abbrev St := List (Option V)
noncomputable abbrev VK := V → Hp → Prop
noncomputable abbrev TE := St → Hp → VK → Prop
noncomputable abbrev TT := St → Hp → (Bool → Hp → Prop) → Prop
noncomputable abbrev TA := St → Hp → (List V → Hp → Prop) → Prop
structure Ends where
 nx : St → Hp → Prop
 rt : VK
 bk : St → Hp → Prop := fun _ _ => False
 ct : St → Hp → Prop := fun _ _ => False
noncomputable abbrev TS := Ends → St → Hp → Prop
def EP (X : Cx) (pins : List (Addr × Obj)) (σ : St) (Q : VK) (u : Value) (s' : Shared) : Prop := ∃ v H', Inv X pins σ H' s' ∧ RelV v u ∧ Q v H'
def TP (X : Cx) (pins : List (Addr × Obj)) (σ : St) (Q : Bool → Hp → Prop) (b : Bool) (s' : Shared) : Prop := ∃ H', Inv X pins σ H' s' ∧ Q b H'
def AP (X : Cx) (pins : List (Addr × Obj)) (σ : St) (Q : List V → Hp → Prop) (us : List Value) (s' : Shared) : Prop := ∃ vs H', Inv X pins σ H' s' ∧ Vals vs us ∧ Q vs H'
def SP (X : Cx) (pins : List (Addr × Obj)) (D : Ends) (f : Flow) (s' : Shared) : Prop :=
 match f with
 | .next => ∃ σ' H', Inv X pins σ' H' s' ∧ D.nx σ' H'
 | .brk => ∃ σ' H', Inv X pins σ' H' s' ∧ D.bk σ' H'
 | .cont => ∃ σ' H', Inv X pins σ' H' s' ∧ D.ct σ' H'
 | .ret u => ∃ v σ' H', Inv X pins σ' H' s' ∧ RelV v u ∧ D.rt v H'
def PE (X : Cx) (e : Expr) (t : TE) : Prop :=
 ∀ (pins : List (Addr × Obj)) (s : Shared) (σ : St) (H : Hp) (Q : VK), Inv X pins σ H s → t σ H Q → wpAny (model X.prog X.w) X.A (eval e X.env) (EP X pins σ Q) X.xe s
def PT (X : Cx) (e : Expr) (t : TT) : Prop :=
 ∀ (pins : List (Addr × Obj)) (s : Shared) (σ : St) (H : Hp) (Q : Bool → Hp → Prop), Inv X pins σ H s → t σ H Q → wpAny (model X.prog X.w) X.A (isTrue e X.env (eval e X.env)) (TP X pins σ Q) X.xe s
def PW (X : Cx) (e : Expr) (t : TT) : Prop :=
 ∀ (whole : Sem Value) (pins : List (Addr × Obj)) (s : Shared) (σ : St) (H : Hp) (Q : Bool → Hp → Prop), Inv X pins σ H s → t σ H Q → wpAny (model X.prog X.w) X.A (isTrue e X.env whole) (TP X pins σ Q) X.xe s
theorem PW.pt {X : Cx} {e : Expr} {t : TT} (h : PW X e t) : PT X e t := h _
def PA (X : Cx) (es : List Expr) (t : TA) : Prop :=
 ∀ (pos : Pos) (pins : List (Addr × Obj)) (s : Shared) (σ : St) (H : Hp) (Q : List V → Hp → Prop), Inv X pins σ H s → t σ H Q → wpAny (model X.prog X.w) X.A (spliced (backTo pos (starEach es X.env))) (AP X pins σ Q) X.xe s
def PS (X : Cx) (st : Stmt) (t : TS) : Prop :=
 ∀ (pins : List (Addr × Obj)) (s : Shared) (σ : St) (H : Hp) (D : Ends), Inv X pins σ H s → t D σ H → wpAny (model X.prog X.w) X.A (exec st X.env) (SP X pins D) X.xe s
def PSs (X : Cx) (st : List Stmt) (t : TS) : Prop :=
 ∀ (pins : List (Addr × Obj)) (s : Shared) (σ : St) (H : Hp) (D : Ends), Inv X pins σ H s → t D σ H → wpAny (model X.prog X.w) X.A (execs st X.env) (SP X pins D) X.xe s
theorem thn {α : Type} {t : Sem α} {Q Q' : α → Shared → Prop} {M : Model} {A : Around} {E : Value → Shared → Prop} {s : Shared} (h : wpAny M A t Q E s) (hQ : ∀ a s, Q a s → Q' a s) : wpAny M A t Q' E s := wpAny_mono h hQ fun _ _ x => x
end L2
namespace L2
open PySem PySem.Spec PyProof.Rows
section
variable {X : Cx}
theorem bin {a b : Expr} {ta tb : TE} (ha : PE X a ta) (hb : PE X b tb) {pins : List (Addr × Obj)} {s : Shared} {σ : St} {H : Hp} {R : V → V → Hp → Prop} (I : Inv X pins σ H s) (h : ta σ H fun x H1 => tb σ H1 fun y H2 => R x y H2)
  {α : Type} {Q : α → Shared → Prop} {f : Value → Value → Sem α}
  (hf : ∀ v u s2 x y H2, Inv X pins σ H2 s2 → RelV x v → RelV y u → R x y H2 → wpAny (model X.prog X.w) X.A (f v u) Q X.xe s2) :
  wpAny (model X.prog X.w) X.A (eval a X.env) (fun v s₁ => wpAny (model X.prog X.w) X.A (eval b X.env) (fun u s₂ => wpAny (model X.prog X.w) X.A (f v u) Q X.xe s₂) X.xe s₁) X.xe s := by
 refine thn (ha pins s σ H _ I h) fun v s1 hq_ => ?_
 obtain ⟨x, H1, I1, r1, q1⟩ := hq_
 refine thn (hb pins s1 σ H1 _ I1 q1) fun u s2 hq_ => ?_
 obtain ⟨y, H2, I2, r2, q2⟩ := hq_
 exact hf v u s2 x y H2 I2 r1 r2 q2
noncomputable def tVar (i : Nat) : TE := fun σ H Q => ∃ v, σ[i]? = some (some v) ∧ Q v H
noncomputable def tC (v : V) : TE := fun _ H Q => Q v H
theorem pe_var {i : Nat} {x : Str} {pos : Pos} (hN : X.N[i]? = some x) (hv : Vis X.env.scope x) (hd : (x == ("__debug__" : Str)) = false := by decide) (hcd : (x == ("__classdict__" : Str)) = false := by decide) : PE X (.Name x pos) (tVar i) := by
 intro pins s σ H Q I h
 obtain ⟨v, e, h⟩ := h
 obtain ⟨m, hn, hl⟩ := I.loc
 obtain ⟨u, r, l⟩ := hl i x v hN e hv
 have fin : EP X pins σ Q u s := ⟨v, H, I, r, h⟩
 rcases l with ⟨hk, hm⟩ | ⟨hk, c, hc, hcell⟩
 ·exact wpAny_Name (wpAny_loadName_local I.ok.kind hk hn hm fin) hd
 ·rcases hk with hk | hk
  ·exact wpAny_Name (wpAny_loadName_cell I.ok.kind hk hc hcell fin) hd
  ·exact wpAny_Name (wpAny_loadName_free I.ok.kind hk hc hcell fin hcd) hd
theorem pe_int {i j pos} : PE X (.Constant (.int i) j pos) (tC (.int i)) := fun _ _ _ H _ I h => wpAny_Constant_int ⟨.int i, H, I.tok _, ⟨_, rfl⟩, h⟩
theorem pe_bl {b j pos} : PE X (.Constant (.bool b) j pos) (tC (.bl b)) := fun _ _ _ H _ I h => Constant_bool ⟨.bl b, H, I, rfl, h⟩
theorem pe_non {j pos} : PE X (.Constant .none j pos) (tC .non) := fun _ _ _ H _ I h => Constant_none ⟨.non, H, I, rfl, h⟩
theorem pe_str {x j pos} : PE X (.Constant (.str x) j pos) (tC (.str x)) := fun _ _ _ H _ I h => Calls.Constant_str ⟨.str x, H, I.tok _, ⟨_, rfl⟩, h⟩
def Gl (X : Cx) (x : Str) : Prop := X.env.kindOf x = some .globalImplicit
theorem ld_glob {E : Value → Shared → Prop} {pins : List (Addr × Obj)} {s : Shared} {σ : St} {H : Hp} {x : Str} {u : Value} {pos : Pos} {Q : Value → Shared → Prop} (I : Inv X pins σ H s) (hg : Gl X x) (hm : X.mg x = some u) (h : Q u s)
  (hd : (x == ("__debug__" : Str)) = false := by decide) : wpAny (model X.prog X.w) X.A (eval (.Name x pos) X.env) Q E s :=
 Calls.Name_function_global I.ok.kind hg (Calls.loadGlobal_global (by rw [I.ok.glob]; exact I.mod.glob.keeps I.bk) hm h) hd
theorem ld_blt {E : Value → Shared → Prop} {pins : List (Addr × Obj)} {s : Shared} {σ : St} {H : Hp} {x : Str} {u : Value} {pos : Pos} {Q : Value → Shared → Prop} (I : Inv X pins σ H s) (hg : Gl X x) (hm : X.mg x = none) (hv : bootBuiltins x = some u) (h : Q u s)
  (hn : x ≠ "__name__" := by decide) (hd : (x == ("__debug__" : Str)) = false := by decide) : wpAny (model X.prog X.w) X.A (eval (.Name x pos) X.env) Q E s := by
 obtain ⟨mb, h1, h2⟩ := I.mod.blt
 exact Calls.Name_function_global I.ok.kind hg (Calls.loadGlobal_builtin (by rw [I.ok.glob]; exact I.mod.glob.keeps I.bk) hm (by rw [I.ok.blt]; exact h1.keeps I.bk) ((h2 x hn).trans hv) h) hd
theorem pe_glob {x : Str} {v : V} {u : Value} {pos : Pos} (hg : Gl X x) (hm : X.mg x = some u) (r : RelV v u) (hd : (x == ("__debug__" : Str)) = false := by decide) : PE X (.Name x pos) (tC v) :=
 fun _ _ _ H _ I h => ld_glob I hg hm ⟨v, H, I, r, h⟩ hd
variable {a b : Expr} {ta tb : TE} {pos : Pos}
def PC (X : Cx) (op : CmpOp) (a b : Expr) (t : TE) : Prop :=
 ∀ (pins : List (Addr × Obj)) (s : Shared) (σ : St) (H : Hp) (Q : VK), Inv X pins σ H s → t σ H Q →
  wpAny (model X.prog X.w) X.A (eval a X.env) (fun v s₁ => wpAny (model X.prog X.w) X.A (eval b X.env) (fun u s₂ => wpAny (model X.prog X.w) X.A (compareOp op v u) (EP X pins σ Q) X.xe s₂) X.xe s₁) X.xe s
theorem nobehind (b : Expr) {op : CmpOp} (h : op ≠ .In) (h2 : op ≠ .NotIn) : behindInMarks op b = false := by
 have e1 : (op == CmpOp.In) = false := by cases op <;> first | rfl | exact absurd rfl h
 have e2 : (op == CmpOp.NotIn) = false := by cases op <;> first | rfl | exact absurd rfl h2
 cases b <;> simp [behindInMarks, e1, e2]
noncomputable def tB (t : TE) : TT := fun σ H Q => t σ H fun x H1 => ∃ c, x = .bl c ∧ Q c H1
theorem pt_cmp {op : CmpOp} {t : TE} (h : PC X op a b t) (h1 : behindInMarks op b = false := by first | exact nobehind _ (by decide) (by decide) | rfl) : PT X (.Compare a [op] [b] pos) (tB t) := by
 intro pins s σ H Q I hw
 refine wpAny_isTrue_Compare1 (thn (h pins s σ H _ I hw) fun v s1 h1 => thn h1 fun u s2 h2 => thn h2 fun c s3 hq_ => ?_) h1
 obtain ⟨x, H1, I1, r1, q1⟩ := hq_
 obtain ⟨d, rfl, q⟩ := q1
 cases r1
 exact wpAny_truthy_bool ⟨H1, I1, q⟩
variable {tA tB' : TT} {rest : List Expr}
noncomputable def tAnd (t u : TT) : TT := fun σ H Q => t σ H fun c H1 => if c = true then u σ H1 Q else Q false H1
noncomputable def tOr (t u : TT) : TT := fun σ H Q => t σ H fun c H1 => if c = true then Q true H1 else u σ H1 Q
noncomputable def tNot (t : TT) : TT := fun σ H Q => t σ H fun c H1 => Q (!c) H1
theorem pw_and1 (ha : PT X a tA) : PW X (.BoolOp .And [a] pos) tA := by
 intro wh pins s σ H Q I h
 refine isTrue_and (thn (ha pins s σ H Q I h) fun c s1 e => ?_)
 cases c with
 | true => exact isTrue_and_nil e
 | false => exact e
theorem pw_or1 (ha : PT X a tA) : PW X (.BoolOp .Or [a] pos) tA := by
 intro wh pins s σ H Q I h
 refine isTrue_or (thn (ha pins s σ H Q I h) fun c s1 e => ?_)
 cases c with
 | false => exact isTrue_or_nil e
 | true => exact e
theorem pw_and (ha : PT X a tA) (hb : PW X (.BoolOp .And (b :: rest) pos) tB') : PW X (.BoolOp .And (a :: b :: rest) pos) (tAnd tA tB') := by
 intro wh pins s σ H Q I h
 refine isTrue_and (thn (ha pins s σ H _ I h) fun c s1 hq_ => ?_)
 obtain ⟨H1, I1, q1⟩ := hq_
 cases c with
 | true => exact hb wh pins s1 σ H1 Q I1 q1
 | false => exact ⟨H1, I1, q1⟩
theorem pw_or (ha : PT X a tA) (hb : PW X (.BoolOp .Or (b :: rest) pos) tB') : PW X (.BoolOp .Or (a :: b :: rest) pos) (tOr tA tB') := by
 intro wh pins s σ H Q I h
 refine isTrue_or (thn (ha pins s σ H _ I h) fun c s1 hq_ => ?_)
 obtain ⟨H1, I1, q1⟩ := hq_
 cases c with
 | true => exact ⟨H1, I1, q1⟩
 | false => exact hb wh pins s1 σ H1 Q I1 q1
theorem pt_not (ha : PT X a tA) : PT X (.UnaryOp .Not a pos) (tNot tA) := by
 intro pins s σ H Q I h
 exact isTrue_not (ha pins s σ H (fun c H1 => Q (!c) H1) I h)
noncomputable def tAndV (ta tb : TE) : TE := fun σ H Q => ta σ H fun x H1 => ∃ c, x = .bl c ∧ if c = true then tb σ H1 Q else Q (.bl false) H1
theorem pe_one {op} {t : TE} (h : PE X a t) : PE X (.BoolOp op [a] pos) t := fun pins s σ H Q I hw => BoolOp_one (h pins s σ H Q I hw)
theorem pe_and (ha : PE X a ta) (hb : PE X (.BoolOp .And (b :: rest) pos) tb) : PE X (.BoolOp .And (a :: b :: rest) pos) (tAndV ta tb) := by
 intro pins s σ H Q I h
 refine BoolOp_and (thn (ha pins s σ H _ I h) fun v s1 hq_ => ?_)
 obtain ⟨x, H1, I1, r1, q1⟩ := hq_
 obtain ⟨c, rfl, q1⟩ := q1
 cases r1
 refine wpAny_truthy_bool ?_
 cases c with
 | true => exact hb pins s1 σ H1 Q I1 q1
 | false => exact ⟨.bl false, H1, I1, rfl, q1⟩
noncomputable def tIf (t : TT) (ta tb : TE) : TE := fun σ H Q => t σ H fun c H1 => if c = true then ta σ H1 Q else tb σ H1 Q
theorem pe_ifExp {c : Expr} (hc : PT X c tA) (ha : PE X a ta) (hb : PE X b tb) : PE X (.IfExp c a b pos) (tIf tA ta tb) := by
 intro pins s σ H Q I h
 refine wpAny_IfExp (thn (hc pins s σ H _ I h) fun d s1 hq_ => ?_)
 obtain ⟨H1, I1, q1⟩ := hq_
 cases d with
 | true => exact ha pins s1 σ H1 Q I1 q1
 | false => exact hb pins s1 σ H1 Q I1 q1
end
end L2
namespace L2
open PySem PySem.Spec PyProof.Rows
def SqL (K : PySem.W.Frag) (H : Hp) (a : Addr) (xs : List V) : Prop :=
 Rd H a (.lst xs) ∨
  ∃ (o : Obj) (its : Array Value) (n : Nat), K.lookup a = some o ∧ o.cls = .type "list" ∧ o.dict = none ∧ o.data = .seq its n ∧ its.size ≤ sizeLine ∧ Vals xs its.toList
def SqT (K : PySem.W.Frag) (H : Hp) (a : Addr) (xs : List V) : Prop :=
 Rd H a (.tup xs) ∨
  ∃ (o : Obj) (its : Array Value) (n : Nat), K.lookup a = some o ∧ o.cls = .type "tuple" ∧ o.data = .seq its n ∧ its.size ≤ sizeLine ∧ Vals xs its.toList
noncomputable def absV : Value → Option V
 | .none => some .non
 | .bool b => some (.bl b)
 | .int i _ => some (.int i)
 | .str x _ => some (.str x)
 | .bytes b _ => some (.byt b)
 | .float b _ => some (.flt b)
 | .ref a => some (.ref a)
 | .type n => some (.ty n)
 | _ => none
theorem RelV.abs {x : V} {u : Value} (r : RelV x u) : absV u = some x := by
 cases x with
 | non => cases r; rfl
 | bl _ => cases r; rfl
 | int _ => obtain ⟨t, rfl⟩ := r; rfl
 | str _ => obtain ⟨t, rfl⟩ := r; rfl
 | byt _ => obtain ⟨t, rfl⟩ := r; rfl
 | flt _ => obtain ⟨t, rfl⟩ := r; rfl
 | ref _ => cases r; rfl
 | ty _ => cases r; rfl
theorem RelV.inj {x y : V} {u : Value} (r : RelV x u) (q : RelV y u) : x = y := Option.some.inj (r.abs.symm.trans q.abs)
theorem Vals.inj {xs ys : List V} {us : List Value} (h : Vals xs us) (k : Vals ys us) : xs = ys := by
 induction h generalizing ys with
 | nil => cases k; rfl
 | cons r _ ih => cases k with | cons r' t' => rw [r.inj r', ih t']
section
variable {X : Cx} {pins : List (Addr × Obj)} {σ : St} {H : Hp} {s : Shared} {a : Addr} {xs ys : List V}
theorem SqL.of {K : PySem.W.Frag} (h : H a = some (.lst xs)) : SqL K H a xs := .inl (.inl h)
theorem SqT.of {K : PySem.W.Frag} (h : H a = some (.tup xs)) : SqT K H a xs := .inl (.inl h)
theorem Inv.list (I : Inv X pins σ H s) (h : SqL X.K H a xs) : ∃ its : List Value, Vals xs its ∧ PlainL s.heap a its.toArray ∧ xs.length ≤ sizeLine := by
 rcases h with h | ⟨o, its, n, hk, hc, hd, hs, hz, r⟩
 ·obtain ⟨z, its, n, r, e⟩ := h.ok I.hok
  exact ⟨its, r, ⟨_, n, e, rfl, rfl, rfl⟩, z⟩
 ·refine ⟨its.toList, r, ⟨o, n, I.kIn a o hk, hc, hd, by simpa using hs⟩, ?_⟩
  have e := r.length
  simp only [Array.length_toList] at e
  omega
theorem Inv.tuple (I : Inv X pins σ H s) (h : SqT X.K H a xs) : ∃ its : List Value, Vals xs its ∧ IsTup s.heap a its.toArray ∧ xs.length ≤ sizeLine := by
 rcases h with h | ⟨o, its, n, hk, hc, hs, hz, r⟩
 ·obtain ⟨z, its, r, p⟩ := h.ok I.hok
  exact ⟨its, r, p, z⟩
 ·refine ⟨its.toList, r, ⟨o, I.kIn a o hk, hc, n, by simpa using hs⟩, ?_⟩
  have e := r.length
  simp only [Array.length_toList] at e
  omega
theorem Inv.list_inj (I : Inv X pins σ H s) (h : SqL X.K H a xs) (h' : SqL X.K H a ys) : xs = ys := by
 obtain ⟨its, r, ⟨o, n, e, _, _, d⟩, _⟩ := I.list h
 obtain ⟨its', r', ⟨o', n', e', _, _, d'⟩, _⟩ := I.list h'
 rw [e] at e'; cases e'
 rw [d] at d'
 injection d' with d1 _
 have : its = its' := by simpa using congrArg Array.toList d1
 subst this
 exact r.inj r'
theorem Inv.tuple_inj (I : Inv X pins σ H s) (h : SqT X.K H a xs) (h' : SqT X.K H a ys) : xs = ys := by
 obtain ⟨its, r, ⟨o, e, _, n, d⟩, _⟩ := I.tuple h
 obtain ⟨its', r', ⟨o', e', _, n', d'⟩, _⟩ := I.tuple h'
 rw [e] at e'; cases e'
 rw [d] at d'
 injection d' with d1 _
 have : its = its' := by simpa using congrArg Array.toList d1
 subst this
 exact r.inj r'
end
noncomputable abbrev Cx.wish (X : Cx) (E : Value → Shared → Prop) : Cx := { X with xe := E }
noncomputable abbrev Cx.nox (X : Cx) : Cx := X.wish fun _ _ => False
theorem Cx.Ok.wish {X : Cx} (ok : X.Ok) (E : Value → Shared → Prop) : (X.wish E).Ok :=
 ⟨ok.mod, ok.kind, ok.glob, ok.blt, ok.above, ok.inj, ok.has, ok.cab, ok.hd, ok.frames, ok.stk, ok.exf, ok.bs, ok.bsz, ok.noex, ok.exfs, ok.funs, ok.frf⟩
theorem Cx.Ok.unwish {X : Cx} {E : Value → Shared → Prop} (ok : (X.wish E).Ok) : X.Ok :=
 ⟨ok.mod, ok.kind, ok.glob, ok.blt, ok.above, ok.inj, ok.has, ok.cab, ok.hd, ok.frames, ok.stk, ok.exf, ok.bs, ok.bsz, ok.noex, ok.exfs, ok.funs, ok.frf⟩
section
variable {X : Cx} {pins : List (Addr × Obj)} {σ : St} {H : Hp} {s : Shared} {E : Value → Shared → Prop}
theorem Inv.wish (I : Inv X pins σ H s) (E : Value → Shared → Prop) : Inv (X.wish E) pins σ H s := ⟨I.ok.wish E, I.os, I.bare, I.base, I.loc, I.cell, I.free, I.freeC, I.pin, I.hok, I.len⟩
theorem Inv.unwish (I : Inv (X.wish E) pins σ H s) : Inv X pins σ H s := ⟨I.ok.unwish, I.os, I.bare, I.base, I.loc, I.cell, I.free, I.freeC, I.pin, I.hok, I.len⟩
theorem SP.unwish {D : Ends} {f : Flow} {s' : Shared} (h : SP (X.wish E) pins D f s') : SP X pins D f s' := by
 cases f with
 | next => obtain ⟨σ', H', I, q⟩ := h; exact ⟨σ', H', I.unwish, q⟩
 | brk => obtain ⟨σ', H', I, q⟩ := h; exact ⟨σ', H', I.unwish, q⟩
 | cont => obtain ⟨σ', H', I, q⟩ := h; exact ⟨σ', H', I.unwish, q⟩
 | ret u => obtain ⟨v, σ', H', I, r, q⟩ := h; exact ⟨v, σ', H', I.unwish, r, q⟩
theorem PSs.nox {st : List Stmt} {t : TS} (h : PSs X.nox st t) : PSs X st t := fun pins s σ H D I hw =>
 wpAny_mono (h pins s σ H D (I.wish _) hw) (fun _ _ q => q.unwish) fun _ _ z => False.elim z
end
section
variable {X : Cx} {st : Stmt} {rest : List Stmt} {t u : TS} {e : Expr} {te : TE} {pos : Pos}
noncomputable def tNext : TS := fun D σ H => D.nx σ H
noncomputable def tSeq (t u : TS) : TS := fun D σ H => t { D with nx := u D } σ H
theorem pss_nil : PSs X [] tNext := fun _ _ σ H _ I h => wpAny_execs_nil ⟨σ, H, I, h⟩
theorem pss_cons (h1 : PS X st t) (h2 : PSs X rest u) : PSs X (st :: rest) (tSeq t u) := by
 intro pins s σ H D I h
 refine wpAny_execs_cons (thn (h1 pins s σ H { D with nx := u D } I h) fun f s1 q => ?_)
 cases f with
 | next =>
  obtain ⟨σ', H', I', q⟩ := q
  exact h2 pins s1 σ' H' D I' q
 | ret v => exact q
 | brk => exact q
 | cont => exact q
theorem pss_one (h1 : PS X st t) : PSs X [st] t := by
 intro pins s σ H D I h
 refine wpAny_execs_cons (thn (h1 pins s σ H D I h) fun f s1 q => ?_)
 cases f with
 | next => exact wpAny_execs_nil q
 | ret v => exact q
 | brk => exact q
 | cont => exact q
theorem Inv.quiet {pins : List (Addr × Obj)} {σ : St} {H : Hp} {s : Shared} (I : Inv X pins σ H s) : interactive X.env = false := by simp [interactive, I.ok.kind]
noncomputable def tDrop (te : TE) : TS := fun D σ H => te σ H fun _ H1 => D.nx σ H1
theorem ps_expr (he : PE X e te) (hs : swapsWith e none pos.line X.env = pure false := by rfl) : PS X (.Expr e pos) (tDrop te) := by
 intro pins s σ H D I h
 refine wpAny_Expr_any (thn (he pins s σ H _ I h) fun v s1 hq_ => ?_) I.quiet hs
 obtain ⟨x, H1, I1, r1, q1⟩ := hq_
 exact ⟨σ, H1, I1, q1⟩
noncomputable def tRet (te : TE) : TS := fun D σ H => te σ H D.rt
theorem ps_ret (he : PE X e te) : PS X (.Return (some e) pos) (tRet te) := by
 intro pins s σ H D I h
 refine wpAny_Return_some (thn (he pins s σ H _ I h) fun v s1 hq_ => ?_)
 obtain ⟨x, H1, I1, r1, q1⟩ := hq_
 exact ⟨x, σ, H1, I1, r1, q1⟩
noncomputable def tIfS (c : TT) (t u : TS) : TS := fun D σ H => c σ H fun b H1 => if b = true then t D σ H1 else u D σ H1
theorem ps_if {c : Expr} {a b : List Stmt} {tc : TT} (hc : PT X c tc) (ha : PSs X a t) (hb : PSs X b u) : PS X (.If c a b pos) (tIfS tc t u) := by
 intro pins s σ H D I h
 refine wpAny_If (thn (hc pins s σ H _ I h) fun d s1 hq_ => ?_)
 obtain ⟨H1, I1, q1⟩ := hq_
 cases d with
 | true => exact ha pins s1 σ H1 D I1 q1
 | false => exact hb pins s1 σ H1 D I1 q1
end
noncomputable abbrev TG := V → St → Hp → (St → Hp → Prop) → Prop
noncomputable abbrev TGs := List V → St → Hp → (St → Hp → Prop) → Prop
def PG (X : Cx) (target : Expr) (t : TG) : Prop :=
 ∀ (pins : List (Addr × Obj)) (s : Shared) (σ : St) (H : Hp) (v : V) (u : Value) (Q : St → Hp → Prop), Inv X pins σ H s → RelV v u → t v σ H Q →
  wpAny (model X.prog X.w) X.A (assign target X.env u) (fun _ s' => ∃ σ' H', Inv X pins σ' H' s' ∧ Q σ' H') X.xe s
def PGs (X : Cx) (ts : List Expr) (t : TGs) : Prop :=
 ∀ (pins : List (Addr × Obj)) (s : Shared) (σ : St) (H : Hp) (vs : List V) (us : List Value) (Q : St → Hp → Prop), Inv X pins σ H s → Vals vs us → t vs σ H Q →
  wpAny (model X.prog X.w) X.A (assignInOrder ((assignEach ts X.env).map (·.2)) us) (fun _ s' => ∃ σ' H', Inv X pins σ' H' s' ∧ Q σ' H') X.xe s
noncomputable abbrev TSet := V → V → V → Hp → (Hp → Prop) → Prop
def PSet (X : Cx) (t : TSet) : Prop :=
 ∀ (pins : List (Addr × Obj)) (s : Shared) (σ : St) (H : Hp) (o i v : V) (ov iv u : Value) (Q : Hp → Prop), Inv X pins σ H s → RelV o ov → RelV i iv → RelV v u → t o i v H Q →
  wpAny (model X.prog X.w) X.A (setItem ov iv u) (fun _ s' => ∃ H', Inv X pins σ H' s' ∧ Q H') X.xe s
noncomputable abbrev TIp := V → V → Hp → VK → Prop
def PIp (X : Cx) (op : Operator) (t : TIp) : Prop :=
 ∀ (pins : List (Addr × Obj)) (s : Shared) (σ : St) (H : Hp) (x y : V) (v u : Value) (Q : VK), Inv X pins σ H s → RelV x v → RelV y u → t x y H Q →
  wpAny (model X.prog X.w) X.A (inplaceOp op v u) (EP X pins σ Q) X.xe s
section
variable {X : Cx} {pos : Pos}
noncomputable def gName (i : Nat) : TG := fun v σ H Q => Q (σ.set i (some v)) H
theorem pg_name {i : Nat} {x : Str} (hN : X.N.Nodup) (hi : X.N[i]? = some x) (hx : Loc X.env.scope x) (hf : X.fn x = true ∨ X.env.scope.names.lookup x = some .local := by first | exact .inl rfl | exact .inr rfl | assumption) : PG X (.Name x pos) (gName i) := by
 intro pins s σ H v u Q I r h
 exact wpAny_assign_Name (store_ok I hN hi hx r (fun s' I' => ⟨_, H, I', h⟩) hf)
noncomputable def gNil : TGs := fun vs σ H Q => vs = [] ∧ Q σ H
noncomputable def gCons (t : TG) (u : TGs) : TGs := fun vs σ H Q => ∃ v r, vs = v :: r ∧ t v σ H fun σ' H' => u r σ' H' Q
theorem pgs_nil : PGs X [] gNil := by
 intro pins s σ H vs us Q I r h
 obtain ⟨e, h⟩ := h
 subst e
 cases r
 exact assignInOrder_nil ⟨σ, H, I, h⟩
theorem pgs_cons {e : Expr} {es : List Expr} {t : TG} {u : TGs} (h1 : PG X e t) (h2 : PGs X es u)
  (hs : (assignEach (e :: es) X.env).map (·.2) = assign e X.env :: (assignEach es X.env).map (·.2) := by rfl) : PGs X (e :: es) (gCons t u) := by
 intro pins s σ H vs us Q I r h
 obtain ⟨v, vr, e1, h⟩ := h
 subst e1
 cases r with
 | cons r rr =>
  rw [hs]
  refine assignInOrder_cons (thn (h1 pins s σ H _ _ _ I r h) fun _ s1 hq_ => ?_)
  obtain ⟨σ1, H1, I1, q1⟩ := hq_
  exact h2 pins s1 σ1 H1 _ _ Q I1 rr q1
noncomputable def gTup (K : PySem.W.Frag) (n : Nat) (t : TGs) : TG := fun v σ H Q => ∃ a xs, v = .ref a ∧ SqT K H a xs ∧ xs.length = n ∧ t xs σ H Q
theorem pg_tup {es : List Expr} {k : Nat} {t : TGs} {n : Nat} (hc : X.calm = true) (h : PGs X es t)
  (hn : (assignEach es X.env).length = n := by rfl) (hst : (assignEach es X.env).findIdx? (·.1) = none := by rfl) : PG X (.Tuple es k pos) (gTup X.K n t) := by
 intro pins s σ H v u Q I r hw
 obtain ⟨a, xs, e1, hq, hl, hw⟩ := hw
 subst e1
 cases r
 obtain ⟨its, rv, ht, hz⟩ := I.tuple hq
 refine assign_Tuple_tuple (I.ok.hd hc) ht (by simp [hn, ← hl, rv.length]) hst fun h' hx => ?_
 have I1 : Inv X pins σ H { s with heap := h' } := I.kept (t' := s.toks) fun b o e => hx b o (Nat.ne_of_lt (Heap.lt_size e)) e
 exact h pins _ σ H xs _ Q I1 (by simpa using rv) hw
noncomputable def gSub (to ti : TE) (t : TSet) : TG := fun v σ H Q => to σ H fun o H1 => ti σ H1 fun i H2 => t o i v H2 fun H3 => Q σ H3
theorem pg_sub {o i : Expr} {to ti : TE} {t : TSet} (ho : PE X o to) (hi : PE X i ti) (hs : PSet X t)
  (ha : ∀ v, assign (.Subscript o i pos) X.env v = (do
   let ov ← holding [v] (eval o X.env)
   let iv ← holding [v, ov] (eval i X.env)
   standAt pos
   holding [v, ov, iv] (setItem ov iv v)
   release [v, ov, iv] []) := by intro _; rfl) : PG X (.Subscript o i pos) (gSub to ti t) := by
 intro pins s σ H v u Q I r h
 rw [ha]
 refine wpAny_bind (wpAny_holding (thn (ho pins s σ H _ I h) fun ov s1 hq_ => ?_))
 obtain ⟨x, H1, I1, r1, q1⟩ := hq_
 refine wpAny_bind (wpAny_holding (thn (hi pins s1 σ H1 _ I1 q1) fun iv s2 hq_ => ?_))
 obtain ⟨y, H2, I2, r2, q2⟩ := hq_
 refine wpAny_bind (wpAny_standAt (wpAny_bind (wpAny_holding (thn (hs pins s2 σ H2 x y v ov iv u _ I2 r1 r2 r q2) fun _ s3 hq_ => ?_))))
 obtain ⟨H3, I3, q3⟩ := hq_
 exact wpAny_release ⟨σ, H3, I3, q3⟩
noncomputable def tAsg (te : TE) (g : TG) : TS := fun D σ H => te σ H fun x H1 => g x σ H1 D.nx
theorem ps_asg {tg e : Expr} {te : TE} {g : TG} (he : PE X e te) (hg : PG X tg g) (hs : swapsWithSole [tg] e pos.line X.env = pure false := by rfl) (hw : swappedStores [tg] e X.env = pure none := by rfl)
  (h1 : (assignEach [tg] X.env).map (·.2) = [assign tg X.env] := by rfl) : PS X (.Assign [tg] e pos) (tAsg te g) := by
 intro pins s σ H D I h
 refine wpAny_Assign_stores (thn (he pins s σ H _ I h) fun v s1 hq_ => ?_) hs hw
 obtain ⟨x, H1, I1, r1, q1⟩ := hq_
 rw [h1]
 exact thn (hg pins s1 σ H1 x v _ I1 r1 q1) fun _ s2 q => q
theorem ps_set {i : Nat} {x : Str} {e : Expr} {te : TE} {pos' : Pos} (hN : X.N.Nodup) (hi : X.N[i]? = some x) (hx : Loc X.env.scope x) (he : PE X e te) (hs : swapsWith e (some (.Name x pos')) pos.line X.env = pure false := by rfl) (hf : X.fn x = true ∨ X.env.scope.names.lookup x = some .local := by first | exact .inl rfl | exact .inr rfl | assumption) :
  PS X (.Assign [.Name x pos'] e pos) (tAsg te (gName i)) := by
 intro pins s σ H D I h
 refine wpAny_Assign_Name (thn (he pins s σ H _ I h) fun v s1 hq_ => ?_) hs
 obtain ⟨y, H1, I1, r1, q1⟩ := hq_
 exact store_ok I1 hN hi hx r1 (fun s2 I2 => ⟨_, H1, I2, q1⟩) hf
noncomputable def tPar (i j : Nat) (ta : TA) : TS := fun D σ H => ta σ H fun vs H1 => ∃ v w, vs = [v, w] ∧ D.nx ((σ.set i (some v)).set j (some w)) H1
theorem ps_par {i j : Nat} {x y : Str} {a b : Expr} {ta : TA} {px py pt : Pos} {kt k2 pt2} (hc : X.calm = true) (hN : X.N.Nodup) (hi : X.N[i]? = some x) (hj : X.N[j]? = some y) (hij : i ≠ j)
  (hx : X.env.scope.names.lookup x = some .local) (hy : X.env.scope.names.lookup y = some .local) (ha : PA X [a, b] ta)
  (hw : swappedStores [.Tuple [.Name x px, .Name y py] kt pt] (.Tuple [a, b] k2 pt2) X.env = pure (some [x, y]))
  (hs : swapsWithSole [.Tuple [.Name x px, .Name y py] kt pt] (.Tuple [a, b] k2 pt2) pos.line X.env = pure false := by rfl) :
  PS X (.Assign [.Tuple [.Name x px, .Name y py] kt pt] (.Tuple [a, b] k2 pt2) pos) (tPar i j ta) := by
 intro pins s σ H D I h
 rw [exec_Assign_arm]
 refine wpAny_bind (wpAny_standAt ?_)
 rw [hs]
 refine wpAny_bind (wpAny_pure ?_)
 rw [if_neg (by decide)]
 refine wpAny_bind (Tuple_ (thn (ha _ pins s σ H _ I h) fun us s1 hq_ => ?_))
 obtain ⟨vs, H1, I1, r1, q1⟩ := hq_
 obtain ⟨v, w, e1, q1⟩ := q1
 subst e1
 obtain ⟨u1, u2, rfl, rv, rw'⟩ : ∃ u1 u2, us = [u1, u2] ∧ RelV v u1 ∧ RelV w u2 := by
  cases r1 with
  | cons p q =>
   cases q with
   | cons p' q' =>
    cases q'
    exact ⟨_, _, rfl, p, p'⟩
 refine wpAny_newObj_type ?_ (by show 2 ≤ sizeLine; decide)
 have I2 : Inv X pins σ H1 { s1 with heap := s1.heap.push { cls := .type "tuple", data := .seq [u1, u2].toArray } } := I1.kept (t' := s1.toks) fun b o e => Heap.get?_push_of_some _ e
 rw [hw]
 refine wpAny_bind (wpAny_pure ?_)
 show wpAny (model X.prog X.w) X.A (do rule "assign.swapped-stores"; let items ← unpackItems (.ref s1.heap.objs.size) 2 none; assignInOrder [fun v => bindName X.env y v, fun v => bindName X.env x v] items.reverse; pure Flow.next) _ _ _
 refine wpAny_bind (wpAny_rule (wpAny_bind (unpackItems_tuple (items := #[u1, u2]) (I.ok.hd hc) (IsTup.new s1.heap _) fun h' hx' => ?_)))
 have I3 := I2.kept (h' := h') (t' := s1.toks) fun b o e => hx' b o (Nat.ne_of_lt (Heap.lt_size e)) e
 show wpAny _ _ (assignInOrder [fun v => bindName X.env y v, fun v => bindName X.env x v] [u2, u1] >>= fun _ => pure Flow.next) _ _ _
 refine wpAny_bind (assignInOrder_cons (wpAny_bindName (store_ok I3 hN hj (.inl hy) rw' (fun s2 I4 => ?_) (.inr hy))))
 refine assignInOrder_cons (wpAny_bindName (store_ok I4 hN hi (.inl hx) rv (fun s3 I5 => assignInOrder_nil (wpAny_pure ?_)) (.inr hx)))
 rw [List.set_comm _ _ (Ne.symm hij)] at I5
 exact ⟨_, H1, I5, q1⟩
noncomputable def tAugS (to ti te : TE) (tget : V → V → Hp → VK → Prop) (tip : TIp) (tset : TSet) : TS := fun D σ H => to σ H fun o H1 => ti σ H1 fun i H2 => tget o i H2 fun x H3 => te σ H3 fun y H4 => tip x y H4 fun z H5 => tset o i z H5 fun H6 => D.nx σ H6
def PGet (X : Cx) (t : V → V → Hp → VK → Prop) : Prop :=
 ∀ (pins : List (Addr × Obj)) (s : Shared) (σ : St) (H : Hp) (o i : V) (ov iv : Value) (Q : VK), Inv X pins σ H s → RelV o ov → RelV i iv → t o i H Q →
  wpAny (model X.prog X.w) X.A (getItem ov iv) (EP X pins σ Q) X.xe s
theorem ps_augS {o i e : Expr} {to ti te : TE} {tget : V → V → Hp → VK → Prop} {tip : TIp} {tset : TSet} {op : Operator} {tpos : Pos} (ho : PE X o to) (hi : PE X i ti) (hg : PGet X tget) (he : PE X e te) (hp : PIp X op tip) (hs : PSet X tset)
  (ha : ∀ ov iv new, augStore i ov iv new = (do holding [new, ov, iv] (setItem ov iv new); release [new, ov, iv] []; pure .next) := by intros; rfl) : PS X (.AugAssign (.Subscript o i tpos) op e pos) (tAugS to ti te tget tip tset) := by
 intro pins s σ H D I h
 refine wpAny_AugAssign_SubscriptAny (thn (ho pins s σ H _ I h) fun ov s1 hq_ => ?_) ha
 obtain ⟨x1, H1, I1, r1, q1⟩ := hq_
 refine thn (hi pins s1 σ H1 _ I1 q1) fun iv s2 hq_ => ?_
 obtain ⟨x2, H2, I2, r2, q2⟩ := hq_
 refine thn (hg pins s2 σ H2 x1 x2 ov iv _ I2 r1 r2 q2) fun old s3 hq_ => ?_
 obtain ⟨x3, H3, I3, r3, q3⟩ := hq_
 refine thn (he pins s3 σ H3 _ I3 q3) fun v s4 hq_ => ?_
 obtain ⟨x4, H4, I4, r4, q4⟩ := hq_
 refine thn (hp pins s4 σ H4 x3 x4 old v _ I4 r3 r4 q4) fun new s5 hq_ => ?_
 obtain ⟨x5, H5, I5, r5, q5⟩ := hq_
 refine thn (hs pins s5 σ H5 x1 x2 x5 ov iv new _ I5 r1 r2 r5 q5) fun _ s6 hq_ => ?_
 obtain ⟨H6, I6, q6⟩ := hq_
 exact ⟨σ, H6, I6, q6⟩
noncomputable def ipI (f : Int → Int → Int) : TIp := fun x y H Q => ∃ i j, x = .int i ∧ y = .int j ∧ Q (.int (f i j)) H
theorem ip_add : PIp X .Add (ipI fun i j => i + j) := by
 intro pins s σ H x y v u Q I r1 r2 h
 obtain ⟨i, j, e1, e2, q⟩ := h
 subst e1; subst e2
 obtain ⟨t, rfl⟩ := r1
 obtain ⟨t', rfl⟩ := r2
 exact iadd_int ⟨.int _, H, I.tok _, ⟨_, rfl⟩, q⟩
end
section
variable {X : Cx} {pos : Pos}
noncomputable def tWhile (c : TT) (tb : TS) : TS := fun D σ H => ∃ W : Nat → St → Hp → Prop, (∃ m, W m σ H) ∧ ∀ m σ H, W m σ H →
 c σ H fun b H1 => if b = true then ∃ N : St → Hp → Prop, (∀ σ' H', N σ' H' → ∃ m', m' < m ∧ W m' σ' H') ∧ tb { D with nx := N, ct := N, bk := D.nx } σ H1 else D.nx σ H1
theorem ps_while {c : Expr} {body : List Stmt} {tc : TT} {tb : TS} (hp : PassesOwn (model X.prog X.w) X.A X.env X.xe) (hc : PT X c tc) (hb : PSs X body tb) : PS X (.While c body [] pos) (tWhile tc tb) := by
 intro pins s σ H D I h
 obtain ⟨W, ⟨m0, w0⟩, turn⟩ := h
 refine wpAny_While (codeAny_whileLoop (fun n s' => ∃ σ' H', Inv X pins σ' H' s' ∧ W n σ' H') ?_ m0 ⟨σ, H, I, w0⟩)
 rintro n s1 ⟨σ1, H1, I1, w1⟩
 refine wpAny_passesOwn hp (thn (hc pins s1 σ1 H1 _ I1 (turn n σ1 H1 w1)) fun b s2 hq_ => ?_)
 obtain ⟨H2, I2, q2⟩ := hq_
 cases b with
 | true =>
  obtain ⟨N, hN, q2⟩ := q2
  rw [if_pos rfl]
  refine wpAny_passesOwn hp (thn (hb pins s2 σ1 H2 _ I2 q2) fun f s3 q3 => ?_)
  cases f with
  | next =>
   obtain ⟨σ3, H3, I3, n3⟩ := q3
   obtain ⟨m', hm, w3⟩ := hN σ3 H3 n3
   exact ⟨m', hm, σ3, H3, I3, w3⟩
  | cont =>
   obtain ⟨σ3, H3, I3, n3⟩ := q3
   obtain ⟨m', hm, w3⟩ := hN σ3 H3 n3
   exact ⟨m', hm, σ3, H3, I3, w3⟩
  | brk => exact q3
  | ret v => exact q3
 | false =>
  rw [if_neg Bool.false_ne_true]
  exact wpAny_execs_nil ⟨σ1, H2, I2, q2⟩
end
structure It where
 go : Nat → Hp → Prop
 yld : Nat → Hp → V → Hp → Prop
 stop : Nat → Hp → Prop
def FpOk (X : Cx) (pins : List (Addr × Obj)) (H : Hp) (b : Addr) : Prop :=
 H b = none ∧ b ≠ X.env.locals ∧ b ∉ X.fs ∧ (b ∈ X.ex ∨ X.s₀.heap.objs.size ≤ b) ∧ (∀ x c, X.env.cells.lookup x = some c → c ≠ b) ∧ ∀ p ∈ X.pn ++ pins, p.1 ≠ b
theorem Inv.fpOk {X : Cx} {pins : List (Addr × Obj)} {σ : St} {H H' : Hp} {s : Shared} {b : Addr} (I : Inv X pins σ H s) (hb : s.heap.objs.size ≤ b) (hn : H' b = none) : FpOk X pins H' b := by
 refine ⟨hn, Nat.ne_of_gt (Nat.lt_of_lt_of_le I.lt hb), I.nofs hb, .inr (Nat.le_trans I.sz hb), fun x c e z => ?_, fun p hp z => ?_⟩
 ·obtain ⟨v, q⟩ := I.cell x c e
  exact absurd (Nat.lt_of_lt_of_le q.lt (by rw [z]; exact hb)) (Nat.lt_irrefl _)
 ·exact absurd (Nat.lt_of_lt_of_le (Heap.lt_size (I.pin p hp).1) (by rw [z]; exact hb)) (Nat.lt_irrefl _)
structure Turn (P : Program) (w : World) (K : PySem.W.Frag) (tg : Expr) (J : It) (fp : List Addr) (it : Addr) (tn : Nat → Heap → Prop) : Prop where
 mem : it ∈ fp
 obj : ∀ i h, tn i h → ∀ b ∈ fp, ∃ o, h.get? b = some o ∧ ∀ v, o.data ≠ .cell v
 keep : ∀ i h h', tn i h → (∀ b ∈ fp, ∀ o, h.get? b = some o → h'.get? b = some o) → tn i h'
 item : ∀ (X : Cx), X.prog = P → X.w = w → X.K = K → X.calm = true → ∀ (i : Nat) (pins : List (Addr × Obj)) (s : Shared) (σ : St) (H : Hp) (E : Value → Shared → Prop), Inv X pins σ H s → (∀ b ∈ fp, FpOk X pins H b) → tn i s.heap → J.go i H →
  wpAny (model P w) X.A (pyNext (.ref it)) (fun r s1 => ∃ u, r = some u ∧
   wpAny (model P w) X.A (letOwnedTupleGo tg (.ref it) u) (fun _ s2 => ∃ x H', Inv X pins σ H' s2 ∧ RelV x u ∧ J.yld i H x H' ∧ tn (i + 1) s2.heap ∧ ∀ b ∈ fp, H' b = none) E s1) E s
 done : ∀ (X : Cx), X.prog = P → X.w = w → X.K = K → X.calm = true → ∀ (i : Nat) (pins : List (Addr × Obj)) (s : Shared) (σ : St) (H : Hp) (E : Value → Shared → Prop), Inv X pins σ H s → (∀ b ∈ fp, FpOk X pins H b) → tn i s.heap → J.stop i H →
  wpAny (model P w) X.A (pyNext (.ref it)) (fun r s1 => r = none ∧ Inv X pins σ H s1) E s
 self : ∀ (A : Around) (i : Nat) (s : Shared) (Q : Value → Shared → Prop) (E : Value → Shared → Prop), tn i s.heap → Q (.ref it) s → wpAny (model P w) A (pyIter (.ref it)) Q E s
noncomputable abbrev TI := St → Hp → (It → Hp → Prop) → Prop
def PIE (X : Cx) (pins : List (Addr × Obj)) (σ : St) (tg : Expr) (R : It → Hp → Prop) (itv : Value) (s2 : Shared) : Prop :=
 ∃ (it : Addr) (fp : List Addr) (tn : Nat → Heap → Prop) (J : It) (H' : Hp), itv = .ref it ∧ Inv X pins σ H' s2 ∧ Turn X.prog X.w X.K tg J fp it tn ∧ tn 0 s2.heap ∧ (∀ b ∈ fp, FpOk X pins H' b) ∧ R J H'
def PI (X : Cx) (tg iter : Expr) (wi : TI) : Prop :=
 ∀ (pins : List (Addr × Obj)) (s : Shared) (σ : St) (H : Hp) (R : It → Hp → Prop), Inv X pins σ H s → wi σ H R →
  wpAny (model X.prog X.w) X.A (eval iter X.env) (fun v s1 => wpAny (model X.prog X.w) X.A (pyIter v) (PIE X pins σ tg R) X.xe s1) X.xe s
theorem go_of {M : Model} {A : Around} {E : Value → Shared → Prop} {s : Shared} {tg : Expr} {it : Addr} {u : Value} {o : Obj} {n : String} {vs : Array Value} {Q : Unit → Shared → Prop} (ho : s.heap.get? it = some o) (hc : o.cls = .type n) (hd : o.data = .fields vs)
  (hn : ["enumerate", "zip", "dict_itemiterator", "dict_reverseitemiterator", "odict_iterator", "itertools.zip_longest", "itertools.pairwise"].contains n = false) (hQ : Q () s) : wpAny M A (letOwnedTupleGo tg (.ref it) u) Q E s := by
 unfold letOwnedTupleGo
 cases tg <;> first
  | exact wpAny_pure hQ
  | (cases u <;> first
    | exact wpAny_pure hQ
    | (refine wpAny_bind (wpAny_load ho ?_)
       rw [hc, hd]
       show wpAny M A (if (["enumerate", "zip", "dict_itemiterator", "dict_reverseitemiterator", "odict_iterator", "itertools.zip_longest", "itertools.pairwise"].contains n && vs[0]? == some (rawInt _)) = true then _ else _) Q E s
       rw [if_neg (by intro h; rw [hn, Bool.false_and] at h; cases h)]
       exact wpAny_pure hQ))
noncomputable def Itl (K : PySem.W.Frag) (a : Addr) : It :=
 ⟨fun i H => ∃ xs x, SqL K H a xs ∧ xs[i]? = some x, fun i H x H' => H' = H ∧ ∀ xs, SqL K H a xs → xs[i]? = some x, fun i H => ∃ xs, SqL K H a xs ∧ xs.length ≤ i⟩
noncomputable def Itt (K : PySem.W.Frag) (a : Addr) : It :=
 ⟨fun i H => ∃ xs x, SqT K H a xs ∧ xs[i]? = some x, fun i H x H' => H' = H ∧ ∀ xs, SqT K H a xs → xs[i]? = some x, fun i H => ∃ xs, SqT K H a xs ∧ xs.length ≤ i⟩
noncomputable def Itr (lo : Int) (n : Nat) : It := ⟨fun i _ => i < n, fun i H x H' => H' = H ∧ x = .int (lo + i), fun i _ => n ≤ i⟩
theorem turn_list {P : Program} {w : World} {K : PySem.W.Frag} {tg : Expr} (a it : Addr) : Turn P w K tg (Itl K a) [it] it (fun i h => h.IsListIter it a i) where
 mem := by simp
 obj := fun i h st b hb => by
  have e : b = it := by simpa using hb
  subst e
  obtain ⟨o, e, c, d⟩ := st
  exact ⟨o, e, fun v z => by rw [d] at z; cases z⟩
 keep := fun i h h' st k => st.at fun o e => k it (by simp) o e
 item := by
  intro X hP hw hK hc i pins s σ H E I hf st hg
  subst hP hw hK
  obtain ⟨xs, x, hq, hx⟩ := hg
  obtain ⟨its, rv, p, hz⟩ := I.list hq
  obtain ⟨u, hu, ru⟩ := rv.get hx
  obtain ⟨f0, f1, f2, f3, f4, f5⟩ := hf it (by simp)
  refine wpAny_pyNext_list_item st p.isList (x := u) (by simpa using hu) fun h' st' sb => ?_
  have I1 : Inv X pins σ H { s with heap := h' } := I.turned (t' := s.toks) (fun b o hb e => (sb.2 b hb).trans e) f0 f1 f3 f4 f5
  obtain ⟨o, e, c, d⟩ := id st'
  exact ⟨u, rfl, go_of (s := { s with heap := h' }) e c d (by decide) ⟨x, H, I1, ru, ⟨rfl, fun ys hy => by rw [I.list_inj hy hq]; exact hx⟩, st', fun b hb => (hf b hb).1⟩⟩
 done := by
  intro X hP hw hK hc i pins s σ H E I hf st hg
  subst hP hw hK
  obtain ⟨xs, hq, hx⟩ := hg
  obtain ⟨its, rv, p, hz⟩ := I.list hq
  obtain ⟨f0, f1, f2, f3, f4, f5⟩ := hf it (by simp)
  have hl := rv.length
  exact wpAny_pyNext_list_end (I.ok.hd hc) st p.isList (by simp; omega) fun h' eb => ⟨rfl, I.turned (t' := s.toks) (fun b o hb e => eb b o hb e) f0 f1 f3 f4 f5⟩
 self := fun _ _ _ _ _ st h => wpAny_pyIter_listiter st h
theorem turn_tuple {P : Program} {w : World} {K : PySem.W.Frag} {tg : Expr} (a it : Addr) : Turn P w K tg (Itt K a) [it] it (fun i h => h.IsTupleIter it a i) where
 mem := by simp
 obj := fun i h st b hb => by
  have e : b = it := by simpa using hb
  subst e
  obtain ⟨o, e, c, d⟩ := st
  exact ⟨o, e, fun v z => by rw [d] at z; cases z⟩
 keep := fun i h h' st k => st.at fun o e => k it (by simp) o e
 item := by
  intro X hP hw hK hc i pins s σ H E I hf st hg
  subst hP hw hK
  obtain ⟨xs, x, hq, hx⟩ := hg
  obtain ⟨its, rv, p, hz⟩ := I.tuple hq
  obtain ⟨u, hu, ru⟩ := rv.get hx
  obtain ⟨f0, f1, f2, f3, f4, f5⟩ := hf it (by simp)
  refine wpAny_pyNext_tuple_item st (show s.heap.IsTuple a its.toArray from p) (x := u) (by simpa using hu) fun h' st' sb => ?_
  have I1 : Inv X pins σ H { s with heap := h' } := I.turned (t' := s.toks) (fun b o hb e => (sb.2 b hb).trans e) f0 f1 f3 f4 f5
  obtain ⟨o, e, c, d⟩ := id st'
  exact ⟨u, rfl, go_of (s := { s with heap := h' }) e c d (by decide) ⟨x, H, I1, ru, ⟨rfl, fun ys hy => by rw [I.tuple_inj hy hq]; exact hx⟩, st', fun b hb => (hf b hb).1⟩⟩
 done := by
  intro X hP hw hK hc i pins s σ H E I hf st hg
  subst hP hw hK
  obtain ⟨xs, hq, hx⟩ := hg
  obtain ⟨its, rv, p, hz⟩ := I.tuple hq
  obtain ⟨f0, f1, f2, f3, f4, f5⟩ := hf it (by simp)
  have hl := rv.length
  exact wpAny_pyNext_tuple_end (I.ok.hd hc) st (show s.heap.IsTuple a its.toArray from p) (by simp; omega) fun h' eb => ⟨rfl, I.turned (t' := s.toks) (fun b o hb e => eb b o hb e) f0 f1 f3 f4 f5⟩
 self := fun _ _ _ _ _ st h => wpAny_pyIter_tupleiter st h
theorem turn_range {P : Program} {w : World} {K : PySem.W.Frag} {tg : Expr} (it : Addr) (lo : Int) (n : Nat) : Turn P w K tg (Itr lo n) [it] it (fun i h => IsRangeIter h it (lo + (i : Nat) * 1) ((n : Int) - (i : Nat)) 1) where
 mem := by simp
 obj := fun i h st b hb => by
  have e : b = it := by simpa using hb
  subst e
  exact ⟨_, st, fun v z => by
   have z' : Data.fields _ = Data.cell v := z
   cases z'⟩
 keep := fun i h h' st k => k it (by simp) _ st
 item := by
  intro X hP hw hK hc i pins s σ H E I hf st hg
  subst hP hw hK
  obtain ⟨f0, f1, f2, f3, f4, f5⟩ := hf it (by simp)
  have W := Walks.range (prog := X.prog) (w := X.w) (I.ok.hd hc) it lo 1 n
  refine W.item i s _ _ hg st fun v h' tk hv st' kk => ?_
  obtain ⟨t, rfl⟩ := hv
  have I1 : Inv X pins σ H { s with heap := h', toks := tk } := I.turned (fun b o hb e => kk b o (by simpa using hb) e) f0 f1 f3 f4 f5
  refine ⟨_, rfl, go_of (s := { s with heap := h', toks := tk }) (n := "range_iterator") st' rfl rfl (by decide) ⟨.int (lo + i), H, I1, ⟨t, ?_⟩, ⟨rfl, rfl⟩, st', fun b hb => (hf b hb).1⟩⟩
  rw [Int.mul_one]
 done := by
  intro X hP hw hK hc i pins s σ H E I hf st hg
  subst hP hw hK
  obtain ⟨f0, f1, f2, f3, f4, f5⟩ := hf it (by simp)
  exact wpAny_pyNext_range_end (I.ok.hd hc) st (by have : n ≤ i := hg; omega) fun h' eb => ⟨rfl, I.turned (t' := s.toks) (fun b o hb e => eb b o hb e) f0 f1 f3 f4 f5⟩
 self := fun _ _ _ _ _ st h => wpAny_pyIter_rangeiter st h
end L2
namespace L2
open PySem PySem.Spec PyProof.Rows
section
variable {X : Cx} {tg : Expr}
noncomputable def iList (K : PySem.W.Frag) (tl : TE) : TI := fun σ H R => tl σ H fun x H1 => ∃ a, x = .ref a ∧ (∃ xs, SqL K H1 a xs) ∧ R (Itl K a) H1
noncomputable def iTup (K : PySem.W.Frag) (tl : TE) : TI := fun σ H R => tl σ H fun x H1 => ∃ a, x = .ref a ∧ (∃ xs, SqT K H1 a xs) ∧ R (Itt K a) H1
theorem pi_list {l : Expr} {tl : TE} (hl : PE X l tl) : PI X tg l (iList X.K tl) := by
 intro pins s σ H R I h
 refine thn (hl pins s σ H _ I h) fun v s1 hq_ => ?_
 obtain ⟨x, H1, I1, r1, q1⟩ := hq_
 obtain ⟨a, e, ⟨xs, hq⟩, q⟩ := q1
 subst e
 cases r1
 obtain ⟨its, rv, p, hz⟩ := I1.list hq
 refine wpAny_pyIter_list p.isList ?_
 refine ⟨s1.heap.objs.size, [s1.heap.objs.size], _, _, H1, rfl, I1.kept (t' := s1.toks) fun b o e => Heap.get?_push_of_some _ e, turn_list a _, ⟨_, Heap.get?_push_size _ rfl, rfl, rfl⟩, fun b hb => ?_, q⟩
 have e : b = s1.heap.objs.size := by simpa using hb
 subst e
 exact I1.fpOk (Nat.le_refl _) (I1.hok.fresh (Nat.le_refl _))
theorem pi_tup {l : Expr} {tl : TE} (hl : PE X l tl) : PI X tg l (iTup X.K tl) := by
 intro pins s σ H R I h
 refine thn (hl pins s σ H _ I h) fun v s1 hq_ => ?_
 obtain ⟨x, H1, I1, r1, q1⟩ := hq_
 obtain ⟨a, e, ⟨xs, hq⟩, q⟩ := q1
 subst e
 cases r1
 obtain ⟨its, rv, p, hz⟩ := I1.tuple hq
 refine wpAny_pyIter_tuple (show s1.heap.IsTuple a its.toArray from p) ?_
 refine ⟨s1.heap.objs.size, [s1.heap.objs.size], _, _, H1, rfl, I1.kept (t' := s1.toks) fun b o e => Heap.get?_push_of_some _ e, turn_tuple a _, ⟨_, Heap.get?_push_size _ rfl, rfl, rfl⟩, fun b hb => ?_, q⟩
 have e : b = s1.heap.objs.size := by simpa using hb
 subst e
 exact I1.fpOk (Nat.le_refl _) (I1.hok.fresh (Nat.le_refl _))
theorem range_it {pins : List (Addr × Obj)} {σ : St} {H : Hp} {s : Shared} {R : It → Hp → Prop} {E : Value → Shared → Prop} {lo hi : Int} {t u v : Tok} {tk : Nat} (I : Inv X pins σ H s) (h1 : -(2 ^ 62) ≤ lo) (h2 : lo < 2 ^ 62) (h3 : -(2 ^ 62) ≤ hi) (h4 : hi < 2 ^ 62)
  (q : R (Itr lo (hi - lo).toNat) H) : wpAny (model X.prog X.w) X.A (pyIter (.ref s.heap.objs.size)) (PIE X pins σ tg R) E { s with heap := s.heap.push { cls := .type "range", data := .fields #[.int lo t, .int hi u, .int 1 v] }, toks := tk } := by
 refine wpAny_pyIter_range (IsRange.new ..) (small_one h1 h2 h3 h4) ?_
 have I1 : Inv X pins σ H { s with heap := s.heap.push { cls := .type "range", data := .fields #[.int lo t, .int hi u, .int 1 v] }, toks := tk } := I.kept fun b o e => Heap.get?_push_of_some _ e
 refine ⟨(s.heap.push { cls := .type "range", data := .fields #[.int lo t, .int hi u, .int 1 v] }).objs.size, [(s.heap.push { cls := .type "range", data := .fields #[.int lo t, .int hi u, .int 1 v] }).objs.size], _, _, H, rfl,
  I1.kept (t' := tk) fun b o e => Heap.get?_push_of_some _ e, turn_range _ lo (hi - lo).toNat, ?_, fun b hb => ?_, q⟩
 ·have e1 : lo + ((0 : Nat) : Int) * 1 = lo := by simp
  have e2 : (((hi - lo).toNat : Nat) : Int) - ((0 : Nat) : Int) = Builtin.Range.rangeSize lo hi 1 := by rw [rangeSize_one]; split <;> omega
  show IsRangeIter _ _ (lo + ((0 : Nat) : Int) * 1) ((((hi - lo).toNat : Nat) : Int) - ((0 : Nat) : Int)) 1
  rw [e1, e2]
  exact Heap.get?_push_size _ rfl
 ·have e : b = (s.heap.push { cls := .type "range", data := .fields #[.int lo t, .int hi u, .int 1 v] }).objs.size := by simpa using hb
  subst e
  exact I1.fpOk (Nat.le_refl _) (I1.hok.fresh (Nat.le_refl _))
noncomputable def iRng1 (ta : TA) : TI := fun σ H R => ta σ H fun vs H1 => ∃ j : Int, vs = [.int j] ∧ -(2 ^ 62) ≤ j ∧ j < 2 ^ 62 ∧ R (Itr 0 j.toNat) H1
theorem pi_range1 {a : Expr} {ta : TA} {p pos : Pos} (hg : Gl X "range") (hm : X.mg "range" = none) (ha : PA X [a] ta) (hs : starEach [a] X.env = [(false, eval a X.env)] := by rfl) : PI X tg (.Call (.Name "range" p) [a] [] pos) (iRng1 ta) := by
 intro pins s σ H R I h
 refine Call_ (ld_blt I hg hm boot_range (PyProof.Rows.callWith_type1 (thn (ha pos pins s σ H _ I h) fun us s1 hq_ => ?_) hs rfl))
 obtain ⟨vs, H1, I1, r1, q1⟩ := hq_
 obtain ⟨j, e, q1, q2, q⟩ := q1
 subst e
 cases r1 with
 | cons r rr =>
  cases rr
  obtain ⟨t, rfl⟩ := r
  exact call_range_1 (range_it I1 (by omega) (by omega) q1 q2 (by simpa using q))
noncomputable def tFor (wi : TI) (g : TG) (tb : TS) : TS := fun D σ H => wi σ H fun J H1 => ∃ W : Nat → Nat → St → Hp → Prop, (∃ m, W 0 m σ H1) ∧ ∀ i m σ H, W i m σ H →
 (J.stop i H ∧ D.nx σ H) ∨ (J.go i H ∧ ∃ N : St → Hp → Prop, (∀ σ' H', N σ' H' → ∃ m', m' < m ∧ W (i + 1) m' σ' H') ∧ ∀ x H', J.yld i H x H' → g x σ H' fun σ2 H2 => tb { D with nx := N, ct := N, bk := D.nx } σ2 H2)
noncomputable def pinsAt (fp : List Addr) (h : Heap) : List (Addr × Obj) := fp.filterMap fun b => (h.get? b).map fun o => (b, o)
theorem mem_pinsAt {fp : List Addr} {h : Heap} {b : Addr} {o : Obj} (hb : b ∈ fp) (e : h.get? b = some o) : (b, o) ∈ pinsAt fp h := List.mem_filterMap.mpr ⟨b, hb, by rw [e]; rfl⟩
theorem of_pinsAt {fp : List Addr} {h : Heap} {p : Addr × Obj} (hp : p ∈ pinsAt fp h) : p.1 ∈ fp ∧ h.get? p.1 = some p.2 := by
 obtain ⟨b, hb, e⟩ := List.mem_filterMap.mp hp
 cases q : h.get? b with
 | none => rw [q] at e; cases e
 | some o =>
  rw [q] at e
  have e' : (b, o) = p := Option.some.inj e
  subst e'
  exact ⟨hb, q⟩
theorem Inv.pinned {pins : List (Addr × Obj)} {σ : St} {H : Hp} {s : Shared} {fp : List Addr} (I : Inv X pins σ H s) (hf : ∀ b ∈ fp, FpOk X pins H b) (ho : ∀ b ∈ fp, ∃ o, s.heap.get? b = some o ∧ ∀ v, o.data ≠ .cell v) : Inv X (pins ++ pinsAt fp s.heap) σ H s :=
 I.pins_of fun p hp => (List.mem_append.mp hp).elim (fun z => I.pin p (List.mem_append_right _ z)) fun z => by
  obtain ⟨hb, e⟩ := of_pinsAt z
  obtain ⟨f0, f1, f2, _⟩ := hf p.1 hb
  obtain ⟨o, e', d⟩ := ho p.1 hb
  rw [e] at e'; cases e'
  exact ⟨e, f0, f1, f2, d⟩
theorem Inv.unpinned {pins pl : List (Addr × Obj)} {σ : St} {H : Hp} {s : Shared} (I : Inv X (pins ++ pl) σ H s) : Inv X pins σ H s := I.pins_of fun p hp => I.pin p (List.mem_append_right _ (List.mem_append_left _ hp))
theorem ps_for {iter : Expr} {body : List Stmt} {wi : TI} {g : TG} {tb : TS} {pos : Pos} (hp : PassesOwn (model X.prog X.w) X.A X.env X.xe) (hc : X.calm = true) (hi : PI X tg iter wi) (hg : PG X tg g) (hb : PSs X body tb)
  (hs : ∀ x, foldedSetIterable iter X.env x = pure x := by intro _; rfl) : PS X (.For tg iter body [] pos) (tFor wi g tb) := by
 intro pins s σ H D I h
 refine wpAny_For (thn (hi pins s σ H _ I h) fun v s1 h1 => thn h1 fun itv s2 h2 => ?_) hs
 obtain ⟨it, fp, tn, J, H2, e, I2, T, st2, f2, W, ⟨m0, w0⟩, turn⟩ := h2
 subst e
 have stat : ∀ {H' : Hp}, (∀ b ∈ fp, H' b = none) → ∀ b ∈ fp, FpOk X pins H' b := fun hn b hb => ⟨hn b hb, (f2 b hb).2⟩
 refine codeAny_forLoop_any (fun n s' => ∃ i σ' H', Inv X pins σ' H' s' ∧ tn i s'.heap ∧ (∀ b ∈ fp, H' b = none) ∧ W i n σ' H') ?_ m0 ⟨0, σ, H2, I2, st2, fun b hb => (f2 b hb).1, w0⟩
 rintro n s3 ⟨i, σ3, H3, I3, st3, fr3, w3⟩
 rcases turn i n σ3 H3 w3 with ⟨stop, qn⟩ | ⟨go, N, hN, step⟩
 ·refine wpAny_passesOwn hp (thn (T.done X rfl rfl rfl hc i pins s3 σ3 H3 X.xe I3 (stat fr3) st3 stop) fun r s4 hq_ => ?_)
  obtain ⟨hr, I4⟩ := hq_
  subst hr
  exact wpAny_execs_nil ⟨σ3, H3, I4, qn⟩
 ·refine wpAny_passesOwn hp (thn (T.item X rfl rfl rfl hc i pins s3 σ3 H3 X.xe I3 (stat fr3) st3 go) fun r s4 hq_ => ?_)
  obtain ⟨u, hr, h4⟩ := hq_
  subst hr
  refine wpAny_passesOwn hp (thn h4 fun _ s5 hq_ => ?_)
  obtain ⟨x, H5, I5, r5, y5, st5, fr5⟩ := hq_
  have I5' := I5.pinned (stat fr5) (T.obj _ _ st5)
  refine wpAny_passesOwn hp (thn (hg _ s5 σ3 H5 x u _ I5' r5 (step x H5 y5)) fun _ s6 hq_ => ?_)
  obtain ⟨σ6, H6, I6, q6⟩ := hq_
  refine wpAny_passesOwn hp (thn (hb _ s6 σ6 H6 _ I6 q6) fun f s7 q7 => ?_)
  have again : ∀ {σ7 : St} {H7 : Hp}, Inv X (pins ++ pinsAt fp s5.heap) σ7 H7 s7 → N σ7 H7 → ∃ m, m < n ∧ ∃ i σ' H', Inv X pins σ' H' s7 ∧ tn i s7.heap ∧ (∀ b ∈ fp, H' b = none) ∧ W i m σ' H' := fun {σ7 H7} I7 n7 => by
   obtain ⟨m', hm, w7⟩ := hN σ7 H7 n7
   refine ⟨m', hm, i + 1, σ7, H7, I7.unpinned, T.keep _ _ _ st5 fun b hb o e => (I7.pin (b, o) (List.mem_append_right _ (List.mem_append_right _ (mem_pinsAt hb e)))).1, fun b hb => ?_, w7⟩
   obtain ⟨o, e, d⟩ := T.obj _ _ st5 b hb
   exact (I7.pin (b, o) (List.mem_append_right _ (List.mem_append_right _ (mem_pinsAt hb e)))).2.1
  cases f with
  | next => obtain ⟨σ7, H7, I7, n7⟩ := q7; exact again I7 n7
  | cont => obtain ⟨σ7, H7, I7, n7⟩ := q7; exact again I7 n7
  | brk => obtain ⟨σ7, H7, I7, q7⟩ := q7; exact ⟨σ7, H7, I7.unpinned, q7⟩
  | ret v => obtain ⟨x7, σ7, H7, I7, r7, q7⟩ := q7; exact ⟨x7, σ7, H7, I7.unpinned, r7, q7⟩
end
theorem for_list {K : PySem.W.Frag} {a : Addr} {xs : List V} {g : TG} {tb : TS} {D : Ends} {σ : St} {H : Hp} (Pv : Nat → St → Hp → Prop) (h0 : Pv 0 σ H) (hl : ∀ i σ H, i ≤ xs.length → Pv i σ H → SqL K H a xs)
  (hs : ∀ i x σ H, xs[i]? = some x → Pv i σ H → g x σ H fun σ2 H2 => tb { D with nx := Pv (i + 1), ct := Pv (i + 1), bk := D.nx } σ2 H2) (hd : ∀ σ H, Pv xs.length σ H → D.nx σ H) :
  ∃ W : Nat → Nat → St → Hp → Prop, (∃ m, W 0 m σ H) ∧ ∀ i m σ H, W i m σ H →
   ((Itl K a).stop i H ∧ D.nx σ H) ∨ ((Itl K a).go i H ∧ ∃ N : St → Hp → Prop, (∀ σ' H', N σ' H' → ∃ m', m' < m ∧ W (i + 1) m' σ' H') ∧ ∀ x H', (Itl K a).yld i H x H' → g x σ H' fun σ2 H2 => tb { D with nx := N, ct := N, bk := D.nx } σ2 H2) := by
 refine ⟨fun i m σ H => m = xs.length - i ∧ i ≤ xs.length ∧ Pv i σ H, ⟨xs.length, by simp, Nat.zero_le _, h0⟩, ?_⟩
 rintro i m σ H ⟨rfl, hi, p⟩
 have q := hl i σ H hi p
 by_cases hlt : i < xs.length
 ·refine .inr ⟨⟨xs, xs[i], q, by simp [hlt]⟩, Pv (i + 1), fun σ' H' p' => ⟨xs.length - (i + 1), by omega, rfl, hlt, p'⟩, fun x H' y => ?_⟩
  obtain ⟨e, y⟩ := y
  subst e
  exact hs i x σ _ (y xs q) p
 ·have e : i = xs.length := by omega
  subst e
  exact .inl ⟨⟨xs, q, Nat.le_refl _⟩, hd σ H p⟩
theorem for_tup {K : PySem.W.Frag} {a : Addr} {xs : List V} {g : TG} {tb : TS} {D : Ends} {σ : St} {H : Hp} (Pv : Nat → St → Hp → Prop) (h0 : Pv 0 σ H) (hl : ∀ i σ H, i ≤ xs.length → Pv i σ H → SqT K H a xs)
  (hs : ∀ i x σ H, xs[i]? = some x → Pv i σ H → g x σ H fun σ2 H2 => tb { D with nx := Pv (i + 1), ct := Pv (i + 1), bk := D.nx } σ2 H2) (hd : ∀ σ H, Pv xs.length σ H → D.nx σ H) :
  ∃ W : Nat → Nat → St → Hp → Prop, (∃ m, W 0 m σ H) ∧ ∀ i m σ H, W i m σ H →
   ((Itt K a).stop i H ∧ D.nx σ H) ∨ ((Itt K a).go i H ∧ ∃ N : St → Hp → Prop, (∀ σ' H', N σ' H' → ∃ m', m' < m ∧ W (i + 1) m' σ' H') ∧ ∀ x H', (Itt K a).yld i H x H' → g x σ H' fun σ2 H2 => tb { D with nx := N, ct := N, bk := D.nx } σ2 H2) := by
 refine ⟨fun i m σ H => m = xs.length - i ∧ i ≤ xs.length ∧ Pv i σ H, ⟨xs.length, by simp, Nat.zero_le _, h0⟩, ?_⟩
 rintro i m σ H ⟨rfl, hi, p⟩
 have q := hl i σ H hi p
 by_cases hlt : i < xs.length
 ·refine .inr ⟨⟨xs, xs[i], q, by simp [hlt]⟩, Pv (i + 1), fun σ' H' p' => ⟨xs.length - (i + 1), by omega, rfl, hlt, p'⟩, fun x H' y => ?_⟩
  obtain ⟨e, y⟩ := y
  subst e
  exact hs i x σ _ (y xs q) p
 ·have e : i = xs.length := by omega
  subst e
  exact .inl ⟨⟨xs, q, Nat.le_refl _⟩, hd σ H p⟩
theorem for_range {lo : Int} {n : Nat} {g : TG} {tb : TS} {D : Ends} {σ : St} {H : Hp} (Pv : Nat → St → Hp → Prop) (h0 : Pv 0 σ H)
  (hs : ∀ i σ H, i < n → Pv i σ H → g (.int (lo + i)) σ H fun σ2 H2 => tb { D with nx := Pv (i + 1), ct := Pv (i + 1), bk := D.nx } σ2 H2) (hd : ∀ σ H, Pv n σ H → D.nx σ H) :
  ∃ W : Nat → Nat → St → Hp → Prop, (∃ m, W 0 m σ H) ∧ ∀ i m σ H, W i m σ H →
   ((Itr lo n).stop i H ∧ D.nx σ H) ∨ ((Itr lo n).go i H ∧ ∃ N : St → Hp → Prop, (∀ σ' H', N σ' H' → ∃ m', m' < m ∧ W (i + 1) m' σ' H') ∧ ∀ x H', (Itr lo n).yld i H x H' → g x σ H' fun σ2 H2 => tb { D with nx := N, ct := N, bk := D.nx } σ2 H2) := by
 refine ⟨fun i m σ H => m = n - i ∧ i ≤ n ∧ Pv i σ H, ⟨n, by simp, Nat.zero_le _, h0⟩, ?_⟩
 rintro i m σ H ⟨rfl, hi, p⟩
 by_cases hlt : i < n
 ·refine .inr ⟨hlt, Pv (i + 1), fun σ' H' p' => ⟨n - (i + 1), by omega, rfl, hlt, p'⟩, fun x H' y => ?_⟩
  obtain ⟨e, y⟩ := y
  subst e y
  exact hs i σ _ hlt p
 ·have e : i = n := by omega
  subst e
  exact .inl ⟨Nat.le_refl _, hd σ H p⟩
end L2
namespace L2
open PySem PySem.Spec PyProof.Rows
noncomputable abbrev R2 := V → V → Hp → VK → Prop
def OpR (X : Cx) (f : Value → Value → Sem Value) (r : R2) : Prop :=
 ∀ (pins : List (Addr × Obj)) (s : Shared) (σ : St) (H : Hp) (x y : V) (v u : Value) (Q : VK), Inv X pins σ H s → RelV x v → RelV y u → r x y H Q →
  wpAny (model X.prog X.w) X.A (f v u) (EP X pins σ Q) X.xe s
def UnR (X : Cx) (f : Value → Sem Value) (r : V → Hp → VK → Prop) : Prop :=
 ∀ (pins : List (Addr × Obj)) (s : Shared) (σ : St) (H : Hp) (x : V) (v : Value) (Q : VK), Inv X pins σ H s → RelV x v → r x H Q →
  wpAny (model X.prog X.w) X.A (f v) (EP X pins σ Q) X.xe s
def CallR (X : Cx) (f : Value) (r : List V → Hp → VK → Prop) : Prop :=
 ∀ (pins : List (Addr × Obj)) (s : Shared) (σ : St) (H : Hp) (xs : List V) (us : List Value) (Q : VK), Inv X pins σ H s → Vals xs us → r xs H Q →
  wpAny (model X.prog X.w) X.A (call f us) (EP X pins σ Q) X.xe s
def TruR (X : Cx) (r : V → Hp → (Bool → Hp → Prop) → Prop) : Prop :=
 ∀ (pins : List (Addr × Obj)) (s : Shared) (σ : St) (H : Hp) (x : V) (v : Value) (Q : Bool → Hp → Prop), Inv X pins σ H s → RelV x v → r x H Q →
  wpAny (model X.prog X.w) X.A (truthy v) (TP X pins σ Q) X.xe s
noncomputable def tOp (r : R2) (ta tb : TE) : TE := fun σ H Q => ta σ H fun x H1 => tb σ H1 fun y H2 => r x y H2 Q
noncomputable def tUn (r : V → Hp → VK → Prop) (ta : TE) : TE := fun σ H Q => ta σ H fun x H1 => r x H1 Q
noncomputable def rI (C : Int → Int → Prop) (g : Int → Int → V) : R2 := fun x y H Q => ∃ i j, x = .int i ∧ y = .int j ∧ C i j ∧ Q (g i j) H
noncomputable def rI0 (g : Int → Int → V) : R2 := fun x y H Q => ∃ i j, x = .int i ∧ y = .int j ∧ Q (g i j) H
noncomputable def rU (g : Int → V) : V → Hp → VK → Prop := fun x H Q => ∃ i, x = .int i ∧ Q (g i) H
section
variable {X : Cx} {a b c : Expr} {ta tb tc : TE} {pos : Pos}
theorem binT (ha : PE X a ta) (hb : PE X b tb) {pins : List (Addr × Obj)} {s : Shared} {σ : St} {H : Hp} {R : V → V → Hp → Prop} (I : Inv X pins σ H s)
  (h : ta σ H fun x H1 => tb σ H1 fun y H2 => R x y H2) {Q : Value → Shared → Prop} {f : Value → Value → Sem Value}
  (hf : ∀ v u s2 x y H2, Inv X pins σ H2 s2 → RelV x v → RelV y u → R x y H2 → wpAny (model X.prog X.w) X.A (f v u) Q X.xe s2) :
  wpAny (model X.prog X.w) X.A (eval a X.env) (fun v s₁ => wpAny (model X.prog X.w) X.A (eval b X.env) (fun u s₂ => wpAny (model X.prog X.w) X.A (f v u) Q X.xe s₂) X.xe s₁) X.xe s := by
 refine thn (ha pins s σ H _ I h) fun v s1 hq_ => ?_
 obtain ⟨x, H1, I1, r1, q1⟩ := hq_
 refine thn (hb pins s1 σ H1 _ I1 q1) fun u s2 hq_ => ?_
 obtain ⟨y, H2, I2, r2, q2⟩ := hq_
 exact hf v u s2 x y H2 I2 r1 r2 q2
theorem pe_op {op : Operator} {r : R2} (ho : OpR X (binaryOp op) r) (ha : PE X a ta) (hb : PE X b tb) : PE X (.BinOp a op b pos) (tOp r ta tb) := by
 intro pins s σ H Q I h
 exact wpAny_BinOp (binT ha hb I h fun v u s2 x y H2 I2 rx ry q => ho pins s2 σ H2 x y v u Q I2 rx ry q)
theorem pe_un {op : UnaryOp} {r : V → Hp → VK → Prop} (ho : UnR X (unaryOp op) r) (ha : PE X a ta) : PE X (.UnaryOp op a pos) (tUn r ta) := by
 intro pins s σ H Q I h
 refine UnaryOp_ (thn (ha pins s σ H _ I h) fun v s1 hq_ => ?_)
 obtain ⟨x, H1, I1, r1, q1⟩ := hq_
 exact ho pins s1 σ H1 x v Q I1 r1 q1
theorem opI {f : Value → Value → Sem Value} {C : Int → Int → Prop} {g : Int → Int → Int}
  (rule : ∀ (i j : Int) (t u : Tok) (s : Shared) (Q : Value → Shared → Prop) (E : Value → Shared → Prop), C i j → Q (.int (g i j) s.toks) { s with toks := s.toks + 1 } → wpAny (model X.prog X.w) X.A (f (.int i t) (.int j u)) Q E s) :
  OpR X f (rI C fun i j => .int (g i j)) := by
 intro pins s σ H x y v u Q I rx ry h
 obtain ⟨i, j, rfl, rfl, hc, q⟩ := h
 obtain ⟨t, rfl⟩ := rx
 obtain ⟨t', rfl⟩ := ry
 exact rule i j t t' s _ _ hc ⟨.int (g i j), H, I.tok _, ⟨_, rfl⟩, q⟩
theorem opI0 {f : Value → Value → Sem Value} {g : Int → Int → Int}
  (rule : ∀ (i j : Int) (t u : Tok) (s : Shared) (Q : Value → Shared → Prop) (E : Value → Shared → Prop), Q (.int (g i j) s.toks) { s with toks := s.toks + 1 } → wpAny (model X.prog X.w) X.A (f (.int i t) (.int j u)) Q E s) :
  OpR X f (rI0 fun i j => .int (g i j)) := by
 intro pins s σ H x y v u Q I rx ry h
 obtain ⟨i, j, rfl, rfl, q⟩ := h
 obtain ⟨t, rfl⟩ := rx
 obtain ⟨t', rfl⟩ := ry
 exact rule i j t t' s _ _ ⟨.int (g i j), H, I.tok _, ⟨_, rfl⟩, q⟩
theorem opB0 {f : Value → Value → Sem Value} {g : Int → Int → Bool}
  (rule : ∀ (i j : Int) (t u : Tok) (s : Shared) (Q : Value → Shared → Prop) (E : Value → Shared → Prop), Q (.bool (g i j)) s → wpAny (model X.prog X.w) X.A (f (.int i t) (.int j u)) Q E s) :
  OpR X f (rI0 fun i j => .bl (g i j)) := by
 intro pins s σ H x y v u Q I rx ry h
 obtain ⟨i, j, rfl, rfl, q⟩ := h
 obtain ⟨t, rfl⟩ := rx
 obtain ⟨t', rfl⟩ := ry
 exact rule i j t t' s _ _ ⟨.bl (g i j), H, I, rfl, q⟩
def CDiv (i j : Int) : Prop := 0 < j ∧ j < 1073741824
def CPow (i j : Int) : Prop := 0 ≤ j ∧ j ≤ 1000000 ∧ i.natAbs < 2 ^ 64
def CMul (i j : Int) : Prop := (-(2 ^ 64) < i ∧ i < 2 ^ 64) ∨ (-(2 ^ 64) < j ∧ j < 2 ^ 64)
theorem CMul.ok {i j : Int} (h : CMul i j) : IntMulOk i j := by
 rcases h with ⟨h1, h2⟩ | ⟨h1, h2⟩
 ·exact .of_left (intBits_le_64 h1 h2)
 ·exact .of_right (intBits_le_64 h1 h2)
theorem op_add : OpR X (binaryOp .Add) (rI0 fun i j => .int (i + j)) := opI0 fun _ _ _ _ _ _ _ q => add_int q
theorem op_sub : OpR X (binaryOp .Sub) (rI0 fun i j => .int (i - j)) := opI0 fun _ _ _ _ _ _ _ q => sub_int q
theorem op_mul : OpR X (binaryOp .Mult) (rI CMul fun i j => .int (i * j)) := opI fun _ _ _ _ _ _ _ hc q => mul_int q hc.ok
theorem op_fdiv : OpR X (binaryOp .FloorDiv) (rI CDiv fun i j => .int (i / j)) := opI fun i j _ _ _ _ _ hc q => by
 have h1 : (0 : Int) < j := hc.1
 have h2 : j < 1073741824 := hc.2
 exact floordiv_int (by omega) (by rw [Int.fdiv_eq_ediv_of_nonneg i (by omega)]; exact q) (.inl (PyProof.noPylong_small (by omega)))
theorem op_mod : OpR X (binaryOp .Mod) (rI (fun _ j => 0 < j) fun i j => .int (i % j)) := opI fun i j _ _ _ _ _ hc q => by
 have h1 : (0 : Int) < j := hc
 exact mod_int' (by omega) (by rw [Int.fmod_eq_emod_of_nonneg i (by omega)]; exact q)
theorem op_pow : OpR X (binaryOp .Pow) (rI CPow fun i j => .int (i ^ j.toNat)) := opI fun _ _ _ _ _ _ _ hc q => pow_int_small hc.1 hc.2.1 hc.2.2 q
theorem unI {f : Value → Sem Value} {g : Int → Int}
  (rule : ∀ (i : Int) (t : Tok) (s : Shared) (Q : Value → Shared → Prop) (E : Value → Shared → Prop), Q (.int (g i) s.toks) { s with toks := s.toks + 1 } → wpAny (model X.prog X.w) X.A (f (.int i t)) Q E s) :
  UnR X f (rU fun i => .int (g i)) := by
 intro pins s σ H x v Q I rx h
 obtain ⟨i, rfl, q⟩ := h
 obtain ⟨t, rfl⟩ := rx
 exact rule i t s _ _ ⟨.int (g i), H, I.tok _, ⟨_, rfl⟩, q⟩
theorem un_neg : UnR X (unaryOp .USub) (rU fun i => .int (-i)) := unI fun _ _ _ _ _ q => neg_int q
end
noncomputable def scal : V → V → Bool
 | .non, .non => true | .non, .int _ => true | .int _, .non => true | .non, .bl _ => true | .bl _, .non => true | .non, .str _ => true | .str _, .non => true
 | .int _, .int _ => true | .bl _, .bl _ => true | .str _, .str _ => true | .byt _, .byt _ => true
 | .int _, .str _ => true | .str _, .int _ => true | .bl _, .str _ => true | .str _, .bl _ => true
 | _, _ => false
noncomputable def rEq : R2 := fun x y H Q => scal x y = true ∧ Q (.bl (decide (x = y))) H
noncomputable def rNe : R2 := fun x y H Q => scal x y = true ∧ Q (.bl (!decide (x = y))) H
theorem dec_int {i j : Int} : decide (V.int i = V.int j) = (i == j) := by
 rw [Bool.eq_iff_iff]
 simp
theorem dec_bl {i j : Bool} : decide (V.bl i = V.bl j) = (i == j) := by
 rw [Bool.eq_iff_iff]
 simp
theorem dec_str {i j : Str} : decide (V.str i = V.str j) = (i == j) := by
 rw [Bool.eq_iff_iff]
 simp
theorem dec_byt {i j : Array UInt8} : decide (V.byt i = V.byt j) = (i.toList == j.toList) := by
 rw [Bool.eq_iff_iff]
 cases i
 cases j
 simp
section
variable {X : Cx} {a b c : Expr} {ta tb tc : TE} {pos : Pos}
theorem fin_bl {pins : List (Addr × Obj)} {σ : St} {H : Hp} {s : Shared} {Q : VK} {k k' : Bool} (I : Inv X pins σ H s) (q : Q (.bl k) H) (e : k = k') : EP X pins σ Q (.bool k') s := by
 subst e
 exact ⟨.bl k, H, I, rfl, q⟩
theorem op_eq : OpR X (compareOp .Eq) rEq := by
 intro pins s σ H x y v u Q I rx ry h
 obtain ⟨hs, q⟩ := h
 cases x with
 | non =>
  cases rx
  cases y with
  | non => cases ry; exact PySem.EqNone.eq_none_none (fin_bl I q (by simp))
  | bl j => cases ry; exact PySem.EqNone.eq_none_bool (fin_bl I q (by simp))
  | int j => obtain ⟨t', rfl⟩ := ry; exact PySem.EqNone.eq_none_int (fin_bl I q (by simp))
  | str j => obtain ⟨t', rfl⟩ := ry; exact PySem.EqNone.eq_none_str (fin_bl I q (by simp))
  | _ => exact absurd (show false = true from hs) Bool.false_ne_true
 | bl i =>
  cases rx
  cases y with
  | non => cases ry; exact PySem.EqNone.eq_bool_none (fin_bl I q (by simp))
  | bl j => cases ry; exact eq_bool (fin_bl I q dec_bl)
  | str j => obtain ⟨t', rfl⟩ := ry; exact PySem.EqMixed.eq_bool_str (fin_bl I q (by simp))
  | _ => exact absurd (show false = true from hs) Bool.false_ne_true
 | int i =>
  obtain ⟨t, rfl⟩ := rx
  cases y with
  | non => cases ry; exact PySem.EqNone.eq_int_none (fin_bl I q (by simp))
  | int j => obtain ⟨t', rfl⟩ := ry; exact eq_int (fin_bl I q dec_int)
  | str j => obtain ⟨t', rfl⟩ := ry; exact PySem.EqMixed.eq_int_str (fin_bl I q (by simp))
  | _ => exact absurd (show false = true from hs) Bool.false_ne_true
 | str i =>
  obtain ⟨t, rfl⟩ := rx
  cases y with
  | non => cases ry; exact PySem.EqNone.eq_str_none (fin_bl I q (by simp))
  | bl j => cases ry; exact PySem.EqMixed.eq_str_bool (fin_bl I q (by simp))
  | int j => obtain ⟨t', rfl⟩ := ry; exact PySem.EqMixed.eq_str_int (fin_bl I q (by simp))
  | str j => obtain ⟨t', rfl⟩ := ry; exact eq_str (fin_bl I q dec_str)
  | _ => exact absurd (show false = true from hs) Bool.false_ne_true
 | byt i =>
  obtain ⟨t, rfl⟩ := rx
  cases y with
  | byt j => obtain ⟨t', rfl⟩ := ry; exact PySem.W.eq_bytes (fin_bl I q dec_byt)
  | _ => exact absurd (show false = true from hs) Bool.false_ne_true
 | _ => cases y <;> exact absurd (show false = true from hs) Bool.false_ne_true
theorem op_ne : OpR X (compareOp .NotEq) rNe := by
 intro pins s σ H x y v u Q I rx ry h
 obtain ⟨hs, q⟩ := h
 cases x with
 | non =>
  cases rx
  cases y with
  | non => cases ry; exact PySem.EqNone.ne_none_none (fin_bl I q (by simp))
  | bl j => cases ry; exact PySem.EqNone.ne_none_bool (fin_bl I q (by simp))
  | int j => obtain ⟨t', rfl⟩ := ry; exact PySem.EqNone.ne_none_int (fin_bl I q (by simp))
  | str j => obtain ⟨t', rfl⟩ := ry; exact PySem.EqNone.ne_none_str (fin_bl I q (by simp))
  | _ => exact absurd (show false = true from hs) Bool.false_ne_true
 | bl i =>
  cases rx
  cases y with
  | non => cases ry; exact PySem.EqNone.ne_bool_none (fin_bl I q (by simp))
  | bl j => cases ry; exact ne_bool (fin_bl I q (congrArg not dec_bl))
  | str j => obtain ⟨t', rfl⟩ := ry; exact PySem.EqMixed.ne_bool_str (fin_bl I q (by simp))
  | _ => exact absurd (show false = true from hs) Bool.false_ne_true
 | int i =>
  obtain ⟨t, rfl⟩ := rx
  cases y with
  | non => cases ry; exact PySem.EqNone.ne_int_none (fin_bl I q (by simp))
  | int j => obtain ⟨t', rfl⟩ := ry; exact ne_int (fin_bl I q (congrArg not dec_int))
  | str j => obtain ⟨t', rfl⟩ := ry; exact PySem.EqMixed.ne_int_str (fin_bl I q (by simp))
  | _ => exact absurd (show false = true from hs) Bool.false_ne_true
 | str i =>
  obtain ⟨t, rfl⟩ := rx
  cases y with
  | non => cases ry; exact PySem.EqNone.ne_str_none (fin_bl I q (by simp))
  | bl j => cases ry; exact PySem.EqMixed.ne_str_bool (fin_bl I q (by simp))
  | int j => obtain ⟨t', rfl⟩ := ry; exact PySem.EqMixed.ne_str_int (fin_bl I q (by simp))
  | str j => obtain ⟨t', rfl⟩ := ry; exact ne_str (fin_bl I q (congrArg not dec_str))
  | _ => exact absurd (show false = true from hs) Bool.false_ne_true
 | byt i =>
  obtain ⟨t, rfl⟩ := rx
  cases y with
  | byt j => obtain ⟨t', rfl⟩ := ry; exact PySem.W.ne_bytes (fin_bl I q (congrArg not dec_byt))
  | _ => exact absurd (show false = true from hs) Bool.false_ne_true
 | _ => cases y <;> exact absurd (show false = true from hs) Bool.false_ne_true
theorem op_lt : OpR X (compareOp .Lt) (rI0 fun i j => .bl (decide (i < j))) := opB0 fun _ _ _ _ _ _ _ q => lt_int q
theorem op_le : OpR X (compareOp .LtE) (rI0 fun i j => .bl (decide (i ≤ j))) := opB0 fun _ _ _ _ _ _ _ q => le_int q
theorem op_gt : OpR X (compareOp .Gt) (rI0 fun i j => .bl (decide (j < i))) := opB0 fun _ _ _ _ _ _ _ q => gt_int q
theorem op_ge : OpR X (compareOp .GtE) (rI0 fun i j => .bl (decide (j ≤ i))) := opB0 fun _ _ _ _ _ _ _ q => ge_int q
theorem op_notN : OpR X (compareOp .IsNot) (fun x y H Q => y = .non ∧ Q (.bl (!decide (x = .non))) H) := by
 intro pins s σ H x y v u Q I rx ry h
 obtain ⟨rfl, q⟩ := h
 cases ry
 refine isnot_none_gen (fin_bl I q ?_)
 cases x <;> first
  | (cases rx; rfl)
  | (obtain ⟨t, rfl⟩ := rx; rfl)
theorem nomark (b : Expr) {op : CmpOp} (h : op ≠ .In := by decide) (h2 : op ≠ .NotIn := by decide) : behindInMarks op b = false := by
 have e1 : (op == CmpOp.In) = false := by cases op <;> first | rfl | exact absurd rfl h
 have e2 : (op == CmpOp.NotIn) = false := by cases op <;> first | rfl | exact absurd rfl h2
 cases b <;> simp [behindInMarks, e1, e2]
theorem pe_cmpR {op : CmpOp} {r : R2} (ho : OpR X (compareOp op) r) (ha : PE X a ta) (hb : PE X b tb) (hm : behindInMarks op b = false) : PE X (.Compare a [op] [b] pos) (tOp r ta tb) := by
 intro pins s σ H Q I h
 exact wpAny_Compare1 (binT ha hb I h fun v u s2 x y H2 I2 rx ry q => ho pins s2 σ H2 x y v u Q I2 rx ry q) hm
noncomputable def tTest (t : TE) : TT := fun σ H Q => t σ H fun x H' => ∃ k, x = .bl k ∧ Q k H'
theorem pt_cmpR {op : CmpOp} {r : R2} (ho : OpR X (compareOp op) r) (ha : PE X a ta) (hb : PE X b tb) (hm : behindInMarks op b = false) : PT X (.Compare a [op] [b] pos) (tTest (tOp r ta tb)) := by
 intro pins s σ H Q I h
 refine wpAny_isTrue_Compare1 (thn (ha pins s σ H _ I h) fun v s1 hq_ => ?_) hm
 obtain ⟨x, H1, I1, r1, q1⟩ := hq_
 refine thn (hb pins s1 σ H1 _ I1 q1) fun u s2 hq_ => ?_
 obtain ⟨y, H2, I2, r2, q2⟩ := hq_
 refine thn (ho pins s2 σ H2 x y v u _ I2 r1 r2 q2) fun c s3 hq_ => ?_
 obtain ⟨z, H3, I3, r3, k, e, q3⟩ := hq_
 subst e
 cases r3
 exact wpAny_truthy_bool ⟨H3, I3, q3⟩
def TruV (K : PySem.W.Frag) (x : V) (H : Hp) (k : Bool) : Prop :=
 match x with
 | .non => k = false
 | .bl b => k = b
 | .int i => k = (i != 0)
 | .str y => y.length ≤ sizeLine ∧ k = ((y.length : Int) != 0)
 | .byt y => y.size ≤ sizeLine ∧ k = ((y.size : Int) != 0)
 | .ref p => (∃ xs, SqL K H p xs ∧ k = !xs.isEmpty) ∨ (∃ xs, SqT K H p xs ∧ k = !xs.isEmpty) ∨ ∃ kvs, H p = some (.dK kvs) ∧ k = !kvs.isEmpty
 | _ => False
theorem isEmpty_kv {κ : Type} {kvs : List (κ × V)} {vs : List (κ × Value)} (r : KV kvs vs) : (!vs.isEmpty) = !kvs.isEmpty := by
 cases r <;> rfl
theorem isEmpty_of {xs : List V} {its : List Value} (r : Vals xs its) : (!its.toArray.isEmpty) = !xs.isEmpty := by
 cases r <;> simp
theorem line63 : (sizeLine : Nat) < 2 ^ 63 := by rw [sizeLine_eq]; decide
theorem tru_ok : TruR X (fun x H Q => ∃ k, TruV X.K x H k ∧ Q k H) := by
 intro pins s σ H x v Q I rx h
 obtain ⟨k, e, q⟩ := h
 have hl := line63
 have hs : sizeLine = 16777216 := sizeLine_eq
 cases x with
 | non =>
  cases rx
  have e' : k = false := e
  subst e'
  exact truthy_none ⟨H, I, q⟩
 | bl b =>
  cases rx
  have e' : k = b := e
  subst e'
  exact wpAny_truthy_bool ⟨H, I, q⟩
 | int i =>
  obtain ⟨t, rfl⟩ := rx
  have e' : k = (i != 0) := e
  subst e'
  exact PySem.P.truthy_int ⟨H, I, q⟩
 | str y =>
  obtain ⟨t, rfl⟩ := rx
  obtain ⟨hy, e'⟩ : y.length ≤ sizeLine ∧ k = ((y.length : Int) != 0) := e
  subst e'
  exact PySem.P.truthy_str (by omega) ⟨H, I.tok _, q⟩
 | byt y =>
  obtain ⟨t, rfl⟩ := rx
  obtain ⟨hy, e'⟩ : y.size ≤ sizeLine ∧ k = ((y.size : Int) != 0) := e
  subst e'
  exact PySem.W.truthy_bytes (by omega) ⟨H, I.tok _, q⟩
 | ref p =>
  cases rx
  have e' : (∃ xs, SqL X.K H p xs ∧ k = !xs.isEmpty) ∨ (∃ xs, SqT X.K H p xs ∧ k = !xs.isEmpty) ∨ ∃ kvs, H p = some (.dK kvs) ∧ k = !kvs.isEmpty := e
  rcases e' with ⟨xs, hx, e'⟩ | ⟨xs, hx, e'⟩ | ⟨kvs, hx, e'⟩
  ·subst e'
   obtain ⟨its, r, pl, hz⟩ := I.list hx
   have hlen := r.length
   exact wpAny_truthy_list pl.isList (by simp only [List.size_toArray]; omega) ⟨H, I.tok _, by rw [isEmpty_of r]; exact q⟩
  ·subst e'
   obtain ⟨its, r, pl, hz⟩ := I.tuple hx
   have hlen := r.length
   exact truthy_tuple pl (by simp only [List.size_toArray]; omega) ⟨H, I.tok _, by rw [isEmpty_of r]; exact q⟩
  ·subst e'
   obtain ⟨hz, hS, vs, r, m⟩ : kvs.length ≤ sizeLine ∧ (p == sysModules) = false ∧ ∃ vs, KV kvs vs ∧ s.heap.DictOf (mixKind X.prog X.w) p vs := I.hok p _ hx
   have hlen : kvs.length = vs.length := Paired.length r
   exact wpAny_truthy_dict hS m (by omega) ⟨H, I.tok _, by rw [isEmpty_kv r]; exact q⟩
 | _ => exact (show False from e).elim
theorem pt_truth (ha : PE X a ta) (he : ∀ whole, isTrue a X.env whole = (do let v ← whole; standAt a.pos; holding [v] (truthy v))) :
  PT X a (fun σ H Q => ta σ H fun x H' => ∃ k, TruV X.K x H' k ∧ Q k H') := by
 intro pins s σ H Q I h
 refine isTrue_plain (thn (ha pins s σ H _ I h) fun v s1 hq_ => ?_) (he _)
 obtain ⟨x, H1, I1, r1, q1⟩ := hq_
 exact tru_ok pins s1 σ H1 x v Q I1 r1 q1
theorem vals1 {x : V} {us : List Value} (r : Vals [x] us) : ∃ u, us = [u] ∧ RelV x u := by
 cases r with
 | cons r1 r2 => cases r2; exact ⟨_, rfl, r1⟩
theorem vals2 {x y : V} {us : List Value} (r : Vals [x, y] us) : ∃ u w', us = [u, w'] ∧ RelV x u ∧ RelV y w' := by
 cases r with
 | cons r1 r2 =>
  cases r2 with
  | cons r3 r4 => cases r4; exact ⟨_, _, rfl, r1, r3⟩
theorem call_abs : CallR X (.builtin "abs") (fun xs H Q => ∃ i, xs = [.int i] ∧ Q (.int (if i < 0 then -i else i)) H) := by
 intro pins s σ H xs us Q I r h
 obtain ⟨i, rfl, q⟩ := h
 obtain ⟨u, rfl, t, rfl⟩ := vals1 r
 exact call_abs_int fun u tk => ⟨.int (if i < 0 then -i else i), H, I.tok _, ⟨_, rfl⟩, q⟩
theorem call_max2 (hc : X.calm = true) : CallR X (.builtin "max") (fun xs H Q => ∃ i j, xs = [.int i, .int j] ∧ Q (.int (if j > i then j else i)) H) := by
 intro pins s σ H xs us Q I r h
 obtain ⟨i, j, rfl, q⟩ := h
 obtain ⟨u, w', rfl, ⟨t, rfl⟩, ⟨t', rfl⟩⟩ := vals2 r
 refine max_two_ints (I.ok.hd hc) fun h' tk k => ⟨_, H, I.kept k, ?_, q⟩
 by_cases hj : j > i
 ·rw [if_pos hj, if_pos hj]; exact ⟨_, rfl⟩
 ·rw [if_neg hj, if_neg hj]; exact ⟨_, rfl⟩
theorem call_min2 (hc : X.calm = true) : CallR X (.builtin "min") (fun xs H Q => ∃ i j, xs = [.int i, .int j] ∧ Q (.int (if j < i then j else i)) H) := by
 intro pins s σ H xs us Q I r h
 obtain ⟨i, j, rfl, q⟩ := h
 obtain ⟨u, w', rfl, ⟨t, rfl⟩, ⟨t', rfl⟩⟩ := vals2 r
 refine min_two_ints (I.ok.hd hc) fun h' tk k => ⟨_, H, I.kept k, ?_, q⟩
 by_cases hj : j < i
 ·rw [if_pos hj, if_pos hj]; exact ⟨_, rfl⟩
 ·rw [if_neg hj, if_neg hj]; exact ⟨_, rfl⟩
theorem call_int1 : CallR X (.type "int") (fun xs H Q => (∃ i, xs = [.int i] ∧ Q (.int i) H) ∨ ∃ k, xs = [.bl k] ∧ Q (.int (if k then 1 else 0)) H) := by
 intro pins s σ H xs us Q I r h
 rcases h with ⟨i, rfl, q⟩ | ⟨k, rfl, q⟩
 ·obtain ⟨u, rfl, t, rfl⟩ := vals1 r
  exact call_int_int ⟨.int i, H, I, ⟨_, rfl⟩, q⟩
 ·obtain ⟨u, rfl, r1⟩ := vals1 r
  cases r1
  exact call_int_bool ⟨.int (if k then 1 else 0), H, I.tok _, ⟨_, rfl⟩, q⟩
end
end L2
namespace L2
open PySem PySem.Spec PyProof.Rows
structure ObjM (h : Heap) (x dx C : Addr) (mA : Str → Option Value) : Prop where
 obj : h.get? x = some (PySem.W.instObj C dx)
 ns : h.Ns1 dx mA
 ne : dx ≠ x
theorem lookIn_ns {h : Heap} {dx : Addr} {mA : Str → Option Value} (n : h.Ns1 dx mA) : ∃ od, h.get? dx = some od ∧ ∀ name, PySem.W.lookIn name od = some (mA name) := by
 obtain ⟨o, es, ep, ho, hd, hk, _, hm⟩ := n
 refine ⟨o, ho, fun name => ?_⟩
 have e := hm name
 unfold nsFind findBy at e
 rw [← Array.find?_toList] at e
 unfold PySem.W.lookIn
 rw [hd]
 dsimp only
 split
 ·rename_i y q
  rw [q] at e
  exact congrArg some e
 ·rename_i q
  rw [q] at e
  have a : es.toList.any (·.refKey) = false := by
   rw [List.any_eq_false]
   intro y hy
   obtain ⟨z, t, hkey⟩ := hk y (Array.mem_toList_iff.mp hy)
   simp [DictEntry.refKey, hkey]
  have a' : ¬ es.toList.any (·.refKey) = true := by rw [a]; exact Bool.false_ne_true
  rw [if_neg a']
  exact congrArg some e
theorem ObjM.look {h : Heap} {x dx C : Addr} {mA : Str → Option Value} (I : ObjM h x dx C mA) : ∃ od, PySem.W.InstAt h x (PySem.W.instObj C dx) C (some od) ∧ ∀ name, PySem.W.lookIn name od = some (mA name) :=
 let ⟨od, ho, hl⟩ := lookIn_ns I.ns
 ⟨od, ⟨I.obj, rfl, rfl, ho⟩, hl⟩
section
variable {prog : Program} {w : World} {A : Around} {E : Value → Shared → Prop} {s : Shared} {K : PySem.W.Frag} {x dx C f : Addr} {mA : Str → Option Value} {name : Str} {v : Value}
theorem get_map {expr : Bool} {Q : Value → Shared → Prop} (X : K.In s.heap) (I : ObjM s.heap x dx C mA) (hg : PySem.W.plainGet K C name = true) (hh : PySem.W.hasDictIn K C = true)
  (ha : PySem.W.findIn K (.ref C) name = some none) (hv : mA name = some v) (hv' : PySem.W.handedIn v = true) (h : Q v { s with toks := s.toks + 1 }) :
  wpAny (model prog w) A (getAttr (.ref x) name expr) Q E s := by
 obtain ⟨od, J, hl⟩ := I.look
 exact PySem.W.get_value X J (PySem.W.plainGet_of hg).1 (PySem.W.findObj_own hh ha rfl (by rw [hl, hv])) hv' h
theorem get_meth {pl : Sem Bool} {Q : Value × List Value → Shared → Prop} (X : K.In s.heap) (I : ObjM s.heap x dx C mA) (hg : PySem.W.plainGet K C name = true)
  (hf : PySem.W.findIn K (.ref C) name = some (some (.ref f))) (ht : PySem.W.isFn K (.ref f) = true) (hv : mA name = none) (h : Q (.ref f, [.ref x]) s) :
  wpAny (model prog w) A (getMethod (.ref x) name pl) Q E s := by
 obtain ⟨od, J, hl⟩ := I.look
 exact PySem.W.method_fn X J (PySem.W.plainGet_of hg).1 (PySem.W.plainGet_of hg).2 hf (beq_iff_eq.mp ht) (by show (PySem.W.lookIn name od).map (·.isSome) = some false; rw [hl, hv]; rfl) h
theorem set_map {ns : List Str} {Q : Unit → Shared → Prop} (X : K.In s.heap) (I : ObjM s.heap x dx C mA)
  (hs : PySem.W.findIn K (.ref C) "__setattr__" = some (some (.builtin "object.__setattr__"))) (hp : PySem.W.plainOver K C = true) (ht : PySem.W.takerIn K C name = some none) (hh : PySem.W.hasDictIn K C = true)
  (hw : PySem.Within mA ns) (hsz : ns.length ≤ sizeLine)
  (h : ∀ h', ObjM h' x dx C (fun y => if y = name then some v else mA y) → Heap.SameBut dx s.heap h' → Q () { s with heap := h', toks := s.toks + 2 }) :
  wpAny (model prog w) A (setAttr (.ref x) name v) Q E s := by
 obtain ⟨od, J, hl⟩ := I.look
 refine PySem.W.set_plain X J hs (PySem.W.osa_open (s := { s with toks := s.toks + 1 }) (r := none) X J hp ht fun b => ?_)
 obtain ⟨cd, hc, hd'⟩ := PySem.W.any_some hh
 have hx : s.heap.get? x = some ⟨.ref C, some dx, .plain, #[]⟩ := I.obj
 refine wpAny_bind (wpAny_pure (wpAny_bind (wpAny_bind (wpAny_loadPart hx (wpAny_bind (PySem.W.Looks.here (s := { s with toks := s.toks + 1 }) (PySem.W.looks_clsIn X hc) ?_))))))
 rw [hd']
 refine wpAny_pure (a := some dx) (wpAny_bind (wpAny_pure (wpAny_bind ?_)))
 refine wpAny_nsSet1 (s := { s with toks := s.toks + 1 }) I.ns fun h' hn2 hs2 => ?_
 obtain ⟨oD, esD, epD, hoD, hdD, hcD⟩ := hn2.count (PySem.Within.cons name v hw)
 refine wpAny_bind (wpAny_lookBehind hoD (by rw [hdD]; exact pastItsLine_dict (Nat.le_trans hcD (by rw [List.length_cons]; omega))) ?_)
 exact wpAny_pure (h _ ⟨(hs2.2 _ (Ne.symm I.ne)).trans I.obj, hn2, I.ne⟩ hs2)
theorem make_map {R : Result → Shared → Prop} {vs : List Value} {kw : List (Str × Value)} (X : K.In s.heap) (hm : PySem.W.makesIn K C = true)
  (hi : PySem.W.findIn K (.ref C) "__init__" = some (some (.ref f))) (hf : PySem.W.typeIn K (.ref f) = some (.type "function"))
  (h : codeAny (model prog w) (A.under (.builtin "type.__call__" ⟨.ref C :: vs, kw⟩)) (.call (.ref f) ⟨.ref (s.heap.objs.size + 1) :: vs, kw⟩) (PySem.W.InitBack (s.heap.objs.size + 1) R)
   { s with heap := (s.heap.push PySem.W.emptyDict).push (PySem.W.instObj C s.heap.objs.size) }) :
  codeAny (model prog w) A (.call (.ref C) ⟨vs, kw⟩) R s := by
 obtain ⟨hh, g, d, t, os⟩ := s
 exact PySem.W.make_core (PySem.W.makes_of X hm) (PySem.W.looks_findIn X hi) (fun self => PySem.W.bind_fn X self hf) (.inl rfl) h
end
noncomputable def putF (f : Str) (v : V) : List (Str × V) → List (Str × V)
 | [] => [(f, v)]
 | (g, x) :: r => if g = f then (g, v) :: r else (g, x) :: putF f v r
theorem lookup_putF (f g : Str) (v : V) : ∀ fs : List (Str × V), (putF f v fs).lookup g = if g = f then some v else fs.lookup g
 | [] => by
  show List.lookup g [(f, v)] = _
  by_cases h : g = f
  ·have hb : (g == f) = true := beq_iff_eq.mpr h
   simp only [List.lookup, hb, if_pos h]
  ·have hb : (g == f) = false := beq_eq_false_iff_ne.mpr h
   simp only [List.lookup, hb, if_neg h]
 | (k, x) :: r => by
  have ih := lookup_putF f g v r
  rw [show putF f v ((k, x) :: r) = (if k = f then (k, v) :: r else (k, x) :: putF f v r) from rfl]
  by_cases hk : k = f
  ·rw [if_pos hk]
   by_cases h : g = k
   ·have hb : (g == k) = true := beq_iff_eq.mpr h
    simp only [List.lookup, hb, if_pos (h.trans hk)]
   ·have hb : (g == k) = false := beq_eq_false_iff_ne.mpr h
    simp only [List.lookup, hb, if_neg (fun e : g = f => h (e.trans hk.symm))]
  ·rw [if_neg hk]
   by_cases h : g = k
   ·have hb : (g == k) = true := beq_iff_eq.mpr h
    simp only [List.lookup, hb, if_neg (fun e : g = f => hk (h.symm.trans e))]
   ·have hb : (g == k) = false := beq_eq_false_iff_ne.mpr h
    simp only [List.lookup, hb]
    exact ih
theorem keys_putF (f : Str) (v : V) : ∀ fs : List (Str × V), f ∈ (putF f v fs).map (·.1) ∧ ∀ g, g ∈ fs.map (·.1) → g ∈ (putF f v fs).map (·.1)
 | [] => ⟨by simp [putF], fun g h => by simp at h⟩
 | (k, x) :: r => by
  obtain ⟨i1, i2⟩ := keys_putF f v r
  rw [show putF f v ((k, x) :: r) = (if k = f then (k, v) :: r else (k, x) :: putF f v r) from rfl]
  by_cases hk : k = f
  ·rw [if_pos hk]
   subst hk
   exact ⟨by simp, fun g h => by simpa using h⟩
  ·rw [if_neg hk]
   refine ⟨?_, fun g h => ?_⟩
   ·rw [List.map_cons]
    exact List.mem_cons_of_mem _ i1
   ·rw [List.map_cons] at h ⊢
    rcases List.mem_cons.mp h with e | e
    ·exact List.mem_cons.mpr (.inl e)
    ·exact List.mem_cons_of_mem _ (i2 g e)
theorem length_putF (f : Str) (v : V) : ∀ fs : List (Str × V), (putF f v fs).length ≤ fs.length + 1
 | [] => by simp [putF]
 | (k, x) :: r => by
  have ih := length_putF f v r
  rw [show putF f v ((k, x) :: r) = (if k = f then (k, v) :: r else (k, x) :: putF f v r) from rfl]
  by_cases hk : k = f
  ·rw [if_pos hk, List.length_cons, List.length_cons]; omega
  ·rw [if_neg hk, List.length_cons, List.length_cons]; omega
theorem RelO.some_of {v : V} {o : Option Value} (r : RelO (some v) o) : ∃ u, o = some u ∧ RelV v u := by
 cases o with
 | none => exact (show False from r).elim
 | some u => exact ⟨u, rfl, r⟩
theorem RelO.none_of {o : Option Value} (r : RelO none o) : o = none := by
 cases o with
 | none => rfl
 | some u => exact (show False from r).elim
theorem handed_of {v : V} {u : Value} (r : RelV v u) : PySem.W.handedIn u = true := by
 cases v with
 | non => cases (show u = Value.none from r); rfl
 | bl b => cases (show u = Value.bool b from r); rfl
 | int i => obtain ⟨t, e⟩ := (show ∃ t, u = Value.int i t from r); cases e; rfl
 | str x => obtain ⟨t, e⟩ := (show ∃ t, u = Value.str x t from r); cases e; rfl
 | byt b => obtain ⟨t, e⟩ := (show ∃ t, u = Value.bytes b t from r); cases e; rfl
 | flt b => obtain ⟨t, e⟩ := (show ∃ t, u = Value.float b t from r); cases e; rfl
 | ref a => cases (show u = Value.ref a from r); rfl
 | ty n => cases (show u = Value.type n from r); rfl
section
variable {P : Program} {w : World} {H H' : Hp} {h h' : Heap} {a C dx : Addr} {fs fs' : List (Str × V)}
theorem ins_get (hok : HOk P w H h) (e : H a = some (.ins C dx fs)) : ∃ mA, ObjM h a dx C mA ∧ (∀ f, RelO (fs.lookup f) (mA f)) ∧ PySem.Within mA (fs.map (·.1)) ∧ fs.length ≤ 1000 ∧ H dx = some (.own a) := by
 obtain ⟨d, z, ne, ob, mA, n, r, q⟩ := (show ObjOk P w H h a (.ins C dx fs) from hok a _ e)
 exact ⟨mA, ⟨ob, n, ne⟩, r, q, z, d⟩
end
structure Cls (K : PySem.W.Frag) (C : Addr) : Prop where
 pg : PySem.W.plainGet K C Str.empty = true
 hd : PySem.W.hasDictIn K C = true
 po : PySem.W.plainOver K C = true
 sa : PySem.W.findIn K (.ref C) "__setattr__" = some (some (.builtin "object.__setattr__"))
theorem Cls.get {K : PySem.W.Frag} {C : Addr} (c : Cls K C) (f : Str) : PySem.W.plainGet K C f = true := c.pg
def NoAttr (K : PySem.W.Frag) (C : Addr) (f : Str) : Prop := PySem.W.findIn K (.ref C) f = some none
theorem NoAttr.taker {K : PySem.W.Frag} {C : Addr} {f : Str} (n : NoAttr K C f) : PySem.W.takerIn K C f = some none := by
 unfold PySem.W.takerIn
 rw [show PySem.W.findIn K (.ref C) f = some none from n]
 rfl
structure Meth (K : PySem.W.Frag) (C : Addr) (m : Str) (f : Addr) : Prop where
 at_ : PySem.W.findIn K (.ref C) m = some (some (.ref f))
 fn : PySem.W.isFn K (.ref f) = true
 kp : PySem.W.keepIn K (.ref f) = true
section
variable {X : Cx} {pins : List (Addr × Obj)} {σ : St} {H : Hp} {s : Shared} {a C dx : Addr} {fs : List (Str × V)} {f : Str} {v : V} {A : Around} {E : Value → Shared → Prop}
theorem getattr_ok {b : Bool} {Q : Value → Shared → Prop} (I : Inv X pins σ H s) (e : H a = some (.ins C dx fs)) (c : Cls X.K C) (n : NoAttr X.K C f) (l : fs.lookup f = some v)
  (h : ∀ u s', Inv X pins σ H s' → RelV v u → Q u s') : wpAny (model X.prog X.w) A (getAttr (.ref a) f b) Q E s := by
 obtain ⟨mA, O, r, _, _, _⟩ := ins_get I.hok e
 obtain ⟨u, hu, ru⟩ := RelO.some_of (v := v) (o := mA f) (by rw [← l]; exact r f)
 exact get_map I.kIn O (c.get f) c.hd n hu (handed_of ru) (h u _ (I.tok _) ru)
theorem getmeth_ok {m : Str} {g : Addr} {pl : Sem Bool} {Q : Value × List Value → Shared → Prop} (I : Inv X pins σ H s) (e : H a = some (.ins C dx fs)) (c : Cls X.K C) (k : Meth X.K C m g) (l : fs.lookup m = none)
  (h : Q (.ref g, [.ref a]) s) : wpAny (model X.prog X.w) A (getMethod (.ref a) m pl) Q E s := by
 obtain ⟨mA, O, r, _, _, _⟩ := ins_get I.hok e
 have hn : mA m = none := RelO.none_of (by rw [← l]; exact r m)
 exact get_meth I.kIn O (c.get m) k.at_ k.fn hn h
theorem setattr_ok {y : V} {u : Value} {Q : Unit → Shared → Prop} (I : Inv X pins σ H s) (e : H a = some (.ins C dx fs)) (c : Cls X.K C) (n : NoAttr X.K C f) (hl : fs.length < 1000) (ry : RelV y u)
  (h : ∀ s', Inv X pins σ (upd H a (.ins C dx (putF f y fs))) s' → Q () s') : wpAny (model X.prog X.w) A (setAttr (.ref a) f u) Q E s := by
 obtain ⟨mA, O, r, wi, _, ho⟩ := ins_get I.hok e
 have hz : (fs.map (·.1)).length ≤ sizeLine := by rw [List.length_map, sizeLine_eq]; omega
 refine set_map I.kIn O c.sa c.po n.taker c.hd wi hz fun h' O' sb => h _ ?_
 have hd : ∃ o, h'.get? dx = some o := let ⟨o, _, _, e', _⟩ := O'.ns; ⟨o, e'⟩
 refine I.write (x := a) (e := dx) (by rw [e]; exact True.intro) (.inr ho) (fun b q hb z => (sb.2 b hb).trans z) hd ?_
 refine ⟨by rw [upd_ne O.ne]; exact ho, ?_, O.ne, O'.obj, _, O'.ns, fun g => ?_, fun g hg => ?_⟩
 ·have := length_putF f y fs; omega
 ·show RelO ((putF f y fs).lookup g) (if g = f then some u else mA g)
  rw [lookup_putF]
  by_cases q : g = f
  ·rw [if_pos q, if_pos q]; exact ry
  ·rw [if_neg q, if_neg q]; exact r g
 ·by_cases q : g = f
  ·rw [q]; exact (keys_putF f y fs).1
  ·refine (keys_putF f y fs).2 g (wi g fun z => hg ?_)
   show (if g = f then some u else mA g) = none
   rw [if_neg q]; exact z
theorem Inv.made (I : Inv X pins σ H s) : Inv X pins σ (upd (upd H s.heap.objs.size (.own (s.heap.objs.size + 1))) (s.heap.objs.size + 1) (.ins C s.heap.objs.size []))
  { s with heap := (s.heap.push PySem.W.emptyDict).push (PySem.W.instObj C s.heap.objs.size) } := by
 have e1 : (s.heap.push PySem.W.emptyDict).get? s.heap.objs.size = some PySem.W.emptyDict := Heap.get?_push_size s.heap rfl
 have e2 : ((s.heap.push PySem.W.emptyDict).push (PySem.W.instObj C s.heap.objs.size)).get? (s.heap.objs.size + 1) = some (PySem.W.instObj C s.heap.objs.size) := by
  have := Heap.get?_push_size (s.heap.push PySem.W.emptyDict) (o := PySem.W.instObj C s.heap.objs.size) rfl
  rwa [Heap.size_push] at this
 have e3 : (s.heap.push PySem.W.emptyDict).Ns s.heap.objs.size (fun _ => none) := ⟨PySem.W.emptyDict, #[], _, e1, rfl, (fun e he => absurd he (by simp)), fun _ => rfl⟩
 have I1 := I.laid (a := s.heap.objs.size) (o := .own (s.heap.objs.size + 1)) (h' := s.heap.push PySem.W.emptyDict) (t' := s.toks) (fun b u q => Heap.get?_push_of_some _ q) (Nat.le_refl _) ⟨_, e1⟩
 refine I1.laid (a := s.heap.objs.size + 1) (o := .ins C s.heap.objs.size []) (t' := s.toks) (fun b u q => Heap.get?_push_of_some _ q) (Nat.le_of_eq (Heap.size_push _ _)) ?_
 have ne : s.heap.objs.size ≠ s.heap.objs.size + 1 := Nat.ne_of_lt (Nat.lt_succ_self _)
 refine ⟨by rw [upd_ne ne, upd_same], Nat.zero_le _, ne, e2, fun _ => none, (Heap.Ns1.of_empty e3).at fun o q => Heap.get?_push_of_some _ q, fun _ => True.intro, fun y hy => absurd rfl hy⟩
theorem attr_of {prog : Program} {w : World} {env : Env} {e : Expr} {f : Str} {pos : Pos} {s : Shared} {Q : Value → Shared → Prop} (hb : attributeBase e f env (eval e env) = eval e env)
  (h : wpAny (model prog w) A (eval e env) (fun o s₁ => wpAny (model prog w) A (getAttr o f true) Q E s₁) E s) : wpAny (model prog w) A (eval (.Attribute e f pos) env) Q E s :=
 Attribute_any_ h (by rw [arm_eval_Attribute, hb])
end
noncomputable def tFld (K : PySem.W.Frag) (ta : TE) (f : Str) : TE := fun σ H Q => ta σ H fun x H1 => ∃ a C dx fs v, x = .ref a ∧ H1 a = some (.ins C dx fs) ∧ Cls K C ∧ NoAttr K C f ∧ fs.lookup f = some v ∧ Q v H1
noncomputable def sFld (K : PySem.W.Frag) (ta tv : TE) (f : Str) : TS := fun D σ H => tv σ H fun y H1 => ta σ H1 fun x H2 => ∃ a C dx fs, x = .ref a ∧ H2 a = some (.ins C dx fs) ∧ Cls K C ∧ NoAttr K C f ∧ fs.length < 1000 ∧
 D.nx σ (upd H2 a (.ins C dx (putF f y fs)))
def InOp (X : Cx) (op : Operator) (rd : V → V → Hp → VK → Prop) : Prop :=
 ∀ (pins : List (Addr × Obj)) (s : Shared) (σ : St) (H : Hp) (x y : V) (u v : Value) (Q : VK), Inv X pins σ H s → RelV x u → RelV y v → rd x y H Q → wpAny (model X.prog X.w) X.A (inplaceOp op u v) (EP X pins σ Q) X.xe s
noncomputable def sFldAug (K : PySem.W.Frag) (ta tv : TE) (rd : V → V → Hp → VK → Prop) (f : Str) : TS := fun D σ H => ta σ H fun x H1 => ∃ a C dx fs v, x = .ref a ∧ H1 a = some (.ins C dx fs) ∧ Cls K C ∧ NoAttr K C f ∧ fs.lookup f = some v ∧
 tv σ H1 fun y H2 => rd v y H2 fun z H3 => ∃ dx' fs', H3 a = some (.ins C dx' fs') ∧ fs'.length < 1000 ∧ D.nx σ (upd H3 a (.ins C dx' (putF f z fs')))
section
variable {X : Cx} {o e value : Expr} {f : Str} {pos pos' tpos : Pos} {ta tv : TE}
theorem pe_fld (he : PE X e ta) (hb : attributeBase e f X.env (eval e X.env) = eval e X.env) : PE X (.Attribute e f pos) (tFld X.K ta f) := by
 intro pins s σ H Q I h
 refine attr_of hb (thn (he pins s σ H _ I h) fun u s1 hq_ => ?_)
 obtain ⟨x, H1, I1, rx, a, C, dx, fs, v, ex, ea, c, n, l, q⟩ := hq_
 subst ex
 obtain rfl : u = Value.ref a := rx
 exact getattr_ok I1 ea c n l fun u' s2 I2 ru => ⟨v, H1, I2, ru, q⟩
theorem ps_fld (ha : PE X o ta) (hv : PE X value tv) (hs : swapsWith value (some (.Attribute o f pos')) pos.line X.env = pure false) : PS X (.Assign [.Attribute o f pos'] value pos) (sFld X.K ta tv f) := by
 intro pins s σ H D I h
 refine plainObj_wpAny_Assign_Attribute (thn (hv pins s σ H _ I h) fun u s1 hq_ => ?_) hs
 obtain ⟨y, H1, I1, ry, q⟩ := hq_
 refine thn (ha pins s1 σ H1 _ I1 q) fun ov s2 hq_ => ?_
 obtain ⟨x, H2, I2, rx, a, C, dx, fs, ex, ea, c, n, l, q2⟩ := hq_
 subst ex
 obtain rfl : ov = Value.ref a := rx
 exact setattr_ok I2 ea c n l ry fun s3 I3 => ⟨σ, _, I3, q2⟩
theorem ps_fldaug {op : Operator} {rd : V → V → Hp → VK → Prop} (ha : PE X o ta) (hv : PE X value tv) (hop : InOp X op rd) : PS X (.AugAssign (.Attribute o f tpos) op value pos) (sFldAug X.K ta tv rd f) := by
 intro pins s σ H D I h
 refine wpAny_AugAssign_AttributeAny (thn (ha pins s σ H _ I h) fun ov s1 hq_ => ?_)
 obtain ⟨x, H1, I1, rx, a, C, dx, fs, v, ex, ea, c, n, l, q⟩ := hq_
 subst ex
 obtain rfl : ov = Value.ref a := rx
 refine getattr_ok I1 ea c n l fun u s2 I2 ru => thn (hv pins s2 σ H1 _ I2 q) fun w3 s3 hq_ => ?_
 obtain ⟨y, H2, I3, ry, q3⟩ := hq_
 refine thn (hop pins s3 σ H2 v y u w3 _ I3 ru ry q3) fun w4 s4 hq_ => ?_
 obtain ⟨z, H3, I4, rz, dx', fs', ea', l', q4⟩ := hq_
 exact setattr_ok I4 ea' c n l' rz fun s5 I5 => ⟨σ, _, I5, q4⟩
noncomputable def rAdd : V → V → Hp → VK → Prop := fun x y H Q => ∃ i j, x = .int i ∧ y = .int j ∧ Q (.int (i + j)) H
noncomputable def rSub : V → V → Hp → VK → Prop := fun x y H Q => ∃ i j, x = .int i ∧ y = .int j ∧ Q (.int (i - j)) H
theorem in_add : InOp X .Add rAdd := by
 rintro pins s σ H x y u v Q I rx ry ⟨i, j, rfl, rfl, q⟩
 obtain ⟨t, rfl⟩ := (show ∃ t, u = Value.int i t from rx)
 obtain ⟨t', rfl⟩ := (show ∃ t', v = Value.int j t' from ry)
 exact PyProof.Rows.iadd_int ⟨.int (i + j), H, I.tok _, ⟨_, rfl⟩, q⟩
theorem in_sub : InOp X .Sub rSub := by
 rintro pins s σ H x y u v Q I rx ry ⟨i, j, rfl, rfl, q⟩
 obtain ⟨t, rfl⟩ := (show ∃ t, u = Value.int i t from rx)
 obtain ⟨t', rfl⟩ := (show ∃ t', v = Value.int j t' from ry)
 exact PyProof.Rows.isub_int ⟨.int (i - j), H, I.tok _, ⟨_, rfl⟩, q⟩
theorem methcall_of {pl : Sem Bool} {m : Str} {apos : Pos} {args : List Expr} {pins : List (Addr × Obj)} {s : Shared} {σ : St} {H : Hp} {Q : Value → Shared → Prop} {te : TE} (he : PE X e te) (I : Inv X pins σ H s)
  (h : te σ H fun x H1 => ∃ a C dx fs g, x = .ref a ∧ H1 a = some (.ins C dx fs) ∧ Cls X.K C ∧ Meth X.K C m g ∧ fs.lookup m = none ∧
   ∀ s1, Inv X pins σ H1 s1 → wpAny (model X.prog X.w) X.A (callWith pos (.ref g) [.ref a] (backTo pos (starEach args X.env)) (backToKw pos (keywordEach [] X.env))) Q X.xe s1)
  (ht : eval (.Call (.Attribute e m apos) args [] pos) X.env = (do
   let ov ← eval e X.env
   standAt apos.atName
   let (f, first) ← holding [ov] (getMethod ov m pl)
   callWith pos f first (backTo pos (starEach args X.env)) (backToKw pos (keywordEach [] X.env)))) :
  wpAny (model X.prog X.w) X.A (eval (.Call (.Attribute e m apos) args [] pos) X.env) Q X.xe s := by
 refine PySem.W.methodCall_KW (pl := pl) (thn (he pins s σ H _ I h) fun u s1 hq_ => ?_) ht
 obtain ⟨x, H1, I1, rx, a, C, dx, fs, g, ex, ea, c, k, l, q⟩ := hq_
 subst ex
 obtain rfl : u = Value.ref a := rx
 exact getmeth_ok I1 ea c k l (q s1 I1)
end
end L2
namespace L2
open PySem PySem.Spec PyProof.Rows
structure Room (k : Nat) (A : Around) : Prop where
 hd : A.handled = none
 dp : A.depth + 3 * k + 5 < recursionLimit
 un : A.units + 16 * k + 200 < cLine
 gd : A.guards = some [] := by rfl
theorem Room.mono {j k : Nat} {A : Around} (r : Room k A) (h : j ≤ k) : Room j A := ⟨r.hd, by have := r.dp; omega, by have := r.un; omega, r.gd⟩
theorem Room.deeper {k : Nat} {A : Around} (r : Room (k + 1) A) (env : Env) : Room k (A.deeper env) :=
 ⟨r.hd, by have := r.dp; show A.depth + 1 + 3 * k + 5 < _; omega, by have := r.un; show A.units + 3 + 16 * k + 200 < _; omega, r.gd⟩
theorem make_depth {A : Around} {C : Addr} {us : List Value} {kw : List (Str × Value)} : (A.under (.builtin "type.__call__" ⟨.ref C :: us, kw⟩)).depth = A.depth + 1 := by
 first | rfl | simp [Around.under, Code.weight, Code.isCreation, Code.isGuard, Code.isCaller, Code.frames, Code.isFrame, guardIds]
theorem make_units {A : Around} {C : Addr} {us : List Value} {kw : List (Str × Value)} : (A.under (.builtin "type.__call__" ⟨.ref C :: us, kw⟩)).units = A.units + 1 := by
 first | rfl | simp [Around.under, Code.cUnits, Code.frames, Code.isFrame]
theorem Room.make {k : Nat} {A : Around} (r : Room (k + 1) A) (C : Addr) (us : List Value) (kw : List (Str × Value)) : Room k (A.under (.builtin "type.__call__" ⟨.ref C :: us, kw⟩)) :=
 ⟨r.hd, by have := r.dp; rw [make_depth]; omega, by have := r.un; rw [make_units]; omega, by first | exact r.gd | (simpa [Around.under, Code.guards, Code.isGuard, pushGuards, guardIds] using r.gd)⟩
theorem Room.depth {k : Nat} {A : Around} (r : Room k A) : A.depth < recursionLimit := by have := r.dp; omega
theorem Room.units {k : Nat} {A : Around} (r : Room k A) : A.units + 64 < cLine := by have := r.un; omega
noncomputable def tNil : TA := fun _ H Q => Q [] H
noncomputable def tCons (ta : TE) (tr : TA) : TA := fun σ H Q => ta σ H fun x H1 => tr σ H1 fun xs H2 => Q (x :: xs) H2
section
variable {X : Cx} {e : Expr} {es : List Expr} {te : TE} {t : TA} {pos : Pos}
theorem pa_nil : PA X [] tNil := fun _ _ _ _ H Q I h => Calls.spliced_nil ⟨[], H, I, .nil, h⟩
theorem pa_cons (ha : PE X e te) (hr : PA X es t) (hs : starEach (e :: es) X.env = (false, eval e X.env) :: starEach es X.env := by rfl) : PA X (e :: es) (tCons te t) := by
 intro pos pins s σ H Q I h
 rw [hs]
 show wpAny _ _ (spliced ((false, eval e X.env) :: backTo pos (starEach es X.env))) _ _ s
 refine Calls.spliced_cons (thn (ha pins s σ H _ I h) fun u s1 hq_ => ?_)
 obtain ⟨x, H1, I1, r1, q1⟩ := hq_
 refine thn (hr pos pins s1 σ H1 _ I1 q1) fun us s2 hq_ => ?_
 obtain ⟨xs, H2, I2, r2, q2⟩ := hq_
 exact ⟨x :: xs, H2, I2, .cons r1 r2, q2⟩
noncomputable def tTup (t : TA) : TE := fun σ H Q => t σ H fun xs H1 => xs.length ≤ sizeLine ∧ ∀ p, H1 p = none → Q (.ref p) (upd H1 p (.tup xs))
noncomputable def tLst (t : TA) : TE := fun σ H Q => t σ H fun xs H1 => xs.length ≤ sizeLine ∧ ∀ p, H1 p = none → Q (.ref p) (upd H1 p (.lst xs))
theorem pe_tup {x1} (h : PA X es t) : PE X (.Tuple es x1 pos) (tTup t) := by
 intro pins s σ H Q I hq
 refine wpAny_Tuple_spliced (thn (h pos pins s σ H _ I hq) fun us s1 hq_ => ?_)
 obtain ⟨xs, H1, I1, r, z, q⟩ := hq_
 refine ⟨by rw [← r.length]; exact z, ?_⟩
 have hf : H1 s1.heap.objs.size = none := I1.hok.fresh (Nat.le_refl _)
 refine ⟨.ref s1.heap.objs.size, upd H1 s1.heap.objs.size (.tup xs), I1.laid (t' := s1.toks) (fun b u e => Heap.get?_push_of_some _ e) (Nat.le_refl _) ?_, rfl, q _ hf⟩
 exact ⟨z, us, r, ⟨_, Heap.get?_push_size _ rfl, rfl, _, rfl⟩⟩
theorem pe_lst (h : PA X es t) : PE X (.List es pos) (tLst t) := by
 intro pins s σ H Q I hq
 refine wpAny_List_spliced (thn (h pos pins s σ H _ I hq) fun us s1 hq_ => ?_)
 obtain ⟨xs, H1, I1, r, z, q⟩ := hq_
 refine ⟨by rw [← r.length]; exact z, ?_⟩
 have hf : H1 s1.heap.objs.size = none := I1.hok.fresh (Nat.le_refl _)
 refine ⟨.ref s1.heap.objs.size, upd H1 s1.heap.objs.size (.lst xs), I1.laid (t' := s1.toks) (fun b u e => Heap.get?_push_of_some _ e) (Nat.le_refl _) ?_, rfl, q _ hf⟩
 exact ⟨z, us, 0, r, Heap.get?_push_size _ rfl⟩
end
noncomputable abbrev Sp := List V → Hp → VK → XK → Prop
noncomputable abbrev CXT := List Env → Hp → Shared → XK → Value → Shared → Prop
structure Env0 (P : Program) (w : World) (K : PySem.W.Frag) (mg : Str → Option Value) (base : Heap) (A : Around) (outer : List Env) (s : Shared) (H : Hp) : Prop where
 frames : A.frames = some outer
 mod : Mod K mg base
 bs : ∀ b o, base.get? b = some o → s.heap.get? b = some o ∧ H b = none
 bsz : base.objs.size ≤ s.heap.objs.size
 funs : s.heap.FunFrames base outer
 frf : ∀ b ∈ frs outer, H b = none
 hok : HOk P w H s.heap
 bare : AllBare s.gens
def CE (outer : List Env) (P : Program) (w : World) (H : Hp) (s : Shared) (Q : VK) (u : Value) (s' : Shared) : Prop :=
 ∃ v H', s'.os = s.os ∧ AllBare s'.gens ∧ Un (frs outer) [] H H' s.heap s'.heap ∧ HOk P w H' s'.heap ∧ RelV v u ∧ Q v H'
def CR (CX : CXT) (outer : List Env) (P : Program) (w : World) (H : Hp) (s : Shared) (Q : VK) (E : XK) (r : Result) (s' : Shared) : Prop :=
 match r with
 | .ok (.ret u) => CE outer P w H s Q u s'
 | .ok _ => False
 | .error e => CX outer H s E e s'
structure FnOk (P : Program) (w : World) (K : PySem.W.Frag) (mg : Str → Option Value) (base : Heap) (CX : CXT) (k : Nat) (f : Addr) (fd : FuncData) (ps : List Str) (sp : Sp) : Prop where
 len : ∀ vs H Q E, sp vs H Q E → vs.length = ps.length
 run : ∀ (A : Around) (outer : List Env) (s : Shared) (H : Hp) (args : Args) (us : List Value) (vs : List V) (Q : VK) (E : XK), Room k A → Env0 P w K mg base A outer s H → BindsTo s fd args (ps.zip us) → Vals vs us → sp vs H Q E →
  codeAny (model P w) A (.call (.ref f) args) (CR CX outer P w H s Q E) s
theorem Env0.make {P : Program} {w : World} {K : PySem.W.Frag} {mg : Str → Option Value} {base : Heap} {A : Around} {outer : List Env} {s : Shared} {H : Hp} (e : Env0 P w K mg base A outer s H) (C : Addr) (us : List Value) (kw : List (Str × Value)) :
  Env0 P w K mg base (A.under (.builtin "type.__call__" ⟨.ref C :: us, kw⟩)) outer s H := ⟨by first | exact e.frames | (simpa [Around.under, Code.envs, Code.isFrame, pushEnvs] using e.frames), e.mod, e.bs, e.bsz, e.funs, e.frf, e.hok, e.bare⟩
section
variable {X : Cx} {pins : List (Addr × Obj)} {σ : St} {H : Hp} {s s' : Shared}
theorem Inv.env0 (I : Inv X pins σ H s) : Env0 X.prog X.w X.K X.mg X.base X.A X.stack s H :=
 ⟨I.ok.frames, I.ok.mod, I.bs, Nat.le_trans I.ok.bsz I.sz, I.stack, I.stkFree, I.hok, I.bare⟩
theorem Inv.after {Q : VK} {u : Value} (I : Inv X pins σ H s) (h : CE X.stack X.prog X.w H s Q u s') : EP X pins σ Q u s' := by
 obtain ⟨v, H', os, bare, un, hok, r, q⟩ := h
 obtain ⟨hh, g, d, t, os'⟩ := s'
 obtain rfl : os' = s.os := os
 exact ⟨v, H', I.call (h' := hh) (g' := g) (d' := d) (t' := t) (ch := []) un hok bare (fun b z => absurd z (by simp)), r, q⟩
end
noncomputable def tCall (sp : Sp) (dvs : List V) (E : XK) (t : TA) : TE := fun σ H Q => t σ H fun vs H1 => sp (vs ++ dvs) H1 Q E
noncomputable def tMeth (C : Addr) (m : Str) (sp : Sp) (dvs : List V) (E : XK) (ta : TE) (t : TA) : TE := fun σ H Q => ta σ H fun x H1 => ∃ a dx fs, x = .ref a ∧ H1 a = some (.ins C dx fs) ∧ fs.lookup m = none ∧
 t σ H1 fun vs H2 => sp (x :: (vs ++ dvs)) H2 Q E
noncomputable def tMake (C : Addr) (sp : Sp) (dvs : List V) (E : XK) (t : TA) : TE := fun σ H Q => t σ H fun vs H1 => ∀ x dx, H1 x = none → H1 dx = none → dx ≠ x →
 sp (.ref x :: (vs ++ dvs)) (upd (upd H1 dx (.own x)) x (.ins C dx [])) (fun v H2 => v = .non ∧ Q (.ref x) H2) E
def Binds (K : PySem.W.Frag) (fd : FuncData) (ps : List Str) (ds : List Value) : Prop :=
 ∀ (s : Shared) (us : List Value), K.In s.heap → (us ++ ds).length = ps.length → BindsTo s fd ⟨us, []⟩ (ps.zip (us ++ ds))
theorem Binds.all {K : PySem.W.Frag} {fd : FuncData} {ps : List Str} (h : ∀ us : List Value, us.length = ps.length → bindArgs fd ⟨us, []⟩ = pure (ps.zip us)) : Binds K fd ps [] := fun s us _ hl => by
 rw [List.append_nil] at hl ⊢
 exact .of_eq (h us hl)
def Passes (CX : CXT) (X : Cx) (E : XK) : Prop := ∀ (pins : List (Addr × Obj)) (σ : St) (H : Hp) (s : Shared) (e : Value) (s' : Shared), Inv X pins σ H s → CX X.stack H s E e s' → X.xe e s'
section
variable {X : Cx} {CX : CXT} {k : Nat} {f C : Addr} {fd : FuncData} {ps : List Str} {sp : Sp} {dvs : List V} {ds : List Value} {E : XK} {x m : Str} {p pos apos : Pos} {e o : Expr} {es : List Expr} {ta : TE} {t : TA}
theorem run_fn {pins : List (Addr × Obj)} {σ : St} {H : Hp} {s : Shared} {Q : VK} {us : List Value} {vs : List V} (F : FnOk X.prog X.w X.K X.mg X.base CX k f fd ps sp) (hr : Room k X.A) (hb : Binds X.K fd ps ds) (hd : Vals dvs ds) (hx : Passes CX X E)
  (I : Inv X pins σ H s) (r : Vals vs us) (h : sp (vs ++ dvs) H Q E) : wpAny (model X.prog X.w) X.A (call (.ref f) us) (EP X pins σ Q) X.xe s := by
 have r2 : Vals (vs ++ dvs) (us ++ ds) := r.append hd
 have hl : (us ++ ds).length = ps.length := by rw [← r2.length]; exact F.len _ _ _ _ h
 refine wpAny_call (codeAny_mono (F.run X.A X.stack s H ⟨us, []⟩ (us ++ ds) (vs ++ dvs) Q E hr I.env0 (hb s us I.kIn hl) r2 h) fun r s' hq => ?_)
 cases r with
 | error e => exact hx pins σ H s e s' I hq
 | ok fl =>
  cases fl with
  | ret u => exact I.after hq
  | next => exact False.elim hq
  | brk => exact False.elim hq
  | cont => exact False.elim hq
theorem pe_call (F : FnOk X.prog X.w X.K X.mg X.base CX k f fd ps sp) (hr : Room k X.A) (hg : Gl X x) (hm : X.mg x = some (.ref f)) (hk : PySem.W.keepIn X.K (.ref f) = true) (hb : Binds X.K fd ps ds) (hd : Vals dvs ds) (hx : Passes CX X E)
  (ha : PA X (e :: es) t) (hdb : (x == ("__debug__" : Str)) = false := by decide) (he : starEach (e :: es) X.env = (false, eval e X.env) :: starEach es X.env := by rfl) (hpl : (backTo pos (starEach es X.env)).any (·.1) = false := by rfl) :
  PE X (.Call (.Name x p) (e :: es) [] pos) (tCall sp dvs E t) := by
 intro pins s σ H Q I h
 refine wpAny_Call_Name_kw (ld_glob I hg hm ?_ hdb)
 refine PySem.W.callWith_K (h₀ := X.base) I.ok.mod.kin hk (thn (ha pos pins s σ H _ I h) fun us s1 hq_ => ?_) he hpl
 obtain ⟨vs, H1, I1, r, q⟩ := hq_
 refine ⟨I1.kIn, ?_⟩
 exact run_fn F hr hb hd hx I1 r q
theorem pe_meth {pl : Sem Bool} (he : PE X o ta) (c : Cls X.K C) (hm : Meth X.K C m f) (F : FnOk X.prog X.w X.K X.mg X.base CX k f fd ps sp) (hr : Room k X.A) (hb : Binds X.K fd ps ds) (hd : Vals dvs ds) (hx : Passes CX X E) (ha : PA X (e :: es) t)
  (hst : starEach (e :: es) X.env = (false, eval e X.env) :: starEach es X.env := by rfl) (hpl : (backTo pos (starEach es X.env)).any (·.1) = false := by rfl)
  (ht : eval (.Call (.Attribute o m apos) (e :: es) [] pos) X.env = (do
   let ov ← eval o X.env
   standAt apos.atName
   let (f, first) ← holding [ov] (getMethod ov m pl)
   callWith pos f first (backTo pos (starEach (e :: es) X.env)) (backToKw pos (keywordEach [] X.env))) := by rfl) :
  PE X (.Call (.Attribute o m apos) (e :: es) [] pos) (tMeth C m sp dvs E ta t) := by
 intro pins s σ H Q I h
 refine PySem.W.methodCall_KW (pl := pl) (thn (he pins s σ H _ I h) fun u s1 hq_ => ?_) ht
 obtain ⟨x, H1, I1, rx, a, dx, fs, ex, ea, l, q⟩ := hq_
 subst ex
 obtain rfl : u = Value.ref a := rx
 refine getmeth_ok I1 ea c hm l ?_
 refine PySem.W.callWith_K (first := [.ref a]) (h₀ := X.base) I.ok.mod.kin hm.kp (thn (ha pos pins s1 σ H1 _ I1 q) fun us s2 hq_ => ?_) hst hpl
 obtain ⟨vs, H2, I2, r, q2⟩ := hq_
 refine ⟨I2.kIn, ?_⟩
 exact run_fn (us := .ref a :: us) (vs := .ref a :: vs) F hr hb hd hx I2 (.cons rfl r) q2
theorem pe_meth0 {pl : Sem Bool} (he : PE X o ta) (c : Cls X.K C) (hm : Meth X.K C m f) (F : FnOk X.prog X.w X.K X.mg X.base CX k f fd ps sp) (hr : Room k X.A) (hb : Binds X.K fd ps ds) (hd : Vals dvs ds) (hx : Passes CX X E)
  (ht : eval (.Call (.Attribute o m apos) [] [] pos) X.env = (do
   let ov ← eval o X.env
   standAt apos.atName
   let (f, first) ← holding [ov] (getMethod ov m pl)
   callWith pos f first (backTo pos (starEach [] X.env)) (backToKw pos (keywordEach [] X.env))) := by rfl) :
  PE X (.Call (.Attribute o m apos) [] [] pos) (tMeth C m sp dvs E ta tNil) := by
 intro pins s σ H Q I h
 refine PySem.W.methodCall_KW (pl := pl) (thn (he pins s σ H _ I h) fun u s1 hq_ => ?_) ht
 obtain ⟨x, H1, I1, rx, a, dx, fs, ex, ea, l, q⟩ := hq_
 subst ex
 obtain rfl : u = Value.ref a := rx
 refine getmeth_ok I1 ea c hm l ?_
 exact PySem.W.callWith_K0 (first := [.ref a]) I1.kIn hm.kp (run_fn (us := [.ref a]) (vs := [.ref a]) F hr hb hd hx I1 (.cons rfl .nil) q)
structure Mk (K : PySem.W.Frag) (C f : Addr) : Prop where
 makes : PySem.W.makesIn K C = true
 init : PySem.W.findIn K (.ref C) "__init__" = some (some (.ref f))
 fn : PySem.W.isFn K (.ref f) = true
 kp : PySem.W.keepIn K (.ref C) = true
theorem run_make {pins : List (Addr × Obj)} {σ : St} {H : Hp} {s : Shared} {Q : VK} {us : List Value} {vs : List V} (M : Mk X.K C f) (F : FnOk X.prog X.w X.K X.mg X.base CX k f fd ps sp) (hr : Room (k + 1) X.A) (hb : Binds X.K fd ps ds) (hd : Vals dvs ds)
  (hx : Passes CX X E) (I : Inv X pins σ H s) (r : Vals vs us)
  (h : ∀ x dx, H x = none → H dx = none → dx ≠ x → sp (.ref x :: (vs ++ dvs)) (upd (upd H dx (.own x)) x (.ins C dx [])) (fun v H2 => v = .non ∧ Q (.ref x) H2) E) :
  wpAny (model X.prog X.w) X.A (call (.ref C) us) (EP X pins σ Q) X.xe s := by
 have hq := h (s.heap.objs.size + 1) s.heap.objs.size (I.hok.fresh (Nat.le_succ _)) (I.hok.fresh (Nat.le_refl _)) (Nat.ne_of_lt (Nat.lt_succ_self _))
 have I2 := Inv.made (C := C) I
 have r2 : Vals (V.ref (s.heap.objs.size + 1) :: (vs ++ dvs)) (Value.ref (s.heap.objs.size + 1) :: (us ++ ds)) := .cons rfl (r.append hd)
 have hl : (Value.ref (s.heap.objs.size + 1) :: us ++ ds).length = ps.length := by
  have e := r2.length
  rw [F.len _ _ _ _ hq] at e
  exact e.symm
 refine wpAny_call (make_map (f := f) I.kIn M.makes M.init (beq_iff_eq.mp M.fn) (codeAny_mono (F.run _ X.stack _ _ ⟨Value.ref (s.heap.objs.size + 1) :: us, []⟩ (Value.ref (s.heap.objs.size + 1) :: (us ++ ds)) _ _ E (hr.make C us [])
  (I2.env0.make C us []) (hb _ (Value.ref (s.heap.objs.size + 1) :: us) I2.kIn hl) r2 hq) fun r s' hq' => ?_))
 cases r with
 | error e => exact hx pins σ _ _ e s' I2 hq'
 | ok fl =>
  cases fl with
  | ret u =>
   obtain ⟨v, H', I3, rv, ev, q3⟩ := I2.after hq'
   subst ev
   exact ⟨rv, ⟨V.ref (s.heap.objs.size + 1), H', I3, rfl, q3⟩⟩
  | next => exact False.elim hq'
  | brk => exact False.elim hq'
  | cont => exact False.elim hq'
theorem pe_make (M : Mk X.K C f) (F : FnOk X.prog X.w X.K X.mg X.base CX k f fd ps sp) (hr : Room (k + 1) X.A) (hg : Gl X x) (hm : X.mg x = some (.ref C)) (hb : Binds X.K fd ps ds) (hd : Vals dvs ds) (hx : Passes CX X E)
  (ha : PA X (e :: es) t) (hdb : (x == ("__debug__" : Str)) = false := by decide) (he : starEach (e :: es) X.env = (false, eval e X.env) :: starEach es X.env := by rfl) (hpl : (backTo pos (starEach es X.env)).any (·.1) = false := by rfl) :
  PE X (.Call (.Name x p) (e :: es) [] pos) (tMake C sp dvs E t) := by
 intro pins s σ H Q I h
 refine wpAny_Call_Name_kw (ld_glob I hg hm ?_ hdb)
 refine PySem.W.callWith_K (h₀ := X.base) I.ok.mod.kin M.kp (thn (ha pos pins s σ H _ I h) fun us s1 hq_ => ?_) he hpl
 obtain ⟨vs, H1, I1, r, q⟩ := hq_
 refine ⟨I1.kIn, ?_⟩
 exact run_make M F hr hb hd hx I1 r q
end
section
variable {X : Cx} {CX : CXT} {k : Nat} {f C : Addr} {fd : FuncData} {ps ks : List Str} {sp : Sp} {E : XK} {x m : Str} {p pos apos kpos : Pos} {e o : Expr} {es : List Expr} {kws : List Keyword} {te ta : TE} {t tk : TA} {nm : Option Str}
variable {g : List Value → List Value → List Value} {gV : List V → List V → List V}
end
structure FnScope (N P : List Str) (sc : Scope) : Prop where
 kind : sc.kind = .function
 co : sc.isCoroutine = false
 gen : sc.isGenerator = false
 nd : N.Nodup
 pre : N.take P.length = P
 par : ∀ x ∈ P, sc.names.lookup x = some .local ∨ sc.names.lookup x = some .cell
 nofree : ∀ y ∈ sc.names, y.2 ≠ .free
theorem bindL_out {kindOf : Str → Option NameKind} {x : Str} : ∀ {binds : List (Str × Value)} {m : Str → Option Value}, (∀ v, (x, v) ∉ binds) → bindL kindOf binds m x = m x
 | [], _, _ => rfl
 | (n, v) :: r, m, h => by
  unfold bindL
  rw [bindL_out fun w hw => h w (List.mem_cons_of_mem _ hw)]
  split
  ·have : x ≠ n := by rintro rfl; exact h v List.mem_cons_self
   simp [this]
  ·rfl
theorem bindC_out {kindOf : Str → Option NameKind} {x : Str} : ∀ {binds : List (Str × Value)} {m : Str → Option Value}, (∀ v, (x, v) ∉ binds) → bindC kindOf binds m x = m x
 | [], _, _ => rfl
 | (n, v) :: r, m, h => by
  unfold bindC
  rw [bindC_out fun w hw => h w (List.mem_cons_of_mem _ hw)]
  split
  ·rfl
  ·have : x ≠ n := by rintro rfl; exact h v List.mem_cons_self
   simp [this]
theorem bindL_get {kindOf : Str → Option NameKind} {x : Str} {v : Value} : ∀ {P : List Str} {vs : List Value} {i : Nat} {m : Str → Option Value}, P.Nodup → P[i]? = some x → vs[i]? = some v → kindOf x = some .local →
  bindL kindOf (P.zip vs) m x = some v
 | [], _, _, _, _, h, _, _ => by simp at h
 | _ :: _, [], _, _, _, _, h, _ => by simp at h
 | p :: P, w :: vs, 0, m, nd, h1, h2, hk => by
  simp at h1 h2; subst h1; subst h2
  show bindL kindOf ((p, w) :: P.zip vs) m p = _
  unfold bindL
  rw [bindL_out fun v hv => (List.nodup_cons.mp nd).1 (List.of_mem_zip hv).1, if_pos hk]
  simp
 | p :: P, w :: vs, i + 1, m, nd, h1, h2, hk => by
  show bindL kindOf ((p, w) :: P.zip vs) m x = _
  unfold bindL
  exact bindL_get (i := i) (List.nodup_cons.mp nd).2 (by simpa using h1) (by simpa using h2) hk
theorem bindC_get {kindOf : Str → Option NameKind} {x : Str} {v : Value} : ∀ {P : List Str} {vs : List Value} {i : Nat} {m : Str → Option Value}, P.Nodup → P[i]? = some x → vs[i]? = some v → kindOf x ≠ some .local →
  bindC kindOf (P.zip vs) m x = some v
 | [], _, _, _, _, h, _, _ => by simp at h
 | _ :: _, [], _, _, _, _, h, _ => by simp at h
 | p :: P, w :: vs, 0, m, nd, h1, h2, hk => by
  simp at h1 h2; subst h1; subst h2
  show bindC kindOf ((p, w) :: P.zip vs) m p = _
  unfold bindC
  rw [bindC_out fun v hv => (List.nodup_cons.mp nd).1 (List.of_mem_zip hv).1, if_neg hk]
  simp
 | p :: P, w :: vs, i + 1, m, nd, h1, h2, hk => by
  show bindC kindOf ((p, w) :: P.zip vs) m x = _
  unfold bindC
  exact bindC_get (i := i) (List.nodup_cons.mp nd).2 (by simpa using h1) (by simpa using h2) hk
noncomputable def start (N : List Str) (vs : List V) : St := vs.map some ++ List.replicate (N.length - vs.length) none
noncomputable def cxOf (CX : CXT) (P : Program) (w : World) (K : PySem.W.Frag) (mg : Str → Option Value) (base : Heap) (N : List Str) (qual : Str) (scope : Scope) (f : Addr) (cd : Value) (A : Around) (outer : List Env) (s : Shared) (H : Hp) (E : XK) : Cx where
 prog := P
 w := w
 K := K
 mg := mg
 base := base
 A := A.deeper (envOfC qual scope s.heap.objs.size f cd)
 N := N
 s₀ := s
 H₀ := H
 env := envOfC qual scope s.heap.objs.size f cd
 outer := outer
 stack := envOfC qual scope s.heap.objs.size f cd :: outer
 ex := []
 calm := true
 fn := fun _ => true
 pn := []
 xe := fun e s' => wpAny (model P w) (A.deeper (envOfC qual scope s.heap.objs.size f cd)) (leaving (envOfC qual scope s.heap.objs.size f cd) e) (fun _ s'' => CX outer H s E e s'') (fun e' s'' => CX outer H s E e' s'') s'
theorem cell_has {sc : Scope} {n : Nat} {x : Str} (h : sc.names.lookup x = some .cell) : ∃ c, (cellsFrom n sc.names []).lookup x = some c := by
 have q := PySem.W.cellsFrom_some sc.names n [] (.inl h)
 exact Option.isSome_iff_exists.mp q
theorem inv_start {CX : CXT} {P : Program} {w : World} {K : PySem.W.Frag} {mg : Str → Option Value} {base : Heap} {N ps : List Str} {qual : Str} {scope : Scope} {f : Addr} {cd : Value} {A : Around} {outer : List Env} {s s1 : Shared} {H : Hp} {E : XK} {us : List Value} {vs : List V}
  (S : FnScope N ps scope) (hd : A.handled = none) (e0 : Env0 P w K mg base A outer s H) (hl : vs.length = ps.length) (r : Vals vs us)
  (x : InCallC s s.heap.objs.size (bindL (envOfC qual scope s.heap.objs.size f cd).kindOf (ps.zip us) fun _ => none) (cellsFrom (s.heap.objs.size + 1) scope.names []) (bindC (envOfC qual scope s.heap.objs.size f cd).kindOf (ps.zip us) fun _ => none) s1) :
  Inv (cxOf CX P w K mg base N qual scope f cd A outer s H E) [] (start N vs) H s1 := by
 have hpl : ps.length ≤ N.length := by have := congrArg List.length S.pre; rw [List.length_take] at this; omega
 obtain ⟨h1, tk, rfl, hk⟩ := x.done
 have noA : ∀ b : Addr, b ∉ (cxOf CX P w K mg base N qual scope f cd A outer s H E).ex := fun b z => absurd (show b ∈ ([] : List Addr) from z) (by simp)
 refine ⟨⟨e0.mod, S.kind, rfl, rfl, Nat.le_refl _, fun y z c h1 h2 => ?_, fun y hy => ?_, fun y c _ h => ?_, fun _ => hd, Around.frames_deeper e0.frames, .inr ⟨rfl, rfl⟩, fun b z => absurd z (noA b), e0.bs, e0.bsz, fun b _ _ => noA b, fun b z => absurd z (noA b), e0.funs, e0.frf⟩,
  rfl, e0.bare, Un.kept hk, ⟨_, x.toInCall.ns, fun i y v h1 h2 h3 => ?_⟩, fun y c h => ⟨_, x.cell y c h⟩, e0.hok.fresh (Nat.le_refl _), fun y c h => ?_, fun p hp => absurd (show p ∈ ([] : List (Addr × Obj)) from hp) (by simp), e0.hok.kept hk, ?_⟩
 ·exact name_of_addr x.apart (PySem.mem_of_lookup h1) (PySem.mem_of_lookup h2)
 ·have hy : scope.names.lookup y = some .cell ∨ scope.names.lookup y = some .free := hy
  rcases hy with hy | hy
  ·exact cell_has hy
  ·exact absurd rfl (S.nofree _ (PySem.mem_of_lookup hy))
 ·exact Nat.le_of_lt (x.above y c (PySem.mem_of_lookup h))
 ·have hi : i < vs.length := by
   unfold start at h2
   by_cases hi : i < vs.length
   ·exact hi
   ·rw [List.getElem?_append_right (by simpa using hi)] at h2
    rw [List.getElem?_replicate] at h2
    split at h2 <;> cases h2
  have ha : vs[i]? = some v := by
   unfold start at h2
   rw [List.getElem?_append_left (by simpa using hi), List.getElem?_map] at h2
   cases e : vs[i]? with
   | none => rw [e] at h2; cases h2
   | some a => rw [e] at h2; cases h2; rfl
  obtain ⟨u, hu, rv⟩ := r.get ha
  have hp : ps[i]? = some y := by
   rw [← S.pre, List.getElem?_take_of_lt (by omega)]; exact h1
  have ndP : ps.Nodup := by rw [← S.pre]; exact S.nd.sublist (List.take_sublist _ _)
  refine ⟨u, rv, ?_⟩
  rcases S.par y (List.mem_of_getElem? hp) with k | k
  ·exact .inl ⟨k, bindL_get ndP hp hu k⟩
  ·obtain ⟨c, e⟩ := cell_has (n := s.heap.objs.size + 1) k
   refine .inr ⟨.inl k, c, e, ?_⟩
   have q := x.cell y c e
   rw [bindC_get ndP hp hu (by show scope.names.lookup y ≠ _; rw [k]; decide)] at q
   exact q
 ·exact e0.hok.fresh (Nat.le_of_lt (x.above y c (PySem.mem_of_lookup h)))
 ·unfold start
  show _ = N.length
  rw [List.length_append, List.length_map, List.length_replicate]
  omega
theorem fn_of {CX : CXT} {P : Program} {w : World} {K : PySem.W.Frag} {mg : Str → Option Value} {base : Heap} {k : Nat} {f : Addr} {name qual : Str} {params : Arguments} {body : List Stmt} {scope : Scope} {dV kV doc pm cdv ct oc : Value} {an od : Option Addr}
  {osl : Array (Option Value)} {N ps : List Str} {sp : Sp} (lk : K.lookup f = some ⟨oc, od, .func (PySem.W.fnOf name qual params body scope dV kV doc pm an cdv ct), osl⟩) (hcd : PySem.W.codeIn K cdv qual = true) (S : FnScope N ps scope)
  (len : ∀ vs H Q E, sp vs H Q E → vs.length = ps.length)
  (hbody : ∀ (A : Around) (outer : List Env) (s : Shared) (H : Hp) (vs : List V) (Q : VK) (E : XK), Room k (A.deeper (envOfC qual scope s.heap.objs.size f cdv)) → sp vs H Q E →
   ∃ t, PSs (cxOf CX P w K mg base N qual scope f cdv A outer s H E) body t ∧ t { nx := fun _ H' => Q .non H', rt := Q } (start N vs) H) :
  FnOk P w K mg base CX (k + 1) f (PySem.W.fnOf name qual params body scope dV kV doc pm an cdv ct) ps sp := by
 refine ⟨len, fun A outer s H args us vs Q E hr e0 hb r hsp => ?_⟩
 have hl := len _ _ _ _ hsp
 have KX : K.In s.heap := e0.mod.kin.keeps fun b o e => (e0.bs b o e).1
 have lim : s.heap.NoLimit := e0.mod.nolimit.keeps fun b o e => (e0.bs b o e).1
 have hkind : ∀ y ∈ ps.zip us, scope.names.lookup y.1 = some .local ∨ (scope.names.lookup y.1 = some .cell ∧ ((cellsFrom (s.heap.objs.size + 1) scope.names []).lookup y.1).isSome = true) := fun ⟨n, v⟩ hy => by
  rcases S.par n (List.of_mem_zip hy).1 with q | q
  ·exact .inl q
  ·exact .inr ⟨q, PySem.W.cellsFrom_some _ _ _ (.inl q)⟩
 refine codeAny_call_function hr.depth (KX _ _ lk) rfl S.co S.gen rfl (PySem.W.codeRec_of KX hcd) (hb _ _ _ _ ?_)
 refine wpAny_newFunctionEnv_cells S.kind hkind fun env he s1 x => ?_
 subst he
 refine ⟨lim.keeps x.toInCall.keep, codeAny_func ?_⟩
 obtain ⟨t, ht, hq⟩ := hbody A outer s H vs Q E (hr.deeper _) hsp
 have I : Inv (cxOf CX P w K mg base N qual scope f cdv A outer s H E) [] (start N vs) H s1 := inv_start S hr.hd e0 hl r x
 refine wpAny_mono (ht [] s1 (start N vs) H _ I hq) (fun fl s' hs => ?_) fun e s' hs => hs
 have fin : ∀ {σ' : St} {H' : Hp} {v : V} {u : Value}, Inv (cxOf CX P w K mg base N qual scope f cdv A outer s H E) [] σ' H' s' → RelV v u → Q v H' → CE outer P w H s Q u s' :=
  fun {σ' H' v u} J rv q => ⟨v, H', J.os, J.bare, J.base, J.hok, rv, q⟩
 cases fl with
 | ret u =>
  obtain ⟨v, σ', H', J, rv, q⟩ := hs
  exact fin J rv q
 | next =>
  obtain ⟨σ', H', J, q⟩ := hs
  exact fin (v := V.non) (u := Value.none) J rfl q
 | brk =>
  obtain ⟨_, _, _, q⟩ := hs
  exact False.elim q
 | cont =>
  obtain ⟨_, _, _, q⟩ := hs
  exact False.elim q
end L2
namespace L2
open PySem PySem.Spec PyProof.Rows
section
variable {X : Cx} {x : Str} {p pos : Pos} {e : Expr} {es : List Expr} {t : TA} {id T : String} {r : List V → Hp → VK → Prop}
noncomputable def tCB (r : List V → Hp → VK → Prop) (t : TA) : TE := fun σ H Q => t σ H fun vs H1 => r vs H1 Q
theorem pe_callB (hc : CallR X (.builtin id) r) (hg : Gl X x) (hm : X.mg x = none) (hv : bootBuiltins x = some (.builtin id)) (ha : PA X (e :: es) t) (hn : x ≠ "__name__" := by decide) (hdb : (x == ("__debug__" : Str)) = false := by decide)
  (he : starEach (e :: es) X.env = (false, eval e X.env) :: starEach es X.env := by rfl) (hpl : (backTo pos (starEach es X.env)).any (·.1) = false := by rfl) : PE X (.Call (.Name x p) (e :: es) [] pos) (tCB r t) := by
 intro pins s σ H Q I h
 refine wpAny_Call_Name_kw (ld_blt I hg hm hv ?_ hn hdb)
 refine PyProof.Rows.callWith_builtin1 (thn (ha pos pins s σ H _ I h) fun us s1 hq_ => ?_) he hpl
 obtain ⟨vs, H1, I1, r1, q1⟩ := hq_
 exact hc pins s1 σ H1 vs us Q I1 r1 q1
theorem pe_callTy (hc : CallR X (.type T) r) (hg : Gl X x) (hm : X.mg x = none) (hv : bootBuiltins x = some (.type T)) (ha : PA X (e :: es) t) (hn : x ≠ "__name__" := by decide) (hdb : (x == ("__debug__" : Str)) = false := by decide)
  (he : starEach (e :: es) X.env = (false, eval e X.env) :: starEach es X.env := by rfl) (hpl : (backTo pos (starEach es X.env)).any (·.1) = false := by rfl) : PE X (.Call (.Name x p) (e :: es) [] pos) (tCB r t) := by
 intro pins s σ H Q I h
 refine wpAny_Call_Name_kw (ld_blt I hg hm hv ?_ hn hdb)
 refine PyProof.Rows.callWith_type1 (thn (ha pos pins s σ H _ I h) fun us s1 hq_ => ?_) he hpl
 obtain ⟨vs, H1, I1, r1, q1⟩ := hq_
 exact hc pins s1 σ H1 vs us Q I1 r1 q1
end
end L2
namespace HT
open PySem PyProof.Rows
section
open PySem.SeqAt
open PySem.AutoSeq1 (wpAny_loadPart')
open PySem.MeetsSeq PySem.MeetsSeq2 PySem.MeetsSeq3
end
section
variable {prog : Program} {w : World} {A : Around} {E : Value → Shared → Prop} {s : Shared}
noncomputable def sIx (n d : Nat) : Option Int → Nat
 | none => d
 | some v => if v < 0 then (v + (n : Int)).toNat else min v.toNat n
theorem sIx_none (n d : Nat) : sIx n d none = d := rfl
theorem sIx_nat (n d k : Nat) : sIx n d (some (k : Int)) = min k n := by
 show (if (k : Int) < 0 then ((k : Int) + (n : Int)).toNat else min (k : Int).toNat n) = min k n
 rw [if_neg (by omega), Int.toNat_natCast]
theorem sIx_le (n d : Nat) (hd : d ≤ n) (o : Option Int) : sIx n d o ≤ n := by
 cases o with
 | none => exact hd
 | some v =>
  show (if v < 0 then (v + (n : Int)).toNat else min v.toNat n) ≤ n
  by_cases hv : v < 0
  ·rw [if_pos hv]; omega
  ·rw [if_neg hv]; exact Nat.min_le_right _ _
theorem clip_eq (v : Int) (n d : Nat) : (if v < 0 then max (v + (n : Int)) 0 else min v (n : Int)) = ((sIx n d (some v) : Nat) : Int) := by
 show (if v < 0 then max (v + (n : Int)) 0 else min v (n : Int)) = (((if v < 0 then (v + (n : Int)).toNat else min v.toNat n) : Nat) : Int)
 by_cases hv : v < 0
 ·simp only [if_pos hv]; omega
 ·simp only [if_neg hv]; omega
theorem adjust_gen (lo hi : Option Int) (n : Nat) : Builtin.Slice.sliceAdjust lo hi 1 (n : Int) = (((sIx n 0 lo : Nat) : Int), ((sIx n n hi : Nat) : Int)) := by
 have h1 : ¬ ((1 : Int) < 0) := by omega
 unfold Builtin.Slice.sliceAdjust
 simp only [h1, if_false]
 refine Prod.ext ?_ ?_
 ·cases lo with
  | none => rfl
  | some v => exact clip_eq v n 0
 ·cases hi with
  | none => rfl
  | some v => exact clip_eq v n n
theorem places_gen (i j : Nat) : Builtin.Slice.slicePlaces (i : Int) (j : Int) 1 = j - i := by
 unfold Builtin.Slice.slicePlaces
 have h1 : (1 : Int) > 0 := by omega
 simp only [h1, if_true, Int.ediv_one]
 split <;> omega
theorem slicePart_ {v : Value} {o : Option Int} {Q : Option Int → Shared → Prop} (p : IsPart v o) (h : Q o s) : wpAny (model prog w) A (Builtin.Slice.slicePartIndex v) Q E s := by
 cases p with
 | none => exact slicePart_none h
 | int i t => exact slicePart_int h
theorem sliceApplied_gen {sl : Addr} {vl vu : Value} {lo hi : Option Int} {n : Nat} {Q : Int × Int × Nat → Shared → Prop} (hs : s.heap.IsSliceOf sl vl vu .none) (pl : IsPart vl lo) (pu : IsPart vu hi)
  (h : Q (((sIx n 0 lo : Nat) : Int), 1, sIx n n hi - sIx n 0 lo) s) : wpAny (model prog w) A (Builtin.Slice.sliceApplied (.ref sl) (pure (n : Int))) Q E s := by
 obtain ⟨os, hos, hcs, hds⟩ := id hs
 unfold Builtin.Slice.sliceApplied Builtin.Slice.sliceFields
 refine wpAny_bind (wpAny_bind (wpAny_field hos hds (x := vl) rfl (wpAny_bind (wpAny_field hos hds (x := vu) rfl (wpAny_bind (wpAny_field hos hds (x := .none) rfl (wpAny_pure ?_)))))))
 refine wpAny_bind (slicePart_none ?_)
 show wpAny _ _ (if ((1 : Int) == 0) = true then _ else _) _ _ s
 rw [if_neg (by decide)]
 refine wpAny_bind (slicePart_ pl (wpAny_bind (slicePart_ pu (wpAny_bind (wpAny_pure ?_)))))
 show wpAny _ _ (match Builtin.Slice.sliceAdjust lo hi 1 (n : Int) with | (lo, hi) => pure (lo, (1 : Int), Builtin.Slice.slicePlaces lo hi 1)) _ _ s
 rw [adjust_gen lo hi n]
 show wpAny _ _ (pure (((sIx n 0 lo : Nat) : Int), (1 : Int), Builtin.Slice.slicePlaces ((sIx n 0 lo : Nat) : Int) ((sIx n n hi : Nat) : Int) 1)) _ _ s
 rw [places_gen]
 exact wpAny_pure h
theorem pick_gen (xs : Array Value) (i k : Nat) : ((List.range k).filterMap fun (m : Nat) => xs[((i : Int) + (m : Int) * 1).toNat]?).toArray = ((xs.toList.drop i).take k).toArray := by
 have e : (fun (m : Nat) => xs[((i : Int) + (m : Int) * 1).toNat]?) = fun m => xs[i + m]? := by
  funext m
  have : ((i : Int) + (m : Int) * 1).toNat = i + m := by omega
  rw [this]
 rw [e]
 have := pick_run xs i k
 rw [List.filterMap_map] at this
 have e2 : ((fun x => xs[x]?) ∘ fun x => i + x) = fun m => xs[i + m]? := rfl
 rw [e2] at this
 rw [this]
theorem getItem_tuple_cut {t sl : Addr} {items : Array Value} {vl vu : Value} {lo hi : Option Int} {Q : Value → Shared → Prop} (ht : IsTup s.heap t items) (hs : s.heap.IsSliceOf sl vl vu .none) (pl : IsPart vl lo) (pu : IsPart vu hi)
  (hw : ¬ (sIx items.size 0 lo = 0 ∧ sIx items.size items.size hi = items.size))
  (h : Q (.ref s.heap.objs.size) { s with heap := s.heap.push { cls := .type "tuple", data := .seq ((items.toList.drop (sIx items.size 0 lo)).take (sIx items.size items.size hi - sIx items.size 0 lo)).toArray } })
  (hsz : items.size ≤ sizeLine) : wpAny (model prog w) A (getItem (.ref t) (.ref sl)) Q E s := by
 have htake : sizeOk (.seq ((items.toList.drop (sIx items.size 0 lo)).take (sIx items.size items.size hi - sIx items.size 0 lo)).toArray) := by
  show ((items.toList.drop (sIx items.size 0 lo)).take (sIx items.size items.size hi - sIx items.size 0 lo)).toArray.size ≤ sizeLine
  rw [List.size_toArray, List.length_take, List.length_drop, Array.length_toList]
  omega
 have hj : sIx items.size items.size hi ≤ items.size := sIx_le _ _ (Nat.le_refl _) hi
 obtain ⟨os, hos, hcs, hds⟩ := id hs
 have hTs : s.TypeIs (.ref sl) "slice" := ⟨os, hos, hcs⟩
 unfold getItem
 try with_reducible refine wpAny_holding ?_
 first | refine wpAny_bind (wpAny_pure ?_) | skip
 refine wpAny_bind (wpAny_sequenceKey ht.typeIs (by decide) ?_)
 refine wpAny_bind (wpAny_callSpecial?_slot (name := Str.ofString "__getitem__") ht.typeIs PyProof.Rows.slot_tuple_getitem
  (wpAny_call_entry PyProof.Rows.slot_tuple_getitem ht.typeIs entry_tuple_getitem ?_ (args_tuple_getitem _ _)))
 show wpAny _ _ (Builtin.Tuple.tupleItemsOf (.ref t) >>= _) _ _ s
 refine wpAny_bind (tupleItemsOf_ ht ?_)
 refine wpAny_bind (wpAny_typeOf hTs ?_)
 rw [if_pos (by decide)]
 refine wpAny_bind (sliceApplied_gen hs pl pu ?_)
 have hno : ¬ ((((sIx items.size 0 lo : Nat) : Int) == 0 && (1 : Int) == 1 && (sIx items.size items.size hi - sIx items.size 0 lo) == items.size) = true) := by
  intro q
  rw [Bool.and_eq_true, Bool.and_eq_true] at q
  have q1 : ((sIx items.size 0 lo : Nat) : Int) = 0 := eq_of_beq q.1.1
  have q2 : sIx items.size items.size hi - sIx items.size 0 lo = items.size := eq_of_beq q.2
  exact hw ⟨by omega, by omega⟩
 show wpAny _ _ (if (((sIx items.size 0 lo : Nat) : Int) == 0 && (1 : Int) == 1 && (sIx items.size items.size hi - sIx items.size 0 lo) == items.size) = true then _ else _) _ _ s
 rw [if_neg hno, pick_gen]
 first
  | exact wpAny_bind (m := Builtin.Tuple.tupleExact _) (wpAny_newObj_type (wpAny_pure ⟨_, rfl, wpAny_pure h⟩) htake)
  | exact wpAny_bind (m := Builtin.Tuple.tupleExact _) (wpAny_newObj_type (wpAny_bind (wpAny_pure (wpAny_pure ⟨_, rfl, wpAny_pure h⟩))) htake)
  | exact wpAny_bind (wpAny_bind (m := Builtin.Tuple.tupleExact _) (wpAny_newObj_type (wpAny_pure (wpAny_pure ⟨_, rfl, wpAny_pure h⟩)) htake))
  | exact wpAny_bind (wpAny_bind (m := Builtin.Tuple.tupleExact _) (wpAny_newObj_type (wpAny_pure ⟨_, rfl, wpAny_pure h⟩) htake))
end
end HT
namespace L2
open PySem PySem.Spec PyProof.Rows
noncomputable abbrev TO := St → Hp → (Option Int → Hp → Prop) → Prop
def PO (X : Cx) (e : Option Expr) (t : TO) : Prop :=
 ∀ (pins : List (Addr × Obj)) (s : Shared) (σ : St) (H : Hp) (Q : Option Int → Hp → Prop), Inv X pins σ H s → t σ H Q →
  wpAny (model X.prog X.w) X.A (evalPart e X.env) (fun u s' => ∃ o H', Inv X pins σ H' s' ∧ IsPart u o ∧ Q o H') X.xe s
noncomputable def tNoPart : TO := fun _ H Q => Q none H
noncomputable def tPart (t : TE) : TO := fun σ H Q => t σ H fun x H1 => ∃ i, x = .int i ∧ Q (some i) H1
section
variable {X : Cx} {e : Expr} {te : TE} {lo hi : Option Expr} {tl th : TO} {pos p2 : Pos}
theorem po_none : PO X none tNoPart := by
 intro pins s σ H Q I h
 rw [evalPart_none]
 exact wpAny_pure ⟨none, H, I, .none, h⟩
theorem po_some (h : PE X e te) : PO X (some e) (tPart te) := by
 intro pins s σ H Q I hw
 rw [evalPart_some]
 refine thn (h pins s σ H _ I hw) fun u s1 hq_ => ?_
 obtain ⟨x, H1, I1, r1, q1⟩ := hq_
 obtain ⟨i, rfl, q⟩ := q1
 obtain ⟨t, rfl⟩ := r1
 exact ⟨some i, H1, I1, .int i t, q⟩
def SlR (X : Cx) (r : V → Option Int → Option Int → Hp → VK → Prop) : Prop :=
 ∀ (pins : List (Addr × Obj)) (s : Shared) (σ : St) (H : Hp) (x : V) (v vl vu : Value) (lo hi : Option Int) (sl : Addr) (Q : VK), Inv X pins σ H s → RelV x v → s.heap.IsSliceOf sl vl vu .none → IsPart vl lo → IsPart vu hi → r x lo hi H Q →
  ∃ T id, typeLookup (.type T) "__getitem__" = pure (some (.builtin id)) ∧ s.TypeIs v T ∧ wpAny (model X.prog X.w) X.A (getItem v (.ref sl)) (EP X pins σ Q) X.xe s
theorem SlR.or {r r' : V → Option Int → Option Int → Hp → VK → Prop} (h : SlR X r) (h' : SlR X r') : SlR X (fun x lo hi H Q => r x lo hi H Q ∨ r' x lo hi H Q) := by
 intro pins s σ H x v vl vu lo hi sl Q I rx hs pl pu q
 rcases q with q | q
 ·exact h pins s σ H x v vl vu lo hi sl Q I rx hs pl pu q
 ·exact h' pins s σ H x v vl vu lo hi sl Q I rx hs pl pu q
noncomputable def tSl (r : V → Option Int → Option Int → Hp → VK → Prop) (te : TE) (tl th : TO) : TE := fun σ H Q => te σ H fun x H1 => tl σ H1 fun l H2 => th σ H2 fun u H3 => r x l u H3 Q
theorem pe_slice {r : V → Option Int → Option Int → Hp → VK → Prop} (hr : SlR X r) (he : PE X e te) (hl : PO X lo tl) (hu : PO X hi th) : PE X (.Subscript e (.Slice lo hi none p2) pos) (tSl r te tl th) := by
 intro pins s σ H Q I h
 refine Subscript_ (thn (he pins s σ H _ I h) fun v s1 hq_ => ?_)
 obtain ⟨x, H1, I1, r1, q1⟩ := hq_
 refine wpAny_Slice (thn (hl pins s1 σ H1 _ I1 q1) fun vl s2 hq_ => ?_)
 obtain ⟨l, H2, I2, pl, q2⟩ := hq_
 refine thn (hu pins s2 σ H2 _ I2 q2) fun vu s3 hq_ => ?_
 obtain ⟨u, H3, I3, pu, q3⟩ := hq_
 rw [evalPart_none]
 refine wpAny_pure ?_
 have I4 : Inv X pins σ H3 { s3 with heap := s3.heap.push { cls := .type "slice", data := .fields #[vl, vu, .none] } } := I3.kept (t' := s3.toks) fun b ob q => Heap.get?_push_of_some _ q
 obtain ⟨T, id, hT, ht, hg⟩ := hr pins { s3 with heap := s3.heap.push { cls := .type "slice", data := .fields #[vl, vu, .none] } } σ H3 x v vl vu l u s3.heap.objs.size Q I4 r1 (Heap.IsSliceOf.new ..) pl pu q3
 show wpAny (model X.prog X.w) X.A (subscriptTail e (.Slice lo hi none p2) v (.ref s3.heap.objs.size)) (EP X pins σ Q) X.xe { s3 with heap := s3.heap.push { cls := .type "slice", data := .fields #[vl, vu, .none] } }
 exact tail_any (ops := [.ref s3.heap.objs.size, v]) ht hT hg (by with_unfolding_all rfl)
noncomputable def cutV (xs : List V) (lo hi : Option Int) : List V := (xs.drop (HT.sIx xs.length 0 lo)).take (HT.sIx xs.length xs.length hi - HT.sIx xs.length 0 lo)
theorem cutV_length (xs : List V) (lo hi : Option Int) : (cutV xs lo hi).length ≤ xs.length := by
 unfold cutV
 rw [List.length_take, List.length_drop]
 omega
noncomputable def rSlT (K : PySem.W.Frag) : V → Option Int → Option Int → Hp → VK → Prop := fun x lo hi H Q => ∃ a xs, x = .ref a ∧ SqT K H a xs ∧
 ¬ (HT.sIx xs.length 0 lo = 0 ∧ HT.sIx xs.length xs.length hi = xs.length) ∧ ∀ p, H p = none → Q (.ref p) (upd H p (.tup (cutV xs lo hi)))
theorem sl_tup : SlR X (rSlT X.K) := by
 intro pins s σ H x v vl vu lo hi sl Q I rx hs pl pu h
 obtain ⟨a, xs, rfl, hx, hw, q⟩ := h
 cases rx
 obtain ⟨its, r, ht, hz⟩ := I.tuple hx
 have hlen : its.toArray.size = xs.length := by rw [List.size_toArray]; exact r.length.symm
 refine ⟨"tuple", _, PyProof.Rows.slot_tuple_getitem.lookup, ht.typeIs, ?_⟩
 refine HT.getItem_tuple_cut ht hs pl pu (by rw [hlen]; exact hw) ?_ (by rw [hlen]; exact hz)
 rw [hlen]
 refine ⟨.ref s.heap.objs.size, _, I.laid (t' := s.toks) (o := .tup (cutV xs lo hi)) (fun b ob q => Heap.get?_push_of_some _ q) (Nat.le_refl _) ?_, rfl, q _ (I.hok.fresh (Nat.le_refl _))⟩
 exact ⟨Nat.le_trans (cutV_length xs lo hi) hz, _, (r.drop (HT.sIx xs.length 0 lo)).take (HT.sIx xs.length xs.length hi - HT.sIx xs.length 0 lo), IsTup.new _ _⟩
end
end L2
namespace L2
open PySem PySem.Spec PyProof.Rows
noncomputable def ixN (n : Nat) (i : Int) : Option Nat := if 0 ≤ i then (if i < n then some i.toNat else none) else if -(n : Int) ≤ i then some (i + n).toNat else none
noncomputable def atI {α : Type} (xs : List α) (i : Int) : Option α := (ixN xs.length i).bind fun j => xs[j]?
theorem ixN_seq {n : Nat} {i : Int} {j : Nat} (h : ixN n i = some j) : seqIndex? i n = some j ∧ j < n ∧ -(n : Int) ≤ i ∧ i < n := by
 unfold ixN at h
 by_cases h0 : 0 ≤ i
 ·rw [if_pos h0] at h
  by_cases h1 : i < n
  ·rw [if_pos h1] at h
   have e : i.toNat = j := Option.some.inj h
   exact ⟨by rw [seqIndex_of h0 h1, e], by omega, by omega, h1⟩
  ·rw [if_neg h1] at h; cases h
 ·rw [if_neg h0] at h
  by_cases h1 : -(n : Int) ≤ i
  ·rw [if_pos h1] at h
   have e : (i + n).toNat = j := Option.some.inj h
   exact ⟨by rw [seqIndex_neg (by omega) h1, e], by omega, h1, by omega⟩
  ·rw [if_neg h1] at h; cases h
theorem atI_get {α : Type} {xs : List α} {i : Int} {v : α} (h : atI xs i = some v) : ∃ j, seqIndex? i xs.length = some j ∧ xs[j]? = some v ∧ j < xs.length ∧ -(xs.length : Int) ≤ i ∧ i < xs.length := by
 unfold atI at h
 cases e : ixN xs.length i with
 | none => rw [e] at h; cases h
 | some j =>
  rw [e] at h
  obtain ⟨h1, h2, h3, h4⟩ := ixN_seq e
  exact ⟨j, h1, h, h2, h3, h4⟩
theorem atI_nat {α : Type} {xs : List α} {j : Nat} {v : α} (h : xs[j]? = some v) : atI xs (j : Int) = some v := by
 have hj : j < xs.length := (List.getElem?_eq_some_iff.mp h).1
 have e : ixN xs.length (j : Int) = some j := by
  unfold ixN
  rw [if_pos (by omega), if_pos (by omega)]; simp
 unfold atI; rw [e]; exact h
def PlainIx (b : Expr) : Prop := ∀ o i, subscripted b false o i = operate [o, i] (getItem o i)
def IxR (X : Cx) (r : R2) : Prop :=
 ∀ (value slice : Expr) (pins : List (Addr × Obj)) (s : Shared) (σ : St) (H : Hp) (x y : V) (v u : Value) (Q : VK), Inv X pins σ H s → RelV x v → RelV y u → r x y H Q →
  subscripted slice false v u = operate [v, u] (getItem v u) → wpAny (model X.prog X.w) X.A (subscriptTail value slice v u) (EP X pins σ Q) X.xe s
def MtR (X : Cx) (id : String) (r : V → List V → Hp → VK → Prop) : Prop :=
 ∀ (pins : List (Addr × Obj)) (s : Shared) (σ : St) (H : Hp) (x : V) (xs : List V) (v : Value) (us : List Value) (Q : VK), Inv X pins σ H s → RelV x v → Vals xs us → r x xs H Q →
  wpAny (model X.prog X.w) X.A (call (.builtin id) (v :: us)) (EP X pins σ Q) X.xe s
section
variable {X : Cx} {a b : Expr} {ta tb : TE} {pos : Pos}
theorem pe_ix {r : R2} (hr : IxR X r) (ha : PE X a ta) (hb : PE X b tb) (hs : PlainIx b) : PE X (.Subscript a b pos) (tOp r ta tb) := by
 intro pins s σ H Q I h
 exact Subscript_ (binT ha hb I h fun v u s2 x y H2 I2 rx ry q => hr a b pins s2 σ H2 x y v u Q I2 rx ry q (hs _ _))
noncomputable def rIxL (K : PySem.W.Frag) : R2 := fun x y H Q => ∃ p xs i v, x = .ref p ∧ y = .int i ∧ SqL K H p xs ∧ atI xs i = some v ∧ Q v H
noncomputable def rIxT (K : PySem.W.Frag) : R2 := fun x y H Q => ∃ p xs i v, x = .ref p ∧ y = .int i ∧ SqT K H p xs ∧ atI xs i = some v ∧ Q v H
theorem ix_list : IxR X (rIxL X.K) := by
 intro value slice pins s σ H x y v u Q I rx ry h hs
 obtain ⟨p, xs, i, z, rfl, rfl, hq, he, q⟩ := h
 cases rx
 obtain ⟨t, rfl⟩ := ry
 obtain ⟨its, r, pl, hz⟩ := I.list hq
 obtain ⟨j, h1, h2, h3, h4, h5⟩ := atI_get he
 obtain ⟨w, ew, rw'⟩ := r.get h2
 have hl := r.length
 have hn := line63
 have fin : EP X pins σ Q w s := ⟨z, H, I, rw', q⟩
 by_cases h0 : 0 ≤ i
 ·have hj : i.toNat = j := by
   rw [seqIndex_of h0 h5] at h1
   exact Option.some.inj h1
  exact item_listR pl.isList h0 (by omega) (by rw [hj]; simpa using ew) fin hs
 ·have hj : (i + (its.toArray.size : Int)).toNat = j := by
   rw [seqIndex_neg (by omega) h4] at h1
   rw [List.size_toArray, ← hl]
   exact Option.some.inj h1
  exact subscriptTail_builtinR (x := w) pl.isList.typeIs slot_list_getitem.lookup
   (wpAny_getItem_list_neg (Q := fun r s' => r = w ∧ EP X pins σ Q r s') pl.isList (by omega) (by rw [List.size_toArray] <;> omega) (by omega) (by rw [hj]; simpa using ew) ⟨rfl, fin⟩) hs
theorem ix_tup : IxR X (rIxT X.K) := by
 intro value slice pins s σ H x y v u Q I rx ry h hs
 obtain ⟨p, xs, i, z, rfl, rfl, hq, he, q⟩ := h
 cases rx
 obtain ⟨t, rfl⟩ := ry
 obtain ⟨its, r, pl, hz⟩ := I.tuple hq
 obtain ⟨j, h1, h2, h3, h4, h5⟩ := atI_get he
 obtain ⟨w, ew, rw'⟩ := r.get h2
 have hl := r.length
 have hn := line63
 have fin : EP X pins σ Q w s := ⟨z, H, I, rw', q⟩
 exact subscriptTail_builtinR (x := w) pl.typeIs slot_tuple_getitem.lookup
  (getItem_tuple (j := j) (Q := fun r s' => r = w ∧ EP X pins σ Q r s') pl (by omega) (by omega) (by rw [List.size_toArray, ← hl]; exact h1) (by simpa using ew) ⟨rfl, fin⟩) hs
theorem mapSeq_set (its : List Value) (n j : Nat) (u : Value) : Obj.mapSeq (·.setIfInBounds j u) { cls := .type "list", data := .seq its.toArray n } = { cls := .type "list", data := .seq (its.set j u).toArray n } := by
 simp [Obj.mapSeq]
theorem Inv.lst {pins : List (Addr × Obj)} {σ : St} {H : Hp} {s : Shared} {p : Addr} {xs : List V} (I : Inv X pins σ H s) (h : H p = some (.lst xs)) :
  ∃ (its : List Value) (n : Nat), Vals xs its ∧ s.heap.get? p = some { cls := .type "list", data := .seq its.toArray n } ∧ xs.length ≤ sizeLine := by
 obtain ⟨z, its, n, r, e⟩ := I.hok p _ h
 exact ⟨its, n, r, e, z⟩
theorem Inv.lstUpd {pins : List (Addr × Obj)} {σ : St} {H : Hp} {s : Shared} {p : Addr} {xs ys : List V} {its its' : List Value} {n n' : Nat} {f : Obj → Obj} (I : Inv X pins σ H s) (h : H p = some (.lst xs))
  (ho : s.heap.get? p = some { cls := .type "list", data := .seq its.toArray n }) (hf : f { cls := .type "list", data := .seq its.toArray n } = { cls := .type "list", data := .seq its'.toArray n' }) (r : Vals ys its') (hz : ys.length ≤ sizeLine) (t : Nat) :
  Inv X pins σ (upd H p (.lst ys)) { s with heap := s.heap.update p f, toks := t } := by
 have e : (s.heap.update p f).get? p = some { cls := .type "list", data := .seq its'.toArray n' } := by
  rw [Heap.get?_update_self f ho (by rw [hf] <;> rfl), hf]
 refine I.write (x := p) (e := p) (by rw [h]; trivial) (.inl rfl) (fun b u hb q => (Heap.get?_update_other _ _ (Ne.symm hb)).trans q) ⟨_, e⟩ ?_
 exact ⟨hz, its', n', r, e⟩
noncomputable def rSetL : V → V → V → Hp → (Hp → Prop) → Prop := fun o i v H Q => ∃ p xs k j, o = .ref p ∧ i = .int k ∧ H p = some (.lst xs) ∧ ixN xs.length k = some j ∧ Q (upd H p (.lst (xs.set j v)))
theorem set_list : PSet X rSetL := by
 intro pins s σ H o i v ov iv u Q I ro ri rv h
 obtain ⟨p, xs, k, j, rfl, rfl, hp, hj, q⟩ := h
 cases ro
 obtain ⟨t, rfl⟩ := ri
 obtain ⟨its, n, r, ho, hz⟩ := I.lst hp
 obtain ⟨h1, h2, h3, h4⟩ := ixN_seq hj
 have hl := r.length
 have hn := line63
 have I' : Inv X pins σ (upd H p (.lst (xs.set j v))) { s with heap := s.heap.update p (Obj.mapSeq (·.setIfInBounds j u)) } :=
  I.lstUpd hp ho (mapSeq_set its n j u) (r.set rv j) (by rw [List.length_set]; exact hz) s.toks
 by_cases h0 : 0 ≤ k
 ·have hk : k.toNat = j := by
   rw [seqIndex_of h0 h4] at h1
   exact Option.some.inj h1
  exact PySem.W.ki_setAt ho h0 (by omega) (by rw [List.size_toArray, ← hl]; exact h4) (by rw [hk]; exact ⟨_, I', q⟩)
 ·have hk : (k + (its.toArray.size : Int)).toNat = j := by
   rw [seqIndex_neg (by omega) h3] at h1
   rw [List.size_toArray, ← hl]
   exact Option.some.inj h1
  exact PySem.W.ki_setBack ho (by omega) (by rw [List.size_toArray, ← hl]; exact h3) (by omega) (by rw [hk]; exact ⟨_, I', q⟩)
theorem slice_bounds (lo hi : Option Int) (n : Nat) : (sliceBounds lo hi none n).1 = ((HT.sIx n 0 lo : Nat) : Int) ∧ (sliceBounds lo hi none n).2.1 = ((HT.sIx n n hi : Nat) : Int) ∧ (sliceBounds lo hi none n).2.2 = 1 := by
 refine ⟨?_, ?_, rfl⟩
 ·cases lo with
  | none => simp [sliceBounds, HT.sIx]
  | some i =>
   simp only [sliceBounds, HT.sIx, Option.getD_none, show (1 : Int) > 0 by decide, if_true]
   by_cases h : i < 0
   ·simp only [h, if_true] <;> omega
   ·simp only [h, if_false] <;> omega
 ·cases hi with
  | none => simp [sliceBounds, HT.sIx]
  | some i =>
   simp only [sliceBounds, HT.sIx, Option.getD_none, show (1 : Int) > 0 by decide, if_true]
   by_cases h : i < 0
   ·simp only [h, if_true] <;> omega
   ·simp only [h, if_false] <;> omega
theorem slicePick_cut (its : List Value) (lo hi : Option Int) : slicePick its.toArray lo hi none = ((its.drop (HT.sIx its.length 0 lo)).take (HT.sIx its.length its.length hi - HT.sIx its.length 0 lo)).toArray := by
 obtain ⟨h1, h2, h3⟩ := slice_bounds lo hi its.toArray.size
 unfold slicePick
 rw [h1, h2, h3]
 simp only [sliceRange_one, pick_run, List.size_toArray] <;> rfl
noncomputable def rSlL (K : PySem.W.Frag) : V → Option Int → Option Int → Hp → VK → Prop := fun x lo hi H Q => ∃ a xs, x = .ref a ∧ SqL K H a xs ∧ ∀ p, H p = none → Q (.ref p) (upd H p (.lst (cutV xs lo hi)))
theorem sl_list : SlR X (rSlL X.K) := by
 intro pins s σ H x v vl vu lo hi sl Q I rx hs pl pu h
 obtain ⟨a, xs, rfl, hx, q⟩ := h
 cases rx
 obtain ⟨its, r, ht, hz⟩ := I.list hx
 have hlen := r.length
 refine ⟨"list", _, slot_list_getitem.lookup, ht.isList.typeIs, ?_⟩
 refine wpAny_getItem_list_slice ht.isList hs pl pu .none (by simp) ?_ (by rw [List.size_toArray] <;> omega)
 rw [slicePick_cut, ← hlen]
 refine ⟨.ref s.heap.objs.size, _, I.laid (t' := s.toks) (o := .lst (cutV xs lo hi)) (fun b ob q => Heap.get?_push_of_some _ q) (Nat.le_refl _) ?_, rfl, q _ (I.hok.fresh (Nat.le_refl _))⟩
 exact ⟨Nat.le_trans (cutV_length xs lo hi) hz, _, 0, (r.drop (HT.sIx xs.length 0 lo)).take (HT.sIx xs.length xs.length hi - HT.sIx xs.length 0 lo), Heap.get?_push_size _ rfl⟩
noncomputable def flatV : V → Bool
 | .non => true
 | .bl _ => true
 | .int _ => true
 | .str _ => true
 | _ => false
noncomputable def eqV : V → V → Bool
 | .non, .non => true
 | .bl a, .bl b => a == b
 | .bl a, .int b => (if a then 1 else 0) == b
 | .int a, .bl b => a == (if b then 1 else 0)
 | .int a, .int b => a == b
 | .str a, .str b => a == b
 | _, _ => false
theorem eqAt_V {A : Around} {s : Shared} {y x : V} {u v : Value} (ry : RelV y u) (rx : RelV x v) (fy : flatV y = true) (fx : flatV x = true) : SeqAt.EqAt A s u v (eqV y x) := by
 cases y with
 | non =>
  cases ry
  cases x with
  | non => cases rx; exact SeqAt.EqAt.same _
  | bl b => cases rx; exact SeqAt.EqAt.none_bool b
  | int b => obtain ⟨t, rfl⟩ := rx; exact SeqAt.EqAt.none_int b t
  | str b => obtain ⟨t, rfl⟩ := rx; exact SeqAt.EqAt.none_str b t
  | _ => exact absurd (show false = true from fx) Bool.false_ne_true
 | bl a =>
  cases ry
  cases x with
  | non => cases rx; exact SeqAt.EqAt.bool_none a
  | bl b => cases rx; exact SeqAt.EqAt.bool_bool a b
  | int b => obtain ⟨t, rfl⟩ := rx; exact SeqAt.EqAt.bool_int a b t
  | str b => obtain ⟨t, rfl⟩ := rx; exact SeqAt.EqAt.bool_str a b t
  | _ => exact absurd (show false = true from fx) Bool.false_ne_true
 | int a =>
  obtain ⟨t', rfl⟩ := ry
  cases x with
  | non => cases rx; exact SeqAt.EqAt.int_none a t'
  | bl b => cases rx; exact SeqAt.EqAt.int_bool a t' b
  | int b => obtain ⟨t, rfl⟩ := rx; exact SeqAt.EqAt.int_int a t' b t
  | str b => obtain ⟨t, rfl⟩ := rx; exact SeqAt.EqAt.int_str a t' b t
  | _ => exact absurd (show false = true from fx) Bool.false_ne_true
 | str a =>
  obtain ⟨t', rfl⟩ := ry
  cases x with
  | non => cases rx; exact SeqAt.EqAt.str_none a t'
  | bl b => cases rx; exact SeqAt.EqAt.str_bool a t' b
  | int b => obtain ⟨t, rfl⟩ := rx; exact SeqAt.EqAt.str_int a t' b t
  | str b => obtain ⟨t, rfl⟩ := rx; exact SeqAt.EqAt.str_str a t' b t
  | _ => exact absurd (show false = true from fx) Bool.false_ne_true
 | _ => exact absurd (show false = true from fy) Bool.false_ne_true
noncomputable def eqU (x : V) (u : Value) : Bool := match u with
 | .none => eqV .non x
 | .bool b => eqV (.bl b) x
 | .int i _ => eqV (.int i) x
 | .str z _ => eqV (.str z) x
 | _ => false
theorem eqU_of {x y : V} {u : Value} (r : RelV y u) (f : flatV y = true) : eqU x u = eqV y x := by
 cases y with
 | non => cases r; rfl
 | bl b => cases r; rfl
 | int i => obtain ⟨t, rfl⟩ := r; rfl
 | str z => obtain ⟨t, rfl⟩ := r; rfl
 | _ => exact absurd (show false = true from f) Bool.false_ne_true
theorem any_eqU {x : V} {xs : List V} {us : List Value} (h : Vals xs us) (f : xs.all flatV = true) : us.any (eqU x) = xs.any fun y => eqV y x := by
 induction h with
 | nil => rfl
 | cons r t ih =>
  rw [List.all_cons, Bool.and_eq_true] at f
  rw [List.any_cons, List.any_cons, eqU_of r f.1, ih f.2]
theorem mem_eqAt {A : Around} {s : Shared} {x : V} {v : Value} (rx : RelV x v) (fx : flatV x = true) {xs : List V} {us : List Value} (h : Vals xs us) (f : xs.all flatV = true) : ∀ u ∈ us, SeqAt.EqAt A s u v (eqU x u) := by
 induction h with
 | nil => intro u hu; cases hu
 | cons r t ih =>
  intro u' hu
  rw [List.all_cons, Bool.and_eq_true] at f
  rcases List.mem_cons.mp hu with rfl | hu
  ·rw [eqU_of r f.1]; exact eqAt_V r rx f.1 fx
  ·exact ih f.2 u' hu
noncomputable def inV (x : V) (xs : List V) : Bool := xs.any fun y => eqV y x
noncomputable def rIn (K : PySem.W.Frag) (neg : Bool) : R2 := fun x y H Q => ∃ p xs, y = .ref p ∧ (SqL K H p xs ∨ SqT K H p xs) ∧ flatV x = true ∧ xs.all flatV = true ∧ Q (.bl (if neg then !inV x xs else inV x xs)) H
theorem op_in_seq : OpR X (compareOp .In) (rIn X.K false) := by
 intro pins s σ H x y v u Q I rx ry h
 obtain ⟨p, xs, rfl, hq, fx, fs, q⟩ := h
 cases ry
 rcases hq with hq | hq
 ·obtain ⟨its, r, pl, hz⟩ := I.list hq
  refine SeqAt.in_listAt (eqU x) pl.isList (fun w hw => mem_eqAt rx fx r fs w (by simpa using hw)) ⟨.bl _, H, I, rfl, ?_⟩
  rw [show its.toArray.any (eqU x) = its.any (eqU x) by simp, any_eqU r fs]
  exact q
 ·obtain ⟨its, r, pl, hz⟩ := I.tuple hq
  refine SeqAt.in_tupleAt (eqU x) pl (fun w hw => mem_eqAt rx fx r fs w (by simpa using hw)) ⟨.bl _, H, I, rfl, ?_⟩
  rw [show its.toArray.any (eqU x) = its.any (eqU x) by simp, any_eqU r fs]
  exact q
theorem op_notIn_seq : OpR X (compareOp .NotIn) (rIn X.K true) := by
 intro pins s σ H x y v u Q I rx ry h
 obtain ⟨p, xs, rfl, hq, fx, fs, q⟩ := h
 cases ry
 rcases hq with hq | hq
 ·obtain ⟨its, r, pl, hz⟩ := I.list hq
  refine SeqAt.notIn_listAt (eqU x) pl.isList (fun w hw => mem_eqAt rx fx r fs w (by simpa using hw)) ⟨.bl _, H, I, rfl, ?_⟩
  rw [show its.toArray.any (eqU x) = its.any (eqU x) by simp, any_eqU r fs]
  exact q
 ·obtain ⟨its, r, pl, hz⟩ := I.tuple hq
  refine SeqAt.notIn_tupleAt (eqU x) pl (fun w hw => mem_eqAt rx fx r fs w (by simpa using hw)) ⟨.bl _, H, I, rfl, ?_⟩
  rw [show its.toArray.any (eqU x) = its.any (eqU x) by simp, any_eqU r fs]
  exact q
theorem call_len_seq : CallR X (.builtin "len") (fun xs H Q => ∃ p ys, xs = [.ref p] ∧ (SqL X.K H p ys ∨ SqT X.K H p ys) ∧ Q (.int ys.length) H) := by
 intro pins s σ H xs us Q I r h
 obtain ⟨p, ys, rfl, hq, q⟩ := h
 obtain ⟨u, rfl, rx⟩ := vals1 r
 cases rx
 have hn := line63
 rcases hq with hq | hq
 ·obtain ⟨its, r', pl, hz⟩ := I.list hq
  have hlen := r'.length
  exact Calls.call_len_list pl.isList (by simp only [List.size_toArray] <;> omega) ⟨.int ys.length, H, I.tok _, ⟨s.toks + 1, by rw [List.size_toArray, hlen]⟩, q⟩
 ·obtain ⟨its, r', pl, hz⟩ := I.tuple hq
  have hlen := r'.length
  exact len_tuple pl (by simp only [List.size_toArray] <;> omega) ⟨.int ys.length, H, I.tok _, ⟨s.toks + 1, by rw [List.size_toArray, hlen]⟩, q⟩
theorem call_list_of : CallR X (.type "list") (fun xs H Q => ∃ p ys, xs = [.ref p] ∧ (SqL X.K H p ys ∨ SqT X.K H p ys) ∧ ∀ l, H l = none → Q (.ref l) (upd H l (.lst ys))) := by
 intro pins s σ H xs us Q I r h
 obtain ⟨p, ys, rfl, hq, q⟩ := h
 obtain ⟨u, rfl, rx⟩ := vals1 r
 cases rx
 have fin : ∀ (its : List Value), Vals ys its → ys.length ≤ sizeLine → ∀ (h' : Heap) (c' : Nat), (∀ b o', s.heap.get? b = some o' → h'.get? b = some o') →
   h'.get? s.heap.objs.size = some { cls := .type "list", dict := none, data := .seq its.toArray c', slots := #[] } → EP X pins σ Q (.ref s.heap.objs.size) { s with heap := h' } := fun its r' hz h' c' kp e =>
  ⟨.ref s.heap.objs.size, _, I.laid (t' := s.toks) kp (Nat.le_refl _) (show ObjOk X.prog X.w _ h' _ (.lst ys) from ⟨hz, its, c', r', e⟩), rfl, q _ (I.hok.fresh (Nat.le_refl _))⟩
 rcases hq with hq | hq
 ·obtain ⟨its, r', pl, hz⟩ := I.list hq
  have hlen := r'.length
  obtain ⟨o, ho, hc, n, hd⟩ := pl.isList
  exact call_list_seq p (.inl rfl) ho hc hd (fun h' c' kp e => fin its r' hz h' c' kp e) (by simp only [List.size_toArray] <;> omega)
 ·obtain ⟨its, r', pl, hz⟩ := I.tuple hq
  have hlen := r'.length
  obtain ⟨o, ho, hc, n, hd⟩ := pl
  exact call_list_seq p (.inr rfl) ho hc hd (fun h' c' kp e => fin its r' hz h' c' kp e) (by simp only [List.size_toArray] <;> omega)
def tyV (K : PySem.W.Frag) (T : String) (x : V) (H : Hp) : Prop := match x with
 | .str _ => T = "str"
 | .int _ => T = "int"
 | .ref p => (T = "list" ∧ ∃ xs, SqL K H p xs) ∨ (T = "tuple" ∧ ∃ o, K.lookup p = some o ∧ o.cls = .type "tuple" ∧ o.dict = none) ∨
   (T = "dict" ∧ ((∃ kvs, H p = some (.dK kvs)) ∨ ∃ kvs, H p = some (.dT kvs))) ∨ (T = "set" ∧ ∃ S n, H p = some (.set S n))
 | _ => False
theorem tyV_is {pins : List (Addr × Obj)} {σ : St} {H : Hp} {s : Shared} {T : String} {x : V} {v : Value} (I : Inv X pins σ H s) (r : RelV x v) (ty : tyV X.K T x H) :
  s.TypeIs v T ∧ ∀ a, v = .ref a → ∃ ob, s.heap.get? a = some ob ∧ ob.dict = none := by
 cases x with
 | str z =>
  obtain ⟨t, rfl⟩ := r
  cases (show T = "str" from ty)
  exact ⟨typeIs_str s z t, fun _ e => nomatch e⟩
 | int i =>
  obtain ⟨t, rfl⟩ := r
  cases (show T = "int" from ty)
  exact ⟨typeIs_int s i t, fun _ e => nomatch e⟩
 | ref p =>
  cases r
  rcases ty with ⟨rfl, xs, hq⟩ | ⟨rfl, o, hk, hc, hd⟩ | ⟨rfl, hk⟩ | ⟨rfl, S, n, hk⟩
  ·obtain ⟨its, _, pl, _⟩ := I.list hq
   refine ⟨pl.isList.typeIs, fun a e => ?_⟩
   cases e
   obtain ⟨o, n, e, c, hd, _⟩ := pl
   exact ⟨o, e, hd⟩
  ·refine ⟨⟨o, I.kIn p o hk, hc⟩, fun a e => ?_⟩
   cases e
   exact ⟨o, I.kIn _ o hk, hd⟩
  ·have z : ∃ o, s.heap.get? p = some o ∧ o.ExactDict := by
    rcases hk with ⟨kvs, hk⟩ | ⟨kvs, hk⟩
    ·obtain ⟨_, _, _, _, o, _, _, e, ex, _⟩ := I.hok p _ hk
     exact ⟨o, e, ex⟩
    ·obtain ⟨_, _, _, _, o, _, _, e, ex, _⟩ := I.hok p _ hk
     exact ⟨o, e, ex⟩
   obtain ⟨o, e, ex⟩ := z
   refine ⟨⟨o, e, ex.1⟩, fun a e2 => ?_⟩
   cases e2
   exact ⟨o, e, ex.2.1⟩
  ·obtain ⟨o, _, _, _, e, ex, _⟩ := I.hok p _ hk
   refine ⟨⟨o, e, ex.1⟩, fun a e2 => ?_⟩
   cases e2
   exact ⟨o, e, ex.2.1⟩
 | _ => exact False.elim ty
noncomputable def tBM0 (K : PySem.W.Frag) (T : String) (r : V → List V → Hp → VK → Prop) (to : TE) : TE := fun σ H Q => to σ H fun x H1 => tyV K T x H1 ∧ r x [] H1 Q
noncomputable def tBM (K : PySem.W.Frag) (T : String) (r : V → List V → Hp → VK → Prop) (to : TE) (t : TA) : TE := fun σ H Q => to σ H fun x H1 => tyV K T x H1 ∧ t σ H1 fun xs H2 => r x xs H2 Q
variable {o e : Expr} {es : List Expr} {to : TE} {t : TA} {name : Str} {apos cpos : Pos} {T id : String} {r : V → List V → Hp → VK → Prop}
theorem pe_bm (pa : PlainAttrs T) (slot : Slot T name id) (hty : typeOf (.builtin id) = pure (.type "method_descriptor")) (hm : MtR X id r) (ho : PE X o to) (ha : PA X (e :: es) t)
  (hbase : attributeBase o name X.env (eval o X.env) = eval o X.env := by rfl)
  (hfew : ((backTo cpos (starEach (e :: es) X.env)).all (fun x => !x.1) && (backToKw cpos (keywordEach [] X.env)).all (fun x => x.1.isSome)
   && decide ((e :: es).length + ([] : List Keyword).length + (if ([] : List Keyword).isEmpty then 0 else 1) < 30)) = true := by rfl)
  (hline : (apos.endLine == cpos.line) = true := by rfl) (hs : starEach (e :: es) X.env = (false, eval e X.env) :: starEach es X.env := by rfl) (hplain : (backTo cpos (starEach es X.env)).any (·.1) = false := by rfl) :
  PE X (.Call (.Attribute o name apos) (e :: es) [] cpos) (tBM X.K T r to t) := by
 intro pins s σ H Q I h
 refine wpAny_Call_method_late hbase hfew hline rfl (thn (ho pins s σ H _ I h) fun v s1 hq_ => ?_)
 obtain ⟨x, H1, I1, r1, ty, q1⟩ := hq_
 obtain ⟨h1, h2⟩ := tyV_is I1 r1 ty
 refine ⟨T, id, pa, slot, hty, h1, h2, ?_⟩
 have hA := ha cpos pins s1 σ H1 _ I1 q1
 rw [hs] at hA ⊢
 refine Calls.callWith_builtin (by show (false || (backTo cpos (starEach es X.env)).any (·.1)) = false; rw [hplain] <;> rfl) (Calls.evalArgs_plain ?_)
 refine thn hA fun us s2 hq_ => ?_
 obtain ⟨vs, H2, I2, r2, q2⟩ := hq_
 exact hm pins s2 σ H2 x vs v us Q I2 r1 r2 q2
end
end L2
namespace L2
open PySem PySem.Spec PyProof.Rows
def MtM (X : Cx) (id : String) (r : V → List V → Hp → VK → Prop) : Prop :=
 ∀ (pins : List (Addr × Obj)) (s : Shared) (σ : St) (H : Hp) (x : V) (xs : List V) (v : Value) (us : List Value) (Q : VK), Inv X pins σ H s → RelV x v → Vals xs us → r x xs H Q →
  wpAny (model X.prog X.w) X.A (call (.builtin id) (v :: us)) (EP X pins σ Q) X.xe s
theorem Vals.one {x : V} {us : List Value} (h : Vals [x] us) : ∃ u, us = [u] ∧ RelV x u := by
 cases h with | cons r t => cases t; exact ⟨_, rfl, r⟩
theorem Vals.two {x y : V} {us : List Value} (h : Vals [x, y] us) : ∃ u v, us = [u, v] ∧ RelV x u ∧ RelV y v := by
 cases h with | cons r t => cases t with | cons q t => cases t; exact ⟨_, _, rfl, r, q⟩
theorem Vals.eraseIdx : ∀ {xs : List V} {us : List Value} (i : Nat), Vals xs us → Vals (xs.eraseIdx i) (us.eraseIdx i)
 | _, _, _, .nil => .nil
 | _, _, 0, .cons _ t => t
 | _, _, i + 1, .cons r t => .cons r (Vals.eraseIdx i t)
theorem Vals.rep {xs : List V} {us : List Value} (h : Vals xs us) : ∀ k : Nat, Vals (List.replicate k xs).flatten (List.replicate k us).flatten
 | 0 => .nil
 | k + 1 => by
  rw [List.replicate_succ, List.replicate_succ, List.flatten_cons, List.flatten_cons]
  exact Vals.append h (Vals.rep h k)
theorem len_erase {α : Type} : ∀ (l : List α) (i : Nat), (l.eraseIdx i).length ≤ l.length
 | [], _ => Nat.le_refl _
 | _ :: _, 0 => Nat.le_succ _
 | _ :: r, i + 1 => Nat.succ_le_succ (len_erase r i)
theorem foldl_rep (its : List Value) : ∀ (k : Nat) (acc : List Value),
  List.foldl (fun x1 x2 => x1 ++ x2) acc.toArray (List.replicate k its.toArray) = (acc ++ (List.replicate k its).flatten).toArray
 | 0, acc => by simp
 | k + 1, acc => by
  have e : acc.toArray ++ its.toArray = (acc ++ its).toArray := by simp
  have e2 : (acc ++ its) ++ (List.replicate k its).flatten = acc ++ (List.replicate (k + 1) its).flatten := by
   rw [List.replicate_succ, List.flatten_cons, List.append_assoc]
  rw [← e2, ← foldl_rep its k (acc ++ its), ← e, List.replicate_succ, List.foldl_cons]
section
variable {X : Cx} {pins : List (Addr × Obj)} {σ : St} {H : Hp} {s : Shared} {l b : Addr} {xs ys zs : List V}
theorem Inv.lset {its its' : List Value} {n : Nat} {f : Array Value → Array Value} {t' : Nat} (I : Inv X pins σ H s) (hH : H l = some (.lst xs))
  (e : s.heap.get? l = some { cls := .type "list", data := .seq its.toArray n }) (hf : f its.toArray = its'.toArray) (hv : Vals ys its') (hz : ys.length ≤ sizeLine) :
  Inv X pins σ (upd H l (.lst ys)) { s with heap := s.heap.update l (Obj.mapSeq f), toks := t' } := by
 have q := PySem.IsL.update e f
 rw [hf] at q
 refine I.write (x := l) (e := l) (by rw [hH]; exact trivial) (.inl rfl) (fun b' u hb hu => (Heap.get?_update_other s.heap (Obj.mapSeq f) (Ne.symm hb)).trans hu) ⟨_, q⟩ ?_
 exact ⟨hz, its', _, hv, q⟩
theorem Inv.lnew {its : List Value} {t' : Nat} (I : Inv X pins σ H s) (hv : Vals ys its) (hz : ys.length ≤ sizeLine) :
  Inv X pins σ (upd H s.heap.objs.size (.lst ys)) { s with heap := s.heap.push { cls := .type "list", data := .seq its.toArray }, toks := t' } :=
 I.laid (fun _ _ q => Heap.get?_push_of_some _ q) (Nat.le_refl _) ⟨hz, its, 0, hv, Heap.get?_push_size _ rfl⟩
theorem Inv.fresh (I : Inv X pins σ H s) : H s.heap.objs.size = none := I.hok.fresh (Nat.le_refl _)
theorem Inv.lstM (I : Inv X pins σ H s) (hH : H l = some (.lst xs)) : xs.length ≤ sizeLine ∧ ∃ (its : List Value) (n : Nat), Vals xs its ∧ xs.length = its.length ∧ s.heap.get? l = some { cls := .type "list", data := .seq its.toArray n } := by
 obtain ⟨z, its, n, r, e⟩ := I.hok l _ hH
 exact ⟨z, its, n, r, r.length, e⟩
theorem notLongL {n : Nat} (h : n ≤ sizeLine) : Builtin.List.listTooLong n = false := by
 unfold Builtin.List.listTooLong
 exact decide_eq_false (by omega)
end
section
variable {X : Cx}
noncomputable def rAppend : V → List V → Hp → VK → Prop := fun x vs H Q => ∃ l xs y, x = .ref l ∧ vs = [y] ∧ H l = some (.lst xs) ∧ xs.length < sizeLine ∧ Q .non (upd H l (.lst (xs ++ [y])))
theorem mt_append : MtM X "list.append" rAppend := by
 intro pins s σ H x vs v us Q I rx rv h
 obtain ⟨l, xs, y, rfl, rfl, hH, hz, q⟩ := h
 cases rx
 obtain ⟨u, rfl, ru⟩ := rv.one
 obtain ⟨z, its, n, r, hl, e⟩ := I.lstM hH
 refine call_meets F.slot_list_append ⟨_, e, rfl⟩ F.entry_list_append (F.args_list_append_2 _ _) (PySem.list_append l its.toArray n u (by rw [List.size_toArray]; omega)) ⟨e, ?_⟩
 refine ⟨.non, _, I.lset (its' := its ++ [u]) hH e (by simp) (r.append (.cons ru .nil)) ?_, rfl, q⟩
 rw [List.length_append, List.length_singleton]
 omega
noncomputable def rExtend : V → List V → Hp → VK → Prop := fun x vs H Q => ∃ l b xs zs, x = .ref l ∧ vs = [.ref b] ∧ H l = some (.lst xs) ∧ H b = some (.lst zs) ∧ xs.length + zs.length ≤ sizeLine ∧ Q .non (upd H l (.lst (xs ++ zs)))
theorem mt_extend : MtM X "list.extend" rExtend := by
 intro pins s σ H x vs v us Q I rx rv h
 obtain ⟨l, b, xs, zs, rfl, rfl, hH, hB, hz, q⟩ := h
 cases rx
 obtain ⟨u, rfl, ru⟩ := rv.one
 cases ru
 obtain ⟨z, its, n, r, hl, e⟩ := I.lstM hH
 obtain ⟨z2, its2, n2, r2, hl2, e2⟩ := I.lstM hB
 have hsz : its.toArray.size + its2.toArray.size ≤ sizeLine := by rw [List.size_toArray, List.size_toArray]; omega
 have hlong : ¬ (!its.toArray.isEmpty && Builtin.List.listTooLong (its.toArray.size + its2.toArray.size)) = true := by
  rw [notLongL hsz, Bool.and_false]
  exact Bool.false_ne_true
 refine call_meets F.slot_list_extend ⟨_, e, rfl⟩ F.entry_list_extend (F.args_list_extend_2 _ _)
  (AutoSeq1.list_extend_list_list_0 l its.toArray n b its2.toArray n2 hlong (by rw [List.size_toArray]; omega) (by omega)) ⟨e, e2, ?_⟩
 refine ⟨.non, _, I.lset (its' := its ++ its2) hH e (by simp) (r.append r2) ?_, rfl, q⟩
 rw [List.length_append]
 omega
noncomputable def rPopAt : V → List V → Hp → VK → Prop := fun x vs H Q => ∃ l xs i k y, x = .ref l ∧ vs = [.int i] ∧ H l = some (.lst xs) ∧ -(2 ^ 63) ≤ i ∧ i < 2 ^ 63 ∧ seqIndex? i xs.length = some k ∧ xs[k]? = some y ∧ Q y (upd H l (.lst (xs.eraseIdx k)))
theorem mt_popAt : MtM X "list.pop" rPopAt := by
 intro pins s σ H x vs v us Q I rx rv h
 obtain ⟨l, xs, i, k, y, rfl, rfl, hH, h1, h2, hk, hy, q⟩ := h
 cases rx
 obtain ⟨u, rfl, ru⟩ := rv.one
 obtain ⟨t, rfl⟩ := ru
 obtain ⟨z, its, n, r, hl, e⟩ := I.lstM hH
 obtain ⟨w, hw, rw'⟩ := r.get hy
 refine call_meets F.slot_list_pop ⟨_, e, rfl⟩ F.entry_list_pop (F.args_list_pop_2 _ _)
  (MeetsSeq.list_pop_at l its.toArray n i t k w (fitsIndex_both h1 h2) (by rw [List.size_toArray, ← hl]; exact hk) (by rw [← Array.getElem?_toList]; exact hw) (by rw [List.size_toArray]; omega)) ⟨e, ?_⟩
 refine ⟨y, _, I.lset (its' := its.eraseIdx k) hH e ?_ (r.eraseIdx k) ?_, rw', q⟩
 ·show its.toArray.eraseIdxIfInBounds k = (its.eraseIdx k).toArray
  rw [List.eraseIdxIfInBounds_toArray]
 ·have := len_erase xs k
  omega
noncomputable def rCat : R2 := fun x y H Q => ∃ l b xs zs, x = .ref l ∧ y = .ref b ∧ H l = some (.lst xs) ∧ H b = some (.lst zs) ∧ xs.length + zs.length ≤ sizeLine ∧ ∀ p, H p = none → Q (.ref p) (upd H p (.lst (xs ++ zs)))
theorem op_cat : OpR X (binaryOp .Add) rCat := by
 intro pins s σ H x y v u Q I rx ry h
 obtain ⟨l, b, xs, zs, rfl, rfl, hH, hB, hz, q⟩ := h
 cases rx
 cases ry
 obtain ⟨z, its, n, r, hl, e⟩ := I.lstM hH
 obtain ⟨z2, its2, n2, r2, hl2, e2⟩ := I.lstM hB
 refine PySem.P.add_list e e2 ?_ (by rw [List.size_toArray, List.size_toArray]; omega)
 have ea : its.toArray ++ its2.toArray = (its ++ its2).toArray := by simp
 rw [ea]
 exact ⟨.ref _, _, I.lnew (t' := s.toks) (r.append r2) (by rw [List.length_append]; omega), rfl, q _ I.fresh⟩
noncomputable def rRep : R2 := fun x y H Q => ∃ l k xs, x = .ref l ∧ y = .int k ∧ H l = some (.lst xs) ∧ -(2 ^ 63) ≤ k ∧ k < 2 ^ 63 ∧ xs.length * k.toNat ≤ sizeLine ∧
 ∀ p, H p = none → Q (.ref p) (upd H p (.lst (List.replicate k.toNat xs).flatten))
theorem len_rep {α : Type} (xs : List α) (k : Nat) : (List.replicate k xs).flatten.length = k * xs.length := by
 induction k with
 | zero => simp
 | succ k ih => rw [List.replicate_succ, List.flatten_cons, List.length_append, ih, Nat.succ_mul, Nat.add_comm]
theorem op_rep : OpR X (binaryOp .Mult) rRep := by
 intro pins s σ H x y v u Q I rx ry h
 obtain ⟨l, k, xs, rfl, rfl, hH, h1, h2, hz, q⟩ := h
 cases rx
 obtain ⟨t, rfl⟩ := ry
 obtain ⟨z, its, n, r, hl, e⟩ := I.lstM hH
 have hlen : its.toArray.size * k.toNat ≤ sizeLine := by rw [List.size_toArray, ← hl]; exact hz
 have hcap : ¬ its.toArray.size * k.toNat > (2 ^ 63 - 1) / 8 := by
  have : (sizeLine : Nat) ≤ (2 ^ 63 - 1) / 8 := by decide
  omega
 have hfit : ¬ (!Builtin.List.listFitsIndex k) = true := by
  rw [fitsIndex_both h1 h2]
  exact Bool.false_ne_true
 have hlong : ¬ Builtin.List.listTooLong (its.toArray.size * k.toNat) = true := by
  rw [notLongL hlen]
  exact Bool.false_ne_true
 have hnew : List.foldl (fun x1 x2 => x1 ++ x2) #[] (List.replicate (if its.toArray.isEmpty = true then 0 else k.toNat) its.toArray) = (List.replicate k.toNat its).flatten.toArray := by
  have f0 : ∀ m : Nat, List.foldl (fun x1 x2 => x1 ++ x2) #[] (List.replicate m its.toArray) = (List.replicate m its).flatten.toArray := fun m => by
   have := foldl_rep its m []
   rw [List.nil_append] at this
   exact this
  rw [f0]
  cases its with
  | nil => simp
  | cons a r' => rw [if_neg (by simp)]
 refine wpAny_binaryOp_repeat_ref (T := "list") (U := "int") (by decide) ⟨_, e, rfl⟩ (fun s' => typeIs_int s' k t) noFill_list_mul F.fills_int_mul F.slot_int_rmul repeat_list F.slot_int_index.lookup
  (call_meets F.slot_int_rmul (typeIs_int s k t) F.entry_int_rmul (F.args_int_rmul_2 _ _) (int___rmul___int_list k t l its.toArray n)
   ⟨e, rfl, ⟨_, e, rfl⟩, call_meets F.slot_list_mul ⟨_, e, rfl⟩ F.entry_list_mul (F.args_list_mul_2 _ _) (AutoListH.list___mul___list_int_3 l its.toArray n k t hfit hcap hlong) ⟨e, ?_⟩⟩)
 rw [hnew]
 exact ⟨.ref _, _, I.lnew (t' := s.toks) (r.rep k.toNat) (by rw [len_rep, Nat.mul_comm]; exact hz), rfl, q _ I.fresh⟩
end
end L2
namespace L2
open PySem PySem.Spec PyProof.Rows
section
variable {κ : Type} [DecidableEq κ]
noncomputable def valV (kvs : List (κ × V)) (k : κ) : Option V := (kvs.find? fun kv => decide (kv.1 = k)).map (·.2)
noncomputable def putK (kvs : List (κ × V)) (k : κ) (v : V) : List (κ × V) :=
 if (kvs.any fun kv => decide (kv.1 = k)) = true then kvs.map (fun kv => if kv.1 = k then (kv.1, v) else kv) else kvs ++ [(k, v)]
theorem valV_pos {p : κ × V} {r : List (κ × V)} {k : κ} (e : p.1 = k) : valV (p :: r) k = some p.2 := by simp [valV, List.find?_cons, e]
theorem valV_neg {p : κ × V} {r : List (κ × V)} {k : κ} (e : ¬ p.1 = k) : valV (p :: r) k = valV r k := by simp [valV, List.find?_cons, e]
theorem valV_any (k : κ) : ∀ kvs : List (κ × V), (kvs.any fun kv => decide (kv.1 = k)) = (valV kvs k).isSome
 | [] => rfl
 | p :: r => by
  rw [List.any_cons]
  by_cases e : p.1 = k
  ·simp only [valV_pos e, decide_eq_true e, Bool.true_or, Option.isSome_some]
  ·rw [valV_neg e, decide_eq_false e, Bool.false_or]; exact valV_any k r
theorem length_putK (kvs : List (κ × V)) (k : κ) (v : V) : (putK kvs k v).length ≤ kvs.length + 1 := by
 unfold putK
 split
 ·rw [List.length_map]; omega
 ·rw [List.length_append, List.length_cons, List.length_nil]; omega
theorem RelO.isSome_eq {o : Option V} {u : Option Value} (r : RelO o u) : o.isSome = u.isSome := by
 cases o with
 | none => cases u with
  | none => rfl
  | some _ => exact (show False from r).elim
 | some _ => cases u with
  | none => exact (show False from r).elim
  | some _ => rfl
theorem KV.val {kvs : List (κ × V)} {vs : List (κ × Value)} (r : KV kvs vs) (k : κ) : RelO (valV kvs k) (valueAt vs k) := by
 unfold KV at r
 induction r with
 | nil => exact True.intro
 | @cons p q ps qs h t ih =>
  obtain ⟨h1, h2⟩ := h
  by_cases e : p.1 = k
  ·have e' : q.1 = k := h1.symm.trans e
   have b : valueAt (q :: qs) k = some q.2 := by simp [valueAt, List.find?_cons, e']
   rw [valV_pos e, b]; exact h2
  ·have e' : ¬ q.1 = k := fun z => e (h1.trans z)
   have b : valueAt (q :: qs) k = valueAt qs k := by simp [valueAt, List.find?_cons, e']
   rw [valV_neg e, b]; exact ih
theorem KV.any {kvs : List (κ × V)} {vs : List (κ × Value)} (r : KV kvs vs) (k : κ) : (kvs.any fun kv => decide (kv.1 = k)) = vs.any fun kv => decide (kv.1 = k) := by
 unfold KV at r
 induction r with
 | nil => rfl
 | cons h t ih => rw [List.any_cons, List.any_cons, ih, h.1]
theorem KV.repl {kvs : List (κ × V)} {vs : List (κ × Value)} (r : KV kvs vs) (k : κ) {y : V} {u : Value} (ry : RelV y u) :
  KV (kvs.map fun kv => if kv.1 = k then (kv.1, y) else kv) (vs.map fun kv => if kv.1 = k then (kv.1, u) else kv) := by
 unfold KV at r ⊢
 induction r with
 | nil => exact .nil
 | @cons p q ps qs h t ih =>
  rw [List.map_cons, List.map_cons]
  refine .cons ?_ ih
  obtain ⟨h1, h2⟩ := h
  by_cases e : p.1 = k
  ·rw [if_pos e, if_pos (h1.symm.trans e)]; exact ⟨h1, ry⟩
  ·rw [if_neg e, if_neg (fun z => e (h1.trans z))]; exact ⟨h1, h2⟩
theorem KV.put {kvs : List (κ × V)} {vs : List (κ × Value)} (r : KV kvs vs) (k : κ) {y : V} {u : Value} (ry : RelV y u) : KV (putK kvs k y) (stored vs k u) := by
 unfold putK stored
 rw [r.any k]
 by_cases e : (vs.any fun kv => decide (kv.1 = k)) = true
 ·rw [if_pos e, if_pos e]; exact r.repl k ry
 ·rw [if_neg e, if_neg e]; exact Paired.snoc r ⟨rfl, ry⟩
theorem KV.length {kvs : List (κ × V)} {vs : List (κ × Value)} (r : KV kvs vs) : kvs.length = vs.length := Paired.length r
end
theorem kV_is {P : Program} {w : World} {k : Key} {u : Value} (r : RelV (kV k) u) : (mixKind P w).is k u = true := by
 cases k with
 | inl i => obtain ⟨t, e⟩ := (show ∃ t, u = Value.int i t from r); subst e; exact mixKind_int P w i t
 | inr x => obtain ⟨t, e⟩ := (show ∃ t, u = Value.str x t from r); subst e; exact mixKind_str P w x t
theorem items_are {P : Program} {w : World} : ∀ {ks : List Key} {us : List Value}, Vals (ks.map kV) us → ItemsAre (mixKind P w) ks us
 | [], _, r => by rw [List.map_nil] at r; cases r; exact .nil
 | k :: ks, _, r => by
  rw [List.map_cons] at r
  cases r with
  | cons h t => exact .cons (kV_is h) (items_are t)
noncomputable abbrev KT (H : Hp) : List (List Key × V) → List (List Key × Addr × Value) → Prop := Paired fun p q => p.1 = q.1 ∧ H q.2.1 = some (.tup (p.1.map kV)) ∧ RelV p.2 q.2.2
theorem KT.val {H : Hp} {kvs : List (List Key × V)} {xs : List (List Key × Addr × Value)} (r : KT H kvs xs) (k : List Key) : RelO (valV kvs k) ((atKey xs k).map (·.2)) := by
 induction r with
 | nil => exact True.intro
 | @cons p q ps qs h t ih =>
  obtain ⟨h1, _, h2⟩ := h
  by_cases e : p.1 = k
  ·have e' : q.1 = k := h1.symm.trans e
   have b : atKey (q :: qs) k = some q.2 := by simp [atKey, List.find?_cons, e']
   rw [valV_pos e, b]; exact h2
  ·have e' : ¬ q.1 = k := fun z => e (h1.trans z)
   have b : atKey (q :: qs) k = atKey qs k := by simp [atKey, List.find?_cons, e']
   rw [valV_neg e, b]; exact ih
theorem KT.repl {H : Hp} {kvs : List (List Key × V)} {xs : List (List Key × Addr × Value)} (r : KT H kvs xs) (k : List Key) {y : V} {u : Value} (ry : RelV y u) :
  KT H (kvs.map fun kv => if kv.1 = k then (kv.1, y) else kv) (xs.map (putAt k u)) := by
 induction r with
 | nil => exact .nil
 | @cons p q ps qs h t ih =>
  rw [List.map_cons, List.map_cons]
  refine .cons ?_ ih
  obtain ⟨h1, h2, h3⟩ := h
  unfold putAt
  by_cases e : p.1 = k
  ·rw [if_pos e, if_pos (h1.symm.trans e)]; exact ⟨h1, h2, ry⟩
  ·rw [if_neg e, if_neg (fun z => e (h1.trans z))]; exact ⟨h1, h2, h3⟩
theorem KT.put {H : Hp} {kvs : List (List Key × V)} {xs : List (List Key × Addr × Value)} (r : KT H kvs xs) (k : List Key) {b : Addr} {y : V} {u : Value} (hb : H b = some (.tup (k.map kV))) (ry : RelV y u) :
  KT H (putK kvs k y) (storedH xs k b u) := by
 have e : (kvs.any fun kv => decide (kv.1 = k)) = (atKey xs k).isSome := by
  rw [valV_any, (r.val k).isSome_eq, Option.isSome_map]
 unfold putK storedH
 rw [e]
 by_cases q : (atKey xs k).isSome = true
 ·rw [if_pos q, if_pos q]; exact r.repl k ry
 ·rw [if_neg q, if_neg q]; exact Paired.snoc r ⟨rfl, hb, ry⟩
theorem KT.keeps {H H' : Hp} {kvs : List (List Key × V)} {xs : List (List Key × Addr × Value)} (r : KT H kvs xs) (ht : ∀ b ys, H b = some (.tup ys) → H' b = some (.tup ys)) : KT H' kvs xs :=
 Paired.mapP r fun _ _ z => ⟨z.1, ht _ _ z.2.1, z.2.2⟩
section
variable {P : Program} {w : World} {H : Hp} {h : Heap} {a : Addr}
theorem rd_of {u : HO} (ok : HOk P w H h) (e : Rd H a u) : ObjOk P w H h a u := e.ok ok
theorem dk_rd {kvs : List (Key × V)} (ok : HOk P w H h) (e : Rd H a (.dK kvs)) : kvs.length ≤ sizeLine ∧ (a == sysModules) = false ∧ ∃ vs, KV kvs vs ∧ h.DictOf (mixKind P w) a vs :=
 show ObjOk P w H h a (.dK kvs) from rd_of ok e
theorem dk_of {kvs : List (Key × V)} (ok : HOk P w H h) (e : H a = some (.dK kvs)) : kvs.length ≤ sizeLine ∧ (a == sysModules) = false ∧ ∃ vs, KV kvs vs ∧ h.DictOf (mixKind P w) a vs := dk_rd ok (.inl e)
theorem key_of {ks : List Key} (ok : HOk P w H h) (e : H a = some (.tup (ks.map kV))) : (tupleKind (mixKind P w)).is h ks a := by
 obtain ⟨_, its, r, o, h1, h2, n, h3⟩ := (show ObjOk P w H h a (.tup (ks.map kV)) from ok a _ e)
 exact ⟨o, its.toArray, n, h1, h2, h3, by simpa using items_are r⟩
theorem dt_rd {kvs : List (List Key × V)} (ok : HOk P w H h) (e : Rd H a (.dT kvs)) : kvs.length ≤ sizeLine ∧ (a == sysModules) = false ∧
  ∃ xs, KT H kvs xs ∧ h.DictOfH (tupleKind (mixKind P w)) a xs := by
 obtain ⟨z, y, xs, r, o, es, ep, h1, h2, h3, h4, h5⟩ := (show ObjOk P w H h a (.dT kvs) from rd_of ok e)
 refine ⟨z, y, xs, r, o, es, ep, h1, h2, h3, h4, fun x hx => ?_, h5⟩
 have all : ∀ {l : List (List Key × V)} {m : List (List Key × Addr × Value)}, KT H l m → ∀ x ∈ m, (tupleKind (mixKind P w)).is h x.1 x.2.1 := by
  intro l m q
  induction q with
  | nil => intro x hx; exact nomatch hx
  | @cons p q ps qs hq t ih =>
   intro x hx
   rcases List.mem_cons.mp hx with e | hx
   ·subst e
    exact key_of ok (by rw [← hq.1]; exact hq.2.1)
   ·exact ih x hx
 exact all r x hx
theorem dt_of {kvs : List (List Key × V)} (ok : HOk P w H h) (e : H a = some (.dT kvs)) : kvs.length ≤ sizeLine ∧ (a == sysModules) = false ∧
  ∃ xs, KT H kvs xs ∧ h.DictOfH (tupleKind (mixKind P w)) a xs := dt_rd ok (.inl e)
end
def DGet (H : Hp) (a : Addr) (y : V) (r : Option V) : Prop :=
 (∃ kvs k, Rd H a (.dK kvs) ∧ y = kV k ∧ r = valV kvs k) ∨ ∃ kvs k b, Rd H a (.dT kvs) ∧ y = .ref b ∧ H b = some (.tup (k.map kV)) ∧ r = valV kvs k
def DPut (H : Hp) (a : Addr) (y v : V) (H' : Hp) : Prop :=
 (∃ kvs k, H a = some (.dK kvs) ∧ y = kV k ∧ kvs.length < sizeLine ∧ H' = upd H a (.dK (putK kvs k v))) ∨
 ∃ kvs k b, H a = some (.dT kvs) ∧ y = .ref b ∧ H b = some (.tup (k.map kV)) ∧ kvs.length < sizeLine ∧ H' = upd H a (.dT (putK kvs k v))
theorem DGet.k {H : Hp} {a : Addr} {kvs : List (Key × V)} {k : Key} (e : H a = some (.dK kvs)) : DGet H a (kV k) (valV kvs k) := .inl ⟨kvs, k, .inl e, rfl, rfl⟩
theorem DPut.k {H : Hp} {a : Addr} {kvs : List (Key × V)} {k : Key} {v : V} (e : H a = some (.dK kvs)) (hl : kvs.length < sizeLine) : DPut H a (kV k) v (upd H a (.dK (putK kvs k v))) := .inl ⟨kvs, k, e, rfl, hl, rfl⟩
section
variable {X : Cx} {pins : List (Addr × Obj)} {σ : St} {H : Hp} {s : Shared} {a : Addr} {y v : V} {u r : Value} {o : Option V} {A : Around} {E : Value → Shared → Prop}
theorem Inv.big (I : Inv X pins σ H s) : sysModules < s.heap.objs.size := by
 have h : mainGlobals < s.heap.objs.size := (I.mod.glob.keeps I.bk).lt
 exact Nat.lt_trans (by decide) h
theorem d_getItem {Q : Value → Shared → Prop} (hu : A.units + 1 < cLine) (I : Inv X pins σ H s) (g : DGet H a y (some v)) (ry : RelV y u) (h : ∀ w' s', Inv X pins σ H s' → RelV v w' → Q w' s') :
  wpAny (model X.prog X.w) A (getItem (.ref a) u) Q E s := by
 rcases g with ⟨kvs, k, e, ey, l⟩ | ⟨kvs, k, b, e, ey, eb, l⟩
 ·subst ey
  obtain ⟨z, hd, vs, rel, dd⟩ := dk_rd I.hok e
  obtain ⟨w', hw, rw'⟩ := RelO.some_of (v := v) (o := valueAt vs k) (by rw [l]; exact rel.val k)
  exact wpAny_getItem_of (kV_is ry) dd.mapOf hw (h w' _ (I.tok _) rw')
 ·subst ey
  cases (show u = Value.ref b from ry)
  obtain ⟨z, hd, xs, rel, dd⟩ := dt_rd I.hok e
  obtain ⟨w', hw, rw'⟩ := RelO.some_of (v := v) (o := (atKey xs k).map (·.2)) (by rw [l]; exact rel.val k)
  obtain ⟨p, hp, hp2⟩ := Option.map_eq_some_iff.mp hw
  refine wpAny_getItem_heap (tupleKind_room_in1 hu) (key_of I.hok eb) dd hp ?_
  rw [hp2]
  exact h w' _ (I.tok _) rw'
theorem d_in {Q : Value → Shared → Prop} (hu : A.units + 1 < cLine) (I : Inv X pins σ H s) (g : DGet H a y o) (ry : RelV y u) (h : ∀ s', Inv X pins σ H s' → Q (.bool o.isSome) s') :
  wpAny (model X.prog X.w) A (compareOp .In u (.ref a)) Q E s := by
 rcases g with ⟨kvs, k, e, ey, l⟩ | ⟨kvs, k, b, e, ey, eb, l⟩
 ·subst ey
  obtain ⟨z, hd, vs, rel, dd⟩ := dk_rd I.hok e
  refine wpAny_in_of (kV_is ry) hd dd.mapOf ?_
  rw [← (rel.val k).isSome_eq, ← l]
  exact h _ (I.tok _)
 ·subst ey
  cases (show u = Value.ref b from ry)
  obtain ⟨z, hd, xs, rel, dd⟩ := dt_rd I.hok e
  refine wpAny_in_heap (tupleKind_room_in1 hu) (key_of I.hok eb) hd dd ?_
  have q := (rel.val k).isSome_eq
  rw [Option.isSome_map] at q
  rw [← q, ← l]
  exact h _ (I.tok _)
theorem d_notIn {Q : Value → Shared → Prop} (hu : A.units + 1 < cLine) (I : Inv X pins σ H s) (g : DGet H a y o) (ry : RelV y u) (h : ∀ s', Inv X pins σ H s' → Q (.bool (!o.isSome)) s') :
  wpAny (model X.prog X.w) A (compareOp .NotIn u (.ref a)) Q E s := by
 rcases g with ⟨kvs, k, e, ey, l⟩ | ⟨kvs, k, b, e, ey, eb, l⟩
 ·subst ey
  obtain ⟨z, hd, vs, rel, dd⟩ := dk_rd I.hok e
  refine wpAny_notIn_of (kV_is ry) hd dd.mapOf ?_
  rw [← (rel.val k).isSome_eq, ← l]
  exact h _ (I.tok _)
 ·subst ey
  cases (show u = Value.ref b from ry)
  obtain ⟨z, hd, xs, rel, dd⟩ := dt_rd I.hok e
  refine wpAny_notIn_heap (tupleKind_room_in1 hu) (key_of I.hok eb) hd dd ?_
  have q := (rel.val k).isSome_eq
  rw [Option.isSome_map] at q
  rw [← q, ← l]
  exact h _ (I.tok _)
theorem d_write {h' : Heap} {t' : Nat} {ob : HO} (I : Inv X pins σ H s) (mu : Mut (H a)) (hs : Heap.SameBut a s.heap h') (he : ∃ q, h'.get? a = some q) (new : ObjOk X.prog X.w (upd H a ob) h' a ob) :
  Inv X pins σ (upd H a ob) { s with heap := h', toks := t' } :=
 I.write (x := a) (e := a) mu (.inl rfl) (fun b q hb z => (hs.2 b hb).trans z) he new
theorem dk_new {P : Program} {w : World} {H' : Hp} {h' : Heap} {kvs : List (Key × V)} {vs : List (Key × Value)} (z : kvs.length ≤ sizeLine) (hd : (a == sysModules) = false) (rel : KV kvs vs) (dd : h'.DictOf (mixKind P w) a vs) :
  ObjOk P w H' h' a (.dK kvs) := ⟨z, hd, vs, rel, dd⟩
theorem d_setItem {H' : Hp} {Q : Unit → Shared → Prop} (hu : A.units + 1 < cLine) (I : Inv X pins σ H s) (g : DPut H a y v H') (ry : RelV y u) (rv : RelV v r) (h : ∀ s', Inv X pins σ H' s' → Q () s') :
  wpAny (model X.prog X.w) A (setItem (.ref a) u r) Q E s := by
 rcases g with ⟨kvs, k, e, ey, l, eH⟩ | ⟨kvs, k, b, e, ey, eb, l, eH⟩
 ·subst ey eH
  obtain ⟨z, hd, vs, rel, dd⟩ := dk_of I.hok e
  have hz : vs.length ≤ sizeLine := by rw [← rel.length]; exact z
  have hl : (putK kvs k v).length ≤ sizeLine := by have := length_putK kvs k v; omega
  refine wpAny_setItem_pairs (hsz := hz) (kV_is ry) dd fun h' dd' hs => h _ ?_
  have he : ∃ q, h'.get? a = some q := let ⟨q, _, _, hq, _⟩ := dd'; ⟨q, hq⟩
  exact d_write I (by rw [e]; exact True.intro) hs he (dk_new hl hd (rel.put k rv) dd')
 ·subst ey eH
  cases (show u = Value.ref b from ry)
  obtain ⟨z, hd, xs, rel, dd⟩ := dt_of I.hok e
  have hz : xs.length ≤ sizeLine := by rw [← Paired.length rel]; exact z
  have hl : (putK kvs k v).length ≤ sizeLine := by have := length_putK kvs k v; omega
  refine wpAny_setItem_heap (hsz := hz) (tupleKind_room_in1 hu) (key_of I.hok eb) dd fun h' dd' hs => h _ ?_
  obtain ⟨q, es, ep, hq, h2, h3, h4, _, h5⟩ := dd'
  refine d_write I (by rw [e]; exact True.intro) hs ⟨q, hq⟩ ⟨hl, hd, _, (rel.put k eb rv).keeps fun c ys ec => ?_, q, es, ep, hq, h2, h3, h4, h5⟩
  rw [upd_ne (ne_of ec e (fun z => nomatch z))]
  exact ec
end
def NoSl (i : Expr) : Prop := ∀ ov iv, subscripted i false ov iv = operate [ov, iv] (getItem ov iv)
theorem subD_of {prog : Program} {w : World} {A : Around} {E : Value → Shared → Prop} {s : Shared} {env : Env} {value slice : Expr} {pos : Pos} {T id : String} {Q : Value → Shared → Prop}
  (hl : typeLookup (.type T) "__getitem__" = pure (some (.builtin id))) (hs : NoSl slice)
  (h : wpAny (model prog w) A (eval value env) (fun o s₁ => wpAny (model prog w) A (eval slice env) (fun i s₂ => s₂.TypeIs o T ∧ wpAny (model prog w) A (getItem o i) Q E s₂) E s₁) E s) :
  wpAny (model prog w) A (eval (.Subscript value slice pos) env) Q E s := by
 refine Subscript_ (wpAny_mono h (fun o s₁ h₁ => wpAny_mono h₁ (fun i s₂ h₂ => ?_) fun _ _ x => x) fun _ _ x => x)
 obtain ⟨hT, h₂⟩ := h₂
 unfold subscriptTail
 refine wpAny_bind ?_
 rw [getitemInPython_of_ne hT.not_modules]
 refine wpAny_bind (wpAny_specialOf hT hl ?_)
 have fin : wpAny (model prog w) A (subscripted slice false o i) (fun r s₃ => wpAny (model prog w) A (letTemporaryGo value o r >>= fun _ => pure r) Q E s₃) E s₂ := by
  rw [hs o i]
  exact wpAny_operating (wpAny_mono h₂ (fun r s₃ h₃ => wpAny_bind (wpAny_letTemporaryGo (wpAny_pure h₃))) fun _ _ x => x)
 first
  | exact wpAny_pure (wpAny_bind fin)
  | exact wpAny_bind (wpAny_pure (wpAny_bind fin))
  | exact wpAny_bind fin
theorem dict_typeIs {X : Cx} {pins : List (Addr × Obj)} {σ : St} {H : Hp} {s : Shared} {a : Addr} {y : V} {o : Option V} (I : Inv X pins σ H s) (g : DGet H a y o) : s.TypeIs (.ref a) "dict" := by
 rcases g with ⟨kvs, k, e, _, _⟩ | ⟨kvs, k, b, e, _, _, _⟩
 ·obtain ⟨_, _, vs, _, dd⟩ := dk_rd I.hok e
  exact dd.typeIs
 ·obtain ⟨_, _, xs, _, dd⟩ := dt_rd I.hok e
  exact dd.typeIs
noncomputable def tDGet (td ty : TE) : TE := fun σ H Q => td σ H fun x H1 => ty σ H1 fun y H2 => ∃ a v, x = .ref a ∧ DGet H2 a y (some v) ∧ Q v H2
noncomputable def tDIn (ty td : TE) : TE := fun σ H Q => ty σ H fun y H1 => td σ H1 fun x H2 => ∃ a o, x = .ref a ∧ DGet H2 a y o ∧ Q (.bl o.isSome) H2
noncomputable def tDNotIn (ty td : TE) : TE := fun σ H Q => ty σ H fun y H1 => td σ H1 fun x H2 => ∃ a o, x = .ref a ∧ DGet H2 a y o ∧ Q (.bl (!o.isSome)) H2
noncomputable def sDPut (td ty tv : TE) : TS := fun D σ H => tv σ H fun v H1 => td σ H1 fun x H2 => ty σ H2 fun y H3 => ∃ a H4, x = .ref a ∧ DPut H3 a y v H4 ∧ D.nx σ H4
section
variable {X : Cx} {o i e value : Expr} {pos pos' tpos : Pos} {td ty tv : TE}
theorem pe_dget (hu : X.A.units + 1 < cLine) (ho : PE X o td) (hi : PE X i ty) (hs : NoSl i) : PE X (.Subscript o i pos) (tDGet td ty) := by
 intro pins s σ H Q I h
 refine subD_of PySem.F.slot_dict_getitem.lookup hs (thn (ho pins s σ H _ I h) fun u s1 hq_ => ?_)
 obtain ⟨x, H1, I1, rx, q1⟩ := hq_
 refine thn (hi pins s1 σ H1 _ I1 q1) fun iv s2 hq_ => ?_
 obtain ⟨y, H2, I2, ry, a, v, ex, g, q2⟩ := hq_
 subst ex
 obtain rfl : u = Value.ref a := rx
 exact ⟨dict_typeIs I2 g, d_getItem hu I2 g ry fun w' s3 I3 rw' => ⟨v, H2, I3, rw', q2⟩⟩
theorem pc_din (hu : X.A.units + 1 < cLine) (hi : PE X i ty) (ho : PE X o td) : PC X .In i o (tDIn ty td) := by
 intro pins s σ H Q I h
 refine thn (hi pins s σ H _ I h) fun iv s1 hq_ => ?_
 obtain ⟨y, H1, I1, ry, q1⟩ := hq_
 refine thn (ho pins s1 σ H1 _ I1 q1) fun u s2 hq_ => ?_
 obtain ⟨x, H2, I2, rx, a, ov, ex, g, q2⟩ := hq_
 subst ex
 obtain rfl : u = Value.ref a := rx
 exact d_in hu I2 g ry fun s3 I3 => ⟨.bl ov.isSome, H2, I3, rfl, q2⟩
theorem pc_dnotin (hu : X.A.units + 1 < cLine) (hi : PE X i ty) (ho : PE X o td) : PC X .NotIn i o (tDNotIn ty td) := by
 intro pins s σ H Q I h
 refine thn (hi pins s σ H _ I h) fun iv s1 hq_ => ?_
 obtain ⟨y, H1, I1, ry, q1⟩ := hq_
 refine thn (ho pins s1 σ H1 _ I1 q1) fun u s2 hq_ => ?_
 obtain ⟨x, H2, I2, rx, a, ov, ex, g, q2⟩ := hq_
 subst ex
 obtain rfl : u = Value.ref a := rx
 exact d_notIn hu I2 g ry fun s3 I3 => ⟨.bl (!ov.isSome), H2, I3, rfl, q2⟩
theorem ps_dput (hu : X.A.units + 1 < cLine) (ho : PE X o td) (hi : PE X i ty) (hv : PE X value tv) (hs : swapsWith value (some (.Subscript o i pos')) pos.line X.env = pure false) :
  PS X (.Assign [.Subscript o i pos'] value pos) (sDPut td ty tv) := by
 intro pins s σ H D I h
 refine wpAny_Assign_Subscript (thn (hv pins s σ H _ I h) fun r s1 hq_ => ?_) hs
 obtain ⟨v, H1, I1, rv, q1⟩ := hq_
 refine thn (ho pins s1 σ H1 _ I1 q1) fun u s2 hq_ => ?_
 obtain ⟨x, H2, I2, rx, q2⟩ := hq_
 refine thn (hi pins s2 σ H2 _ I2 q2) fun iv s3 hq_ => ?_
 obtain ⟨y, H3, I3, ry, a, H4, ex, g, q3⟩ := hq_
 subst ex
 obtain rfl : u = Value.ref a := rx
 exact d_setItem hu I3 g ry rv fun s4 I4 => ⟨σ, H4, I4, q3⟩
end
theorem dk_empty {P : Program} {w : World} {H : Hp} (h : Heap) (hb : sysModules < h.objs.size) : ObjOk P w H (h.push { cls := .type "dict", data := .dict #[] }) h.objs.size (.dK []) :=
 ⟨Nat.zero_le _, beq_eq_false_iff_ne.mpr (Ne.symm (Nat.ne_of_lt hb)), [], .nil, Heap.DictOf.new h⟩
noncomputable def tDNewK : TE := fun _ H Q => ∀ p, H p = none → Q (.ref p) (upd H p (.dK []))
section
variable {X : Cx} {pos : Pos}
theorem pe_dnewK : PE X (.Dict [] [] pos) tDNewK := fun pins s σ H Q I h =>
 wpAny_Dict_empty ⟨.ref s.heap.objs.size, _, I.laid (a := s.heap.objs.size) (o := .dK []) (t' := s.toks) (fun _ _ q => Heap.get?_push_of_some _ q) (Nat.le_refl _) (dk_empty s.heap I.big), rfl, h _ (I.hok.fresh (Nat.le_refl _))⟩
end
noncomputable def mergeK (kvs more : List (Key × V)) : List (Key × V) := more.foldl (fun acc kv => putK acc kv.1 kv.2) kvs
theorem length_mergeK : ∀ (more kvs : List (Key × V)), (mergeK kvs more).length ≤ kvs.length + more.length
 | [], kvs => by show kvs.length ≤ kvs.length + 0; omega
 | p :: r, kvs => by
  have h1 := length_mergeK r (putK kvs p.1 p.2)
  have h2 := length_putK kvs p.1 p.2
  show (mergeK (putK kvs p.1 p.2) r).length ≤ _
  rw [List.length_cons]; omega
structure M2 (X : Cx) (o : Expr) (m : Str) (apos : Pos) (e f : Expr) (cpos : Pos) : Prop where
 base : attributeBase o m X.env (eval o X.env) = eval o X.env
 few : ((backTo cpos (starEach [e, f] X.env)).all (fun x => !x.1) && (backToKw cpos (keywordEach [] X.env)).all (fun x => x.1.isSome)
  && decide (([e, f] : List Expr).length + ([] : List Keyword).length + (if ([] : List Keyword).isEmpty then 0 else 1) < 30)) = true
 line : (apos.endLine == cpos.line) = true
 trees : backTo cpos (starEach [e, f] X.env) = [(false, eval e X.env), (false, eval f X.env)]
def IsD (H : Hp) (a : Addr) : Prop := (∃ kvs, Rd H a (.dK kvs)) ∨ ∃ kvs, Rd H a (.dT kvs)
noncomputable def tDGet2 (td ty tx : TE) : TE := fun σ H Q => td σ H fun x H1 => ∃ a, x = .ref a ∧ IsD H1 a ∧ ty σ H1 fun y H2 => tx σ H2 fun z H3 => ∃ o, DGet H3 a y o ∧ Q (o.getD z) H3
end L2
namespace Att
open PySem PySem.W PySem.Calls PyProof.Rows
theorem ints_of_wellAll {P : Params} {h : Heap} : ∀ (ns : List Int) (vs : List Value), WellAll P h vs (ns.map WData.int) → IntsAre vs ns := by
 intro ns
 induction ns with
 | nil =>
  intro vs w
  rw [List.map_nil] at w
  cases w
  exact .nil
 | cons n ns ih =>
  intro vs w
  rw [List.map_cons] at w
  cases w with
  | cons a b =>
   cases a
   exact .cons _ _ (ih _ b)
theorem script_of {l : OpenLaw} {n : Nat} (hn : l.most = some n) {P : Params} {h : Heap} {args : List WData} {vals : List Value}
  (hpre : l.row.toRowW.claim.pre args = true) (hwl : WellAll P h vals args) :
  ∃ a vs ns, vals = [Value.ref a] ∧ args = [WData.list (ns.map WData.int)] ∧ h.get? a = some { cls := .type "list", data := .seq vs.toArray } ∧ IntsAre vs ns ∧ ns.length ≤ n := by
 have hsh : WShape.hasAll [] args [.list .int] = true := (pre_splitW hpre).1
 have hc : l.pre.holds [] { args := args } = true := (pre_splitW hpre).2
 obtain ⟨d, r, rfl, h1, h2⟩ := hasAllW_cons hsh
 obtain rfl := hasAllW_nil h2
 obtain ⟨xs, rfl, h3⟩ := hasW_list h1
 obtain ⟨ns, rfl⟩ := items_int h3
 have hlen : ns.length ≤ n := by
  unfold OpenLaw.pre at hc
  have h4 : (WTm.not (.lt (.lit (.int (n : Int))) (.len (.arg 0)))).holds [] { args := [.list (ns.map .int)] } = true := by
   have h4 := (holds_andW hc).1
   rw [hn] at h4
   exact h4
  have h5 := condW_of h4 (w_not (w_lt w_lit (w_len_list (w_arg rfl))))
  rw [List.length_map] at h5
  refine Nat.le_of_not_lt fun q => ?_
  have q' : (n : Int) < ((ns.length : Nat) : Int) := by omega
  first
   | (rw [decide_eq_true q'] at h5; exact absurd h5 (by decide))
   | (simp at h5; omega)
 cases hwl with
 | cons w1 w2 =>
  cases w2
  cases w1 with
  | list ho hall => exact ⟨_, _, ns, rfl, rfl, ho, ints_of_wellAll ns _ hall, hlen⟩
theorem post_true (l : OpenLaw) (args : List WData) : l.row.toRowW.claim.post args (.bool true) args = true :=
 postW_of (r := l.row.toRowW) (X := (true == true))
  (show WShape.has [] (.bool true) .bool = true by first | rfl | decide | simp [WShape.has, WShape.arms, WShape.armsAll])
  (show (WTm.eq .res (.lit (.bool true))).value [] { args := args, res := some (.bool true), after := args } = some (.bool (true == true)) from w_eq_bool (w_res rfl) w_lit) rfl
theorem attach_call {l : OpenLaw} {n : Nat} {q : Program} {loose : List Str} {XP : (Str → Option Value) → Heap → Prop} {YP : World → Heap → Prop} {d : DefRec}
  (hn : l.most = some n) (hdf : d.params.defaults = [])
  (call : ∀ (w : World) (s₀ s₁ : Shared) (mg mb : Str → Option Value) (fa : Addr) (o : Obj) (pm cd doc : Value) (a : Addr) (vs : List Value) (ns : List Int),
   Ground q loose [] XP w s₀ mg mb s₁.heap → YP w s₁.heap →
   s₁.heap.get? fa = some o → o.data = .func (docDef d.name d.params d.body d.scope pm cd doc) → s₁.heap.CodeRec cd d.name → mg d.name = some (.ref fa) →
   s₁.heap.get? a = some { cls := .type "list", data := .seq vs.toArray } → IntsAre vs ns → ns.length ≤ n → s₁.gens = #[] →
   codeAny (model l.prog w) callerA (.call (.ref fa) ⟨[.ref a], []⟩) (fun r s' => r = .ok (.ret (.bool true)) ∧ OldK s₁.heap s'.heap ∧ s'.os = s₁.os ∧ AllBare s'.gens) s₁) :
  WalkO q loose XP YP l.row.toRowW d [] (fun f vs => PySem.call f vs) := by
 intro w s₀ s₁ mg mb G Y fa o pm cd doc dV kV ho hd hcd hD hmg hg args vals as hpre hlay hrd hwl hlo
 obtain rfl : dV = .none := Dflts.none hD hdf
 obtain rfl : kV = .none := Dflts.noKw hD
 obtain ⟨a, vs, ns, rfl, rfl, hobj, hints, hlen⟩ := script_of hn hpre hwl
 refine enter_call (codeAny_mono (call w s₀ s₁ mg mb fa o pm cd doc a vs ns G Y ho (fd_plain hd) hcd hmg hobj hints hlen hg) fun r s' hq => ?_)
 obtain ⟨rfl, h2, h3, h4⟩ := hq
 exact ⟨.inl ⟨.bool true, .bool true, [], rfl, fun _ => rfl, .bool true, post_true l _, fun _ => ⟨List.Pairwise.nil, fun _ hm => (nomatch hm)⟩⟩, h2, h3, h4⟩
end Att
namespace L2
open PySem PySem.Spec PyProof.Rows
theorem vals_ints {vs : List Value} {ns : List Int} (h : IntsAre vs ns) : Vals (ns.map V.int) vs := by
 induction h with
 | nil => exact .nil
 | cons n t _ ih => exact .cons ⟨t, rfl⟩ ih
def Only (H : Hp) : Prop := ∀ b, H b = none ∨ ∃ o xs, H b = some (.frz o (.lst xs))
theorem law_call {P : Program} {w : World} {K : PySem.W.Frag} {mg mb : Str → Option Value} {CX : CXT} {k : Nat} {fa a : Addr} {fd : FuncData} {x : Str} {sp : Sp} {s₁ : Shared} {vs : List Value} {ns : List Int}
  (KX : K.In s₁.heap) (hns : s₁.heap.Ns mainGlobals mg) (hb : s₁.heap.Ns builtinsNs mb) (hbb : ∀ x : Str, x ≠ "__name__" → mb x = bootBuiltins x) (hlim : s₁.heap.NoLimit) (hg : s₁.gens = #[])
  (ha : s₁.heap.get? a = some { cls := .type "list", data := .seq vs.toArray }) (hi : IntsAre vs ns) (hl : ns.length ≤ sizeLine) (hr : Room k callerA)
  (F : ∀ base : Heap, K.In base → base.Ns mainGlobals mg → FnOk P w K mg base CX k fa fd [x] sp) (hbind : ∀ (s : Shared) (u : Value), BindsTo s fd ⟨[u], []⟩ [(x, u)])
  (hsp : ∀ H : Hp, Only H → SqL K H a (ns.map V.int) → sp [.ref a] H (fun v _ => v = .bl true) fun _ _ _ => False)
  (hCX : ∀ H e s', CX [] H s₁ (fun _ _ _ => False) e s' → False) :
  codeAny (model P w) callerA (.call (.ref fa) ⟨[.ref a], []⟩) (fun r s' => r = .ok (.ret (.bool true)) ∧ OldK s₁.heap s'.heap ∧ s'.os = s₁.os ∧ AllBare s'.gens) s₁ := by
 have rv := vals_ints hi
 have lenV := hi.length
 have core : ∀ H : Hp, Only H → SqL K H a (ns.map V.int) → HOk P w H s₁.heap → (∀ b, H b ≠ none → b = a) → (H a ≠ none → K.lookup a = none) →
   codeAny (model P w) callerA (.call (.ref fa) ⟨[.ref a], []⟩) (fun r s' => r = .ok (.ret (.bool true)) ∧ OldK s₁.heap s'.heap ∧ s'.os = s₁.os ∧ AllBare s'.gens) s₁ := by
  intro H hO hS hok hA hK
  have base_of : ∀ {b : Addr} {o : Obj}, s₁.heap.get? b = some o → H b = none → (hidT s₁.heap H).get? b = some o := fun e n => hidT_get e n
  have noA : ∀ {b : Addr} {o : Obj} {es : Array DictEntry} {ep : Nat}, s₁.heap.get? b = some o → o.data = .dict es ep → H b = none := fun {b o es ep} e d => by
   cases q : H b with
   | none => rfl
   | some u =>
    have e' : b = a := hA b (by rw [q]; simp)
    subst e'
    rw [ha] at e; cases e
    have d' : Data.seq vs.toArray _ = Data.dict es ep := d
    cases d'
  have nsK : ∀ {b : Addr} {m : Str → Option Value}, s₁.heap.Ns b m → (hidT s₁.heap H).Ns b m := fun {b m} ⟨o, es, ep, e, d, r⟩ => ⟨o, es, ep, base_of e (noA e d), d, r⟩
  have hKb : K.In (hidT s₁.heap H) := fun b o e => base_of (KX b o e) (by
   cases q : H b with
   | none => rfl
   | some u =>
    have e' : b = a := hA b (by rw [q]; simp)
    subst e'
    rw [hK (by rw [q]; simp)] at e; cases e)
  have hM : Mod K mg (hidT s₁.heap H) := ⟨hKb, nsK hns, ⟨mb, nsK hb, hbb⟩, let ⟨mc, h1, h2⟩ := hlim; ⟨mc, nsK h1, h2⟩⟩
  have e0 : Env0 P w K mg (hidT s₁.heap H) callerA [] s₁ H := ⟨rfl, hM, fun b o e => of_hidT e, Nat.le_of_eq (hidT_size _ _), trivial, fun b hb => absurd (show b ∈ ([] : List Addr) from hb) (by simp), hok, .of_eq hg⟩
  refine codeAny_mono ((F _ hKb (nsK hns)).run callerA [] s₁ H ⟨[.ref a], []⟩ [.ref a] [.ref a] _ _ hr e0 (hbind s₁ (.ref a)) (.cons rfl .nil) (hsp H hO hS)) fun r s' h => ?_
  cases r with
  | error e => exact (hCX H e s' h).elim
  | ok fl =>
   cases fl with
   | next => exact False.elim h
   | brk => exact False.elim h
   | cont => exact False.elim h
   | ret u =>
    obtain ⟨v, H', os, bare, un, hok', r', q⟩ := h
    have q' : v = .bl true := q
    subst q'
    obtain rfl : u = Value.bool true := r'
    refine ⟨rfl, OldK.of_keep fun b o e => ?_, os, bare⟩
    cases q : H b with
    | none => exact un.keep b o e q (by intro z; exact absurd (show b ∈ ([] : List Addr) from z) (by simp)) (by simp)
    | some u =>
     rcases hO b with z | ⟨ob, xs, z⟩
     ·rw [q] at z; cases z
     ·have z2 := un.frzs b ob _ z
      obtain ⟨e1, _⟩ := hok b _ z
      obtain ⟨e2, _⟩ := hok' b _ z2
      rw [e] at e1; cases e1
      exact e2
 cases hk : K.lookup a with
 | some o =>
  have e := KX a o hk
  rw [ha] at e
  cases e
  refine core (fun _ => none) (fun _ => .inl rfl) (.inr ⟨_, vs.toArray, _, hk, rfl, rfl, rfl, by rw [List.size_toArray, lenV]; exact hl, by simpa using rv⟩) (fun b u z => by have z' : (none : Option HO) = some u := z; cases z') (fun b z => absurd rfl z) fun z => absurd rfl z
 | none =>
  refine core (fun b => if b = a then some (.frz { cls := .type "list", data := .seq vs.toArray } (.lst (ns.map V.int))) else none) (fun b => ?_) (.inl (.inr ⟨{ cls := .type "list", data := .seq vs.toArray }, if_pos rfl⟩)) (fun b u z => ?_) (fun b z => ?_) fun _ => hk
  ·by_cases hb : b = a
   ·exact .inr ⟨_, _, if_pos hb⟩
   ·exact .inl (if_neg hb)
  ·by_cases hb : b = a
   ·have z' := (if_pos hb).symm.trans z
    cases z'
    subst hb
    exact ⟨ha, by rw [List.length_map]; exact hl, vs, _, rv, ha⟩
   ·have z' := (if_neg hb).symm.trans z
    cases z'
  ·by_cases hb : b = a
   ·exact hb
   ·exact absurd (if_neg hb) z
end L2
namespace L2
open PySem PySem.Spec PyProof.Rows
theorem walk_of {l : PySem.W.OpenLaw} {n k : Nat} {q : Program} {loose : List Str} {XP : (Str → Option Value) → Heap → Prop} {YP : World → Heap → Prop} {d : DefRec} {K : Params → PySem.W.Frag} {CX : World → CXT} {sp : World → Sp} {x : Str}
  (hn : l.most = some n) (hn2 : n ≤ sizeLine) (hdf : d.params.defaults = []) (hr : Room k callerA)
  (hY : ∀ (w : World) (h : Heap), YP w h → (K w.params).In h)
  (F : ∀ (w : World) (mg : Str → Option Value) (fa : Addr) (h : Heap), (K w.params).In h → h.Ns mainGlobals mg → mg d.name = some (.ref fa) →
   ∃ fd : FuncData, (∀ (s : Shared) (u : Value), BindsTo s fd ⟨[u], []⟩ [(x, u)]) ∧
    ∀ base : Heap, (K w.params).In base → base.Ns mainGlobals mg → FnOk l.prog w (K w.params) mg base (CX w) k fa fd [x] (sp w))
  (hsp : ∀ (w : World) (H : Hp) (a : Addr) (ns : List Int), ns.length ≤ n → Only H → SqL (K w.params) H a (ns.map V.int) → sp w [.ref a] H (fun v _ => v = .bl true) fun _ _ _ => False)
  (hCX : ∀ (w : World) (H : Hp) (s : Shared) (e : Value) (s' : Shared), CX w [] H s (fun _ _ _ => False) e s' → False) :
  PySem.W.WalkO q loose XP YP l.row.toRowW d [] (fun f vs => PySem.call f vs) := by
 refine Att.attach_call hn hdf fun w s₀ s₁ mg mb fa o pm cd doc a vs ns G Y ho hd hcd hmg hobj hints hlen hg => ?_
 have KX := hY w _ Y
 obtain ⟨fd, hb, hF⟩ := F w mg fa _ KX G.T.g hmg
 exact law_call KX G.T.g G.T.b G.T.builtins G.T.nolimit hg hobj hints (Nat.le_trans hlen hn2) hr hF hb (fun H hO hS => hsp w H a ns hlen hO hS) fun H e s' => hCX w H s₁ e s'
end L2
namespace L2
open PySem PySem.Spec PyProof.Rows
noncomputable def inClass (s : Stmt) (j : Nat) : Stmt := match s with
 | .ClassDef _ _ _ body _ _ _ _ _ _ _ => body.getD j (.Pass ⟨0, 0, 0, 0⟩)
 | _ => .Pass ⟨0, 0, 0, 0⟩
noncomputable def defArgs (s : Stmt) : Arguments := match s with
 | .FunctionDef _ a _ _ _ _ _ _ _ _ => a
 | _ => { posonlyargs := [], args := [], vararg := none, kwonlyargs := [], kw_defaults := [], kwarg := none, defaults := [] }
noncomputable def defBody (s : Stmt) : List Stmt := match s with
 | .FunctionDef _ _ b _ _ _ _ _ _ _ => b
 | _ => []
noncomputable def defScope (s : Stmt) : Scope := match s with
 | .FunctionDef _ _ _ _ _ _ sc _ _ _ => sc
 | _ => { kind := .function, names := [], isGenerator := false, isCoroutine := false }
noncomputable abbrev CX0 : CXT := fun _ _ _ _ _ _ => False
noncomputable abbrev E0 : XK := fun _ _ _ => False
theorem pass0 {X : Cx} : Passes CX0 X E0 := fun _ _ _ _ _ _ _ h => h.elim
structure Fun (K : PySem.W.Frag) (x qual : Str) (st : Stmt) (f : Addr) (fd : FuncData) : Prop where
 ex : ∃ (oc : Value) (od : Option Addr) (kV doc pm : Value) (an : Option Addr) (cdv ct : Value) (osl : Array (Option Value)),
  fd = PySem.W.fnOf x qual (defArgs st) (defBody st) (defScope st) .none kV doc pm an cdv ct ∧ K.lookup f = some ⟨oc, od, .func fd, osl⟩ ∧ PySem.W.codeIn K cdv qual = true
 kp : PySem.W.keepIn K (.ref f) = true
section
variable {P : Program} {w : World} {K : PySem.W.Frag} {mg : Str → Option Value} {base : Heap}
theorem Fun.ok {x qual : Str} {st : Stmt} {f : Addr} {fd : FuncData} {N ps : List Str} {k : Nat} {sp : Sp} (F : Fun K x qual st f fd) (S : FnScope N ps (defScope st)) (len : ∀ vs H Q E, sp vs H Q E → vs.length = ps.length)
  (hbody : ∀ (cdv : Value) (A : Around) (outer : List Env) (s : Shared) (H : Hp) (vs : List V) (Q : VK) (E : XK), Room k (A.deeper (envOfC qual (defScope st) s.heap.objs.size f cdv)) → sp vs H Q E →
   ∃ t, PSs (cxOf CX0 P w K mg base N qual (defScope st) f cdv A outer s H E).nox (defBody st) t ∧ t { nx := fun _ H' => Q .non H', rt := Q } (start N vs) H) : FnOk P w K mg base CX0 (k + 1) f fd ps sp := by
 obtain ⟨oc, od, kV, doc, pm, an, cdv, ct, osl, rfl, lk, hcd⟩ := F.ex
 refine fn_of lk hcd S len fun A outer s H vs Q E hr hsp => ?_
 obtain ⟨t, h, q⟩ := hbody cdv A outer s H vs Q E hr hsp
 exact ⟨t, h.nox, q⟩
theorem Fun.binds {x qual : Str} {st : Stmt} {f : Addr} {fd : FuncData} {ps : List Str} (F : Fun K x qual st f fd)
  (h : ∀ (kV doc pm : Value) (an : Option Addr) (cdv ct : Value) (us : List Value), us.length = ps.length → bindArgs (PySem.W.fnOf x qual (defArgs st) (defBody st) (defScope st) .none kV doc pm an cdv ct) ⟨us, []⟩ = pure (ps.zip us)) : Binds K fd ps [] := by
 obtain ⟨oc, od, kV, doc, pm, an, cdv, ct, osl, rfl, lk, hcd⟩ := F.ex
 exact .all (h kV doc pm an cdv ct)
theorem fun_mk {x qual : Str} {st : Stmt} {f : Addr} {oc : Value} {od an : Option Addr} {osl : Array (Option Value)} {kV doc pm cdv ct : Value} (l : K.lookup f = some ⟨oc, od, .func (PySem.W.fnOf x qual (defArgs st) (defBody st) (defScope st) .none kV doc pm an cdv ct), osl⟩)
  (c : PySem.W.codeIn K cdv qual = true) (k : PySem.W.keepIn K (.ref f) = true) : Fun K x qual st f (PySem.W.fnOf x qual (defArgs st) (defBody st) (defScope st) .none kV doc pm an cdv ct) := ⟨⟨oc, od, kV, doc, pm, an, cdv, ct, osl, rfl, l, c⟩, k⟩
end
theorem hu_of {A : Around} {k : Nat} (hr : Room k A) : A.units + 1 < cLine := Nat.lt_of_le_of_lt (Nat.add_le_add_left (by decide : 1 ≤ 64) _) hr.units
theorem small1000 {n : Nat} (h : n ≤ 1000) : n < sizeLine := Nat.lt_of_le_of_lt h (by decide)
section
variable {X : Cx}
theorem pv (i : Nat) {x : Str} {pos : Pos} (hN : X.N[i]? = some x := by rfl) (hv : Vis X.env.scope x := by first | exact Or.inl rfl | exact Or.inr (Or.inl rfl) | exact Or.inr (Or.inr rfl)) (hd : (x == ("__debug__" : Str)) = false := by decide)
  (hcd : (x == ("__classdict__" : Str)) = false := by decide) : PE X (.Name x pos) (tVar i) := pe_var hN hv hd hcd
end
theorem iteF {A B : Prop} (h : B) : if false = true then A else B := by
 rw [if_neg Bool.false_ne_true]
 exact h
theorem iteT {A B : Prop} (h : A) : if true = true then A else B := by
 rw [if_pos rfl]
 exact h
theorem ite2 {c A B : Prop} [Decidable c] (h1 : c → A) (h2 : ¬ c → B) : if c then A else B := by
 by_cases h : c
 ·rw [if_pos h]
  exact h1 h
 ·rw [if_neg h]
  exact h2 h
def Same (H H' : Hp) : Prop := ∀ b o, H b = some o → H' b = some o
theorem Same.seq {K : PySem.W.Frag} {H H' : Hp} {a : Addr} {xs : List V} (e : Same H H') (h : SqL K H a xs) : SqL K H' a xs := by
 rcases h with (h | ⟨o, h⟩) | h
 ·exact .inl (.inl (e _ _ h))
 ·exact .inl (.inr ⟨o, e _ _ h⟩)
 ·exact .inr h
end L2
set_option maxHeartbeats 4000000
namespace L2
open PySem PySem.Spec PyProof.Rows
noncomputable abbrev TB := St → Hp → (St → Hp → Prop) → Prop
def PB (X : Cx) (m : Sem Unit) (B : TB) : Prop :=
 ∀ (pins : List (Addr × Obj)) (s : Shared) (σ : St) (H : Hp) (Q : St → Hp → Prop), Inv X pins σ H s → B σ H Q →
  wpAny (model X.prog X.w) X.A m (fun _ s' => ∃ σ' H', Inv X pins σ' H' s' ∧ Q σ' H') X.xe s
noncomputable def tAll : List TT → TT
 | [] => fun _ H Q => Q true H
 | t :: r => fun σ H Q => t σ H fun b H1 => if b = true then tAll r σ H1 Q else Q false H1
inductive PTs (X : Cx) : List Expr → List TT → Prop
 | nil : PTs X [] []
 | cons {e es t ts} : PT X e t → PTs X es ts → PTs X (e :: es) (t :: ts)
noncomputable def testsOf (ifs : List Expr) (env : Env) (b : Bool) : Sem Bool := forIn ifs b fun c r => if r = true then do let ok ← isTrue c env (eval c env); pure (ForInStep.yield ok) else pure (ForInStep.yield r)
theorem tests_false {M : Model} {A : Around} {E : Value → Shared → Prop} {env : Env} {Q : Bool → Shared → Prop} {s : Shared} (h : Q false s) : ∀ ifs : List Expr, wpAny M A (testsOf ifs env false) Q E s
 | [] => wpAny_pure h
 | c :: r => by
  unfold testsOf
  simp only [List.forIn_cons, Bool.false_eq_true, if_false]
  exact wpAny_bind (wpAny_pure (tests_false h r))
theorem tests_ok {X : Cx} : ∀ {ifs : List Expr} {ts : List TT}, PTs X ifs ts → ∀ (pins : List (Addr × Obj)) (s : Shared) (σ : St) (H : Hp) (Q : Bool → Hp → Prop), Inv X pins σ H s → tAll ts σ H Q →
  wpAny (model X.prog X.w) X.A (testsOf ifs X.env true) (TP X pins σ Q) X.xe s
 | _, _, .nil, pins, s, σ, H, Q, I, h => wpAny_pure ⟨H, I, h⟩
 | _, _, .cons (es := es) h1 h2, pins, s, σ, H, Q, I, h => by
  unfold testsOf
  simp only [List.forIn_cons, if_true]
  refine wpAny_bind (wpAny_bind (thn (h1 pins s σ H _ I h) fun b s1 hq_ => ?_))
  obtain ⟨H1, I1, q1⟩ := hq_
  refine wpAny_pure ?_
  cases b with
  | true => exact tests_ok h2 pins s1 σ H1 Q I1 q1
  | false => exact tests_false (show TP X pins σ Q false s1 from ⟨H1, I1, q1⟩) es
noncomputable def LoopT (J : It) (g : TG) (tt : TT) (B : TB) : TB := fun σ H Q => ∃ W : Nat → Nat → St → Hp → Prop, (∃ m, W 0 m σ H) ∧ ∀ i m σ H, W i m σ H →
 (J.stop i H ∧ Q σ H) ∨ (J.go i H ∧ ∀ x H', J.yld i H x H' → g x σ H' fun σ2 H2 => tt σ2 H2 fun b H3 =>
  if b = true then B σ2 H3 (fun σ3 H4 => ∃ m', m' < m ∧ W (i + 1) m' σ3 H4) else ∃ m', m' < m ∧ W (i + 1) m' σ2 H3)
noncomputable def CompR (X : Cx) (pins : List (Addr × Obj)) (Q : St → Hp → Prop) : Result → Shared → Prop
 | .ok _, s' => ∃ σ' H', Inv X pins σ' H' s' ∧ Q σ' H'
 | .error _, _ => False
structure ClauseAt (X : Cx) (e : Expr) (d : Nat) (acc : Value) (tg iter : Expr) (ifs : List Expr) (beh : Sem Unit) : Prop where
 quiet : ∀ it, (Code.compLoop e d it acc X.env).quiet = true
 under : ∀ it, X.A.under (Code.compLoop e d it acc X.env) = X.A
 den : ∀ it, (model X.prog X.w).den (.compLoop e d it acc X.env) = (compTurn e d it acc X.env).onRaise (fun x => do noteFrame x X.env; theTreesLotGoes x)
 turn : ∀ it, compTurn e d it acc X.env = (do
   standAt iter.pos
   match ← pyNext it with
   | none => pure (.done .next)
   | some v =>
    letOwnedTupleGo tg it v
    assign tg X.env v
    let ok ← testsOf ifs X.env true
    if ok then beh
    again (.compLoop e d it acc X.env))
 start : ∀ (it : Value) (R : Result → Shared → Prop) (s : Shared), codeAny (model X.prog X.w) X.A (.compLoop e d it acc X.env) R s →
  wpAny (model X.prog X.w) X.A (pyIter it) (fun it' s' => codeAny (model X.prog X.w) X.A (.compLoop e d it' acc X.env) R s') (fun _ _ => False) s → codeAny (model X.prog X.w) X.A (.compStart e d it acc X.env) R s
theorem comp_loop {X : Cx} {e : Expr} {d : Nat} {acc : Value} {tg iter : Expr} {ifs : List Expr} {beh : Sem Unit} {J : It} {fp : List Addr} {it : Addr} {tn : Nat → Heap → Prop} {g : TG} {tts : List TT} {B : TB}
  (hxe : X.xe = fun _ _ => False) (hc : X.calm = true) (C : ClauseAt X e d acc tg iter ifs beh) (T : Turn X.prog X.w X.K tg J fp it tn) (hg : PG X tg g) (ht : PTs X ifs tts) (hb : PB X beh B)
  {pins : List (Addr × Obj)} {σ : St} {H : Hp} {s : Shared} {Q : St → Hp → Prop} (I : Inv X pins σ H s) (st : tn 0 s.heap) (f : ∀ b ∈ fp, FpOk X pins H b) (q : LoopT J g (tAll tts) B σ H Q) :
  codeAny (model X.prog X.w) X.A (.compLoop e d (.ref it) acc X.env) (CompR X pins Q) s := by
 obtain ⟨W, ⟨m0, w0⟩, turn⟩ := q
 have stat : ∀ {H' : Hp}, (∀ b ∈ fp, H' b = none) → ∀ b ∈ fp, FpOk X pins H' b := fun hn b hb => ⟨hn b hb, (f b hb).2⟩
 refine codeAny_loop (C.quiet _) (fun n s' => ∃ i σ' H', Inv X pins σ' H' s' ∧ tn i s'.heap ∧ (∀ b ∈ fp, H' b = none) ∧ W i n σ' H') ?_ m0 ⟨0, σ, H, I, st, fun b hb => (f b hb).1, w0⟩
 rintro n s3 ⟨i, σ3, H3, I3, st3, fr3, w3⟩
 rw [C.under, C.den]
 refine wpAny_noted ?_
 rw [C.turn]
 refine wpAny_bind (wpAny_standAt ?_)
 have lift : ∀ {α : Type} {t : Sem α} {R : α → Shared → Prop} {s : Shared}, wpAny (model X.prog X.w) X.A t R X.xe s → wpAny (model X.prog X.w) X.A t R (notedBy (model X.prog X.w) X.A X.env fun x s' => CompR X pins Q (.error x) s') s := by
  intro α t R s h
  rw [hxe] at h
  exact wpAny_mono h (fun _ _ z => z) fun _ _ z => z.elim
 rcases turn i n σ3 H3 w3 with ⟨stop, qn⟩ | ⟨go, step⟩
 ·refine wpAny_bind (lift (thn (T.done X rfl rfl rfl hc i pins s3 σ3 H3 X.xe I3 (stat fr3) st3 stop) fun r s4 hq_ => ?_))
  obtain ⟨hr, I4⟩ := hq_
  subst hr
  exact wpAny_pure ⟨σ3, H3, I4, qn⟩
 ·refine wpAny_bind (lift (thn (T.item X rfl rfl rfl hc i pins s3 σ3 H3 X.xe I3 (stat fr3) st3 go) fun r s4 hq_ => ?_))
  obtain ⟨u, hr, h4⟩ := hq_
  subst hr
  refine wpAny_bind (lift (thn h4 fun _ s5 hq_ => ?_))
  obtain ⟨x, H5, I5, r5, y5, st5, fr5⟩ := hq_
  have I5' := I5.pinned (stat fr5) (T.obj _ _ st5)
  refine wpAny_bind (lift (thn (hg _ s5 σ3 H5 x u _ I5' r5 (step x H5 y5)) fun _ s6 hq_ => ?_))
  obtain ⟨σ6, H6, I6, q6⟩ := hq_
  have again : ∀ {σ7 : St} {H7 : Hp} {s7 : Shared}, Inv X (pins ++ pinsAt fp s5.heap) σ7 H7 s7 → (∃ m', m' < n ∧ W (i + 1) m' σ7 H7) → ∃ m, m < n ∧ ∃ i σ' H', Inv X pins σ' H' s7 ∧ tn i s7.heap ∧ (∀ b ∈ fp, H' b = none) ∧ W i m σ' H' := fun {σ7 H7 s7} I7 ⟨m', hm, w7⟩ => by
   refine ⟨m', hm, i + 1, σ7, H7, I7.unpinned, T.keep _ _ _ st5 fun b hb o e => (I7.pin (b, o) (List.mem_append_right _ (List.mem_append_right _ (mem_pinsAt hb e)))).1, fun b hb => ?_, w7⟩
   obtain ⟨o, e, _⟩ := T.obj _ _ st5 b hb
   exact (I7.pin (b, o) (List.mem_append_right _ (List.mem_append_right _ (mem_pinsAt hb e)))).2.1
  refine wpAny_bind (lift (thn (tests_ok ht _ s6 σ6 H6 _ I6 q6) fun ok s7 hq_ => ?_))
  obtain ⟨H7, I7, q7⟩ := hq_
  cases ok with
  | false =>
   exact wpAny_pure ⟨rfl, again I7 q7⟩
  | true =>
   refine wpAny_bind (lift (thn (hb _ s7 σ6 H7 _ I7 q7) fun _ s8 hq_ => ?_))
   obtain ⟨σ8, H8, I8, q8⟩ := hq_
   exact wpAny_pure ⟨rfl, again I8 q8⟩
end L2
set_option maxHeartbeats 4000000
namespace L2
open PySem PySem.Spec PyProof.Rows
theorem closure_go (env : Env) : ∀ (names : List (Str × NameKind)) (cs : List (Str × Addr)), (∀ x ∈ names, x.2 = .free → ∃ c, env.cells.lookup x.1 = some c) →
  (∀ x c, cs.lookup x = some c → env.cells.lookup x = some c) →
  ∃ cl, (forIn names cs fun (x : Str × NameKind) (r : List (Str × Addr)) => (if (x.2 == NameKind.free) = true then do let c ← cellOf env x.1; pure (ForInStep.yield ((x.1, c) :: r)) else pure (ForInStep.yield r) : Sem (ForInStep (List (Str × Addr))))) = pure cl ∧
   (∀ x c, cl.lookup x = some c → env.cells.lookup x = some c) ∧ (∀ x, (x, NameKind.free) ∈ names ∨ (∃ c, cs.lookup x = some c) → ∃ c, cl.lookup x = some c)
 | [], cs, _, h2 => ⟨cs, rfl, h2, fun x h => h.elim (fun z => nomatch z) id⟩
 | (n, k) :: r, cs, h1, h2 => by
  rw [List.forIn_cons]
  have hr : ∀ x ∈ r, x.2 = .free → ∃ c, env.cells.lookup x.1 = some c := fun x hx => h1 x (List.mem_cons_of_mem _ hx)
  by_cases hk : k = .free
  ·subst hk
   obtain ⟨c, hc⟩ := h1 (n, .free) List.mem_cons_self rfl
   have hcell : cellOf env n = pure c := by unfold cellOf; rw [hc]
   obtain ⟨cl, e, a, b⟩ := closure_go env r ((n, c) :: cs) hr (fun x d hx => by
    rw [List.lookup_cons] at hx
    cases hxn : x == n with
    | true =>
     rw [hxn] at hx
     have : x = n := eq_of_beq hxn
     cases hx; rw [this]; exact hc
    | false => rw [hxn] at hx; exact h2 x d hx)
   refine ⟨cl, ?_, a, fun x hx => b x ?_⟩
   ·rw [hcell]
    exact e
   ·by_cases hxn : x = n
    ·exact .inr ⟨c, by rw [List.lookup_cons, hxn, beq_self_eq_true]⟩
    ·rcases hx with hx | ⟨d, hx⟩
     ·rcases List.mem_cons.mp hx with z | z
      ·exact absurd (congrArg Prod.fst z) hxn
      ·exact .inl z
     ·refine .inr ⟨d, ?_⟩
      have : (x == n) = false := by simpa using hxn
      rw [List.lookup_cons, this]; exact hx
  ·have hb : (k == NameKind.free) = false := by simpa using hk
   obtain ⟨cl, e, a, b⟩ := closure_go env r cs hr h2
   refine ⟨cl, ?_, a, fun x hx => b x ?_⟩
   ·show (if (k == NameKind.free) = true then _ else _) >>= _ = _
    rw [hb]
    exact e
   ·rcases hx with hx | hx
    ·rcases List.mem_cons.mp hx with z | z
     ·exact absurd (congrArg Prod.snd z).symm hk
     ·exact .inl z
    ·exact .inr hx
theorem closure_of {scope : Scope} {env : Env} (h : ∀ x ∈ scope.names, x.2 = .free → ∃ c, env.cells.lookup x.1 = some c) :
  ∃ cl, closureFor scope env = pure cl ∧ (∀ x c, cl.lookup x = some c → env.cells.lookup x = some c) ∧ ∀ x, (x, NameKind.free) ∈ scope.names → ∃ c, cl.lookup x = some c := by
 obtain ⟨cl, e, a, b⟩ := closure_go env scope.names [] h (fun x c hx => nomatch hx)
 refine ⟨cl, ?_, a, fun x hx => b x (.inl hx)⟩
 unfold closureFor
 show (forIn scope.names ([] : List (Str × Addr)) _) >>= _ = _
 have e2 : (forIn scope.names ([] : List (Str × Addr)) fun (x : Str × NameKind) (r : List (Str × Addr)) => (match x with | (name, kind) => if (kind == NameKind.free) = true then do let c ← cellOf env name; pure (ForInStep.yield ((name, c) :: r)) else pure (ForInStep.yield r) : Sem (ForInStep (List (Str × Addr))))) = pure cl := e
 rw [e2]
 rfl
noncomputable def relK (env : Env) (x : Str) (k : NameKind) : NameKind := if (k == .free && env.scope.kind == .function && env.kindOf x == some .cell) = true then .cell else k
theorem lookup_relabel (env : Env) (x : Str) : ∀ names : List (Str × NameKind),
  (names.map fun (n, k) => if (k == NameKind.free && env.scope.kind == .function && env.kindOf n == some .cell) then (n, NameKind.cell) else (n, k)).lookup x = (names.lookup x).map (relK env x)
 | [] => rfl
 | (n, k) :: r => by
  have ih := lookup_relabel env x r
  show List.lookup x ((if (k == NameKind.free && env.scope.kind == .function && env.kindOf n == some .cell) = true then (n, NameKind.cell) else (n, k)) :: _) = _
  have e : (if (k == NameKind.free && env.scope.kind == .function && env.kindOf n == some .cell) = true then (n, NameKind.cell) else (n, k)) = (n, relK env n k) := by
   unfold relK; split <;> rfl
  rw [e, List.lookup_cons, List.lookup_cons]
  cases hx : x == n with
  | true => have := eq_of_beq hx; subst this; rfl
  | false => exact ih
theorem kind_relabel (scope : Scope) (env : Env) (x : Str) : (relabel scope env).names.lookup x = (scope.names.lookup x).map (relK env x) := lookup_relabel env x scope.names
noncomputable def compCx (X : Cx) (own : List Str) (cap : List Nat) (scope : Scope) (cl : List (Str × Addr)) (s : Shared) (H : Hp) (ex : List Addr) : Cx :=
 { X with N := own ++ cap.map (fun j => X.N.getD j ""), env := compEnvC scope cl s.heap.objs.size X.env, s₀ := s, H₀ := H, outer := X.stack, ex := ex, fn := fun _ => false, pn := [], xe := fun _ _ => False }
noncomputable def compSt (own : List Str) (cap : List Nat) (σ : St) : St := own.map (fun _ => none) ++ cap.map (fun j => (σ[j]?).join)
structure CompScope (X : Cx) (own : List Str) (cap : List Nat) (scope : Scope) : Prop where
 kind : scope.kind = .function
 nocell : ∀ x ∈ scope.names, x.2 ≠ .cell
 names : ∀ x ∈ scope.names, x.2 = .local → scope.names.lookup x.1 = some .local
 free : ∀ x ∈ scope.names, x.2 = .free → X.env.kindOf x.1 = some .cell ∨ X.env.kindOf x.1 = some .free
 own : ∀ x ∈ own, scope.names.lookup x = some .local
 caps : ∀ j ∈ cap, scope.names.lookup (X.N.getD j "") = some .free ∧ j < X.N.length
theorem comp_inv {X : Cx} {own : List Str} {cap : List Nat} {scope : Scope} {cl : List (Str × Addr)} {pins : List (Addr × Obj)} {σ : St} {H : Hp} {s : Shared} {fp : List Addr} {h' : Heap} {tk : Nat} (S : CompScope X own cap scope)
  (I : Inv X pins σ H s) (hcl : ∀ x c, cl.lookup x = some c → X.env.cells.lookup x = some c) (hfr : ∀ x, (x, NameKind.free) ∈ scope.names → ∃ c, cl.lookup x = some c)
  (hf : ∀ b ∈ fp, FpOk X pins H b) (hlt : ∀ b ∈ fp, b < s.heap.objs.size) (hns : h'.Ns s.heap.objs.size (fun x => ([] : List (Str × Value)).reverse.lookup x)) (hk : ∀ b u, s.heap.get? b = some u → h'.get? b = some u) :
  Inv (compCx X own cap scope cl s H fp) [] (compSt own cap σ) H { s with heap := h', toks := tk } := by
 have kc : ∀ x k, (relabel scope X.env).names.lookup x = some k → (k = .cell ∨ k = .free) → (x, NameKind.free) ∈ scope.names := by
  intro x k e hk
  rw [kind_relabel] at e
  cases q : scope.names.lookup x with
  | none => rw [q] at e; cases e
  | some k0 =>
   rw [q] at e
   have e' : relK X.env x k0 = k := Option.some.inj e
   have hm := PySem.mem_of_lookup q
   have h0 : k0 ≠ .cell := S.nocell _ hm
   have : k0 = .free := by
    unfold relK at e'
    by_cases hb : (k0 == NameKind.free && X.env.scope.kind == .function && X.env.kindOf x == some .cell) = true
    ·simp only [Bool.and_eq_true, beq_iff_eq] at hb
     exact hb.1.1
    ·rw [if_neg hb] at e'
     rcases hk with z | z
     ·exact absurd (e'.trans z) h0
     ·exact e'.trans z
   rw [this] at hm
   exact hm
 have ok : (compCx X own cap scope cl s H fp).Ok := {
  mod := I.ok.mod
  kind := S.kind
  glob := I.ok.glob
  blt := I.ok.blt
  above := Nat.le_refl _
  inj := fun x y c e1 e2 => I.ok.inj x y c (hcl x c e1) (hcl y c e2)
  has := fun x hx => by
   rcases hx with hx | hx
   ·exact hfr x (kc x _ hx (.inl rfl))
   ·exact hfr x (kc x _ hx (.inr rfl))
  cab := fun x c h => absurd h (show ¬ (false = true) from Bool.false_ne_true)
  hd := I.ok.hd
  frames := I.ok.frames
  stk := .inl rfl
  exf := fun b hb => ⟨Nat.ne_of_lt (hlt b hb), fun x c e => (hf b hb).2.2.2.2.1 x c (hcl x c e)⟩
  bs := I.bs
  bsz := Nat.le_trans I.ok.bsz I.sz
  noex := fun b o e hb => by
   rcases (hf b hb).2.2.2.1 with z | z
   ·exact I.ok.noex b o e z
   ·exact absurd (Nat.lt_of_lt_of_le (Heap.lt_size e) (Nat.le_trans I.ok.bsz z)) (Nat.lt_irrefl _)
  exfs := fun b hb hm => by
   rcases List.mem_cons.mp (I.stkSub b hm) with z | z
   ·exact (hf b hb).2.1 z
   ·exact (hf b hb).2.2.1 z
  funs := I.stack
  frf := I.stkFree }
 refine ⟨ok, rfl, I.bare, Un.kept hk, ⟨_, hns, fun i x v e1 e2 e3 => ?_⟩, fun x c e => ?_, I.hok.fresh (Nat.le_refl _), fun x c e => I.freeC x c (hcl x c e), fun p hp => absurd (show p ∈ ([] : List (Addr × Obj)) from hp) (by simp), I.hok.kept hk, ?_⟩
 ·have e1 : (own ++ cap.map (fun j => X.N.getD j ""))[i]? = some x := e1
  have e2 : (own.map (fun _ => (none : Option V)) ++ cap.map (fun j => (σ[j]?).join))[i]? = some (some v) := e2
  by_cases hi : i < own.length
  ·rw [List.getElem?_append_left (by simpa using hi), List.getElem?_map] at e2
   cases q : own[i]? with
   | none => rw [q] at e2; cases e2
   | some y => rw [q] at e2; cases e2
  ·rw [List.getElem?_append_right (by simpa using hi), List.getElem?_map] at e1
   rw [List.getElem?_append_right (by simpa using hi), List.getElem?_map, List.length_map] at e2
   cases q : cap[i - own.length]? with
   | none => rw [q] at e2; cases e2
   | some j =>
    rw [q] at e1 e2
    have e1' : X.N.getD j "" = x := Option.some.inj e1
    have e2' : (σ[j]?).join = some v := Option.some.inj e2
    obtain ⟨hj, hlj⟩ := S.caps j (List.mem_of_getElem? q)
    rw [e1'] at hj
    have hNj : X.N[j]? = some x := by
     rw [List.getElem?_eq_getElem hlj, ← e1', List.getD_eq_getElem?_getD, List.getElem?_eq_getElem hlj]; rfl
    have hσ : σ[j]? = some (some v) := by
     cases z : σ[j]? with
     | none => rw [z] at e2'; cases e2'
     | some o => rw [z] at e2'; rw [show o = some v from e2']
    obtain ⟨m, hn, hl⟩ := I.loc
    have hm := PySem.mem_of_lookup hj
    have hkx := S.free _ hm rfl
    have vis : Vis X.env.scope x := by
     rcases hkx with z | z
     ·exact .inr (.inl z)
     ·exact .inr (.inr z)
    obtain ⟨u, r, l⟩ := hl j x v hNj hσ vis
    refine ⟨u, r, .inr ?_⟩
    rcases l with ⟨kl, _⟩ | ⟨_, c, hc, z⟩
    ·rcases hkx with z | z
     ·rw [kl] at z; cases z
     ·rw [kl] at z; cases z
    ·obtain ⟨c', hc'⟩ := hfr x hm
     have := hcl x c' hc'
     rw [hc] at this; cases this
     refine ⟨?_, c, hc', ?_⟩
     ·have q : (relabel scope X.env).names.lookup x = some (relK X.env x .free) := by rw [kind_relabel, hj]; rfl
      show (relabel scope X.env).names.lookup x = some .cell ∨ (relabel scope X.env).names.lookup x = some .free
      rw [q]
      unfold relK
      split
      ·exact .inl rfl
      ·exact .inr rfl
     ·obtain ⟨o, ho, hd⟩ := z
      exact ⟨o, hk c o ho, hd⟩
 ·obtain ⟨v, o, ho, hd⟩ := I.cell x c (hcl x c e)
  exact ⟨v, o, hk c o ho, hd⟩
 ·show (own.map (fun _ => (none : Option V)) ++ cap.map (fun j => (σ[j]?).join)).length = (own ++ cap.map (fun j => X.N.getD j "")).length
  simp only [List.length_append, List.length_map]
end L2
set_option maxHeartbeats 4000000
namespace L2
open PySem PySem.Spec PyProof.Rows
def NewAcc (X : Cx) (m : Sem Value) (o : HO) : Prop :=
 ∀ (pins : List (Addr × Obj)) (s : Shared) (σ : St) (H : Hp) (E : Value → Shared → Prop) (Q : Value → Shared → Prop), Inv X pins σ H s →
  (∀ l s', s.heap.objs.size ≤ l → H l = none → Inv X pins σ (upd H l o) s' → (∀ b u, s.heap.get? b = some u → s'.heap.get? b = some u) → Q (.ref l) s') → wpAny (model X.prog X.w) X.A m Q E s
theorem acc_list {X : Cx} : NewAcc X (newList []) (.lst []) := by
 intro pins s σ H E Q I h
 exact wpAny_newList (h _ _ (Nat.le_refl _) I.fresh (I.lnew (its := []) (t' := s.toks) .nil (Nat.zero_le _)) fun b u e => Heap.get?_push_of_some _ e)
theorem comp_core {X : Cx} {e : Expr} {tg iter : Expr} {ifs : List Expr} {scope : Scope} {own : List Str} {cap : List Nat} {newAcc : Sem Value} {o : HO} {cl : List (Str × Addr)} {behOf : Value → Env → Sem Unit} {g : TG} {tts : List TT} {Bof : Addr → TB}
  (hc : X.calm = true) (S : CompScope X own cap scope) (hcl : ∀ x c, cl.lookup x = some c → X.env.cells.lookup x = some c) (hfr : ∀ x, (x, NameKind.free) ∈ scope.names → ∃ c, cl.lookup x = some c)
  (hacc : NewAcc X newAcc o)
  (hC : ∀ s H ex l, ClauseAt (compCx X own cap scope cl s H ex) e 0 (.ref l) tg iter ifs (behOf (.ref l) (compCx X own cap scope cl s H ex).env))
  (hg : ∀ s H ex, PG (compCx X own cap scope cl s H ex) tg g) (ht : ∀ s H ex, PTs (compCx X own cap scope cl s H ex) ifs tts)
  (hb : ∀ s H ex l, PB (compCx X own cap scope cl s H ex) (behOf (.ref l) (compCx X own cap scope cl s H ex).env) (Bof l))
  {pins : List (Addr × Obj)} {σ : St} {s2 : Shared} {itv : Value} {Q : Addr → Hp → Prop} {E : Value → Shared → Prop} {R : Value → Addr → Result → Shared → Prop}
  (h : PIE X pins σ tg (fun J H1 => ∀ l, H1 l = none → LoopT J g (tAll tts) (Bof l) (compSt own cap σ) (upd H1 l o) fun _ H2 => Q l H2) itv s2)
  (hR : ∀ l C s' H', Inv X pins σ H' s' → FpOk X pins H' C → (∃ m, s'.heap.Ns C m) → Q l H' → R (.ref l) C (.ok .next) s')
  (hok : ∀ acc C f s', R acc C (.ok .next) s' → R acc C (.ok f) s') :
  wpAny (model X.prog X.w) X.A newAcc (fun acc s₃ => wpAny (model X.prog X.w) X.A (newFunctionEnv scope X.env.globals cl [] X.env.qual none .none (some X.env)) (fun cenv s₄ =>
   codeAny (model X.prog X.w) X.A (.compStart e 0 itv acc { cenv with scope := relabel scope X.env }) (R acc cenv.locals) s₄) E s₃) E s2 := by
 obtain ⟨it, fp, tn, J, H2, rfl, I2, T, st2, f2, q⟩ := h
 have lt2 : ∀ b ∈ fp, b < s2.heap.objs.size := fun b hb => by
  obtain ⟨ob, e, _⟩ := T.obj _ _ st2 b hb
  exact Heap.lt_size e
 refine hacc pins s2 σ H2 E _ I2 fun l s3 hl hn I3 k3 => ?_
 have q' := q l hn
 have f3 : ∀ b ∈ fp, FpOk X pins (upd H2 l o) b := fun b hb => by
  obtain ⟨a1, a2⟩ := f2 b hb
  refine ⟨?_, a2⟩
  rw [upd_ne (Nat.ne_of_lt (Nat.lt_of_lt_of_le (lt2 b hb) hl))]; exact a1
 have lt3 : ∀ b ∈ fp, b < s3.heap.objs.size := fun b hb => by
  obtain ⟨ob, e, _⟩ := T.obj _ _ st2 b hb
  exact Heap.lt_size (k3 b ob e)
 refine wpAny_newFunctionEnv S.nocell (by intro y hy; simp at hy) (fun h1 hns hsb => ?_) S.kind
 have k4 : ∀ b u, s3.heap.get? b = some u → h1.get? b = some u := fun b u e => by
  exact hsb.extBut b u (Nat.ne_of_lt (Heap.lt_size e)) (Heap.get?_push_of_some _ e)
 have I4 : Inv (compCx X own cap scope cl s3 (upd H2 l o) fp) [] (compSt own cap σ) (upd H2 l o) { s3 with heap := h1, toks := s3.toks + ([] : List (Str × Value)).length } := comp_inv S I3 hcl hfr f3 lt3 hns k4
 have st4 : tn 0 h1 := T.keep _ _ _ st2 fun b hb ob e => k4 b ob (k3 b ob e)
 have f4 : ∀ b ∈ fp, FpOk (compCx X own cap scope cl s3 (upd H2 l o) fp) [] (upd H2 l o) b := fun b hb => by
  obtain ⟨a0, a1, a2, a3, a4, a5⟩ := f3 b hb
  refine ⟨a0, Nat.ne_of_lt (lt3 b hb), fun hm => ?_, .inl hb, fun x c ex => a4 x c (hcl x c ex), fun p hp => absurd (show p ∈ ([] : List (Addr × Obj)) from hp) (by simp)⟩
  rcases List.mem_cons.mp (I3.stkSub b hm) with z | z
  ·exact a1 z
  ·exact a2 z
 have fin : ∀ (r : Result) (s' : Shared), CompR (compCx X own cap scope cl s3 (upd H2 l o) fp) [] (fun _ H2 => Q l H2) r s' → R (.ref l) s3.heap.objs.size r s' := by
  intro r s' hr
  cases r with
  | error x => exact (show False from hr).elim
  | ok f =>
   obtain ⟨σ5, H5, I5, q5⟩ := (show ∃ σ' H', Inv (compCx X own cap scope cl s3 (upd H2 l o) fp) [] σ' H' s' ∧ Q l H' from hr)
   have I6 : Inv X pins σ H5 s' := I3.call' (ch := fp) I5.os I5.base I5.hok I5.bare fun b hb => (f3 b hb).2.2.2 |> fun ⟨z1, z2, z3⟩ => ⟨z1, (f3 b hb).2.1, z2, z3⟩
   refine hok _ _ _ _ (hR l _ s' H5 I6 (I3.fpOk (Nat.le_refl _) I5.free) ?_ q5)
   obtain ⟨m, hm, _⟩ := I5.loc
   exact ⟨m, hm⟩
 have loop : ∀ s4 : Shared, s4 = { s3 with heap := h1, toks := s3.toks + ([] : List (Str × Value)).length } →
   codeAny (model X.prog X.w) X.A (.compLoop e 0 (.ref it) (.ref l) (compCx X own cap scope cl s3 (upd H2 l o) fp).env) (R (.ref l) s3.heap.objs.size) s4 := by
  rintro s4 rfl
  exact codeAny_mono (comp_loop (X := compCx X own cap scope cl s3 (upd H2 l o) fp) rfl hc (hC _ _ _ _) T (hg _ _ _) (ht _ _ _) (hb _ _ _ l) I4 st4 f4 q') fin
 exact (hC s3 (upd H2 l o) fp l).start (.ref it) _ _ (loop _ rfl) (T.self _ 0 _ _ _ st4 (loop _ rfl))
section
variable {X : Cx} {e : Expr} {tg iter : Expr} {ifs : List Expr} {gs : List Comprehension} {scope : Scope} {own : List Str} {cap : List Nat} {newAcc : Sem Value} {o : HO} {behOf : Value → Env → Sem Unit} {wi : TI} {g : TG} {tts : List TT} {Bof : Addr → TB} {cpos : Pos}
noncomputable def tComp (own : List Str) (cap : List Nat) (o : HO) (wi : TI) (g : TG) (tts : List TT) (Bof : Addr → TB) : TE := fun σ H Q => wi σ H fun J H1 => ∀ l, H1 l = none → LoopT J g (tAll tts) (Bof l) (compSt own cap σ) (upd H1 l o) fun _ H2 => Q (.ref l) H2
theorem comp_val (hc : X.calm = true) (S : CompScope X own cap scope) (hcl : clausesOf e = ⟨tg, iter, ifs, 0⟩ :: gs) (hi : PI X tg iter wi) (hacc : NewAcc X newAcc o)
  (hC : ∀ cl s H ex l, ClauseAt (compCx X own cap scope cl s H ex) e 0 (.ref l) tg iter ifs (behOf (.ref l) (compCx X own cap scope cl s H ex).env))
  (hg : ∀ cl s H ex, PG (compCx X own cap scope cl s H ex) tg g) (ht : ∀ cl s H ex, PTs (compCx X own cap scope cl s H ex) ifs tts)
  (hb : ∀ cl s H ex l, PB (compCx X own cap scope cl s H ex) (behOf (.ref l) (compCx X own cap scope cl s H ex).env) (Bof l)) (hs : ∀ x, foldedSetIterable iter X.env x = pure x) :
  ∀ (pins : List (Addr × Obj)) (s : Shared) (σ : St) (H : Hp) (Q : VK), Inv X pins σ H s → tComp own cap o wi g tts Bof σ H Q →
   wpAny (model X.prog X.w) X.A (comprehension e scope X.env cpos newAcc false (eval iter X.env)) (EP X pins σ Q) X.xe s := by
 intro pins s σ H Q I h
 obtain ⟨cl, hclos, h1, h2⟩ := closure_of (scope := scope) (env := X.env) fun x hx hf => I.ok.has x.1 (S.free x hx hf)
 refine wpAny_comprehension_free (use := none) hcl hs hclos S.kind S.names (thn (hi pins s σ H _ I h) fun v s1 q1 => thn q1 fun itv s2 q2 => ?_)
 refine comp_core (R := fun acc C => compPost (model X.prog X.w) X.A X.xe none (EP X pins σ Q) acc C) hc S h1 h2 hacc (hC cl) (hg cl) (ht cl) (hb cl) q2 (fun l C s' H' I' fC hm q => ?_) (fun acc C f s' z => z)
 obtain ⟨m, hm⟩ := hm
 refine ⟨m, hm, fun h' sb => ⟨.ref l, H', I'.turned (t' := s'.toks) (fun b o hb e => (sb.2 b hb).trans e) fC.1 fC.2.1 fC.2.2.2.1 fC.2.2.2.2.1 fC.2.2.2.2.2, rfl, q⟩⟩
theorem comp_use {i : Nat} {x : Str} {px : Pos} (hc : X.calm = true) (S : CompScope X own cap scope) (hcl : clausesOf e = ⟨tg, iter, ifs, 0⟩ :: gs) (hi : PI X tg iter wi) (hacc : NewAcc X newAcc o)
  (hC : ∀ cl s H ex l, ClauseAt (compCx X own cap scope cl s H ex) e 0 (.ref l) tg iter ifs (behOf (.ref l) (compCx X own cap scope cl s H ex).env))
  (hg : ∀ cl s H ex, PG (compCx X own cap scope cl s H ex) tg g) (ht : ∀ cl s H ex, PTs (compCx X own cap scope cl s H ex) ifs tts)
  (hb : ∀ cl s H ex l, PB (compCx X own cap scope cl s H ex) (behOf (.ref l) (compCx X own cap scope cl s H ex).env) (Bof l)) (hs : ∀ x, foldedSetIterable iter X.env x = pure x)
  (hN : X.N.Nodup) (hix : X.N[i]? = some x) (hx : Loc X.env.scope x) (hf : X.fn x = true ∨ X.env.scope.names.lookup x = some .local) :
  ∀ (pins : List (Addr × Obj)) (s : Shared) (σ : St) (H : Hp) (D : Ends), Inv X pins σ H s → tComp own cap o wi g tts Bof σ H (fun v H1 => D.nx (σ.set i (some v)) H1) →
   wpAny (model X.prog X.w) X.A (comprehension e scope X.env cpos newAcc false (eval iter X.env) (some (assign (.Name x px) X.env))) (fun _ s' => SP X pins D .next s') X.xe s := by
 intro pins s σ H D I h
 obtain ⟨cl, hclos, h1, h2⟩ := closure_of (scope := scope) (env := X.env) fun x hx hf => I.ok.has x.1 (S.free x hx hf)
 refine wpAny_comprehension_free (use := some (assign (.Name x px) X.env)) hcl hs hclos S.kind S.names (thn (hi pins s σ H _ I h) fun v s1 q1 => thn q1 fun itv s2 q2 => ?_)
 refine comp_core (R := fun acc C => compPost (model X.prog X.w) X.A X.xe (some (assign (.Name x px) X.env)) (fun _ s' => SP X pins D .next s') acc C) hc S h1 h2 hacc (hC cl) (hg cl) (ht cl) (hb cl) q2 (fun l C s' H' I' fC hm q => ?_) (fun acc C f s' z => z)
 obtain ⟨m, hm⟩ := hm
 show wpAny (model X.prog X.w) X.A (assign (.Name x px) X.env (.ref l)) _ X.xe s'
 refine wpAny_assign_Name (store_ok2 (v := .ref l) I' hN hix hx rfl (fun s'' I'' hq_ => ?_) hf)
 obtain ⟨a, sa, ha⟩ := hq_
 have hCa : C ≠ a := by
  rcases ha with z | z
  ·rw [z]; exact fC.2.1
  ·exact Ne.symm (fC.2.2.2.2.1 x a z)
 refine ⟨m, hm.sameBut sa hCa, fun h' sb => ⟨_, H', I''.turned (t' := s''.toks) (fun b o hb e => (sb.2 b hb).trans e) fC.1 fC.2.1 fC.2.2.2.1 fC.2.2.2.2.1 fC.2.2.2.2.2, q⟩⟩
end
noncomputable def eApp (te : TE) (l : Addr) : TB := fun σ H Q => te σ H fun v H1 => ∃ vs, H1 l = some (.lst vs) ∧ vs.length < sizeLine ∧ Q σ (upd H1 l (.lst (vs ++ [v])))
noncomputable def behList (elt : Expr) (acc : Value) (env : Env) : Sem Unit := do let _ ← call (.builtin "list.append") [acc, ← eval elt env]
theorem pb_list {X : Cx} {elt : Expr} {te : TE} {l : Addr} (he : PE X elt te) : PB X (behList elt (.ref l) X.env) (eApp te l) := by
 intro pins s σ H Q I h
 refine wpAny_bind (thn (he pins s σ H _ I h) fun v s1 hq_ => ?_)
 obtain ⟨x, H1, I1, r1, vs, e, hz, q⟩ := hq_
 refine wpAny_bind (thn (mt_append pins s1 σ H1 (.ref l) [x] (.ref l) [v] (fun _ H2 => Q σ H2) I1 rfl (.cons r1 .nil) ⟨l, vs, x, rfl, rfl, e, hz, q⟩) fun u s2 hq_ => ?_)
 obtain ⟨z, H2, I2, _, q2⟩ := hq_
 exact wpAny_pure ⟨σ, H2, I2, q2⟩
theorem clause_list {X : Cx} {elt tg iter : Expr} {ifs : List Expr} {scope : Scope} {pos : Pos} {acc : Value} : ClauseAt X (.ListComp elt [⟨tg, iter, ifs, 0⟩] scope pos) 0 acc tg iter ifs (behList elt acc X.env) where
 quiet := fun _ => rfl
 under := fun _ => rfl
 den := fun _ => rfl
 turn := fun _ => rfl
 start := fun it R s h0 h => codeAny_compStart_list h0 (wpAny_mono h (fun _ _ z => z) fun _ _ z => z.elim)
end L2
set_option maxHeartbeats 4000000
namespace L2
open PySem PySem.Spec PyProof.Rows
theorem Inv.turnLaid {X : Cx} {pins : List (Addr × Obj)} {σ : St} {H : Hp} {s : Shared} {h' : Heap} {t' : Nat} {ch : List Addr} {p : Addr} {o : HO} (I : Inv X pins σ H s) (k : ∀ b u, b ∉ ch → s.heap.get? b = some u → h'.get? b = some u)
  (hth : ∀ b ∈ ch, ∃ u, h'.get? b = some u) (hf : ∀ b ∈ ch, FpOk X pins H b) (hp : s.heap.objs.size ≤ p) (new : ObjOk X.prog X.w (upd H p o) h' p o) : Inv X pins σ (upd H p o) { s with heap := h', toks := t' } := by
 have hn : H p = none := I.hok.fresh hp
 have nch : ∀ b u, H b = some u → b ∉ ch := fun b u e hb => by rw [(hf b hb).1] at e; cases e
 refine I.step (g' := s.gens) (d' := s.drawn) (ch := ch) (fun b hb => ?_) (fun b u _ _ hc e _ => k b u hc e) (fun b u _ _ hc e _ => ⟨u.slots, k b u hc e⟩) (fun b u _ e n => ?_)
  (fun b u hc e => ⟨u, k b u hc e⟩) (fun b xs e => ?_) (fun b ob xs e => ?_) (fun b ps e => ?_) (fun m hm => ?_) (fun b u e => ?_) I.bare
 ·obtain ⟨_, a1, _, a3, a4, a5⟩ := hf b hb
  exact ⟨a3, a1, a4, a5⟩
 ·rw [upd_ne (Nat.ne_of_lt (Nat.lt_of_lt_of_le (Heap.lt_size e) hp))]; exact n
 ·rw [upd_ne (ne_of_none e hn)]; exact e
 ·rw [upd_ne (ne_of_none e hn)]; exact e
 ·exact ⟨#[], by rw [upd_ne (ne_of_none e hn), e]; simp⟩
 ·obtain ⟨ob, es, ep, ho, r⟩ := hm
  exact ⟨ob, es, ep, k _ ob (fun hb => (hf _ hb).2.1 rfl) ho, r⟩
 ·by_cases hb : b = p
  ·subst hb; rw [upd_same] at e; cases e; exact new
  ·rw [upd_ne hb] at e
   refine (I.hok b u e).stay (fun c v hc q => k c v ?_ q) (fun c q => by rw [upd_ne (ne_of_none q hn)]; exact q) fun c xs q => by rw [upd_ne (ne_of_none q hn)]; exact q
   rcases hc with z | z
   ·rw [z]; exact nch b u e
   ·exact nch c _ z
noncomputable def Ite (K : PySem.W.Frag) (a : Addr) : It :=
 ⟨fun i H => ∃ xs x, SqL K H a xs ∧ xs[i]? = some x, fun i H x H' => ∃ p y, x = .ref p ∧ H p = none ∧ (∀ ys, SqL K H a ys → ys[i]? = some y) ∧ H' = upd H p (.tup [.int (i : Int), y]), fun i H => ∃ xs, SqL K H a xs ∧ xs.length ≤ i⟩
theorem turn_enum {P : Program} {w : World} {K : PySem.W.Frag} {elts : List Expr} {k : Nat} {pos : Pos} (a e it : Addr) (hne : e ≠ it) :
  Turn P w K (.Tuple elts k pos) (Ite K a) [e, it] e (fun i h => (∃ old, IsEnum h e it (i : Nat) old) ∧ h.IsListIter it a i) where
 mem := by simp
 obj := fun i h st b hb => by
  obtain ⟨⟨old, he⟩, ⟨o, h1, h2, h3⟩⟩ := st
  rcases List.mem_cons.mp hb with z | z
  ·subst z
   exact ⟨_, he, fun v z => by
    have z' : Data.fields _ = Data.cell v := z
    cases z'⟩
  ·have z : b = it := by simpa using z
   subst z
   exact ⟨o, h1, fun v z => by rw [h3] at z; cases z⟩
 keep := fun i h h' st kk => by
  obtain ⟨⟨old, he⟩, hi⟩ := st
  exact ⟨⟨old, kk e (by simp) _ he⟩, hi.at fun o q => kk it (by simp) o q⟩
 item := by
  intro X hP hw hK hc i pins s σ H E I hf st hg
  subst hP hw hK
  obtain ⟨xs, x, hq, hx⟩ := hg
  obtain ⟨⟨old, he⟩, hi⟩ := st
  obtain ⟨its, rv, p, hz⟩ := I.list hq
  obtain ⟨u, hu, ru⟩ := rv.get hx
  refine wpAny_pyNext_enum_item he hi p.isList (x := u) (by simpa using hu) hne fun h1 heo hi1 ht hsz hk => ?_
  refine ⟨_, rfl, wpAny_letOwnedTupleGo_enum heo fun h2 he2 hs2 => ?_⟩
  have helt : e < s.heap.objs.size := Heap.lt_size he
  have hs2' : Heap.SameBut e h1 h2 := hs2
  have I1 : Inv X pins σ (upd H s.heap.objs.size (.tup [.int (i : Int), x])) { s with heap := h2, toks := s.toks + 1 } := by
   refine I.turnLaid (ch := [e, it]) (fun b o hb q => ?_) (fun b hb => ?_) hf (Nat.le_refl _) ?_
   ·have h1' : b ≠ e := fun z => hb (by simp [z])
    have h2' : b ≠ it := fun z => hb (by simp [z])
    exact (hs2'.2 b h1').trans (hk b o h1' h2' q)
   ·rcases List.mem_cons.mp hb with z | z
    ·subst z; exact ⟨_, he2⟩
    ·have z : b = it := by simpa using z
     subst z
     obtain ⟨o, q, _⟩ := hi1
     exact ⟨o, (hs2'.2 _ (Ne.symm hne)).trans q⟩
   ·refine ⟨by show 2 ≤ sizeLine; decide, [.int (i : Int) s.toks, u], .cons ⟨_, rfl⟩ (.cons ru .nil), ⟨_, (hs2'.2 _ (Nat.ne_of_gt helt)).trans ht, rfl, _, rfl⟩⟩
  refine ⟨.ref s.heap.objs.size, _, I1, rfl, ⟨s.heap.objs.size, x, rfl, I.fresh, fun ys hy => by rw [I.list_inj hy hq]; exact hx, rfl⟩, ⟨⟨_, by
   have : ((i + 1 : Nat) : Int) = (i : Int) + 1 := by omega
   rw [this]; exact he2⟩, hi1.extBut hs2'.extBut (Ne.symm hne)⟩, fun b hb => ?_⟩
  have hlt : b < s.heap.objs.size := by
   rcases List.mem_cons.mp hb with z | z
   ·rw [z]; exact helt
   ·have z : b = it := by simpa using z
    rw [z]; obtain ⟨o, q, _⟩ := hi; exact Heap.lt_size q
  rw [upd_ne (Nat.ne_of_lt hlt)]; exact (hf b hb).1
 done := by
  intro X hP hw hK hc i pins s σ H E I hf st hg
  subst hP hw hK
  obtain ⟨xs, hq, hx⟩ := hg
  obtain ⟨⟨old, he⟩, hi⟩ := st
  obtain ⟨its, rv, p, hz⟩ := I.list hq
  obtain ⟨f0, f1, f2, f3, f4, f5⟩ := hf it (by simp)
  have hl := rv.length
  exact wpAny_pyNext_enum_end (I.ok.hd hc) he hi p.isList (by simp; omega) fun h' eb => ⟨rfl, I.turned (t' := s.toks) (fun b o hb q => eb b o hb q) f0 f1 f3 f4 f5⟩
 self := fun _ _ _ _ _ st h => by
  obtain ⟨⟨old, he⟩, _⟩ := st
  exact wpAny_pyIter_enum he h
section
variable {X : Cx} {elts : List Expr} {k : Nat} {tpos : Pos}
noncomputable def iEnum (K : PySem.W.Frag) (ta : TA) : TI := fun σ H R => ta σ H fun vs H1 => ∃ a, vs = [.ref a] ∧ (∃ xs, SqL K H1 a xs) ∧ R (Ite K a) H1
theorem pi_enum {a : Expr} {ta : TA} {p pos : Pos} (hg : Gl X "enumerate") (hm : X.mg "enumerate" = none) (ha : PA X [a] ta) (hs : starEach [a] X.env = [(false, eval a X.env)] := by rfl) : PI X (.Tuple elts k tpos) (.Call (.Name "enumerate" p) [a] [] pos) (iEnum X.K ta) := by
 intro pins s σ H R I h
 refine Call_ (ld_blt I hg hm boot_enumerate (PyProof.Rows.callWith_type1 (thn (ha pos pins s σ H _ I h) fun us s1 hq_ => ?_) hs rfl))
 obtain ⟨vs, H1, I1, r1, q1⟩ := hq_
 obtain ⟨l, e, ⟨xs, hq⟩, q⟩ := q1
 subst e
 obtain ⟨u, rfl, ru⟩ := vals1 r1
 cases ru
 obtain ⟨its, rv, pl, hz⟩ := I1.list hq
 refine call_enumerate_list pl.isList fun h' he hi hsz hk => ?_
 refine wpAny_pyIter_enum he ?_
 have I2 : Inv X pins σ H1 { s1 with heap := h' } := I1.kept (t' := s1.toks) hk
 refine ⟨s1.heap.objs.size + 1, [s1.heap.objs.size + 1, s1.heap.objs.size], _, _, H1, rfl, I2, turn_enum l (s1.heap.objs.size + 1) s1.heap.objs.size (Nat.ne_of_gt (Nat.lt_succ_self _)), ⟨⟨_, he⟩, hi⟩, fun b hb => ?_, q⟩
 have hge : s1.heap.objs.size ≤ b := by
  rcases List.mem_cons.mp hb with z | z
  ·rw [z]; exact Nat.le_succ _
  ·have z : b = s1.heap.objs.size := by simpa using z
   rw [z]; exact Nat.le_refl _
 exact I1.fpOk hge (I1.hok.fresh hge)
end
section
variable {X : Cx} {elt tg iter tg2 iter2 : Expr} {ifs ifs2 : List Expr} {scope : Scope} {own : List Str} {cap : List Nat} {wi wi2 : TI} {g g2 : TG} {tts tts2 : List TT} {te : TE} {pos : Pos}
theorem pe_lc (own : List Str) (cap : List Nat) (hc : X.calm = true) (S : CompScope X own cap scope) (hi : PI X tg iter wi) (hg : ∀ cl s H ex, PG (compCx X own cap scope cl s H ex) tg g)
  (ht : ∀ cl s H ex, PTs (compCx X own cap scope cl s H ex) ifs tts) (he : ∀ cl s H ex, PE (compCx X own cap scope cl s H ex) elt te) (hs : ∀ x, foldedSetIterable iter X.env x = pure x := by intro _; rfl) :
  PE X (.ListComp elt [⟨tg, iter, ifs, 0⟩] scope pos) (tComp own cap (.lst []) wi g tts (eApp te)) := by
 intro pins s σ H Q I h
 exact comp_val (behOf := behList elt) hc S rfl hi acc_list (fun _ _ _ _ _ => clause_list) hg ht (fun cl s H ex l => pb_list (he cl s H ex)) hs pins s σ H Q I h
theorem ps_lc {i : Nat} {x : Str} {px spos : Pos} (own : List Str) (cap : List Nat) (hc : X.calm = true) (S : CompScope X own cap scope) (hN : X.N.Nodup) (hix : X.N[i]? = some x) (hx : Loc X.env.scope x)
  (hi : PI X tg iter wi) (hg : ∀ cl s H ex, PG (compCx X own cap scope cl s H ex) tg g)
  (ht : ∀ cl s H ex, PTs (compCx X own cap scope cl s H ex) ifs tts) (he : ∀ cl s H ex, PE (compCx X own cap scope cl s H ex) elt te)
  (hsw : swapsWith (.ListComp elt [⟨tg, iter, ifs, 0⟩] scope pos) (some (.Name x px)) spos.line X.env = pure true := by rfl) (hs : ∀ x, foldedSetIterable iter X.env x = pure x := by intro _; rfl)
  (hf : X.fn x = true ∨ X.env.scope.names.lookup x = some .local := by first | exact .inl rfl | exact .inr rfl | assumption) :
  PS X (.Assign [.Name x px] (.ListComp elt [⟨tg, iter, ifs, 0⟩] scope pos) spos) (tAsg (tComp own cap (.lst []) wi g tts (eApp te)) (gName i)) := by
 intro pins s σ H D I h
 rw [exec_Assign_Name_used _ _ _ _ hsw]
 refine wpAny_bind (wpAny_standAt (wpAny_bind ?_))
 show wpAny _ X.A (do let _ ← comprehension (.ListComp elt [⟨tg, iter, ifs, 0⟩] scope pos) scope X.env _ (newList []) false (eval iter X.env) (some (assign (.Name x px) X.env))) _ _ s
 refine wpAny_bind (thn (comp_use (behOf := behList elt) hc S rfl hi acc_list (fun _ _ _ _ _ => clause_list) hg ht (fun cl s H ex l => pb_list (he cl s H ex)) hs hN hix hx hf pins s σ H D I h) fun _ s' hq => ?_)
 exact wpAny_pure (wpAny_pure hq)
end
end L2
set_option maxHeartbeats 4000000
namespace Srt
open PySem PySem.W PyProof.Rows
noncomputable def run {α : Type} (lt : Nat → Nat → Bool) : KasT α → α
 | .ret a => a
 | .ask i j k => run lt (k (lt i j))
section
variable (lt : Nat → Nat → Bool)
noncomputable abbrev at' (p : Array Nat) (i : Nat) : Nat := p.getD i 0
end
variable {lt : Nat → Nat → Bool}
end Srt
set_option maxHeartbeats 4000000
namespace Srt
open PySem PySem.W PyProof.Rows
def Bd (n : Nat) (p : Array Nat) : Prop := ∀ i, at' p i < n
section
variable {n : Nat} (h0 : 0 < n)
abbrev Ok (n : Nat) (p : Array Nat) : Prop := Bd n p ∧ ∀ x ∈ p, x < n
include h0
end
end Srt
namespace L2
open PySem PySem.Spec PyProof.Rows
end L2
set_option maxHeartbeats 4000000
namespace Srt
open PySem PySem.W PyProof.Rows
end Srt
namespace L2
open PySem PySem.Spec PyProof.Rows
end L2
set_option maxHeartbeats 4000000
namespace L2
open PySem PySem.Spec PyProof.Rows
theorem Same.seqT {K : PySem.W.Frag} {H H' : Hp} {a : Addr} {xs : List V} (e : Same H H') (h : SqT K H a xs) : SqT K H' a xs := by
 rcases h with (h | ⟨o, h⟩) | h
 ·exact .inl (.inl (e _ _ h))
 ·exact .inl (.inr ⟨o, e _ _ h⟩)
 ·exact .inr h
mutual
noncomputable def Den (K : PySem.W.Frag) (G : Hp) : PyData → V → Prop
 | .none, v => v = .non
 | .bool b, v => v = .bl b
 | .int i, v => v = .int i
 | .str x, v => v = .str x
 | .list ds, v => ∃ a vs, v = .ref a ∧ SqL K G a vs ∧ DenL K G ds vs
 | .tuple ds, v => ∃ a vs, v = .ref a ∧ SqT K G a vs ∧ DenL K G ds vs
 | .dict _, _ => False
noncomputable def DenL (K : PySem.W.Frag) (G : Hp) : List PyData → List V → Prop
 | [], vs => vs = []
 | d :: ds, vs => ∃ v r, vs = v :: r ∧ Den K G d v ∧ DenL K G ds r
end
section
variable {K : PySem.W.Frag} {G G' : Hp}
mutual
theorem Den.mono (h : Same G G') : ∀ {d : PyData} {v : V}, Den K G d v → Den K G' d v
 | .none, _, e => by simp only [Den] at e ⊢; exact e
 | .bool _, _, e => by simp only [Den] at e ⊢; exact e
 | .int _, _, e => by simp only [Den] at e ⊢; exact e
 | .str _, _, e => by simp only [Den] at e ⊢; exact e
 | .list ds, _, e => by
  simp only [Den] at e ⊢
  obtain ⟨a, vs, e1, e2, e3⟩ := e
  exact ⟨a, vs, e1, h.seq e2, DenL.mono h e3⟩
 | .tuple ds, _, e => by
  simp only [Den] at e ⊢
  obtain ⟨a, vs, e1, e2, e3⟩ := e
  exact ⟨a, vs, e1, h.seqT e2, DenL.mono h e3⟩
 | .dict _, _, e => by simp only [Den] at e
theorem DenL.mono (h : Same G G') : ∀ {ds : List PyData} {vs : List V}, DenL K G ds vs → DenL K G' ds vs
 | [], _, e => by simp only [DenL] at e ⊢; exact e
 | d :: ds, _, e => by
  simp only [DenL] at e ⊢
  obtain ⟨v, r, e1, e2, e3⟩ := e
  exact ⟨v, r, e1, Den.mono h e2, DenL.mono h e3⟩
end
theorem DenL.len : ∀ {ds : List PyData} {vs : List V}, DenL K G ds vs → vs.length = ds.length
 | [], _, e => by simp only [DenL] at e; rw [e]; rfl
 | d :: ds, _, e => by
  simp only [DenL] at e
  obtain ⟨v, r, rfl, _, e3⟩ := e
  simp [DenL.len e3]
theorem DenL.nil : DenL K G [] [] := by simp only [DenL]
theorem DenL.cons {d : PyData} {ds : List PyData} {v : V} {vs : List V} (h1 : Den K G d v) (h2 : DenL K G ds vs) : DenL K G (d :: ds) (v :: vs) := by
 simp only [DenL]; exact ⟨v, vs, rfl, h1, h2⟩
theorem DenL.append : ∀ {ds es : List PyData} {vs ws : List V}, DenL K G ds vs → DenL K G es ws → DenL K G (ds ++ es) (vs ++ ws)
 | [], _, _, _, e, f => by simp only [DenL] at e; subst e; exact f
 | d :: ds, _, _, _, e, f => by
  simp only [DenL] at e
  obtain ⟨v, r, rfl, e2, e3⟩ := e
  exact .cons e2 (DenL.append e3 f)
theorem DenL.get : ∀ {ds : List PyData} {vs : List V} {i : Nat} {v : V}, DenL K G ds vs → vs[i]? = some v → ∃ d, ds[i]? = some d ∧ Den K G d v
 | [], _, _, _, e, h => by simp only [DenL] at e; subst e; simp at h
 | d :: ds, _, 0, _, e, h => by
  simp only [DenL] at e
  obtain ⟨v, r, rfl, e2, e3⟩ := e
  simp at h; subst h
  exact ⟨d, rfl, e2⟩
 | d :: ds, _, i + 1, _, e, h => by
  simp only [DenL] at e
  obtain ⟨v, r, rfl, e2, e3⟩ := e
  exact DenL.get (i := i) e3 (by simpa using h)
theorem DenL.get' : ∀ {ds : List PyData} {vs : List V} {i : Nat} {d : PyData}, DenL K G ds vs → ds[i]? = some d → ∃ v, vs[i]? = some v ∧ Den K G d v
 | [], _, _, _, e, h => by simp at h
 | d :: ds, _, 0, _, e, h => by
  simp only [DenL] at e
  obtain ⟨v, r, rfl, e2, e3⟩ := e
  simp at h; subst h
  exact ⟨v, rfl, e2⟩
 | d :: ds, _, i + 1, _, e, h => by
  simp only [DenL] at e
  obtain ⟨v, r, rfl, e2, e3⟩ := e
  exact DenL.get' (i := i) e3 (by simpa using h)
theorem Den.int {i : Int} : Den K G (.int i) (.int i) := by simp only [Den]
theorem Den.str {i : Str} : Den K G (.str i) (.str i) := by simp only [Den]
theorem Den.list {ds : List PyData} {a : Addr} {vs : List V} (h : SqL K G a vs) (e : DenL K G ds vs) : Den K G (.list ds) (.ref a) := by simp only [Den]; exact ⟨a, vs, rfl, h, e⟩
theorem Den.tuple {ds : List PyData} {a : Addr} {vs : List V} (h : SqT K G a vs) (e : DenL K G ds vs) : Den K G (.tuple ds) (.ref a) := by simp only [Den]; exact ⟨a, vs, rfl, h, e⟩
theorem Den.ofInt {i : Int} {v : V} (h : Den K G (.int i) v) : v = .int i := by simpa only [Den] using h
theorem Den.ofStr {i : Str} {v : V} (h : Den K G (.str i) v) : v = .str i := by simpa only [Den] using h
theorem Den.ofList {ds : List PyData} {v : V} (h : Den K G (.list ds) v) : ∃ a vs, v = .ref a ∧ SqL K G a vs ∧ DenL K G ds vs := by simpa only [Den] using h
theorem Den.ofTuple {ds : List PyData} {v : V} (h : Den K G (.tuple ds) v) : ∃ a vs, v = .ref a ∧ SqT K G a vs ∧ DenL K G ds vs := by simpa only [Den] using h
theorem DenL.ofCons {d : PyData} {ds : List PyData} {vs : List V} (h : DenL K G (d :: ds) vs) : ∃ v r, vs = v :: r ∧ Den K G d v ∧ DenL K G ds r := by simpa only [DenL] using h
theorem DenL.ofNil {vs : List V} (h : DenL K G [] vs) : vs = [] := by simpa only [DenL] using h
theorem DenL.ints : ∀ {ns : List Int} {vs : List V}, DenL K G (ns.map PyData.int) vs → vs = ns.map V.int
 | [], _, e => e.ofNil
 | n :: ns, _, e => by
  obtain ⟨v, r, rfl, e2, e3⟩ := DenL.ofCons e
  rw [e2.ofInt, DenL.ints e3]; rfl
theorem DenL.ofInts : ∀ ns : List Int, DenL K G (ns.map PyData.int) (ns.map V.int)
 | [] => .nil
 | n :: ns => .cons .int (DenL.ofInts ns)
end
section
variable {X : Cx} {pins : List (Addr × Obj)} {σ : St} {H : Hp} {s : Shared}
mutual
theorem Den.reads (I : Inv X pins σ H s) : ∀ {d : PyData} {v : V} {u : Value}, Den X.K H d v → RelV v u → ∃ as, Reads s.heap u d as
 | .none, _, _, e, r => by simp only [Den] at e; subst e; cases r; exact ⟨_, .none⟩
 | .bool b, _, _, e, r => by simp only [Den] at e; subst e; cases r; exact ⟨_, .bool b⟩
 | .int i, _, _, e, r => by simp only [Den] at e; subst e; obtain ⟨t, rfl⟩ := r; exact ⟨_, .int i t⟩
 | .str x, _, _, e, r => by simp only [Den] at e; subst e; obtain ⟨t, rfl⟩ := r; exact ⟨_, .str x t⟩
 | .list ds, _, _, e, r => by
  simp only [Den] at e
  obtain ⟨a, vs, rfl, e2, e3⟩ := e
  cases r
  obtain ⟨its, rv, ⟨o, n, h1, h2, h3, h4⟩, _⟩ := I.list e2
  obtain ⟨as, ra⟩ := DenL.reads I e3 rv
  exact ⟨_, .list h1 h2 h4 (by simpa using ra)⟩
 | .tuple ds, _, _, e, r => by
  simp only [Den] at e
  obtain ⟨a, vs, rfl, e2, e3⟩ := e
  cases r
  obtain ⟨its, rv, ⟨o, h1, h2, n, h4⟩, _⟩ := I.tuple e2
  obtain ⟨as, ra⟩ := DenL.reads I e3 rv
  exact ⟨_, .tuple h1 h2 h4 (by simpa using ra)⟩
 | .dict _, _, _, e, _ => by simp only [Den] at e
theorem DenL.reads (I : Inv X pins σ H s) : ∀ {ds : List PyData} {vs : List V} {us : List Value}, DenL X.K H ds vs → Vals vs us → ∃ as, ReadsAll s.heap us ds as
 | [], _, _, e, r => by simp only [DenL] at e; subst e; cases r; exact ⟨_, .nil⟩
 | d :: ds, _, _, e, r => by
  simp only [DenL] at e
  obtain ⟨v, vr, rfl, e2, e3⟩ := e
  cases r with
  | cons r1 r2 =>
   obtain ⟨as, ra⟩ := Den.reads I e2 r1
   obtain ⟨bs, rb⟩ := DenL.reads I e3 r2
   exact ⟨_, .cons ra rb⟩
end
end
mutual
theorem den_nodict {K : PySem.W.Frag} {G : Hp} : ∀ {d : PyData} {v : V}, Den K G d v → d.hasDict = false
 | .none, _, _ => by simp only [PyData.hasDict]
 | .bool _, _, _ => by simp only [PyData.hasDict]
 | .int _, _, _ => by simp only [PyData.hasDict]
 | .str _, _, _ => by simp only [PyData.hasDict]
 | .list ds, _, e => by
  simp only [Den] at e
  obtain ⟨a, vs, rfl, e2, e3⟩ := e
  simp only [PyData.hasDict]; exact denl_nodict e3
 | .tuple ds, _, e => by
  simp only [Den] at e
  obtain ⟨a, vs, rfl, e2, e3⟩ := e
  simp only [PyData.hasDict]; exact denl_nodict e3
 | .dict _, _, e => by simp only [Den] at e
theorem denl_nodict {K : PySem.W.Frag} {G : Hp} : ∀ {ds : List PyData} {vs : List V}, DenL K G ds vs → PyData.hasDictAll ds = false
 | [], _, _ => by simp only [PyData.hasDictAll]
 | d :: ds, _, e => by
  simp only [DenL] at e
  obtain ⟨v, vr, rfl, e2, e3⟩ := e
  simp only [PyData.hasDictAll, den_nodict e2, denl_nodict e3, Bool.or_false]
end
section
variable {X : Cx} {k : Nat}
noncomputable def rEqD (K : PySem.W.Frag) (neg : Bool) : R2 := fun x y H Q => ∃ da db, Den K H da x ∧ Den K H db y ∧ SeqAt.shaped da = true ∧ SeqAt.shaped db = true ∧ Q (.bl (if neg then !PyData.eqv da db else PyData.eqv da db)) H
theorem op_eqD (hr : Room k X.A) : OpR X (compareOp .Eq) (rEqD X.K false) := by
 intro pins s σ H x y v u Q I rx ry h
 obtain ⟨da, db, ha, hb, h1, h2, q⟩ := h
 obtain ⟨as, ra⟩ := Den.reads I ha rx
 obtain ⟨bs, rb⟩ := Den.reads I hb ry
 exact SeqAt.compareEq_shaped ra rb h1 h2 hr.units ⟨.bl _, H, I, rfl, q⟩
theorem op_neD (hr : Room k X.A) : OpR X (compareOp .NotEq) (rEqD X.K true) := by
 intro pins s σ H x y v u Q I rx ry h
 obtain ⟨da, db, ha, hb, h1, h2, q⟩ := h
 obtain ⟨as, ra⟩ := Den.reads I ha rx
 obtain ⟨bs, rb⟩ := Den.reads I hb ry
 exact SeqAt.compareNe_shaped ra rb h1 h2 hr.units ⟨.bl _, H, I, rfl, q⟩
end
mutual
theorem eqv_refl : ∀ d : PyData, d.hasDict = false → PyData.eqv d d = true
 | .none, _ => by simp only [PyData.eqv]
 | .bool _, _ => by simp only [PyData.eqv, beq_self_eq_true]
 | .int _, _ => by simp only [PyData.eqv, beq_self_eq_true]
 | .str _, _ => by simp only [PyData.eqv, beq_self_eq_true]
 | .list ds, h => by simp only [PyData.eqv]; exact eqvAll_refl ds (by simpa only [PyData.hasDict] using h)
 | .tuple ds, h => by simp only [PyData.eqv]; exact eqvAll_refl ds (by simpa only [PyData.hasDict] using h)
 | .dict _, h => by simp [PyData.hasDict] at h
theorem eqvAll_refl : ∀ ds : List PyData, PyData.hasDictAll ds = false → PyData.eqvAll ds ds = true
 | [], _ => by simp only [PyData.eqvAll]
 | d :: ds, h => by
  simp only [PyData.hasDictAll, Bool.or_eq_false_iff] at h
  simp only [PyData.eqvAll, eqv_refl d h.1, eqvAll_refl ds h.2, Bool.and_self]
end
end L2
set_option maxHeartbeats 4000000
namespace Miss
open PySem PySem.Spec PyProof.Rows
theorem lk_keys : typeLookup (.type "list") "keys" = pure none := am_miss_of_fast (by decide +kernel)
theorem lk_ga : typeLookup (.type "list") "__getattr__" = pure none := am_miss_of_fast (by decide +kernel)
section
variable {prog : Program} {w : World} {A : Around} {E : Value → Shared → Prop} {a : Addr} {its : Array Value} {n : Nat}
theorem entry {u : Tok} : Meets (Builtin.«object.__getattribute__» ⟨[.ref a, .str "keys" u], []⟩) (fun A R s => s.heap.get? a = some { cls := .type "list", dict := none, data := .seq its n, slots := #[] } ∧ raisesAttr (.ref a) "keys" A R s) :=
 Meets.of_wp fun prog w A R s hs => by
  obtain ⟨hp, g, d, tk, os⟩ := s
  obtain ⟨hx, hs⟩ := hs
  have hT : (⟨hp, g, d, tk, os⟩ : Shared).TypeIs (.ref a) "list" := ⟨_, hx, rfl⟩
  have f4 := lk_keys
  unfold Builtin.«object.__getattribute__»
  repeat (any_goals (first | assumption | wp_step))
  exact wpAny_raiseAttrError hs.1 hs.2 (attrMsg_fits (by decide +kernel) (by rw [sizeLine_eq]; decide +kernel))
theorem no_keys {s : Shared} {Q : Option Value → Shared → Prop} (hA : A.handled = none) (hx : s.heap.get? a = some { cls := .type "list", dict := none, data := .seq its n, slots := #[] })
  (h : ∀ h' tk, (∀ b o, s.heap.get? b = some o → h'.get? b = some o) → Q none { s with heap := h', toks := tk }) : wpAny (model prog w) A (getAttr? (.ref a) "keys") Q E s := by
 obtain ⟨hp, g, d, tk, os⟩ := s
 have hT : ∀ tk, (⟨hp, g, d, tk, os⟩ : Shared).TypeIs (.ref a) "list" := fun _ => ⟨_, hx, rfl⟩
 have f1 := sub_AttributeError
 have f3 := F.slot_list_getattribute.lookup
 have f4 := F.slot_list_getattribute.bind (.ref a)
 have f5 := lk_ga
 unfold getAttr? getAttrBy? getAttrBy
 repeat (any_goals (first | assumption | ((with_reducible show wpAny _ _ (call (Value.builtin "list.__getattribute__") _ _) _ _ _); refine call_meets F.slot_list_getattribute (hT _) F.entry_list_ga (F.args_list_getattribute_2 _ _) (entry (its := its) (n := n)) ⟨hx, hA, fun h' tk' e x => ?_⟩) | wp_step))
 obtain ⟨t', u', he⟩ := x.there
 show wpAny _ _ (getattributeRaised _ _ (Value.type "list") _ _ _ _) _ _ _
 unfold getattributeRaised
 repeat (any_goals (first | assumption | wp_step))
 exact h _ _ x.keeps
theorem entry_loop : entryFor table "dict.update.loop" = some Builtin.«dict.update.loop» := entryFor_of_tree (by kernel_rfl)
theorem plain_loop : plainId "dict.update.loop" = true := by decide +kernel
end
end Miss
set_option maxHeartbeats 4000000
namespace L2
open PySem PySem.Spec PyProof.Rows
noncomputable def ePut (tk tv : TE) (l : Addr) : TB := fun σ H Q => tk σ H fun x H1 => tv σ H1 fun y H2 => ∃ kvs k, x = kV k ∧ H2 l = some (.dK kvs) ∧ kvs.length < sizeLine ∧ Q σ (upd H2 l (.dK (putK kvs k y)))
noncomputable def Itd (d : Addr) (o : Obj) (kvs : List (Key × V)) : It :=
 ⟨fun i H => H d = some (.frz o (.dK kvs)) ∧ i < kvs.length, fun i H x H' => H' = H ∧ ∃ k v, kvs[i]? = some (k, v) ∧ x = kV k, fun i H => H d = some (.frz o (.dK kvs)) ∧ kvs.length ≤ i⟩
section
variable {X : Cx} {tg : Expr}
noncomputable def iDict (td : TE) : TI := fun σ H R => td σ H fun x H1 => ∃ d kvs, x = .ref d ∧ H1 d = some (.dK kvs) ∧ ∀ o, R (Itd d o kvs) (upd H1 d (.frz o (.dK kvs)))
end
noncomputable def PairsAt (H : Hp) : List V → List (Key × V) → Prop := Paired fun v kv => ∃ a, v = .ref a ∧ H a = some (.tup [kV kv.1, kv.2])
theorem PairsAt.mono {H H' : Hp} (h : ∀ b xs, H b = some (.tup xs) → H' b = some (.tup xs)) {vs : List V} {kvs : List (Key × V)} (p : PairsAt H vs kvs) : PairsAt H' vs kvs := Paired.mapP p fun _ _ ⟨a, e, q⟩ => ⟨a, e, h _ _ q⟩
theorem upd_go {X : Cx} {pins : List (Addr × Obj)} {σ : St} {l d it : Addr} (hh : X.A.handled = none) : ∀ {more : List (Key × V)} {items : List V} {i : Nat} {A : Around} {H : Hp} {s : Shared} {kvs : List (Key × V)} {R : Result → Shared → Prop}, A.handled = none → Inv X pins σ H s → s.heap.IsListIter it l i → FpOk X pins H it →
  H l = some (.lst items) → H d = some (.dK kvs) → l ≠ d → PairsAt H (items.drop i) more → kvs.length + more.length ≤ sizeLine → (∀ s', Inv X pins σ (upd H d (.dK (mergeK kvs more))) s' → R (.ok (.ret .none)) s') →
  codeAny (model X.prog X.w) A (.builtin "dict.update.loop" ⟨[.ref d, .ref it, rawInt i, .none], []⟩) R s
 | [], items, i, A, H, s, kvs, R, hA, I, st, hf, hl, hd, hne, hp, hz, h => by
  refine codeAny_builtin Miss.entry_loop ?_
  rw [Around.under_plainId Miss.plain_loop _]
  obtain ⟨its, n, r, ho, _⟩ := I.lst hl
  have hlen : items.length ≤ i := by
   have := Paired.length hp
   rw [List.length_drop] at this
   have e : ([] : List (Key × V)).length = 0 := rfl
   omega
  have hl2 := r.length
  show wpAny _ _ (pyNext (.ref it) >>= _) _ _ s
  obtain ⟨f0, f1, f2, f3, f4, f5⟩ := hf
  refine wpAny_bind (wpAny_pyNext_list_end (show A.in1.handled = none from hA) st (l := l) (items := its.toArray) ⟨_, ho, rfl, n, rfl⟩ (by simp; omega) fun h' eb => ?_)
  have I1 : Inv X pins σ H { s with heap := h' } := I.turned (t' := s.toks) (fun b ob hb e => eb b ob hb e) f0 f1 f3 f4 f5
  have e1 : upd H d (.dK (mergeK kvs [])) = H := by
   funext b
   by_cases hb : b = d
   ·subst hb; rw [upd_same, hd]; rfl
   ·rw [upd_ne hb]
  rw [e1] at h
  show wpAny _ _ (Builtin.Dict.addKeywords d [] >>= _) _ _ _
  exact wpAny_bind (wpAny_pure (wpAny_pure (h _ I1)))
 | (k, w) :: more, items, i, A, H, s, kvs, R, hA, I, st, hf, hl, hd, hne, hp, hz, h => by
  refine codeAny_builtin Miss.entry_loop ?_
  rw [Around.under_plainId Miss.plain_loop _]
  obtain ⟨its, n, r, ho, _⟩ := I.lst hl
  have hl2 := r.length
  cases e0 : items.drop i with
  | nil => rw [e0] at hp; cases hp
  | cons v rest =>
   rw [e0] at hp
   cases hp with
   | cons hv hr =>
    obtain ⟨a, rfl, ha⟩ := hv
    have hi : items[i]? = some (.ref a) := by rw [← List.head?_drop, e0]; rfl
    obtain ⟨u, hu, ru⟩ := r.get hi
    cases ru
    obtain ⟨f0, f1, f2, f3, f4, f5⟩ := id hf
    show wpAny _ _ (pyNext (.ref it) >>= _) _ _ s
    refine wpAny_bind (wpAny_pyNext_list_item st (l := l) (items := its.toArray) ⟨_, ho, rfl, n, rfl⟩ (x := .ref a) (by simpa using hu) fun h' st' sb => ?_)
    have I1 : Inv X pins σ H { s with heap := h' } := I.turned (t' := s.toks) (fun b ob hb e => (sb.2 b hb).trans e) f0 f1 f3 f4 f5
    obtain ⟨_, its2, rt, ob, ho2, hc2, n2, hd2⟩ := (show ObjOk X.prog X.w H h' a (.tup [kV k, w]) from I1.hok a _ ha)
    obtain ⟨uk, uw, rfl, rk, rw'⟩ := vals2 rt
    refine wpAny_bind (wpAny_holding (wpAny_bind (wpAny_tryCatch ?_)))
    unfold Builtin.Dict.pairItems
    refine wpAny_bind (wpAny_typeOf (T := "tuple") ⟨ob, ho2, hc2⟩ ?_)
    rw [if_pos (by decide)]
    refine wpAny_bind (wpAny_seqItems ho2 hd2 (wpAny_pure ?_))
    show wpAny _ _ (holding [uk, uw] (dictSet d uk uw)) _ _ _
    obtain ⟨z, hs, vs, rel, dd⟩ := dk_of I1.hok hd
    have hz2 : kvs.length + (more.length + 1) ≤ sizeLine := hz
    have hl3 : (putK kvs k w).length ≤ kvs.length + 1 := length_putK kvs k w
    refine wpAny_holding (wpAny_dictSet_pairs (kV_is rk) dd (fun h2 dd' sb2 => wpAny_pure ?_) (by rw [← rel.length]; exact z))
    have he : ∃ q, h2.get? d = some q := let ⟨q, _, _, hq, _⟩ := dd'; ⟨q, hq⟩
    have I2 : Inv X pins σ (upd H d (.dK (putK kvs k w))) { s with heap := h2, toks := s.toks + 1 } := d_write (s := { s with heap := h' }) (t' := s.toks + 1) I1 (by rw [hd]; exact True.intro) sb2 he (dk_new (by omega) hs (rel.put k rw') dd')
    have hitd : it ≠ d := fun z => by rw [z, hd] at f0; cases f0
    have tk : ∀ b xs, H b = some (.tup xs) → upd H d (.dK (putK kvs k w)) b = some (.tup xs) := fun b xs q => by
     rw [upd_ne (ne_of q hd (by intro z; cases z))]; exact q
    refine ⟨plainId_quiet Miss.plain_loop _, ?_⟩
    have e3 : (i : Int) + 1 = ((i + 1 : Nat) : Int) := by omega
    rw [e3]
    refine upd_go hh (more := more) (items := items) (i := i + 1) (kvs := putK kvs k w) hA I2 (st'.extBut sb2.extBut hitd) ⟨by rw [upd_ne hitd]; exact f0, f1, f2, f3, f4, f5⟩ (by rw [upd_ne hne]; exact hl) upd_same hne ?_ (by omega) fun s' I' => h s' ?_
    ·have e4 : items.drop (i + 1) = rest := by rw [← List.tail_drop, e0]; rfl
     rw [e4]
     exact PairsAt.mono tk hr
    ·rw [upd_upd] at I'
     exact I'
noncomputable def rUpdate : V → List V → Hp → VK → Prop := fun x vs H Q => ∃ d l kvs items more, x = .ref d ∧ vs = [.ref l] ∧ H d = some (.dK kvs) ∧ H l = some (.lst items) ∧ PairsAt H items more ∧ kvs.length + more.length ≤ sizeLine ∧ Q .non (upd H d (.dK (mergeK kvs more)))
theorem mt_update {X : Cx} (hc : X.calm = true) : MtM X "dict.update" rUpdate := by
 intro pins s σ H x vs v us Q I rx rv h
 obtain ⟨d, l, kvs, items, more, rfl, rfl, hd, hl, hp, hz, q⟩ := h
 cases rx
 obtain ⟨u, rfl, ru⟩ := rv.one
 cases ru
 have hne : l ≠ d := ne_of hl hd (by intro z; cases z)
 obtain ⟨z, hs, ws, rel, dd⟩ := dk_of I.hok hd
 obtain ⟨its, n, r, ho, _⟩ := I.lst hl
 have hA := I.ok.hd hc
 refine wpAny_call (codeAny_call_builtin PySem.F.slot_dict_update.plain PySem.F.entry_dict_update (PySem.F.slot_dict_update.check _ _ _ _ _ _ _ _ dd.typeIs (PySem.F.args_dict_update_2 _ _) ?_))
 unfold Builtin.«dict.update»
 refine wpAny_bind ?_
 unfold Builtin.Dict.selfAndRest
 refine wpAny_bind (wpAny_notOrdered_dict dd.typeIs ?_)
 show wpAny _ _ (pure (d, [Value.ref l])) _ _ s
 refine wpAny_pure ?_
 show wpAny _ _ (Builtin.Dict.updateFrom "dict.update" d (.ref l) [] .none) _ _ s
 unfold Builtin.Dict.updateFrom
 refine wpAny_bind (wpAny_typeOf (T := "list") ⟨_, ho, rfl⟩ ?_)
 rw [if_pos (by decide)]
 refine wpAny_bind (Miss.no_keys hA ho fun h' tk kp => ?_)
 have I1 : Inv X pins σ H { s with heap := h', toks := tk } := I.kept kp
 show wpAny _ _ (if true = true then _ else _) _ _ _
 rw [if_pos rfl]
 refine wpAny_bind (wpAny_rule ?_)
 refine wpAny_bind (wpAny_pyIter_list (l := l) (items := its.toArray) ⟨_, kp _ _ ho, rfl, n, rfl⟩ ?_)
 have I2 : Inv X pins σ H { s with heap := h'.push { cls := .type "list_iterator", data := .fields #[.ref l, .int 0 0] }, toks := tk } := I1.kept (t' := tk) fun b ob e => Heap.get?_push_of_some _ e
 refine wpAny_pure ⟨plainId_quiet Miss.plain_loop _, ?_⟩
 exact upd_go (i := 0) hA hA I2 ⟨_, Heap.get?_push_size _ rfl, rfl, rfl⟩ (I1.fpOk (Nat.le_refl _) (I1.hok.fresh (Nat.le_refl _))) hl hd hne hp hz fun s' I' => ⟨.non, _, I', rfl, q⟩
end L2
set_option maxHeartbeats 4000000
namespace L2
open PySem PySem.Spec PyProof.Rows
noncomputable def wo (ts : List Addr) (H : Hp) : Hp := fun b => if b ∈ ts then none else H b
theorem wo_in {ts : List Addr} {H : Hp} {b : Addr} (h : b ∈ ts) : wo ts H b = none := if_pos h
theorem wo_out {ts : List Addr} {H : Hp} {b : Addr} (h : b ∉ ts) : wo ts H b = H b := if_neg h
theorem wo_same (ts : List Addr) (H : Hp) : Same (wo ts H) H := fun b o e => by
 by_cases h : b ∈ ts
 ·rw [wo_in h] at e; cases e
 ·rw [wo_out h] at e; exact e
def Ext (ts : List Addr) (H H' : Hp) : Prop := ∀ b o, b ∉ ts → H b = some o → H' b = some o
theorem Ext.refl (ts : List Addr) (H : Hp) : Ext ts H H := fun _ _ _ h => h
theorem Ext.trans {ts : List Addr} {H H1 H2 : Hp} (a : Ext ts H H1) (b : Ext ts H1 H2) : Ext ts H H2 := fun c o h e => b c o h (a c o h e)
theorem Ext.same {ts : List Addr} {H H' : Hp} (a : Ext ts H H') : Same (wo ts H) (wo ts H') := fun b o e => by
 by_cases h : b ∈ ts
 ·rw [wo_in h] at e; cases e
 ·rw [wo_out h] at e ⊢; exact a b o h e
theorem Ext.put {ts : List Addr} {H : Hp} {t : Addr} {o : HO} (h : t ∈ ts) : Ext ts H (upd H t o) := fun b u hb e => by
 have ne : b ≠ t := fun z => hb (by rw [z]; exact h)
 rw [upd_ne ne]; exact e
theorem Ext.laid {ts : List Addr} {H : Hp} {l : Addr} {o : HO} (h : H l = none) : Ext ts H (upd H l o) := fun b u _ e => by
 rw [upd_ne (ne_of_none e h)]; exact e
theorem Ext.mono {ts us : List Addr} {H H' : Hp} (a : Ext ts H H') (h : ∀ b ∈ ts, b ∈ us) : Ext us H H' := fun b o hb e => a b o (fun z => hb (h b z)) e
theorem Ext.drop {ts : List Addr} {l : Addr} {H H' : Hp} (a : Ext (l :: ts) H H') (h : H l = none) : Ext ts H H' := fun b o hb e => a b o (fun z => by
 rcases List.mem_cons.mp z with y | y
 ·rw [y, h] at e; cases e
 ·exact hb y) e
theorem same_wo {ts us : List Addr} {H : Hp} (h : ∀ b ∈ ts, b ∈ us) : Same (wo us H) (wo ts H) := fun b o e => by
 by_cases hb : b ∈ us
 ·rw [wo_in hb] at e; cases e
 ·rw [wo_out hb] at e
  rw [wo_out (fun z => hb (h b z))]; exact e
noncomputable def yo (H0 : Hp) (ts : List Addr) (H : Hp) : Hp := fun b => match H0 b with
 | some _ => none
 | none => wo ts H b
theorem yo_out {H0 : Hp} {ts : List Addr} {H : Hp} {b : Addr} (h0 : H0 b = none) (h : b ∉ ts) : yo H0 ts H b = H b := by
 unfold yo; rw [h0]; exact wo_out h
theorem yo_some {H0 : Hp} {ts : List Addr} {H : Hp} {b : Addr} {o : HO} (h : yo H0 ts H b = some o) : H0 b = none ∧ b ∉ ts ∧ H b = some o := by
 unfold yo at h
 cases z : H0 b with
 | some _ => rw [z] at h; cases h
 | none =>
  rw [z] at h
  have h : wo ts H b = some o := h
  by_cases hb : b ∈ ts
  ·rw [wo_in hb] at h; cases h
  ·rw [wo_out hb] at h; exact ⟨rfl, hb, h⟩
theorem Ext.none {ts : List Addr} {H H' : Hp} {b : Addr} (a : Ext ts H H') (h : b ∉ ts) (e : H' b = none) : H b = none := by
 cases z : H b with
 | none => rfl
 | some o => rw [a _ _ h z] at e; cases e
theorem Ext.young {H0 : Hp} {ts : List Addr} {H H' : Hp} (a : Ext ts H H') : Same (yo H0 ts H) (yo H0 ts H') := fun b o e => by
 obtain ⟨h0, h1, h2⟩ := yo_some e
 rw [yo_out h0 h1]; exact a b o h1 h2
theorem yo_less {H0 : Hp} {ts us : List Addr} {H : Hp} (h : ∀ b ∈ ts, b ∈ us) : Same (yo H0 us H) (yo H0 ts H) := fun b o e => by
 obtain ⟨h0, h1, h2⟩ := yo_some e
 rw [yo_out h0 (fun z => h1 (h b z))]; exact h2
theorem yo_same {H0 : Hp} {ts : List Addr} {H : Hp} : Same (yo H0 ts H) H := fun b o e => (yo_some e).2.2
theorem yo_older {H0 H1 : Hp} {ts us : List Addr} {H : Hp} (a : Ext ts H0 H1) (h : ∀ b ∈ ts, b ∈ us) : Same (yo H1 us H) (yo H0 us H) := fun b o e => by
 obtain ⟨h0, h1, h2⟩ := yo_some e
 rw [yo_out (a.none (fun z => h1 (h b z)) h0) h1]; exact h2
theorem yo_apart {H0 H1 : Hp} {ts us : List Addr} {H : Hp} (h : ∀ b ∈ us, b ∈ ts ∨ H1 b ≠ none) : Same (yo H1 ts H) (yo H1 us H) := fun b o e => by
 obtain ⟨h0, h1, h2⟩ := yo_some e
 rw [yo_out h0 (fun z => (h b z).elim h1 (fun y => y h0))]; exact h2
def Tape (H : Hp) (t : Addr) (k : Nat) : Prop := ∃ (a b c : Int), H t = some (.lst [.int a, .int b, .int c]) ∧ 0 ≤ a ∧ 0 ≤ b ∧ b < 2 ^ 62 ∧ 0 ≤ c ∧ c ≤ k
theorem Tape.mono {H : Hp} {t : Addr} {k j : Nat} (h : Tape H t k) (hk : k ≤ j) : Tape H t j := by
 obtain ⟨a, b, c, h1, h2, h3, h4, h5, h6⟩ := h
 exact ⟨a, b, c, h1, h2, h3, h4, h5, by omega⟩
theorem Tape.ext {H H' : Hp} {t : Addr} {k : Nat} {ts : List Addr} (h : Tape H t k) (e : Ext ts H H') (ht : t ∉ ts) : Tape H' t k := by
 obtain ⟨a, b, c, h1, r⟩ := h
 exact ⟨a, b, c, e _ _ ht h1, r⟩
theorem Tape.ne {H : Hp} {t l : Addr} {k : Nat} (h : Tape H t k) (hl : H l = none) : l ≠ t := by
 obtain ⟨a, b, c, h1, _⟩ := h
 exact (ne_of_none h1 hl).symm
noncomputable def spDraw : Sp := fun vs H Q _ => ∃ (t : Addr) (k : Nat) (n : Int), vs = [.ref t, .int n] ∧ Tape H t k ∧ k ≤ 2 ^ 40 ∧ 0 < n ∧ n < 2 ^ 24 ∧ ∀ (r : Int) (H' : Hp), 0 ≤ r → r < n → Tape H' t (k + 1) → Ext [t] H H' → (∀ b, b ≠ t → H' b = H b) → Q (.int r) H'
section
variable {K : PySem.W.Frag} {σ : St} {H : Hp} {Q : VK} {p : Addr} {xs : List V} {i j : Int} {v : V} {ta tb te to ti : TE} {r : R2} {t u : TS} {D : Ends} {n m : Nat} {tt t2 : TT} {tl tr : TA}
theorem r_op (h : ta σ H fun x H1 => tb σ H1 fun y H2 => r x y H2 Q) : tOp r ta tb σ H Q := h
theorem r_var (h : σ[n]? = some (some v)) (q : Q v H) : tVar n σ H Q := ⟨v, h, q⟩
theorem r_c (q : Q v H) : tC v σ H Q := q
theorem r_i0 {g : Int → Int → V} (q : Q (g i j) H) : rI0 g (.int i) (.int j) H Q := ⟨i, j, rfl, rfl, q⟩
theorem r_mul (c : (-(2 ^ 64) < i ∧ i < 2 ^ 64) ∨ (-(2 ^ 64) < j ∧ j < 2 ^ 64)) (q : Q (.int (i * j)) H) : rI CMul (fun i j => .int (i * j)) (.int i) (.int j) H Q := ⟨i, j, rfl, rfl, c, q⟩
theorem r_pow (c1 : 0 ≤ j) (c2 : j ≤ 1000000) (c3 : i.natAbs < 2 ^ 64) (q : Q (.int (i ^ j.toNat)) H) : rI CPow (fun i j => .int (i ^ j.toNat)) (.int i) (.int j) H Q := ⟨i, j, rfl, rfl, ⟨c1, c2, c3⟩, q⟩
theorem r_div (c1 : 0 < j) (c2 : j < 1073741824) (q : Q (.int (i / j)) H) : rI CDiv (fun i j => .int (i / j)) (.int i) (.int j) H Q := ⟨i, j, rfl, rfl, ⟨c1, c2⟩, q⟩
theorem r_mod (c : 0 < j) (q : Q (.int (i % j)) H) : rI (fun _ j => 0 < j) (fun i j => .int (i % j)) (.int i) (.int j) H Q := ⟨i, j, rfl, rfl, c, q⟩
theorem r_un {g : Int → V} (h : ta σ H fun x H1 => rU g x H1 Q) : tUn (rU g) ta σ H Q := h
theorem r_u {g : Int → V} (q : Q (g i) H) : rU g (.int i) H Q := ⟨i, rfl, q⟩
theorem r_ixL (h : SqL K H p xs) (e : atI xs i = some v) (q : Q v H) : rIxL K (.ref p) (.int i) H Q := ⟨p, xs, i, v, rfl, rfl, h, e, q⟩
theorem r_ixT (h : SqT K H p xs) (e : atI xs i = some v) (q : Q v H) : rIxT K (.ref p) (.int i) H Q := ⟨p, xs, i, v, rfl, rfl, h, e, q⟩
theorem r_seq (h : t { D with nx := u D } σ H) : tSeq t u D σ H := h
theorem r_asg {g : TG} (h : te σ H fun x H1 => g x σ H1 D.nx) : tAsg te g D σ H := h
theorem r_gn {R : St → Hp → Prop} (q : R (σ.set n (some v)) H) : gName n v σ H R := q
theorem r_ret (h : te σ H D.rt) : tRet te D σ H := h
theorem r_drop (h : te σ H fun _ H1 => D.nx σ H1) : tDrop te D σ H := h
theorem r_next (h : D.nx σ H) : tNext D σ H := h
theorem r_if (h : tt σ H fun b H1 => if b = true then t D σ H1 else u D σ H1) : tIfS tt t u D σ H := h
theorem r_test {R : Bool → Hp → Prop} (h : te σ H fun x H' => ∃ k, x = .bl k ∧ R k H') : tTest te σ H R := h
theorem r_tB {R : Bool → Hp → Prop} (h : te σ H fun x H' => ∃ k, x = .bl k ∧ R k H') : tB te σ H R := h
theorem r_bl {b : Bool} {R : Bool → Prop} (q : R b) : ∃ k, V.bl b = .bl k ∧ R k := ⟨b, rfl, q⟩
theorem r_gsub {ts : TSet} {R : St → Hp → Prop} (h : to σ H fun o H1 => ti σ H1 fun i H2 => ts o i v H2 fun H3 => R σ H3) : gSub to ti ts v σ H R := h
theorem r_setL {R : Hp → Prop} (h : H p = some (.lst xs)) (e : ixN xs.length i = some n) (q : R (upd H p (.lst (xs.set n v)))) : rSetL (.ref p) (.int i) v H R := ⟨p, xs, i, n, rfl, rfl, h, e, q⟩
theorem r_nil {R : List V → Hp → Prop} (q : R [] H) : tNil σ H R := q
theorem r_cons {R : List V → Hp → Prop} (h : ta σ H fun x H1 => tr σ H1 fun xs H2 => R (x :: xs) H2) : tCons ta tr σ H R := h
theorem r_tup (h : tl σ H fun xs H1 => xs.length ≤ sizeLine ∧ ∀ p, H1 p = none → Q (.ref p) (upd H1 p (.tup xs))) : tTup tl σ H Q := h
theorem r_lst (h : tl σ H fun xs H1 => xs.length ≤ sizeLine ∧ ∀ p, H1 p = none → Q (.ref p) (upd H1 p (.lst xs))) : tLst tl σ H Q := h
theorem r_call {sp : Sp} {dvs : List V} {E : XK} (h : tl σ H fun vs H1 => sp (vs ++ dvs) H1 Q E) : tCall sp dvs E tl σ H Q := h
theorem r_cb {rr : List V → Hp → VK → Prop} (h : tl σ H fun vs H1 => rr vs H1 Q) : tCB rr tl σ H Q := h
theorem r_ife (h : tt σ H fun b H1 => if b = true then ta σ H1 Q else tb σ H1 Q) : tIf tt ta tb σ H Q := h
theorem r_and {R : Bool → Hp → Prop} (h : tt σ H fun c H1 => if c = true then t2 σ H1 R else R false H1) : tAnd tt t2 σ H R := h
theorem r_or {R : Bool → Hp → Prop} (h : tt σ H fun c H1 => if c = true then R true H1 else t2 σ H1 R) : tOr tt t2 σ H R := h
theorem r_not {R : Bool → Hp → Prop} (h : tt σ H fun c H1 => R (!c) H1) : tNot tt σ H R := h
theorem r_par (h : tl σ H fun vs H1 => ∃ v w, vs = [v, w] ∧ D.nx ((σ.set n (some v)).set m (some w)) H1) : tPar n m tl D σ H := h
end
section
variable {K : PySem.W.Frag} {σ : St} {H : Hp} {Q : VK} {l t : Addr} {xs : List V} {i j n : Int} {v y : V} {k : Nat} {E : XK}
theorem r_draw (hT : Tape H t k) (hk : k ≤ 2 ^ 40) (h0 : 0 < n) (h1 : n < 2 ^ 24) (q : ∀ r H', 0 ≤ r → r < n → Tape H' t (k + 1) → Ext [t] H H' → (∀ b, b ≠ t → H' b = H b) → Q (.int r) H') : spDraw ([.ref t, .int n] ++ []) H Q E := ⟨t, k, n, rfl, hT, hk, h0, h1, q⟩
theorem r_eqI (q : Q (.bl (decide (i = j))) H) : rEq (.int i) (.int j) H Q := ⟨rfl, by
 have e : decide (V.int i = V.int j) = decide (i = j) := by rw [Bool.eq_iff_iff]; simp
 rw [e]; exact q⟩
theorem r_neI (q : Q (.bl (!decide (i = j))) H) : rNe (.int i) (.int j) H Q := ⟨rfl, by
 have e : decide (V.int i = V.int j) = decide (i = j) := by rw [Bool.eq_iff_iff]; simp
 rw [e]; exact q⟩
theorem r_eqS {a b : Str} (q : Q (.bl (decide (a = b))) H) : rEq (.str a) (.str b) H Q := ⟨rfl, by
 have e : decide (V.str a = V.str b) = decide (a = b) := by rw [Bool.eq_iff_iff]; simp
 rw [e]; exact q⟩
theorem r_neS {a b : Str} (q : Q (.bl (!decide (a = b))) H) : rNe (.str a) (.str b) H Q := ⟨rfl, by
 have e : decide (V.str a = V.str b) = decide (a = b) := by rw [Bool.eq_iff_iff]; simp
 rw [e]; exact q⟩
theorem r_tyL {R : Prop} (h : H l = some (.lst xs)) (q : R) : tyV K "list" (.ref l) H ∧ R := ⟨.inl ⟨rfl, _, SqL.of h⟩, q⟩
theorem r_app (h : H l = some (.lst xs)) (hz : xs.length < sizeLine) (q : Q .non (upd H l (.lst (xs ++ [y])))) : rAppend (.ref l) [y] H Q := ⟨l, xs, y, rfl, rfl, h, hz, q⟩
theorem bit01 (b : Bool) : 0 ≤ (if b = true then (1 : Int) else 0) ∧ (if b = true then (1 : Int) else 0) ≤ 1 := by cases b <;> decide
end
theorem len2 {n : Nat} (h : n ≤ 1000) : n ≤ sizeLine := Nat.le_trans h (by decide)
theorem nox_K {CX : CXT} {P : Program} {w : World} {K : PySem.W.Frag} {mg : Str → Option Value} {base : Heap} {N : List Str} {qual : Str} {scope : Scope} {f : Addr} {cd : Value} {A : Around} {outer : List Env} {s : Shared} {H : Hp} {E : XK} : (cxOf CX P w K mg base N qual scope f cd A outer s H E).nox.K = K := rfl
theorem comp_K {X : Cx} {own : List Str} {cap : List Nat} {scope : Scope} {cl : List (Str × Addr)} {s : Shared} {H : Hp} {ex : List Addr} : (compCx X own cap scope cl s H ex).K = X.K := rfl
def Has (P : Program) (w : World) (K : PySem.W.Frag) (mg : Str → Option Value) (base : Heap) (x : Str) (k : Nat) (ps : List Str) (sp : Sp) : Prop :=
 ∃ f fd, FnOk P w K mg base CX0 k f fd ps sp ∧ mg x = some (.ref f) ∧ PySem.W.keepIn K (.ref f) = true ∧ Binds K fd ps []
theorem pe_fn {X : Cx} {x : Str} {k j : Nat} {ps : List Str} {sp : Sp} {e : Expr} {es : List Expr} {t : TA} {p pos : Pos} (h : Has X.prog X.w X.K X.mg X.base x k ps sp) (hr : Room j X.A) (hj : k ≤ j) (ha : PA X (e :: es) t) (hg : Gl X x := by rfl)
  (hdb : (x == ("__debug__" : Str)) = false := by decide) (he : starEach (e :: es) X.env = (false, eval e X.env) :: starEach es X.env := by rfl) (hpl : (backTo pos (starEach es X.env)).any (·.1) = false := by rfl) :
  PE X (.Call (.Name x p) (e :: es) [] pos) (tCall sp [] E0 t) := by
 obtain ⟨f, fd, G, hm, hk, hb⟩ := h
 exact pe_call G (hr.mono hj) hg hm hk hb .nil pass0 ha hdb he hpl
noncomputable def spTape (K : PySem.W.Frag) : Sp := fun vs H Q _ => ∃ (a : Addr) (ns : List Int) (k : Nat), vs = [.ref a, .int k] ∧ SqL K H a (ns.map V.int) ∧ k ≤ 100 ∧ ∀ (t : Addr) (H' : Hp), H t = none → Tape H' t 0 → Same H H' → Q (.ref t) H'
noncomputable def spInt (c : Nat) (lo hi : Int) : Sp := fun vs H Q _ => ∃ (t : Addr) (k : Nat), vs = [.ref t] ∧ Tape H t k ∧ k + c ≤ 2 ^ 40 ∧ ∀ (r : Int) (H' : Hp), lo ≤ r → r ≤ hi → Tape H' t (k + c) → Ext [t] H H' → Q (.int r) H'
noncomputable abbrev spMany : Sp := spInt 3 1 12
noncomputable abbrev spNumber : Sp := spInt 3 (-(10 ^ 12)) (10 ^ 12)
end L2
set_option maxHeartbeats 1000000
namespace L2
open PySem PySem.Spec PyProof.Rows
noncomputable def chk (X : Cx) (own : List Str) (cap : List Nat) (scope : Scope) : Bool :=
 decide (scope.kind = .function) && (scope.names.all fun x => decide (x.2 ≠ .cell)) && (scope.names.all fun x => !decide (x.2 = .local) || decide (scope.names.lookup x.1 = some .local)) &&
 (scope.names.all fun x => !decide (x.2 = .free) || (decide (X.env.scope.names.lookup x.1 = some .cell) || decide (X.env.scope.names.lookup x.1 = some .free))) && (own.all fun x => decide (scope.names.lookup x = some .local)) &&
 (cap.all fun j => decide (scope.names.lookup (X.N.getD j "") = some .free) && decide (j < X.N.length))
theorem CompScope.of {X : Cx} {own : List Str} {cap : List Nat} {scope : Scope} (h : chk X own cap scope = true) : CompScope X own cap scope := by
 unfold chk at h
 simp only [Bool.and_eq_true, List.all_eq_true, decide_eq_true_eq, Bool.or_eq_true, Bool.not_eq_true', decide_eq_false_iff_not] at h
 obtain ⟨⟨⟨⟨⟨h1, h2⟩, h3⟩, h4⟩, h5⟩, h6⟩ := h
 exact ⟨h1, fun x hx => h2 x hx, fun x hx e => (h3 x hx).resolve_left (fun z => z e), fun x hx e => (h4 x hx).resolve_left (fun z => z e), h5, fun j hj => h6 j hj⟩
section
variable {K : PySem.W.Frag} {a : Addr} {xs : List V} {g : TG} {tt : TT} {B : TB} {σ : St} {H : Hp} {Q : St → Hp → Prop}
theorem loop_by {J : It} {n : Nat} (Pv : Nat → St → Hp → Prop) (h0 : Pv 0 σ H) (hgo : ∀ i σ H, i < n → Pv i σ H → J.go i H) (hst : ∀ σ H, Pv n σ H → J.stop n H)
  (hs : ∀ i σ H (R : St → Hp → Prop), i < n → Pv i σ H → (∀ σ' H', Pv (i + 1) σ' H' → R σ' H') → ∀ x H', J.yld i H x H' → g x σ H' fun σ2 H2 => tt σ2 H2 fun b H3 => if b = true then B σ2 H3 R else R σ2 H3)
  (hd : ∀ σ H, Pv n σ H → Q σ H) : LoopT J g tt B σ H Q := by
 refine ⟨fun i m σ H => m = n - i ∧ i ≤ n ∧ Pv i σ H, ⟨n, by simp, Nat.zero_le _, h0⟩, ?_⟩
 rintro i m σ H ⟨rfl, hi, p⟩
 by_cases hlt : i < n
 ·refine .inr ⟨hgo i σ H hlt p, fun x H' y => ?_⟩
  exact hs i σ H _ hlt p (fun σ' H' p' => ⟨n - (i + 1), by omega, rfl, hlt, p'⟩) x H' y
 ·have e : i = n := by omega
  subst e
  exact .inl ⟨hst σ H p, hd σ H p⟩
theorem loop_list (Pv : Nat → St → Hp → Prop) (h0 : Pv 0 σ H) (hl : ∀ i σ H, i ≤ xs.length → Pv i σ H → SqL K H a xs)
  (hs : ∀ i x σ H (R : St → Hp → Prop), xs[i]? = some x → Pv i σ H → (∀ σ' H', Pv (i + 1) σ' H' → R σ' H') → g x σ H fun σ2 H2 => tt σ2 H2 fun b H3 => if b = true then B σ2 H3 R else R σ2 H3)
  (hd : ∀ σ H, Pv xs.length σ H → Q σ H) : LoopT (Itl K a) g tt B σ H Q := by
 refine loop_by (n := xs.length) Pv h0 (fun i σ H hi p => ⟨xs, xs[i], hl i σ H (Nat.le_of_lt hi) p, by simp [hi]⟩) (fun σ H p => ⟨xs, hl _ σ H (Nat.le_refl _) p, Nat.le_refl _⟩) (fun i σ H R hi p hR x H' y => ?_) hd
 obtain ⟨e, y⟩ := y
 subst e
 exact hs i x σ _ R (y xs (hl i σ _ (Nat.le_of_lt hi) p)) p hR
theorem loop_range {lo : Int} {n : Nat} (Pv : Nat → St → Hp → Prop) (h0 : Pv 0 σ H)
  (hs : ∀ i σ H (R : St → Hp → Prop), i < n → Pv i σ H → (∀ σ' H', Pv (i + 1) σ' H' → R σ' H') → g (.int (lo + i)) σ H fun σ2 H2 => tt σ2 H2 fun b H3 => if b = true then B σ2 H3 R else R σ2 H3)
  (hd : ∀ σ H, Pv n σ H → Q σ H) : LoopT (Itr lo n) g tt B σ H Q := by
 refine loop_by (n := n) Pv h0 (fun i σ H hi p => hi) (fun σ H p => Nat.le_refl _) (fun i σ H R hi p hR x H' y => ?_) hd
 obtain ⟨e, y⟩ := y
 subst e y
 exact hs i σ _ R hi p hR
theorem loop_enum (Pv : Nat → St → Hp → Prop) (h0 : Pv 0 σ H) (hl : ∀ i σ H, i ≤ xs.length → Pv i σ H → SqL K H a xs)
  (hs : ∀ i x σ H p (R : St → Hp → Prop), xs[i]? = some x → Pv i σ H → H p = none → (∀ σ' H', Pv (i + 1) σ' H' → R σ' H') → g (.ref p) σ (upd H p (.tup [.int i, x])) fun σ2 H2 => tt σ2 H2 fun b H3 => if b = true then B σ2 H3 R else R σ2 H3)
  (hd : ∀ σ H, Pv xs.length σ H → Q σ H) : LoopT (Ite K a) g tt B σ H Q := by
 refine loop_by (n := xs.length) Pv h0 (fun i σ H hi p => ⟨xs, xs[i], hl i σ H (Nat.le_of_lt hi) p, by simp [hi]⟩) (fun σ H p => ⟨xs, hl _ σ H (Nat.le_refl _) p, Nat.le_refl _⟩) (fun i σ H R hi p hR x H' y => ?_) hd
 obtain ⟨q, y, e, hq, hy, e2⟩ := y
 subst e e2
 exact hs i y σ H q R (hy xs (hl i σ H (Nat.le_of_lt hi) p)) p hq hR
end
noncomputable abbrev intsD (ns : List Int) : PyData := .list (ns.map .int)
def NxOk (m : Int) (nx : List (List Int)) : Prop := (nx.length : Int) = m ∧ ∀ ns ∈ nx, ns = [] ∨ (∃ x, ns = [x] ∧ 1 ≤ x ∧ x < m) ∨ ∃ x y, ns = [x, y] ∧ x ≠ y ∧ 1 ≤ x ∧ x < m ∧ 1 ≤ y ∧ y < m
noncomputable def spNexts (K : PySem.W.Frag) : Sp := fun vs H Q _ => ∃ (t : Addr) (k : Nat) (m : Int), vs = [.ref t, .int m] ∧ Tape H t k ∧ k + 30 ≤ 2 ^ 40 ∧ 1 ≤ m ∧ m ≤ 12 ∧
 ∀ (l : Addr) (nx : List (List Int)) (H' : Hp), H l = none → Tape H' t (k + 30) → Ext [t] H H' → NxOk m nx → Den K (yo H [t] H') (.list (nx.map intsD)) (.ref l) → Q (.ref l) H'
section
variable {K : PySem.W.Frag} {σ : St} {H : Hp} {Q : VK} {l d : Addr} {xs : List V} {i j : Int} {v y : V} {to ta tb te td ty tk tv tx : TE} {tl : TA} {wi : TI} {g : TG} {tts : List TT} {D : Ends} {tb2 : TS}
theorem r_bm {T : String} {r : V → List V → Hp → VK → Prop} (h : to σ H fun x H1 => tyV K T x H1 ∧ tl σ H1 fun xs H2 => r x xs H2 Q) : tBM K T r to tl σ H Q := h
theorem r_bm0 {T : String} {r : V → List V → Hp → VK → Prop} (h : to σ H fun x H1 => tyV K T x H1 ∧ r x [] H1 Q) : tBM0 K T r to σ H Q := h
theorem r_tyD {R : Prop} {kvs : List (Key × V)} (h : H d = some (.dK kvs)) (q : R) : tyV K "dict" (.ref d) H ∧ R := ⟨.inr (.inr (.inl ⟨rfl, .inl ⟨_, h⟩⟩)), q⟩
theorem r_comp {own : List Str} {cap : List Nat} {o : HO} {Bof : Addr → TB} (h : wi σ H fun J H1 => ∀ l, H1 l = none → LoopT J g (tAll tts) (Bof l) (compSt own cap σ) (upd H1 l o) fun _ H2 => Q (.ref l) H2) : tComp own cap o wi g tts Bof σ H Q := h
theorem r_ilist {R : It → Hp → Prop} (h : te σ H fun x H1 => ∃ a, x = .ref a ∧ (∃ xs, SqL K H1 a xs) ∧ R (Itl K a) H1) : iList K te σ H R := h
theorem r_ienum {R : It → Hp → Prop} (h : tl σ H fun vs H1 => ∃ a, vs = [.ref a] ∧ (∃ xs, SqL K H1 a xs) ∧ R (Ite K a) H1) : iEnum K tl σ H R := h
theorem r_idict {R : It → Hp → Prop} (h : te σ H fun x H1 => ∃ d kvs, x = .ref d ∧ H1 d = some (.dK kvs) ∧ ∀ o, R (Itd d o kvs) (upd H1 d (.frz o (.dK kvs)))) : iDict te σ H R := h
theorem r_itup {R : It → Hp → Prop} (h : te σ H fun x H1 => ∃ a, x = .ref a ∧ (∃ xs, SqT K H1 a xs) ∧ R (Itt K a) H1) : iTup K te σ H R := h
theorem r_rng1 {R : It → Hp → Prop} (h : tl σ H fun vs H1 => ∃ j : Int, vs = [.int j] ∧ -(2 ^ 62) ≤ j ∧ j < 2 ^ 62 ∧ R (Itr 0 j.toNat) H1) : iRng1 tl σ H R := h
theorem r_for (h : wi σ H fun J H1 => ∃ W : Nat → Nat → St → Hp → Prop, (∃ m, W 0 m σ H1) ∧ ∀ i m σ H, W i m σ H →
 (J.stop i H ∧ D.nx σ H) ∨ (J.go i H ∧ ∃ N : St → Hp → Prop, (∀ σ' H', N σ' H' → ∃ m', m' < m ∧ W (i + 1) m' σ' H') ∧ ∀ x H', J.yld i H x H' → g x σ H' fun σ2 H2 => tb2 { D with nx := N, ct := N, bk := D.nx } σ2 H2)) : tFor wi g tb2 D σ H := h
theorem r_dnewK (h : ∀ p, H p = none → Q (.ref p) (upd H p (.dK []))) : tDNewK σ H Q := h
theorem r_din (h : ty σ H fun y H1 => td σ H1 fun x H2 => ∃ a o, x = .ref a ∧ DGet H2 a y o ∧ Q (.bl o.isSome) H2) : tDIn ty td σ H Q := h
theorem r_dnotin (h : ty σ H fun y H1 => td σ H1 fun x H2 => ∃ a o, x = .ref a ∧ DGet H2 a y o ∧ Q (.bl (!o.isSome)) H2) : tDNotIn ty td σ H Q := h
theorem r_dget (h : td σ H fun x H1 => ty σ H1 fun y H2 => ∃ a v, x = .ref a ∧ DGet H2 a y (some v) ∧ Q v H2) : tDGet td ty σ H Q := h
theorem r_dget2 (h : td σ H fun x H1 => ∃ a, x = .ref a ∧ IsD H1 a ∧ ty σ H1 fun y H2 => tx σ H2 fun z H3 => ∃ o, DGet H3 a y o ∧ Q (o.getD z) H3) : tDGet2 td ty tx σ H Q := h
theorem r_dput (h : tv σ H fun v H1 => td σ H1 fun x H2 => ty σ H2 fun y H3 => ∃ a H4, x = .ref a ∧ DPut H3 a y v H4 ∧ D.nx σ H4) : sDPut td ty tv D σ H := h
theorem r_app' {R : St → Hp → Prop} (h : te σ H fun v H1 => ∃ vs, H1 l = some (.lst vs) ∧ vs.length < sizeLine ∧ R σ (upd H1 l (.lst (vs ++ [v])))) : eApp te l σ H R := h
theorem r_put' {R : St → Hp → Prop} (h : tk σ H fun x H1 => tv σ H1 fun y H2 => ∃ kvs k, x = kV k ∧ H2 l = some (.dK kvs) ∧ kvs.length < sizeLine ∧ R σ (upd H2 l (.dK (putK kvs k y)))) : ePut tk tv l σ H R := h
theorem r_all0 {R : Bool → Hp → Prop} (h : R true H) : tAll [] σ H R := h
theorem r_all1 {tt : TT} {R : Bool → Hp → Prop} (h : tt σ H fun b H1 => if b = true then R true H1 else R false H1) : tAll [tt] σ H R := h
theorem r_gtup {n : Nat} {t : TGs} {R : St → Hp → Prop} (h : SqT K H l xs) (hn : xs.length = n) (q : t xs σ H R) : gTup K n t (.ref l) σ H R := ⟨l, xs, rfl, h, hn, q⟩
theorem r_gcons {t : TG} {u : TGs} {R : St → Hp → Prop} (h : t v σ H fun σ' H' => u xs σ' H' R) : gCons t u (v :: xs) σ H R := ⟨v, xs, rfl, h⟩
theorem r_gnil {R : St → Hp → Prop} (h : R σ H) : gNil [] σ H R := ⟨rfl, h⟩
theorem r_sl {r : V → Option Int → Option Int → Hp → VK → Prop} {t1 t2 : TO} (h : te σ H fun x H1 => t1 σ H1 fun l H2 => t2 σ H2 fun u H3 => r x l u H3 Q) : tSl r te t1 t2 σ H Q := h
theorem r_nop {R : Option Int → Hp → Prop} (h : R none H) : tNoPart σ H R := h
theorem r_part {R : Option Int → Hp → Prop} (h : te σ H fun x H1 => ∃ i, x = .int i ∧ R (some i) H1) : tPart te σ H R := h
end
end L2
namespace L2
open PySem PySem.Spec PyProof.Rows
def Nx (N A : St → Hp → Prop) : Prop := ∀ σ H, A σ H → N σ H
theorem go_nx {N A : St → Hp → Prop} {σ : St} {H : Hp} (h : Nx N A) (q : A σ H) : N σ H := h σ H q
def NxV (Q' Q : VK) : Prop := ∀ v H, Q v H → Q' v H
theorem go_nv {Q' Q : VK} {v : V} {H : Hp} (h : NxV Q' Q) (q : Q v H) : Q' v H := h v H q
theorem for_rangeN {lo : Int} {n : Nat} {g : TG} {tb : TS} {D : Ends} {σ : St} {H : Hp} (Pv : Nat → St → Hp → Prop) (h0 : Pv 0 σ H)
  (hs : ∀ i σ H, i < n → Pv i σ H → ∀ (N B C : St → Hp → Prop) (R : VK), Nx N (Pv (i + 1)) → Nx C (Pv (i + 1)) → NxV R D.rt → g (.int (lo + i)) σ H fun σ2 H2 => tb ⟨N, R, B, C⟩ σ2 H2) (hd : ∀ σ H, Pv n σ H → D.nx σ H) :
  ∃ W : Nat → Nat → St → Hp → Prop, (∃ m, W 0 m σ H) ∧ ∀ i m σ H, W i m σ H →
   ((Itr lo n).stop i H ∧ D.nx σ H) ∨ ((Itr lo n).go i H ∧ ∃ N : St → Hp → Prop, (∀ σ' H', N σ' H' → ∃ m', m' < m ∧ W (i + 1) m' σ' H') ∧ ∀ x H', (Itr lo n).yld i H x H' → g x σ H' fun σ2 H2 => tb { D with nx := N, ct := N, bk := D.nx } σ2 H2) :=
 for_range Pv h0 (fun i σ H hx hp => hs i σ H hx hp _ _ _ _ (fun _ _ h => h) (fun _ _ h => h) (fun _ _ h => h)) hd
end L2
namespace L2
open PySem PySem.Spec PyProof.Rows
theorem r_seqH {t u : TS} {D : Ends} {σ : St} {H : Hp} (h : ∀ N : St → Hp → Prop, Nx N (u D) → t ⟨N, D.rt, D.bk, D.ct⟩ σ H) : tSeq t u D σ H := h _ fun _ _ h => h
theorem r_ifH {tt : TT} {A B : TS} {D : Ends} {σ : St} {H : Hp} (h : ∀ A' B' : St → Hp → Prop, Nx A' (A D) → Nx B' (B D) → tt σ H fun c H1 => if c = true then A' σ H1 else B' σ H1) : tIfS tt A B D σ H := h _ _ (fun _ _ h => h) fun _ _ h => h
end L2
set_option maxHeartbeats 1000000
namespace L2
open PySem PySem.Spec PyProof.Rows
inductive Deed where
 | set (b n : Int)
 | add (b o : Int)
 | tell (b : Int)
 | call (c : Int)
 | save (b : Int)
 | back (b : Int)
noncomputable def deedD : Deed → PyData
 | .set b n => .tuple [.str "set", .int b, .int n]
 | .add b o => .tuple [.str "add", .int b, .int o]
 | .tell b => .tuple [.str "tell", .int b]
 | .call c => .tuple [.str "call", .int c]
 | .save b => .tuple [.str "save", .int b]
 | .back b => .tuple [.str "back", .int b]
noncomputable def DeedOk (works : Int) : Deed → Prop
 | .set b n => 0 ≤ b ∧ b < 8 ∧ -(10 ^ 12) ≤ n ∧ n ≤ 10 ^ 12
 | .add b o => 0 ≤ b ∧ b < 8 ∧ 0 ≤ o ∧ o < 8
 | .tell b => 0 ≤ b ∧ b < 8
 | .call c => 0 ≤ c ∧ c < works
 | .save b => 0 ≤ b ∧ b < 8
 | .back b => 0 ≤ b ∧ b < 8
noncomputable def endD : List Int → PyData
 | [] => .tuple [.str "out"]
 | [x] => .tuple [.str "go", .int x]
 | x :: y :: _ => .tuple [.str "fork", .int x, .int y]
structure Blk where
 ds : List Deed
 ns : List Int
noncomputable def blkD (b : Blk) : PyData := .tuple [.list (b.ds.map deedD), endD b.ns]
noncomputable def workD (w : List Blk) : PyData := .list (w.map blkD)
def NsOk (m : Int) (ns : List Int) : Prop := ns = [] ∨ (∃ x, ns = [x] ∧ 1 ≤ x ∧ x < m) ∨ ∃ x y, ns = [x, y] ∧ x ≠ y ∧ 1 ≤ x ∧ x < m ∧ 1 ≤ y ∧ y < m
structure BlkOk (m works : Int) (b : Blk) : Prop where
 ns : NsOk m b.ns
 ds : ∀ d ∈ b.ds, DeedOk works d
 few : b.ds.length ≤ 20
structure WorkOk (m works : Int) (w : List Blk) : Prop where
 len : (w.length : Int) = m
 blk : ∀ b ∈ w, BlkOk m works b
structure BsOk (bs : List Int) : Prop where
 one : 1 ≤ bs.length
 few : bs.length ≤ 8
 all : ∀ b ∈ bs, 0 ≤ b ∧ b < 8
theorem r_int {k c : Nat} {lo hi : Int} {t : Addr} {H : Hp} {Q : VK} {E : XK} (hT : Tape H t k) (hk : k + c ≤ 2 ^ 40) (q : ∀ r H', lo ≤ r → r ≤ hi → Tape H' t (k + c) → Ext [t] H H' → Q (.int r) H') : spInt c lo hi ([.ref t] ++ []) H Q E := ⟨t, k, rfl, hT, hk, q⟩
theorem atI_ints {ns : List Int} {r : Int} (h0 : 0 ≤ r) (h1 : r < ns.length) : ∃ n, n ∈ ns ∧ atI (ns.map V.int) r = some (.int n) := by
 obtain ⟨j, rfl⟩ := Int.eq_ofNat_of_zero_le h0
 have hj : j < ns.length := by exact_mod_cast h1
 refine ⟨ns[j], List.getElem_mem hj, ?_⟩
 have := atI_nat (xs := ns.map V.int) (j := j) (by rw [List.getElem?_map, List.getElem?_eq_getElem hj]; rfl)
 exact this
end L2
set_option maxHeartbeats 1000000
namespace L2
open PySem PySem.Spec PyProof.Rows
section
variable {X : Cx}
noncomputable def rRange : List V → Hp → VK → Prop := fun xs H Q => ∃ j : Int, xs = [.int j] ∧ ∀ l, H l = none → Q (.ref l) (upd H l (.rng 0 j))
theorem call_range1 : CallR X (.type "range") rRange := by
 intro pins s σ H xs us Q I r h
 obtain ⟨j, rfl, q⟩ := h
 obtain ⟨u, rfl, t, rfl⟩ := vals1 r
 refine call_range_1 ⟨.ref s.heap.objs.size, _, ?_, rfl, q _ (I.hok.fresh (Nat.le_refl _))⟩
 exact I.laid (fun b o e => Heap.get?_push_of_some _ e) (Nat.le_refl _) ⟨_, _, _, Heap.get?_push_size _ rfl⟩
noncomputable def rListRng : List V → Hp → VK → Prop := fun xs H Q => ∃ (p : Addr) (j : Nat), xs = [.ref p] ∧ H p = some (.rng 0 j) ∧ j ≤ 1000 ∧ ∀ l, H l = none → Q (.ref l) (upd H l (.lst ((List.range j).map fun (i : Nat) => V.int (i : Int))))
theorem call_list_rng (hh : X.A.handled = none) : CallR X (.type "list") rListRng := by
 intro pins s σ H xs us Q I r h
 obtain ⟨p, j, rfl, hp, hj, q⟩ := h
 obtain ⟨u, rfl, rx⟩ := vals1 r
 cases rx
 obtain ⟨t, u, v, e⟩ : ∃ t u v, s.heap.get? p = some { cls := .type "range", data := .fields #[.int 0 t, .int (j : Int) u, .int 1 v] } := I.hok p _ hp
 refine call_list_range hh e (small_one (by decide) (by decide) (by omega) (by omega)) (n := j) (by rw [rangeSize_one]; split <;> omega) (by omega) fun h' tk acc c kp hS hI => ?_
 refine ⟨.ref s.heap.objs.size, _, I.laid (o := .lst ((List.range j).map fun (i : Nat) => V.int (i : Int))) kp (Nat.le_refl _) (show _ ∧ _ from ⟨?_, acc.toList, c, ?_, ?_⟩), rfl, q _ (I.hok.fresh (Nat.le_refl _))⟩
 ·rw [List.length_map, List.length_range]; exact len2 hj
 ·have hl : acc.toList.length = j := by rw [Array.length_toList]; exact hI.1
  have hv : ∀ (i : Nat) v, acc.toList[i]? = some v → ∃ t, v = Value.int (i : Int) t := fun i v hv => by
   obtain ⟨t, h⟩ := hI.2 i v (by rw [← hv, Array.getElem?_toList])
   exact ⟨t, by rw [h]; congr 1; omega⟩
  generalize acc.toList = us at hl hv
  subst hl
  have key : ∀ (us : List Value) (k : Nat), (∀ (i : Nat) v, us[i]? = some v → ∃ t, v = Value.int ((k + i : Nat) : Int) t) → Vals ((List.range' k us.length).map fun (i : Nat) => V.int (i : Int)) us := by
   intro us
   induction us with
   | nil => intro k _; exact .nil
   | cons u us ih =>
    intro k h
    obtain ⟨t, rfl⟩ := h 0 u rfl
    refine .cons ⟨t, rfl⟩ (ih (k + 1) fun i v e => ?_)
    obtain ⟨t, e⟩ := h (i + 1) v e
    exact ⟨t, by rw [e]; congr 1; omega⟩
  have := key us 0 (fun i v e => by obtain ⟨t, h⟩ := hv i v e; exact ⟨t, by rw [h]; congr 1; omega⟩)
  rwa [← List.range_eq_range'] at this
 ·rw [Array.toArray_toList]; exact hS
variable {K : PySem.W.Frag}
theorem ix_listK (K : PySem.W.Frag) (hK : X.K = K) : IxR X (rIxL K) := hK ▸ ix_list
theorem len_seqK (K : PySem.W.Frag) (hK : X.K = K) : CallR X (.builtin "len") (fun xs H Q => ∃ p ys, xs = [.ref p] ∧ (SqL K H p ys ∨ SqT K H p ys) ∧ Q (.int ys.length) H) := hK ▸ call_len_seq
theorem pg_tupK (K : PySem.W.Frag) (hK : X.K = K) {es : List Expr} {pos : Pos} {k : Nat} {t : TGs} {n : Nat} (hc : X.calm = true) (h : PGs X es t)
  (hn : (assignEach es X.env).length = n := by rfl) (hst : (assignEach es X.env).findIdx? (·.1) = none := by rfl) : PG X (.Tuple es k pos) (gTup K n t) := hK ▸ pg_tup hc h hn hst
theorem pe_bmK (K : PySem.W.Frag) (hK : X.K = K) {T : String} {name : Str} {id : String} {r : V → List V → Hp → VK → Prop} {o e : Expr} {es : List Expr} {to : TE} {t : TA} {apos cpos : Pos} (pa : PlainAttrs T) (slot : Slot T name id) (hty : typeOf (.builtin id) = pure (.type "method_descriptor")) (hm : MtR X id r) (ho : PE X o to) (ha : PA X (e :: es) t)
  (hbase : attributeBase o name X.env (eval o X.env) = eval o X.env := by rfl)
  (hfew : ((backTo cpos (starEach (e :: es) X.env)).all (fun x => !x.1) && (backToKw cpos (keywordEach [] X.env)).all (fun x => x.1.isSome)
   && decide ((e :: es).length + ([] : List Keyword).length + (if ([] : List Keyword).isEmpty then 0 else 1) < 30)) = true := by rfl)
  (hline : (apos.endLine == cpos.line) = true := by rfl) (hs : starEach (e :: es) X.env = (false, eval e X.env) :: starEach es X.env := by rfl) (hplain : (backTo cpos (starEach es X.env)).any (·.1) = false := by rfl) :
  PE X (.Call (.Attribute o name apos) (e :: es) [] cpos) (tBM K T r to t) := hK ▸ pe_bm pa slot hty hm ho ha hbase hfew hline hs hplain
theorem seq_ix {j n : Nat} (h : j < n) : seqIndex? (j : Int) n = some j := by
 show (if (decide (0 ≤ if (j : Int) < 0 then (j : Int) + n else j) && decide ((if (j : Int) < 0 then (j : Int) + n else j) < n)) = true then some (if (j : Int) < 0 then (j : Int) + n else (j : Int)).toNat else none) = some j
 have e : (if (j : Int) < 0 then (j : Int) + n else (j : Int)) = j := if_neg (by omega)
 rw [e, decide_eq_true (show (0 : Int) ≤ j by omega), decide_eq_true (show (j : Int) < n by omega)]
 rfl
theorem map_erase {α β : Type} {f : α → β} : ∀ (l : List α) (n : Nat), (l.eraseIdx n).map f = (l.map f).eraseIdx n
 | [], _ => rfl
 | _ :: _, 0 => rfl
 | a :: l, n + 1 => congrArg (f a :: ·) (map_erase l n)
end
end L2
namespace L2
open PySem PySem.Spec PyProof.Rows
theorem Ext.toSame {H H' : Hp} (e : Ext [] H H') : Same H H' := fun b o h => e b o (by simp) h
end L2
set_option maxHeartbeats 1000000
namespace L2
open PySem PySem.Spec PyProof.Rows
theorem notInK {X : Cx} (K : PySem.W.Frag) (hK : X.K = K) : OpR X (compareOp .NotIn) (rIn K true) := hK ▸ op_notIn_seq
theorem map_get {α β : Type} {f : α → β} {l : List α} {i : Nat} {y : β} (h : (l.map f)[i]? = some y) : ∃ x, l[i]? = some x ∧ y = f x := by
 rw [List.getElem?_map] at h
 cases z : l[i]? with
 | none => rw [z] at h; cases h
 | some x => rw [z] at h; exact ⟨x, rfl, (Option.some.inj h).symm⟩
end L2
set_option maxHeartbeats 1000000
namespace L2
open PySem PySem.Spec PyProof.Rows
section
variable (nx : Int → List Int) (a : Int)
noncomputable def lay : Nat → List Int × List Int
 | 0 => ([], [a])
 | j + 1 => let f := (lay j).2.flatMap fun b => (nx b).filter fun x => !decide (x ∈ (lay j).1); ((lay j).1 ++ f, f)
variable {nx a}
end
end L2
set_option maxHeartbeats 1000000
namespace L2
open PySem PySem.Spec PyProof.Rows
end L2
set_option maxHeartbeats 1000000
namespace L2
open PySem PySem.Spec PyProof.Rows
theorem pt_truthK {X : Cx} {a : Expr} {ta : TE} (K : PySem.W.Frag) (hK : X.K = K) (ha : PE X a ta) (he : ∀ whole, isTrue a X.env whole = (do let v ← whole; standAt a.pos; holding [v] (truthy v))) :
  PT X a (fun σ H Q => ta σ H fun x H' => ∃ k, TruV K x H' k ∧ Q k H') := hK ▸ pt_truth ha he
end L2
set_option maxHeartbeats 1000000
namespace L2
open PySem PySem.Spec PyProof.Rows
end L2
set_option maxHeartbeats 1000000
namespace L2
open PySem PySem.Spec PyProof.Rows
end L2
set_option maxHeartbeats 1000000
namespace L2
open PySem PySem.Spec PyProof.Rows
end L2
set_option maxHeartbeats 1000000
namespace L2
open PySem PySem.Spec PyProof.Rows
end L2
set_option maxHeartbeats 1000000
namespace L2
open PySem PySem.Spec PyProof.Rows
end L2
set_option maxHeartbeats 1000000
namespace L2
open PySem PySem.Spec PyProof.Rows
end L2
set_option maxHeartbeats 3000000
namespace L2
open PySem PySem.Spec PyProof.Rows
end L2
set_option maxHeartbeats 3000000
namespace L2
open PySem PySem.Spec PyProof.Rows
end L2
set_option maxHeartbeats 1000000
namespace L2
open PySem PySem.Spec PyProof.Rows
section
variable {X : Cx}
noncomputable def rInsert : V → List V → Hp → VK → Prop := fun x vs H Q => ∃ l xs i y, x = .ref l ∧ vs = [.int i, y] ∧ H l = some (.lst xs) ∧ 0 ≤ i ∧ i ≤ xs.length ∧ xs.length < 1000 ∧ Q .non (upd H l (.lst (xs.take i.toNat ++ y :: xs.drop i.toNat)))
theorem mt_insert : MtM X "list.insert" rInsert := by
 intro pins s σ H x vs v us Q I rx rv h
 obtain ⟨l, xs, i, y, rfl, rfl, hH, h0, h1, hz, q⟩ := h
 cases rx
 obtain ⟨u1, u2, rfl, r1, r2⟩ := rv.two
 obtain ⟨tk, rfl⟩ := r1
 obtain ⟨z, its, n, r, hl, e⟩ := I.lstM hH
 have hfit : ¬(!Builtin.List.listFitsIndex i) = true := by
  have := fitsIndex_both (k := i) (by omega) (by omega)
  simpa using this
 refine call_meets F.slot_list_insert ⟨_, e, rfl⟩ F.entry_list_insert (F.args_list_insert_3 _ _ _) (AutoSeq1.list_insert_list_int_val_1 l its.toArray n i tk u2 hfit (by rw [List.size_toArray, sizeLine_eq]; omega)) ⟨e, ?_⟩
 refine ⟨.non, _, I.lset (its' := its.take i.toNat ++ u2 :: its.drop i.toNat) hH e ?_ (Vals.append (r.take _) (.cons r2 (r.drop _))) ?_, rfl, q⟩
 ·dsimp only
  rw [if_neg (by omega), List.size_toArray, Nat.min_eq_left (by omega)]
  apply Array.ext'
  simp [List.extract_eq_take_drop]
  exact List.take_of_length_le (by simp)
 ·rw [sizeLine_eq]; simp; omega
end
def WorksAt (K : PySem.W.Frag) (G H : Hp) (as : List Addr) (ws : List (List Blk)) : Prop := Paired (fun a w => ∃ bs, H a = some (.lst bs) ∧ DenL K G (w.map blkD) bs) as ws
theorem WorksAt.len {K : PySem.W.Frag} {G H : Hp} {as : List Addr} {ws : List (List Blk)} (h : WorksAt K G H as ws) : as.length = ws.length := Paired.length h
theorem WorksAt.mono {K : PySem.W.Frag} {G G' H H' : Hp} (g : Same G G') : ∀ {as : List Addr} {ws : List (List Blk)}, WorksAt K G H as ws → (∀ a ∈ as, ∀ o, H a = some o → H' a = some o) → WorksAt K G' H' as ws
 | _, _, .nil, _ => .nil
 | _, _, .cons ⟨bs, e, d⟩ r, k => .cons ⟨bs, k _ (by simp) _ e, d.mono g⟩ (WorksAt.mono g r fun a ha o e => k a (by simp [ha]) o e)
theorem WorksAt.get {K : PySem.W.Frag} {G H : Hp} : ∀ {as : List Addr} {ws : List (List Blk)} {i : Nat} {a : Addr}, WorksAt K G H as ws → as[i]? = some a → ∃ w bs, ws[i]? = some w ∧ H a = some (.lst bs) ∧ DenL K G (w.map blkD) bs
 | _, _, _, _, .nil, e => by simp at e
 | _, _, 0, _, .cons ⟨bs, e, d⟩ _, h => by simp at h; subst h; exact ⟨_, bs, rfl, e, d⟩
 | _, _, i + 1, a, .cons _ r, h => by
  obtain ⟨w, bs, h1, h2⟩ := WorksAt.get (i := i) (a := a) r (by simpa using h)
  exact ⟨w, bs, by simpa using h1, h2⟩
theorem WorksAt.snoc {K : PySem.W.Frag} {G H : Hp} {a : Addr} {w : List Blk} {bs : List V} : ∀ {as : List Addr} {ws : List (List Blk)}, WorksAt K G H as ws → H a = some (.lst bs) → DenL K G (w.map blkD) bs → WorksAt K G H (as ++ [a]) (ws ++ [w])
 | _, _, .nil, e, d => .cons ⟨bs, e, d⟩ .nil
 | _, _, .cons h r, e, d => .cons h (WorksAt.snoc r e d)
structure AllOk (works : Int) (ws : List (List Blk)) : Prop where
 all : ∀ w ∈ ws, ∃ m : Int, 1 ≤ m ∧ m ≤ 12 ∧ WorkOk m works w
 one : 1 ≤ ws.length
 few : ws.length ≤ 10
end L2
set_option maxHeartbeats 1000000
namespace L2
open PySem PySem.Spec PyProof.Rows
noncomputable def wr : Deed → Option Int
 | .set b _ => some b
 | .add b _ => some b
 | _ => none
noncomputable def written (w : List Blk) : List Int := w.flatMap fun b => b.ds.filterMap wr
noncomputable def boxes (w : List Blk) : List Int := ((List.range 8).map fun (n : Nat) => (n : Int)).filter fun b => decide (b ∈ written w)
end L2
set_option maxHeartbeats 1000000
namespace L2
open PySem PySem.Spec PyProof.Rows
mutual
noncomputable def tame : PyData → Bool
 | .int i => decide (i.natAbs < 10 ^ 13)
 | .str x => x.cps.all (· < 0x110000) && decide (x.cps.size ≤ 10)
 | .list xs => tameAll xs
 | .tuple xs => tameAll xs
 | .none => false
 | .bool _ => false
 | .dict _ => false
noncomputable def tameAll : List PyData → Bool
 | [] => true
 | x :: xs => tame x && tameAll xs
end
mutual
noncomputable def cells : PyData → Nat
 | .list xs => cellsAll xs
 | .tuple xs => cellsAll xs
 | .int _ => 0
 | .str _ => 0
 | .none => 0
 | .bool _ => 0
 | .dict _ => 0
noncomputable def cellsAll : List PyData → Nat
 | [] => 0
 | x :: xs => cells x + 1 + cellsAll xs
end
theorem log_lt {n : Nat} (h : n < 10 ^ 13) : n.log2 < 44 := by
 by_cases hn : n = 0
 ·subst hn; decide
 ·exact (Nat.log2_lt hn).mpr (Nat.lt_of_lt_of_le h (by decide))
mutual
theorem tame_show : ∀ d : PyData, tame d = true → PyData.showable d = true
 | .int i, h => by
  have h1 : i.natAbs < 10 ^ 13 := by simpa only [tame, decide_eq_true_eq] using h
  have := log_lt h1
  simp only [PyData.showable, decide_eq_true_eq]; omega
 | .str x, _ => rfl
 | .list xs, h => tameAll_show xs (by simpa only [tame] using h)
 | .tuple xs, h => tameAll_show xs (by simpa only [tame] using h)
theorem tameAll_show : ∀ ds : List PyData, tameAll ds = true → PyData.showableAll ds = true
 | [], _ => rfl
 | x :: xs, h => by
  have h1 : (tame x && tameAll xs) = true := by simpa only [tameAll] using h
  rw [Bool.and_eq_true] at h1
  simp only [PyData.showableAll, tame_show x h1.1, tameAll_show xs h1.2, Bool.and_self]
end
mutual
theorem tame_weight : ∀ d : PyData, tame d = true → PyData.weight d ≤ 46 * cells d + 45
 | .int i, h => by
  have h1 : i.natAbs < 10 ^ 13 := by simpa only [tame, decide_eq_true_eq] using h
  have := log_lt h1
  simp only [PyData.weight, cells]
  split <;> omega
 | .str x, h => by
  have h1 : (x.cps.all (· < 0x110000) && decide (x.cps.size ≤ 10)) = true := by simpa only [tame] using h
  rw [Bool.and_eq_true, decide_eq_true_eq] at h1
  simp only [PyData.weight, cells]; omega
 | .list xs, h => by
  have := tameAll_weight xs (by simpa only [tame] using h)
  simp only [PyData.weight, cells]; omega
 | .tuple xs, h => by
  have := tameAll_weight xs (by simpa only [tame] using h)
  simp only [PyData.weight, cells]; omega
theorem tameAll_weight : ∀ ds : List PyData, tameAll ds = true → PyData.weightAll ds ≤ 46 * cellsAll ds
 | [], _ => Nat.le_refl _
 | x :: xs, h => by
  have h1 : (tame x && tameAll xs) = true := by simpa only [tameAll] using h
  rw [Bool.and_eq_true] at h1
  have h2 := tame_weight x h1.1
  have h3 := tameAll_weight xs h1.2
  simp only [PyData.weightAll, cellsAll]; omega
end
end L2
set_option maxHeartbeats 1000000
namespace L2
open PySem PySem.Spec PyProof.Rows
end L2
set_option maxHeartbeats 1000000
namespace L2
open PySem PySem.Spec PyProof.Rows
end L2
set_option maxHeartbeats 1000000
namespace L2
open PySem PySem.Spec PyProof.Rows
end L2
set_option maxHeartbeats 1000000
namespace L2
open PySem PySem.Spec PyProof.Rows
noncomputable abbrev worksD (ws : List (List Blk)) : PyData := .list (ws.map workD)
structure WsOk (ws : List (List Blk)) : Prop where
 all : ∀ w ∈ ws, ∃ m : Int, 1 ≤ m ∧ m ≤ 12 ∧ WorkOk m (ws.length : Int) w
 one : 1 ≤ ws.length
 few : ws.length ≤ 25
end L2
set_option maxHeartbeats 1000000
namespace L2
open PySem PySem.Spec PyProof.Rows
end L2
set_option maxHeartbeats 4000000
namespace L2
open PySem PySem.Spec PyProof.Rows
end L2
set_option maxHeartbeats 1000000
namespace L2
open PySem PySem.Spec PyProof.Rows
end L2
set_option maxHeartbeats 1000000
namespace L2
open PySem PySem.Spec PyProof.Rows
end L2
set_option maxHeartbeats 1000000
namespace L2
open PySem PySem.Spec PyProof.Rows
end L2
set_option maxHeartbeats 1000000
namespace L2
open PySem PySem.Spec PyProof.Rows
end L2
set_option maxHeartbeats 1000000
namespace L2
open PySem PySem.Spec PyProof.Rows
end L2
set_option maxHeartbeats 1000000
namespace L2
open PySem PySem.Spec PyProof.Rows
end L2
set_option maxHeartbeats 1000000
namespace L2
open PySem PySem.Spec PyProof.Rows
end L2
set_option maxHeartbeats 1000000
namespace L2
open PySem PySem.Spec PyProof.Rows
end L2
set_option maxHeartbeats 1000000
namespace L2
open PySem PySem.Spec PyProof.Rows
end L2
set_option maxHeartbeats 1000000
namespace L2
open PySem PySem.Spec PyProof.Rows
end L2
set_option maxHeartbeats 1000000
namespace L2
open PySem PySem.Spec PyProof.Rows
end L2
set_option maxHeartbeats 1000000
namespace L2
open PySem PySem.Spec PyProof.Rows
mutual
noncomputable def noI : PyData → Bool
 | .list ds => noIs ds && (match ds with | .int _ :: _ => false | _ => true)
 | .tuple ds => noIs ds
 | _ => true
noncomputable def noIs : List PyData → Bool
 | [] => true
 | d :: ds => noI d && noIs ds
end
section
variable {K : PySem.W.Frag} {H : Hp} {t : Addr} {x : Int} {r : List V}
theorem rd_off {a : Addr} {o : HO} (h : a ≠ t) (e : Rd H a o) : Rd (wo [t] H) a o := by
 have hn : a ∉ [t] := by simpa using h
 rcases e with e | ⟨u, e⟩
 ·exact .inl (by rw [wo_out hn]; exact e)
 ·exact .inr ⟨u, by rw [wo_out hn]; exact e⟩
mutual
theorem Den.off (ht : H t = some (.lst (.int x :: r))) : ∀ {d : PyData} {v : V}, noI d = true → Den K H d v → Den K (wo [t] H) d v
 | .none, _, _, e => by simp only [Den] at e ⊢; exact e
 | .bool _, _, _, e => by simp only [Den] at e ⊢; exact e
 | .int _, _, _, e => by simp only [Den] at e ⊢; exact e
 | .str _, _, _, e => by simp only [Den] at e ⊢; exact e
 | .list ds, _, hn, e => by
  simp only [Den] at e ⊢
  obtain ⟨a, vs, e1, e2, e3⟩ := e
  simp only [noI, Bool.and_eq_true] at hn
  refine ⟨a, vs, e1, ?_, DenL.off ht hn.1 e3⟩
  rcases e2 with e2 | e2
  ·refine .inl (rd_off (fun h => ?_) e2)
   subst h
   rcases e2 with e2 | ⟨o, e2⟩
   ·rw [ht] at e2
    cases e2
    cases ds with
    | nil => have := e3.ofNil; cases this
    | cons d ds =>
     obtain ⟨v, r', e4, e5, _⟩ := e3.ofCons
     cases e4
     cases d with
     | int i => simp at hn
     | none => simp only [Den] at e5; cases e5
     | bool => simp only [Den] at e5; cases e5
     | str => simp only [Den] at e5; cases e5
     | list => simp only [Den] at e5; obtain ⟨_, _, z, _⟩ := e5; cases z
     | tuple => simp only [Den] at e5; obtain ⟨_, _, z, _⟩ := e5; cases z
     | dict => simp only [Den] at e5
   ·rw [ht] at e2; cases e2
  ·exact .inr e2
 | .tuple ds, _, hn, e => by
  simp only [Den] at e ⊢
  obtain ⟨a, vs, e1, e2, e3⟩ := e
  simp only [noI] at hn
  refine ⟨a, vs, e1, ?_, DenL.off ht hn e3⟩
  rcases e2 with e2 | e2
  ·refine .inl (rd_off (fun h => ?_) e2)
   subst h
   rcases e2 with e2 | ⟨o, e2⟩
   ·rw [ht] at e2; cases e2
   ·rw [ht] at e2; cases e2
  ·exact .inr e2
 | .dict _, _, _, e => by simp only [Den] at e
theorem DenL.off (ht : H t = some (.lst (.int x :: r))) : ∀ {ds : List PyData} {vs : List V}, noIs ds = true → DenL K H ds vs → DenL K (wo [t] H) ds vs
 | [], _, _, e => by simp only [DenL] at e ⊢; exact e
 | d :: ds, _, hn, e => by
  simp only [DenL] at e ⊢
  simp only [noIs, Bool.and_eq_true] at hn
  obtain ⟨v, r, e1, e2, e3⟩ := e
  exact ⟨v, r, e1, Den.off ht hn.1 e2, DenL.off ht hn.2 e3⟩
end
end
theorem noIs_map {α : Type} {f : α → PyData} : ∀ {l : List α}, (∀ a ∈ l, noI (f a) = true) → noIs (l.map f) = true
 | [], _ => rfl
 | a :: l, h => by
  simp only [List.map_cons, noIs, Bool.and_eq_true]
  exact ⟨h a (List.mem_cons_self ..), noIs_map fun b hb => h b (List.mem_cons_of_mem _ hb)⟩
theorem noI_deed (d : Deed) : noI (deedD d) = true := by cases d <;> rfl
theorem noI_end (ns : List Int) : noI (endD ns) = true := by
 match ns with
 | [] => rfl
 | [x] => rfl
 | x :: y :: _ => rfl
theorem noI_blk (b : Blk) : noI (blkD b) = true := by
 simp only [blkD, noI, noIs, noI_end, Bool.and_true, Bool.and_eq_true]
 refine ⟨noIs_map fun d _ => noI_deed d, ?_⟩
 cases b.ds with
 | nil => rfl
 | cons d ds => cases d <;> rfl
theorem noI_work (w : List Blk) : noI (workD w) = true := by
 simp only [workD, noI, Bool.and_eq_true]
 refine ⟨noIs_map fun d _ => noI_blk d, ?_⟩
 cases w <;> rfl
theorem noI_works (ws : List (List Blk)) : noI (worksD ws) = true := by
 simp only [worksD, noI, Bool.and_eq_true]
 refine ⟨noIs_map fun d _ => noI_work d, ?_⟩
 cases ws <;> rfl
theorem Tape.works {K : PySem.W.Frag} {H : Hp} {t : Addr} {k : Nat} {ws : List (List Blk)} {v : V} (T : Tape H t k) (h : Den K H (worksD ws) v) : Den K (wo [t] H) (worksD ws) v := by
 obtain ⟨a, b, c, h1, _⟩ := T
 exact Den.off h1 (noI_works ws) h
end L2
set_option maxHeartbeats 1000000
namespace L2
open PySem PySem.Spec PyProof.Rows
structure Fr where
 n : Nat
 w0 : Int
 w1 : Int
 pos : Int
 bx : List Int
 as : List (Int × Int)
structure Ms where
 held : List Int
 told : List Int
 flt : List (Int × Int)
 sv : Int
 bk : Int
 steps : Int
 taken : Int
 log : List (Int × Int × Int)
 st : List Fr
noncomputable def getB (l : List Int) (b : Int) : Int := l.getD b.toNat 0
noncomputable def putB (l : List Int) (b v : Int) : List Int := l.set b.toNat v
noncomputable def putA (as : List (Int × Int)) (b v : Int) : List (Int × Int) := if (as.any fun p => decide (p.1 = b)) = true then as.map (fun p => if p.1 = b then (p.1, v) else p) else as ++ [(b, v)]
noncomputable def nextOf (ch : List Int) (taken len : Int) : List Int → Int × Int
 | [] => (len, taken)
 | [x] => (x, taken)
 | x :: y :: _ => (if taken + 1 > ch.length ∨ getB ch taken = 0 then x else y, taken + 1)
structure Gv where
 mean : Bool
 ws : List (List Blk)
 ch : List Int
 most : Int
noncomputable def mine (g : Gv) (m : Ms) (f : Fr) : List Int := if g.mean = true then f.bx else m.held
noncomputable def setMine (g : Gv) (m : Ms) (f : Fr) (rest : List Fr) (l : List Int) : Ms := if g.mean = true then { m with st := { f with bx := l } :: rest } else { m with held := l, st := f :: rest }
noncomputable def badB (m : Ms) (f : Fr) : List Int := ((List.range 8).map fun (b : Nat) => (b : Int)).filter fun b => !decide (getB m.held b = getB f.bx b)
noncomputable def mdeed (g : Gv) (m : Ms) (f : Fr) (rest : List Fr) : Deed → Ms × Nat
 | .save b => ({ m with sv := m.sv + 1, st := { f with as := putA f.as b (getB m.held b) } :: rest }, 0)
 | .back b => match f.as.lookup b with
  | none => ({ m with st := f :: rest }, 3)
  | some v => ({ m with held := putB m.held b v, bk := m.bk + 1, st := f :: rest }, 0)
 | .call c => if m.steps = g.most then ({ m with st := f :: rest }, 1) else if rest.length + 1 = 20 then ({ m with st := f :: rest }, 2) else
  ({ m with steps := m.steps + 1, st := ⟨c.toNat, -1, 0, -1, mine g m f, []⟩ :: f :: rest }, 0)
 | .tell b => if m.steps = g.most then ({ m with st := f :: rest }, 1) else ({ m with steps := m.steps + 1, told := m.told ++ [getB (mine g m f) b], st := f :: rest }, 0)
 | .set b v => if m.steps = g.most then ({ m with st := f :: rest }, 1) else (setMine g { m with steps := m.steps + 1 } f rest (putB (mine g m f) b v), 0)
 | .add b o => if m.steps = g.most then ({ m with st := f :: rest }, 1) else (setMine g { m with steps := m.steps + 1 } f rest (putB (mine g m f) b (getB (mine g m f) b + getB (mine g m f) o)), 0)
noncomputable def mstep (g : Gv) (m : Ms) : Option (Ms × Nat) := match m.st with
 | [] => none
 | f :: rest => match g.ws[f.n]? with
  | none => none
  | some wk => if f.w1 = (wk.length : Int) then some ({ m with log := m.log ++ [((f.n : Int), f.w0, f.w1)], flt := if g.mean = true then m.flt else m.flt ++ (badB m f).map fun b => ((f.n : Int), b), st := rest }, 0)
   else match wk[f.w1.toNat]? with
    | none => none
    | some b => if f.pos < 0 then if m.steps = g.most then some (m, 1) else some ({ m with steps := m.steps + 1, log := m.log ++ [((f.n : Int), f.w0, f.w1)], st := { f with pos := 0 } :: rest }, 0)
     else match b.ds[f.pos.toNat]? with
      | none => some ({ m with taken := (nextOf g.ch m.taken wk.length b.ns).2, st := { f with w0 := f.w1, w1 := (nextOf g.ch m.taken wk.length b.ns).1, pos := -1 } :: rest }, 0)
      | some d => some (mdeed g m { f with pos := f.pos + 1 } rest d)
inductive Go (g : Gv) : Ms → Ms → Prop
 | refl {m : Ms} : Go g m m
 | step {m m1 m2 : Ms} : mstep g m = some (m1, 0) → Go g m1 m2 → Go g m m2
theorem Go.trans {g : Gv} {a b c : Ms} (h : Go g a b) (k : Go g b c) : Go g a c := by
 induction h with
 | refl => exact k
 | step e _ ih => exact .step e (ih k)
theorem Go.one {g : Gv} {a b : Ms} (h : mstep g a = some (b, 0)) : Go g a b := .step h .refl
inductive Fi (g : Gv) : Ms → Nat → Ms → Prop
 | done {m : Ms} : m.st = [] → Fi g m 0 m
 | stop {m m' : Ms} {c : Nat} : mstep g m = some (m', c) → c ≠ 0 → Fi g m c m'
 | step {m m1 m' : Ms} {c : Nat} : mstep g m = some (m1, 0) → Fi g m1 c m' → Fi g m c m'
theorem Fi.of {g : Gv} {a b c : Ms} {n : Nat} (h : Go g a b) (k : Fi g b n c) : Fi g a n c := by
 induction h with
 | refl => exact k
 | step e _ ih => exact .step e (ih k)
theorem mstep_nil {g : Gv} {m : Ms} (h : m.st = []) : mstep g m = none := by unfold mstep; rw [h]
theorem Fi.det {g : Gv} {a b c : Ms} {n k : Nat} (h : Fi g a n b) (h' : Fi g a k c) : n = k ∧ b = c := by
 induction h with
 | done e =>
  cases h' with
  | done => exact ⟨rfl, rfl⟩
  | stop e2 => rw [mstep_nil e] at e2; cases e2
  | step e2 => rw [mstep_nil e] at e2; cases e2
 | stop e hc =>
  cases h' with
  | done e2 => rw [mstep_nil e2] at e; cases e
  | stop e2 => rw [e] at e2; cases e2; exact ⟨rfl, rfl⟩
  | step e2 => rw [e] at e2; cases e2; exact absurd rfl hc
 | step e _ ih =>
  cases h' with
  | done e2 => rw [mstep_nil e2] at e; cases e
  | stop e2 hc => rw [e] at e2; cases e2; exact absurd rfl hc
  | step e2 k => rw [e] at e2; cases e2; exact ih k
structure FrOk (g : Gv) (f : Fr) : Prop where
 bx : f.bx.length = 8
 wk : ∃ wk, g.ws[f.n]? = some wk ∧ 0 ≤ f.w1 ∧ f.w1 ≤ wk.length
 pos : -1 ≤ f.pos ∧ f.pos ≤ 20
 as : (f.as.map (·.1)).Nodup ∧ ∀ p ∈ f.as, 0 ≤ p.1 ∧ p.1 < 8
structure MsOk (g : Gv) (m : Ms) : Prop where
 held : m.held.length = 8
 steps : 0 ≤ m.steps ∧ m.steps ≤ g.most
 told : (m.told.length : Int) ≤ m.steps
 flt : (m.flt.length : Int) + 8 * m.st.length ≤ 8 * (m.steps + 1)
 log : (m.log.length : Int) + m.st.length ≤ 2 * m.steps + 1
 taken : 0 ≤ m.taken
 st : ∀ f ∈ m.st, FrOk g f
 deep : m.st.length ≤ 20
structure GvOk (g : Gv) : Prop where
 ws : WsOk g.ws
 most : 0 ≤ g.most ∧ g.most ≤ 20000
 plain : g.mean = true → ∀ w ∈ g.ws, ∀ b ∈ w, ∀ d ∈ b.ds, (∀ x, d ≠ .save x) ∧ ∀ x, d ≠ .back x
 ch : g.ch.length ≤ 1000
end L2
set_option maxHeartbeats 1000000
namespace L2
open PySem PySem.Spec PyProof.Rows
noncomputable abbrev K3 := Int × Int × Int
section
variable {P : Program} {w : World}
def IsNest (P : Program) (w : World) (h : Heap) (k : K3) (p : Addr) : Prop := ∃ o items m q t, h.get? p = some o ∧ o.cls = .type "tuple" ∧ o.data = .seq items m ∧ items.toList = [Value.int k.1 t, Value.ref q] ∧ IsTupleKey (mixKind P w) h [Sum.inl k.2.1, Sum.inl k.2.2] q
noncomputable def nestHash (P : Program) (w : World) (k : K3) : Int := reduceHash (Builtin.Tuple.tupleHashOf [hashInt k.1, tupleKeyHash (mixKind P w) [Sum.inl k.2.1, Sum.inl k.2.2]])
theorem IsNest.typeIs {s : Shared} {k : K3} {p : Addr} (x : IsNest P w s.heap k p) : s.TypeIs (.ref p) "tuple" := let ⟨o, _, _, _, _, ho, hc, _⟩ := x; ⟨o, ho, hc⟩
theorem IsNest.inj {h : Heap} {p : Addr} {x y : K3} (hx : IsNest P w h x p) (hy : IsNest P w h y p) : x = y := by
 obtain ⟨o, items, m, q, t, ho, _, hd, hi, hq⟩ := hx
 obtain ⟨o', items', m', q', t', ho', _, hd', hi', hq'⟩ := hy
 obtain rfl : o = o' := Option.some.inj (ho.symm.trans ho')
 rw [hd] at hd'
 injection hd' with h1 _
 subst h1
 rw [hi] at hi'
 injection hi' with e1 e2
 injection e1 with e1 _
 injection e2 with e2 _
 injection e2 with e2
 subst e2
 have := hq.inj hq'
 obtain ⟨x1, x2, x3⟩ := x
 obtain ⟨y1, y2, y3⟩ := y
 simp at this e1
 simp [this, e1]
theorem IsNest.keeps {h h' : Heap} {k : K3} {p d : Addr} {o : Obj} {es ep} (x : IsNest P w h k p) (ho : h.get? d = some o) (hd : o.data = .dict es ep) (hs : Heap.SameBut d h h') : IsNest P w h' k p := by
 obtain ⟨o', items, m, q, t, ho', hc, hd', hi, hq⟩ := x
 have hne : p ≠ d := by
  rintro rfl
  obtain rfl : o' = o := Option.some.inj (ho'.symm.trans ho)
  rw [hd] at hd'; exact nomatch hd'
 exact ⟨o', items, m, q, t, (hs.2 p hne).trans ho', hc, hd', hi, hq.keeps ho hd hs⟩
variable {A : Around} {E : Value → Shared → Prop} {s : Shared}
theorem pyHash_nest {k : K3} {p : Addr} {Q : Int → Shared → Prop} (hu : A.units + 5 < cLine) (hk : IsNest P w s.heap k p) (h : Q (nestHash P w k) { s with toks := s.toks + 5 }) : wpAny (model P w) A (pyHash (.ref p)) Q E s := by
 have hT := hk.typeIs
 obtain ⟨o, items, m, q, t, ho, _, hd, hi, hq⟩ := hk
 unfold pyHash
 first | unfold pyHashByItsType | skip
 first | refine wpAny_bind (wpAny_cRoomFor_or (.inr (by omega)) ?_) | skip
 refine wpAny_bind (wpAny_specialOf hT F.slot_tuple_hash.lookup ?_)
 show wpAny _ _ (if (some (Value.builtin "tuple.__hash__") == some Value.none) = true then _ else _) Q E s
 rw [if_neg (by rw [beq_builtin_none]; exact Bool.false_ne_true)]
 refine wpAny_bind (wpAny_specialOf hT F.slot_tuple_hash.lookup ?_)
 show wpAny _ _ (callSpecialIfBoundUnlessNone? (.ref p) "__hash__" _ >>= _) Q E s
 refine wpAny_bind (wpAny_callSpecialIfBoundUnlessNone?_slot hT F.slot_tuple_hash (wpAny_call_entry F.slot_tuple_hash hT F.entry_tuple_hash ?_ (F.args_tuple_hash_1 _)))
 show wpAny _ _ (Builtin.Tuple.tupleItemsOf (.ref p) >>= _) _ _ s
 refine wpAny_bind (wpAny_tupleItemsOf ho hd ?_)
 refine wpAny_bind ?_
 rw [← Array.forIn_toList, hi]
 refine wpAny_forIn_list _ (fun rest (b : Array Int) s' => (rest = [Value.int k.1 t, Value.ref q] ∧ b.toList = [] ∧ s' = s) ∨ (rest = [Value.ref q] ∧ b.toList = [hashInt k.1] ∧ s' = { s with toks := s.toks + 1 }) ∨ (rest = [] ∧ b.toList = [hashInt k.1, tupleKeyHash (mixKind P w) [Sum.inl k.2.1, Sum.inl k.2.2]] ∧ s' = { s with toks := s.toks + 4 })) _ ?_ ?_ _ _ (.inl ⟨rfl, rfl, rfl⟩)
 ·rintro x rest b s' (⟨e1, e2, rfl⟩ | ⟨e1, e2, rfl⟩ | ⟨e1, e2, rfl⟩)
  ·cases e1
   refine wpAny_bind ((mixKind P w).pyHash (k := Sum.inl k.1) (mixKind_int P w _ _) ?_)
   first
    | exact wpAny_pure (.inr (.inl ⟨rfl, by simp [e2]; rfl, rfl⟩))
    | exact wpAny_bind (wpAny_pure (wpAny_pure (.inr (.inl ⟨rfl, by simp [e2]; rfl, rfl⟩))))
  ·cases e1
   refine wpAny_bind (wpAny_pyHash_tuple (s := { s with toks := s.toks + 1 }) (by show A.units + 1 < cLine; omega) hq ?_)
   first
    | exact wpAny_pure (.inr (.inr ⟨rfl, by simp [e2], by simp [Nat.add_assoc]⟩))
    | exact wpAny_bind (wpAny_pure (wpAny_pure (.inr (.inr ⟨rfl, by simp [e2], by simp [Nat.add_assoc]⟩))))
  ·cases e1
 ·rintro b s' (⟨e1, e2, rfl⟩ | ⟨e1, e2, rfl⟩ | ⟨e1, hb, rfl⟩)
  ·cases e1
  ·cases e1
  ·show wpAny _ _ (retInt (Builtin.Tuple.tupleHashOf b.toList)) _ _ _
   rw [hb]
   generalize hT0 : Builtin.Tuple.tupleHashOf [hashInt k.1, tupleKeyHash (mixKind P w) [Sum.inl k.2.1, Sum.inl k.2.2]] = T0
   unfold nestHash at h
   rw [hT0] at h
   refine wpAny_ret_mkInt ?_
   show wpAny _ _ (if (decide (-(2 : Int) ^ 63 ≤ T0) && decide (T0 < 2 ^ 63)) = true then _ else _) Q E _
   unfold reduceHash at h
   by_cases hr : (decide (-(2 : Int) ^ 63 ≤ T0) && decide (T0 < 2 ^ 63)) = true
   ·rw [if_pos hr]
    rw [if_pos hr] at h
    exact wpAny_pure (by simpa [Nat.add_assoc] using h)
   ·rw [if_neg hr]
    rw [if_neg hr] at h
    exact wpAny_bind (wpAny_rule (wpAny_pure (by simpa [Nat.add_assoc] using h)))
theorem nest_eq_tree {x y : K3} {a b : Addr} {R : Fin → Shared → Prop} (hu : A.units + 5 < cLine) (hx : IsNest P w s.heap x a) (hy : IsNest P w s.heap y b) (h : R (.done (.ret (.bool (decide (x = y))))) s) :
  wpAny (model P w) A (Builtin.«tuple.__eq__» ⟨[.ref a, .ref b], []⟩) R E s := by
 have hTb := hy.typeIs
 obtain ⟨oa, xs, na, qa, ta, hoa, _, hda, hia, hqa⟩ := hx
 obtain ⟨ob, ys, nb, qb, tb, hob, _, hdb, hib, hqb⟩ := hy
 show wpAny _ _ (isInstance (.ref b) (.type "tuple") >>= _) _ _ s
 refine wpAny_bind (wpAny_isInstance hTb isSubtype_tuple_tuple ?_)
 simp only [Bool.not_true, Bool.false_eq_true, if_false]
 refine wpAny_bind (wpAny_tupleItemsOf hoa hda ?_)
 refine wpAny_bind (wpAny_tupleItemsOf hob hdb ?_)
 have hsz : (xs.size == ys.size) = true := by
  have h1 : xs.size = 2 := by rw [← Array.length_toList, hia]; rfl
  have h2 : ys.size = 2 := by rw [← Array.length_toList, hib]; rfl
  rw [h1, h2]; rfl
 refine wpAny_bind ?_
 refine wpAny_forIn_list _ (fun rest r s' => r.1 = none ∧ s' = s ∧ (rest = [(Value.int x.1 ta, Value.int y.1 tb), (Value.ref qa, Value.ref qb)] ∨ (rest = [(Value.ref qa, Value.ref qb)] ∧ x.1 = y.1) ∨ (rest = [] ∧ x = y))) _ ?_ ?_ _ _ ⟨rfl, rfl, .inl (by rw [hia, hib]; rfl)⟩
 ·rintro ⟨u, v⟩ rest r s' ⟨hr, rfl, z | ⟨z, hxy⟩ | ⟨z, _⟩⟩
  ·cases z
   refine wpAny_bind ((mixKind P w).eqBool (a := Sum.inl x.1) (b := Sum.inl y.1) (mixKind_int P w _ _) (mixKind_int P w _ _) ?_)
   by_cases hk : x.1 = y.1
   ·rw [decide_eq_true (show (Sum.inl x.1 : Key) = Sum.inl y.1 by rw [hk])]
    simp only [Bool.not_true, Bool.false_eq_true, if_false]
    exact wpAny_pure ⟨rfl, rfl, .inr (.inl ⟨by first | rfl | trivial, hk⟩)⟩
   ·rw [decide_eq_false (show ¬ (Sum.inl x.1 : Key) = Sum.inl y.1 from fun z => hk (Sum.inl.inj z))]
    simp only [Bool.not_false, if_true]
    have hf : decide (x = y) = false := decide_eq_false fun z => hk (by rw [z])
    rw [hf] at h
    exact wpAny_bind (wpAny_pure (wpAny_pure (wpAny_pure h)))
  ·cases z
   refine wpAny_bind (wpAny_eqBool_tuple (by omega) hqa hqb ?_)
   by_cases hk : ([Sum.inl x.2.1, Sum.inl x.2.2] : List Key) = [Sum.inl y.2.1, Sum.inl y.2.2]
   ·rw [decide_eq_true hk]
    simp only [Bool.not_true, Bool.false_eq_true, if_false]
    refine wpAny_pure ⟨rfl, rfl, .inr (.inr ⟨by first | rfl | trivial, ?_⟩)⟩
    obtain ⟨x1, x2, x3⟩ := x
    obtain ⟨y1, y2, y3⟩ := y
    simp at hk hxy
    simp [hk, hxy]
   ·rw [decide_eq_false hk]
    simp only [Bool.not_false, if_true]
    have hf : decide (x = y) = false := decide_eq_false fun z => hk (by rw [z])
    rw [hf] at h
    exact wpAny_bind (wpAny_pure (wpAny_pure (wpAny_pure h)))
  ·cases z
 ·rintro ⟨r1, r2⟩ s' ⟨hr, rfl, z | ⟨z, _⟩ | ⟨z, hxy⟩⟩
  ·cases z
  ·cases z
  ·simp only at hr
   subst hr
   refine wpAny_pure ?_
   show R (.done (.ret (.bool (xs.size == ys.size)))) s'
   rw [hsz]
   rw [decide_eq_true hxy] at h
   exact h
theorem eqBool_nest {x y : K3} {a b : Addr} {Q : Bool → Shared → Prop} (hu : A.units + 7 < cLine) (hx : IsNest P w s.heap x a) (hy : IsNest P w s.heap y b) (h : Q (decide (x = y)) s) : wpAny (model P w) A (eqBool (.ref a) (.ref b)) Q E s := by
 unfold eqBool
 try with_reducible refine wpAny_holding ?_
 show wpAny _ _ (if (Value.ref a == Value.ref b) = true then _ else _) Q E s
 by_cases hab : (Value.ref a == Value.ref b) = true
 ·rw [if_pos hab]
  have e : a = b := by have := eq_of_beq hab; injection this
  subst e
  obtain rfl := hx.inj hy
  exact wpAny_bind (wpAny_rule (wpAny_pure (by simpa using h)))
 ·rw [if_neg hab]
  exact wpAny_bind (wpAny_richCompare_same_room (op := .Eq) hx.typeIs hy.typeIs F.slot_tuple_eq
   (wpAny_call_entry F.slot_tuple_eq hx.typeIs F.entry_tuple_eq (nest_eq_tree (by show A.units + 1 + 5 < cLine; omega) hx hy ⟨_, rfl, (fun e => nomatch e), wpAny_truthy_bool h⟩) (F.args_tuple_eq_2 _ _)) (by omega))
theorem quiet_flat {ks : List Key} {a : Addr} {n : Nat} {Q : Bool → Shared → Prop} (hk : IsTupleKey (mixKind P w) s.heap ks a) (h : Q true s) : wpAny (model P w) A (eqIsQuiet (n + 1) (.ref a)) Q E s := by
 have hT := hk.typeIs
 obtain ⟨o, items, m, ho, _, hd, hi⟩ := hk
 unfold eqIsQuiet
 refine wpAny_bind (wpAny_specialOf hT F.slot_tuple_eq.lookup ?_)
 show wpAny _ _ (isInstance (.ref a) (.type "tuple") >>= _) _ _ s
 refine wpAny_bind (wpAny_isInstance hT isSubtype_tuple_tuple ?_)
 simp only [Bool.not_true, Bool.false_eq_true, if_false]
 refine wpAny_bind (wpAny_seqItems ho hd ?_)
 refine wpAny_bind ?_
 show wpAny _ _ (forIn items _ _) _ _ s
 rw [← Array.forIn_toList]
 refine wpAny_forIn_list _ (fun rest r s' => r.1 = none ∧ s' = s ∧ ∀ v ∈ rest, carriedByValue v = true) _ ?_ ?_ _ _ ⟨rfl, rfl, hi.byValue⟩
 ·rintro v rest r s' ⟨hr, rfl, hall⟩
  rw [eqIsQuiet_byValue _ (hall v List.mem_cons_self)]
  refine wpAny_bind (wpAny_pure ?_)
  simp only [Bool.not_true, Bool.false_eq_true, if_false]
  exact wpAny_pure ⟨rfl, rfl, fun u hu' => hall u (List.mem_cons_of_mem _ hu')⟩
 ·rintro ⟨r1, r2⟩ s' ⟨hr, rfl, _⟩
  simp only at hr
  subst hr
  exact wpAny_pure h
theorem quiet_nest {k : K3} {a : Addr} {Q : Bool → Shared → Prop} (hk : IsNest P w s.heap k a) (h : Q true s) : wpAny (model P w) A (eqIsQuiet 8 (.ref a)) Q E s := by
 have hT := hk.typeIs
 obtain ⟨o, items, m, q, t, ho, _, hd, hi, hq⟩ := hk
 unfold eqIsQuiet
 refine wpAny_bind (wpAny_specialOf hT F.slot_tuple_eq.lookup ?_)
 show wpAny _ _ (isInstance (.ref a) (.type "tuple") >>= _) _ _ s
 refine wpAny_bind (wpAny_isInstance hT isSubtype_tuple_tuple ?_)
 simp only [Bool.not_true, Bool.false_eq_true, if_false]
 refine wpAny_bind (wpAny_seqItems ho hd ?_)
 refine wpAny_bind ?_
 show wpAny _ _ (forIn items _ _) _ _ s
 rw [← Array.forIn_toList, hi]
 refine wpAny_forIn_list _ (fun rest r s' => r.1 = none ∧ s' = s ∧ (rest = [Value.int k.1 t, Value.ref q] ∨ rest = [Value.ref q] ∨ rest = [])) _ ?_ ?_ _ _ ⟨rfl, rfl, .inl rfl⟩
 ·rintro v rest r s' ⟨hr, rfl, z | z | z⟩
  ·cases z
   rw [eqIsQuiet_byValue _ rfl]
   refine wpAny_bind (wpAny_pure ?_)
   simp only [Bool.not_true, Bool.false_eq_true, if_false]
   exact wpAny_pure ⟨rfl, rfl, .inr (.inl (by first | rfl | trivial))⟩
  ·cases z
   refine wpAny_bind (quiet_flat (n := 6) hq ?_)
   simp only [Bool.not_true, Bool.false_eq_true, if_false]
   exact wpAny_pure ⟨rfl, rfl, .inr (.inr (by first | rfl | trivial))⟩
  ·cases z
 ·rintro ⟨r1, r2⟩ s' ⟨hr, rfl, _⟩
  simp only at hr
  subst hr
  exact wpAny_pure h
noncomputable def nestKind (P : Program) (w : World) : HeapKind P w K3 where
 is := IsNest P w
 hash := nestHash P w
 draws := fun _ => 5
 room := fun A => A.units + 7 < cLine
 inj := fun hx hy => hx.inj hy
 keeps := fun x ho hd hs => x.keeps ho hd hs
 pyHash := fun hu hk h => pyHash_nest (by omega) hk h
 eqBool := fun hu hx hy h => eqBool_nest hu hx hy h
 quiet := fun hk h => quiet_nest hk h
end
end L2
set_option maxHeartbeats 1000000
namespace L2
open PySem PySem.Spec PyProof.Rows
noncomputable abbrev N3 := K3 × Addr × Int
noncomputable def lookN (ks : List N3) (k : K3) : Option Int := (ks.find? fun x => decide (x.1 = k)).map (·.2.2)
noncomputable def putN (ks : List N3) (k : K3) (p : Addr) (n : Int) : List N3 := if (lookN ks k).isSome = true then ks.map fun x => if x.1 = k then (x.1, x.2.1, n) else x else ks ++ [(k, p, n)]
theorem lookN_cons (x : N3) (ks : List N3) (k : K3) : lookN (x :: ks) k = if x.1 = k then some x.2.2 else lookN ks k := by
 unfold lookN
 rw [List.find?_cons]
 by_cases h : x.1 = k
 ·rw [decide_eq_true h, if_pos h]; rfl
 ·rw [decide_eq_false h, if_neg h]
theorem lookN_append (ks : List N3) (x : N3) (k : K3) (h : lookN ks x.1 = none) : lookN (ks ++ [x]) k = if x.1 = k then some x.2.2 else lookN ks k := by
 induction ks with
 | nil => rw [List.nil_append, lookN_cons]
 | cons y r ih =>
  rw [lookN_cons] at h
  by_cases e : y.1 = x.1
  ·rw [if_pos e] at h; cases h
  ·rw [if_neg e] at h
   rw [List.cons_append, lookN_cons, lookN_cons, ih h]
   by_cases e2 : y.1 = k
   ·rw [if_pos e2, if_pos e2, if_neg (fun z => e (e2.trans z.symm))]
   ·rw [if_neg e2, if_neg e2]
theorem lookN_map (ks : List N3) (k k' : K3) (n : Int) : lookN (ks.map fun x => if x.1 = k then (x.1, x.2.1, n) else x) k' = if k' = k then (lookN ks k).map fun _ => n else lookN ks k' := by
 induction ks with
 | nil => unfold lookN; simp
 | cons y r ih =>
  rw [List.map_cons, lookN_cons, ih, lookN_cons, lookN_cons]
  by_cases e : y.1 = k
  ·rw [if_pos e]
   by_cases e2 : k' = k
   ·subst e2
    rw [if_pos e, if_pos rfl, if_pos e]; rfl
   ·have : ¬ y.1 = k' := fun z => e2 (z.symm.trans e)
    rw [if_neg this, if_neg e2, if_neg e2, if_neg this]
  ·rw [if_neg e]
   by_cases e2 : k' = k
   ·subst e2
    rw [if_neg e, if_pos rfl, if_pos rfl, if_neg e]
   ·rw [if_neg e2, if_neg e2]
theorem lookN_putN (ks : List N3) (k k' : K3) (p : Addr) (n : Int) : lookN (putN ks k p n) k' = if k' = k then some n else lookN ks k' := by
 unfold putN
 cases h : lookN ks k with
 | some v =>
  rw [if_pos (by rfl), lookN_map, h]; rfl
 | none =>
  rw [if_neg (by simp), lookN_append _ _ _ h]
  by_cases e : k' = k
  ·subst e; rw [if_pos rfl]
  ·rw [if_neg e, if_neg (fun z => e z.symm)]
theorem mem_putN {ks : List N3} {k : K3} {p : Addr} {n : Int} {x : N3} (h : x ∈ putN ks k p n) : (∃ y ∈ ks, x.1 = y.1 ∧ x.2.1 = y.2.1) ∨ (x.1 = k ∧ x.2.1 = p) := by
 unfold putN at h
 split at h
 ·obtain ⟨y, hy, rfl⟩ := List.mem_map.mp h
  refine .inl ⟨y, hy, ?_⟩
  split <;> exact ⟨rfl, rfl⟩
 ·rcases List.mem_append.mp h with z | z
  ·exact .inl ⟨x, z, rfl, rfl⟩
  ·rw [List.mem_singleton.mp z]; exact .inr ⟨rfl, rfl⟩
theorem len_putN (ks : List N3) (k : K3) (p : Addr) (n : Int) : (putN ks k p n).length ≤ ks.length + 1 := by
 unfold putN
 split
 ·rw [List.length_map]; omega
 ·rw [List.length_append]; exact Nat.le_refl _
noncomputable def GRel : List N3 → List (K3 × Addr × Value) → Prop := Paired fun (k : N3) (x : K3 × Addr × Value) => x.1 = k.1 ∧ x.2.1 = k.2.1 ∧ ∃ t, x.2.2 = Value.int k.2.2 t
theorem GRel.find : ∀ {ks : List N3} {xs : List (K3 × Addr × Value)}, GRel ks xs → ∀ k : K3, (lookN ks k = none ∧ atKey xs k = none) ∨ ∃ n p t, lookN ks k = some n ∧ atKey xs k = some (p, Value.int n t)
 | _, _, .nil, _ => .inl ⟨rfl, rfl⟩
 | _, _, .cons (a := x) (b := y) h r, k => by
  obtain ⟨h1, h2, t, h3⟩ := h
  rw [lookN_cons]
  unfold atKey
  rw [List.find?_cons, h1]
  by_cases e : x.1 = k
  ·rw [decide_eq_true e, if_pos e]
   exact .inr ⟨_, _, t, rfl, by rw [← h3]; rfl⟩
  ·rw [decide_eq_false e, if_neg e]
   exact GRel.find r k
theorem GRel.len {ks : List N3} {xs : List (K3 × Addr × Value)} (h : GRel ks xs) : ks.length = xs.length := Paired.length h
theorem GRel.map {k : K3} {n : Int} {t : Tok} : ∀ {ks : List N3} {xs : List (K3 × Addr × Value)}, GRel ks xs → GRel (ks.map fun x => if x.1 = k then (x.1, x.2.1, n) else x) (xs.map (putAt k (Value.int n t)))
 | _, _, .nil => .nil
 | _, _, .cons (a := x) (b := y) h r => by
  refine .cons ?_ (GRel.map r)
  obtain ⟨h1, h2, t', h3⟩ := h
  unfold putAt
  rw [h1]
  by_cases e : x.1 = k
  ·dsimp only
   rw [if_pos e, if_pos e]; exact ⟨rfl, h2, t, rfl⟩
  ·dsimp only
   rw [if_neg e, if_neg e]; exact ⟨h1, h2, t', h3⟩
theorem GRel.put {k : K3} {p : Addr} {n : Int} {t : Tok} {ks : List N3} {xs : List (K3 × Addr × Value)} (h : GRel ks xs) : GRel (putN ks k p n) (storedH xs k p (Value.int n t)) := by
 unfold putN storedH
 rcases h.find k with ⟨a, b⟩ | ⟨v, q, t', a, b⟩
 ·rw [a, b, if_neg (by simp), if_neg (by simp)]
  exact Paired.snoc h ⟨rfl, rfl, t, rfl⟩
 ·rw [a, b, if_pos (by rfl), if_pos (by rfl)]
  exact h.map
noncomputable def gO (P : Program) (w : World) (ks : List N3) : HO := .ext fun a h => (a == sysModules) = false ∧ ks.length ≤ sizeLine ∧ ∃ xs, GRel ks xs ∧ ∃ o es ep, h.get? a = some o ∧ o.ExactDict ∧ o.data = .dict es ep ∧ es.toList = xs.map (entryOfKey (nestKind P w)) ∧ (xs.map (·.1)).Nodup
def NestAt (H : Hp) (k : K3) (p : Addr) : Prop := ∃ q, H p = some (.tup [.int k.1, .ref q]) ∧ H q = some (.tup [.int k.2.1, .int k.2.2])
def NestAll (H : Hp) (ks : List N3) : Prop := ∀ x ∈ ks, NestAt H x.1 x.2.1
theorem NestAt.mono {H H' : Hp} {k : K3} {p : Addr} {ts : List Addr} (e : Ext ts H H') (ht : ∀ t ∈ ts, ∀ xs, H t ≠ some (.tup xs)) (h : NestAt H k p) : NestAt H' k p := by
 obtain ⟨q, h1, h2⟩ := h
 exact ⟨q, e _ _ (fun z => ht _ z _ h1) h1, e _ _ (fun z => ht _ z _ h2) h2⟩
theorem nest_of {P : Program} {w : World} {H : Hp} {h : Heap} {k : K3} {p : Addr} (ok : HOk P w H h) (e : NestAt H k p) : IsNest P w h k p := by
 obtain ⟨q, e1, e2⟩ := e
 obtain ⟨_, its, r, o, h1, h2, n, h3⟩ := (show ObjOk P w H h p (.tup [.int k.1, .ref q]) from ok p _ e1)
 have k2 := key_of (ks := [Sum.inl k.2.1, Sum.inl k.2.2]) ok e2
 cases r with
 | cons a r =>
  cases r with
  | cons b r =>
   cases r
   obtain ⟨t, rfl⟩ := a
   cases b
   exact ⟨o, _, n, q, t, h1, h2, h3, by simp, k2⟩
section
variable {X : Cx} {pins : List (Addr × Obj)} {σ : St} {H : Hp} {s : Shared} {a : Addr}
theorem gO_at {ks : List N3} (I : Inv X pins σ H s) (e : H a = some (gO X.prog X.w ks)) (hn : NestAll H ks) : (a == sysModules) = false ∧ ks.length ≤ sizeLine ∧ ∃ xs, GRel ks xs ∧ s.heap.DictOfH (nestKind X.prog X.w) a xs := by
 obtain ⟨h1, h2, xs, hr, o, es, ep, q1, q2, q3, q4, q5⟩ := (I.hok a _ e).1
 refine ⟨h1, h2, xs, hr, o, es, ep, q1, q2, q3, q4, fun x hx => ?_, q5⟩
 have all : ∀ {l : List N3} {m : List (K3 × Addr × Value)}, GRel l m → NestAll H l → ∀ x ∈ m, IsNest X.prog X.w s.heap x.1 x.2.1 := by
  intro l m q
  induction q with
  | nil => intro _ x hx; cases hx
  | @cons p q ps qs hq t ih =>
   intro hl x hx
   rcases List.mem_cons.mp hx with e | hx
   ·subst e
    rw [hq.1, hq.2.1]
    exact nest_of I.hok (hl p (List.mem_cons_self ..))
   ·exact ih (fun y hy => hl y (List.mem_cons_of_mem _ hy)) x hx
 exact all hr hn x hx
theorem gO_ok {P : Program} {w : World} {H' : Hp} {h' : Heap} {ks : List N3} {xs : List (K3 × Addr × Value)} (h1 : (a == sysModules) = false) (h2 : ks.length ≤ sizeLine) (hr : GRel ks xs) (d : h'.DictOfH (nestKind P w) a xs) : ObjOk P w H' h' a (gO P w ks) := by
 obtain ⟨o, es, ep, q1, q2, q3, q4, _, q5⟩ := d
 refine ⟨⟨h1, h2, xs, hr, o, es, ep, q1, q2, q3, q4, q5⟩, ⟨o, q1⟩, ?_⟩
 rintro g1 g2 ⟨a1, a2, xs', r', o', es', ep', b1, b2⟩ k
 exact ⟨a1, a2, xs', r', o', es', ep', k _ b1, b2⟩
noncomputable def tDNewN (P : Program) (w : World) : TE := fun _ H Q => ∀ p, H p = none → Q (.ref p) (upd H p (gO P w []))
theorem pe_dnewN {pos : Pos} : PE X (.Dict [] [] pos) (tDNewN X.prog X.w) := fun pins s σ H Q I h => by
 refine wpAny_Dict_empty ⟨.ref s.heap.objs.size, _, I.laid (a := s.heap.objs.size) (o := gO X.prog X.w []) (t' := s.toks) (fun _ _ q => Heap.get?_push_of_some _ q) (Nat.le_refl _) ?_, rfl, h _ (I.hok.fresh (Nat.le_refl _))⟩
 refine gO_ok ?_ (Nat.zero_le _) .nil ⟨_, #[], _, Heap.get?_push_size _ rfl, ⟨rfl, rfl, rfl⟩, rfl, by rfl, (fun x hx => nomatch hx), List.nodup_nil⟩
 have := I.big
 exact beq_eq_false_iff_ne.mpr (Nat.ne_of_gt this)
noncomputable def tDGetN (P : Program) (w : World) (td ty tx : TE) : TE := fun σ H Q => td σ H fun x H1 => ∃ a ks, x = .ref a ∧ H1 a = some (gO P w ks) ∧ ty σ H1 fun y H2 => tx σ H2 fun z H3 => ∃ ks' k p, y = .ref p ∧ H3 a = some (gO P w ks') ∧ NestAll H3 ks' ∧ NestAt H3 k p ∧ Q ((lookN ks' k).elim z V.int) H3
theorem pe_dgetN {o e f : Expr} {apos cpos : Pos} {td ty tx : TE} (hu : X.A.units + 20 < cLine) (ho : PE X o td) (he : PE X e ty) (hf : PE X f tx) (m : M2 X o "get" apos e f cpos) : PE X (.Call (.Attribute o "get" apos) [e, f] [] cpos) (tDGetN X.prog X.w td ty tx) := by
 intro pins s σ H Q I h
 refine wpAny_Call_method m.base m.few m.line PySem.F.plainAttrs_dict PySem.F.slot_dict_get PySem.F.type_dict_get (thn (ho pins s σ H _ I h) fun u s1 hq_ => ?_)
 obtain ⟨x, H1, I1, rx, a, ks, ex, d, q1⟩ := hq_
 subst ex
 obtain rfl : u = Value.ref a := rx
 obtain ⟨_, _, _, _, o1, es, ep, b1, b2, _⟩ := (I1.hok a _ d).1
 refine ⟨⟨o1, b1, b2.1⟩, fun b q => ?_, ?_⟩
 ·cases q; exact ⟨o1, b1, b2.2.1⟩
 rw [m.trees]
 refine Calls.callWith_builtin rfl (Calls.evalArgs_plain (Calls.spliced_cons (thn (he pins s1 σ H1 _ I1 q1) fun iv s2 hq_ => ?_)))
 obtain ⟨y, H2, I2, ry, q2⟩ := hq_
 refine Calls.spliced_cons (thn (hf pins s2 σ H2 _ I2 q2) fun fv s3 hq_ => ?_)
 obtain ⟨z, H3, I3, rz, ks', k, p, ey, g, hn, hk, q3⟩ := hq_
 refine Calls.spliced_nil ?_
 subst ey
 cases (show iv = Value.ref p from ry)
 obtain ⟨hd, hz, xs, hr, dd⟩ := gO_at I3 g hn
 refine call_meetsIn PySem.F.slot_dict_get dd.typeIs PySem.F.entry_dict_get (PySem.F.args_dict_get_3 _ _ _) (meetsH_dict_get_default (nestKind X.prog X.w) a p hd fv) ⟨by show X.A.units + 1 + 7 < cLine; omega, k, xs, nest_of I3.hok hk, dd, _, H3, I3.tok _, ?_, q3⟩
 rcases hr.find k with ⟨a1, b1⟩ | ⟨n, p', t, a1, b1⟩
 ·rw [a1, b1]; exact rz
 ·rw [a1, b1]; exact ⟨t, rfl⟩
noncomputable def sDPutN (P : Program) (w : World) (td ty tv : TE) : TS := fun D σ H => tv σ H fun v H1 => td σ H1 fun x H2 => ty σ H2 fun y H3 => ∃ a ks k p n, x = .ref a ∧ y = .ref p ∧ v = .int n ∧ H3 a = some (gO P w ks) ∧ NestAll H3 ks ∧ NestAt H3 k p ∧ ks.length < sizeLine ∧ D.nx σ (upd H3 a (gO P w (putN ks k p n)))
theorem ps_dputN {o i value : Expr} {pos pos' : Pos} {td ty tv : TE} (hu : X.A.units + 20 < cLine) (ho : PE X o td) (hi : PE X i ty) (hv : PE X value tv) (hs : swapsWith value (some (.Subscript o i pos')) pos.line X.env = pure false) :
  PS X (.Assign [.Subscript o i pos'] value pos) (sDPutN X.prog X.w td ty tv) := by
 intro pins s σ H D I h
 refine wpAny_Assign_Subscript (thn (hv pins s σ H _ I h) fun r s1 hq_ => ?_) hs
 obtain ⟨v, H1, I1, rv, q1⟩ := hq_
 refine thn (ho pins s1 σ H1 _ I1 q1) fun u s2 hq_ => ?_
 obtain ⟨x, H2, I2, rx, q2⟩ := hq_
 refine thn (hi pins s2 σ H2 _ I2 q2) fun iv s3 hq_ => ?_
 obtain ⟨y, H3, I3, ry, a, ks, k, p, n, ex, ey, ev, g, hn, hk, hl, q3⟩ := hq_
 subst ex ey ev
 obtain rfl : u = Value.ref a := rx
 cases (show iv = Value.ref p from ry)
 obtain ⟨t, rfl⟩ := (show ∃ t, r = Value.int n t from rv)
 obtain ⟨hd, hz, xs, hr, dd⟩ := gO_at I3 g hn
 refine wpAny_setItem_heap (knd := nestKind X.prog X.w) (hsz := by rw [← hr.len]; exact hz) (by show X.A.units + 1 + 7 < cLine; omega) (nest_of I3.hok hk) dd fun h' dd' hs => ⟨σ, _, ?_, q3⟩
 have hl2 := len_putN ks k p n
 exact d_write I3 (by rw [g]; exact True.intro) hs (let ⟨q, _, _, hq, _⟩ := dd'; ⟨q, hq⟩) (gO_ok hd (by omega) hr.put dd')
end
end L2
set_option maxHeartbeats 1000000
namespace L2
open PySem PySem.Spec PyProof.Rows
structure RA where
 self : Addr
 dx : Addr
 wa : Addr
 ba : Addr
 ca : Addr
 ta : Addr
 fa : Addr
 ga : Addr
 C : Addr
 CC : Addr
noncomputable def rflds (r : RA) (most : Int) (sh : Bool) (state : Str) (steps forks depth sv bk : Int) : List (Str × V) :=
 [("works", .ref r.wa), ("boxes", .ref r.ba), ("choices", .ref r.ca), ("most", .int most), ("sharing", .bl sh), ("state", .str state), ("steps", .int steps), ("forks", .int forks), ("depth", .int depth), ("told", .ref r.ta), ("faults", .ref r.fa), ("saves", .int sv), ("backs", .int bk), ("gone", .ref r.ga)]
section
variable (r : RA) (most : Int) (sh : Bool) (state : Str) (steps forks depth sv bk v : Int)
theorem rf_works : (rflds r most sh state steps forks depth sv bk).lookup ("works" : Str) = some (V.ref r.wa) := by rfl
theorem rf_boxes : (rflds r most sh state steps forks depth sv bk).lookup ("boxes" : Str) = some (.ref r.ba) := by rfl
theorem rf_choices : (rflds r most sh state steps forks depth sv bk).lookup ("choices" : Str) = some (.ref r.ca) := by rfl
theorem rf_most : (rflds r most sh state steps forks depth sv bk).lookup ("most" : Str) = some (.int most) := by rfl
theorem rf_sharing : (rflds r most sh state steps forks depth sv bk).lookup ("sharing" : Str) = some (.bl sh) := by rfl
theorem rf_state : (rflds r most sh state steps forks depth sv bk).lookup ("state" : Str) = some (.str state) := by rfl
theorem rf_steps : (rflds r most sh state steps forks depth sv bk).lookup ("steps" : Str) = some (.int steps) := by rfl
theorem rf_forks : (rflds r most sh state steps forks depth sv bk).lookup ("forks" : Str) = some (.int forks) := by rfl
theorem rf_depth : (rflds r most sh state steps forks depth sv bk).lookup ("depth" : Str) = some (.int depth) := by rfl
theorem rf_told : (rflds r most sh state steps forks depth sv bk).lookup ("told" : Str) = some (.ref r.ta) := by rfl
theorem rf_faults : (rflds r most sh state steps forks depth sv bk).lookup ("faults" : Str) = some (.ref r.fa) := by rfl
theorem rf_saves : (rflds r most sh state steps forks depth sv bk).lookup ("saves" : Str) = some (.int sv) := by rfl
theorem rf_backs : (rflds r most sh state steps forks depth sv bk).lookup ("backs" : Str) = some (.int bk) := by rfl
theorem rf_gone : (rflds r most sh state steps forks depth sv bk).lookup ("gone" : Str) = some (.ref r.ga) := by rfl
theorem rp_forks : putF ("forks" : Str) (.int v) (rflds r most sh state steps forks depth sv bk) = rflds r most sh state steps v depth sv bk := by rfl
theorem rp_depth : putF ("depth" : Str) (.int v) (rflds r most sh state steps forks depth sv bk) = rflds r most sh state steps forks v sv bk := by rfl
theorem rp_saves : putF ("saves" : Str) (.int v) (rflds r most sh state steps forks depth sv bk) = rflds r most sh state steps forks depth v bk := by rfl
theorem rp_backs : putF ("backs" : Str) (.int v) (rflds r most sh state steps forks depth sv bk) = rflds r most sh state steps forks depth sv v := by rfl
theorem rp_state (s2 : Str) : putF ("state" : Str) (.str s2) (rflds r most sh state steps forks depth sv bk) = rflds r most sh s2 steps forks depth sv bk := by rfl
end
noncomputable def cflds (n : Int) (hb hg ha : Addr) : List (Str × V) := [("number", .int n), ("boxes", .ref hb), ("begun", .ref hg), ("aside", .ref ha)]
theorem cf_number (n : Int) (hb hg ha : Addr) : (cflds n hb hg ha).lookup ("number" : Str) = some (.int n) := by rfl
theorem cf_boxes (n : Int) (hb hg ha : Addr) : (cflds n hb hg ha).lookup ("boxes" : Str) = some (.ref hb) := by rfl
theorem cf_begun (n : Int) (hb hg ha : Addr) : (cflds n hb hg ha).lookup ("begun" : Str) = some (.ref hg) := by rfl
theorem cf_aside (n : Int) (hb hg ha : Addr) : (cflds n hb hg ha).lookup ("aside" : Str) = some (.ref ha) := by rfl
end L2
set_option maxHeartbeats 1000000
namespace L2
open PySem PySem.Spec PyProof.Rows
noncomputable def cntL (log : List K3) (k : K3) : Option Int := if log.count k = 0 then none else some (log.count k : Int)
theorem cntL_snoc (log : List K3) (k k' : K3) : cntL (log ++ [k]) k' = if k' = k then some ((cntL log k).getD 0 + 1) else cntL log k' := by
 unfold cntL
 rw [List.count_append, List.count_singleton]
 by_cases e : k' = k
 ·subst e
  rw [if_pos rfl]
  simp only [beq_self_eq_true, if_true]
  rw [if_neg (by omega)]
  by_cases h : log.count k' = 0
  ·rw [if_pos h, h]; rfl
  ·rw [if_neg h]
   show some _ = some _
   congr 1
 ·have : (k == k') = false := beq_eq_false_iff_ne.mpr (Ne.symm e)
  rw [if_neg e, this]
  simp
noncomputable def PrsAt (H : Hp) : List V → List (Int × Int) → Prop := Paired fun v p => ∃ a, v = .ref a ∧ H a = some (.tup [.int p.1, .int p.2])
theorem PrsAt.mono {H H' : Hp} {ts : List Addr} (e : Ext ts H H') (ht : ∀ t ∈ ts, ∀ xs, H t ≠ some (.tup xs)) {vs : List V} {ps : List (Int × Int)} (h : PrsAt H vs ps) : PrsAt H' vs ps := Paired.mapP h fun _ _ ⟨a, x, y⟩ => ⟨a, x, e _ _ (fun z => ht _ z _ y) y⟩
noncomputable def asD (as : List (Int × Int)) : List (Key × V) := as.map fun p => ((Sum.inl p.1 : Key), V.int p.2)
theorem asD_val (b : Int) : ∀ as : List (Int × Int), valV (asD as) (Sum.inl b) = (as.lookup b).map V.int
 | [] => rfl
 | (c, x) :: r => by
  show valV (((Sum.inl c : Key), V.int x) :: asD r) (Sum.inl b) = _
  by_cases e : c = b
  ·subst e
   rw [valV_pos rfl, List.lookup_cons]; simp
  ·rw [valV_neg (fun z => e (Sum.inl.inj z)), asD_val b r, List.lookup_cons]
   have : (b == c) = false := beq_eq_false_iff_ne.mpr (Ne.symm e)
   rw [this]
theorem asD_any (b : Int) : ∀ as : List (Int × Int), ((asD as).any fun kv => decide (kv.1 = (Sum.inl b : Key))) = as.any fun p => decide (p.1 = b)
 | [] => rfl
 | p :: r => by
  have ih := asD_any b r
  show (decide ((Sum.inl p.1 : Key) = Sum.inl b) || ((asD r).any fun kv => decide (kv.1 = (Sum.inl b : Key)))) = _
  rw [ih, List.any_cons]
  congr 1
  simp
theorem asD_put (b v : Int) (as : List (Int × Int)) : putK (asD as) (Sum.inl b) (V.int v) = asD (putA as b v) := by
 unfold putK putA
 rw [asD_any]
 split
 ·unfold asD
  rw [List.map_map, List.map_map]
  congr 1
  funext p
  show (if (Sum.inl p.1 : Key) = Sum.inl b then ((Sum.inl p.1 : Key), V.int v) else ((Sum.inl p.1 : Key), V.int p.2)) = ((Sum.inl (if p.1 = b then (p.1, v) else p).1 : Key), V.int (if p.1 = b then (p.1, v) else p).2)
  by_cases e : p.1 = b
  ·rw [if_pos e, if_pos (by rw [e])]
  ·rw [if_neg e, if_neg (fun z => e (Sum.inl.inj z))]
 ·unfold asD
  rw [List.map_append]; rfl
end L2
set_option maxHeartbeats 1000000
namespace L2
open PySem PySem.Spec PyProof.Rows
def HasM (P : Program) (w : World) (K : PySem.W.Frag) (mg : Str → Option Value) (base : Heap) (C : Addr) (m : Str) (k : Nat) (ps : List Str) (sp : Sp) : Prop :=
 ∃ f fd, FnOk P w K mg base CX0 k f fd ps sp ∧ Meth K C m f ∧ Binds K fd ps []
theorem pe_mt {X : Cx} {C : Addr} {m : Str} {k j : Nat} {ps : List Str} {sp : Sp} {o e : Expr} {es : List Expr} {ta : TE} {t : TA} {apos pos : Pos} {pl : Sem Bool} (h : HasM X.prog X.w X.K X.mg X.base C m k ps sp) (c : Cls X.K C) (hr : Room j X.A) (hj : k ≤ j) (he : PE X o ta) (ha : PA X (e :: es) t)
  (hst : starEach (e :: es) X.env = (false, eval e X.env) :: starEach es X.env := by rfl) (hpl : (backTo pos (starEach es X.env)).any (·.1) = false := by rfl)
  (ht : eval (.Call (.Attribute o m apos) (e :: es) [] pos) X.env = (do
   let ov ← eval o X.env
   standAt apos.atName
   let (f, first) ← holding [ov] (getMethod ov m pl)
   callWith pos f first (backTo pos (starEach (e :: es) X.env)) (backToKw pos (keywordEach [] X.env))) := by rfl) :
  PE X (.Call (.Attribute o m apos) (e :: es) [] pos) (tMeth C m sp [] E0 ta t) := by
 obtain ⟨f, fd, G, hm, hb⟩ := h
 exact pe_meth he c hm G (hr.mono hj) hb .nil pass0 ha hst hpl ht
theorem pe_mt0 {X : Cx} {C : Addr} {m : Str} {k j : Nat} {ps : List Str} {sp : Sp} {o : Expr} {ta : TE} {apos pos : Pos} {pl : Sem Bool} (h : HasM X.prog X.w X.K X.mg X.base C m k ps sp) (c : Cls X.K C) (hr : Room j X.A) (hj : k ≤ j) (he : PE X o ta)
  (ht : eval (.Call (.Attribute o m apos) [] [] pos) X.env = (do
   let ov ← eval o X.env
   standAt apos.atName
   let (f, first) ← holding [ov] (getMethod ov m pl)
   callWith pos f first (backTo pos (starEach [] X.env)) (backToKw pos (keywordEach [] X.env))) := by rfl) :
  PE X (.Call (.Attribute o m apos) [] [] pos) (tMeth C m sp [] E0 ta tNil) := by
 obtain ⟨f, fd, G, hm, hb⟩ := h
 exact pe_meth0 he c hm G (hr.mono hj) hb .nil pass0 ht
def HasC (P : Program) (w : World) (K : PySem.W.Frag) (mg : Str → Option Value) (base : Heap) (x : Str) (C : Addr) (k : Nat) (ps : List Str) (sp : Sp) : Prop :=
 ∃ f fd, FnOk P w K mg base CX0 k f fd ps sp ∧ Mk K C f ∧ Binds K fd ps [] ∧ mg x = some (.ref C)
theorem pe_mk {X : Cx} {C : Addr} {x : Str} {k j : Nat} {ps : List Str} {sp : Sp} {e : Expr} {es : List Expr} {t : TA} {p pos : Pos} (h : HasC X.prog X.w X.K X.mg X.base x C k ps sp) (hr : Room j X.A) (hj : k + 1 ≤ j) (ha : PA X (e :: es) t) (hg : Gl X x := by rfl)
  (hdb : (x == ("__debug__" : Str)) = false := by decide) (he : starEach (e :: es) X.env = (false, eval e X.env) :: starEach es X.env := by rfl) (hpl : (backTo pos (starEach es X.env)).any (·.1) = false := by rfl) :
  PE X (.Call (.Name x p) (e :: es) [] pos) (tMake C sp [] E0 t) := by
 obtain ⟨f, fd, G, M, hb, hm⟩ := h
 exact pe_make M G (hr.mono hj) hg hm hb .nil pass0 ha hdb he hpl
section
variable {K : PySem.W.Frag} {σ : St} {H : Hp} {Q : VK} {ta tv te : TE} {tl : TA} {D : Ends} {f : Str}
theorem r_fld (h : ta σ H fun x H1 => ∃ a C dx fs v, x = .ref a ∧ H1 a = some (.ins C dx fs) ∧ Cls K C ∧ NoAttr K C f ∧ fs.lookup f = some v ∧ Q v H1) : tFld K ta f σ H Q := h
theorem r_sfld (h : tv σ H fun y H1 => ta σ H1 fun x H2 => ∃ a C dx fs, x = .ref a ∧ H2 a = some (.ins C dx fs) ∧ Cls K C ∧ NoAttr K C f ∧ fs.length < 1000 ∧ D.nx σ (upd H2 a (.ins C dx (putF f y fs)))) : sFld K ta tv f D σ H := h
theorem r_sfldaug {rd : V → V → Hp → VK → Prop} (h : ta σ H fun x H1 => ∃ a C dx fs v, x = .ref a ∧ H1 a = some (.ins C dx fs) ∧ Cls K C ∧ NoAttr K C f ∧ fs.lookup f = some v ∧
 tv σ H1 fun y H2 => rd v y H2 fun z H3 => ∃ dx' fs', H3 a = some (.ins C dx' fs') ∧ fs'.length < 1000 ∧ D.nx σ (upd H3 a (.ins C dx' (putF f z fs')))) : sFldAug K ta tv rd f D σ H := h
theorem r_meth {C : Addr} {m : Str} {sp : Sp} {dvs : List V} {E : XK} (h : ta σ H fun x H1 => ∃ a dx fs, x = .ref a ∧ H1 a = some (.ins C dx fs) ∧ fs.lookup m = none ∧ tl σ H1 fun vs H2 => sp (x :: (vs ++ dvs)) H2 Q E) : tMeth C m sp dvs E ta tl σ H Q := h
theorem r_make {C : Addr} {sp : Sp} {dvs : List V} {E : XK} (h : tl σ H fun vs H1 => ∀ x dx, H1 x = none → H1 dx = none → dx ≠ x → sp (.ref x :: (vs ++ dvs)) (upd (upd H1 dx (.own x)) x (.ins C dx [])) (fun v H2 => v = .non ∧ Q (.ref x) H2) E) : tMake C sp dvs E tl σ H Q := h
end
structure RTx (K : PySem.W.Frag) (C CC : Addr) : Prop where
 cl : Cls K C
 works : NoAttr K C "works"
 boxes : NoAttr K C "boxes"
 choices : NoAttr K C "choices"
 most : NoAttr K C "most"
 sharing : NoAttr K C "sharing"
 state : NoAttr K C "state"
 steps : NoAttr K C "steps"
 forks : NoAttr K C "forks"
 depth : NoAttr K C "depth"
 told : NoAttr K C "told"
 faults : NoAttr K C "faults"
 saves : NoAttr K C "saves"
 backs : NoAttr K C "backs"
 gone : NoAttr K C "gone"
 ccl : Cls K CC
 number : NoAttr K CC "number"
 cboxes : NoAttr K CC "boxes"
 begun : NoAttr K CC "begun"
 aside : NoAttr K CC "aside"
structure RaOk (K : PySem.W.Frag) (g : Gv) (r : RA) (G0 : Hp) : Prop where
 tx : RTx K r.C r.CC
 works : Den K G0 (worksD g.ws) (.ref r.wa)
 ch : SqL K G0 r.ca (g.ch.map V.int)
 nself : G0 r.self = none
 nta : G0 r.ta = none
 nfa : G0 r.fa = none
 nba : G0 r.ba = none
 nga : G0 r.ga = none
 tf : r.ta ≠ r.fa
 tb : r.ta ≠ r.ba
 fb : r.fa ≠ r.ba
structure RunAt (P : Program) (w : World) (g : Gv) (r : RA) (G0 H : Hp) (m : Ms) (steps forks depth : Int) : Prop where
 ob : H r.self = some (.ins r.C r.dx (rflds r g.most (!g.mean) "ended" steps forks depth m.sv m.bk))
 told : H r.ta = some (.lst (m.told.map V.int))
 flt : ∃ fl, H r.fa = some (.lst fl) ∧ (fl.length : Int) + 8 * m.st.length ≤ 8 * (m.steps + 1) ∧ (g.mean = false → PrsAt H fl m.flt)
 held : H r.ba = some (.lst (m.held.map V.int))
 gone : ∃ ks, H r.ga = some (gO P w ks) ∧ NestAll H ks ∧ ks.length ≤ m.log.length ∧ ∀ k, lookN ks k = cntL m.log k
 old : Ext [] G0 H
structure CallAt (g : Gv) (r : RA) (G0 H : Hp) (m : Ms) (f : Fr) (hp hb hg ha : Addr) : Prop where
 ob : ∃ hdx, H hp = some (.ins r.CC hdx (cflds f.n hb hg ha))
 bx : H hb = some (.lst ((mine g m f).map V.int))
 sh : g.mean = false → hb = r.ba
 ow : g.mean = true → hb ≠ r.ba
 bg : ∃ bl : List Int, H hg = some (.lst (bl.map V.int)) ∧ bl.length = 8 ∧ (g.mean = false → bl = f.bx)
 as : H ha = some (.dK (asD f.as))
 nt : hb ≠ r.ta
 nf : hb ≠ r.fa
 gb : hg ≠ hb
 gt : hg ≠ r.ta
 gf : hg ≠ r.fa
 gr : hg ≠ r.ba
 nb : G0 hb = none
 na : G0 ha = none
noncomputable def mutR (g : Gv) (r : RA) : List Addr := r.self :: r.ta :: r.fa :: r.ga :: (if g.mean = true then [] else [r.ba])
noncomputable def codeS : Nat → Str
 | 1 => "going"
 | 2 => "deep"
 | _ => "bare"
theorem cfl_ne (r : RA) (most : Int) (sh : Bool) (state : Str) (a b c d e n : Int) (x y z : Addr) : cflds n x y z ≠ rflds r most sh state a b c d e := fun h => by
 have := congrArg List.length h
 simp [cflds, rflds] at this
section
variable {P : Program} {w : World} {g : Gv} {r : RA} {G0 H H' : Hp} {m m' : Ms} {f : Fr} {hp hb hg ha : Addr} {s t d : Int}
theorem CallAt.nself (c : CallAt g r G0 H m f hp hb hg ha) (R : RunAt P w g r G0 H m s t d) : hp ≠ r.self := fun z => by
 obtain ⟨hdx, e⟩ := c.ob
 have e2 := R.ob
 rw [z, e2] at e
 injection e with e
 injection e with _ _ e
 exact cfl_ne _ _ _ _ _ _ _ _ _ _ _ _ _ e.symm
theorem CallAt.after (c : CallAt g r G0 H m f hp hb hg ha) (R : RunAt P w g r G0 H m s t d) {s' t' d' : Int} (R' : RunAt P w g r G0 H' m' s' t' d') (e : Ext (mutR g r) H H') : CallAt g r G0 H' m' f hp hb hg ha := by
 have hself := c.nself R
 obtain ⟨hdx, hob⟩ := c.ob
 obtain ⟨bl, hg1, hg2, hg3⟩ := c.bg
 have R2 := R.ob
 obtain ⟨fl, R3, _⟩ := R.flt
 obtain ⟨ks, R4, _⟩ := R.gone
 have R5 := R.held
 have R6 := R.told
 have ins : ∀ {a : Addr} {C dx : Addr} {fs : List (Str × V)}, H a = some (.ins C dx fs) → a ≠ r.self → a ∉ mutR g r := by
  intro a C dx fs ea hs hm
  unfold mutR at hm
  rcases List.mem_cons.mp hm with z | hm
  ·exact hs z
  ·rcases List.mem_cons.mp hm with z | hm
   ·rw [z, R6] at ea; cases ea
   ·rcases List.mem_cons.mp hm with z | hm
    ·rw [z, R3] at ea; cases ea
    ·rcases List.mem_cons.mp hm with z | hm
     ·rw [z, R4] at ea; cases ea
     ·split at hm
      ·cases hm
      ·rw [List.mem_singleton.mp hm, R5] at ea; cases ea
 have lst : ∀ {a : Addr} {xs : List V}, H a = some (.lst xs) → a ≠ r.ta → a ≠ r.fa → (g.mean = false → a ≠ r.ba) → a ∉ mutR g r := by
  intro a xs ea h1 h2 h3 hm
  unfold mutR at hm
  rcases List.mem_cons.mp hm with z | hm
  ·rw [z, R2] at ea; cases ea
  ·rcases List.mem_cons.mp hm with z | hm
   ·exact h1 z
   ·rcases List.mem_cons.mp hm with z | hm
    ·exact h2 z
    ·rcases List.mem_cons.mp hm with z | hm
     ·rw [z, R4] at ea; cases ea
     ·split at hm
      ·cases hm
      ·rename_i hn
       exact h3 (by simpa using hn) (List.mem_singleton.mp hm)
 have dk : ha ∉ mutR g r := by
  intro hm
  have ea := c.as
  unfold mutR at hm
  rcases List.mem_cons.mp hm with z | hm
  ·rw [z, R2] at ea; cases ea
  ·rcases List.mem_cons.mp hm with z | hm
   ·rw [z, R6] at ea; cases ea
   ·rcases List.mem_cons.mp hm with z | hm
    ·rw [z, R3] at ea; cases ea
    ·rcases List.mem_cons.mp hm with z | hm
     ·rw [z, R4] at ea; cases ea
     ·split at hm
      ·cases hm
      ·rw [List.mem_singleton.mp hm, R5] at ea; cases ea
 refine ⟨⟨hdx, e _ _ (ins hob hself) hob⟩, ?_, c.sh, c.ow, ⟨bl, e _ _ (lst hg1 c.gt c.gf fun _ => c.gr) hg1, hg2, hg3⟩, e _ _ dk c.as, c.nt, c.nf, c.gb, c.gt, c.gf, c.gr, c.nb, c.na⟩
 cases hm : g.mean with
 | true =>
  have h1 := c.bx
  unfold mine at h1 ⊢
  rw [hm, if_pos rfl] at h1 ⊢
  exact e _ _ (lst h1 c.nt c.nf fun z => by rw [hm] at z; cases z) h1
 | false =>
  have h1 := R'.held
  unfold mine
  rw [hm, if_neg Bool.false_ne_true, c.sh hm]
  exact h1
end
end L2
set_option maxHeartbeats 1000000
namespace L2
open PySem PySem.Spec PyProof.Rows
noncomputable abbrev selfO (r : RA) (most : Int) (sh : Bool) (state : Str) (steps forks depth sv bk : Int) : HO := .ins r.C r.dx (rflds r most sh state steps forks depth sv bk)
theorem rf_len (r : RA) (most : Int) (sh : Bool) (state : Str) (a b c d e : Int) : (rflds r most sh state a b c d e).length < 1000 := by show 14 < 1000; decide
noncomputable def spStep (C : Addr) : Sp := fun vs H Q _ => ∃ (r : RA) (most : Int) (sh : Bool) (state : Str) (steps forks depth sv bk : Int), vs = [.ref r.self] ∧ r.C = C ∧ H r.self = some (selfO r most sh state steps forks depth sv bk) ∧
 (most ≤ steps → Q (.str "going") H) ∧ (steps < most → Q .non (upd H r.self (selfO r most sh state (steps + 1) forks depth sv bk)))
noncomputable def spNextC (K : PySem.W.Frag) (C : Addr) : Sp := fun vs H Q _ => ∃ (r : RA) (most : Int) (sh : Bool) (state : Str) (steps k depth sv bk : Int) (ch : List Int), vs = [.ref r.self] ∧ r.C = C ∧ H r.self = some (selfO r most sh state steps k depth sv bk) ∧ SqL K H r.ca (ch.map V.int) ∧ 0 ≤ k ∧ ch.length ≤ 1000 ∧
 Q (.int (getB ch k)) (upd H r.self (selfO r most sh state steps (k + 1) depth sv bk))
noncomputable def spLedBy (K : PySem.W.Frag) (C : Addr) : Sp := fun vs H Q _ => ∃ (r : RA) (most : Int) (sh : Bool) (state : Str) (steps k depth sv bk : Int) (ch ns : List Int) (ve : V) (len m : Int), vs = [.ref r.self, ve, .int len] ∧ r.C = C ∧ H r.self = some (selfO r most sh state steps k depth sv bk) ∧ SqL K H r.ca (ch.map V.int) ∧ 0 ≤ k ∧ ch.length ≤ 1000 ∧ Den K H (endD ns) ve ∧ NsOk m ns ∧
 ∀ H' : Hp, H' r.self = some (selfO r most sh state steps (nextOf ch k len ns).2 depth sv bk) → (∀ b, b ≠ r.self → H' b = H b) → Q (.int (nextOf ch k len ns).1) H'
theorem seq_upd {K : PySem.W.Frag} {H : Hp} {a p C dx : Addr} {fs : List (Str × V)} {xs : List V} {o : HO} (hp : H p = some (.ins C dx fs)) (h : SqL K H a xs) : SqL K (upd H p o) a xs := by
 rcases h with (h | ⟨u, h⟩) | h
 ·exact .inl (.inl (by rw [upd_ne (fun z => by rw [z, hp] at h; cases h)]; exact h))
 ·exact .inl (.inr ⟨u, by rw [upd_ne (fun z => by rw [z, hp] at h; cases h)]; exact h⟩)
 ·exact .inr h
theorem seqT_upd {K : PySem.W.Frag} {H : Hp} {a p C dx : Addr} {fs : List (Str × V)} {xs : List V} {o : HO} (hp : H p = some (.ins C dx fs)) (h : SqT K H a xs) : SqT K (upd H p o) a xs := by
 rcases h with (h | ⟨u, h⟩) | h
 ·exact .inl (.inl (by rw [upd_ne (fun z => by rw [z, hp] at h; cases h)]; exact h))
 ·exact .inl (.inr ⟨u, by rw [upd_ne (fun z => by rw [z, hp] at h; cases h)]; exact h⟩)
 ·exact .inr h
theorem r_dgetN {P : Program} {w : World} {σ : St} {H : Hp} {Q : VK} {td ty tx : TE} (h : td σ H fun x H1 => ∃ a ks, x = .ref a ∧ H1 a = some (gO P w ks) ∧ ty σ H1 fun y H2 => tx σ H2 fun z H3 => ∃ ks' k p, y = .ref p ∧ H3 a = some (gO P w ks') ∧ NestAll H3 ks' ∧ NestAt H3 k p ∧ Q ((lookN ks' k).elim z V.int) H3) : tDGetN P w td ty tx σ H Q := h
theorem r_dputN {P : Program} {w : World} {σ : St} {H : Hp} {D : Ends} {td ty tv : TE} (h : tv σ H fun v H1 => td σ H1 fun x H2 => ty σ H2 fun y H3 => ∃ a ks k p n, x = .ref a ∧ y = .ref p ∧ v = .int n ∧ H3 a = some (gO P w ks) ∧ NestAll H3 ks ∧ NestAt H3 k p ∧ ks.length < sizeLine ∧ D.nx σ (upd H3 a (gO P w (putN ks k p n)))) : sDPutN P w td ty tv D σ H := h
noncomputable def spCount (P : Program) (w : World) (K : PySem.W.Frag) (C CC : Addr) : Sp := fun vs H Q _ => ∃ (r : RA) (most : Int) (sh : Bool) (state : Str) (steps forks depth sv bk : Int) (hp hdx hb hg ha wy : Addr) (n w0 w1 : Int) (ks : List N3), vs = [.ref r.self, .ref hp, .ref wy] ∧ r.C = C ∧ r.CC = CC ∧
 H r.self = some (selfO r most sh state steps forks depth sv bk) ∧ H hp = some (.ins CC hdx (cflds n hb hg ha)) ∧ H wy = some (.tup [.int w0, .int w1]) ∧ H r.ga = some (gO P w ks) ∧ NestAll H ks ∧ ks.length ≤ 100000 ∧
 ∀ (p : Addr) (H' : Hp), H p = none → Ext [r.ga] H H' → H' r.ga = some (gO P w (putN ks (n, w0, w1) p ((lookN ks (n, w0, w1)).getD 0 + 1))) → NestAt H' (n, w0, w1) p → Q .non H'
end L2
set_option maxHeartbeats 1000000
namespace L2
open PySem PySem.Spec PyProof.Rows
end L2
set_option maxHeartbeats 1000000
namespace L2
open PySem PySem.Spec PyProof.Rows
end L2
set_option maxHeartbeats 1000000
namespace L2
open PySem PySem.Spec PyProof.Rows
end L2
set_option maxHeartbeats 1000000
namespace L2
open PySem PySem.Spec PyProof.Rows
theorem nodup_len : ∀ (m : Nat) {ns : List Int}, ns.Nodup → (∀ n ∈ ns, 0 ≤ n ∧ n < (m : Int)) → ns.length ≤ m
 | 0, ns, _, h => by
  cases ns with
  | nil => exact Nat.le_refl _
  | cons a r => have := h a (List.mem_cons_self ..); omega
 | m + 1, ns, hn, h => by
  have ih := nodup_len m (ns := ns.erase (m : Int)) (hn.erase _) fun n hn' => by
   have h1 := (hn.mem_erase_iff).mp hn'
   have h2 := h n h1.2
   have h3 := h1.1
   omega
  by_cases hm : (m : Int) ∈ ns
  ·rw [List.length_erase_of_mem hm] at ih; omega
  ·rw [List.erase_of_not_mem hm] at ih; omega
end L2
set_option maxHeartbeats 1000000
namespace L2
open PySem PySem.Spec PyProof.Rows
theorem putB_len (l : List Int) (b v : Int) : (putB l b v).length = l.length := by unfold putB; rw [List.length_set]
theorem putA_keys (as : List (Int × Int)) (b v : Int) : ((putA as b v).map (·.1)) = if (as.any fun p => decide (p.1 = b)) = true then as.map (·.1) else as.map (·.1) ++ [b] := by
 unfold putA
 split
 ·rw [List.map_map]
  congr 1
  funext p
  show (if p.1 = b then (p.1, v) else p).1 = p.1
  split <;> rfl
 ·rw [List.map_append]; rfl
theorem putA_ok {as : List (Int × Int)} {b v : Int} (h : (as.map (·.1)).Nodup ∧ ∀ p ∈ as, 0 ≤ p.1 ∧ p.1 < 8) (hb : 0 ≤ b ∧ b < 8) : ((putA as b v).map (·.1)).Nodup ∧ ∀ p ∈ putA as b v, 0 ≤ p.1 ∧ p.1 < 8 := by
 have hk := putA_keys as b v
 have hr : ∀ y ∈ (putA as b v).map (·.1), 0 ≤ y ∧ y < 8 := by
  intro y hy
  rw [hk] at hy
  split at hy
  ·obtain ⟨p, hp, rfl⟩ := List.mem_map.mp hy; exact h.2 p hp
  ·rcases List.mem_append.mp hy with z | z
   ·obtain ⟨p, hp, rfl⟩ := List.mem_map.mp z; exact h.2 p hp
   ·rw [List.mem_singleton.mp z]; exact hb
 refine ⟨?_, fun p hp => hr p.1 (List.mem_map.mpr ⟨p, hp, rfl⟩)⟩
 rw [hk]
 split
 ·exact h.1
 ·rename_i hn
  refine List.nodup_append.mpr ⟨h.1, by simp, fun x hx y hy e => ?_⟩
  have hy := List.mem_singleton.mp hy
  subst hy
  subst e
  obtain ⟨p, hp, rfl⟩ := List.mem_map.mp hx
  exact hn (List.any_eq_true.mpr ⟨p, hp, decide_eq_true rfl⟩)
theorem as_len {as : List (Int × Int)} (h : (as.map (·.1)).Nodup ∧ ∀ p ∈ as, 0 ≤ p.1 ∧ p.1 < 8) : as.length ≤ 8 := by
 have := nodup_len 8 h.1 fun n hn => by obtain ⟨p, hp, rfl⟩ := List.mem_map.mp hn; exact h.2 p hp
 rwa [List.length_map] at this
theorem next_range {ch ns : List Int} {taken m : Int} (h : NsOk m ns) (hm : 1 ≤ m) : 0 ≤ (nextOf ch taken m ns).1 ∧ (nextOf ch taken m ns).1 ≤ m ∧ taken ≤ (nextOf ch taken m ns).2 := by
 rcases h with e | ⟨x, e, h1, h2⟩ | ⟨x, y, e, hxy, h1, h2, h3, h4⟩
 ·subst e; exact ⟨by show 0 ≤ m; omega, Int.le_refl _, Int.le_refl _⟩
 ·subst e; exact ⟨by show 0 ≤ x; omega, by show x ≤ m; omega, Int.le_refl _⟩
 ·subst e
  refine ⟨?_, ?_, by show taken ≤ taken + 1; omega⟩
  ·show 0 ≤ (if _ then x else y)
   split <;> omega
  ·show (if _ then x else y) ≤ m
   split <;> omega
theorem mine_len {g : Gv} {m : Ms} {f : Fr} (h : MsOk g m) (hf : FrOk g f) : (mine g m f).length = 8 := by unfold mine; split; exact hf.bx; exact h.held
section
variable {g : Gv} {m m' : Ms} {f : Fr} {rest : List Fr} {c : Nat}
theorem MsOk.tail (h : MsOk g m) (e : m.st = f :: rest) : ∀ x ∈ rest, FrOk g x := fun x hx => h.st x (by rw [e]; exact List.mem_cons_of_mem _ hx)
theorem MsOk.top (h : MsOk g m) (e : m.st = f :: rest) : FrOk g f := h.st f (by rw [e]; exact List.mem_cons_self ..)
theorem st_ok (hf : FrOk g f) (hr : ∀ x ∈ rest, FrOk g x) : ∀ x ∈ f :: rest, FrOk g x := fun x hx => by
 rcases List.mem_cons.mp hx with z | z
 ·rw [z]; exact hf
 ·exact hr x z
theorem MsOk.same (h : MsOk g m) (e : m.st = f :: rest) {f' : Fr} (hf : FrOk g f') (h1 : m'.held.length = 8) (h2 : m'.steps = m.steps ∨ (m'.steps = m.steps + 1 ∧ m.steps ≠ g.most)) (h3 : (m'.told.length : Int) ≤ m'.steps) (h4 : m'.flt = m.flt) (h5 : (m'.log.length : Int) ≤ m.log.length + (m'.steps - m.steps)) (h6 : m.taken ≤ m'.taken) (h7 : m'.st = f' :: rest) : MsOk g m' := by
 have a1 := h.steps
 have a2 := h.flt
 have a3 := h.log
 have a4 := h.taken
 have a5 := h.deep
 have el : m'.st.length = m.st.length := by rw [h7, e]; rfl
 refine ⟨h1, by omega, h3, by rw [h4, el]; omega, by rw [el]; omega, by omega, by rw [h7]; exact st_ok hf (h.tail e), by rw [el]; exact a5⟩
theorem mdeed_ok (hg : GvOk g) (h : MsOk g m) (e : m.st = f :: rest) {f' : Fr} (hf : FrOk g f') {d : Deed} (hd : DeedOk (g.ws.length : Int) d) (es : mdeed g m f' rest d = (m', c)) : MsOk g m' := by
 have a1 := h.steps
 have a3 := h.told
 have hml := mine_len h hf
 have stop : ∀ {k : Nat}, (({ m with st := f' :: rest } : Ms), k) = (m', c) → MsOk g m' := by
  intro k ez
  cases ez
  exact h.same e hf h.held (.inl rfl) a3 rfl (by simp) (Int.le_refl _) rfl
 have setM : m.steps ≠ g.most → ∀ l : List Int, l.length = 8 → (setMine g { m with steps := m.steps + 1 } f' rest l, 0) = (m', c) → MsOk g m' := by
  intro hs l hl ez
  unfold setMine at ez
  split at ez
  ·cases ez
   exact h.same e (f' := { f' with bx := l }) ⟨hl, hf.wk, hf.pos, hf.as⟩ h.held (.inr ⟨rfl, hs⟩) (by show (m.told.length : Int) ≤ m.steps + 1; omega) rfl (by show (m.log.length : Int) ≤ m.log.length + (m.steps + 1 - m.steps); omega) (Int.le_refl _) rfl
  ·cases ez
   exact h.same e hf hl (.inr ⟨rfl, hs⟩) (by show (m.told.length : Int) ≤ m.steps + 1; omega) rfl (by show (m.log.length : Int) ≤ m.log.length + (m.steps + 1 - m.steps); omega) (Int.le_refl _) rfl
 cases d with
 | save b =>
  cases es
  exact h.same e (f' := { f' with as := putA f'.as b (getB m.held b) }) ⟨hf.bx, hf.wk, hf.pos, putA_ok hf.as hd⟩ h.held (.inl rfl) a3 rfl (by simp) (Int.le_refl _) rfl
 | back b =>
  simp only [mdeed] at es
  cases hl : f'.as.lookup b with
  | none => rw [hl] at es; exact stop es
  | some v =>
   rw [hl] at es
   cases es
   exact h.same e hf (by show (putB m.held b v).length = 8; rw [putB_len]; exact h.held) (.inl rfl) a3 rfl (by simp) (Int.le_refl _) rfl
 | call x =>
  simp only [mdeed] at es
  split at es
  ·exact stop es
  ·rename_i hs
   split at es
   ·exact stop es
   ·rename_i hn
    cases es
    obtain ⟨d1, d2⟩ := hd
    have b1 := h.flt
    have b2 := h.log
    have b3 := h.deep
    have el : (m.st.length : Int) = rest.length + 1 := by rw [e]; simp
    refine ⟨h.held, by show 0 ≤ m.steps + 1 ∧ m.steps + 1 ≤ g.most; omega, by show (m.told.length : Int) ≤ m.steps + 1; omega, ?_, ?_, h.taken, ?_, ?_⟩
    ·show (m.flt.length : Int) + 8 * ((_ :: f' :: rest).length : Int) ≤ 8 * (m.steps + 1 + 1)
     simp only [List.length_cons]; push_cast; omega
    ·show (m.log.length : Int) + ((_ :: f' :: rest).length : Int) ≤ 2 * (m.steps + 1) + 1
     simp only [List.length_cons]; push_cast; omega
    ·refine st_ok ⟨hml, ?_, ⟨by show (-1 : Int) ≤ -1; decide, by show (-1 : Int) ≤ 20; decide⟩, .nil, fun p hp => by cases hp⟩ (st_ok hf (h.tail e))
     refine ⟨_, List.getElem?_eq_getElem (show x.toNat < g.ws.length by omega), Int.le_refl _, by show (0 : Int) ≤ _; omega⟩
    ·show (_ :: f' :: rest).length ≤ 20
     rw [e] at b3
     simp only [List.length_cons] at b3 ⊢
     omega
 | tell b =>
  simp only [mdeed] at es
  split at es
  ·exact stop es
  ·rename_i hs
   cases es
   exact h.same e hf h.held (.inr ⟨rfl, hs⟩) (by show ((m.told ++ [_]).length : Int) ≤ m.steps + 1; rw [List.length_append]; simp; omega) rfl (by show (m.log.length : Int) ≤ m.log.length + (m.steps + 1 - m.steps); omega) (Int.le_refl _) rfl
 | set b v =>
  simp only [mdeed] at es
  split at es
  ·exact stop es
  ·rename_i hs
   exact setM hs _ (by rw [putB_len]; exact hml) es
 | add b o =>
  simp only [mdeed] at es
  split at es
  ·exact stop es
  ·rename_i hs
   exact setM hs _ (by rw [putB_len]; exact hml) es
theorem mstep_ok (hg : GvOk g) (h : MsOk g m) (es : mstep g m = some (m', c)) : MsOk g m' := by
 unfold mstep at es
 cases e : m.st with
 | nil => rw [e] at es; cases es
 | cons f rest =>
  rw [e] at es
  dsimp only at es
  have hf := h.top e
  have a1 := h.steps
  have a2 := h.flt
  have a3 := h.log
  have a4 := h.told
  have a5 := h.deep
  have el : (m.st.length : Int) = rest.length + 1 := by rw [e]; simp
  obtain ⟨wk, hwk, w1, w2⟩ := hf.wk
  rw [hwk] at es
  dsimp only at es
  obtain ⟨mm, hm1, hm2, hOk⟩ := hg.ws.all wk (List.mem_of_getElem? hwk)
  have hlen := hOk.len
  split at es
  ·cases es
   refine ⟨h.held, a1, a4, ?_, ?_, h.taken, h.tail e, by show rest.length ≤ 20; omega⟩
   ·show ((if g.mean = true then m.flt else m.flt ++ _).length : Int) + 8 * (rest.length : Int) ≤ 8 * (m.steps + 1)
    split
    ·omega
    ·rw [List.length_append, List.length_map]
     have : (badB m f).length ≤ 8 := by
      unfold badB
      refine Nat.le_trans (List.length_filter_le _ _) ?_
      simp
     push_cast
     omega
   ·show ((m.log ++ [_]).length : Int) + (rest.length : Int) ≤ 2 * m.steps + 1
    rw [List.length_append]; simp; omega
  ·rename_i hne
   obtain ⟨b, hb⟩ : ∃ b, wk[f.w1.toNat]? = some b := ⟨_, List.getElem?_eq_getElem (by omega)⟩
   rw [hb] at es
   dsimp only at es
   have hbok := hOk.blk b (List.mem_of_getElem? hb)
   split at es
   ·split at es
    ·cases es; exact h
    ·rename_i hs
     cases es
     refine h.same e (f' := { f with pos := 0 }) ⟨hf.bx, hf.wk, ⟨by show (-1 : Int) ≤ 0; decide, by show (0 : Int) ≤ 20; decide⟩, hf.as⟩ h.held (.inr ⟨rfl, hs⟩) (by show (m.told.length : Int) ≤ m.steps + 1; omega) rfl ?_ (Int.le_refl _) rfl
     show ((m.log ++ [_]).length : Int) ≤ m.log.length + (m.steps + 1 - m.steps)
     rw [List.length_append]; simp; omega
   ·rename_i hp
    cases hd : b.ds[f.pos.toNat]? with
    | none =>
     rw [hd] at es
     dsimp only at es
     cases es
     have hn := next_range (ch := g.ch) (taken := m.taken) (m := mm) hbok.ns hm1
     rw [← hlen] at hn
     exact h.same e (f' := { f with w0 := f.w1, w1 := (nextOf g.ch m.taken wk.length b.ns).1, pos := -1 }) ⟨hf.bx, ⟨wk, hwk, hn.1, hn.2.1⟩, ⟨by show (-1 : Int) ≤ -1; decide, by show (-1 : Int) ≤ 20; decide⟩, hf.as⟩ h.held (.inl rfl) a4 rfl (by simp) hn.2.2 rfl
    | some d =>
     rw [hd] at es
     dsimp only at es
     have hpl : f.pos.toNat < b.ds.length := (List.getElem?_eq_some_iff.mp hd).1
     have hfew := hbok.few
     exact mdeed_ok hg h e (f' := { f with pos := f.pos + 1 }) ⟨hf.bx, hf.wk, by show -1 ≤ f.pos + 1 ∧ f.pos + 1 ≤ 20; have := hf.pos; omega, hf.as⟩ (hbok.ds d (List.mem_of_getElem? hd)) (Option.some.inj es)
theorem Go.ok (hg : GvOk g) (h : MsOk g m) (k : Go g m m') : MsOk g m' := by
 induction k with
 | refl => exact h
 | step e _ ih => exact ih (mstep_ok hg h e)
end
end L2
set_option maxHeartbeats 1000000
namespace L2
open PySem PySem.Spec PyProof.Rows
section
variable {P : Program} {w : World} {K : PySem.W.Frag} {g : Gv} {r : RA} {G0 H H' : Hp} {m m' : Ms} {s t d : Int}
structure Apart (r : RA) : Prop where
 st : r.self ≠ r.ta
 sf : r.self ≠ r.fa
 sb : r.self ≠ r.ba
 sg : r.self ≠ r.ga
 tf : r.ta ≠ r.fa
 tb : r.ta ≠ r.ba
 tg : r.ta ≠ r.ga
 fb : r.fa ≠ r.ba
 fg : r.fa ≠ r.ga
 bg : r.ba ≠ r.ga
theorem RunAt.apart (R : RunAt P w g r G0 H m s t d) (o : RaOk K g r G0) : Apart r := by
 have h1 := R.ob
 have h2 := R.told
 obtain ⟨fl, h3, _⟩ := R.flt
 have h4 := R.held
 obtain ⟨ks, h5, _⟩ := R.gone
 refine ⟨fun z => ?_, fun z => ?_, fun z => ?_, fun z => ?_, o.tf, o.tb, fun z => ?_, o.fb, fun z => ?_, fun z => ?_⟩
 ·rw [z, h2] at h1; cases h1
 ·rw [z, h3] at h1; cases h1
 ·rw [z, h4] at h1; cases h1
 ·rw [z, h5] at h1; cases h1
 ·rw [z, h5] at h2; cases h2
 ·rw [z, h5] at h3; cases h3
 ·rw [z, h5] at h4; cases h4
theorem RunAt.other (R : RunAt P w g r G0 H m s t d) {x : Addr} (e : Ext [x] H H') (nt : ∀ xs, H x ≠ some (.tup xs)) (hx : x ≠ r.self ∧ x ≠ r.ta ∧ x ≠ r.fa ∧ x ≠ r.ba ∧ x ≠ r.ga) (hn : G0 x = none) : RunAt P w g r G0 H' m s t d := by
 obtain ⟨n1, n2, n3, n4, n5⟩ := hx
 obtain ⟨fl, f1, f2, f3⟩ := R.flt
 obtain ⟨ks, k1, k2, k3, k4⟩ := R.gone
 have nt' : ∀ z ∈ [x], ∀ xs, H z ≠ some (.tup xs) := fun z hz => by rw [List.mem_singleton.mp hz]; exact nt
 refine ⟨e _ _ (by simpa using n1.symm) R.ob, e _ _ (by simpa using n2.symm) R.told, ⟨fl, e _ _ (by simpa using n3.symm) f1, f2, fun z => (f3 z).mono e nt'⟩, e _ _ (by simpa using n4.symm) R.held, ⟨ks, e _ _ (by simpa using n5.symm) k1, fun y hy => (k2 y hy).mono e nt', k3, k4⟩, ?_⟩
 exact ((R.old.mono (by simp)).trans e).drop hn
theorem RunAt.fresh (R : RunAt P w g r G0 H m s t d) (e : Ext [] H H') : RunAt P w g r G0 H' m s t d := by
 obtain ⟨fl, f1, f2, f3⟩ := R.flt
 obtain ⟨ks, k1, k2, k3, k4⟩ := R.gone
 exact ⟨e _ _ (by simp) R.ob, e _ _ (by simp) R.told, ⟨fl, e _ _ (by simp) f1, f2, fun z => (f3 z).mono e (by simp)⟩, e _ _ (by simp) R.held, ⟨ks, e _ _ (by simp) k1, fun y hy => (k2 y hy).mono e (by simp), k3, k4⟩, R.old.trans e⟩
theorem RunAt.setSelf (R : RunAt P w g r G0 H m s t d) (o : RaOk K g r G0) (s' t' d' sv bk : Int) : RunAt P w g r G0 (upd H r.self (selfO r g.most (!g.mean) "ended" s' t' d' sv bk)) { m with sv := sv, bk := bk } s' t' d' := by
 have a := R.apart o
 obtain ⟨fl, f1, f2, f3⟩ := R.flt
 obtain ⟨ks, k1, k2, k3, k4⟩ := R.gone
 have e : Ext [r.self] H (upd H r.self (selfO r g.most (!g.mean) "ended" s' t' d' sv bk)) := .put (by simp)
 have nt' : ∀ z ∈ [r.self], ∀ xs, H z ≠ some (.tup xs) := fun z hz xs h => by rw [List.mem_singleton.mp hz, R.ob] at h; cases h
 refine ⟨upd_same, e _ _ (by simpa using a.st.symm) R.told, ⟨fl, e _ _ (by simpa using a.sf.symm) f1, f2, fun z => (f3 z).mono e nt'⟩, e _ _ (by simpa using a.sb.symm) R.held, ⟨ks, e _ _ (by simpa using a.sg.symm) k1, fun y hy => (k2 y hy).mono e nt', k3, k4⟩, ?_⟩
 exact ((R.old.mono (by simp)).trans e).drop o.nself
theorem RunAt.same (R : RunAt P w g r G0 H m s t d) (h1 : m'.told = m.told) (h2 : m'.flt = m.flt) (h3 : m'.sv = m.sv) (h4 : m'.bk = m.bk) (h5 : m'.held = m.held) (h6 : m'.log = m.log) (h7 : m.steps - m.st.length ≤ m'.steps - m'.st.length) : RunAt P w g r G0 H m' s t d := by
 obtain ⟨fl, f1, f2, f3⟩ := R.flt
 obtain ⟨ks, k1, k2, k3, k4⟩ := R.gone
 exact ⟨by rw [h3, h4]; exact R.ob, by rw [h1]; exact R.told, ⟨fl, f1, by omega, by rw [h2]; exact f3⟩, by rw [h5]; exact R.held, ⟨ks, k1, k2, by rw [h6]; exact k3, by rw [h6]; exact k4⟩, R.old⟩
theorem RunAt.setTold (R : RunAt P w g r G0 H m s t d) (o : RaOk K g r G0) (v : Int) : RunAt P w g r G0 (upd H r.ta (.lst (m.told.map V.int ++ [.int v]))) { m with told := m.told ++ [v] } s t d := by
 have a := R.apart o
 obtain ⟨fl, f1, f2, f3⟩ := R.flt
 obtain ⟨ks, k1, k2, k3, k4⟩ := R.gone
 have e : Ext [r.ta] H (upd H r.ta (.lst (m.told.map V.int ++ [.int v]))) := .put (by simp)
 have nt' : ∀ z ∈ [r.ta], ∀ xs, H z ≠ some (.tup xs) := fun z hz xs h => by rw [List.mem_singleton.mp hz, R.told] at h; cases h
 refine ⟨e _ _ (by simpa using a.st) R.ob, by rw [upd_same, List.map_append]; rfl, ⟨fl, e _ _ (by simpa using a.tf.symm) f1, f2, fun z => (f3 z).mono e nt'⟩, e _ _ (by simpa using a.tb.symm) R.held, ⟨ks, e _ _ (by simpa using a.tg.symm) k1, fun y hy => (k2 y hy).mono e nt', k3, k4⟩, ?_⟩
 exact ((R.old.mono (by simp)).trans e).drop o.nta
theorem RunAt.setHeld (R : RunAt P w g r G0 H m s t d) (o : RaOk K g r G0) (l : List Int) : RunAt P w g r G0 (upd H r.ba (.lst (l.map V.int))) { m with held := l } s t d := by
 have a := R.apart o
 obtain ⟨fl, f1, f2, f3⟩ := R.flt
 obtain ⟨ks, k1, k2, k3, k4⟩ := R.gone
 have e : Ext [r.ba] H (upd H r.ba (.lst (l.map V.int))) := .put (by simp)
 have nt' : ∀ z ∈ [r.ba], ∀ xs, H z ≠ some (.tup xs) := fun z hz xs h => by rw [List.mem_singleton.mp hz, R.held] at h; cases h
 refine ⟨e _ _ (by simpa using a.sb) R.ob, e _ _ (by simpa using a.tb) R.told, ⟨fl, e _ _ (by simpa using a.fb) f1, f2, fun z => (f3 z).mono e nt'⟩, upd_same, ⟨ks, e _ _ (by simpa using a.bg.symm) k1, fun y hy => (k2 y hy).mono e nt', k3, k4⟩, ?_⟩
 exact ((R.old.mono (by simp)).trans e).drop o.nba
theorem RunAt.setGone (R : RunAt P w g r G0 H m s t d) (o : RaOk K g r G0) {ks : List N3} {k : K3} {p : Addr} (hks : H r.ga = some (gO P w ks)) (k2 : NestAll H ks) (k3 : ks.length ≤ m.log.length) (k4 : ∀ k, lookN ks k = cntL m.log k) (e : Ext [r.ga] H H') (h1 : H' r.ga = some (gO P w (putN ks k p ((lookN ks k).getD 0 + 1)))) (h2 : NestAt H' k p) : RunAt P w g r G0 H' { m with log := m.log ++ [k] } s t d := by
 have a := R.apart o
 obtain ⟨fl, f1, f2, f3⟩ := R.flt
 have nt' : ∀ z ∈ [r.ga], ∀ xs, H z ≠ some (.tup xs) := fun z hz xs h => by rw [List.mem_singleton.mp hz, hks] at h; cases h
 refine ⟨e _ _ (by simpa using a.sg) R.ob, e _ _ (by simpa using a.tg) R.told, ⟨fl, e _ _ (by simpa using a.fg) f1, f2, fun z => (f3 z).mono e nt'⟩, e _ _ (by simpa using a.bg) R.held, ⟨_, h1, fun y hy => ?_, ?_, fun k' => ?_⟩, ?_⟩
 ·rcases mem_putN hy with ⟨z, hz, e1, e2⟩ | ⟨e1, e2⟩
  ·rw [e1, e2]; exact (k2 z hz).mono e nt'
  ·rw [e1, e2]; exact h2
 ·have := len_putN ks k p ((lookN ks k).getD 0 + 1)
  show _ ≤ (m.log ++ [k]).length
  rw [List.length_append, List.length_singleton]; omega
 ·rw [lookN_putN]
  show _ = cntL (m.log ++ [k]) k'
  rw [cntL_snoc, k4, k4]
 ·exact ((R.old.mono (by simp)).trans e).drop o.nga
theorem RunAt.setFlt (R : RunAt P w g r G0 H m s t d) (o : RaOk K g r G0) {fl us : List V} {fs : List (Int × Int)} (hf : H r.fa = some (.lst fl)) (hu : PrsAt H us fs) (hb : ((fl ++ us).length : Int) + 8 * m'.st.length ≤ 8 * (m'.steps + 1)) (hp : g.mean = false → PrsAt H fl m.flt) (h1 : m'.told = m.told) (h2 : m'.flt = if g.mean = true then m.flt else m.flt ++ fs) (h3 : m'.sv = m.sv) (h4 : m'.bk = m.bk) (h5 : m'.held = m.held) (h6 : m'.log = m.log) : RunAt P w g r G0 (upd H r.fa (.lst (fl ++ us))) m' s t d := by
 have a := R.apart o
 obtain ⟨ks, k1, k2, k3, k4⟩ := R.gone
 have e : Ext [r.fa] H (upd H r.fa (.lst (fl ++ us))) := .put (by simp)
 have nt' : ∀ z ∈ [r.fa], ∀ xs, H z ≠ some (.tup xs) := fun z hz xs h => by rw [List.mem_singleton.mp hz, hf] at h; cases h
 refine ⟨by rw [h3, h4]; exact e _ _ (by simpa using a.sf) R.ob, by rw [h1]; exact e _ _ (by simpa using a.tf) R.told, ⟨_, upd_same, hb, fun z => ?_⟩, by rw [h5]; exact e _ _ (by simpa using a.fb.symm) R.held, ⟨ks, e _ _ (by simpa using a.fg.symm) k1, fun y hy => (k2 y hy).mono e nt', by rw [h6]; exact k3, by rw [h6]; exact k4⟩, ?_⟩
 ·rw [h2, z, if_neg Bool.false_ne_true]
  have app : ∀ {a b : List V} {x y : List (Int × Int)}, PrsAt (upd H r.fa (.lst (fl ++ us))) a x → PrsAt (upd H r.fa (.lst (fl ++ us))) b y → PrsAt (upd H r.fa (.lst (fl ++ us))) (a ++ b) (x ++ y) := by
   intro a b x y h
   induction h with
   | nil => intro k; exact k
   | cons q _ ih => intro k; exact .cons q (ih k)
  exact app ((hp z).mono e nt') (hu.mono e nt')
 ·exact ((R.old.mono (by simp)).trans e).drop o.nfa
end
end L2
set_option maxHeartbeats 1000000
namespace L2
open PySem PySem.Spec PyProof.Rows
section
variable {P : Program} {w : World} {K : PySem.W.Frag} {g : Gv} {r : RA} {G0 H H' : Hp} {m m' : Ms} {f f' : Fr} {hp hb hg ha : Addr} {s t d : Int}
theorem CallAt.eq (c : CallAt g r G0 H m f hp hb hg ha) (h1 : f'.n = f.n) (h2 : f'.bx = f.bx) (h3 : f'.as = f.as) (h4 : m'.held = m.held) : CallAt g r G0 H m' f' hp hb hg ha := by
 refine ⟨by rw [h1]; exact c.ob, ?_, c.sh, c.ow, by rw [h2]; exact c.bg, by rw [h3]; exact c.as, c.nt, c.nf, c.gb, c.gt, c.gf, c.gr, c.nb, c.na⟩
 have := c.bx
 unfold mine at this ⊢
 rw [h2, h4]; exact this
theorem CallAt.nha (c : CallAt g r G0 H m f hp hb hg ha) : hp ≠ ha ∧ hb ≠ ha ∧ hg ≠ ha := by
 obtain ⟨hdx, e⟩ := c.ob
 obtain ⟨bl, e2, _⟩ := c.bg
 refine ⟨fun z => ?_, fun z => ?_, fun z => ?_⟩
 ·rw [z, c.as] at e; cases e
 ·have := c.bx; rw [z, c.as] at this; cases this
 ·rw [z, c.as] at e2; cases e2
theorem CallAt.nhb (c : CallAt g r G0 H m f hp hb hg ha) : hp ≠ hb := by
 obtain ⟨hdx, e⟩ := c.ob
 intro z
 rw [z, c.bx] at e; cases e
theorem CallAt.setAs (c : CallAt g r G0 H m f hp hb hg ha) (as : List (Int × Int)) : CallAt g r G0 (upd H ha (.dK (asD as))) m { f with as := as } hp hb hg ha := by
 obtain ⟨n1, n2, n3⟩ := c.nha
 obtain ⟨hdx, e⟩ := c.ob
 obtain ⟨bl, e2, e3⟩ := c.bg
 exact ⟨⟨hdx, by rw [upd_ne n1]; exact e⟩, by rw [upd_ne n2]; exact c.bx, c.sh, c.ow, ⟨bl, by rw [upd_ne n3]; exact e2, e3⟩, upd_same, c.nt, c.nf, c.gb, c.gt, c.gf, c.gr, c.nb, c.na⟩
theorem CallAt.setBx (c : CallAt g r G0 H m f hp hb hg ha) (l : List Int) (h : mine g m' f' = l) (h1 : f'.n = f.n) (h2 : g.mean = false → f'.bx = f.bx) (h3 : f'.as = f.as) : CallAt g r G0 (upd H hb (.lst (l.map V.int))) m' f' hp hb hg ha := by
 obtain ⟨n1, n2, n3⟩ := c.nha
 obtain ⟨hdx, e⟩ := c.ob
 obtain ⟨bl, e2, e3, e4⟩ := c.bg
 exact ⟨⟨hdx, by rw [upd_ne c.nhb, h1]; exact e⟩, by rw [upd_same, h], c.sh, c.ow, ⟨bl, by rw [upd_ne c.gb]; exact e2, e3, fun z => by rw [h2 z]; exact e4 z⟩, by rw [upd_ne n2.symm, h3]; exact c.as, c.nt, c.nf, c.gb, c.gt, c.gf, c.gr, c.nb, c.na⟩
theorem CallAt.fresh (c : CallAt g r G0 H m f hp hb hg ha) (e : Ext [] H H') : CallAt g r G0 H' m f hp hb hg ha := by
 obtain ⟨hdx, e1⟩ := c.ob
 obtain ⟨bl, e2, e3⟩ := c.bg
 exact ⟨⟨hdx, e _ _ (by simp) e1⟩, e _ _ (by simp) c.bx, c.sh, c.ow, ⟨bl, e _ _ (by simp) e2, e3⟩, e _ _ (by simp) c.as, c.nt, c.nf, c.gb, c.gt, c.gf, c.gr, c.nb, c.na⟩
theorem mut_self : r.self ∈ mutR g r := by simp [mutR]
theorem mut_ta : r.ta ∈ mutR g r := by simp [mutR]
theorem mut_ga : r.ga ∈ mutR g r := by simp [mutR]
theorem mut_ba (h : g.mean = false) : r.ba ∈ mutR g r := by simp [mutR, h]
end
def DeedAt (g : Gv) (f : Fr) (d : Deed) : Prop := ∃ wk b, g.ws[f.n]? = some wk ∧ f.w1 ≠ (wk.length : Int) ∧ wk[f.w1.toNat]? = some b ∧ 0 ≤ f.pos ∧ b.ds[f.pos.toNat]? = some d
theorem mstep_deed {g : Gv} {m : Ms} {f : Fr} {rest : List Fr} {d : Deed} (e : m.st = f :: rest) (h : DeedAt g f d) : mstep g m = some (mdeed g m { f with pos := f.pos + 1 } rest d) := by
 obtain ⟨wk, b, h1, h2, h3, h4, h5⟩ := h
 unfold mstep
 rw [e]
 dsimp only
 rw [h1]
 dsimp only
 rw [if_neg h2, h3]
 dsimp only
 rw [if_neg (by omega), h5]
theorem DeedAt.ok {g : Gv} {f : Fr} {d : Deed} (hg : GvOk g) (h : DeedAt g f d) : DeedOk (g.ws.length : Int) d := by
 obtain ⟨wk, b, h1, h2, h3, h4, h5⟩ := h
 obtain ⟨mm, _, _, hOk⟩ := hg.ws.all wk (List.mem_of_getElem? h1)
 exact (hOk.blk b (List.mem_of_getElem? h3)).ds d (List.mem_of_getElem? h5)
theorem DeedAt.plain {g : Gv} {f : Fr} {d : Deed} (hg : GvOk g) (h : DeedAt g f d) (hd : (∃ b, d = .save b) ∨ ∃ b, d = .back b) : g.mean = false := by
 obtain ⟨wk, b, h1, h2, h3, h4, h5⟩ := h
 cases hm : g.mean with
 | false => rfl
 | true =>
  obtain ⟨p1, p2⟩ := hg.plain hm wk (List.mem_of_getElem? h1) b (List.mem_of_getElem? h3) d (List.mem_of_getElem? h5)
  rcases hd with ⟨x, e⟩ | ⟨x, e⟩
  ·exact absurd e (p1 x)
  ·exact absurd e (p2 x)
structure Pre (P : Program) (w : World) (K : PySem.W.Frag) (C CC : Addr) (g : Gv) (r : RA) (G0 H : Hp) (m : Ms) (f : Fr) (rest : List Fr) (hp hb hg ha : Addr) : Prop where
 gv : GvOk g
 ra : RaOk K g r G0
 ms : MsOk g m
 run : RunAt P w g r G0 H m m.steps m.taken m.st.length
 cal : CallAt g r G0 H m f hp hb hg ha
 st : m.st = f :: rest
 c : r.C = C
 cc : r.CC = CC
def Goes (P : Program) (w : World) (g : Gv) (r : RA) (G0 H : Hp) (m : Ms) (f : Fr) (rest : List Fr) (hp hb hg ha : Addr) (pos : Int) (Q : VK) : Prop := ∀ (m' : Ms) (f' : Fr) (H' : Hp), Go g m m' → m'.st = f' :: rest → f'.n = f.n → f'.w0 = f.w0 → f'.w1 = f.w1 → f'.pos = pos → RunAt P w g r G0 H' m' m'.steps m'.taken m'.st.length → CallAt g r G0 H' m' f' hp hb hg ha → Ext (hb :: ha :: mutR g r) H H' → Q .non H'
def Stops (P : Program) (w : World) (g : Gv) (r : RA) (G0 : Hp) (m : Ms) (Q : VK) : Prop := ∀ (m' : Ms) (c : Nat) (mid : Ms) (H' : Hp) (s t d : Int), Go g m mid → mstep g mid = some (m', c) → c ≠ 0 → RunAt P w g r G0 H' m' s t d → Q (.str (codeS c)) H'
noncomputable def spLay (P : Program) (w : World) (K : PySem.W.Frag) (C CC : Addr) : Sp := fun vs H Q _ => ∃ (r : RA) (g : Gv) (G0 : Hp) (m : Ms) (f : Fr) (rest : List Fr) (hp hb hg ha : Addr) (dv : V) (d : Deed), vs = [.ref r.self, .ref hp, dv] ∧ Pre P w K C CC g r G0 H m f rest hp hb hg ha ∧ Den K H (deedD d) dv ∧ DeedAt g f d ∧ ((∃ b, d = .save b) ∨ ∃ b, d = .back b) ∧
 Goes P w g r G0 H m f rest hp hb hg ha (f.pos + 1) Q ∧ Stops P w g r G0 m Q
noncomputable def spAct (P : Program) (w : World) (K : PySem.W.Frag) (C CC : Addr) (N : Nat) : Sp := fun vs H Q _ => ∃ (r : RA) (g : Gv) (G0 : Hp) (m : Ms) (f : Fr) (rest : List Fr) (hp hb hg ha : Addr) (dv : V) (d : Deed), vs = [.ref r.self, .ref hp, dv] ∧ Pre P w K C CC g r G0 H m f rest hp hb hg ha ∧ Den K H (deedD d) dv ∧ DeedAt g f d ∧ (∀ b, d ≠ .save b) ∧ (∀ b, d ≠ .back b) ∧ 20 ≤ m.st.length + N ∧
 Goes P w g r G0 H m f rest hp hb hg ha (f.pos + 1) Q ∧ Stops P w g r G0 m Q
noncomputable def spVisit (P : Program) (w : World) (K : PySem.W.Frag) (C CC : Addr) (N : Nat) : Sp := fun vs H Q _ => ∃ (r : RA) (g : Gv) (G0 : Hp) (m : Ms) (f : Fr) (rest : List Fr) (hp hb hg ha wy : Addr) (wk : List Blk) (b : Blk), vs = [.ref r.self, .ref hp, .ref wy] ∧ Pre P w K C CC g r G0 H m f rest hp hb hg ha ∧ H wy = some (.tup [.int f.w0, .int f.w1]) ∧ f.pos = -1 ∧ g.ws[f.n]? = some wk ∧ f.w1 ≠ (wk.length : Int) ∧ wk[f.w1.toNat]? = some b ∧ 20 ≤ m.st.length + N ∧
 Goes P w g r G0 H m f rest hp hb hg ha b.ds.length Q ∧ Stops P w g r G0 m Q
noncomputable def spWalk (P : Program) (w : World) (K : PySem.W.Frag) (C CC : Addr) (N : Nat) : Sp := fun vs H Q _ => ∃ (r : RA) (g : Gv) (G0 : Hp) (m : Ms) (f : Fr) (rest : List Fr) (hp hb hg ha : Addr), vs = [.ref r.self, .ref hp] ∧ Pre P w K C CC g r G0 H m f rest hp hb hg ha ∧ f.w0 = -1 ∧ f.w1 = 0 ∧ f.pos = -1 ∧ 20 ≤ m.st.length + N ∧
 (∀ (m' : Ms) (H' : Hp), Go g m m' → m'.st = rest → RunAt P w g r G0 H' m' m'.steps m'.taken m.st.length → Ext (hb :: ha :: mutR g r) H H' → Q .non H') ∧ Stops P w g r G0 m Q
noncomputable def pushed (m : Ms) (c : Int) (bl : List Int) : Ms := { m with st := ⟨c.toNat, -1, 0, -1, bl, []⟩ :: m.st }
noncomputable def spCallM (P : Program) (w : World) (K : PySem.W.Frag) (C CC : Addr) (N : Nat) : Sp := fun vs H Q _ => ∃ (r : RA) (g : Gv) (G0 : Hp) (m : Ms) (c : Int) (bb : Addr) (bl : List Int), vs = [.ref r.self, .int c, .ref bb] ∧ r.C = C ∧ r.CC = CC ∧ GvOk g ∧ RaOk K g r G0 ∧ RunAt P w g r G0 H (pushed m c bl) m.steps m.taken m.st.length ∧ m.st.length ≤ 20 ∧ H bb = some (.lst (bl.map V.int)) ∧ bl.length = 8 ∧ (g.mean = false → bb = r.ba ∧ bl = m.held) ∧ 0 ≤ c ∧ 20 ≤ m.st.length + N ∧
 (m.st.length = 20 → Q (.str "deep") H) ∧ (m.st.length < 20 → MsOk g (pushed m c bl) ∧
  (∀ (m' : Ms) (H' : Hp), Go g (pushed m c bl) m' → m'.st = m.st → RunAt P w g r G0 H' m' m'.steps m'.taken m.st.length → Ext (mutR g r) H H' → Q .non H') ∧ Stops P w g r G0 (pushed m c bl) Q)
theorem ixN_nat {n j : Nat} (h : j < n) : ixN n (j : Int) = some j := by
 unfold ixN
 rw [if_pos (by omega), if_pos (by omega), Int.toNat_natCast]
theorem putB_at {l : List Int} (j : Nat) (v : Int) : (l.map V.int).set j (.int v) = (putB l (j : Int) v).map V.int := by unfold putB; rw [Int.toNat_natCast, List.map_set]
theorem getB_at {l : List Int} {b : Int} (h0 : 0 ≤ b) (h1 : b < l.length) : atI (l.map V.int) b = some (.int (getB l b)) := by
 obtain ⟨j, rfl⟩ := Int.eq_ofNat_of_zero_le h0
 have hj : j < l.length := by omega
 refine atI_nat ?_
 unfold getB
 rw [List.getElem?_map, List.getD_eq_getElem?_getD, Int.toNat_natCast, List.getElem?_eq_getElem hj]; rfl
end L2
set_option maxHeartbeats 1000000
namespace L2
open PySem PySem.Spec PyProof.Rows
noncomputable def rGetL (K : PySem.W.Frag) : V → V → Hp → VK → Prop := fun o i H Q => ∃ p xs k z, o = .ref p ∧ i = .int k ∧ 0 ≤ k ∧ SqL K H p xs ∧ xs[k.toNat]? = some z ∧ Q z H
theorem get_list {X : Cx} : PGet X (rGetL X.K) := by
 intro pins s σ H o i ov iv Q I ro ri h
 obtain ⟨p, xs, k, z, rfl, rfl, hk, hq, he, q⟩ := h
 cases ro
 obtain ⟨t, rfl⟩ := ri
 obtain ⟨its, r, pl, hz⟩ := I.list hq
 obtain ⟨w, ew, rw'⟩ := r.get he
 have hl := r.length
 have hn := line63
 have hlt : k.toNat < xs.length := (List.getElem?_eq_some_iff.mp he).1
 exact wpAny_getItem_list pl.isList hk (by omega) (by simpa using ew) ⟨z, H, I, rw', q⟩
mutual
theorem Den.offIns {K : PySem.W.Frag} {H : Hp} {t C dx : Addr} {fs : List (Str × V)} (ht : H t = some (.ins C dx fs)) : ∀ {d : PyData} {v : V}, Den K H d v → Den K (wo [t] H) d v
 | .none, _, e => by simp only [Den] at e ⊢; exact e
 | .bool _, _, e => by simp only [Den] at e ⊢; exact e
 | .int _, _, e => by simp only [Den] at e ⊢; exact e
 | .str _, _, e => by simp only [Den] at e ⊢; exact e
 | .list ds, _, e => by
  simp only [Den] at e ⊢
  obtain ⟨a, vs, e1, e2, e3⟩ := e
  refine ⟨a, vs, e1, ?_, DenL.offIns ht e3⟩
  rcases e2 with e2 | e2
  ·refine .inl (rd_off (fun h => ?_) e2)
   subst h
   rcases e2 with e2 | ⟨o, e2⟩ <;> (rw [ht] at e2; cases e2)
  ·exact .inr e2
 | .tuple ds, _, e => by
  simp only [Den] at e ⊢
  obtain ⟨a, vs, e1, e2, e3⟩ := e
  refine ⟨a, vs, e1, ?_, DenL.offIns ht e3⟩
  rcases e2 with e2 | e2
  ·refine .inl (rd_off (fun h => ?_) e2)
   subst h
   rcases e2 with e2 | ⟨o, e2⟩ <;> (rw [ht] at e2; cases e2)
  ·exact .inr e2
 | .dict _, _, e => by simp only [Den] at e
theorem DenL.offIns {K : PySem.W.Frag} {H : Hp} {t C dx : Addr} {fs : List (Str × V)} (ht : H t = some (.ins C dx fs)) : ∀ {ds : List PyData} {vs : List V}, DenL K H ds vs → DenL K (wo [t] H) ds vs
 | [], _, e => by simp only [DenL] at e ⊢; exact e
 | d :: ds, _, e => by
  simp only [DenL] at e ⊢
  obtain ⟨v, r, e1, e2, e3⟩ := e
  exact ⟨v, r, e1, Den.offIns ht e2, DenL.offIns ht e3⟩
end
theorem r_augS {to ti te : TE} {tget : V → V → Hp → VK → Prop} {tip : TIp} {tset : TSet} {D : Ends} {σ : St} {H : Hp} (h : to σ H fun o H1 => ti σ H1 fun i H2 => tget o i H2 fun x H3 => te σ H3 fun y H4 => tip x y H4 fun z H5 => tset o i z H5 fun H6 => D.nx σ H6) : tAugS to ti te tget tip tset D σ H := h
end L2
set_option maxHeartbeats 1000000
namespace L2
open PySem PySem.Spec PyProof.Rows
section
variable {g : Gv} {m m' : Ms} {f f' : Fr} {rest rest' : List Fr} {c : Nat}
theorem setMine_steps (g : Gv) (m : Ms) (f : Fr) (rest : List Fr) (l : List Int) : (setMine g m f rest l).steps = m.steps := by unfold setMine; split <;> rfl
theorem mdeed_steps (d : Deed) : m.steps ≤ (mdeed g m f rest d).1.steps := by
 cases d with
 | save b => exact Int.le_refl _
 | back b =>
  simp only [mdeed]
  split <;> exact Int.le_refl _
 | call x =>
  simp only [mdeed]
  split
  ·exact Int.le_refl _
  ·split
   ·exact Int.le_refl _
   ·show m.steps ≤ m.steps + 1; omega
 | tell b =>
  simp only [mdeed]
  split
  ·exact Int.le_refl _
  ·show m.steps ≤ m.steps + 1; omega
 | set b v =>
  simp only [mdeed]
  split
  ·exact Int.le_refl _
  ·rw [setMine_steps]; show m.steps ≤ m.steps + 1; omega
 | add b o =>
  simp only [mdeed]
  split
  ·exact Int.le_refl _
  ·rw [setMine_steps]; show m.steps ≤ m.steps + 1; omega
theorem mstep_steps (es : mstep g m = some (m', c)) : m.steps ≤ m'.steps := by
 unfold mstep at es
 split at es
 ·cases es
 ·split at es
  ·cases es
  ·split at es
   ·cases es; exact Int.le_refl _
   ·split at es
    ·cases es
    ·split at es
     ·split at es
      ·cases es; exact Int.le_refl _
      ·cases es; show m.steps ≤ m.steps + 1; omega
     ·split at es
      ·cases es; exact Int.le_refl _
      ·have := congrArg (fun z => z.1.steps) (Option.some.inj es)
       rw [← this]
       exact mdeed_steps _
theorem Go.steps (k : Go g m m') : m.steps ≤ m'.steps := by
 induction k with
 | refl => exact Int.le_refl _
 | step e _ ih => exact Int.le_trans (mstep_steps e) ih
theorem visit_step {wk : List Blk} {b : Blk} (est : m.st = f :: rest) (hpos : f.pos = -1) (hwk : g.ws[f.n]? = some wk) (hw1 : f.w1 ≠ (wk.length : Int)) (hbk : wk[f.w1.toNat]? = some b) : mstep g m = if m.steps = g.most then some (m, 1) else some ({ m with steps := m.steps + 1, log := m.log ++ [((f.n : Int), f.w0, f.w1)], st := { f with pos := 0 } :: rest }, 0) := by
 unfold mstep
 rw [est]
 dsimp only
 rw [hwk]
 dsimp only
 rw [if_neg hw1, hbk]
 dsimp only
 rw [if_pos (by omega)]
theorem Go.moved {wk : List Blk} {b : Blk} (k : Go g m m') (est : m.st = f :: rest) (hpos : f.pos = -1) (hwk : g.ws[f.n]? = some wk) (hw1 : f.w1 ≠ (wk.length : Int)) (hbk : wk[f.w1.toNat]? = some b) (e : m'.st = f' :: rest') (hp : 0 ≤ f'.pos) : m.steps < m'.steps := by
 cases k with
 | refl =>
  rw [est] at e
  cases e
  omega
 | step es k =>
  rw [visit_step est hpos hwk hw1 hbk] at es
  split at es
  ·cases es
  ·cases es
   have := k.steps
   have h2 : ({ m with steps := m.steps + 1, log := m.log ++ [((f.n : Int), f.w0, f.w1)], st := { f with pos := 0 } :: rest } : Ms).steps = m.steps + 1 := rfl
   omega
theorem next_step {wk : List Blk} {b : Blk} (est : m.st = f :: rest) (hpos : f.pos = b.ds.length) (hwk : g.ws[f.n]? = some wk) (hw1 : f.w1 ≠ (wk.length : Int)) (hbk : wk[f.w1.toNat]? = some b) : mstep g m = some ({ m with taken := (nextOf g.ch m.taken wk.length b.ns).2, st := { f with w0 := f.w1, w1 := (nextOf g.ch m.taken wk.length b.ns).1, pos := -1 } :: rest }, 0) := by
 unfold mstep
 rw [est]
 dsimp only
 rw [hwk]
 dsimp only
 rw [if_neg hw1, hbk]
 dsimp only
 rw [if_neg (by omega), List.getElem?_eq_none (by omega)]
theorem out_step {wk : List Blk} (est : m.st = f :: rest) (hwk : g.ws[f.n]? = some wk) (hw1 : f.w1 = (wk.length : Int)) : mstep g m = some ({ m with log := m.log ++ [((f.n : Int), f.w0, f.w1)], flt := if g.mean = true then m.flt else m.flt ++ (badB m f).map fun b => ((f.n : Int), b), st := rest }, 0) := by
 unfold mstep
 rw [est]
 dsimp only
 rw [hwk]
 dsimp only
 rw [if_pos hw1]
theorem pe_fldK {X : Cx} {e : Expr} {ta : TE} {f : Str} {pos : Pos} (K : PySem.W.Frag) (hK : X.K = K) (he : PE X e ta) (hb : attributeBase e f X.env (eval e X.env) = eval e X.env) : PE X (.Attribute e f pos) (tFld K ta f) := hK ▸ pe_fld he hb
theorem PrsAt.app {H : Hp} {a b : List V} {x y : List (Int × Int)} (h : PrsAt H a x) (k : PrsAt H b y) : PrsAt H (a ++ b) (x ++ y) := by
 revert k
 induction h with
 | nil => intro k; exact k
 | cons q _ ih => intro k; exact .cons q (ih k)
theorem PrsAt.len {H : Hp} {a : List V} {x : List (Int × Int)} (h : PrsAt H a x) : a.length = x.length := by
 induction h with
 | nil => rfl
 | cons q _ ih => rw [List.length_cons, List.length_cons, ih]
theorem tup_apart {P : Program} {w : World} {K : PySem.W.Frag} {r : RA} {G0 G : Hp} {hp hb hg ha wy : Addr} {s t d : Int} {xs : List V} (R : RunAt P w g r G0 G m s t d) (c : CallAt g r G0 G m f hp hb hg ha) (h : G wy = some (.tup xs)) : wy ∉ hb :: ha :: mutR g r := by
 have h1 := R.ob
 have h2 := R.told
 obtain ⟨fl, h3, _⟩ := R.flt
 have h4 := R.held
 obtain ⟨ks, h5, _⟩ := R.gone
 have h6 := c.bx
 have h7 := c.as
 intro z
 have z : wy = hb ∨ wy = ha ∨ wy ∈ mutR g r := by simpa using z
 have z2 : wy = hb ∨ wy = ha ∨ wy = r.self ∨ wy = r.ta ∨ wy = r.fa ∨ wy = r.ga ∨ wy = r.ba := by
  rcases z with z | z | z
  ·exact .inl z
  ·exact .inr (.inl z)
  ·refine .inr (.inr ?_)
   unfold mutR at z
   rcases List.mem_cons.mp z with z | z
   ·exact .inl z
   rcases List.mem_cons.mp z with z | z
   ·exact .inr (.inl z)
   rcases List.mem_cons.mp z with z | z
   ·exact .inr (.inr (.inl z))
   rcases List.mem_cons.mp z with z | z
   ·exact .inr (.inr (.inr (.inl z)))
   split at z
   ·cases z
   ·exact .inr (.inr (.inr (.inr (List.mem_singleton.mp z))))
 rcases z2 with z | z | z | z | z | z | z
 ·rw [z, h6] at h; cases h
 ·rw [z, h7] at h; cases h
 ·rw [z, h1] at h; cases h
 ·rw [z, h2] at h; cases h
 ·rw [z, h3] at h; cases h
 ·rw [z, h5] at h; cases h
 ·rw [z, h4] at h; cases h
noncomputable def offB (cur bl : List Int) (i : Nat) : List Int := ((List.range i).map fun (b : Nat) => (b : Int)).filter fun b => !decide (getB cur b = getB bl b)
theorem offB_succ (cur bl : List Int) (i : Nat) : offB cur bl (i + 1) = offB cur bl i ++ if getB cur (i : Int) = getB bl (i : Int) then [] else [(i : Int)] := by
 unfold offB
 rw [List.range_succ, List.map_append, List.filter_append]
 congr 1
 show List.filter _ [(i : Int)] = _
 rw [List.filter_cons]
 by_cases h : getB cur (i : Int) = getB bl (i : Int)
 ·rw [if_pos h, if_neg (by simp [h])]; rfl
 ·rw [if_neg h, if_pos (by simp [h])]; rfl
theorem offB_len (cur bl : List Int) (i : Nat) : (offB cur bl i).length ≤ i := by
 unfold offB
 refine Nat.le_trans (List.length_filter_le _ _) ?_
 simp
end
end L2
set_option maxHeartbeats 1000000
namespace L2
open PySem PySem.Spec PyProof.Rows
noncomputable def spCallI (CC : Addr) : Sp := fun vs H Q _ => ∃ (hp hdx hb : Addr) (n : Int) (bl : List Int), vs = [.ref hp, .int n, .ref hb] ∧ H hp = some (.ins CC hdx []) ∧ H hb = some (.lst (bl.map V.int)) ∧ bl.length = 8 ∧
 ∀ (hg ha : Addr) (H' : Hp), H hg = none → H ha = none → Ext [hp] H H' → H' hp = some (.ins CC hdx (cflds n hb hg ha)) → H' hg = some (.lst (bl.map V.int)) → H' ha = some (.dK []) → Q .non H'
noncomputable def spNo : Sp := fun _ _ _ _ => False
theorem FnOk.no {P : Program} {w : World} {K : PySem.W.Frag} {mg : Str → Option Value} {base : Heap} {k : Nat} {f : Addr} {fd : FuncData} {ps : List Str} : FnOk P w K mg base CX0 k f fd ps spNo := ⟨fun _ _ _ _ h => h.elim, fun _ _ _ _ _ _ _ _ _ _ _ _ _ h => h.elim⟩
end L2
set_option maxHeartbeats 1000000
namespace L2
open PySem PySem.Spec PyProof.Rows
theorem call_main {P : Program} {w : World} {K : PySem.W.Frag} {g : Gv} {r : RA} {G0 H1 H2 : Hp} {m : Ms} {c : Int} {bl : List Int} {hb : Addr} {n : Nat} {Q' : VK} {Q'' : Addr → VK} {E' : XK} (hQ : ∀ x H3, spWalk P w K r.C r.CC n [.ref r.self, .ref x] H3 Q' E0 → Q'' x .non H3) (gv : GvOk g) (ra : RaOk K g r G0) (mok : MsOk g (pushed m c bl)) (R1 : RunAt P w g r G0 H1 (pushed m c bl) m.steps m.taken ((m.st.length : Int) + 1)) (x2 : Ext [] H1 H2) (hb2 : H2 hb = some (.lst (bl.map V.int))) (hl8 : bl.length = 8) (hs : g.mean = false → hb = r.ba ∧ bl = m.held) (ho : g.mean = true → H1 hb = none) (hN : 20 ≤ m.st.length + (n + 1)) (hc0 : 0 ≤ c)
  (q : ∀ (m' : Ms) (H' : Hp), Go g (pushed m c bl) m' → m'.st = m.st → RunAt P w g r G0 H' m' m'.steps m'.taken ((m.st.length : Int) + 1) → Ext (mutR g r) H1 H' → Q' .non H') (q2 : Stops P w g r G0 (pushed m c bl) Q') :
  ∀ x dx, H2 x = none → H2 dx = none → dx ≠ x → spCallI r.CC [.ref x, .int c, .ref hb] (upd (upd H2 dx (.own x)) x (.ins r.CC dx [])) (Q'' x) E' := by
 intro hp hdx hpn hdn hne
 have hl1 : ((pushed m c bl).st.length : Int) = (m.st.length : Int) + 1 := by show ((m.st.length + 1 : Nat) : Int) = _; push_cast; rfl
 have x3 : Ext [] H2 (upd (upd H2 hdx (.own hp)) hp (.ins r.CC hdx [])) := (Ext.laid hdn).trans (.laid (by rw [upd_ne hne.symm]; exact hpn))
 have o3 : (upd (upd H2 hdx (.own hp)) hp (.ins r.CC hdx [])) hp = some (.ins r.CC hdx []) := upd_same
 generalize upd (upd H2 hdx (.own hp)) hp (.ins r.CC hdx []) = H3 at x3 o3 ⊢
 have b3 := x3 _ _ (by simp) hb2
 have nbp : hb ≠ hp := fun z => by rw [z, hpn] at hb2; cases hb2
 have x13 : Ext [] H1 H3 := x2.trans x3
 have hp1 : H1 hp = none := x2.none (by simp) hpn
 have R3 := R1.fresh x13
 have hmean : g.mean = false ∨ g.mean = true := by cases g.mean <;> simp
 refine ⟨hp, hdx, hb, c, bl, rfl, o3, b3, hl8, fun hg ha H4 hgn han x4 o4 g4 a4 => hQ _ _ ?_⟩
 have e14 : Ext [] H1 H4 := ((x13.mono (us := [hp]) (by simp)).trans x4).drop hp1
 have R4 := R1.fresh e14
 have b4 : H4 hb = some (.lst (bl.map V.int)) := x4 _ _ (by simpa using nbp) b3
 have hbt : ∀ {y : Addr} {o : HO}, H1 y = some o → r.ba ≠ y → hb ≠ y := fun {y o} hy ny z => by
  rcases hmean with hm | hm
  ·exact ny (((hs hm).1).symm.trans z)
  ·rw [← z, ho hm] at hy; cases hy
 have R1h := R1.held
 have R1t := R1.told
 obtain ⟨fl, R1f, _⟩ := R1.flt
 have g13 : ∀ {y : Addr} {o : HO}, H1 y = some o → hg ≠ y := fun {y o} hy z => by
  have := x13 _ _ (by simp) hy
  rw [← z, hgn] at this; cases this
 refine ⟨r, g, G0, pushed m c bl, ⟨c.toNat, -1, 0, -1, bl, []⟩, m.st, hp, hb, hg, ha, rfl, ⟨gv, ra, mok, by rw [hl1]; exact R4, ?_, rfl, rfl, rfl⟩, rfl, rfl, rfl, ?_, fun m' H' hgo hst RR ee => ?_, q2⟩
 ·refine ⟨⟨hdx, ?_⟩, ?_, fun hm => (hs hm).1, fun hm z => ?_, ⟨bl, g4, hl8, fun _ => rfl⟩, a4, hbt R1t ra.tb.symm, hbt R1f ra.fb.symm, fun z => ?_, g13 R1t, g13 R1f, g13 R1h, ?_, ?_⟩
  ·show H4 hp = some (.ins r.CC hdx (cflds ((c.toNat : Nat) : Int) hb hg ha))
   rw [Int.toNat_of_nonneg hc0]; exact o4
  ·unfold mine
   rcases hmean with hm | hm
   ·rw [if_neg (by rw [hm]; exact Bool.false_ne_true), b4, (hs hm).2]; rfl
   ·rw [if_pos hm]; exact b4
  ·rw [← z, ho hm] at R1h; cases R1h
  ·rw [z, b3] at hgn; cases hgn
  ·rcases hmean with hm | hm
   ·rw [(hs hm).1]; exact ra.nba
   ·exact R1.old.none (by simp) (ho hm)
  ·exact (R1.old.trans x13).none (by simp) han
 ·show 20 ≤ m.st.length + 1 + n
  omega
 ·rw [hl1] at RR
  refine q m' H' hgo hst RR ?_
  have e : Ext (hb :: ha :: mutR g r) H1 H' := (e14.mono (by simp)).trans ee
  have hna : H1 ha = none := x13.none (by simp) han
  rcases hmean with hm | hm
  ·have e2 : Ext (ha :: mutR g r) H1 H' := e.mono fun z hz => by
    rcases List.mem_cons.mp hz with y | y
    ·rw [y, (hs hm).1]; exact List.mem_cons_of_mem _ (mut_ba hm)
    ·exact y
   exact e2.drop hna
  ·exact (e.drop (ho hm)).drop hna
end L2
set_option maxHeartbeats 1000000
namespace L2
open PySem PySem.Spec PyProof.Rows
theorem seq_ext {K : PySem.W.Frag} {H H' : Hp} {a p C dx : Addr} {fs : List (Str × V)} {xs : List V} (hp : H p = some (.ins C dx fs)) (e : Ext [p] H H') (h : SqL K H a xs) : SqL K H' a xs := by
 rcases h with (h | ⟨u, h⟩) | h
 ·exact .inl (.inl (e _ _ (by simpa using fun z => by rw [z, hp] at h; cases h) h))
 ·exact .inl (.inr ⟨u, e _ _ (by simpa using fun z => by rw [z, hp] at h; cases h) h⟩)
 ·exact .inr h
noncomputable def spRunI (P : Program) (w : World) (K : PySem.W.Frag) (C CC : Addr) : Sp := fun vs H Q _ => ∃ (self dx wa bx ca : Addr) (most : Int) (sh : Bool) (bl : List Int), vs = [.ref self, .ref wa, .ref bx, .ref ca, .int most, .bl sh] ∧ H self = some (.ins C dx []) ∧ SqL K H bx (bl.map V.int) ∧ bl.length = 8 ∧
 ∀ (r : RA) (H' : Hp), r.self = self → r.dx = dx → r.wa = wa → r.ca = ca → r.C = C → r.CC = CC → H r.ba = none → H r.ta = none → H r.fa = none → H r.ga = none → r.ta ≠ r.fa → r.ta ≠ r.ba → r.fa ≠ r.ba → Ext [self] H H' →
  H' self = some (selfO r most sh "ended" 0 0 0 0 0) → H' r.ba = some (.lst (bl.map V.int)) → H' r.ta = some (.lst []) → H' r.fa = some (.lst []) → H' r.ga = some (gO P w []) → Q .non H'
theorem r_dnewN {P : Program} {w : World} {σ : St} {H : Hp} {Q : VK} (h : ∀ p, H p = none → Q (.ref p) (upd H p (gO P w []))) : tDNewN P w σ H Q := h
end L2
set_option maxHeartbeats 1000000
namespace L2
open PySem PySem.Spec PyProof.Rows
noncomputable def ms0 (bl : List Int) : Ms := ⟨bl, [], [], 0, 0, 0, 0, [], []⟩
noncomputable def stS (c : Nat) : Str := if c = 0 then "ended" else codeS c
structure EndAt (P : Program) (w : World) (g : Gv) (r : RA) (H : Hp) (m : Ms) (c : Nat) : Prop where
 ob : ∃ s t d, H r.self = some (selfO r g.most (!g.mean) (stS c) s t d m.sv m.bk)
 told : H r.ta = some (.lst (m.told.map V.int))
 flt : ∃ fl, H r.fa = some (.lst fl) ∧ (g.mean = false → PrsAt H fl m.flt)
 held : H r.ba = some (.lst (m.held.map V.int))
 gone : ∃ ks, H r.ga = some (gO P w ks) ∧ NestAll H ks ∧ ks.length ≤ m.log.length ∧ ∀ k, lookN ks k = cntL m.log k
noncomputable def spGone (P : Program) (w : World) (K : PySem.W.Frag) (C CC : Addr) : Sp := fun vs H Q _ => ∃ (g : Gv) (wa bx ca : Addr) (c : Int) (bl : List Int), vs = [.ref wa, .int c, .ref bx, .ref ca, .int g.most, .bl (!g.mean)] ∧ GvOk g ∧ Den K H (worksD g.ws) (.ref wa) ∧ SqL K H bx (bl.map V.int) ∧ bl.length = 8 ∧ SqL K H ca (g.ch.map V.int) ∧ 0 ≤ c ∧ c < g.ws.length ∧
 ∀ (r : RA) (m' : Ms) (cc : Nat) (H' : Hp), Fi g (pushed (ms0 bl) c bl) cc m' → EndAt P w g r H' m' cc → RaOk K g r H → r.C = C → MsOk g m' → Ext [] H H' → Q (.ref r.self) H'
noncomputable def spMeant (K : PySem.W.Frag) : Sp := fun vs H Q _ => ∃ (g : Gv) (wa bx ca : Addr) (c : Int) (bl : List Int), vs = [.ref wa, .int c, .ref bx, .ref ca, .int g.most] ∧ GvOk g ∧ g.mean = true ∧ Den K H (worksD g.ws) (.ref wa) ∧ SqL K H bx (bl.map V.int) ∧ bl.length = 8 ∧ SqL K H ca (g.ch.map V.int) ∧ 0 ≤ c ∧ c < g.ws.length ∧
 ∀ (tp ta : Addr) (m' : Ms) (cc : Nat) (H' : Hp), Fi g (pushed (ms0 bl) c bl) cc m' → H' tp = some (.tup [.str (stS cc), .ref ta]) → H' ta = some (.lst (m'.told.map V.int)) → H ta = none → H tp = none → MsOk g m' → Ext [] H H' → Q (.ref tp) H'
theorem ms0_ok {g : Gv} {c : Int} {bl : List Int} (gv : GvOk g) (h8 : bl.length = 8) (h0 : 0 ≤ c) (h1 : c < g.ws.length) : MsOk g (pushed (ms0 bl) c bl) := by
 have hm := gv.most
 refine ⟨h8, ⟨Int.le_refl _, hm.1⟩, by show ((0 : Nat) : Int) ≤ 0; decide, by show ((0 : Nat) : Int) + 8 * ((1 : Nat) : Int) ≤ 8 * (0 + 1); decide, by show ((0 : Nat) : Int) + ((1 : Nat) : Int) ≤ 2 * 0 + 1; decide, Int.le_refl _, fun f hf => ?_, by show 1 ≤ 20; decide⟩
 obtain rfl : f = ⟨c.toNat, -1, 0, -1, bl, []⟩ := by simpa [pushed, ms0] using hf
 exact ⟨h8, ⟨_, List.getElem?_eq_getElem (show c.toNat < g.ws.length by omega), Int.le_refl _, by show (0 : Int) ≤ _; omega⟩, ⟨by show (-1 : Int) ≤ -1; decide, by show (-1 : Int) ≤ 20; decide⟩, .nil, fun p hp => by cases hp⟩
theorem EndAt.of {P : Program} {w : World} {g : Gv} {r : RA} {G0 H : Hp} {m : Ms} {s t d : Int} (R : RunAt P w g r G0 H m s t d) : EndAt P w g r H m 0 := by
 obtain ⟨fl, f1, _, f3⟩ := R.flt
 exact ⟨⟨s, t, d, R.ob⟩, R.told, ⟨fl, f1, f3⟩, R.held, R.gone⟩
theorem EndAt.stop {P : Program} {w : World} {K : PySem.W.Frag} {g : Gv} {r : RA} {G0 H : Hp} {m : Ms} {s t d : Int} {c : Nat} (R : RunAt P w g r G0 H m s t d) (o : RaOk K g r G0) (hc : c ≠ 0) : EndAt P w g r (upd H r.self (selfO r g.most (!g.mean) (codeS c) s t d m.sv m.bk)) m c := by
 have a := R.apart o
 obtain ⟨fl, f1, _, f3⟩ := R.flt
 obtain ⟨ks, k1, k2, k3, k4⟩ := R.gone
 have e : Ext [r.self] H (upd H r.self (selfO r g.most (!g.mean) (codeS c) s t d m.sv m.bk)) := .put (by simp)
 have nt' : ∀ z ∈ [r.self], ∀ xs, H z ≠ some (.tup xs) := fun z hz xs h => by rw [List.mem_singleton.mp hz, R.ob] at h; cases h
 refine ⟨⟨s, t, d, ?_⟩, e _ _ (by simpa using a.st.symm) R.told, ⟨fl, e _ _ (by simpa using a.sf.symm) f1, fun z => (f3 z).mono e nt'⟩, e _ _ (by simpa using a.sb.symm) R.held, ⟨ks, e _ _ (by simpa using a.sg.symm) k1, fun y hy => (k2 y hy).mono e nt', k3, k4⟩⟩
 rw [upd_same]
 unfold stS
 rw [if_neg hc]
end L2
set_option maxHeartbeats 1000000
namespace L2
open PySem PySem.Spec PyProof.Rows
noncomputable def nowD (hd td fd mv : Addr) (st tk : Int) : List (Key × V) := [(.inr "held", .ref hd), (.inr "told", .ref td), (.inr "faults", .ref fd), (.inr "moves", .ref mv), (.inr "steps", .int st), (.inr "taken", .int tk)]
end L2
set_option maxHeartbeats 1000000
namespace L2
open PySem PySem.Spec PyProof.Rows
structure FA where
 fa : Addr
 wy : Addr
 bx : Addr
 as : Addr
def FrAt (H : Hp) (f : Fr) (a : FA) : Prop := H a.fa = some (.lst [.int (f.n : Int), .ref a.wy, .int f.pos, .ref a.bx, .ref a.as]) ∧ H a.wy = some (.tup [.int f.w0, .int f.w1]) ∧ H a.bx = some (.lst (f.bx.map V.int)) ∧ H a.as = some (.dK (asD f.as))
structure LR where
 now : Addr
 hd : Addr
 td : Addr
 fd : Addr
 mv : Addr
 sk : Addr
 gn : Addr
 gs : List Addr
noncomputable def adrs (fas : List FA) : List Addr := fas.flatMap fun a => [a.fa, a.bx, a.as]
noncomputable def LR.all (l : LR) (fas : List FA) : List Addr := l.now :: l.hd :: l.td :: l.fd :: l.mv :: l.sk :: l.gn :: (adrs fas ++ l.gs)
def WayAt (H : Hp) (x : Addr) (log : List K3) (i : Nat) : Prop := ∃ kvs : List (List Key × V), H x = some (.dT kvs) ∧ kvs.length ≤ log.length ∧ ∀ a b : Int, valV kvs [Sum.inl a, Sum.inl b] = (cntL log ((i : Int), a, b)).map V.int
structure LawAt (g : Gv) (l : LR) (G0 H : Hp) (m : Ms) (fas : List FA) : Prop where
 now : H l.now = some (.dK (nowD l.hd l.td l.fd l.mv m.steps m.taken))
 held : H l.hd = some (.lst (m.held.map V.int))
 told : H l.td = some (.lst (m.told.map V.int))
 flt : ∃ fl, H l.fd = some (.lst fl) ∧ PrsAt H fl m.flt
 mv : H l.mv = some (.lst [.int m.sv, .int m.bk])
 sk : H l.sk = some (.lst (fas.reverse.map fun a => .ref a.fa))
 gn : H l.gn = some (.lst (l.gs.map V.ref))
 gl : l.gs.length = g.ws.length
 gw : ∀ i x, l.gs[i]? = some x → WayAt H x m.log i
 frs : Paired (FrAt H) m.st fas
 nd : (l.all fas).Nodup
 old : Ext [] G0 H
 ng : ∀ x ∈ l.all fas, G0 x = none
end L2
set_option maxHeartbeats 1000000
namespace L2
open PySem PySem.Spec PyProof.Rows
noncomputable def spNums (n d : Nat) (lo hi : Int) : Sp := fun vs H Q _ => ∃ (t : Addr) (k : Nat), vs = [.ref t] ∧ Tape H t k ∧ k + d ≤ 2 ^ 40 ∧
 ∀ (l : Addr) (ns : List Int) (H' : Hp), H l = none → l ≠ t → ns.length ≤ n → (∀ x ∈ ns, lo ≤ x ∧ x ≤ hi) → H' l = some (.lst (ns.map V.int)) → Tape H' t (k + d) → Ext [t] H H' → Q (.ref l) H'
noncomputable def spHeld : Sp := fun vs H Q _ => ∃ (t : Addr) (k : Nat), vs = [.ref t] ∧ Tape H t k ∧ k + 24 ≤ 2 ^ 40 ∧
 ∀ (l : Addr) (ns : List Int) (H' : Hp), H l = none → l ≠ t → ns.length = 8 → (∀ x ∈ ns, -(10 ^ 12) ≤ x ∧ x ≤ 10 ^ 12) → H' l = some (.lst (ns.map V.int)) → Tape H' t (k + 24) → Ext [t] H H' → Q (.ref l) H'
end L2
set_option maxHeartbeats 1000000
namespace L2
open PySem PySem.Spec PyProof.Rows
end L2
set_option maxHeartbeats 1000000
namespace L2
open PySem PySem.Spec PyProof.Rows
end L2
set_option maxHeartbeats 1000000
namespace L2
open PySem PySem.Spec PyProof.Rows
noncomputable def psi (f : Fr) : Nat := if f.pos < 0 then 2 else (23 - f.pos).toNat
noncomputable def mu (g : Gv) (m : Ms) : Nat := (g.most - m.steps).toNat * 1000 + (m.st.map psi).sum
end L2
set_option maxHeartbeats 1000000
namespace L2
open PySem PySem.Spec PyProof.Rows
noncomputable def lim (m : Ms) : Nat := 10 ^ 12 * 2 ^ m.steps.toNat
structure NumOk (m : Ms) : Prop where
 held : ∀ x ∈ m.held, x.natAbs ≤ lim m
 told : ∀ x ∈ m.told, x.natAbs ≤ lim m
 bx : ∀ f ∈ m.st, ∀ x ∈ f.bx, x.natAbs ≤ lim m
 as : ∀ f ∈ m.st, ∀ p ∈ f.as, p.2.natAbs ≤ lim m
theorem lim_mono {m m' : Ms} (h : m.steps ≤ m'.steps) : lim m ≤ lim m' := Nat.mul_le_mul_left _ (Nat.pow_le_pow_right (by decide) (by omega))
theorem lim_dbl {m m' : Ms} (h0 : 0 ≤ m.steps) (h : m'.steps = m.steps + 1) : lim m' = 2 * lim m := by
 unfold lim
 rw [h, show (m.steps + 1).toNat = m.steps.toNat + 1 by omega, Nat.pow_succ]; omega
theorem lim_one (m : Ms) : 10 ^ 12 ≤ lim m := by
 unfold lim
 exact Nat.le_mul_of_pos_right _ (Nat.pow_pos (by decide))
theorem getB_lim {l : List Int} {b : Int} {B : Nat} (h : ∀ x ∈ l, x.natAbs ≤ B) : (getB l b).natAbs ≤ B := by
 unfold getB
 rw [List.getD_eq_getElem?_getD]
 cases e : l[b.toNat]? with
 | none => exact Nat.zero_le _
 | some x => exact h x (List.mem_of_getElem? e)
theorem putB_lim {l : List Int} {b v : Int} {B : Nat} (h : ∀ x ∈ l, x.natAbs ≤ B) (hv : v.natAbs ≤ B) : ∀ x ∈ putB l b v, x.natAbs ≤ B := by
 intro x hx
 rcases List.mem_or_eq_of_mem_set hx with z | z
 ·exact h x z
 ·rw [z]; exact hv
theorem putA_lim {as : List (Int × Int)} {b v : Int} {B : Nat} (h : ∀ p ∈ as, p.2.natAbs ≤ B) (hv : v.natAbs ≤ B) : ∀ p ∈ putA as b v, p.2.natAbs ≤ B := by
 intro p hp
 unfold putA at hp
 split at hp
 ·obtain ⟨q, hq, rfl⟩ := List.mem_map.mp hp
  split
  ·exact hv
  ·exact h q hq
 ·rcases List.mem_append.mp hp with z | z
  ·exact h p z
  ·rw [List.mem_singleton.mp z]; exact hv
theorem lookup_mem {as : List (Int × Int)} {b v : Int} (h : as.lookup b = some v) : (b, v) ∈ as := by
 induction as with
 | nil => cases h
 | cons p r ih =>
  obtain ⟨c, x⟩ := p
  rw [List.lookup_cons] at h
  split at h
  ·rename_i hh
   have : b = c := by simpa using hh
   cases h; subst this; exact List.mem_cons_self ..
  ·exact List.mem_cons_of_mem _ (ih h)
section
variable {g : Gv} {m m' : Ms} {f : Fr} {rest : List Fr} {c : Nat}
theorem NumOk.grow (h : NumOk m) (hs : m.steps ≤ m'.steps) (h1 : ∀ x ∈ m'.held, x.natAbs ≤ lim m') (h2 : ∀ x ∈ m'.told, x ∈ m.told ∨ x.natAbs ≤ lim m') (h3 : ∀ y ∈ m'.st, y ∈ m.st ∨ ((∀ x ∈ y.bx, x.natAbs ≤ lim m') ∧ ∀ p ∈ y.as, p.2.natAbs ≤ lim m')) : NumOk m' := by
 have l := lim_mono hs
 refine ⟨h1, fun x hx => ?_, fun y hy x hx => ?_, fun y hy p hp => ?_⟩
 ·rcases h2 x hx with z | z
  ·exact Nat.le_trans (h.told x z) l
  ·exact z
 ·rcases h3 y hy with z | z
  ·exact Nat.le_trans (h.bx y z x hx) l
  ·exact z.1 x hx
 ·rcases h3 y hy with z | z
  ·exact Nat.le_trans (h.as y z p hp) l
  ·exact z.2 p hp
theorem mine_lim (h : NumOk m) (hf : ∀ x ∈ f.bx, x.natAbs ≤ lim m) : ∀ x ∈ mine g m f, x.natAbs ≤ lim m := by
 unfold mine
 split
 ·exact hf
 ·exact h.held
theorem num_step (hg : GvOk g) (hm : MsOk g m) (h : NumOk m) (es : mstep g m = some (m', c)) : NumOk m' := by
 unfold mstep at es
 cases e : m.st with
 | nil => rw [e] at es; cases es
 | cons f rest =>
  rw [e] at es
  dsimp only at es
  have hs0 := hm.steps.1
  have hbx : ∀ x ∈ f.bx, x.natAbs ≤ lim m := h.bx f (by rw [e]; exact List.mem_cons_self ..)
  have has : ∀ p ∈ f.as, p.2.natAbs ≤ lim m := h.as f (by rw [e]; exact List.mem_cons_self ..)
  have hrest : ∀ y ∈ rest, y ∈ m.st := fun y hy => by rw [e]; exact List.mem_cons_of_mem _ hy
  have frame : ∀ {m2 : Ms} {f2 : Fr}, m.steps ≤ m2.steps → m2.held = m.held → m2.told = m.told → m2.st = f2 :: rest → f2.bx = f.bx → f2.as = f.as → NumOk m2 := by
   intro m2 f2 k1 k2 k3 k4 k5 k6
   have l := lim_mono k1
   refine h.grow k1 (fun x hx => Nat.le_trans (h.held x (k2 ▸ hx)) l) (fun x hx => .inl (k3 ▸ hx)) fun y hy => ?_
   rw [k4] at hy
   rcases List.mem_cons.mp hy with z | z
   ·subst z
    exact .inr ⟨fun x hx => Nat.le_trans (hbx x (k5 ▸ hx)) l, fun p hp => Nat.le_trans (has p (k6 ▸ hp)) l⟩
   ·exact .inl (hrest y z)
  cases hw : g.ws[f.n]? with
  | none => rw [hw] at es; cases es
  | some wk =>
   rw [hw] at es
   dsimp only at es
   obtain ⟨mm, hm1, hm2, hOk⟩ := hg.ws.all wk (List.mem_of_getElem? hw)
   split at es
   ·cases es
    exact h.grow (Int.le_refl _) h.held (fun x hx => .inl hx) fun y hy => .inl (hrest y hy)
   ·cases hb : wk[f.w1.toNat]? with
    | none => rw [hb] at es; cases es
    | some b =>
     rw [hb] at es
     dsimp only at es
     split at es
     ·split at es
      ·cases es; exact h
      ·cases es
       exact frame (f2 := { f with pos := 0 }) (by show m.steps ≤ m.steps + 1; omega) rfl rfl rfl rfl rfl
     ·cases hd : b.ds[f.pos.toNat]? with
      | none =>
       rw [hd] at es
       cases es
       exact frame (f2 := { f with w0 := f.w1, w1 := (nextOf g.ch m.taken wk.length b.ns).1, pos := -1 }) (Int.le_refl _) rfl rfl rfl rfl rfl
      | some d =>
       rw [hd] at es
       have es := Option.some.inj es
       have hok := (hOk.blk b (List.mem_of_getElem? hb)).ds d (List.mem_of_getElem? hd)
       have hmi := mine_lim (g := g) (f := { f with pos := f.pos + 1 }) h hbx
       have stop : ∀ {k : Nat}, (({ m with st := { f with pos := f.pos + 1 } :: rest } : Ms), k) = (m', c) → NumOk m' := by
        intro k ez
        cases ez
        exact frame (f2 := { f with pos := f.pos + 1 }) (Int.le_refl _) rfl rfl rfl rfl rfl
       have setM : ∀ l : List Int, (∀ x ∈ l, x.natAbs ≤ 2 * lim m) → (setMine g { m with steps := m.steps + 1 } { f with pos := f.pos + 1 } rest l, 0) = (m', c) → NumOk m' := by
        intro l hl ez
        unfold setMine at ez
        split at ez
        ·cases ez
         have l2 := lim_dbl (m' := { m with steps := m.steps + 1, st := { f with pos := f.pos + 1, bx := l } :: rest }) hs0 rfl
         refine h.grow (by show m.steps ≤ m.steps + 1; omega) (fun x hx => by rw [l2]; exact Nat.le_trans (h.held x hx) (by omega)) (fun x hx => .inl hx) fun y hy => ?_
         rcases List.mem_cons.mp hy with z | z
         ·subst z
          exact .inr ⟨fun x hx => by rw [l2]; exact hl x hx, fun p hp => by rw [l2]; exact Nat.le_trans (has p hp) (by omega)⟩
         ·exact .inl (hrest y z)
        ·cases ez
         have l2 := lim_dbl (m' := { m with steps := m.steps + 1, held := l, st := { f with pos := f.pos + 1 } :: rest }) hs0 rfl
         refine h.grow (by show m.steps ≤ m.steps + 1; omega) (fun x hx => by rw [l2]; exact hl x hx) (fun x hx => .inl hx) fun y hy => ?_
         rcases List.mem_cons.mp hy with z | z
         ·subst z
          exact .inr ⟨fun x hx => by rw [l2]; exact Nat.le_trans (hbx x hx) (by omega), fun p hp => by rw [l2]; exact Nat.le_trans (has p hp) (by omega)⟩
         ·exact .inl (hrest y z)
       cases d with
       | save b =>
        cases es
        refine h.grow (Int.le_refl _) h.held (fun x hx => .inl hx) fun y hy => ?_
        rcases List.mem_cons.mp hy with z | z
        ·subst z
         exact .inr ⟨hbx, putA_lim has (getB_lim h.held)⟩
        ·exact .inl (hrest y z)
       | back b =>
        simp only [mdeed] at es
        cases hl : f.as.lookup b with
        | none => rw [hl] at es; exact stop es
        | some v =>
         rw [hl] at es
         cases es
         refine h.grow (Int.le_refl _) (putB_lim h.held (has _ (lookup_mem hl))) (fun x hx => .inl hx) fun y hy => ?_
         rcases List.mem_cons.mp hy with z | z
         ·subst z
          exact .inr ⟨hbx, has⟩
         ·exact .inl (hrest y z)
       | call x =>
        simp only [mdeed] at es
        split at es
        ·exact stop es
        ·split at es
         ·exact stop es
         ·cases es
          have l := lim_mono (m := m) (m' := { m with steps := m.steps + 1, st := ⟨x.toNat, -1, 0, -1, mine g m { f with pos := f.pos + 1 }, []⟩ :: { f with pos := f.pos + 1 } :: rest }) (by show m.steps ≤ m.steps + 1; omega)
          refine h.grow (by show m.steps ≤ m.steps + 1; omega) (fun x hx => Nat.le_trans (h.held x hx) l) (fun x hx => .inl hx) fun y hy => ?_
          rcases List.mem_cons.mp hy with z | hy
          ·subst z
           exact .inr ⟨fun x hx => Nat.le_trans (hmi x hx) l, fun p hp => by cases hp⟩
          ·rcases List.mem_cons.mp hy with z | z
           ·subst z
            exact .inr ⟨fun x hx => Nat.le_trans (hbx x hx) l, fun p hp => Nat.le_trans (has p hp) l⟩
           ·exact .inl (hrest y z)
       | tell b =>
        simp only [mdeed] at es
        split at es
        ·exact stop es
        ·cases es
         have l := lim_mono (m := m) (m' := { m with steps := m.steps + 1, told := m.told ++ [getB (mine g m { f with pos := f.pos + 1 }) b], st := { f with pos := f.pos + 1 } :: rest }) (by show m.steps ≤ m.steps + 1; omega)
         refine h.grow (by show m.steps ≤ m.steps + 1; omega) (fun x hx => Nat.le_trans (h.held x hx) l) (fun x hx => ?_) fun y hy => ?_
         ·rcases List.mem_append.mp hx with z | z
          ·exact .inl z
          ·rw [List.mem_singleton.mp z]; exact .inr (Nat.le_trans (getB_lim hmi) l)
         ·rcases List.mem_cons.mp hy with z | z
          ·subst z
           exact .inr ⟨fun x hx => Nat.le_trans (hbx x hx) l, fun p hp => Nat.le_trans (has p hp) l⟩
          ·exact .inl (hrest y z)
       | set b v =>
        simp only [mdeed] at es
        split at es
        ·exact stop es
        ·obtain ⟨_, _, v1, v2⟩ := hok
         have := lim_one m
         exact setM _ (putB_lim (fun x hx => Nat.le_trans (hmi x hx) (by omega)) (by omega)) es
       | add b o =>
        simp only [mdeed] at es
        split at es
        ·exact stop es
        ·have h1 := getB_lim (b := b) hmi
         have h2 := getB_lim (b := o) hmi
         exact setM _ (putB_lim (fun x hx => Nat.le_trans (hmi x hx) (by omega)) (by omega)) es
end
theorem Fi.both {g : Gv} {a b : Ms} {c : Nat} (hg : GvOk g) (h : Fi g a c b) : MsOk g a → NumOk a → MsOk g b ∧ NumOk b := by
 induction h with
 | done _ => exact fun x y => ⟨x, y⟩
 | stop e _ => exact fun x y => ⟨mstep_ok hg x e, num_step hg x y e⟩
 | step e _ ih => exact fun x y => ih (mstep_ok hg x e) (num_step hg x y e)
mutual
noncomputable def tameW : PyData → Bool
 | .int i => decide (i.natAbs < 10 ^ 60)
 | .str x => x.cps.all (· < 0x110000) && decide (x.cps.size ≤ 10)
 | .list xs => tameWs xs
 | .tuple xs => tameWs xs
 | .none => false
 | .bool _ => false
 | .dict _ => false
noncomputable def tameWs : List PyData → Bool
 | [] => true
 | x :: xs => tameW x && tameWs xs
end
theorem logW_lt {n : Nat} (h : n < 10 ^ 60) : n.log2 < 200 := by
 by_cases hn : n = 0
 ·subst hn; decide
 ·exact (Nat.log2_lt hn).mpr (Nat.lt_of_lt_of_le h (by decide))
mutual
theorem tameW_show : ∀ d : PyData, tameW d = true → PyData.showable d = true
 | .int i, h => by
  have h1 : i.natAbs < 10 ^ 60 := by simpa only [tameW, decide_eq_true_eq] using h
  have := logW_lt h1
  simp only [PyData.showable, decide_eq_true_eq]; omega
 | .str x, _ => rfl
 | .list xs, h => tameWs_show xs (by simpa only [tameW] using h)
 | .tuple xs, h => tameWs_show xs (by simpa only [tameW] using h)
theorem tameWs_show : ∀ ds : List PyData, tameWs ds = true → PyData.showableAll ds = true
 | [], _ => rfl
 | x :: xs, h => by
  have h1 : (tameW x && tameWs xs) = true := by simpa only [tameWs] using h
  rw [Bool.and_eq_true] at h1
  simp only [PyData.showableAll, tameW_show x h1.1, tameWs_show xs h1.2, Bool.and_self]
end
mutual
theorem tameW_lay : ∀ d : PyData, tameW d = true → PyData.canLay0 d = true
 | .int i, h => rfl
 | .str x, h => by
  have h1 : (x.cps.all (· < 0x110000) && decide (x.cps.size ≤ 10)) = true := by simpa only [tameW] using h
  rw [Bool.and_eq_true] at h1
  simpa only [PyData.canLay0, PyData.strOk] using h1.1
 | .list xs, h => tameWs_lay xs (by simpa only [tameW] using h)
 | .tuple xs, h => tameWs_lay xs (by simpa only [tameW] using h)
theorem tameWs_lay : ∀ ds : List PyData, tameWs ds = true → PyData.canLayAll0 ds = true
 | [], _ => rfl
 | x :: xs, h => by
  have h1 : (tameW x && tameWs xs) = true := by simpa only [tameWs] using h
  rw [Bool.and_eq_true] at h1
  simp only [PyData.canLayAll0, tameW_lay x h1.1, tameWs_lay xs h1.2, Bool.and_self]
end
mutual
theorem tameW_weight : ∀ d : PyData, tameW d = true → PyData.weight d ≤ 202 * cells d + 201
 | .int i, h => by
  have h1 : i.natAbs < 10 ^ 60 := by simpa only [tameW, decide_eq_true_eq] using h
  have := logW_lt h1
  simp only [PyData.weight, cells]
  split <;> omega
 | .str x, h => by
  have h1 : (x.cps.all (· < 0x110000) && decide (x.cps.size ≤ 10)) = true := by simpa only [tameW] using h
  rw [Bool.and_eq_true, decide_eq_true_eq] at h1
  simp only [PyData.weight, cells]; omega
 | .list xs, h => by
  have := tameWs_weight xs (by simpa only [tameW] using h)
  simp only [PyData.weight, cells]; omega
 | .tuple xs, h => by
  have := tameWs_weight xs (by simpa only [tameW] using h)
  simp only [PyData.weight, cells]; omega
theorem tameWs_weight : ∀ ds : List PyData, tameWs ds = true → PyData.weightAll ds ≤ 202 * cellsAll ds
 | [], _ => Nat.le_refl _
 | x :: xs, h => by
  have h1 : (tameW x && tameWs xs) = true := by simpa only [tameWs] using h
  rw [Bool.and_eq_true] at h1
  have h2 := tameW_weight x h1.1
  have h3 := tameWs_weight xs h1.2
  simp only [PyData.weightAll, cellsAll]; omega
end
theorem tameW_shaped {d : PyData} (h : tameW d = true) (hd : d.depth ≤ 64) (hs : (∃ xs, d = .list xs) ∨ ∃ xs, d = .tuple xs) : SeqAt.shaped d = true := by
 rcases hs with ⟨xs, rfl⟩ | ⟨xs, rfl⟩
 ·have h1 := tameW_lay _ h
  have h1 : PyData.canLayAll0 xs = true := by simpa only [PyData.canLay0] using h1
  show (PyData.canLayAll0 xs && decide (PyData.depth (.list xs) ≤ 64)) = true
  rw [h1, decide_eq_true hd]; rfl
 ·have h1 := tameW_lay _ h
  have h1 : PyData.canLayAll0 xs = true := by simpa only [PyData.canLay0] using h1
  show (PyData.canLayAll0 xs && decide (PyData.depth (.tuple xs) ≤ 64)) = true
  rw [h1, decide_eq_true hd]; rfl
theorem tameWs_ints {ns : List Int} (h : ∀ x ∈ ns, x.natAbs < 10 ^ 60) : tameWs (ns.map PyData.int) = true := by
 induction ns with
 | nil => rfl
 | cons a r ih =>
  simp only [List.map_cons, tameWs, tameW, ih fun x hx => h x (List.mem_cons_of_mem _ hx), decide_eq_true (h a (List.mem_cons_self ..)), Bool.and_self]
end L2
set_option maxHeartbeats 1000000
namespace L2
open PySem PySem.Spec PyProof.Rows
theorem tru_bl {K : PySem.W.Frag} {b : Bool} {H : Hp} {R : Bool → Prop} (q : R b) : ∃ k, TruV K (.bl b) H k ∧ R k := ⟨b, by simp [TruV], q⟩
end L2
set_option maxHeartbeats 1000000
namespace L2
open PySem PySem.Spec PyProof.Rows
end L2
set_option maxHeartbeats 1000000
namespace L2
open PySem PySem.Spec PyProof.Rows
theorem r_seqC {t u : TS} {D : Ends} {σ : St} {H : Hp} (C : St → Hp → Prop) (h2 : ∀ σ' H', C σ' H' → u D σ' H') (h1 : (∀ σ' H', C σ' H' → u D σ' H') → t { D with nx := u D } σ H) : tSeq t u D σ H := h1 h2
section
variable {g : Gv} {m : Ms} {f : Fr} {rest : List Fr} {wk : List Blk} {b : Blk} (est : m.st = f :: rest) (hwk : g.ws[f.n]? = some wk)
include est hwk
theorem ms_out (h : f.w1 = (wk.length : Int)) : mstep g m = some ({ m with log := m.log ++ [((f.n : Int), f.w0, f.w1)], flt := if g.mean = true then m.flt else m.flt ++ (badB m f).map fun b => ((f.n : Int), b), st := rest }, 0) := by
 unfold mstep
 rw [est]
 dsimp only
 rw [hwk]
 dsimp only
 rw [if_pos h]
variable (hne : ¬ f.w1 = (wk.length : Int)) (hbk : wk[f.w1.toNat]? = some b)
include hne hbk
theorem ms_come (hp : f.pos < 0) : mstep g m = if m.steps = g.most then some (m, 1) else some ({ m with steps := m.steps + 1, log := m.log ++ [((f.n : Int), f.w0, f.w1)], st := { f with pos := 0 } :: rest }, 0) := by
 unfold mstep
 rw [est]
 dsimp only
 rw [hwk]
 dsimp only
 rw [if_neg hne, hbk]
 dsimp only
 rw [if_pos hp]
theorem ms_next (hp : ¬ f.pos < 0) (hd : b.ds[f.pos.toNat]? = none) : mstep g m = some ({ m with taken := (nextOf g.ch m.taken wk.length b.ns).2, st := { f with w0 := f.w1, w1 := (nextOf g.ch m.taken wk.length b.ns).1, pos := -1 } :: rest }, 0) := by
 unfold mstep
 rw [est]
 dsimp only
 rw [hwk]
 dsimp only
 rw [if_neg hne, hbk]
 dsimp only
 rw [if_neg hp, hd]
theorem ms_deed {d : Deed} (hp : ¬ f.pos < 0) (hd : b.ds[f.pos.toNat]? = some d) : mstep g m = some (mdeed g m { f with pos := f.pos + 1 } rest d) := by
 unfold mstep
 rw [est]
 dsimp only
 rw [hwk]
 dsimp only
 rw [if_neg hne, hbk]
 dsimp only
 rw [if_neg hp, hd]
end
end L2
set_option maxHeartbeats 1000000
namespace L2
open PySem PySem.Spec PyProof.Rows
noncomputable def tPar3 (i j k : Nat) (ta : TA) : TS := fun D σ H => ta σ H fun vs H1 => ∃ v w z, vs = [v, w, z] ∧ D.nx (((σ.set i (some v)).set j (some w)).set k (some z)) H1
theorem ps_par3 {X : Cx} {i j k : Nat} {x y q : Str} {a b c : Expr} {ta : TA} {px py pq pt pos : Pos} {kt k2 pt2} (hc : X.calm = true) (hN : X.N.Nodup) (hi : X.N[i]? = some x) (hj : X.N[j]? = some y) (hk : X.N[k]? = some q) (hij : i ≠ j) (hik : i ≠ k) (hjk : j ≠ k)
  (hx : X.env.scope.names.lookup x = some .local) (hy : X.env.scope.names.lookup y = some .local) (hq : X.env.scope.names.lookup q = some .local) (ha : PA X [a, b, c] ta)
  (hw : swappedStores [.Tuple [.Name x px, .Name y py, .Name q pq] kt pt] (.Tuple [a, b, c] k2 pt2) X.env = pure (some [x, y, q]))
  (hs : swapsWithSole [.Tuple [.Name x px, .Name y py, .Name q pq] kt pt] (.Tuple [a, b, c] k2 pt2) pos.line X.env = pure false := by rfl) :
  PS X (.Assign [.Tuple [.Name x px, .Name y py, .Name q pq] kt pt] (.Tuple [a, b, c] k2 pt2) pos) (tPar3 i j k ta) := by
 intro pins s σ H D I h
 rw [exec_Assign_arm]
 refine wpAny_bind (wpAny_standAt ?_)
 rw [hs]
 refine wpAny_bind (wpAny_pure ?_)
 rw [if_neg (by decide)]
 refine wpAny_bind (Tuple_ (thn (ha _ pins s σ H _ I h) fun us s1 hq_ => ?_))
 obtain ⟨vs, H1, I1, r1, q1⟩ := hq_
 obtain ⟨v, w, z, e1, q1⟩ := q1
 subst e1
 obtain ⟨u1, u2, u3, rfl, rv, rw', rz⟩ : ∃ u1 u2 u3, us = [u1, u2, u3] ∧ RelV v u1 ∧ RelV w u2 ∧ RelV z u3 := by
  cases r1 with
  | cons p q =>
   cases q with
   | cons p' q' =>
    cases q' with
    | cons p'' q'' =>
     cases q''
     exact ⟨_, _, _, rfl, p, p', p''⟩
 refine wpAny_newObj_type ?_ (by show 3 ≤ sizeLine; decide)
 have I2 : Inv X pins σ H1 { s1 with heap := s1.heap.push { cls := .type "tuple", data := .seq [u1, u2, u3].toArray } } := I1.kept (t' := s1.toks) fun b o e => Heap.get?_push_of_some _ e
 rw [hw]
 refine wpAny_bind (wpAny_pure ?_)
 show wpAny (model X.prog X.w) X.A (do rule "assign.swapped-stores"; let items ← unpackItems (.ref s1.heap.objs.size) 3 none; assignInOrder [fun v => bindName X.env q v, fun v => bindName X.env y v, fun v => bindName X.env x v] items.reverse; pure Flow.next) _ _ _
 refine wpAny_bind (wpAny_rule (wpAny_bind (unpackItems_tuple (items := #[u1, u2, u3]) (I.ok.hd hc) (IsTup.new s1.heap _) fun h' hx' => ?_)))
 have I3 := I2.kept (h' := h') (t' := s1.toks) fun b o e => hx' b o (Nat.ne_of_lt (Heap.lt_size e)) e
 show wpAny _ _ (assignInOrder [fun v => bindName X.env q v, fun v => bindName X.env y v, fun v => bindName X.env x v] [u3, u2, u1] >>= fun _ => pure Flow.next) _ _ _
 refine wpAny_bind (assignInOrder_cons (wpAny_bindName (store_ok I3 hN hk (.inl hq) rz (fun s2 I4 => ?_) (.inr hq))))
 refine assignInOrder_cons (wpAny_bindName (store_ok I4 hN hj (.inl hy) rw' (fun s3 I5 => ?_) (.inr hy)))
 refine assignInOrder_cons (wpAny_bindName (store_ok I5 hN hi (.inl hx) rv (fun s4 I6 => assignInOrder_nil (wpAny_pure ?_)) (.inr hx)))
 rw [List.set_comm _ _ (Ne.symm hij), List.set_comm _ _ (Ne.symm hik), List.set_comm _ _ (Ne.symm hjk)] at I6
 exact ⟨_, H1, I6, q1⟩
theorem r_par3 {n m k : Nat} {tl : TA} {D : Ends} {σ : St} {H : Hp} (h : tl σ H fun vs H1 => ∃ v w z, vs = [v, w, z] ∧ D.nx (((σ.set n (some v)).set m (some w)).set k (some z)) H1) : tPar3 n m k tl D σ H := h
noncomputable def DeedP (works : Int) : Deed → Prop
 | .set b n => 0 ≤ b ∧ b < 8 ∧ -(10 ^ 12) ≤ n ∧ n ≤ 10 ^ 12
 | .add b o => 0 ≤ b ∧ b < 8 ∧ 0 ≤ o ∧ o < 8
 | .tell b => 0 ≤ b ∧ b < 8
 | .call c => 0 ≤ c ∧ c < works
 | .save _ => False
 | .back _ => False
theorem DeedP.ok {works : Int} {d : Deed} (h : DeedP works d) : DeedOk works d := by
 cases d <;> first | exact h | exact h.elim
theorem DeedP.pl {works : Int} {d : Deed} (h : DeedP works d) : (∀ x, d ≠ .save x) ∧ ∀ x, d ≠ .back x := by
 refine ⟨fun x e => ?_, fun x e => ?_⟩ <;> (subst e; exact h.elim)
def Fw (works : Int) (b : Blk) : Prop := b.ds.length ≤ 12 ∧ ∀ d ∈ b.ds, DeedP works d
noncomputable def spDeedsP (K : PySem.W.Frag) : Sp := fun vs H Q _ => ∃ (t b : Addr) (k : Nat) (most first works : Int) (bs : List Int), vs = [.ref t, .int most, .ref b, .int first, .int works] ∧ Tape H t k ∧ k + 130 ≤ 2 ^ 40 ∧ 0 ≤ most ∧ most ≤ 12 ∧ 0 ≤ first ∧ first ≤ 100 ∧ 1 ≤ works ∧ works ≤ 100 ∧
 H b = some (.lst (bs.map V.int)) ∧ b ≠ t ∧ BsOk bs ∧ ∀ (l : Addr) (ds : List Deed) (H' : Hp), H l = none → Tape H' t (k + 130) → Ext [t] H H' → (∀ d ∈ ds, DeedP works d) → ds.length ≤ 12 → Den K (yo H [t] H') (.list (ds.map deedD)) (.ref l) → Q (.ref l) H'
noncomputable def spWorkP (K : PySem.W.Frag) : Sp := fun vs H Q _ => ∃ (t : Addr) (k : Nat) (m most first works : Int), vs = [.ref t, .int m, .int most, .int first, .int works] ∧ Tape H t k ∧ k + 2000 ≤ 2 ^ 40 ∧ 1 ≤ m ∧ m ≤ 12 ∧ 0 ≤ most ∧ most ≤ 12 ∧ 0 ≤ first ∧ first ≤ 100 ∧ 1 ≤ works ∧ works ≤ 100 ∧
 ∀ (l : Addr) (w : List Blk) (bs : List V) (H' : Hp), H l = none → l ≠ t → Tape H' t (k + 2000) → Ext [t] H H' → WorkOk m works w → (∀ b ∈ w, Fw works b) → H' l = some (.lst bs) → DenL K (yo H [l, t] H') (w.map blkD) bs → Q (.ref l) H'
theorem worksP_den {K : PySem.W.Frag} {G H : Hp} {as : List Addr} {ws : List (List Blk)} (h : WorksAt K G H as ws) (g : Same G H) : DenL K H (ws.map workD) (as.map V.ref) := by
 unfold WorksAt at h
 induction h with
 | nil => exact .nil
 | cons r _ ih =>
  obtain ⟨bs, e, d⟩ := r
  exact .cons (.list (SqL.of e) (d.mono g)) ih
end L2
set_option maxHeartbeats 1000000
namespace L2
open PySem PySem.Spec PyProof.Rows
structure IniAt (H G : Hp) (sf C dx : Addr) (fs : List (Str × V)) (k : Nat) (cs : List (Addr × HO)) : Prop where
 x : Ext [sf] H G
 o : G sf = some (.ins C dx fs)
 ln : fs.length ≤ k
 ce : ∀ p ∈ cs, G p.1 = some p.2 ∧ p.1 ≠ sf ∧ H p.1 = none
 nd : (cs.map (·.1)).Nodup
section
variable {H G : Hp} {sf C dx : Addr} {fs : List (Str × V)} {k : Nat} {cs : List (Addr × HO)}
theorem IniAt.put (I : IniAt H G sf C dx fs k cs) (f : Str) (v : V) : IniAt H (upd G sf (.ins C dx (putF f v fs))) sf C dx (putF f v fs) (k + 1) cs :=
 ⟨I.x.trans (.put (by simp)), upd_same, Nat.le_trans (length_putF f v fs) (Nat.succ_le_succ I.ln), fun p hp => by
  obtain ⟨h1, h2, h3⟩ := I.ce p hp
  exact ⟨by rw [upd_ne h2]; exact h1, h2, h3⟩, I.nd⟩
theorem IniAt.lay (I : IniAt H G sf C dx fs k cs) {a : Addr} (o : HO) (h : G a = none) : IniAt H (upd G a o) sf C dx fs k ((a, o) :: cs) := by
 have n : a ≠ sf := (ne_of_none I.o h).symm
 refine ⟨I.x.trans (.laid h), by rw [upd_ne n.symm]; exact I.o, I.ln, fun p hp => ?_, ?_⟩
 ·rcases List.mem_cons.mp hp with z | z
  ·subst z; exact ⟨upd_same, n, I.x.none (by simpa using n) h⟩
  ·obtain ⟨h1, h2, h3⟩ := I.ce p z
   exact ⟨by rw [upd_ne (fun e => by rw [e, h] at h1; cases h1)]; exact h1, h2, h3⟩
 ·rw [List.map_cons, List.nodup_cons]
  refine ⟨fun z => ?_, I.nd⟩
  obtain ⟨p, hp, e⟩ := List.mem_map.mp z
  have := (I.ce p hp).1
  have e : p.1 = a := e
  rw [e, h] at this; cases this
theorem IniAt.few (I : IniAt H G sf C dx fs k cs) (h : k < 1000) : fs.length < 1000 := Nat.lt_of_le_of_lt I.ln h
end
end L2
set_option maxHeartbeats 1000000
namespace L2
open PySem PySem.Spec PyProof.Rows
noncomputable def spMovesL (K : PySem.W.Frag) : Sp := fun vs H Q _ => ∃ (t l0 : Addr) (k : Nat) (as0 : List Addr) (ws0 : List (List Blk)) (works : Int), vs = [.ref t, .ref l0] ∧ Tape H t k ∧ k + 5000 ≤ 2 ^ 40 ∧ H l0 = some (.lst (as0.map V.ref)) ∧ l0 ≠ t ∧ t ∉ as0 ∧ WorksAt K (wo [t] H) H as0 ws0 ∧ AllOk works ws0 ∧ (∀ w ∈ ws0, ∀ b ∈ w, b.ds.length ≤ 12) ∧
 ∀ (l : Addr) (as : List Addr) (ws : List (List Blk)) (H' : Hp), H l = none → l ≠ t → l ∉ as → (∀ a ∈ as, H a = none ∧ a ≠ t) → as.Nodup → Tape H' t (k + 5000) → Ext [t] H H' → H' l = some (.lst (as.map V.ref)) → WorksAt K (wo (l :: t :: as) H') H' as ws → AllOk works ws → as.length = as0.length → Q (.ref l) H'
end L2
set_option maxHeartbeats 1000000
namespace L2
open PySem PySem.Spec PyProof.Rows
theorem num0 {bl : List Int} {c : Int} (h : ∀ x ∈ bl, -(10 ^ 12) ≤ x ∧ x ≤ 10 ^ 12) : NumOk (pushed (ms0 bl) c bl) := by
 have e : lim (pushed (ms0 bl) c bl) = 10 ^ 12 := by show 10 ^ 12 * 2 ^ (0 : Int).toNat = 10 ^ 12; rfl
 have k : ∀ x ∈ bl, x.natAbs ≤ 10 ^ 12 := fun x hx => by have := h x hx; omega
 refine ⟨?_, ?_, ?_, ?_⟩ <;> rw [e]
 ·exact k
 ·intro x hx; cases hx
 ·intro f hf
  obtain rfl : f = ⟨c.toNat, -1, 0, -1, bl, []⟩ := by simpa [pushed, ms0] using hf
  exact k
 ·intro f hf
  obtain rfl : f = ⟨c.toNat, -1, 0, -1, bl, []⟩ := by simpa [pushed, ms0] using hf
  intro p hp; cases hp
theorem told_lim {m : Ms} (h : NumOk m) (hs : m.steps ≤ 150) : ∀ x ∈ m.told, x.natAbs < 10 ^ 60 := fun x hx => by
 have h1 := h.told x hx
 have h2 : lim m ≤ 10 ^ 12 * 2 ^ 150 := Nat.mul_le_mul_left _ (Nat.pow_le_pow_right (by decide) (by omega))
 exact Nat.lt_of_le_of_lt (Nat.le_trans h1 h2) (by decide)
noncomputable def outD (s : Str) (told : List Int) : PyData := .tuple [.str s, .list (told.map .int)]
theorem stS_word (c : Nat) : ((stS c).cps.all (fun x => decide (x < 0x110000)) && decide ((stS c).cps.size ≤ 10)) = true := by
 unfold stS
 split
 ·decide +kernel
 ·unfold codeS
  split <;> decide +kernel
theorem cells_ints : ∀ ns : List Int, cellsAll (ns.map PyData.int) = ns.length
 | [] => rfl
 | n :: r => by
  have := cells_ints r
  simp only [List.map_cons, cellsAll, cells, this, List.length_cons]; omega
theorem depth_ints : ∀ ns : List Int, PyData.depthAll (ns.map PyData.int) = 0
 | [] => rfl
 | n :: r => by
  have := depth_ints r
  simp only [List.map_cons, PyData.depthAll, PyData.depth, this]; rfl
theorem out_tame {c : Nat} {told : List Int} (h : ∀ x ∈ told, x.natAbs < 10 ^ 60) (hl : told.length ≤ 1000) : tameW (outD (stS c) told) = true ∧ cells (outD (stS c) told) ≤ 1200 ∧ (outD (stS c) told).depth ≤ 64 := by
 refine ⟨?_, ?_, ?_⟩
 ·simp only [outD, tameW, tameWs, tameWs_ints h, Bool.and_true]
  exact stS_word c
 ·simp only [outD, cells, cellsAll, cells_ints]; omega
 ·simp only [outD, PyData.depth, PyData.depthAll, depth_ints]; decide
end L2
set_option maxHeartbeats 1000000
namespace L2
open PySem PySem.Spec PyProof.Rows
theorem allok_ws {ws : List (List Blk)} (h : AllOk (ws.length : Int) ws) : WsOk ws := ⟨h.all, h.one, by have := h.few; omega⟩
end L2
set_option maxHeartbeats 1000000
namespace L2
open PySem PySem.Spec PyProof.Rows
noncomputable def prD (p : Int × Int) : PyData := .tuple [.int p.1, .int p.2]
noncomputable def runD (s : Str) (told : List Int) (flt : List (Int × Int)) (held : List Int) : PyData := .tuple [.str s, .list (told.map .int), .list (flt.map prD), .list (held.map .int)]
theorem PrsAt.den {K : PySem.W.Frag} {H : Hp} {vs : List V} {ps : List (Int × Int)} (h : PrsAt H vs ps) : DenL K H (ps.map prD) vs := by
 unfold PrsAt at h
 induction h with
 | nil => exact .nil
 | cons r _ ih =>
  obtain ⟨a, rfl, e⟩ := r
  exact .cons (.tuple (SqT.of e) (.cons .int (.cons .int .nil))) ih
def FltOk (m : Ms) : Prop := ∀ p ∈ m.flt, 0 ≤ p.1 ∧ p.1 ≤ 100 ∧ 0 ≤ p.2 ∧ p.2 ≤ 8
theorem flt_step {g : Gv} {m m' : Ms} {c : Nat} (hg : GvOk g) (h : FltOk m) (es : mstep g m = some (m', c)) : FltOk m' := by
 have same : ∀ {m2 : Ms}, m2.flt = m.flt → FltOk m2 := fun {m2} e p hp => h p (e ▸ hp)
 unfold mstep at es
 cases e : m.st with
 | nil => rw [e] at es; cases es
 | cons f rest =>
  rw [e] at es
  dsimp only at es
  cases hw : g.ws[f.n]? with
  | none => rw [hw] at es; cases es
  | some wk =>
   rw [hw] at es
   dsimp only at es
   split at es
   ·cases es
    intro p hp
    have hp : p ∈ (if g.mean = true then m.flt else m.flt ++ (badB m f).map fun b => ((f.n : Int), b)) := hp
    split at hp
    ·exact h p hp
    ·rcases List.mem_append.mp hp with z | z
     ·exact h p z
     ·obtain ⟨b, hb, rfl⟩ := List.mem_map.mp z
      have hn : f.n < g.ws.length := (List.getElem?_eq_some_iff.mp hw).1
      have hf := hg.ws.few
      unfold badB at hb
      obtain ⟨y, hy, rfl⟩ := List.mem_map.mp (List.mem_filter.mp hb).1
      have := List.mem_range.mp hy
      refine ⟨?_, ?_, ?_, ?_⟩
      ·show (0 : Int) ≤ (f.n : Int); omega
      ·show (f.n : Int) ≤ 100; omega
      ·show (0 : Int) ≤ (y : Int); omega
      ·show (y : Int) ≤ 8; omega
   ·cases hb : wk[f.w1.toNat]? with
    | none => rw [hb] at es; cases es
    | some b =>
     rw [hb] at es
     dsimp only at es
     split at es
     ·split at es
      ·cases es; exact same rfl
      ·cases es; exact same rfl
     ·cases hd : b.ds[f.pos.toNat]? with
      | none =>
       rw [hd] at es
       cases es; exact same rfl
      | some d =>
       rw [hd] at es
       have es := Option.some.inj es
       have setM : ∀ l : List Int, (setMine g { m with steps := m.steps + 1 } { f with pos := f.pos + 1 } rest l, 0) = (m', c) → FltOk m' := by
        intro l ez
        unfold setMine at ez
        split at ez
        ·cases ez; exact same rfl
        ·cases ez; exact same rfl
       cases d with
       | save b => cases es; exact same rfl
       | back b =>
        simp only [mdeed] at es
        split at es
        ·cases es; exact same rfl
        ·cases es; exact same rfl
       | call x =>
        simp only [mdeed] at es
        split at es
        ·cases es; exact same rfl
        ·split at es
         ·cases es; exact same rfl
         ·cases es; exact same rfl
       | tell b =>
        simp only [mdeed] at es
        split at es
        ·cases es; exact same rfl
        ·cases es; exact same rfl
       | set b v =>
        simp only [mdeed] at es
        split at es
        ·cases es; exact same rfl
        ·exact setM _ es
       | add b o =>
        simp only [mdeed] at es
        split at es
        ·cases es; exact same rfl
        ·exact setM _ es
theorem Fi.flts {g : Gv} {a b : Ms} {c : Nat} (hg : GvOk g) (h : Fi g a c b) : FltOk a → FltOk b := by
 induction h with
 | done _ => exact id
 | stop e _ => exact fun x => flt_step hg x e
 | step e _ ih => exact fun x => ih (flt_step hg x e)
theorem flt_tame {ps : List (Int × Int)} (h : ∀ p ∈ ps, 0 ≤ p.1 ∧ p.1 ≤ 100 ∧ 0 ≤ p.2 ∧ p.2 ≤ 8) : tameAll (ps.map prD) = true ∧ tameWs (ps.map prD) = true ∧ cellsAll (ps.map prD) = 3 * ps.length ∧ PyData.depthAll (ps.map prD) ≤ 1 := by
 induction ps with
 | nil => exact ⟨rfl, rfl, rfl, Nat.zero_le _⟩
 | cons p r ih =>
  obtain ⟨i1, i2, i3, i4⟩ := ih fun q hq => h q (List.mem_cons_of_mem _ hq)
  obtain ⟨h1, h2, h3, h4⟩ := h p (List.mem_cons_self ..)
  have a1 : p.1.natAbs < 10 ^ 13 := by omega
  have a2 : p.2.natAbs < 10 ^ 13 := by omega
  have b1 : p.1.natAbs < 10 ^ 60 := Nat.lt_of_lt_of_le a1 (by decide)
  have b2 : p.2.natAbs < 10 ^ 60 := Nat.lt_of_lt_of_le a2 (by decide)
  refine ⟨?_, ?_, ?_, ?_⟩
  ·simp only [List.map_cons, prD, tameAll, tame, i1, decide_eq_true a1, decide_eq_true a2, Bool.and_self]
  ·simp only [List.map_cons, prD, tameWs, tameW, i2, decide_eq_true b1, decide_eq_true b2, Bool.and_self]
  ·simp only [List.map_cons, prD, cellsAll, cells, i3, List.length_cons]; omega
  ·simp only [List.map_cons, prD, PyData.depthAll, PyData.depth]; omega
theorem run_tame {c : Nat} {m : Ms} (h : NumOk m) (hf : FltOk m) (hs : m.steps ≤ 150) (hl : m.told.length ≤ 150) (h8 : m.held.length = 8) (hfl : m.flt.length ≤ 1208) : tameW (runD (stS c) m.told m.flt m.held) = true ∧ (runD (stS c) m.told m.flt m.held).weight ≤ 260000 ∧ (runD (stS c) m.told m.flt m.held).depth ≤ 64 := by
 have hto := told_lim h hs
 have hhe : ∀ x ∈ m.held, x.natAbs < 10 ^ 60 := fun x hx => by
  have h1 := h.held x hx
  have h2 : lim m ≤ 10 ^ 12 * 2 ^ 150 := Nat.mul_le_mul_left _ (Nat.pow_le_pow_right (by decide) (by omega))
  exact Nat.lt_of_le_of_lt (Nat.le_trans h1 h2) (by decide)
 obtain ⟨f1, f2, f3, f4⟩ := flt_tame hf
 have t1 := tameWs_ints hto
 have t2 := tameWs_ints hhe
 have w1 := tameWs_weight _ t1
 have w2 := tameWs_weight _ t2
 have w3 := tameAll_weight _ f1
 rw [cells_ints] at w1 w2
 have hw := stS_word c
 refine ⟨?_, ?_, ?_⟩
 ·simp only [runD, tameW, tameWs, t1, t2, f2, Bool.and_true]
  exact hw
 ·have hsz : (stS c).cps.size ≤ 10 := by
   rw [Bool.and_eq_true, decide_eq_true_eq] at hw
   exact hw.2
  simp only [runD, PyData.weight, PyData.weightAll]
  omega
 ·simp only [runD, PyData.depth, PyData.depthAll, depth_ints]
  omega
noncomputable def spRun (K : PySem.W.Frag) : Sp := fun vs H Q _ => ∃ (g : Gv) (wa bx ca : Addr) (c : Int) (bl : List Int), vs = [.ref wa, .int c, .ref bx, .ref ca, .int g.most] ∧ GvOk g ∧ g.mean = false ∧ Den K H (worksD g.ws) (.ref wa) ∧ SqL K H bx (bl.map V.int) ∧ bl.length = 8 ∧ SqL K H ca (g.ch.map V.int) ∧ 0 ≤ c ∧ c < g.ws.length ∧
 ∀ (tp ta fa ba : Addr) (fl : List V) (m' : Ms) (cc : Nat) (H' : Hp), Fi g (pushed (ms0 bl) c bl) cc m' → H' tp = some (.tup [.str (stS cc), .ref ta, .ref fa, .ref ba]) → H' ta = some (.lst (m'.told.map V.int)) → H' fa = some (.lst fl) → PrsAt H' fl m'.flt → H' ba = some (.lst (m'.held.map V.int)) → H ta = none → H fa = none → H ba = none → ta ≠ fa → ta ≠ ba → fa ≠ ba → H tp = none → MsOk g m' → Ext [] H H' → Q (.ref tp) H'
end L2
set_option maxHeartbeats 1000000
namespace L2
open PySem PySem.Spec PyProof.Rows
noncomputable def Gv.more (g : Gv) : Gv := ⟨g.mean, g.ws, g.ch, g.most + 1⟩
theorem GvOk.more {g : Gv} (h : GvOk g) (h2 : g.most < 20000) : GvOk g.more := ⟨h.ws, ⟨by have := h.most; show 0 ≤ g.most + 1; omega, by show g.most + 1 ≤ 20000; omega⟩, h.plain, h.ch⟩
theorem step_more {g : Gv} {m m' : Ms} {c : Nat} (hs : m.steps ≤ g.most) (es : mstep g m = some (m', c)) :
  (∃ ext, m'.told = m.told ++ ext ∧ (ext.length : Int) ≤ m'.steps - m.steps) ∧ (c = 1 → m'.told = m.told ∧ m.steps = g.most) ∧ (c ≠ 1 → mstep g.more m = some (m', c)) := by
 have none : ∀ {m2 : Ms}, m2.told = m.told → m2.steps = m.steps → ∃ ext, m2.told = m.told ++ ext ∧ (ext.length : Int) ≤ m2.steps - m.steps := fun {m2} h1 h2 => ⟨[], by rw [h1, List.append_nil], by rw [h2]; simp⟩
 have one : ∀ {m2 : Ms}, m2.told = m.told → m2.steps = m.steps + 1 → ∃ ext, m2.told = m.told ++ ext ∧ (ext.length : Int) ≤ m2.steps - m.steps := fun {m2} h1 h2 => ⟨[], by rw [h1, List.append_nil], by rw [h2]; simp; omega⟩
 have ne1 : m.steps ≠ g.more.most := by show m.steps ≠ g.most + 1; omega
 have n0 : ¬ (0 = 1) := by decide
 unfold mstep at es
 show _ ∧ _ ∧ (c ≠ 1 → mstep g.more m = some (m', c))
 unfold mstep
 cases e : m.st with
 | nil => rw [e] at es; cases es
 | cons f rest =>
  rw [e] at es
  dsimp only at es ⊢
  show _ ∧ _ ∧ (c ≠ 1 → (match g.ws[f.n]? with | Option.none => Option.none | some wk => _) = some (m', c))
  cases hw : g.ws[f.n]? with
  | none => rw [hw] at es; cases es
  | some wk =>
   rw [hw] at es
   dsimp only at es ⊢
   by_cases ho : f.w1 = (wk.length : Int)
   ·rw [if_pos ho] at es
    rw [if_pos ho]
    cases es
    exact ⟨none rfl rfl, fun h => absurd h n0, fun _ => rfl⟩
   ·rw [if_neg ho] at es
    rw [if_neg ho]
    cases hb : wk[f.w1.toNat]? with
    | none => rw [hb] at es; cases es
    | some b =>
     rw [hb] at es
     dsimp only at es ⊢
     by_cases hp : f.pos < 0
     ·rw [if_pos hp] at es
      rw [if_pos hp]
      by_cases hm : m.steps = g.most
      ·rw [if_pos hm] at es
       cases es
       exact ⟨none rfl rfl, fun _ => ⟨rfl, hm⟩, fun h => absurd rfl h⟩
      ·rw [if_neg hm] at es
       cases es
       exact ⟨one rfl rfl, fun h => absurd h n0, fun _ => by rw [if_neg ne1]⟩
     ·rw [if_neg hp] at es
      rw [if_neg hp]
      cases hd : b.ds[f.pos.toNat]? with
      | none =>
       rw [hd] at es
       cases es
       exact ⟨none rfl rfl, fun h => absurd h n0, fun _ => rfl⟩
      | some d =>
       rw [hd] at es
       have es := Option.some.inj es
       show _ ∧ _ ∧ (c ≠ 1 → some (mdeed g.more m { f with pos := f.pos + 1 } rest d) = some (m', c))
       have going : ∀ {r : Ms × Nat}, m.steps = g.most → (if m.steps = g.most then (({ m with st := { f with pos := f.pos + 1 } :: rest } : Ms), 1) else r) = (m', c) → (∃ ext, m'.told = m.told ++ ext ∧ (ext.length : Int) ≤ m'.steps - m.steps) ∧ (c = 1 → m'.told = m.told ∧ m.steps = g.most) ∧ (c ≠ 1 → some (mdeed g.more m { f with pos := f.pos + 1 } rest d) = some (m', c)) := by
        intro r hm ez
        rw [if_pos hm] at ez
        cases ez
        exact ⟨none rfl rfl, fun _ => ⟨rfl, hm⟩, fun h => absurd rfl h⟩
       have setM : ∀ l : List Int, (setMine g { m with steps := m.steps + 1 } { f with pos := f.pos + 1 } rest l, 0) = (m', c) → (∃ ext, m'.told = m.told ++ ext ∧ (ext.length : Int) ≤ m'.steps - m.steps) ∧ c = 0 := by
        intro l ez
        unfold setMine at ez
        split at ez
        ·cases ez; exact ⟨one rfl rfl, rfl⟩
        ·cases ez; exact ⟨one rfl rfl, rfl⟩
       cases d with
       | save b =>
        cases es
        exact ⟨none rfl rfl, fun h => absurd h n0, fun _ => rfl⟩
       | back b =>
        simp only [mdeed] at es ⊢
        cases hl : f.as.lookup b with
        | none =>
         rw [hl] at es
         cases es
         exact ⟨none rfl rfl, fun h => absurd h (by decide), fun _ => rfl⟩
        | some v =>
         rw [hl] at es
         cases es
         exact ⟨none rfl rfl, fun h => absurd h n0, fun _ => rfl⟩
       | call x =>
        by_cases hm : m.steps = g.most
        ·exact going hm es
        ·simp only [mdeed] at es ⊢
         rw [if_neg hm] at es
         rw [if_neg ne1]
         split at es
         ·rename_i h20
          cases es
          exact ⟨none rfl rfl, fun h => absurd h (by decide), fun _ => by rw [if_pos h20]⟩
         ·rename_i h20
          cases es
          exact ⟨one rfl rfl, fun h => absurd h n0, fun _ => by rw [if_neg h20]; rfl⟩
       | tell b =>
        by_cases hm : m.steps = g.most
        ·exact going hm es
        ·simp only [mdeed] at es ⊢
         rw [if_neg hm] at es
         rw [if_neg ne1]
         cases es
         refine ⟨⟨[_], rfl, ?_⟩, fun h => absurd h n0, fun _ => rfl⟩
         show ((1 : Nat) : Int) ≤ m.steps + 1 - m.steps
         omega
       | set b v =>
        by_cases hm : m.steps = g.most
        ·exact going hm es
        ·simp only [mdeed] at es ⊢
         rw [if_neg hm] at es
         rw [if_neg ne1]
         obtain ⟨h1, h2⟩ := setM _ es
         exact ⟨h1, fun h => absurd (h2.symm.trans h) n0, fun _ => congrArg some es⟩
       | add b o =>
        by_cases hm : m.steps = g.most
        ·exact going hm es
        ·simp only [mdeed] at es ⊢
         rw [if_neg hm] at es
         rw [if_neg ne1]
         obtain ⟨h1, h2⟩ := setM _ es
         exact ⟨h1, fun h => absurd (h2.symm.trans h) n0, fun _ => congrArg some es⟩
theorem Fi.tolds {g : Gv} {a b : Ms} {c : Nat} (hg : GvOk g) (h : Fi g a c b) : MsOk g a → ∃ ext, b.told = a.told ++ ext ∧ (ext.length : Int) ≤ b.steps - a.steps := by
 induction h with
 | done _ => intro _; exact ⟨[], by simp, by simp⟩
 | stop e _ => intro ms; exact (step_more ms.steps.2 e).1
 | step e _ ih =>
  intro ms
  obtain ⟨x1, h1, h2⟩ := (step_more ms.steps.2 e).1
  obtain ⟨x2, h3, h4⟩ := ih (mstep_ok hg ms e)
  refine ⟨x1 ++ x2, by rw [h3, h1, List.append_assoc], ?_⟩
  rw [List.length_append]; push_cast; omega
theorem Fi.after {g : Gv} {a b d : Ms} {c : Nat} (h : Go g a b) (k : Fi g a c d) : Fi g b c d := by
 induction h with
 | refl => exact k
 | step e _ ih =>
  refine ih ?_
  cases k with
  | done e2 => rw [mstep_nil e2] at e; cases e
  | stop e2 hc => rw [e] at e2; cases e2; exact absurd rfl hc
  | step e2 k => rw [e] at e2; cases e2; exact k
theorem Fi.both' {g : Gv} {a b : Ms} {c : Nat} (h : Fi g a c b) (hg : GvOk g) : MsOk g a → MsOk g b := by
 induction h with
 | done _ => exact id
 | stop e _ => exact fun x => mstep_ok hg x e
 | step e _ ih => exact fun x => ih (mstep_ok hg x e)
theorem Fi.more {g : Gv} {a b : Ms} {c : Nat} (hg : GvOk g) (h : Fi g a c b) : MsOk g a → (c ≠ 1 → Fi g.more a c b) ∧ (c = 1 → ∃ mid, Go g.more a mid ∧ b.told = mid.told ∧ mid.steps = g.most ∧ MsOk g mid) := by
 induction h with
 | done e => intro _; exact ⟨fun _ => .done e, fun h => absurd h (by decide)⟩
 | stop e hc =>
  intro ms
  obtain ⟨_, h2, h3⟩ := step_more ms.steps.2 e
  exact ⟨fun h => .stop (h3 h) hc, fun h => ⟨_, .refl, (h2 h).1, (h2 h).2, ms⟩⟩
 | step e _ ih =>
  intro ms
  obtain ⟨_, _, h3⟩ := step_more ms.steps.2 e
  have h3 := h3 (by decide)
  obtain ⟨i1, i2⟩ := ih (mstep_ok hg ms e)
  refine ⟨fun h => .step h3 (i1 h), fun h => ?_⟩
  obtain ⟨mid, j1, j2⟩ := i2 h
  exact ⟨mid, .step h3 j1, j2⟩
theorem MsOk.more {g : Gv} {m : Ms} (h : MsOk g m) : MsOk g.more m := ⟨h.held, ⟨h.steps.1, by have := h.steps.2; show m.steps ≤ g.most + 1; omega⟩, h.told, h.flt, h.log, h.taken, fun f hf => ⟨(h.st f hf).bx, (h.st f hf).wk, (h.st f hf).pos, (h.st f hf).as⟩, h.deep⟩
theorem Fi.next {g : Gv} {a b b' : Ms} {c c' : Nat} (hg : GvOk g) (h2 : g.most < 20000) (h : Fi g a c b) (h' : Fi g.more a c' b') (ms : MsOk g a) : (∃ ext, b'.told = b.told ++ ext ∧ ext.length ≤ 1) ∧ (c ≠ 1 → c' = c ∧ b' = b) := by
 obtain ⟨k1, k2⟩ := h.more hg ms
 by_cases hc : c = 1
 ·obtain ⟨mid, j1, j2, j3, j4⟩ := k2 hc
  have f := Fi.after j1 h'
  obtain ⟨ext, x1, x2⟩ := f.tolds (hg.more h2) j4.more
  have ms' := (f.both' (hg.more h2)) j4.more
  refine ⟨⟨ext, by rw [x1, j2], ?_⟩, fun z => absurd hc z⟩
  have : b'.steps ≤ g.most + 1 := ms'.steps.2
  omega
 ·obtain ⟨e1, e2⟩ := h'.det (k1 hc)
  subst e1 e2
  exact ⟨⟨[], by simp, by simp⟩, fun _ => ⟨rfl, rfl⟩⟩
end L2
set_option maxHeartbeats 1000000
namespace L2
open PySem PySem.Spec PyProof.Rows
theorem Fi.zero {g : Gv} {bl : List Int} {c : Int} (gv : GvOk g) (hm : g.most = 0) (h0 : 0 ≤ c) (h1 : c < g.ws.length) : Fi g (pushed (ms0 bl) c bl) 1 (pushed (ms0 bl) c bl) := by
 obtain ⟨wk, hwk⟩ : ∃ wk, g.ws[c.toNat]? = some wk := ⟨_, List.getElem?_eq_getElem (by omega)⟩
 obtain ⟨mm, hm1, _, hOk⟩ := gv.ws.all wk (List.mem_of_getElem? hwk)
 have hl := hOk.len
 obtain ⟨b, hb⟩ : ∃ b, wk[(0 : Int).toNat]? = some b := ⟨_, List.getElem?_eq_getElem (by show 0 < wk.length; omega)⟩
 have e := ms_come (g := g) (m := pushed (ms0 bl) c bl) (f := ⟨c.toNat, -1, 0, -1, bl, []⟩) (rest := []) rfl hwk (by show ¬ (0 : Int) = _; omega) hb (by show (-1 : Int) < 0; decide)
 rw [if_pos (show (pushed (ms0 bl) c bl).steps = g.most from hm.symm)] at e
 exact .stop e (by decide)
noncomputable def ringW (s : Nat) (b : Int) : List (List Blk) := (List.range s).map fun k => [⟨[.tell b, .call (((k + 1) % s : Nat) : Int)], []⟩]
noncomputable def fives : List Int := List.replicate 8 5
structure Lev (s j : Nat) (m : Ms) (rest : List Fr) : Prop where
 st : m.st = ⟨j % s, -1, 0, -1, fives, []⟩ :: rest
 ln : rest.length = j
 told : m.told = List.replicate j 5
 steps : m.steps = 3 * (j : Int)
 held : m.held = fives
theorem getB_fives {b : Int} (h0 : 0 ≤ b) (h1 : b < 8) : getB fives b = 5 := by
 unfold getB fives
 rw [List.getD_eq_getElem?_getD, List.getElem?_replicate, if_pos (by omega)]; rfl
theorem ring_lev {g : Gv} {s : Nat} {b : Int} (hs : 1 ≤ s) (b0 : 0 ≤ b) (b1 : b < 8) (hw : g.ws = ringW s b) {j : Nat} {m : Ms} {rest : List Fr} (L : Lev s j m rest) (h0 : 3 * (j : Int) ≤ g.most) :
  (g.most = 3 * j → ∃ m', Fi g m 1 m' ∧ m'.told = List.replicate j 5) ∧ (g.most = 3 * j + 1 → ∃ m', Fi g m 1 m' ∧ m'.told = List.replicate j 5) ∧ (g.most = 3 * j + 2 → ∃ m', Fi g m 1 m' ∧ m'.told = List.replicate (j + 1) 5) ∧
  (3 * (j : Int) + 3 ≤ g.most → j = 19 → ∃ m', Fi g m 2 m' ∧ m'.told = List.replicate (j + 1) 5) ∧ (3 * (j : Int) + 3 ≤ g.most → j ≠ 19 → ∃ m' rest', Go g m m' ∧ Lev s (j + 1) m' rest') := by
 obtain ⟨est, hln, htold, hsteps, hheld⟩ := L
 have hjs : j % s < s := Nat.mod_lt _ (by omega)
 have hwk : g.ws[j % s]? = some [⟨[.tell b, .call (((j % s + 1) % s : Nat) : Int)], []⟩] := by
  rw [hw]; unfold ringW
  rw [List.getElem?_map, List.getElem?_range hjs]; rfl
 have hne : ¬ ((0 : Int) = (([⟨[.tell b, .call (((j % s + 1) % s : Nat) : Int)], []⟩] : List Blk).length : Int)) := by simp
 have e1 := ms_come est hwk hne rfl (by show (-1 : Int) < 0; decide)
 by_cases c1 : m.steps = g.most
 ·rw [if_pos c1] at e1
  have st1 : Fi g m 1 m := .stop e1 (by decide)
  refine ⟨fun _ => ⟨m, st1, htold⟩, fun h => ?_, fun h => ?_, fun h => ?_, fun h => ?_⟩ <;> (rw [hsteps] at c1; omega)
 rw [if_neg c1] at e1
 obtain ⟨m1, hm1⟩ : ∃ m1 : Ms, m1 = { m with steps := m.steps + 1, log := m.log ++ [(((⟨j % s, -1, 0, -1, fives, []⟩ : Fr).n : Int), -1, 0)], st := ⟨j % s, -1, 0, 0, fives, []⟩ :: rest } := ⟨_, rfl⟩
 have e1 : mstep g m = some (m1, 0) := by rw [hm1]; exact e1
 have est1 : m1.st = ⟨j % s, -1, 0, 0, fives, []⟩ :: rest := by rw [hm1]
 have t1 : m1.told = List.replicate j 5 := by rw [hm1]; exact htold
 have s1 : m1.steps = 3 * (j : Int) + 1 := by rw [hm1]; show m.steps + 1 = _; rw [hsteps]
 have d1 : m1.held = fives := by rw [hm1]; exact hheld
 clear hm1
 have e2 := ms_deed (d := .tell b) est1 hwk hne rfl (by show ¬ (0 : Int) < 0; decide) rfl
 have hmine1 : mine g m1 ⟨j % s, -1, 0, 0 + 1, fives, []⟩ = fives := by unfold mine; split; rfl; exact d1
 simp only [mdeed] at e2
 by_cases c2 : m1.steps = g.most
 ·rw [if_pos c2] at e2
  have st2 : Fi g m 1 _ := .step e1 (.stop e2 (by decide))
  refine ⟨fun h => ?_, fun _ => ⟨_, st2, t1⟩, fun h => ?_, fun h => ?_, fun h => ?_⟩ <;> (rw [s1] at c2; omega)
 rw [if_neg c2] at e2
 obtain ⟨m2, hm2⟩ : ∃ m2 : Ms, m2 = { m1 with steps := m1.steps + 1, told := m1.told ++ [getB (mine g m1 ⟨j % s, -1, 0, 0 + 1, fives, []⟩) b], st := ⟨j % s, -1, 0, 0 + 1, fives, []⟩ :: rest } := ⟨_, rfl⟩
 have e2 : mstep g m1 = some (m2, 0) := by rw [hm2]; exact e2
 have est2 : m2.st = ⟨j % s, -1, 0, 0 + 1, fives, []⟩ :: rest := by rw [hm2]
 have t2 : m2.told = List.replicate (j + 1) 5 := by rw [hm2]; show m1.told ++ _ = _; rw [hmine1, getB_fives b0 b1, t1, List.replicate_succ']
 have s2 : m2.steps = 3 * (j : Int) + 2 := by rw [hm2]; show m1.steps + 1 = _; rw [s1]; omega
 have d2 : m2.held = fives := by rw [hm2]; exact d1
 clear hm2
 have e3 := ms_deed (d := .call (((j % s + 1) % s : Nat) : Int)) est2 hwk hne rfl (by show ¬ (0 + 1 : Int) < 0; decide) rfl
 have hmine2 : mine g m2 ⟨j % s, -1, 0, 0 + 1 + 1, fives, []⟩ = fives := by unfold mine; split; rfl; exact d2
 simp only [mdeed] at e3
 by_cases c3 : m2.steps = g.most
 ·rw [if_pos c3] at e3
  have st3 : Fi g m 1 _ := .step e1 (.step e2 (.stop e3 (by decide)))
  refine ⟨fun h => ?_, fun h => ?_, fun _ => ⟨_, st3, t2⟩, fun h => ?_, fun h => ?_⟩ <;> (rw [s2] at c3; omega)
 rw [if_neg c3] at e3
 rw [hsteps] at c1
 rw [s1] at c2
 rw [s2] at c3
 refine ⟨fun h => absurd h.symm c1, fun h => absurd h.symm c2, fun h => absurd h.symm c3, fun _ hj => ?_, fun _ hj => ?_⟩
 ·rw [if_pos (by omega)] at e3
  exact ⟨_, .step e1 (.step e2 (.stop e3 (by decide))), t2⟩
 ·rw [if_neg (by omega)] at e3
  refine ⟨_, ⟨j % s, -1, 0, 0 + 1 + 1, fives, []⟩ :: rest, .step e1 (.step e2 (.one e3)), ⟨?_, ?_, t2, ?_, d2⟩⟩
  ·show (⟨(((j % s + 1) % s : Nat) : Int).toNat, -1, 0, -1, mine g m2 ⟨j % s, -1, 0, 0 + 1 + 1, fives, []⟩, []⟩ : Fr) :: _ = _
   rw [hmine2, Int.toNat_natCast, Nat.mod_add_mod]
  ·show rest.length + 1 = j + 1; omega
  ·show m2.steps + 1 = _; rw [s2]; push_cast; omega
theorem ring_go {g : Gv} {s : Nat} {b : Int} (hs : 1 ≤ s) (b0 : 0 ≤ b) (b1 : b < 8) (hw : g.ws = ringW s b) : ∀ (n j : Nat) (m : Ms) (rest : List Fr), j + n = 19 → Lev s j m rest → 3 * (j : Int) ≤ g.most →
  ∃ m' c, Fi g m c m' ∧ (g.most > 59 → c = 2 ∧ m'.told = List.replicate 20 5) ∧ (g.most ≤ 59 → c = 1 ∧ m'.told = List.replicate ((g.most + 1) / 3).toNat 5) := by
 intro n
 induction n with
 | zero =>
  intro j m rest hj L hm
  have hj : j = 19 := by omega
  obtain ⟨h1, h2, h3, h4, _⟩ := ring_lev hs b0 b1 hw L hm
  by_cases q : 60 ≤ g.most
  ·obtain ⟨m', f, t⟩ := h4 (by omega) hj
   exact ⟨m', 2, f, fun _ => ⟨rfl, by rw [t, hj]⟩, fun h => absurd h (by omega)⟩
  ·have : g.most = 3 * j ∨ g.most = 3 * j + 1 ∨ g.most = 3 * j + 2 := by omega
   rcases this with z | z | z
   ·obtain ⟨m', f, t⟩ := h1 z
    exact ⟨m', 1, f, fun h => absurd h (by omega), fun _ => ⟨rfl, by rw [t, show ((g.most + 1) / 3).toNat = j by omega]⟩⟩
   ·obtain ⟨m', f, t⟩ := h2 z
    exact ⟨m', 1, f, fun h => absurd h (by omega), fun _ => ⟨rfl, by rw [t, show ((g.most + 1) / 3).toNat = j by omega]⟩⟩
   ·obtain ⟨m', f, t⟩ := h3 z
    exact ⟨m', 1, f, fun h => absurd h (by omega), fun _ => ⟨rfl, by rw [t, show ((g.most + 1) / 3).toNat = j + 1 by omega]⟩⟩
 | succ n ih =>
  intro j m rest hj L hm
  obtain ⟨h1, h2, h3, _, h5⟩ := ring_lev hs b0 b1 hw L hm
  by_cases q : 3 * (j : Int) + 3 ≤ g.most
  ·obtain ⟨m1, r1, hgo, L1⟩ := h5 q (by omega)
   obtain ⟨m', c, f, k⟩ := ih (j + 1) m1 r1 (by omega) L1 (by push_cast; omega)
   exact ⟨m', c, .of hgo f, k⟩
  ·have : g.most = 3 * j ∨ g.most = 3 * j + 1 ∨ g.most = 3 * j + 2 := by omega
   rcases this with z | z | z
   ·obtain ⟨m', f, t⟩ := h1 z
    exact ⟨m', 1, f, fun h => absurd h (by omega), fun _ => ⟨rfl, by rw [t, show ((g.most + 1) / 3).toNat = j by omega]⟩⟩
   ·obtain ⟨m', f, t⟩ := h2 z
    exact ⟨m', 1, f, fun h => absurd h (by omega), fun _ => ⟨rfl, by rw [t, show ((g.most + 1) / 3).toNat = j by omega]⟩⟩
   ·obtain ⟨m', f, t⟩ := h3 z
    exact ⟨m', 1, f, fun h => absurd h (by omega), fun _ => ⟨rfl, by rw [t, show ((g.most + 1) / 3).toNat = j + 1 by omega]⟩⟩
theorem ring_fi {g : Gv} {s : Nat} {b : Int} (hs : 1 ≤ s) (b0 : 0 ≤ b) (b1 : b < 8) (hw : g.ws = ringW s b) (hm : 0 ≤ g.most) :
  ∃ m' c, Fi g (pushed (ms0 fives) 0 fives) c m' ∧ (g.most > 59 → c = 2 ∧ m'.told = List.replicate 20 5) ∧ (g.most ≤ 59 → c = 1 ∧ m'.told = List.replicate ((g.most + 1) / 3).toNat 5) :=
 ring_go hs b0 b1 hw 19 0 (pushed (ms0 fives) 0 fives) [] rfl ⟨by show [(⟨(0 : Int).toNat, -1, 0, -1, fives, []⟩ : Fr)] = _; rw [Nat.zero_mod]; rfl, rfl, rfl, rfl, rfl⟩ (by omega)
noncomputable def chainW (n : Nat) : List (List Blk) := ((List.range n).map fun k => [⟨[.call ((k : Int) + 1)], []⟩]) ++ [[⟨[], []⟩]]
theorem chainAt {n k : Nat} (h : k < n) : (chainW n)[k]? = some [⟨[.call ((k : Int) + 1)], []⟩] := by
 unfold chainW
 rw [List.getElem?_append_left (by simpa using h), List.getElem?_map, List.getElem?_range h]; rfl
theorem chainLast (n : Nat) : (chainW n)[n]? = some [⟨[], []⟩] := by
 unfold chainW
 rw [List.getElem?_append_right (by simp)]; simp
def Waits (n : Nat) (st : List Fr) : Prop := ∀ f ∈ st, f.n < n ∧ f.w1 = 0 ∧ f.pos = 1
theorem chain_down {g : Gv} {n : Nat} (hw : g.ws = chainW n) : ∀ (st : List Fr) (m : Ms), m.st = st → Waits n st → ∃ m', Fi g m 0 m' := by
 intro st
 induction st with
 | nil => intro m e _; exact ⟨m, .done e⟩
 | cons f rest ih =>
  intro m e W
  obtain ⟨h1, h2, h3⟩ := W f (List.mem_cons_self ..)
  have hwk : g.ws[f.n]? = some [⟨[.call ((f.n : Int) + 1)], []⟩] := by rw [hw]; exact chainAt h1
  have e1 := ms_next (b := ⟨[.call ((f.n : Int) + 1)], []⟩) e hwk (by rw [h2]; simp) (by rw [h2]; rfl) (by rw [h3]; decide) (by rw [h3]; rfl)
  obtain ⟨m1, hm1⟩ : ∃ m1 : Ms, m1 = { m with taken := (nextOf g.ch m.taken (([⟨[.call ((f.n : Int) + 1)], []⟩] : List Blk).length) ([] : List Int)).2, st := { f with w0 := f.w1, w1 := (nextOf g.ch m.taken (([⟨[.call ((f.n : Int) + 1)], []⟩] : List Blk).length) ([] : List Int)).1, pos := -1 } :: rest } := ⟨_, rfl⟩
  have e1 : mstep g m = some (m1, 0) := by rw [hm1]; exact e1
  have est1 : m1.st = { f with w0 := f.w1, w1 := 1, pos := -1 } :: rest := by rw [hm1]; rfl
  have e2 := ms_out est1 hwk (by show (1 : Int) = _; rfl)
  obtain ⟨m', f'⟩ := ih ({ m1 with log := m1.log ++ [(((({ f with w0 := f.w1, w1 := 1, pos := -1 } : Fr).n : Nat) : Int), ({ f with w0 := f.w1, w1 := 1, pos := -1 } : Fr).w0, ({ f with w0 := f.w1, w1 := 1, pos := -1 } : Fr).w1)], flt := if g.mean = true then m1.flt else m1.flt ++ (badB m1 { f with w0 := f.w1, w1 := 1, pos := -1 }).map fun b => (((({ f with w0 := f.w1, w1 := 1, pos := -1 } : Fr).n : Nat) : Int), b), st := rest }) rfl (fun y hy => W y (List.mem_cons_of_mem _ hy))
  exact ⟨m', .step e1 (.step e2 f')⟩
theorem chain_go {g : Gv} {n : Nat} (hw : g.ws = chainW n) (hn : n ≤ 22) (hm : g.most = 500) : ∀ (k j : Nat) (m : Ms) (bl : List Int) (rest : List Fr), j + k = n → j ≤ 19 → m.st = ⟨j, -1, 0, -1, bl, []⟩ :: rest → rest.length = j → Waits n rest → m.steps = 2 * (j : Int) → ∃ m', Fi g m (if n < 20 then 0 else 2) m' := by
 intro k
 induction k with
 | zero =>
  intro j m bl rest hj h19 est hl W hs
  have hj : j = n := by omega
  subst hj
  have hwk : g.ws[(⟨j, -1, 0, -1, bl, []⟩ : Fr).n]? = some [⟨[], []⟩] := by rw [hw]; exact chainLast j
  have e1 := ms_come est hwk (by show ¬ (0 : Int) = 1; decide) rfl (by show (-1 : Int) < 0; decide)
  rw [if_neg (by rw [hs, hm]; omega)] at e1
  obtain ⟨m1, hm1⟩ : ∃ m1 : Ms, m1 = { m with steps := m.steps + 1, log := m.log ++ [(((⟨j, -1, 0, -1, bl, []⟩ : Fr).n : Int), -1, 0)], st := ⟨j, -1, 0, 0, bl, []⟩ :: rest } := ⟨_, rfl⟩
  have e1 : mstep g m = some (m1, 0) := by rw [hm1]; exact e1
  have est1 : m1.st = ⟨j, -1, 0, 0, bl, []⟩ :: rest := by rw [hm1]
  have e2 := ms_next (b := ⟨[], []⟩) est1 hwk (by show ¬ (0 : Int) = 1; decide) rfl (by show ¬ (0 : Int) < 0; decide) rfl
  obtain ⟨m2, hm2⟩ : ∃ m2 : Ms, m2 = { m1 with taken := m1.taken, st := ⟨j, 0, 1, -1, bl, []⟩ :: rest } := ⟨_, rfl⟩
  have e2 : mstep g m1 = some (m2, 0) := by rw [hm2]; exact e2
  have est2 : m2.st = ⟨j, 0, 1, -1, bl, []⟩ :: rest := by rw [hm2]
  have e3 := ms_out est2 hwk (by show (1 : Int) = _; rfl)
  obtain ⟨m', f'⟩ := chain_down hw rest ({ m2 with log := m2.log ++ [(((⟨j, 0, 1, -1, bl, []⟩ : Fr).n : Int), (⟨j, 0, 1, -1, bl, []⟩ : Fr).w0, (⟨j, 0, 1, -1, bl, []⟩ : Fr).w1)], flt := if g.mean = true then m2.flt else m2.flt ++ (badB m2 ⟨j, 0, 1, -1, bl, []⟩).map fun b => (((⟨j, 0, 1, -1, bl, []⟩ : Fr).n : Int), b), st := rest }) rfl W
  rw [if_pos (by omega)]
  exact ⟨m', .step e1 (.step e2 (.step e3 f'))⟩
 | succ k ih =>
  intro j m bl rest hj h19 est hl W hs
  have hjn : j < n := by omega
  have hwk : g.ws[(⟨j, -1, 0, -1, bl, []⟩ : Fr).n]? = some [⟨[.call ((j : Int) + 1)], []⟩] := by rw [hw]; exact chainAt hjn
  have e1 := ms_come est hwk (by show ¬ (0 : Int) = 1; decide) rfl (by show (-1 : Int) < 0; decide)
  rw [if_neg (by rw [hs, hm]; omega)] at e1
  obtain ⟨m1, hm1⟩ : ∃ m1 : Ms, m1 = { m with steps := m.steps + 1, log := m.log ++ [(((⟨j, -1, 0, -1, bl, []⟩ : Fr).n : Int), -1, 0)], st := ⟨j, -1, 0, 0, bl, []⟩ :: rest } := ⟨_, rfl⟩
  have e1 : mstep g m = some (m1, 0) := by rw [hm1]; exact e1
  have est1 : m1.st = ⟨j, -1, 0, 0, bl, []⟩ :: rest := by rw [hm1]
  have s1 : m1.steps = 2 * (j : Int) + 1 := by rw [hm1]; show m.steps + 1 = _; rw [hs]
  clear hm1
  have e2 := ms_deed (d := .call ((j : Int) + 1)) est1 hwk (by show ¬ (0 : Int) = 1; decide) rfl (by show ¬ (0 : Int) < 0; decide) rfl
  simp only [mdeed] at e2
  rw [if_neg (by rw [s1, hm]; omega)] at e2
  by_cases h20 : j = 19
  ·rw [if_pos (by omega)] at e2
   rw [if_neg (by omega)]
   exact ⟨_, .step e1 (.stop e2 (by decide))⟩
  ·rw [if_neg (by omega)] at e2
   obtain ⟨m', f'⟩ := ih (j + 1) ({ m1 with steps := m1.steps + 1, st := ⟨((j : Int) + 1).toNat, -1, 0, -1, mine g m1 ⟨j, -1, 0, 0 + 1, bl, []⟩, []⟩ :: ⟨j, -1, 0, 0 + 1, bl, []⟩ :: rest }) (mine g m1 ⟨j, -1, 0, 0 + 1, bl, []⟩) (⟨j, -1, 0, 0 + 1, bl, []⟩ :: rest) (by omega) (by omega) (by show (⟨((j : Int) + 1).toNat, -1, 0, -1, mine g m1 ⟨j, -1, 0, 0 + 1, bl, []⟩, []⟩ : Fr) :: _ = _; rw [show ((j : Int) + 1).toNat = j + 1 by omega]) (by show rest.length + 1 = j + 1; omega) (fun y hy => by
    rcases List.mem_cons.mp hy with z | z
    ·subst z; exact ⟨by show j < n; omega, rfl, rfl⟩
    ·exact W y z) (by show m1.steps + 1 = _; rw [s1]; push_cast; omega)
   exact ⟨m', .step e1 (.step e2 f')⟩
theorem chain_fi {g : Gv} {n : Nat} {bl : List Int} (hw : g.ws = chainW n) (hn : n ≤ 22) (hm : g.most = 500) : ∃ m', Fi g (pushed (ms0 bl) 0 bl) (if n < 20 then 0 else 2) m' :=
 chain_go hw hn hm n 0 (pushed (ms0 bl) 0 bl) bl [] (by omega) (by omega) rfl rfl (fun _ h => by cases h) rfl
end L2
set_option maxHeartbeats 1000000
namespace HT
open PySem PySem.Spec PyProof PyProof.Rows
section
variable {prog : Program} {w : World} {A : Around} {E : Value → Shared → Prop} {s : Shared}
theorem getItem_tuple_whole {t sl : Addr} {items : Array Value} {vl vu : Value} {lo hi : Option Int} {Q : Value → Shared → Prop} (ht : IsTup s.heap t items) (hs : s.heap.IsSliceOf sl vl vu .none) (pl : IsPart vl lo) (pu : IsPart vu hi)
  (hw : sIx items.size 0 lo = 0 ∧ sIx items.size items.size hi = items.size)
  (h : Q (.ref t) s) : wpAny (model prog w) A (getItem (.ref t) (.ref sl)) Q E s := by
 obtain ⟨os, hos, hcs, hds⟩ := id hs
 have hTs : s.TypeIs (.ref sl) "slice" := ⟨os, hos, hcs⟩
 unfold getItem
 try with_reducible refine wpAny_holding ?_
 first | refine wpAny_bind (wpAny_pure ?_) | skip
 refine wpAny_bind (wpAny_sequenceKey ht.typeIs (by decide) ?_)
 refine wpAny_bind (wpAny_callSpecial?_slot (name := Str.ofString "__getitem__") ht.typeIs PyProof.Rows.slot_tuple_getitem
  (wpAny_call_entry PyProof.Rows.slot_tuple_getitem ht.typeIs entry_tuple_getitem ?_ (args_tuple_getitem _ _)))
 show wpAny _ _ (Builtin.Tuple.tupleItemsOf (.ref t) >>= _) _ _ s
 refine wpAny_bind (tupleItemsOf_ ht ?_)
 refine wpAny_bind (wpAny_typeOf hTs ?_)
 rw [if_pos (by decide)]
 refine wpAny_bind (sliceApplied_gen hs pl pu ?_)
 have hno : ((((sIx items.size 0 lo : Nat) : Int) == 0 && (1 : Int) == 1 && (sIx items.size items.size hi - sIx items.size 0 lo) == items.size) = true) := by
  rw [hw.1, hw.2]; simp
 show wpAny _ _ (if (((sIx items.size 0 lo : Nat) : Int) == 0 && (1 : Int) == 1 && (sIx items.size items.size hi - sIx items.size 0 lo) == items.size) = true then _ else _) _ _ s
 rw [if_pos hno]
 refine wpAny_bind (m := Builtin.Tuple.tupleIsExact _) (wpAny_bind (wpAny_typeOf ht.typeIs (wpAny_pure ?_)))
 rw [if_pos (by decide)]
 exact wpAny_bind (wpAny_rule (wpAny_pure ⟨_, rfl, wpAny_pure h⟩))
end
end HT
namespace L2
open PySem PySem.Spec PyProof.Rows
section
variable {X : Cx}
noncomputable def rSlW (K : PySem.W.Frag) : V → Option Int → Option Int → Hp → VK → Prop := fun x lo hi H Q => ∃ a xs, x = .ref a ∧ SqT K H a xs ∧
 (HT.sIx xs.length 0 lo = 0 ∧ HT.sIx xs.length xs.length hi = xs.length) ∧ Q (.ref a) H
theorem sl_whole : SlR X (rSlW X.K) := by
 intro pins s σ H x v vl vu lo hi sl Q I rx hs pl pu h
 obtain ⟨a, xs, rfl, hx, hw, q⟩ := h
 cases rx
 obtain ⟨its, r, ht, hz⟩ := I.tuple hx
 have hlen : its.toArray.size = xs.length := by rw [List.size_toArray]; exact r.length.symm
 refine ⟨"tuple", _, PyProof.Rows.slot_tuple_getitem.lookup, ht.typeIs, ?_⟩
 exact HT.getItem_tuple_whole ht hs pl pu (by rw [hlen]; exact hw) ⟨.ref a, H, I, rfl, q⟩
theorem sl_any : SlR X (fun x lo hi H Q => rSlT X.K x lo hi H Q ∨ rSlW X.K x lo hi H Q) := sl_tup.or sl_whole
end
end L2
set_option maxHeartbeats 1000000
namespace L2
open PySem PySem.Spec PyProof.Rows
noncomputable def gOf (j : Int) (wp ww : List (List Blk)) (cs : List Int) (i : Nat) : Gv := if j = 0 then ⟨true, wp, cs, 0 + (i : Int)⟩ else ⟨false, ww, cs, 0 + (i : Int)⟩
noncomputable def resD (j : Int) (c : Nat) (m : Ms) : PyData := if j = 0 then outD (stS c) m.told else runD (stS c) m.told m.flt m.held
structure Res (K : PySem.W.Frag) (H : Hp) (g : Gv) (j n : Int) (bs : List Int) (tp ta : Addr) (rest : List V) (m : Ms) (c : Nat) : Prop where
 fi : Fi g (pushed (ms0 bs) n bs) c m
 tup : H tp = some (.tup (.str (stS c) :: .ref ta :: rest))
 told : H ta = some (.lst (m.told.map V.int))
 den : Den K H (resD j c m) (.ref tp)
 ms : MsOk g m
 ln : (j = 0 ∧ rest = []) ∨ (j = 1 ∧ ∃ x y, rest = [x, y])
theorem Res.mono {K : PySem.W.Frag} {H H' : Hp} {g : Gv} {j n : Int} {bs : List Int} {tp ta : Addr} {rest : List V} {m : Ms} {c : Nat} (h : Res K H g j n bs tp ta rest m c) (e : Ext [] H H') : Res K H' g j n bs tp ta rest m c :=
 ⟨h.fi, e _ _ (by simp) h.tup, e _ _ (by simp) h.told, h.den.mono e.toSame, h.ms, h.ln⟩
theorem gOf_more (j : Int) (wp ww : List (List Blk)) (cs : List Int) (i : Nat) : (gOf j wp ww cs i).more = gOf j wp ww cs (i + 1) := by
 unfold gOf Gv.more
 split <;> rfl
theorem gOf_most (j : Int) (wp ww : List (List Blk)) (cs : List Int) (i : Nat) : (gOf j wp ww cs i).most = (i : Int) := by
 unfold gOf
 split <;> (show 0 + (i : Int) = _; omega)
theorem gOf_ok {j : Int} {wp ww : List (List Blk)} {cs : List Int} {i : Nat} (okp : WsOk wp) (okw : WsOk ww) (pl : ∀ w ∈ wp, ∀ b ∈ w, ∀ d ∈ b.ds, (∀ x, d ≠ .save x) ∧ ∀ x, d ≠ .back x) (hc : cs.length ≤ 1000) (hi : i ≤ 20000) : GvOk (gOf j wp ww cs i) := by
 unfold gOf
 split
 ·exact ⟨okp, ⟨by show 0 ≤ 0 + (i : Int); omega, by show 0 + (i : Int) ≤ 20000; omega⟩, fun _ => pl, hc⟩
 ·exact ⟨okw, ⟨by show 0 ≤ 0 + (i : Int); omega, by show 0 + (i : Int) ≤ 20000; omega⟩, (fun h => by cases h), hc⟩
theorem gOf_len {j : Int} {wp ww : List (List Blk)} {cs : List Int} {i : Nat} (h : wp.length = ww.length) : (gOf j wp ww cs i).ws.length = ww.length := by
 unfold gOf
 split
 ·exact h
 ·rfl
theorem stS_four (c : Nat) : inV (.str (stS c)) [.str "going", .str "ended", .str "deep", .str "bare"] = true := by
 unfold stS
 split
 ·decide +kernel
 ·unfold codeS
  split <;> decide +kernel
theorem stS_going {c : Nat} (h : c ≠ 1) : stS c ≠ "going" := by
 unfold stS
 split
 ·decide
 ·unfold codeS
  split
  ·exact absurd rfl h
  ·decide
  ·decide
theorem res_shaped {g : Gv} {j n : Int} {bs : List Int} {m : Ms} {c : Nat} (gv : GvOk g) (hb8 : bs.length = 8) (hbb : ∀ x ∈ bs, -(10 ^ 12) ≤ x ∧ x ≤ 10 ^ 12) (n0 : 0 ≤ n) (n1 : n < g.ws.length) (hm : g.most ≤ 150) (fi : Fi g (pushed (ms0 bs) n bs) c m) (ms : MsOk g m) :
  SeqAt.shaped (resD j c m) = true ∧ SeqAt.shaped (.list (m.told.map .int)) = true ∧ m.told.length ≤ 150 ∧ SeqAt.shaped (outD (stS c) m.told) = true := by
 have num := (Fi.both gv fi (ms0_ok gv hb8 n0 n1) (num0 (c := n) hbb)).2
 have flt : FltOk m := Fi.flts gv fi (fun p hp => by cases hp)
 have hst : m.steps ≤ 150 := by have := ms.steps.2; omega
 have htl : m.told.length ≤ 150 := by have := ms.told; omega
 have hfl : m.flt.length ≤ 1208 := by have := ms.flt; omega
 obtain ⟨u1, _, u3⟩ := out_tame (c := c) (told_lim num hst) (by omega)
 have osh := tameW_shaped u1 u3 (.inr ⟨_, rfl⟩)
 refine ⟨?_, ?_, htl, osh⟩
 ·unfold resD
  split
  ·exact osh
  ·obtain ⟨u1, _, u3⟩ := run_tame (c := c) num flt hst htl ms.held hfl
   exact tameW_shaped u1 u3 (.inr ⟨_, rfl⟩)
 ·refine tameW_shaped ?_ ?_ (.inl ⟨_, rfl⟩)
  ·simp only [tameW]
   exact tameWs_ints (told_lim num hst)
  ·simp only [PyData.depth, depth_ints]; decide
theorem cut_told (a x : List Int) : cutV ((a ++ x).map V.int) none (some (a.length : Int)) = a.map V.int := by
 unfold cutV
 rw [HT.sIx_none, HT.sIx_nat, List.drop_zero, Nat.sub_zero, List.length_map, List.length_append, Nat.min_eq_left (by omega), ← List.map_take, List.take_left']
 rfl
theorem for_tupN {K : PySem.W.Frag} {a : Addr} {xs : List V} {g : TG} {tb : TS} {D : Ends} {σ : St} {H : Hp} (Pv : Nat → St → Hp → Prop) (h0 : Pv 0 σ H) (hl : ∀ i σ H, i ≤ xs.length → Pv i σ H → SqT K H a xs)
  (hs : ∀ i x σ H, xs[i]? = some x → Pv i σ H → ∀ (N B C : St → Hp → Prop) (R : VK), Nx N (Pv (i + 1)) → Nx C (Pv (i + 1)) → NxV R D.rt → g x σ H fun σ2 H2 => tb ⟨N, R, B, C⟩ σ2 H2) (hd : ∀ σ H, Pv xs.length σ H → D.nx σ H) :
  ∃ W : Nat → Nat → St → Hp → Prop, (∃ m, W 0 m σ H) ∧ ∀ i m σ H, W i m σ H →
   ((Itt K a).stop i H ∧ D.nx σ H) ∨ ((Itt K a).go i H ∧ ∃ N : St → Hp → Prop, (∀ σ' H', N σ' H' → ∃ m', m' < m ∧ W (i + 1) m' σ' H') ∧ ∀ x H', (Itt K a).yld i H x H' → g x σ H' fun σ2 H2 => tb { D with nx := N, ct := N, bk := D.nx } σ2 H2) :=
 for_tup Pv h0 hl (fun i x σ H hx hp => hs i x σ H hx hp _ _ _ _ (fun _ _ h => h) (fun _ _ h => h) (fun _ _ h => h)) hd
theorem at0 {v u : V} {r : List V} : atI (v :: u :: r) 0 = some v := atI_nat (j := 0) rfl
theorem at1 {v u : V} {r : List V} : atI (v :: u :: r) 1 = some u := atI_nat (j := 1) rfl
theorem Res.cut {K : PySem.W.Frag} {H : Hp} {g : Gv} {j n : Int} {bs : List Int} {tp ta : Addr} {rest : List V} {m : Ms} {c : Nat} {Q : VK} (h : Res K H g j n bs tp ta rest m c) (q : ∀ p G, Ext [] H G → G p = some (.tup [.str (stS c), .ref ta]) → Q (.ref p) G) :
  rSlT K (.ref tp) none (some 2) H Q ∨ rSlW K (.ref tp) none (some 2) H Q := by
 have ht := h.tup
 rcases h.ln with ⟨_, z⟩ | ⟨_, x, y, z⟩
 ·subst z
  exact .inr ⟨tp, _, rfl, SqT.of ht, ⟨rfl, rfl⟩, q tp H (.refl _ _) ht⟩
 ·subst z
  refine .inl ⟨tp, _, rfl, SqT.of ht, ?_, fun p hp => ?_⟩
  ·show ¬ (HT.sIx 4 0 none = 0 ∧ HT.sIx 4 4 (some 2) = 4)
   decide
  ·exact q p _ (.laid hp) upd_same
noncomputable def spSteps (K : PySem.W.Frag) : Sp := fun vs H Q _ => ∃ (t lp lw : Addr) (k : Nat) (wp ww : List (List Blk)), vs = [.ref t, .ref lp, .ref lw] ∧ Tape H t k ∧ k + 300 ≤ 2 ^ 40 ∧ Den K (wo [t] H) (worksD wp) (.ref lp) ∧ Den K (wo [t] H) (worksD ww) (.ref lw) ∧ WsOk wp ∧ WsOk ww ∧ (∀ w ∈ wp, ∀ b ∈ w, ∀ d ∈ b.ds, (∀ x, d ≠ .save x) ∧ ∀ x, d ≠ .back x) ∧ wp.length = ww.length ∧
 ∀ H', Tape H' t (k + 300) → Ext [t] H H' → Q (.bl true) H'
end L2
namespace L2
open PySem PySem.Spec PyProof.Rows
theorem hide {B : Prop} (h : ∀ G : Prop, (B → G) → G) : B := h B id
end L2
namespace L2
open PySem PySem.Spec PyProof.Rows
theorem r_lenL {K : PySem.W.Frag} {H : Hp} {p : Addr} {xs : List V} {Q : List V → Prop} (h : SqL K H p xs) (q : Q xs) : ∃ p' ys, [V.ref p] = [.ref p'] ∧ (SqL K H p' ys ∨ SqT K H p' ys) ∧ Q ys := ⟨p, xs, rfl, .inl h, q⟩
end L2
set_option maxHeartbeats 1000000
namespace L2
open PySem PySem.Spec PyProof.Rows
theorem young_step {G G' : Hp} {p : Addr} {o : HO} (e : Ext [] G G') (hp : G' p = none) : Ext [] G (upd G' p o) ∧ Same (yo G [] G') (yo G [] (upd G' p o)) ∧ yo G [] (upd G' p o) p = some o := by
 have hg := e.none (by simp) hp
 refine ⟨e.trans (.laid hp), fun b x hb => ?_, by rw [yo_out hg (by simp)]; exact upd_same⟩
 obtain ⟨h1, _, h3⟩ := yo_some hb
 rw [yo_out h1 (by simp)]
 exact (Ext.laid (ts := []) hp) b x (by simp) h3
theorem young_t {K : PySem.W.Frag} {G G' : Hp} {p : Addr} {ds : List PyData} {vs : List V} (e : Ext [] G G') (hp : G' p = none) (h : DenL K (yo G [] G') ds vs) : Den K (yo G [] (upd G' p (.tup vs))) (.tuple ds) (.ref p) := by
 obtain ⟨_, h2, h3⟩ := young_step (o := .tup vs) e hp
 exact .tuple (SqT.of h3) (h.mono h2)
theorem young_l {K : PySem.W.Frag} {G G' : Hp} {p : Addr} {ds : List PyData} {vs : List V} (e : Ext [] G G') (hp : G' p = none) (h : DenL K (yo G [] G') ds vs) : Den K (yo G [] (upd G' p (.lst vs))) (.list ds) (.ref p) := by
 obtain ⟨_, h2, h3⟩ := young_step (o := .lst vs) e hp
 exact .list (SqL.of h3) (h.mono h2)
theorem ring_ws {s : Nat} {b : Int} (h1 : 1 ≤ s) (h2 : s ≤ 4) (b0 : 0 ≤ b) (b1 : b < 8) : WsOk (ringW s b) := by
 have hl : (ringW s b).length = s := by unfold ringW; simp
 refine ⟨fun w hw => ⟨1, by decide, by decide, ?_⟩, by omega, by omega⟩
 unfold ringW at hw
 obtain ⟨k, hk, rfl⟩ := List.mem_map.mp hw
 refine ⟨rfl, fun x hx => ?_⟩
 obtain rfl := List.mem_singleton.mp hx
 have hm : (k + 1) % s < s := Nat.mod_lt _ (by omega)
 refine ⟨.inl rfl, fun d hd => ?_, by show 2 ≤ 20; decide⟩
 rcases List.mem_cons.mp hd with z | z
 ·subst z; exact ⟨b0, b1⟩
 ·obtain rfl := List.mem_singleton.mp z
  show 0 ≤ (((k + 1) % s : Nat) : Int) ∧ (((k + 1) % s : Nat) : Int) < ((ringW s b).length : Int)
  rw [hl]; omega
theorem ring_plain {s : Nat} {b : Int} : ∀ w ∈ ringW s b, ∀ x ∈ w, ∀ d ∈ x.ds, (∀ x, d ≠ .save x) ∧ ∀ x, d ≠ .back x := by
 intro w hw x hx d hd
 unfold ringW at hw
 obtain ⟨k, hk, rfl⟩ := List.mem_map.mp hw
 obtain rfl := List.mem_singleton.mp hx
 rcases List.mem_cons.mp hd with z | z
 ·subst z; exact ⟨(fun _ h => by cases h), (fun _ h => by cases h)⟩
 ·obtain rfl := List.mem_singleton.mp z; exact ⟨(fun _ h => by cases h), (fun _ h => by cases h)⟩
theorem ring_gv {mean : Bool} {s : Nat} {b mo : Int} (h1 : 1 ≤ s) (h2 : s ≤ 4) (b0 : 0 ≤ b) (b1 : b < 8) (m0 : 0 ≤ mo) (m1 : mo ≤ 20000) : GvOk ⟨mean, ringW s b, [], mo⟩ :=
 ⟨ring_ws h1 h2 b0 b1, ⟨m0, m1⟩, fun _ => ring_plain, by show 0 ≤ 1000; decide⟩
theorem chain_ws {n : Nat} (h : n ≤ 22) : WsOk (chainW n) := by
 have hl : (chainW n).length = n + 1 := by unfold chainW; simp
 refine ⟨fun w hw => ⟨1, by decide, by decide, ?_⟩, by omega, by omega⟩
 unfold chainW at hw
 rcases List.mem_append.mp hw with hw | hw
 ·obtain ⟨k, hk, rfl⟩ := List.mem_map.mp hw
  have hk := List.mem_range.mp hk
  refine ⟨rfl, fun x hx => ?_⟩
  obtain rfl := List.mem_singleton.mp hx
  refine ⟨.inl rfl, fun d hd => ?_, by show 1 ≤ 20; decide⟩
  obtain rfl := List.mem_singleton.mp hd
  show 0 ≤ (k : Int) + 1 ∧ (k : Int) + 1 < ((chainW n).length : Int)
  rw [hl]; omega
 ·obtain rfl := List.mem_singleton.mp hw
  refine ⟨rfl, fun x hx => ?_⟩
  obtain rfl := List.mem_singleton.mp hx
  exact ⟨.inl rfl, (fun d hd => by cases hd), by show 0 ≤ 20; decide⟩
theorem chain_plain {n : Nat} : ∀ w ∈ chainW n, ∀ x ∈ w, ∀ d ∈ x.ds, (∀ x, d ≠ .save x) ∧ ∀ x, d ≠ .back x := by
 intro w hw x hx d hd
 unfold chainW at hw
 rcases List.mem_append.mp hw with hw | hw
 ·obtain ⟨k, hk, rfl⟩ := List.mem_map.mp hw
  obtain rfl := List.mem_singleton.mp hx
  obtain rfl := List.mem_singleton.mp hd
  exact ⟨(fun _ h => by cases h), (fun _ h => by cases h)⟩
 ·obtain rfl := List.mem_singleton.mp hw
  obtain rfl := List.mem_singleton.mp hx
  cases hd
theorem chain_gv {mean : Bool} {n : Nat} (h : n ≤ 22) : GvOk ⟨mean, chainW n, [], 500⟩ := ⟨chain_ws h, ⟨by show (0 : Int) ≤ 500; decide, by show (500 : Int) ≤ 20000; decide⟩, fun _ => chain_plain, by show 0 ≤ 1000; decide⟩
noncomputable def dueC (mo : Int) : Nat := if mo > 59 then 2 else 1
noncomputable def dueT (mo : Int) : List Int := List.replicate (if mo > 59 then 20 else ((mo + 1) / 3).toNat) 5
theorem ring_due {mean : Bool} {s : Nat} {b mo : Int} {m : Ms} {c : Nat} (h1 : 1 ≤ s) (b0 : 0 ≤ b) (b1 : b < 8) (m0 : 0 ≤ mo) (h : Fi ⟨mean, ringW s b, [], mo⟩ (pushed (ms0 fives) 0 fives) c m) : c = dueC mo ∧ m.told = dueT mo := by
 obtain ⟨m', c', hf, k1, k2⟩ := ring_fi (g := ⟨mean, ringW s b, [], mo⟩) h1 b0 b1 rfl m0
 obtain ⟨ec, em⟩ := h.det hf
 subst ec em
 unfold dueC dueT
 by_cases q : mo > 59
 ·rw [if_pos q, if_pos q]; exact k1 q
 ·rw [if_neg q, if_neg q]; exact k2 (by show mo ≤ 59; omega)
theorem due_shaped {mo : Int} (h : mo ≤ 200) : SeqAt.shaped (outD (stS (dueC mo)) (dueT mo)) = true := by
 have hl : (dueT mo).length ≤ 1000 := by
  unfold dueT
  rw [List.length_replicate]
  split <;> omega
 obtain ⟨u1, _, u3⟩ := out_tame (c := dueC mo) (told := dueT mo) (fun x hx => by
  unfold dueT at hx
  rw [(List.mem_replicate.mp hx).2]; decide) hl
 exact tameW_shaped u1 u3 (.inr ⟨_, rfl⟩)
theorem rep_map (n : Nat) (x : Int) : (List.replicate n [V.int x]).flatten = (List.replicate n x).map V.int := by
 induction n with
 | zero => rfl
 | succ n ih => rw [List.replicate_succ, List.replicate_succ, List.flatten_cons, ih]; rfl
theorem ringD_succ (s : Nat) (b : Int) (j : Nat) : ((List.range (j + 1)).map fun k => workD [⟨[.tell b, .call (((k + 1) % s : Nat) : Int)], []⟩]) = ((List.range j).map fun k => workD [⟨[.tell b, .call (((k + 1) % s : Nat) : Int)], []⟩]) ++ [.list [.tuple [.list [.tuple [.str "tell", .int b], .tuple [.str "call", .int (((j + 1) % s : Nat) : Int)]], .tuple [.str "out"]]]] := by
 rw [List.range_succ, List.map_append]; rfl
theorem ringD_all (s : Nat) (b : Int) : worksD (ringW s b) = .list ((List.range s).map fun k => workD [⟨[.tell b, .call (((k + 1) % s : Nat) : Int)], []⟩]) := by
 unfold ringW worksD
 rw [List.map_map]; rfl
theorem chainD_succ (j : Nat) : ((List.range (j + 1)).map fun (k : Nat) => workD [⟨[.call ((k : Int) + 1)], []⟩]) = ((List.range j).map fun (k : Nat) => workD [⟨[.call ((k : Int) + 1)], []⟩]) ++ [.list [.tuple [.list [.tuple [.str "call", .int ((j : Int) + 1)]], .tuple [.str "out"]]]] := by
 rw [List.range_succ, List.map_append]; rfl
theorem chainD_all (n : Nat) : worksD (chainW n) = .list (((List.range n).map fun (k : Nat) => workD [⟨[.call ((k : Int) + 1)], []⟩]) ++ [.list [.tuple [.list [], .tuple [.str "out"]]]]) := by
 unfold chainW worksD
 rw [List.map_append, List.map_map]; rfl
noncomputable def spRing (K : PySem.W.Frag) : Sp := fun vs H Q _ => ∃ (s : Nat) (b : Int), vs = [.int (s : Int), .int b] ∧ 1 ≤ s ∧ s ≤ 4 ∧ 0 ≤ b ∧ b < 8 ∧ ∀ H', Ext [] H H' → Q (.bl true) H'
noncomputable def spChainR (K : PySem.W.Frag) : Sp := fun vs H Q _ => ∃ (n : Nat), vs = [.int (n : Int)] ∧ n ≤ 22 ∧ ∀ H', Ext [] H H' → Q (.bl true) H'
end L2
set_option maxHeartbeats 1000000
namespace L2
open PySem PySem.Spec PyProof.Rows
structure WsAcc (K : PySem.W.Frag) (H H' : Hp) (t l : Addr) (n : Int) (as : List Addr) (ws : List (List Blk)) : Prop where
 wok : ∀ w ∈ ws, ∃ m : Int, 1 ≤ m ∧ m ≤ 12 ∧ WorkOk m n w
 fw : ∀ w ∈ ws, ∀ b ∈ w, Fw n b
 la : l ∉ as
 young : ∀ a ∈ as, H a = none ∧ a ≠ t
 nd : as.Nodup
 ex : Ext [l, t] H H'
 lst : H' l = some (.lst (as.map V.ref))
 wat : WorksAt K (yo H (l :: t :: as) H') H' as ws
theorem WsAcc.snoc {K : PySem.W.Frag} {H H' H5 H6 : Hp} {t l a : Addr} {n m : Int} {as : List Addr} {ws : List (List Blk)} {w1 : List Blk} {bs : List V} (A : WsAcc K H H' t l n as ws) (nlt : l ≠ t) (hm1 : 1 ≤ m) (hm2 : m ≤ 12) (e5 : Ext [t] H' H5) (ha : H5 a = none) (nat : a ≠ t) (e6 : Ext [t] H5 H6) (hw1 : WorkOk m n w1) (hf1 : ∀ b ∈ w1, Fw n b) (hba : H6 a = some (.lst bs)) (hden : DenL K (yo H5 [a, t] H6) (w1.map blkD) bs) :
  H6 l = some (.lst (as.map V.ref)) ∧ WsAcc K H (upd H6 l (.lst (as.map V.ref ++ [V.ref a]))) t l n (as ++ [a]) (ws ++ [w1]) := by
 obtain ⟨hws, hfew, hla, has, hnd, EH, hl', hA⟩ := A
 have l5 : H5 l = some (.lst (as.map V.ref)) := e5 _ _ (by simpa using nlt) hl'
 have l6 : H6 l = some (.lst (as.map V.ref)) := e6 _ _ (by simpa using nlt) l5
 have nal : a ≠ l := (ne_of_none l5 ha).symm
 have haH' : H' a = none := e5.none (by simpa using nat) ha
 have haH : H a = none := EH.none (by simp [nal, nat]) haH'
 have naas : a ∉ as := fun hm => by
  refine hide fun G_ hG_ => ?_
  obtain ⟨j, hj, e⟩ := List.getElem_of_mem hm
  obtain ⟨_, bs', _, hb', _⟩ := hA.get (i := j) (a := a) (by rw [List.getElem?_eq_getElem hj, e])
  refine hG_ ?_
  rw [haH'] at hb'; cases hb'
 have E6 : Ext [l, t] H' (upd H6 l (.lst (as.map V.ref ++ [V.ref a]))) := (e5.mono (by simp)).trans ((e6.mono (by simp)).trans (.put (by simp)))
 refine ⟨l6, ?_, ?_, by simp [hla, nal.symm], ?_, ?_, EH.trans E6, by rw [upd_same, List.map_append]; rfl, ?_⟩
 ·intro w hw
  rcases List.mem_append.mp hw with z | z
  ·exact hws w z
  ·rw [List.mem_singleton.mp z]; exact ⟨m, hm1, hm2, hw1⟩
 ·intro w hw
  rcases List.mem_append.mp hw with z | z
  ·exact hfew w z
  ·rw [List.mem_singleton.mp z]; exact hf1
 ·intro b hb
  rcases List.mem_append.mp hb with z | z
  ·exact has b z
  ·rw [List.mem_singleton.mp z]; exact ⟨haH, nat⟩
 ·exact List.nodup_append.mpr ⟨hnd, by simp, by intro x hx y hy; simp at hy; subst hy; intro e; subst e; exact naas hx⟩
 ·have key : Same (yo H (l :: t :: as) H') (yo H (l :: t :: (as ++ [a])) (upd H6 l (.lst (as.map V.ref ++ [V.ref a])))) := fun b o e => by
   obtain ⟨h1, h2, h3⟩ := yo_some e
   have nb : b ≠ a := fun z => by rw [z, haH'] at h3; cases h3
   have h2' : b ∉ [l, t] := fun z => h2 (by rcases List.mem_cons.mp z with z | z <;> simp_all)
   rw [yo_out h1 (fun z => h2 (by
    rcases List.mem_cons.mp z with z | z
    ·simp [z]
    ·rcases List.mem_cons.mp z with z | z
     ·simp [z]
     ·rcases List.mem_append.mp z with z | z
      ·simp [z]
      ·exact absurd (by simpa using z) nb))]
   exact E6 _ _ h2' h3
  refine (hA.mono key fun b hb o e => ?_).snoc (bs := bs) ?_ (hden.mono fun b o e => ?_)
  ·have nbl : b ≠ l := fun z => hla (z ▸ hb)
   exact E6 _ _ (by simp [nbl, (has b hb).2]) e
  ·rw [upd_ne nal]; exact hba
  ·obtain ⟨h1, h2, h3⟩ := yo_some e
   have nbl : b ≠ l := fun z => by rw [z, l5] at h1; cases h1
   have nbt : b ≠ t := fun z => h2 (by simp [z])
   have nba : b ≠ a := fun z => h2 (by simp [z])
   have h1' : H' b = none := e5.none (by simpa using nbt) h1
   rw [yo_out (EH.none (by simp [nbl, nbt]) h1') (by
    intro z
    rcases List.mem_cons.mp z with z | z
    ·exact nbl z
    ·rcases List.mem_cons.mp z with z | z
     ·exact nbt z
     ·rcases List.mem_append.mp z with z | z
      ·refine hide fun G_ hG_ => ?_
       obtain ⟨j, hj, e⟩ := List.getElem_of_mem z
       obtain ⟨_, bs', _, hb', _⟩ := hA.get (i := j) (a := b) (by rw [List.getElem?_eq_getElem hj, e])
       refine hG_ ?_
       rw [h1'] at hb'; cases hb'
      ·exact nba (by simpa using z)), upd_ne nbl]
   exact h3
end L2
set_option maxHeartbeats 400000
local macro_rules | `(tactic| walk_at "q1") => `(tactic| first | refine L2.r_op ?_ | refine L2.r_asg ?_ | refine L2.r_gn ?_ | refine L2.r_ret ?_ | refine L2.r_drop ?_ | refine L2.r_next ?_)
local macro_rules | `(tactic| walk_at "q2") => `(tactic| first | refine L2.r_test ?_ | refine L2.r_tB ?_ | refine L2.r_bl ?_ | refine L2.r_gsub ?_ | refine L2.r_nil ?_ | refine L2.r_cons ?_ | refine L2.r_tup ?_ | refine L2.r_lst ?_ | refine L2.r_call ?_ | refine L2.r_cb ?_ | refine L2.r_ife ?_ | refine L2.r_un ?_ | refine L2.r_u ?_ | refine L2.r_and ?_ | refine L2.r_or ?_ | refine L2.r_not ?_ | refine L2.r_par ?_ | refine L2.r_c ?_ | refine L2.r_i0 ?_ | refine L2.r_bm ?_ | refine L2.r_bm0 ?_ | refine L2.r_comp ?_ | refine L2.r_ilist ?_ | refine L2.r_ienum ?_ | refine L2.r_idict ?_ | refine L2.r_itup ?_ | refine L2.r_rng1 ?_ | refine L2.r_for ?_ | refine L2.r_din ?_ | refine L2.r_dnotin ?_ | refine L2.r_dget ?_ | refine L2.r_dget2 ?_ | refine L2.r_dput ?_ | refine L2.r_app' ?_ | refine L2.r_put' ?_ | refine L2.r_all0 ?_ | refine L2.r_all1 ?_ | refine L2.r_gcons ?_ | refine L2.r_gnil ?_ | refine L2.r_sl ?_ | refine L2.r_fld ?_ | refine L2.r_augS ?_ | refine L2.r_dgetN ?_ | refine L2.r_dputN ?_ | refine L2.r_sfld ?_ | refine L2.r_sfldaug ?_ | refine L2.r_meth ?_ | refine L2.r_make ?_ | refine L2.r_nop ?_ | refine L2.r_part ?_ | refine L2.r_var (by with_unfolding_all rfl) ?_ | refine L2.r_ixL (by assumption) (by with_unfolding_all rfl) ?_ | refine L2.r_ixT (by assumption) (by with_unfolding_all rfl) ?_)
local macro_rules | `(tactic| walk_at "rd") => `(tactic| repeat (with_reducible first | refine L2.r_seq ?_ | walk_at "q1" | refine L2.r_if ?_ | walk_at "q2"))
namespace Fs
open PySem L2
noncomputable def top (i : Nat) : Stmt := PySem.Challenge.pw_fewsaves_k12_runs_stopped.main.body.getD i (.Pass ⟨0, 0, 0, 0⟩)
noncomputable abbrev sDraw : Stmt := top 9
section
variable {P : Program} {w : World} {K : PySem.W.Frag} {mg : Str → Option Value} {base : Heap}
theorem scDraw : FnScope ["_law_tape_here", "_law_many_here", "_law_found", "_law_once", "_law_twice"] ["_law_tape_here", "_law_many_here"] (defScope sDraw) := ⟨rfl, rfl, rfl, by decide +kernel, rfl, by decide +kernel, by decide +kernel⟩
theorem ok_draw {f : Addr} {fd : FuncData} (F : Fun K "_law_draw" "_law_draw" sDraw f fd) : FnOk P w K mg base CX0 1 f fd ["_law_tape_here", "_law_many_here"] spDraw := by
 refine F.ok scDraw (fun vs H Q E h => ?_) (fun cdv A outer s H vs Q E hr h => ?_)
 ·obtain ⟨t, k, n, rfl, _⟩ := h
  rfl
 ·obtain ⟨t, k, n, rfl, ⟨a, b, c, ht, ha, hb, hb2, hc, hc2⟩, hk, hn, hn2, q⟩ := h
  refine ⟨_, pss_cons (ps_if (pt_cmpR op_gt (pe_ix ix_list (pv 0) pe_int (fun _ _ => rfl)) pe_int (nomark _))
    (pss_cons (ps_set (i := 2) scDraw.nd rfl (Or.inl rfl) (pe_op op_mod (pe_ix ix_list (pv 0) pe_int (fun _ _ => rfl)) (pv 1)))
    (pss_cons (ps_asg (pe_op op_fdiv (pe_ix ix_list (pv 0) pe_int (fun _ _ => rfl)) (pv 1)) (pg_sub (pv 0) pe_int set_list))
    (pss_one (ps_ret (pv 2))))) pss_nil)
   (pss_cons (ps_asg (pe_op op_add (pe_ix ix_list (pv 0) pe_int (fun _ _ => rfl)) pe_int) (pg_sub (pv 0) pe_int set_list))
   (pss_cons (ps_set (i := 3) scDraw.nd rfl (Or.inl rfl) (pe_op op_mod (pe_op op_pow (pe_op op_add (pe_ix ix_list (pv 0) pe_int (fun _ _ => rfl)) (pe_op op_mul pe_int (pe_ix ix_list (pv 0) pe_int (fun _ _ => rfl)))) pe_int) pe_int))
   (pss_cons (ps_set (i := 4) scDraw.nd rfl (Or.inl rfl) (pe_op op_mod (pe_op op_mul (pe_op op_add (pv 3) (pe_ix ix_list (pv 0) pe_int (fun _ _ => rfl))) (pe_op op_add (pe_op op_add (pe_op op_mod (pv 3) pe_int) pe_int) (pe_ix ix_list (pv 0) pe_int (fun _ _ => rfl)))) pe_int))
   (pss_one (ps_ret (pe_op op_mod (pe_op op_fdiv (pe_op op_mod (pe_op op_add (pe_op op_mul (pv 4) pe_int) (pv 3)) pe_int) pe_int) (pv 1))))))), ?_⟩
  dsimp only [nox_K]
  have hS : SqL K H t [.int a, .int b, .int c] := SqL.of ht
  walk_at "rd"
  refine ite2 (fun g => ?_) (fun g => ?_)
  ·walk_at "rd"
   refine r_mod hn ?_
   walk_at "rd"
   refine r_div hn (by omega) ?_
   walk_at "rd"
   refine r_setL (n := 0) ht rfl ?_
   walk_at "rd"
   exact q _ _ (Int.emod_nonneg _ (by omega)) (Int.emod_lt_of_pos _ hn) ⟨a / n, b, c, upd_same, Int.ediv_nonneg ha (by omega), hb, hb2, hc, by omega⟩ (.put (by simp)) (fun b hb => upd_ne hb)
  ·walk_at "rd"
   refine r_setL (n := 2) ht rfl ?_
   have hS' : SqL K (upd H t (.lst ([V.int a, V.int b, V.int c].set 2 (.int (c + 1))))) t [.int a, .int b, .int (c + 1)] := SqL.of upd_same
   walk_at "rd"
   refine r_mul (.inl ⟨by decide, by decide⟩) ?_
   walk_at "rd"
   refine r_pow (by decide) (by decide) (by omega) ?_
   walk_at "rd"
   refine r_mod (by decide) ?_
   generalize ho : (b + 39373 * (c + 1)) ^ (5 : Int).toNat % 2147483647 = o
   have ho1 : 0 ≤ o := by rw [← ho]; exact Int.emod_nonneg _ (by decide)
   have ho2 : o < 2147483647 := by rw [← ho]; exact Int.emod_lt_of_pos _ (by decide)
   walk_at "rd"
   refine r_mod (by decide) ?_
   have hm1 : 0 ≤ o % 40009 := Int.emod_nonneg _ (by decide)
   have hm2 : o % 40009 < 40009 := Int.emod_lt_of_pos _ (by decide)
   walk_at "rd"
   refine r_mul (.inl ⟨by omega, by omega⟩) ?_
   walk_at "rd"
   refine r_mod (by decide) ?_
   generalize hp : (o + (c + 1)) * (o % 40009 + 7 + (c + 1)) % 2147483629 = p2
   have hp1 : 0 ≤ p2 := by rw [← hp]; exact Int.emod_nonneg _ (by decide)
   have hp2 : p2 < 2147483629 := by rw [← hp]; exact Int.emod_lt_of_pos _ (by decide)
   walk_at "rd"
   refine r_mul (.inl ⟨by omega, by omega⟩) ?_
   walk_at "rd"
   refine r_mod (by decide) ?_
   walk_at "rd"
   refine r_div (by decide) (by decide) ?_
   walk_at "rd"
   refine r_mod hn ?_
   exact q _ _ (Int.emod_nonneg _ (by omega)) (Int.emod_lt_of_pos _ hn) ⟨a, b, c + 1, upd_same, ha, hb, hb2, by omega, by omega⟩ (.put (by simp)) (fun b hb => upd_ne hb)
end
end Fs
set_option maxHeartbeats 1000000
namespace Fs
open PySem L2
section
variable {P : Program} {w : World} {K : PySem.W.Frag} {mg : Str → Option Value} {base : Heap}
theorem nexts_tail {D : Ends} {σ : St} {H5 : Hp} {l d p : Addr} {vs : List V} {kvs : List (Key × V)} {ns : List Int} (h2 : σ[2]? = some (some (.ref l))) (h3 : σ[3]? = some (some (.ref d))) (h7 : σ[7]? = some (some (.ref p))) (hl : H5 l = some (.lst vs)) (hd : H5 d = some (.dK kvs))
  (hp : H5 p = some (.lst (ns.map V.int))) (hz : vs.length < 1000) (hz2 : kvs.length ≤ 900) (hn : ns.length ≤ 2) (npl : p ≠ l) (q : ∀ H6 kvs', H6 l = some (.lst (vs ++ [.ref p])) → H6 d = some (.dK kvs') → kvs'.length ≤ kvs.length + 2 → Ext [l, d] H5 H6 → D.nx σ H6) :
  tSeq (tDrop (tBM K "list" rAppend (tVar 2) (tCons (tVar 7) tNil))) (tDrop (tBM K "dict" rUpdate (tVar 3) (tCons (tComp ["_law_one"] [] (.lst []) (iList K (tVar 7)) (gName 0) [] (eApp (tTup (tCons (tVar 0) (tCons (tC (.bl true)) tNil))))) tNil))) D σ H5 := by
 have nld : l ≠ d := ne_of hl hd (by intro z; cases z)
 have npd : p ≠ d := ne_of hp hd (by intro z; cases z)
 refine r_seq (r_drop (r_bm (r_var h2 (r_tyL hl (r_cons (r_var h7 (r_nil (r_app hl (small1000 (by omega)) ?_))))))))
 generalize hH6 : upd H5 l (.lst (vs ++ [.ref p])) = H6
 have l6 : H6 l = some (.lst (vs ++ [.ref p])) := by rw [← hH6, upd_same]
 have d6 : H6 d = some (.dK kvs) := by rw [← hH6, upd_ne nld.symm]; exact hd
 have p6 : H6 p = some (.lst (ns.map V.int)) := by rw [← hH6, upd_ne npl]; exact hp
 have e6 : Ext [l, d] H5 H6 := by rw [← hH6]; exact .put (by simp)
 refine r_drop (r_bm (r_var h3 (r_tyD d6 (r_cons (r_comp (r_ilist (r_var h7 ⟨p, rfl, ⟨_, SqL.of p6⟩, fun l2 hl2 => ?_⟩)))))))
 have n2p : p ≠ l2 := ne_of_none p6 hl2
 refine loop_list (xs := ns.map V.int) (fun j σ' H' => (∃ o, σ' = [o]) ∧ Ext [l2] H6 H' ∧ ∃ items, H' l2 = some (.lst items) ∧ PairsAt H' items ((ns.take j).map fun n => ((Sum.inl n : Key), V.bl true)))
  ⟨⟨none, rfl⟩, .laid hl2, [], upd_same, .nil⟩ (fun j σ' H' _ ⟨_, e, _⟩ => SqL.of (e _ _ (by simpa using n2p) p6)) ?_ ?_
 ·rintro j x σ' H' R hx ⟨⟨o, rfl⟩, e, items, hi, pr⟩ hR
  obtain ⟨n, hnj, rfl⟩ : ∃ n, ns[j]? = some n ∧ x = V.int n := by
   rw [List.getElem?_map] at hx
   cases z : ns[j]? with
   | none => rw [z] at hx; cases hx
   | some n => rw [z] at hx; exact ⟨n, rfl, (Option.some.inj hx).symm⟩
  walk_at "rd"
  refine iteT ?_
  walk_at "rd"
  refine ⟨len2 (by show 2 ≤ 1000; decide), fun p2 hp2 => ?_⟩
  have n22 : l2 ≠ p2 := ne_of_none hi hp2
  have hlen : items.length ≤ 2 := by
   have := Paired.length pr
   rw [List.length_map, List.length_take] at this
   omega
  refine ⟨items, by rw [upd_ne n22]; exact hi, small1000 (by omega), hR _ _ ⟨⟨_, rfl⟩, ?_, items ++ [.ref p2], upd_same, ?_⟩⟩
  ·exact e.trans ((Ext.laid hp2).trans (.put (by simp)))
  ·have hj : (ns.take (j + 1)) = ns.take j ++ [n] := by rw [List.take_add_one, hnj]; rfl
   rw [hj, List.map_append]
   refine Paired.snoc (PairsAt.mono (fun b ys e => ?_) pr) ⟨p2, rfl, ?_⟩
   ·rw [upd_ne (ne_of e hi (by intro z; cases z)), upd_ne (ne_of_none e hp2)]; exact e
   ·rw [upd_ne n22.symm, upd_same]; rfl
 ·rintro σ' H' ⟨_, e, items, hi, pr⟩
  rw [List.length_map, List.take_length] at pr
  have n2d : d ≠ l2 := ne_of_none d6 hl2
  have n2l : l ≠ l2 := ne_of_none l6 hl2
  have hmore := Paired.length pr
  rw [List.length_map] at hmore
  refine r_nil ⟨d, l2, kvs, items, _, rfl, rfl, e _ _ (by simpa using n2d) d6, hi, pr, len2 (by rw [List.length_map]; omega), ?_⟩
  have hml := length_mergeK (ns.map fun n => ((Sum.inl n : Key), V.bl true)) kvs
  rw [List.length_map] at hml
  refine q _ _ (by rw [upd_ne nld]; exact e _ _ (by simpa using n2l) l6) upd_same (by omega) ?_
  exact e6.trans (((e.drop hl2).mono (by simp)).trans (.put (by simp)))
noncomputable abbrev sNexts : Stmt := top 10
theorem scNexts : FnScope ["_law_tape_here", "_law_many_here", "_law_found", "_law_led", "_law_k", "_law_way", "_law_other", "_law_some"] ["_law_tape_here", "_law_many_here"] (defScope sNexts) := ⟨rfl, rfl, rfl, by decide +kernel, rfl, by decide +kernel, by decide +kernel⟩
theorem ok_nexts {f : Addr} {fd : FuncData} (F : Fun K "_law_nexts" "_law_nexts" sNexts f fd) (nrange : mg "range" = none) (nmax : mg "max" = none) (hD : Has P w K mg base "_law_draw" 1 ["_law_tape_here", "_law_many_here"] spDraw) : FnOk P w K mg base CX0 2 f fd ["_law_tape_here", "_law_many_here"] (spNexts K) := by
 refine F.ok scNexts (fun vs H Q E h => ?_) (fun cdv A outer s H vs Q E hr h => ?_)
 ·obtain ⟨t, k, m, rfl, _⟩ := h
  rfl
 ·obtain ⟨t, k, m, rfl, hT, hk, hm1, hm2, q⟩ := h
  have hu := hu_of hr
  refine ⟨_, pss_cons (ps_par (i := 2) (j := 3) rfl scNexts.nd rfl rfl (by decide) rfl rfl (pa_cons (pe_lst pa_nil) (pa_cons pe_dnewK pa_nil)) rfl)
   (pss_cons (ps_for PassesOwn.never rfl (pi_range1 rfl nrange (pa_cons (pv 1) pa_nil)) (pg_name (i := 4) scNexts.nd rfl (Or.inl rfl))
    (pss_cons (ps_set (i := 5) scNexts.nd rfl (Or.inl rfl) (pe_fn hD hr (Nat.le_refl _) (pa_cons (pv 0) (pa_cons pe_int pa_nil))))
    (pss_cons (ps_set (i := 6) scNexts.nd rfl (Or.inl rfl) (pe_op op_add pe_int (pe_fn hD hr (Nat.le_refl _) (pa_cons (pv 0) (pa_cons (pe_callB (call_max2 rfl) (by rfl) nmax PyProof.Rows.boot_max (pa_cons pe_int (pa_cons (pe_op op_sub (pv 1) pe_int) pa_nil))) pa_nil)))))
    (pss_cons (ps_set (i := 7) scNexts.nd rfl (Or.inl rfl) (pe_ix ix_list (pe_lst (pa_cons (pe_lst (pa_cons (pe_op op_add (pv 4) pe_int) (pa_cons (pv 6) pa_nil))) (pa_cons (pe_lst (pa_cons (pv 6) (pa_cons (pe_op op_add (pv 4) pe_int) pa_nil))) pa_nil))) (pe_op op_mod (pv 5) pe_int) (fun _ _ => rfl)))
    (pss_cons (ps_if (pt_cmpR op_eq (pe_op op_add (pv 4) pe_int) (pv 1) (nomark _))
      (pss_one (ps_set (i := 7) scNexts.nd rfl (Or.inl rfl) (pe_ifExp (pw_and (pt_cmpR op_eq (pv 5) pe_int (nomark _)) (pw_and1 (pt_cmpR op_gt (pv 1) pe_int (nomark _)))).pt (pe_lst (pa_cons (pv 6) pa_nil)) (pe_lst pa_nil))))
      (pss_one (ps_if (pw_and (pt_cmp (pc_din hu (pe_op op_add (pv 4) pe_int) (pv 3))) (pw_and1 (pt_cmpR op_lt (pv 5) pe_int (nomark _)))).pt
       (pss_one (ps_set (i := 7) scNexts.nd rfl (Or.inl rfl) (pe_ifExp (pt_cmpR op_eq (pv 5) pe_int (nomark _)) (pe_lst (pa_cons (pv 6) pa_nil)) (pe_lst pa_nil))))
       (pss_one (ps_if (pw_or (pt_cmpR op_lt (pv 5) pe_int (nomark _)) (pw_or1 (pt_cmpR op_eq (pv 6) (pe_op op_add (pv 4) pe_int) (nomark _)))).pt
        (pss_one (ps_set (i := 7) scNexts.nd rfl (Or.inl rfl) (pe_lst (pa_cons (pe_op op_add (pv 4) pe_int) pa_nil)))) pss_nil)))))
    (pss_cons (ps_expr (pe_bm PySem.F.plainAttrs_list PySem.F.slot_list_append PySem.F.type_list_append mt_append (pv 2) (pa_cons (pv 7) pa_nil)))
    (pss_one (ps_expr (pe_bm PySem.F.plainAttrs_dict PySem.F.slot_dict_update PySem.F.type_dict_update (mt_update rfl) (pv 3)
     (pa_cons (pe_lc ["_law_one"] [] rfl (.of rfl) (pi_list (pv 7)) (fun _ _ _ _ => pg_name (i := 0) (by show ((["_law_one"] : List Str)).Nodup; decide) rfl (Or.inl rfl)) (fun _ _ _ _ => .nil) (fun _ _ _ _ => pe_tup (pa_cons (pv 0) (pa_cons pe_bl pa_nil)))) pa_nil))))))))))
   (pss_one (ps_ret (pv 2)))), ?_⟩
  dsimp only [nox_K, comp_K]
  walk_at "rd"
  refine ⟨len2 (Nat.zero_le _), fun l hl => ?_⟩
  have nlt : l ≠ t := hT.ne hl
  walk_at "rd"
  refine r_dnewK fun d hd => ?_
  have nld : l ≠ d := fun z => by rw [← z, upd_same] at hd; cases hd
  rw [upd_ne nld.symm] at hd
  have ndt : d ≠ t := hT.ne hd
  walk_at "rd"
  refine ⟨_, _, rfl, ?_⟩
  walk_at "rd"
  refine ⟨m, rfl, by omega, by omega, for_range (lo := 0) (n := m.toNat) (fun i σ' H' => ∃ (nx : List (List Int)) (vs : List V) (kvs : List (Key × V)) (o4 o5 o6 o7 : Option V), σ' = [some (.ref t), some (.int m), some (.ref l), some (.ref d), o4, o5, o6, o7] ∧ nx.length = i ∧ (∀ ns ∈ nx, NsOk m ns) ∧
   Tape H' t (k + 2 * i) ∧ Ext [t] H H' ∧ H' l = some (.lst vs) ∧ DenL K (yo H [t, l, d] H') (nx.map intsD) vs ∧ H' d = some (.dK kvs) ∧ kvs.length ≤ 2 * i) ?_ ?_ ?_⟩
  ·refine ⟨[], [], [], none, none, none, none, rfl, rfl, (fun _ h => absurd h (by simp)), ?_, ?_, ?_, .nil, upd_same, Nat.le_refl _⟩
   ·exact (hT.ext (ts := []) ((Ext.laid hl).trans (.laid (by rw [upd_ne nld.symm]; exact hd))) (by simp)).mono (by omega)
   ·exact (Ext.laid hl).trans (.laid (by rw [upd_ne nld.symm]; exact hd))
   ·rw [upd_ne nld, upd_same]
  ·rintro i σ' H' hi ⟨nx, vs, kvs, o4, o5, o6, o7, rfl, hnl, hnx, hT', e', hl', hden, hd', hkl⟩
   have hvl : vs.length = i := by rw [hden.len, List.length_map, hnl]
   walk_at "rd"
   refine r_draw hT' (by omega) (by decide) (by decide) fun r1 H1 a1 b1 T1 e1 k1 => ?_
   walk_at "rd"
   refine ⟨_, _, rfl, ?_⟩
   walk_at "rd"
   refine r_draw T1 (by omega) (by split <;> omega) (by split <;> omega) fun r2 H2 a2 b2 T2 e2 k2 => ?_
   have l2 : H2 l = some (.lst vs) := by rw [k2 l nlt, k1 l nlt]; exact hl'
   have d2 : H2 d = some (.dK kvs) := by rw [k2 d ndt, k1 d ndt]; exact hd'
   have den2 : DenL K (yo H [t, l, d] H2) (nx.map intsD) vs := hden.mono ((e1.trans e2).mono (by simp)).young
   walk_at "rd"
   refine ⟨len2 (by show 2 ≤ 1000; decide), fun p1 hp1 => ?_⟩
   walk_at "rd"
   refine ⟨len2 (by show 2 ≤ 1000; decide), fun p2 hp2 => ?_⟩
   walk_at "rd"
   refine ⟨len2 (by show 2 ≤ 1000; decide), fun p3 hp3 => ?_⟩
   have n12 : p1 ≠ p2 := ne_of_none upd_same hp2
   have n23 : p2 ≠ p3 := ne_of_none upd_same hp3
   have n13 : p1 ≠ p3 := ne_of_none (by rw [upd_ne n12, upd_same]) hp3
   generalize hH5 : upd (upd (upd H2 p1 (HO.lst [V.int (0 + ↑i + 1), V.int (1 + r2)])) p2 (HO.lst [V.int (1 + r2), V.int (0 + ↑i + 1)])) p3 (HO.lst [V.ref p1, V.ref p2]) = H5
   have hp2' : H2 p2 = none := by rw [upd_ne n12.symm] at hp2; exact hp2
   have e5 : Ext [] H2 H5 := by
    rw [← hH5]
    exact (Ext.laid hp1).trans ((Ext.laid hp2).trans (.laid hp3))
   have q1 : H5 p1 = some (.lst ([0 + (i : Int) + 1, 1 + r2].map V.int)) := by rw [← hH5, upd_ne n13, upd_ne n12, upd_same]; rfl
   have q2 : H5 p2 = some (.lst ([1 + r2, 0 + (i : Int) + 1].map V.int)) := by rw [← hH5, upd_ne n23, upd_same]; rfl
   have q3 : SqL K H5 p3 [V.ref p1, V.ref p2] := SqL.of (by rw [← hH5, upd_same])
   have fr : ∀ p, H2 p = none → p ≠ t ∧ p ≠ l ∧ p ≠ d := fun p hp => ⟨T2.ne hp, (ne_of_none l2 hp).symm, (ne_of_none d2 hp).symm⟩
   have fin : ∀ (p : Addr) (ns : List Int) (H6 : Hp), Ext [] H5 H6 → H6 p = some (.lst (ns.map V.int)) → H2 p = none → NsOk m ns → ∀ (H7 : Hp) (kvs' : List (Key × V)), H7 l = some (.lst (vs ++ [.ref p])) → H7 d = some (.dK kvs') → kvs'.length ≤ kvs.length + 2 → Ext [l, d] H6 H7 → ∀ o4 o5 o6 o7 : Option V,
     ∃ (nx : List (List Int)) (vs : List V) (kvs : List (Key × V)) (p4 p5 p6 p7 : Option V), [some (V.ref t), some (.int m), some (.ref l), some (.ref d), o4, o5, o6, o7] = [some (.ref t), some (.int m), some (.ref l), some (.ref d), p4, p5, p6, p7] ∧ nx.length = i + 1 ∧ (∀ ns ∈ nx, NsOk m ns) ∧
      Tape H7 t (k + 2 * (i + 1)) ∧ Ext [t] H H7 ∧ H7 l = some (.lst vs) ∧ DenL K (yo H [t, l, d] H7) (nx.map intsD) vs ∧ H7 d = some (.dK kvs) ∧ kvs.length ≤ 2 * (i + 1) := by
    intro p ns H6 e6 hp hn hns H7 kvs' l7 d7 hk7 e7 o4 o5 o6 o7
    obtain ⟨npt, npl, npd⟩ := fr p hn
    have e27 : Ext [l, d] H2 H7 := ((e5.trans e6).mono (by simp)).trans e7
    refine ⟨nx ++ [ns], vs ++ [.ref p], kvs', o4, o5, o6, o7, rfl, by rw [List.length_append, hnl]; rfl, fun z hz => ?_, ?_, ?_, l7, ?_, d7, by omega⟩
    ·rcases List.mem_append.mp hz with y | y
     ·exact hnx z y
     ·rw [List.mem_singleton.mp y]; exact hns
    ·exact (T2.ext e27 (by simp [nlt.symm, ndt.symm])).mono (by omega)
    ·have E7 : Ext [l, d, t] H H7 := (e'.mono (by simp)).trans (((e1.trans e2).mono (by simp)).trans (e27.mono (by simp)))
     exact (E7.drop hl).drop hd
    ·rw [List.map_append]
     refine DenL.append (den2.mono (e27.mono (by simp)).young) (.cons (.list (SqL.of ?_) (DenL.ofInts ns)) .nil)
     rw [yo_out ((e'.trans (e1.trans e2)).none (by simpa using npt) hn) (by simp [npt, npl, npd])]
     exact e7 _ _ (by simp [npl, npd]) hp
   have hr2 : 1 + r2 ≤ 1 ∨ 1 + r2 ≤ m - 1 := by
    by_cases c : m - 1 > 1
    ·rw [if_pos c] at b2; omega
    ·rw [if_neg c] at b2; omega
   have l5 := e5 _ _ (by simp) l2
   have d5 := e5 _ _ (by simp) d2
   obtain ⟨p0, ns0, h0, hp0, hn0, hat⟩ : ∃ p0 ns0, H5 p0 = some (.lst (ns0.map V.int)) ∧ H2 p0 = none ∧ (ns0 = [0 + (i : Int) + 1, 1 + r2] ∨ ns0 = [1 + r2, 0 + (i : Int) + 1]) ∧ atI [V.ref p1, V.ref p2] (r1 % 2) = some (.ref p0) := by
    have hm := Int.emod_two_eq r1
    rcases hm with c | c
    ·exact ⟨p1, _, q1, hp1, .inl rfl, by rw [c]; rfl⟩
    ·exact ⟨p2, _, q2, hp2', .inr rfl, by rw [c]; rfl⟩
   walk_at "rd"
   refine r_mod (by decide) (r_ixL q3 hat ?_)
   walk_at "rd"
   refine r_eqI ?_
   walk_at "rd"
   have nsl : ∀ {ns}, NsOk m ns → ns.length ≤ 2 := by
    rintro ns (h | ⟨x, h, _⟩ | ⟨x, y, h, _⟩) <;> subst h <;> simp
   refine ite2 (fun g => ?_) (fun g => ?_)
   ·have g := of_decide_eq_true g
    walk_at "rd"
    refine r_eqI ?_
    walk_at "rd"
    refine ite2 (fun g2 => ?_) (fun g2 => ?_)
    ·walk_at "rd"
     refine ite2 (fun g3 => ?_) (fun g3 => ?_)
     ·have g3 := of_decide_eq_true g3
      walk_at "rd"
      refine ⟨len2 (by first | exact Nat.zero_le _ | (show 1 ≤ 1000; decide)), fun p hp => ?_⟩
      have hf : H2 p = none := by
       cases z : H2 p with
       | none => rfl
       | some o => rw [e5 _ _ (by simp) z] at hp; cases hp
      have e6 : Ext [] H5 (upd H5 p (.lst (([1 + r2] : List Int).map V.int))) := .laid hp
      have hns : NsOk m [1 + r2] := (.inr (.inl ⟨_, rfl, by omega, by omega⟩))
      obtain ⟨_, npl, _⟩ := fr p hf
      refine r_gn ?_
      refine nexts_tail (l := l) (d := d) (p := p) (ns := [1 + r2]) rfl rfl rfl (e6 _ _ (by simp) l5) (e6 _ _ (by simp) d5) upd_same (by omega) (by omega) (nsl hns) npl ?_
      exact fun H7 kvs' l7 d7 hk7 e7 => fin p [1 + r2] _ e6 upd_same hf hns H7 kvs' l7 d7 hk7 e7 _ _ _ _
     ·walk_at "rd"
      refine ⟨len2 (by first | exact Nat.zero_le _ | (show 1 ≤ 1000; decide)), fun p hp => ?_⟩
      have hf : H2 p = none := by
       cases z : H2 p with
       | none => rfl
       | some o => rw [e5 _ _ (by simp) z] at hp; cases hp
      have e6 : Ext [] H5 (upd H5 p (.lst (([] : List Int).map V.int))) := .laid hp
      have hns : NsOk m [] := (.inl rfl)
      obtain ⟨_, npl, _⟩ := fr p hf
      refine r_gn ?_
      refine nexts_tail (l := l) (d := d) (p := p) (ns := []) rfl rfl rfl (e6 _ _ (by simp) l5) (e6 _ _ (by simp) d5) upd_same (by omega) (by omega) (nsl hns) npl ?_
      exact fun H7 kvs' l7 d7 hk7 e7 => fin p [] _ e6 upd_same hf hns H7 kvs' l7 d7 hk7 e7 _ _ _ _
    ·refine iteF ?_
     walk_at "rd"
     refine ⟨len2 (by first | exact Nat.zero_le _ | (show 1 ≤ 1000; decide)), fun p hp => ?_⟩
     have hf : H2 p = none := by
      cases z : H2 p with
      | none => rfl
      | some o => rw [e5 _ _ (by simp) z] at hp; cases hp
     have e6 : Ext [] H5 (upd H5 p (.lst (([] : List Int).map V.int))) := .laid hp
     have hns : NsOk m [] := (.inl rfl)
     obtain ⟨_, npl, _⟩ := fr p hf
     refine r_gn ?_
     refine nexts_tail (l := l) (d := d) (p := p) (ns := []) rfl rfl rfl (e6 _ _ (by simp) l5) (e6 _ _ (by simp) d5) upd_same (by omega) (by omega) (nsl hns) npl ?_
     exact fun H7 kvs' l7 d7 hk7 e7 => fin p [] _ e6 upd_same hf hns H7 kvs' l7 d7 hk7 e7 _ _ _ _
   ·have g : ¬ (0 + (i : Int) + 1 = m) := fun z => g (decide_eq_true z)
    walk_at "rd"
    refine ⟨d, _, rfl, DGet.k (k := Sum.inl _) d5, ?_⟩
    refine r_bl ?_
    refine ite2 (fun g2 => ?_) (fun g2 => ?_)
    ·walk_at "rd"
     refine ite2 (fun g3 => ?_) (fun g3 => ?_)
     ·walk_at "rd"
      refine r_eqI ?_
      walk_at "rd"
      refine ite2 (fun g4 => ?_) (fun g4 => ?_)
      ·walk_at "rd"
       refine ⟨len2 (by first | exact Nat.zero_le _ | (show 1 ≤ 1000; decide)), fun p hp => ?_⟩
       have hf : H2 p = none := by
        cases z : H2 p with
        | none => rfl
        | some o => rw [e5 _ _ (by simp) z] at hp; cases hp
       have e6 : Ext [] H5 (upd H5 p (.lst (([1 + r2] : List Int).map V.int))) := .laid hp
       have hns : NsOk m [1 + r2] := (.inr (.inl ⟨_, rfl, by omega, by omega⟩))
       obtain ⟨_, npl, _⟩ := fr p hf
       refine r_gn ?_
       refine nexts_tail (l := l) (d := d) (p := p) (ns := [1 + r2]) rfl rfl rfl (e6 _ _ (by simp) l5) (e6 _ _ (by simp) d5) upd_same (by omega) (by omega) (nsl hns) npl ?_
       exact fun H7 kvs' l7 d7 hk7 e7 => fin p [1 + r2] _ e6 upd_same hf hns H7 kvs' l7 d7 hk7 e7 _ _ _ _
      ·walk_at "rd"
       refine ⟨len2 (by first | exact Nat.zero_le _ | (show 1 ≤ 1000; decide)), fun p hp => ?_⟩
       have hf : H2 p = none := by
        cases z : H2 p with
        | none => rfl
        | some o => rw [e5 _ _ (by simp) z] at hp; cases hp
       have e6 : Ext [] H5 (upd H5 p (.lst (([] : List Int).map V.int))) := .laid hp
       have hns : NsOk m [] := (.inl rfl)
       obtain ⟨_, npl, _⟩ := fr p hf
       refine r_gn ?_
       refine nexts_tail (l := l) (d := d) (p := p) (ns := []) rfl rfl rfl (e6 _ _ (by simp) l5) (e6 _ _ (by simp) d5) upd_same (by omega) (by omega) (nsl hns) npl ?_
       exact fun H7 kvs' l7 d7 hk7 e7 => fin p [] _ e6 upd_same hf hns H7 kvs' l7 d7 hk7 e7 _ _ _ _
     ·walk_at "rd"
      refine ite2 (fun g5 => ?_) (fun g5 => ?_)
      ·refine iteT ?_
       walk_at "rd"
       refine ⟨len2 (by first | exact Nat.zero_le _ | (show 1 ≤ 1000; decide)), fun p hp => ?_⟩
       have hf : H2 p = none := by
        cases z : H2 p with
        | none => rfl
        | some o => rw [e5 _ _ (by simp) z] at hp; cases hp
       have e6 : Ext [] H5 (upd H5 p (.lst (([0 + (i : Int) + 1] : List Int).map V.int))) := .laid hp
       have hns : NsOk m [0 + (i : Int) + 1] := (.inr (.inl ⟨_, rfl, by omega, by omega⟩))
       obtain ⟨_, npl, _⟩ := fr p hf
       refine r_gn ?_
       refine nexts_tail (l := l) (d := d) (p := p) (ns := [0 + (i : Int) + 1]) rfl rfl rfl (e6 _ _ (by simp) l5) (e6 _ _ (by simp) d5) upd_same (by omega) (by omega) (nsl hns) npl ?_
       exact fun H7 kvs' l7 d7 hk7 e7 => fin p [0 + (i : Int) + 1] _ e6 upd_same hf hns H7 kvs' l7 d7 hk7 e7 _ _ _ _
      ·walk_at "rd"
       refine r_eqI ?_
       walk_at "rd"
       refine ite2 (fun g6 => ?_) (fun g6 => ?_)
       ·walk_at "rd"
        refine ⟨len2 (by first | exact Nat.zero_le _ | (show 1 ≤ 1000; decide)), fun p hp => ?_⟩
        have hf : H2 p = none := by
         cases z : H2 p with
         | none => rfl
         | some o => rw [e5 _ _ (by simp) z] at hp; cases hp
        have e6 : Ext [] H5 (upd H5 p (.lst (([0 + (i : Int) + 1] : List Int).map V.int))) := .laid hp
        have hns : NsOk m [0 + (i : Int) + 1] := (.inr (.inl ⟨_, rfl, by omega, by omega⟩))
        obtain ⟨_, npl, _⟩ := fr p hf
        refine r_gn ?_
        refine nexts_tail (l := l) (d := d) (p := p) (ns := [0 + (i : Int) + 1]) rfl rfl rfl (e6 _ _ (by simp) l5) (e6 _ _ (by simp) d5) upd_same (by omega) (by omega) (nsl hns) npl ?_
        exact fun H7 kvs' l7 d7 hk7 e7 => fin p [0 + (i : Int) + 1] _ e6 upd_same hf hns H7 kvs' l7 d7 hk7 e7 _ _ _ _
       ·have g6 : ¬ (1 + r2 = 0 + (i : Int) + 1) := fun z => g6 (decide_eq_true z)
        obtain ⟨_, npl, _⟩ := fr p0 hp0
        have hns : NsOk m ns0 := by
         rcases hn0 with h | h
         ·exact .inr (.inr ⟨_, _, h, by omega, by omega, by omega, by omega, by omega⟩)
         ·exact .inr (.inr ⟨_, _, h, by omega, by omega, by omega, by omega, by omega⟩)
        refine r_next ?_
        refine nexts_tail (l := l) (d := d) (p := p0) (ns := ns0) rfl rfl rfl l5 d5 h0 (by omega) (by omega) (nsl hns) npl ?_
        exact fun H7 kvs' l7 d7 hk7 e7 => fin p0 ns0 _ (fun _ _ _ h => h) h0 hp0 hns H7 kvs' l7 d7 hk7 e7 _ _ _ _
    ·refine iteF ?_
     walk_at "rd"
     refine ite2 (fun g5 => ?_) (fun g5 => ?_)
     ·refine iteT ?_
      walk_at "rd"
      refine ⟨len2 (by first | exact Nat.zero_le _ | (show 1 ≤ 1000; decide)), fun p hp => ?_⟩
      have hf : H2 p = none := by
       cases z : H2 p with
       | none => rfl
       | some o => rw [e5 _ _ (by simp) z] at hp; cases hp
      have e6 : Ext [] H5 (upd H5 p (.lst (([0 + (i : Int) + 1] : List Int).map V.int))) := .laid hp
      have hns : NsOk m [0 + (i : Int) + 1] := (.inr (.inl ⟨_, rfl, by omega, by omega⟩))
      obtain ⟨_, npl, _⟩ := fr p hf
      refine r_gn ?_
      refine nexts_tail (l := l) (d := d) (p := p) (ns := [0 + (i : Int) + 1]) rfl rfl rfl (e6 _ _ (by simp) l5) (e6 _ _ (by simp) d5) upd_same (by omega) (by omega) (nsl hns) npl ?_
      exact fun H7 kvs' l7 d7 hk7 e7 => fin p [0 + (i : Int) + 1] _ e6 upd_same hf hns H7 kvs' l7 d7 hk7 e7 _ _ _ _
     ·walk_at "rd"
      refine r_eqI ?_
      walk_at "rd"
      refine ite2 (fun g6 => ?_) (fun g6 => ?_)
      ·walk_at "rd"
       refine ⟨len2 (by first | exact Nat.zero_le _ | (show 1 ≤ 1000; decide)), fun p hp => ?_⟩
       have hf : H2 p = none := by
        cases z : H2 p with
        | none => rfl
        | some o => rw [e5 _ _ (by simp) z] at hp; cases hp
       have e6 : Ext [] H5 (upd H5 p (.lst (([0 + (i : Int) + 1] : List Int).map V.int))) := .laid hp
       have hns : NsOk m [0 + (i : Int) + 1] := (.inr (.inl ⟨_, rfl, by omega, by omega⟩))
       obtain ⟨_, npl, _⟩ := fr p hf
       refine r_gn ?_
       refine nexts_tail (l := l) (d := d) (p := p) (ns := [0 + (i : Int) + 1]) rfl rfl rfl (e6 _ _ (by simp) l5) (e6 _ _ (by simp) d5) upd_same (by omega) (by omega) (nsl hns) npl ?_
       exact fun H7 kvs' l7 d7 hk7 e7 => fin p [0 + (i : Int) + 1] _ e6 upd_same hf hns H7 kvs' l7 d7 hk7 e7 _ _ _ _
      ·have g6 : ¬ (1 + r2 = 0 + (i : Int) + 1) := fun z => g6 (decide_eq_true z)
       obtain ⟨_, npl, _⟩ := fr p0 hp0
       have hns : NsOk m ns0 := by
        rcases hn0 with h | h
        ·exact .inr (.inr ⟨_, _, h, by omega, by omega, by omega, by omega, by omega⟩)
        ·exact .inr (.inr ⟨_, _, h, by omega, by omega, by omega, by omega, by omega⟩)
       refine r_next ?_
       refine nexts_tail (l := l) (d := d) (p := p0) (ns := ns0) rfl rfl rfl l5 d5 h0 (by omega) (by omega) (nsl hns) npl ?_
       exact fun H7 kvs' l7 d7 hk7 e7 => fin p0 ns0 _ (fun _ _ _ h => h) h0 hp0 hns H7 kvs' l7 d7 hk7 e7 _ _ _ _
  ·rintro σ' H' ⟨nx, vs, kvs, o4, o5, o6, o7, rfl, hnl, hnx, hT', e', hl', hden, hd', hkl⟩
   walk_at "rd"
   refine q l nx H' hl (hT'.mono (by omega)) e' ⟨by omega, hnx⟩ (.list (SqL.of ?_) (hden.mono (yo_less (by simp))))
   rw [yo_out hl (by simpa using nlt)]; exact hl'
end
end Fs
set_option maxHeartbeats 1000000
namespace Fs
open PySem L2
section
variable {P : Program} {w : World} {K : PySem.W.Frag} {mg : Str → Option Value} {base : Heap}
noncomputable abbrev sWork : Stmt := top 13
theorem scWork : FnScope ["_law_tape_here", "_law_many_here", "_law_most", "_law_first", "_law_works_here", "_law_left", "_law_size", "_law_boxes", "_law_found", "_law_there", "_law_end"] ["_law_tape_here", "_law_many_here", "_law_most", "_law_first", "_law_works_here"] (defScope sWork) := ⟨rfl, rfl, rfl, by decide +kernel, rfl, by decide +kernel, by decide +kernel⟩
theorem ok_work {f : Addr} {fd : FuncData} (F : Fun K "_law_work" "_law_work" sWork f fd) (nrange : mg "range" = none) (nlist : mg "list" = none) (nlen : mg "len" = none) (hD : Has P w K mg base "_law_draw" 1 ["_law_tape_here", "_law_many_here"] spDraw)
  (hX : Has P w K mg base "_law_nexts" 2 ["_law_tape_here", "_law_many_here"] (spNexts K)) (hE : Has P w K mg base "_law_deeds" 3 ["_law_tape_here", "_law_most", "_law_boxes", "_law_first", "_law_works_here"] (spDeedsP K)) :
  FnOk P w K mg base CX0 4 f fd ["_law_tape_here", "_law_many_here", "_law_most", "_law_first", "_law_works_here"] (spWorkP K) := by
 refine F.ok scWork (fun vs H Q E h => ?_) (fun cdv A outer s H vs Q E hr h => ?_)
 ·obtain ⟨t, k, m, most, first, works, rfl, _⟩ := h
  rfl
 ·obtain ⟨t, k, m, most, first, works, rfl, hT, hk, m1, m2, hm1, hm2, hf1, hf2, hw1, hw2, q⟩ := h
  refine ⟨_, pss_cons (ps_set (i := 5) scWork.nd rfl (Or.inr rfl) (pe_callTy (call_list_rng hr.hd) (by rfl) nlist PyProof.Rows.boot_list (pa_cons (pe_callTy call_range1 (by rfl) nrange PyProof.Rows.boot_range (pa_cons pe_int pa_nil)) pa_nil)))
   (pss_cons (ps_set (i := 6) scWork.nd rfl (Or.inl rfl) (pe_op op_add pe_int (pe_fn hD hr (by decide) (pa_cons (pv 0) (pa_cons (pe_ix ix_list (pe_lst (pa_cons pe_int (pa_cons pe_int (pa_cons pe_int pa_nil)))) (pe_fn hD hr (by decide) (pa_cons (pv 0) (pa_cons pe_int pa_nil))) (fun _ _ => rfl)) pa_nil)))))
   (pss_cons (ps_lc (i := 7) ["_law_k"] [5, 0] rfl (.of rfl) scWork.nd rfl (Or.inl rfl) (pi_range1 rfl nrange (pa_cons (pv 6) pa_nil)) (fun _ _ _ _ => pg_name (i := 0) (by show ((["_law_k", "_law_left", "_law_tape_here"] : List Str)).Nodup; decide) rfl (Or.inl rfl)) (fun _ _ _ _ => .nil)
     (fun _ _ _ _ => pe_bmK K rfl PySem.F.plainAttrs_list PySem.F.slot_list_pop PySem.F.type_list_pop mt_popAt (pv 1) (pa_cons (pe_fn hD hr (by decide) (pa_cons (pv 2) (pa_cons (pe_callB (len_seqK K rfl) (by rfl) nlen PySem.boot_len (pa_cons (pv 1) pa_nil)) pa_nil))) pa_nil)))
   (pss_cons (ps_set (i := 8) scWork.nd rfl (Or.inl rfl) (pe_lst pa_nil))
   (pss_cons (ps_for PassesOwn.never rfl (pi_list (pe_fn hX hr (by decide) (pa_cons (pv 0) (pa_cons (pv 1) pa_nil)))) (pg_name (i := 9) scWork.nd rfl (Or.inl rfl))
    (pss_cons (ps_set (i := 10) scWork.nd rfl (Or.inl rfl) (pe_ifExp (pt_cmpR (op_eqD hr) (pv 9) (pe_lst pa_nil) (nomark _)) (pe_tup (pa_cons pe_str pa_nil)) (pe_ifExp (pt_cmpR op_eq (pe_callB call_len_seq (by rfl) nlen PySem.boot_len (pa_cons (pv 9) pa_nil)) pe_int (nomark _))
      (pe_tup (pa_cons pe_str (pa_cons (pe_ix ix_list (pv 9) pe_int (fun _ _ => rfl)) pa_nil))) (pe_tup (pa_cons pe_str (pa_cons (pe_ix ix_list (pv 9) pe_int (fun _ _ => rfl)) (pa_cons (pe_ix ix_list (pv 9) pe_int (fun _ _ => rfl)) pa_nil)))))))
    (pss_one (ps_expr (pe_bm PySem.F.plainAttrs_list PySem.F.slot_list_append PySem.F.type_list_append mt_append (pv 8) (pa_cons (pe_tup (pa_cons (pe_fn hE hr (by decide) (pa_cons (pv 0) (pa_cons (pv 2) (pa_cons (pv 7) (pa_cons (pv 3) (pa_cons (pv 4) pa_nil)))))) (pa_cons (pv 10) pa_nil))) pa_nil))))))
   (pss_one (ps_ret (pv 8))))))), ?_⟩
  dsimp only [nox_K, comp_K]
  walk_at "rd"
  refine ⟨8, rfl, fun pr hpr => ?_⟩
  walk_at "rd"
  refine ⟨pr, 8, rfl, upd_same, by decide, fun lf hlf => ?_⟩
  have nrl : pr ≠ lf := ne_of_none upd_same hlf
  have hlf0 : H lf = none := by rw [upd_ne nrl.symm] at hlf; exact hlf
  have nlt : lf ≠ t := hT.ne hlf0
  have EG := (Ext.laid (ts := []) (o := .rng 0 8) hpr).trans (.laid (o := .lst (([0, 1, 2, 3, 4, 5, 6, 7] : List Int).map V.int)) hlf)
  generalize hG : upd (upd H pr (.rng 0 8)) lf (.lst (([0, 1, 2, 3, 4, 5, 6, 7] : List Int).map V.int)) = G at EG
  have hG' : upd (upd H pr (.rng 0 8)) lf (.lst ((List.range 8).map fun (i : Nat) => V.int (i : Int))) = G := hG
  have lG : G lf = some (.lst (([0, 1, 2, 3, 4, 5, 6, 7] : List Int).map V.int)) := by rw [← hG, upd_same]
  have TG := hT.ext EG (by simp)
  first | rw [hG'] | erw [hG']
  clear hG hG'
  walk_at "rd"
  refine ⟨len2 (by show 3 ≤ 1000; decide), fun p hp => ?_⟩
  have npt : p ≠ t := TG.ne hp
  have npl : p ≠ lf := (ne_of_none lG hp).symm
  walk_at "rd"
  refine r_draw (TG.ext (ts := []) (.laid hp) (by simp)) (by omega) (by decide) (by decide) fun r1 H1 a1 b1 T1 e1 k1 => ?_
  have hpL : SqL K H1 p (([3, 3, 8] : List Int).map V.int) := SqL.of (by rw [k1 p npt, upd_same]; rfl)
  obtain ⟨n8, hn8, en8⟩ := atI_ints (ns := [3, 3, 8]) a1 b1
  have hn8' : 3 ≤ n8 ∧ n8 ≤ 8 := by
   simp only [List.mem_cons, List.not_mem_nil, or_false] at hn8
   omega
  refine r_ixL hpL en8 ?_
  walk_at "rd"
  refine r_draw T1 (by omega) (by omega) (by omega) fun r2 H2 a2 b2 T2 e2 k2 => ?_
  have l2 : H2 lf = some (.lst (([0, 1, 2, 3, 4, 5, 6, 7] : List Int).map V.int)) := by rw [k2 lf nlt, k1 lf nlt, upd_ne npl.symm]; exact lG
  have E2 : Ext [t] H H2 := (EG.mono (by simp)).trans ((Ext.laid hp).trans (e1.trans e2))
  walk_at "rd"
  refine ⟨1 + r2, rfl, by omega, by omega, fun bx hbx => ?_⟩
  have nbt : bx ≠ t := T2.ne hbx
  have nbl : bx ≠ lf := (ne_of_none l2 hbx).symm
  refine loop_range (lo := 0) (n := (1 + r2).toNat) (fun i σ' H' => ∃ (o : Option V) (left bs : List Int), σ' = [o, some (.ref lf), some (.ref t)] ∧ left.length + i = 8 ∧ bs.length = i ∧ (∀ b ∈ left, 0 ≤ b ∧ b < 8) ∧ (∀ b ∈ bs, 0 ≤ b ∧ b < 8) ∧ H' lf = some (.lst (left.map V.int)) ∧ H' bx = some (.lst (bs.map V.int)) ∧ Tape H' t (k + 2 + i) ∧ Ext [t] H H') ?_ ?_ ?_
  ·refine ⟨none, [0, 1, 2, 3, 4, 5, 6, 7], [], rfl, rfl, rfl, by decide, (fun _ h => absurd h (by simp)), ?_, upd_same, ?_, E2.trans (.laid hbx)⟩
   ·rw [upd_ne nbl.symm]; exact l2
   ·exact T2.ext (ts := []) (.laid hbx) (by simp)
  ·rintro i σ' H' R hi ⟨o, left, bs, rfl, hll, hbl, hleft, hbs, hL, hBx, T', E'⟩ hR
   walk_at "rd"
   refine iteT ?_
   walk_at "rd"
   refine r_tyL hL ?_
   walk_at "rd"
   refine ⟨lf, _, rfl, .inl (SqL.of hL), ?_⟩
   rw [List.length_map]
   walk_at "rd"
   refine r_draw T' (by omega) (by omega) (by omega) fun r3 H3 a3 b3 T3 e3 k3 => ?_
   have l3 : H3 lf = some (.lst (left.map V.int)) := by rw [k3 lf nlt]; exact hL
   have b3x : H3 bx = some (.lst (bs.map V.int)) := by rw [k3 bx nbt]; exact hBx
   obtain ⟨j, rfl⟩ := Int.eq_ofNat_of_zero_le a3
   have hj : j < left.length := by omega
   walk_at "rd"
   refine ⟨lf, left.map V.int, (j : Int), j, V.int left[j], rfl, rfl, l3, by omega, by omega, ?_, by rw [List.getElem?_map, List.getElem?_eq_getElem hj]; rfl, ?_⟩
   ·rw [List.length_map]
    exact seq_ix hj
   ·refine ⟨bs.map V.int, by rw [upd_ne nbl]; exact b3x, small1000 (by rw [List.length_map]; omega), hR _ _ ?_⟩
    have hmem : left[j] ∈ left := List.getElem_mem hj
    refine ⟨_, left.eraseIdx j, bs ++ [left[j]], rfl, ?_, ?_, fun b hb => hleft b (List.mem_of_mem_eraseIdx hb), fun b hb => ?_, ?_, ?_, ?_, ?_⟩
    ·rw [List.length_eraseIdx, if_pos hj]; omega
    ·rw [List.length_append, hbl]; rfl
    ·rcases List.mem_append.mp hb with y | y
     ·exact hbs b y
     ·rw [List.mem_singleton.mp y]; exact hleft _ hmem
    ·rw [upd_ne nbl.symm, upd_same, map_erase]
    ·rw [upd_same, List.map_append]; rfl
    ·exact ((T3.ext (ts := [lf]) (.put (by simp)) (by simpa using nlt.symm)).ext (ts := [bx]) (.put (by simp)) (by simpa using nbt.symm)).mono (by omega)
    ·have hbx0 : H bx = none := by
      cases z : H bx with
      | none => rfl
      | some o => rw [E2 _ _ (by simpa using nbt) z] at hbx; cases hbx
     have E4 : Ext [lf, bx, t] H (upd (upd H3 lf (.lst ((left.map V.int).eraseIdx j))) bx (.lst (bs.map V.int ++ [V.int left[j]]))) := (E'.mono (by simp)).trans ((e3.mono (by simp)).trans ((Ext.put (by simp)).trans (.put (by simp))))
     exact (E4.drop hlf0).drop hbx0
  ·rintro σ' H3 ⟨o, left, bs, rfl, hll, hbl, hleft, hbs, hL, hBx, T3, E3⟩
   have hB : BsOk bs := ⟨by omega, by omega, hbs⟩
   walk_at "rd"
   refine ⟨len2 (Nat.zero_le _), fun l hl => ?_⟩
   have nlT : l ≠ t := T3.ne hl
   have nlb : l ≠ bx := (ne_of_none hBx hl).symm
   have hlH : H l = none := E3.none (by simpa using nlT) hl
   walk_at "rd"
   refine ⟨t, _, m, rfl, T3.ext (ts := []) (.laid hl) (by simp), by omega, m1, m2, fun nl nx H4 hnl T4 e4 hNx hDn => ?_⟩
   obtain ⟨a, vs, ea, hSq, hDL⟩ := hDn.ofList
   cases ea
   have nnl : nl ≠ l := (ne_of_none upd_same hnl).symm
   have hlen := hDL.len
   rw [List.length_map] at hlen
   have hnm : (nx.length : Int) = m := hNx.1
   have l4 : H4 l = some (.lst []) := e4 _ _ (by simpa using nlT) upd_same
   have E4 : Ext [t] H H4 := E3.trans ((Ext.laid hl).trans e4)
   have apart : Same (yo (upd H3 l (.lst [])) [t] H4) (yo (upd H3 l (.lst [])) [l, t] H4) := yo_apart (H0 := H) (by simp [upd_same])
   have hSq4 := Same.seq apart hSq
   have hDL4 := hDL.mono apart
   have bx4 : H4 bx = some (.lst (bs.map V.int)) := e4 _ _ (by simpa using nbt) (by rw [upd_ne nlb.symm]; exact hBx)
   refine ⟨nl, rfl, ⟨vs, yo_same.seq hSq4⟩, for_list (xs := vs) (fun i σ' H' => ∃ (wk : List Blk) (ws : List V) (o9 o10 : Option V), σ' = [some (.ref t), some (.int m), some (.int most), some (.int first), some (.int works), some (.ref lf), some (.int (1 + r2)), some (.ref bx), some (.ref l), o9, o10] ∧ wk.length = i ∧
    (∀ b ∈ wk, BlkOk m works b ∧ Fw works b) ∧ Tape H' t (k + 45 + 140 * i) ∧ Ext [l, t] H4 H' ∧ H' l = some (.lst ws) ∧ DenL K (yo H [l, t] H') (wk.map blkD) ws) ?_ ?_ ?_ ?_⟩
   ·exact ⟨[], [], none, none, rfl, rfl, (fun _ h => absurd h (by simp)), T4.mono (by omega), .refl _ _, l4, .nil⟩
   ·rintro i σ' H' hi ⟨wk, ws, o9, o10, rfl, hwl, hwk, T', e', hl', hden⟩
    exact yo_same.seq (Same.seq e'.young hSq4)
   ·rintro i x σ' H' hx ⟨wk, ws, o9, o10, rfl, hwl, hwk, T', e', hl', hden⟩
    obtain ⟨dd, hdd, hDx⟩ := hDL4.get hx
    have hi : i < vs.length := (List.getElem?_eq_some_iff.mp hx).1
    obtain ⟨ns, hns, rfl⟩ : ∃ ns, nx[i]? = some ns ∧ dd = intsD ns := by
     rw [List.getElem?_map] at hdd
     cases z : nx[i]? with
     | none => rw [z] at hdd; cases hdd
     | some n => rw [z] at hdd; exact ⟨n, rfl, (Option.some.inj hdd).symm⟩
    have hok : NsOk m ns := hNx.2 ns (List.mem_of_getElem? hns)
    obtain ⟨c, zs, rfl, hc, hcs⟩ := hDx.ofList
    have hzs := hcs.ints
    subst hzs
    have hwl' : ws.length = i := by rw [hden.len, List.length_map, hwl]
    have hc' : SqL K H' c (ns.map V.int) := yo_same.seq (Same.seq e'.young hc)
    have tail : ∀ (en : Addr) (H6 : Hp), Ext [] H' H6 → H' en = none → Den K (yo H [l, t] H6) (endD ns) (.ref en) → ∀ D : Ends, (∀ (H7 : Hp) (o9 o10 : Option V), (∃ (wk : List Blk) (ws : List V) (p9 p10 : Option V), [some (V.ref t), some (.int m), some (.int most), some (.int first), some (.int works), some (.ref lf), some (.int (1 + r2)), some (.ref bx), some (.ref l), o9, o10] = [some (.ref t), some (.int m), some (.int most), some (.int first), some (.int works), some (.ref lf), some (.int (1 + r2)), some (.ref bx), some (.ref l), p9, p10] ∧ wk.length = i + 1 ∧
      (∀ b ∈ wk, BlkOk m works b ∧ Fw works b) ∧ Tape H7 t (k + 45 + 140 * (i + 1)) ∧ Ext [l, t] H4 H7 ∧ H7 l = some (.lst ws) ∧ DenL K (yo H [l, t] H7) (wk.map blkD) ws) → D.nx [some (V.ref t), some (.int m), some (.int most), some (.int first), some (.int works), some (.ref lf), some (.int (1 + r2)), some (.ref bx), some (.ref l), o9, o10] H7) →
      tDrop (tBM K "list" rAppend (tVar 8) (tCons (tTup (tCons (tCall (spDeedsP K) [] E0 (tCons (tVar 0) (tCons (tVar 2) (tCons (tVar 7) (tCons (tVar 3) (tCons (tVar 4) tNil)))))) (tCons (tVar 10) tNil))) tNil)) D [some (V.ref t), some (.int m), some (.int most), some (.int first), some (.int works), some (.ref lf), some (.int (1 + r2)), some (.ref bx), some (.ref l), some (.ref c), some (.ref en)] H6 := by
     intro en H6 e6 hen hDe D hD
     have l6 := e6 _ _ (by simp) hl'
     walk_at "rd"
     refine r_tyL l6 ?_
     walk_at "rd"
     refine ⟨t, bx, _, most, first, works, bs, rfl, T'.ext e6 (by simp), by omega, hm1, hm2, hf1, hf2, hw1, hw2, e6 _ _ (by simp) (e' _ _ (by simp [nbt, nlb.symm]) bx4), nbt, hB, fun dl ds H7 hdl T7 e7 hds hdf hDd => ?_⟩
     have l7 := e7 _ _ (by simpa using nlT) l6
     have ndl : dl ≠ l := (ne_of_none l6 hdl).symm
     have EH : Ext [l, t] H H6 := (E4.mono (by simp)).trans (e'.trans (e6.mono (by simp)))
     have hDd' : Den K (yo H [l, t] H7) (.list (ds.map deedD)) (.ref dl) := (hDd.mono (yo_apart (H0 := H) (us := [l, t]) (by simp [l6]))).mono (yo_older EH (by simp))
     walk_at "rd"
     refine ⟨len2 (by show 2 ≤ 1000; decide), fun p hp => ?_⟩
     have npl : p ≠ l := (ne_of_none l7 hp).symm
     have npt : p ≠ t := T7.ne hp
     walk_at "rd"
     refine r_app (by rw [upd_ne npl.symm]; exact l7) (small1000 (by omega)) ?_
     refine hD _ _ _ ⟨wk ++ [⟨ds, ns⟩], ws ++ [.ref p], _, _, rfl, by rw [List.length_append, hwl]; rfl, fun b hb => ?_, ?_, ?_, upd_same, ?_⟩
     ·rcases List.mem_append.mp hb with y | y
      ·exact hwk b y
      ·rw [List.mem_singleton.mp y]; exact ⟨⟨hok, fun d hd => (hds d hd).ok, Nat.le_trans hdf (by decide)⟩, hdf, hds⟩
     ·exact ((T7.ext (ts := []) (.laid hp) (by simp)).ext (ts := [l]) (.put (by simp)) (by simpa using nlT.symm)).mono (by omega)
     ·exact e'.trans ((e6.mono (by simp)).trans ((e7.mono (by simp)).trans ((Ext.laid hp).trans (.put (by simp)))))
     ·have E7 : Ext [l, t] H7 (upd (upd H7 p (.tup [.ref dl, .ref en])) l (.lst (ws ++ [.ref p]))) := (Ext.laid hp).trans (.put (by simp))
      have E67 : Ext [l, t] H6 (upd (upd H7 p (.tup [.ref dl, .ref en])) l (.lst (ws ++ [.ref p]))) := (e7.mono (by simp)).trans E7
      rw [List.map_append]
      refine DenL.append (hden.mono ((e6.mono (by simp)).trans E67).young) (.cons (.tuple (SqT.of ?_) (.cons (hDd'.mono E7.young) (.cons (hDe.mono E67.young) .nil))) .nil)
      rw [yo_out ((EH.trans (e7.mono (by simp))).none (by simp [npl, npt]) hp) (by simp [npl, npt]), upd_ne npl, upd_same]
    have nT : ∀ {en : Addr}, H' en = none → en ≠ t ∧ en ≠ l ∧ H en = none := fun {en} h => by
     have a1 := T'.ne h
     have a2 := (ne_of_none hl' h).symm
     exact ⟨a1, a2, ((E4.mono (us := [l, t]) (by simp)).trans e').none (by simp [a1, a2]) h⟩
    walk_at "rd"
    refine ⟨len2 (Nat.zero_le _), fun e0 he0 => ?_⟩
    have E0 : Ext [] H' (upd H' e0 (.lst [])) := .laid he0
    have hc0 : SqL K (upd H' e0 (.lst [])) c (ns.map V.int) := Same.seq (fun b o h => E0 b o (by simp) h) hc'
    rcases hok with h | ⟨x, h, _⟩ | ⟨x, y, h, _⟩
    ·subst h
     refine ⟨intsD [], .list [], .list hc0 (DenL.ofInts []), .list (SqL.of upd_same) .nil, rfl, rfl, ?_⟩
     walk_at "rd"
     refine iteT ?_
     walk_at "rd"
     refine ⟨len2 (by show 1 ≤ 1000; decide), fun en hen => ?_⟩
     have hen' := E0.none (by simp) hen
     obtain ⟨z1, z2, z3⟩ := nT hen'
     refine r_gn (tail en _ (E0.trans (.laid hen)) hen' (.tuple (SqT.of ?_) (.cons .str .nil)) _ fun H7 o9 o10 h => h)
     rw [yo_out z3 (by simp [z1, z2]), upd_same]
    ·subst h
     refine ⟨intsD [x], .list [], .list hc0 (DenL.ofInts [x]), .list (SqL.of upd_same) .nil, rfl, rfl, ?_⟩
     walk_at "rd"
     refine iteF ?_
     walk_at "rd"
     refine ⟨c, _, rfl, .inl hc0, ?_⟩
     walk_at "rd"
     refine r_eqI ?_
     walk_at "rd"
     refine iteT ?_
     walk_at "rd"
     refine ⟨len2 (by show 2 ≤ 1000; decide), fun en hen => ?_⟩
     have hen' := E0.none (by simp) hen
     obtain ⟨z1, z2, z3⟩ := nT hen'
     refine r_gn (tail en _ (E0.trans (.laid hen)) hen' (.tuple (SqT.of ?_) (.cons .str (.cons .int .nil))) _ fun H7 o9 o10 h => h)
     rw [yo_out z3 (by simp [z1, z2]), upd_same]
    ·subst h
     refine ⟨intsD [x, y], .list [], .list hc0 (DenL.ofInts [x, y]), .list (SqL.of upd_same) .nil, rfl, rfl, ?_⟩
     walk_at "rd"
     refine iteF ?_
     walk_at "rd"
     refine ⟨c, _, rfl, .inl hc0, ?_⟩
     walk_at "rd"
     refine r_eqI ?_
     walk_at "rd"
     refine iteF ?_
     walk_at "rd"
     refine ⟨len2 (by show 3 ≤ 1000; decide), fun en hen => ?_⟩
     have hen' := E0.none (by simp) hen
     obtain ⟨z1, z2, z3⟩ := nT hen'
     refine r_gn (tail en _ (E0.trans (.laid hen)) hen' (.tuple (SqT.of ?_) (.cons .str (.cons .int (.cons .int .nil)))) _ fun H7 o9 o10 h => h)
     rw [yo_out z3 (by simp [z1, z2]), upd_same]
   ·rintro σ' H' ⟨wk, ws, o9, o10, rfl, hwl, hwk, T', e', hl', hden⟩
    walk_at "rd"
    have EH : Ext [l, t] H H' := (E4.mono (by simp)).trans e'
    exact q l wk ws H' hlH nlT (T'.mono (by omega)) (EH.drop hlH) ⟨by omega, fun b hb => (hwk b hb).1⟩ (fun b hb => (hwk b hb).2) hl' hden
end
end Fs
set_option maxHeartbeats 1000000
namespace Fs
open PySem L2
section
variable {P : Program} {w : World} {K : PySem.W.Frag} {mg : Str → Option Value} {base : Heap}
noncomputable abbrev sCall : Stmt := inClass (top 3) 2
theorem scCall : FnScope ["self", "number", "boxes", "stop"] ["self", "number", "boxes"] (defScope sCall) := ⟨rfl, rfl, rfl, by decide +kernel, rfl, by decide +kernel, by decide +kernel⟩
theorem ok_call {f C CC : Addr} {fd : FuncData} {N j : Nat} {tb : Tok} {spW : Sp} (F : Fun K "call" "Running.call" sCall f fd) (T : RTx K C CC) (nlist : mg "list" = none) (hDp : mg "DEEPEST" = some (.int 20 tb)) (hI : HasC P w K mg base "Call" CC 1 ["self", "number", "boxes"] (spCallI CC)) (hW : HasM P w K mg base C "walk" j ["self", "here"] spW) (hj : j ≤ 4 * N + 3) (hsp : ∀ n, N = n + 1 → spW = spWalk P w K C CC n) :
  FnOk P w K mg base CX0 (4 * N + 4) f fd ["self", "number", "boxes"] (spCallM P w K C CC N) := by
 refine F.ok scCall (fun vs H Q E h => ?_) (fun cdv A outer s H vs Q E hr h => ?_)
 ·obtain ⟨r, g, G0, m, c, bb, bl, rfl, _⟩ := h
  rfl
 ·obtain ⟨r, g, G0, m, c, bb, bl, rfl, rfl, rfl, gv, ra, R, hm20, hbb, hl8, hsh, hc0, hN, q1, q2⟩ := h
  refine ⟨_, (pss_cons (ps_if (pt_cmpR op_eq (pe_fld (pv 0) rfl) (pe_glob (v := .int 20) rfl hDp ⟨_, rfl⟩) (nomark _)) (pss_one (ps_ret pe_str)) pss_nil)
   (pss_cons (ps_fldaug (pv 0) pe_int in_add)
   (pss_cons (ps_set (i := 3) scCall.nd rfl (Or.inl rfl) (pe_mt hW T.cl hr (by omega) (pv 0) (pa_cons (pe_mk hI hr (by omega) (pa_cons (pv 1) (pa_cons (pe_ifExp (pt_truthK K rfl (pe_fld (pv 0) rfl) (fun _ => rfl)) (pv 2) (pe_callTy call_list_of (by rfl) nlist PyProof.Rows.boot_list (pa_cons (pv 2) pa_nil))) pa_nil))) pa_nil)))
   (pss_cons (ps_fldaug (pv 0) pe_int in_sub)
   (pss_one (ps_ret (pv 3))))))), ?_⟩
  dsimp only [nox_K, comp_K]
  walk_at "rd"
  refine ⟨_, _, _, _, _, rfl, R.ob, T.cl, T.depth, rf_depth _ _ _ _ _ _ _ _ _, ?_⟩
  walk_at "rd"
  refine r_eqI ?_
  walk_at "rd"
  by_cases h20 : m.st.length = 20
  ·rw [decide_eq_true (by omega)]
   refine iteT ?_
   walk_at "rd"
   exact q1 h20
  obtain ⟨n, rfl⟩ : ∃ n, N = n + 1 := ⟨N - 1, by omega⟩
  have := hsp n rfl
  subst this
  obtain ⟨mok, q2, q3⟩ := q2 (by omega)
  rw [decide_eq_false (by omega)]
  refine iteF ?_
  have Rob : H r.self = some (selfO r g.most (!g.mean) "ended" m.steps m.taken m.st.length m.sv m.bk) := R.ob
  have R1 : RunAt P w g r G0 (upd H r.self (selfO r g.most (!g.mean) "ended" m.steps m.taken ((m.st.length : Int) + 1) m.sv m.bk)) (pushed m c bl) m.steps m.taken ((m.st.length : Int) + 1) := R.setSelf ra m.steps m.taken ((m.st.length : Int) + 1) m.sv m.bk
  have e1 : Ext [r.self] H (upd H r.self (selfO r g.most (!g.mean) "ended" m.steps m.taken ((m.st.length : Int) + 1) m.sv m.bk)) := .put (by simp)
  have nbs : bb ≠ r.self := fun z => by rw [z, R.ob] at hbb; cases hbb
  have hbb1 : (upd H r.self (selfO r g.most (!g.mean) "ended" m.steps m.taken ((m.st.length : Int) + 1) m.sv m.bk)) bb = some (.lst (bl.map V.int)) := by rw [upd_ne nbs]; exact hbb
  walk_at "rd"
  refine ⟨_, _, _, _, _, rfl, Rob, T.cl, T.depth, rf_depth _ _ _ _ _ _ _ _ _, ?_⟩
  walk_at "rd"
  refine ⟨_, _, rfl, rfl, _, _, Rob, rf_len _ _ _ _ _ _ _ _ _, ?_⟩
  rw [rp_depth]
  generalize upd H r.self (selfO r g.most (!g.mean) "ended" m.steps m.taken ((m.st.length : Int) + 1) m.sv m.bk) = H1 at R1 e1 hbb1 ⊢
  have E1 : Ext (mutR g r) H H1 := e1.mono fun z hz => by rw [List.mem_singleton.mp hz]; exact mut_self
  walk_at "rd"
  refine ⟨r.self, r.dx, _, rfl, R1.ob, by rfl, ?_⟩
  walk_at "rd"
  refine ⟨_, _, _, _, _, rfl, R1.ob, T.cl, T.sharing, rf_sharing _ _ _ _ _ _ _ _ _, ?_⟩
  refine ⟨!g.mean, rfl, ?_⟩
  have dec : ∀ (m' : Ms) (H' : Hp) (s' t' d' : Int) (v : V), RunAt P w g r G0 H' m' s' t' d' → (RunAt P w g r G0 (upd H' r.self (selfO r g.most (!g.mean) "ended" s' t' (d' - 1) m'.sv m'.bk)) m' s' t' (d' - 1) → Q v (upd H' r.self (selfO r g.most (!g.mean) "ended" s' t' (d' - 1) m'.sv m'.bk))) → tSeq (sFldAug K (tVar 0) (tC (V.int 1)) rSub "depth") (tRet (tVar 3)) { nx := fun x H' => Q .non H', rt := Q } [some (.ref r.self), some (.int c), some (.ref bb), some v] H' := by
   intro m' H' s' t' d' v RR k
   walk_at "rd"
   refine ⟨_, _, _, _, _, rfl, RR.ob, T.cl, T.depth, rf_depth _ _ _ _ _ _ _ _ _, ?_⟩
   walk_at "rd"
   refine ⟨_, _, rfl, rfl, _, _, RR.ob, rf_len _ _ _ _ _ _ _ _ _, ?_⟩
   rw [rp_depth]
   walk_at "rd"
   exact k (RR.setSelf ra s' t' (d' - 1) m'.sv m'.bk)
  cases hmean : g.mean with
  | false =>
   obtain ⟨hba, hbl⟩ := hsh hmean
   refine iteT ?_
   walk_at "rd"
   refine call_main (fun x H3 h => ⟨rfl, L2.r_nil h⟩) gv ra mok R1 (.refl _ _) hbb1 hl8 (fun _ => ⟨hba, hbl⟩) (fun z => by rw [hmean] at z; cases z) hN hc0 (fun m' H' hgo hst RR ee => ?_) (fun m' cc mid H' s' t' d' hgo hstp hcc RR => ?_)
   ·refine dec m' H' _ _ _ .non RR fun RS => ?_
    rw [Int.add_sub_cancel] at RS ⊢
    exact q2 m' _ hgo hst RS ((E1.trans ee).trans (.put mut_self))
   ·exact dec m' H' s' t' d' _ RR fun RS => q3 m' cc mid _ _ _ _ hgo hstp hcc RS
  | true =>
   refine iteF ?_
   walk_at "rd"
   refine ⟨bb, _, rfl, .inl (SqL.of hbb1), fun hb hbn => ?_⟩
   walk_at "rd"
   refine call_main (fun x H3 h => ⟨rfl, L2.r_nil h⟩) gv ra mok R1 (.laid hbn) upd_same hl8 (fun z => by rw [hmean] at z; cases z) (fun _ => hbn) hN hc0 (fun m' H' hgo hst RR ee => ?_) (fun m' cc mid H' s' t' d' hgo hstp hcc RR => ?_)
   ·refine dec m' H' _ _ _ .non RR fun RS => ?_
    rw [Int.add_sub_cancel] at RS ⊢
    exact q2 m' _ hgo hst RS ((E1.trans ee).trans (.put mut_self))
   ·exact dec m' H' s' t' d' _ RR fun RS => q3 m' cc mid _ _ _ _ hgo hstp hcc RS
end
end Fs
set_option maxHeartbeats 400000
local macro_rules | `(tactic| walk_at "re") => `(tactic| repeat (with_reducible first | (refine L2.r_seqH ?_; intro NN_ hNN_) | walk_at "q1" | refine L2.go_nx (by assumption) ?_ | (refine L2.r_ifH ?_; intro NA_ NB_ hNA_ hNB_) | walk_at "q2"))
namespace Fs
open PySem L2
section
variable {P : Program} {w : World} {K : PySem.W.Frag} {mg : Str → Option Value} {base : Heap}
noncomputable abbrev sTape : Stmt := top 8
noncomputable abbrev sNumber : Stmt := top 11
noncomputable abbrev sMany : Stmt := top 14
theorem scTape : FnScope ["_law_script", "_law_k", "_law_cell"] ["_law_script", "_law_k"] (defScope sTape) := ⟨rfl, rfl, rfl, by decide +kernel, rfl, by decide +kernel, by decide +kernel⟩
theorem ok_tape {f : Addr} {fd : FuncData} (F : Fun K "_law_tape" "_law_tape" sTape f fd) (nlen : mg "len" = none) (nabs : mg "abs" = none) (nint : mg "int" = none) : FnOk P w K mg base CX0 1 f fd ["_law_script", "_law_k"] (spTape K) := by
 refine F.ok scTape (fun vs H Q E h => ?_) (fun cdv A outer s H vs Q E hr h => ?_)
 ·obtain ⟨a, ns, k, rfl, _⟩ := h
  rfl
 ·obtain ⟨a, ns, k, rfl, hS, hk, q⟩ := h
  refine ⟨_, pss_cons (ps_set (i := 2) scTape.nd rfl (Or.inl rfl) (pe_ifExp (pt_cmpR op_lt (pv 1) (pe_callB call_len_seq (by rfl) nlen PySem.boot_len (pa_cons (pv 0) pa_nil)) (nomark _)) (pe_ix ix_list (pv 0) (pv 1) (fun _ _ => rfl)) pe_int))
   (pss_one (ps_ret (pe_lst (pa_cons (pe_op op_mul (pe_callB call_abs (by rfl) nabs PyProof.Rows.boot_abs (pa_cons (pv 2) pa_nil)) (pe_callTy call_int1 (by rfl) nint PyProof.Rows.boot_int (pa_cons (pe_cmpR op_ge (pe_callB call_abs (by rfl) nabs PyProof.Rows.boot_abs (pa_cons (pv 2) pa_nil)) (pe_op op_pow pe_int pe_int) (nomark _)) pa_nil)))
    (pa_cons (pe_op op_add (pe_op op_add (pe_op op_mod (pv 2) pe_int) (pe_op op_mul pe_int (pv 1))) pe_int) (pa_cons pe_int pa_nil)))))), ?_⟩
  dsimp only [nox_K]
  have key : ∀ c : Int, 0 ≤ (if c < 0 then -c else c) := fun c => by split <;> omega
  walk_at "re"
  refine ⟨a, _, rfl, .inl hS, ?_⟩
  walk_at "re"
  by_cases g : (k : Int) < ((ns.map V.int).length : Int)
  ·rw [decide_eq_true g]
   refine iteT ?_
   rw [List.length_map] at g
   have hg : k < ns.length := by omega
   have hat : atI (ns.map V.int) (k : Int) = some (.int ns[k]) := by
    have := atI_nat (xs := ns.map V.int) (j := k) (by rw [List.getElem?_map, List.getElem?_eq_getElem hg]; rfl)
    exact this
   walk_at "re"
   refine r_ixL hS hat ?_
   generalize ns[k] = c
   walk_at "re"
   refine ⟨_, rfl, ?_⟩
   walk_at "re"
   refine ⟨_, rfl, ?_⟩
   walk_at "re"
   refine r_pow (by decide) (by decide) (by decide) ?_
   walk_at "re"
   refine .inr ⟨_, rfl, ?_⟩
   refine r_mul (.inr ⟨by have := bit01 (decide (10 ^ Int.toNat 18 ≤ if c < 0 then -c else c)); omega, by have := bit01 (decide (10 ^ Int.toNat 18 ≤ if c < 0 then -c else c)); omega⟩) ?_
   walk_at "re"
   refine r_mod (by decide) ?_
   walk_at "re"
   refine r_mul (.inl ⟨by decide, by decide⟩) ?_
   walk_at "re"
   refine ⟨len2 (by show 3 ≤ 1000; decide), fun t ht => q t _ ht ⟨_, _, _, upd_same, ?_, ?_, ?_, by decide, by decide⟩ fun b o e => ?_⟩
   ·exact Int.mul_nonneg (key c) (bit01 _).1
   ·have := Int.emod_nonneg c (show (2305843009213693951 : Int) ≠ 0 by decide)
    omega
   ·have := Int.emod_lt_of_pos c (show (0 : Int) < 2305843009213693951 by decide)
    omega
   ·rw [upd_ne (ne_of_none e ht)]; exact e
  ·rw [decide_eq_false g]
   refine iteF ?_
   walk_at "re"
   refine ⟨_, rfl, ?_⟩
   walk_at "re"
   refine ⟨_, rfl, ?_⟩
   walk_at "re"
   refine r_pow (by decide) (by decide) (by decide) ?_
   walk_at "re"
   refine .inr ⟨_, rfl, ?_⟩
   refine r_mul (.inr ⟨by have := bit01 (decide (10 ^ Int.toNat 18 ≤ if 0 < 0 then -0 else 0)); omega, by have := bit01 (decide (10 ^ Int.toNat 18 ≤ if 0 < 0 then -0 else 0)); omega⟩) ?_
   walk_at "re"
   refine r_mod (by decide) ?_
   walk_at "re"
   refine r_mul (.inl ⟨by decide, by decide⟩) ?_
   walk_at "re"
   refine ⟨len2 (by show 3 ≤ 1000; decide), fun t ht => q t _ ht ⟨_, _, _, upd_same, ?_, ?_, ?_, by decide, by decide⟩ fun b o e => ?_⟩
   ·exact Int.mul_nonneg (key 0) (bit01 _).1
   ·have : (0 : Int) % 2305843009213693951 = 0 := rfl
    omega
   ·have : (0 : Int) % 2305843009213693951 = 0 := rfl
    omega
   ·rw [upd_ne (ne_of_none e ht)]; exact e
theorem scMany : FnScope ["_law_tape_here"] ["_law_tape_here"] (defScope sMany) := ⟨rfl, rfl, rfl, by decide +kernel, rfl, by decide +kernel, by decide +kernel⟩
theorem ok_many {f : Addr} {fd : FuncData} (F : Fun K "_law_many" "_law_many" sMany f fd) (nint : mg "int" = none) (hD : Has P w K mg base "_law_draw" 1 ["_law_tape_here", "_law_many_here"] spDraw) : FnOk P w K mg base CX0 2 f fd ["_law_tape_here"] spMany := by
 refine F.ok scMany (fun vs H Q E h => ?_) (fun cdv A outer s H vs Q E hr h => ?_)
 ·obtain ⟨t, k, rfl, _⟩ := h
  rfl
 ·obtain ⟨t, k, rfl, hT, hk, q⟩ := h
  refine ⟨_, pss_one (ps_ret (pe_ix ix_list (pe_lst (pa_cons (pe_op op_add pe_int (pe_fn hD hr (Nat.le_refl _) (pa_cons (pv 0) (pa_cons pe_int pa_nil)))) (pa_cons (pe_op op_add pe_int (pe_fn hD hr (Nat.le_refl _) (pa_cons (pv 0) (pa_cons pe_int pa_nil)))) pa_nil)))
   (pe_callTy call_int1 (by rfl) nint PyProof.Rows.boot_int (pa_cons (pe_cmpR op_eq (pe_fn hD hr (Nat.le_refl _) (pa_cons (pv 0) (pa_cons pe_int pa_nil))) pe_int (nomark _)) pa_nil)) (fun _ _ => rfl))), ?_⟩
  dsimp only [nox_K]
  walk_at "re"
  refine r_draw hT (by omega) (by decide) (by decide) fun r1 H1 a1 b1 T1 e1 _ => ?_
  walk_at "re"
  refine r_draw T1 (by omega) (by decide) (by decide) fun r2 H2 a2 b2 T2 e2 _ => ?_
  walk_at "re"
  refine ⟨len2 (by show 2 ≤ 1000; decide), fun p hp => ?_⟩
  have np : p ≠ t := T2.ne hp
  walk_at "re"
  refine r_draw (T2.ext (.laid (ts := []) hp) (by simp)) (by omega) (by decide) (by decide) fun r3 H3 a3 b3 T3 e3 k3 => ?_
  walk_at "re"
  refine r_eqI ?_
  walk_at "re"
  refine .inr ⟨_, rfl, ?_⟩
  have e4 : Ext [t] H H3 := (e1.trans e2).trans ((Ext.laid hp).trans e3)
  have hL : SqL K H3 p [V.int (1 + r1), V.int (7 + r2)] := SqL.of (by rw [k3 p np, upd_same])
  cases c : decide (r3 = 0) with
  | true => exact r_ixL hL rfl (q _ _ (by omega) (by omega) T3 e4)
  | false => exact r_ixL hL rfl (q _ _ (by omega) (by omega) T3 e4)
theorem scNumber : FnScope ["_law_tape_here"] ["_law_tape_here"] (defScope sNumber) := ⟨rfl, rfl, rfl, by decide +kernel, rfl, by decide +kernel, by decide +kernel⟩
theorem ok_number {f : Addr} {fd : FuncData} (F : Fun K "_law_number" "_law_number" sNumber f fd) (hD : Has P w K mg base "_law_draw" 1 ["_law_tape_here", "_law_many_here"] spDraw) : FnOk P w K mg base CX0 2 f fd ["_law_tape_here"] spNumber := by
 refine F.ok scNumber (fun vs H Q E h => ?_) (fun cdv A outer s H vs Q E hr h => ?_)
 ·obtain ⟨t, k, rfl, _⟩ := h
  rfl
 ·obtain ⟨t, k, rfl, hT, hk, q⟩ := h
  refine ⟨_, pss_one (ps_ret (pe_ix ix_list (pe_lst (pa_cons pe_int (pa_cons pe_int (pa_cons (pe_un un_neg pe_int) (pa_cons pe_int (pa_cons (pe_op op_pow pe_int pe_int) (pa_cons (pe_op op_sub pe_int (pe_op op_pow pe_int pe_int))
   (pa_cons (pe_op op_sub (pe_fn hD hr (Nat.le_refl _) (pa_cons (pv 0) (pa_cons pe_int pa_nil))) pe_int) (pa_cons (pe_fn hD hr (Nat.le_refl _) (pa_cons (pv 0) (pa_cons (pe_op op_pow pe_int pe_int) pa_nil))) pa_nil)))))))))
   (pe_fn hD hr (Nat.le_refl _) (pa_cons (pv 0) (pa_cons pe_int pa_nil))) (fun _ _ => rfl))), ?_⟩
  dsimp only [nox_K]
  walk_at "re"
  refine r_pow (by decide) (by decide) (by decide) ?_
  walk_at "re"
  refine r_pow (by decide) (by decide) (by decide) ?_
  walk_at "re"
  refine r_draw hT (by omega) (by decide) (by decide) fun r1 H1 a1 b1 T1 e1 _ => ?_
  walk_at "re"
  refine r_pow (by decide) (by decide) (by decide) ?_
  walk_at "re"
  refine r_draw T1 (by omega) (by decide) (by decide) fun r2 H2 a2 b2 T2 e2 _ => ?_
  have b2' : r2 < 1000000 := b2
  walk_at "re"
  refine ⟨len2 (by show 8 ≤ 1000; decide), fun p hp => ?_⟩
  have np : p ≠ t := T2.ne hp
  walk_at "re"
  refine r_draw (T2.ext (.laid (ts := []) hp) (by simp)) (by omega) (by decide) (by decide) fun r3 H3 a3 b3 T3 e3 k3 => ?_
  have e4 : Ext [t] H H3 := (e1.trans e2).trans ((Ext.laid hp).trans e3)
  have hL := SqL.of (K := K) ((k3 p np).trans upd_same)
  have e5 : (10 : Int) ^ (12 : Int).toNat = 1000000000000 := by decide
  have e6 : -((10 : Int) ^ 12) = -1000000000000 := by decide
  have e7 : ((10 : Int) ^ 12) = 1000000000000 := by decide
  rw [e6, e7] at q
  obtain h | h | h | h | h | h | h | h : r3 = 0 ∨ r3 = 1 ∨ r3 = 2 ∨ r3 = 3 ∨ r3 = 4 ∨ r3 = 5 ∨ r3 = 6 ∨ r3 = 7 := by omega
  all_goals
   subst h
   refine r_ixL hL rfl (q _ _ ?_ ?_ T3 e4)
  all_goals first | decide | omega
end
end Fs
set_option maxHeartbeats 1000000
namespace Fs
open PySem L2
section
variable {P : Program} {w : World} {K : PySem.W.Frag} {mg : Str → Option Value} {base : Heap}
noncomputable abbrev sDeeds : Stmt := top 12
theorem scDeeds : FnScope ["_law_tape_here", "_law_most", "_law_boxes", "_law_first", "_law_works_here", "_law_found", "_law_turn", "_law_way", "_law_n", "_law_box", "_law_other", "_law_called"] ["_law_tape_here", "_law_most", "_law_boxes", "_law_first", "_law_works_here"] (defScope sDeeds) := ⟨rfl, rfl, rfl, by decide +kernel, rfl, by decide +kernel, by decide +kernel⟩
theorem ok_deeds {f : Addr} {fd : FuncData} (F : Fun K "_law_deeds" "_law_deeds" sDeeds f fd) (nrange : mg "range" = none) (nint : mg "int" = none) (nlen : mg "len" = none) (hD : Has P w K mg base "_law_draw" 1 ["_law_tape_here", "_law_many_here"] spDraw) (hN : Has P w K mg base "_law_number" 2 ["_law_tape_here"] spNumber) :
  FnOk P w K mg base CX0 3 f fd ["_law_tape_here", "_law_most", "_law_boxes", "_law_first", "_law_works_here"] (spDeedsP K) := by
 refine F.ok scDeeds (fun vs H Q E h => ?_) (fun cdv A outer s H vs Q E hr h => ?_)
 ·obtain ⟨t, b, k, most, first, works, bs, rfl, _⟩ := h
  rfl
 ·obtain ⟨t, b, k, most, first, works, bs, rfl, hT, hk, hm1, hm2, hf1, hf2, hw1, hw2, hb, nbt, hB, q⟩ := h
  refine ⟨_, pss_cons (ps_set (i := 5) scDeeds.nd rfl (Or.inl rfl) (pe_lst pa_nil))
   (pss_cons (ps_for PassesOwn.never rfl (pi_range1 rfl nrange (pa_cons (pe_fn hD hr (by decide) (pa_cons (pv 0) (pa_cons (pe_op op_add pe_int (pe_ix ix_list (pe_lst (pa_cons (pv 1) (pa_cons pe_int pa_nil))) (pe_callTy call_int1 (by rfl) nint PyProof.Rows.boot_int (pa_cons (pe_cmpR op_eq (pe_fn hD hr (by decide) (pa_cons (pv 0) (pa_cons pe_int pa_nil))) pe_int (nomark _)) pa_nil)) (fun _ _ => rfl))) pa_nil))) pa_nil)) (pg_name (i := 6) scDeeds.nd rfl (Or.inl rfl))
    (pss_cons (ps_par (i := 7) (j := 8) rfl scDeeds.nd rfl rfl (by decide) rfl rfl (pa_cons (pe_fn hD hr (by decide) (pa_cons (pv 0) (pa_cons pe_int pa_nil))) (pa_cons (pe_fn hN hr (by decide) (pa_cons (pv 0) pa_nil)) pa_nil)) rfl)
    (pss_cons (ps_set (i := 9) scDeeds.nd rfl (Or.inl rfl) (pe_ix ix_list (pv 2) (pe_fn hD hr (by decide) (pa_cons (pv 0) (pa_cons (pe_callB call_len_seq (by rfl) nlen PySem.boot_len (pa_cons (pv 2) pa_nil)) pa_nil))) (fun _ _ => rfl)))
    (pss_cons (ps_set (i := 10) scDeeds.nd rfl (Or.inl rfl) (pe_ix ix_list (pv 2) (pe_fn hD hr (by decide) (pa_cons (pv 0) (pa_cons (pe_callB call_len_seq (by rfl) nlen PySem.boot_len (pa_cons (pv 2) pa_nil)) pa_nil))) (fun _ _ => rfl)))
    (pss_cons (ps_set (i := 11) scDeeds.nd rfl (Or.inl rfl) (pe_ix ix_list (pe_lst (pa_cons (pe_op op_add (pe_op op_add (pv 3) pe_int) (pe_fn hD hr (by decide) (pa_cons (pv 0) (pa_cons pe_int pa_nil)))) (pa_cons (pe_fn hD hr (by decide) (pa_cons (pv 0) (pa_cons (pv 4) pa_nil))) pa_nil))) (pe_callTy call_int1 (by rfl) nint PyProof.Rows.boot_int (pa_cons (pe_cmpR op_eq (pe_fn hD hr (by decide) (pa_cons (pv 0) (pa_cons pe_int pa_nil))) pe_int (nomark _)) pa_nil)) (fun _ _ => rfl)))
    (pss_one (ps_if (pw_and (pt_cmpR op_eq (pv 7) pe_int (nomark _)) (pw_and1 (pt_cmpR op_lt (pv 11) (pv 4) (nomark _)))).pt
     (pss_one (ps_expr (pe_bm PySem.F.plainAttrs_list PySem.F.slot_list_append PySem.F.type_list_append mt_append (pv 5) (pa_cons (pe_tup (pa_cons pe_str (pa_cons (pv 11) pa_nil))) pa_nil))))
     (pss_one (ps_expr (pe_bm PySem.F.plainAttrs_list PySem.F.slot_list_append PySem.F.type_list_append mt_append (pv 5) (pa_cons (pe_ix ix_list (pe_lst (pa_cons (pe_tup (pa_cons pe_str (pa_cons (pv 9) (pa_cons (pv 8) pa_nil)))) (pa_cons (pe_tup (pa_cons pe_str (pa_cons (pv 9) (pa_cons (pv 10) pa_nil)))) (pa_cons (pe_tup (pa_cons pe_str (pa_cons (pv 9) pa_nil))) pa_nil)))) (pe_op op_mod (pv 7) pe_int) (fun _ _ => rfl)) pa_nil)))))))))))
   (pss_one (ps_ret (pv 5)))), ?_⟩
  dsimp only [nox_K, comp_K]
  walk_at "re"
  refine ⟨len2 (Nat.zero_le _), fun l hl => ?_⟩
  have nlt : l ≠ t := hT.ne hl
  have nlb : l ≠ b := (ne_of_none hb hl).symm
  have T0 : Tape (upd H l (.lst [])) t k := hT.ext (ts := []) (.laid hl) (by simp)
  walk_at "re"
  refine ⟨len2 (by show 2 ≤ 1000; decide), fun p hp => ?_⟩
  have npt : p ≠ t := T0.ne hp
  have npl : p ≠ l := fun z => by rw [z, upd_same] at hp; cases hp
  walk_at "re"
  refine r_draw (T0.ext (ts := []) (.laid hp) (by simp)) (by omega) (by decide) (by decide) fun r1 H1 a1 b1 T1 e1 k1 => ?_
  walk_at "re"
  refine r_eqI ?_
  walk_at "re"
  refine .inr ⟨_, rfl, ?_⟩
  have hpL : SqL K H1 p [V.int most, V.int 12] := SqL.of (by rw [k1 p npt, upd_same])
  obtain ⟨mo, hmo, mo0, mo1⟩ : ∃ mo : Int, atI [V.int most, V.int 12] (if decide (r1 = 0) = true then 1 else 0) = some (.int mo) ∧ 0 ≤ mo ∧ mo ≤ 12 := by
   cases decide (r1 = 0)
   ·exact ⟨most, rfl, hm1, hm2⟩
   ·exact ⟨12, rfl, by decide, by decide⟩
  refine r_ixL hpL hmo ?_
  walk_at "re"
  refine r_draw T1 (by omega) (by omega) (by omega) fun r2 H2 a2 b2 T2 e2 k2 => ?_
  have l2 : H2 l = some (.lst []) := by rw [k2 l nlt, k1 l nlt, upd_ne npl.symm, upd_same]
  have E2 : Ext [t] H H2 := (Ext.laid hl).trans ((Ext.laid hp).trans (e1.trans e2))
  walk_at "re"
  refine ⟨r2, rfl, by omega, by omega, for_range (lo := 0) (n := r2.toNat) (fun i σ' H' => ∃ (ds : List Deed) (vs : List V) (o6 o7 o8 o9 o10 o11 : Option V), σ' = [some (.ref t), some (.int most), some (.ref b), some (.int first), some (.int works), some (.ref l), o6, o7, o8, o9, o10, o11] ∧ ds.length = i ∧ (∀ d ∈ ds, DeedP works d) ∧
   Tape H' t (k + 2 + 10 * i) ∧ Ext [t] H H' ∧ H' l = some (.lst vs) ∧ DenL K (yo H [t, l] H') (ds.map deedD) vs) ?_ ?_ ?_⟩
  ·exact ⟨[], [], none, none, none, none, none, none, rfl, rfl, (fun _ h => absurd h (by simp)), T2.mono (by omega), E2, l2, .nil⟩
  ·rintro i σ' H' hi ⟨ds, vs, o6, o7, o8, o9, o10, o11, rfl, hdl, hds, hT', e', hl', hden⟩
   have hvl : vs.length = i := by rw [hden.len, List.length_map, hdl]
   walk_at "re"
   refine r_draw hT' (by omega) (by decide) (by decide) fun r3 H3 a3 b3 T3 e3 _ => ?_
   walk_at "re"
   refine r_int T3 (by omega) fun n H4 n0 n1 T4 e4 => ?_
   walk_at "re"
   refine ⟨_, _, rfl, ?_⟩
   have E4 : Ext [t] H' H4 := e3.trans e4
   have hbt : b ∉ [t] := by simpa using nbt
   have hltn : l ∉ [t] := by simpa using nlt
   walk_at "re"
   refine ⟨b, _, rfl, .inl (SqL.of (E4 _ _ hbt (e' _ _ hbt hb))), ?_⟩
   rw [List.length_map]
   walk_at "re"
   refine r_draw T4 (by omega) (by have := hB.one; omega) (by have := hB.few; omega) fun r5 H5 a5 b5 T5 e5 _ => ?_
   have E5 : Ext [t] H' H5 := E4.trans e5
   obtain ⟨bx, hbx, ebx⟩ := atI_ints (ns := bs) a5 b5
   refine r_ixL (SqL.of (E5 _ _ hbt (e' _ _ hbt hb))) ebx ?_
   walk_at "re"
   refine ⟨b, _, rfl, .inl (SqL.of (E5 _ _ hbt (e' _ _ hbt hb))), ?_⟩
   rw [List.length_map]
   walk_at "re"
   refine r_draw T5 (by omega) (by have := hB.one; omega) (by have := hB.few; omega) fun r6 H6 a6 b6 T6 e6 _ => ?_
   have E6 : Ext [t] H' H6 := E5.trans e6
   obtain ⟨ox, hox, eox⟩ := atI_ints (ns := bs) a6 b6
   refine r_ixL (SqL.of (E6 _ _ hbt (e' _ _ hbt hb))) eox ?_
   walk_at "re"
   refine r_draw T6 (by omega) (by decide) (by decide) fun r7 H7 a7 b7 T7 e7 _ => ?_
   walk_at "re"
   refine r_draw T7 (by omega) (by omega) (by omega) fun r8 H8 a8 b8 T8 e8 _ => ?_
   walk_at "re"
   refine ⟨len2 (by show 2 ≤ 1000; decide), fun p1 hp1 => ?_⟩
   have np1 : p1 ≠ t := T8.ne hp1
   walk_at "re"
   refine r_draw (T8.ext (ts := []) (.laid hp1) (by simp)) (by omega) (by decide) (by decide) fun r9 H9 a9 b9 T9 e9 k9 => ?_
   walk_at "re"
   refine r_eqI ?_
   walk_at "re"
   refine .inr ⟨_, rfl, ?_⟩
   have E9 : Ext [t] H' H9 := (E6.trans (e7.trans e8)).trans ((Ext.laid hp1).trans e9)
   have hL9 : SqL K H9 p1 [V.int (first + 1 + r7), V.int r8] := SqL.of (by rw [k9 p1 np1, upd_same])
   obtain ⟨ca, hca, ca0⟩ : ∃ ca : Int, atI [V.int (first + 1 + r7), V.int r8] (if decide (r9 = 0) = true then 1 else 0) = some (.int ca) ∧ 0 ≤ ca := by
    cases decide (r9 = 0)
    ·exact ⟨_, rfl, by omega⟩
    ·exact ⟨_, rfl, by omega⟩
   refine r_ixL hL9 hca ?_
   have l9 : H9 l = some (.lst vs) := E9 _ _ hltn hl'
   have fin : ∀ (d : Deed) (H6 : Hp) (p : Addr), DeedP works d → Ext [] H9 H6 → p ≠ t → p ≠ l → Den K (yo H [t, l] H6) (deedD d) (.ref p) → ∀ o6 o7 o8 o9 o10 o11 : Option V, ∃ (ds : List Deed) (vs' : List V) (p6 p7 p8 p9 p10 p11 : Option V), [some (V.ref t), some (.int most), some (.ref b), some (.int first), some (.int works), some (.ref l), o6, o7, o8, o9, o10, o11] = [some (V.ref t), some (.int most), some (.ref b), some (.int first), some (.int works), some (.ref l), p6, p7, p8, p9, p10, p11] ∧ ds.length = i + 1 ∧ (∀ d ∈ ds, DeedP works d) ∧
     Tape (upd H6 l (.lst (vs ++ [.ref p]))) t (k + 2 + 10 * (i + 1)) ∧ Ext [t] H (upd H6 l (.lst (vs ++ [.ref p]))) ∧ (upd H6 l (.lst (vs ++ [.ref p]))) l = some (.lst vs') ∧ DenL K (yo H [t, l] (upd H6 l (.lst (vs ++ [.ref p])))) (ds.map deedD) vs' := by
    intro d H6 p hd e6 npt npl hden6 o6 o7 o8 o9 o10 o11
    have E10 : Ext [l, t] H9 (upd H6 l (.lst (vs ++ [.ref p]))) := (e6.mono (by simp)).trans (.put (by simp))
    have E11 : Ext [l, t] H' (upd H6 l (.lst (vs ++ [.ref p]))) := (E9.mono (by simp)).trans E10
    refine ⟨ds ++ [d], vs ++ [.ref p], o6, o7, o8, o9, o10, o11, rfl, by rw [List.length_append, hdl]; rfl, fun z hz => ?_, ?_, ?_, upd_same, ?_⟩
    ·rcases List.mem_append.mp hz with y | y
     ·exact hds z y
     ·rw [List.mem_singleton.mp y]; exact hd
    ·exact ((T9.ext e6 (by simp)).ext (ts := [l]) (.put (by simp)) (by simpa using nlt.symm)).mono (by omega)
    ·exact ((e'.mono (by simp)).trans E11).drop hl
    ·rw [List.map_append]
     exact DenL.append (hden.mono (E11.mono (by simp)).young) (.cons (hden6.mono (Ext.put (by simp)).young) .nil)
   have sz : vs.length < sizeLine := small1000 (by omega)
   walk_at "re"
   refine r_eqI ?_
   walk_at "re"
   refine ite2 (fun g => ?_) (fun g => ?_)
   ·walk_at "re"
    refine ite2 (fun g2 => ?_) (fun g2 => ?_)
    ·have g2 := of_decide_eq_true g2
     walk_at "re"
     refine r_tyL l9 ?_
     walk_at "re"
     refine ⟨len2 (by show 2 ≤ 1000; decide), fun p hp => ?_⟩
     have npt := T9.ne hp
     have hfresh := hp
     have npl : p ≠ l := (ne_of_none l9 hp).symm
     walk_at "re"
     refine r_app (by rw [upd_ne npl.symm]; exact l9) sz ?_
     refine fin (.call ca) _ p ⟨ca0, g2⟩ (.laid hp) npt npl (.tuple (SqT.of ?_) (.cons .str (.cons .int .nil))) _ _ _ _ _ _
     rw [yo_out ((e'.trans E9).none (by simpa using npt) hfresh) (by simp [npt, npl]), upd_same]
    ·walk_at "re"
     refine r_tyL l9 ?_
     walk_at "re"
     refine ⟨len2 (by show 3 ≤ 1000; decide), fun s1 hs1 => ?_⟩
     walk_at "re"
     refine ⟨len2 (by show 3 ≤ 1000; decide), fun s2 hs2 => ?_⟩
     walk_at "re"
     refine ⟨len2 (by show 2 ≤ 1000; decide), fun s3 hs3 => ?_⟩
     walk_at "re"
     refine ⟨len2 (by show 3 ≤ 1000; decide), fun s4 hs4 => ?_⟩
     have e12 : s1 ≠ s2 := ne_of_none upd_same hs2
     have e13 : s1 ≠ s3 := ne_of_none (by rw [upd_ne e12, upd_same]) hs3
     have e23 : s2 ≠ s3 := ne_of_none upd_same hs3
     have e14 : s1 ≠ s4 := ne_of_none (by rw [upd_ne e13, upd_ne e12, upd_same]) hs4
     have e24 : s2 ≠ s4 := ne_of_none (by rw [upd_ne e23, upd_same]) hs4
     have e34 : s3 ≠ s4 := ne_of_none upd_same hs4
     have f2 : H9 s2 = none := by rw [upd_ne e12.symm] at hs2; exact hs2
     have f3 : H9 s3 = none := by rw [upd_ne e23.symm, upd_ne e13.symm] at hs3; exact hs3
     have E0 := (Ext.laid (ts := []) (o := .tup [V.str "set", .int bx, .int n]) hs1).trans ((Ext.laid (o := .tup [V.str "add", .int bx, .int ox]) hs2).trans ((Ext.laid (o := .tup [V.str "tell", .int bx]) hs3).trans (Ext.laid (o := .lst [V.ref s1, .ref s2, .ref s3]) hs4)))
     have l10 := E0 _ _ (by simp) l9
     have hbx' := hB.all _ hbx
     have hox' := hB.all _ hox
     walk_at "re"
     refine r_mod (by decide) ?_
     have h3 : r3 % 3 = 0 ∨ r3 % 3 = 1 ∨ r3 % 3 = 2 := by omega
     have q4 : SqL K (upd (upd (upd (upd H9 s1 (.tup [V.str "set", .int bx, .int n])) s2 (.tup [V.str "add", .int bx, .int ox])) s3 (.tup [V.str "tell", .int bx])) s4 (.lst [V.ref s1, .ref s2, .ref s3])) s4 [V.ref s1, .ref s2, .ref s3] := SqL.of upd_same
     rcases h3 with h | h | h
     ·refine r_ixL (v := V.ref s1) q4 (by rw [h]; rfl) ?_
      walk_at "re"
      have npt := T9.ne hs1
      have hfresh := hs1
      have npl : s1 ≠ l := (ne_of_none l9 hs1).symm
      refine r_app l10 sz ?_
      refine fin (.set bx n) _ s1 ⟨hbx'.1, hbx'.2, n0, n1⟩ E0 npt npl (.tuple (SqT.of ?_) (.cons .str (.cons .int (.cons .int .nil)))) _ _ _ _ _ _
      rw [yo_out ((e'.trans E9).none (by simpa using npt) hfresh) (by simp [npt, npl]), upd_ne e14, upd_ne e13, upd_ne e12, upd_same]
     ·refine r_ixL (v := V.ref s2) q4 (by rw [h]; rfl) ?_
      walk_at "re"
      have npt := T9.ne f2
      have hfresh := f2
      have npl : s2 ≠ l := (ne_of_none l9 f2).symm
      refine r_app l10 sz ?_
      refine fin (.add bx ox) _ s2 ⟨hbx'.1, hbx'.2, hox'.1, hox'.2⟩ E0 npt npl (.tuple (SqT.of ?_) (.cons .str (.cons .int (.cons .int .nil)))) _ _ _ _ _ _
      rw [yo_out ((e'.trans E9).none (by simpa using npt) hfresh) (by simp [npt, npl]), upd_ne e24, upd_ne e23, upd_same]
     ·refine r_ixL (v := V.ref s3) q4 (by rw [h]; rfl) ?_
      walk_at "re"
      have npt := T9.ne f3
      have hfresh := f3
      have npl : s3 ≠ l := (ne_of_none l9 f3).symm
      refine r_app l10 sz ?_
      refine fin (.tell bx) _ s3 ⟨hbx'.1, hbx'.2⟩ E0 npt npl (.tuple (SqT.of ?_) (.cons .str (.cons .int .nil))) _ _ _ _ _ _
      rw [yo_out ((e'.trans E9).none (by simpa using npt) hfresh) (by simp [npt, npl]), upd_ne e34, upd_same]
   ·refine iteF ?_
    walk_at "re"
    refine r_tyL l9 ?_
    walk_at "re"
    refine ⟨len2 (by show 3 ≤ 1000; decide), fun s1 hs1 => ?_⟩
    walk_at "re"
    refine ⟨len2 (by show 3 ≤ 1000; decide), fun s2 hs2 => ?_⟩
    walk_at "re"
    refine ⟨len2 (by show 2 ≤ 1000; decide), fun s3 hs3 => ?_⟩
    walk_at "re"
    refine ⟨len2 (by show 3 ≤ 1000; decide), fun s4 hs4 => ?_⟩
    have e12 : s1 ≠ s2 := ne_of_none upd_same hs2
    have e13 : s1 ≠ s3 := ne_of_none (by rw [upd_ne e12, upd_same]) hs3
    have e23 : s2 ≠ s3 := ne_of_none upd_same hs3
    have e14 : s1 ≠ s4 := ne_of_none (by rw [upd_ne e13, upd_ne e12, upd_same]) hs4
    have e24 : s2 ≠ s4 := ne_of_none (by rw [upd_ne e23, upd_same]) hs4
    have e34 : s3 ≠ s4 := ne_of_none upd_same hs4
    have f2 : H9 s2 = none := by rw [upd_ne e12.symm] at hs2; exact hs2
    have f3 : H9 s3 = none := by rw [upd_ne e23.symm, upd_ne e13.symm] at hs3; exact hs3
    have E0 := (Ext.laid (ts := []) (o := .tup [V.str "set", .int bx, .int n]) hs1).trans ((Ext.laid (o := .tup [V.str "add", .int bx, .int ox]) hs2).trans ((Ext.laid (o := .tup [V.str "tell", .int bx]) hs3).trans (Ext.laid (o := .lst [V.ref s1, .ref s2, .ref s3]) hs4)))
    have l10 := E0 _ _ (by simp) l9
    have hbx' := hB.all _ hbx
    have hox' := hB.all _ hox
    walk_at "re"
    refine r_mod (by decide) ?_
    have h3 : r3 % 3 = 0 ∨ r3 % 3 = 1 ∨ r3 % 3 = 2 := by omega
    have q4 : SqL K (upd (upd (upd (upd H9 s1 (.tup [V.str "set", .int bx, .int n])) s2 (.tup [V.str "add", .int bx, .int ox])) s3 (.tup [V.str "tell", .int bx])) s4 (.lst [V.ref s1, .ref s2, .ref s3])) s4 [V.ref s1, .ref s2, .ref s3] := SqL.of upd_same
    rcases h3 with h | h | h
    ·refine r_ixL (v := V.ref s1) q4 (by rw [h]; rfl) ?_
     walk_at "re"
     have npt := T9.ne hs1
     have hfresh := hs1
     have npl : s1 ≠ l := (ne_of_none l9 hs1).symm
     refine r_app l10 sz ?_
     refine fin (.set bx n) _ s1 ⟨hbx'.1, hbx'.2, n0, n1⟩ E0 npt npl (.tuple (SqT.of ?_) (.cons .str (.cons .int (.cons .int .nil)))) _ _ _ _ _ _
     rw [yo_out ((e'.trans E9).none (by simpa using npt) hfresh) (by simp [npt, npl]), upd_ne e14, upd_ne e13, upd_ne e12, upd_same]
    ·refine r_ixL (v := V.ref s2) q4 (by rw [h]; rfl) ?_
     walk_at "re"
     have npt := T9.ne f2
     have hfresh := f2
     have npl : s2 ≠ l := (ne_of_none l9 f2).symm
     refine r_app l10 sz ?_
     refine fin (.add bx ox) _ s2 ⟨hbx'.1, hbx'.2, hox'.1, hox'.2⟩ E0 npt npl (.tuple (SqT.of ?_) (.cons .str (.cons .int (.cons .int .nil)))) _ _ _ _ _ _
     rw [yo_out ((e'.trans E9).none (by simpa using npt) hfresh) (by simp [npt, npl]), upd_ne e24, upd_ne e23, upd_same]
    ·refine r_ixL (v := V.ref s3) q4 (by rw [h]; rfl) ?_
     walk_at "re"
     have npt := T9.ne f3
     have hfresh := f3
     have npl : s3 ≠ l := (ne_of_none l9 f3).symm
     refine r_app l10 sz ?_
     refine fin (.tell bx) _ s3 ⟨hbx'.1, hbx'.2⟩ E0 npt npl (.tuple (SqT.of ?_) (.cons .str (.cons .int .nil))) _ _ _ _ _ _
     rw [yo_out ((e'.trans E9).none (by simpa using npt) hfresh) (by simp [npt, npl]), upd_ne e34, upd_same]
  ·rintro σ' H' ⟨ds, vs, o6, o7, o8, o9, o10, o11, rfl, hdl, hds, hT', e', hl', hden⟩
   walk_at "re"
   refine q l ds H' hl (hT'.mono (by omega)) e' hds (by omega) (.list (SqL.of ?_) (hden.mono (yo_less (by simp))))
   rw [yo_out hl (by simpa using nlt)]; exact hl'
end
end Fs
set_option maxHeartbeats 1000000
namespace Fs
open PySem L2
section
variable {P : Program} {w : World} {K : PySem.W.Frag} {mg : Str → Option Value} {base : Heap}
noncomputable abbrev sStep : Stmt := inClass (top 3) 1
theorem scStep : FnScope ["self"] ["self"] (defScope sStep) := ⟨rfl, rfl, rfl, by decide +kernel, rfl, by decide +kernel, by decide +kernel⟩
theorem ok_step {f C CC : Addr} {fd : FuncData} (F : Fun K "step" "Running.step" sStep f fd) (T : RTx K C CC) : FnOk P w K mg base CX0 1 f fd ["self"] (spStep C) := by
 refine F.ok scStep (fun vs H Q E h => ?_) (fun cdv A outer s H vs Q E hr h => ?_)
 ·obtain ⟨r, most, sh, state, steps, forks, depth, sv, bk, rfl, _⟩ := h
  rfl
 ·obtain ⟨r, most, sh, state, steps, forks, depth, sv, bk, rfl, rfl, hS, q1, q2⟩ := h
  refine ⟨_, (pss_cons (ps_if (pt_cmpR op_ge (pe_fld (pv 0) rfl) (pe_fld (pv 0) rfl) (nomark _)) (pss_one (ps_ret pe_str)) pss_nil)
   (pss_cons (ps_fldaug (pv 0) pe_int in_add)
   (pss_one (ps_ret pe_non)))), ?_⟩
  dsimp only [nox_K, comp_K]
  walk_at "re"
  refine ⟨_, _, _, _, _, rfl, hS, T.cl, T.steps, rf_steps _ _ _ _ _ _ _ _ _, ?_⟩
  walk_at "re"
  refine ⟨_, _, _, _, _, rfl, hS, T.cl, T.most, rf_most _ _ _ _ _ _ _ _ _, ?_⟩
  walk_at "re"
  refine ite2 (fun hc => ?_) (fun hc => ?_)
  ·walk_at "re"
   exact q1 (by simpa using hc)
  ·walk_at "re"
   refine ⟨_, _, _, _, _, rfl, hS, T.cl, T.steps, rf_steps _ _ _ _ _ _ _ _ _, ?_⟩
   walk_at "re"
   refine ⟨_, _, rfl, rfl, _, _, hS, rf_len _ _ _ _ _ _ _ _ _, ?_⟩
   walk_at "re"
   exact q2 (by simpa using hc)
end
end Fs
set_option maxHeartbeats 1000000
namespace Fs
open PySem L2
section
variable {P : Program} {w : World} {K : PySem.W.Frag} {mg : Str → Option Value} {base : Heap}
noncomputable abbrev sNextC : Stmt := inClass (top 3) 7
theorem scNextC : FnScope ["self"] ["self"] (defScope sNextC) := ⟨rfl, rfl, rfl, by decide +kernel, rfl, by decide +kernel, by decide +kernel⟩
theorem ok_nextc {f C CC : Addr} {fd : FuncData} (F : Fun K "next_choice" "Running.next_choice" sNextC f fd) (T : RTx K C CC) (nlen : mg "len" = none) : FnOk P w K mg base CX0 1 f fd ["self"] (spNextC K C) := by
 refine F.ok scNextC (fun vs H Q E h => ?_) (fun cdv A outer s H vs Q E hr h => ?_)
 ·obtain ⟨r, most, sh, state, steps, k, depth, sv, bk, ch, rfl, _⟩ := h
  rfl
 ·obtain ⟨r, most, sh, state, steps, k, depth, sv, bk, ch, rfl, rfl, hS, hC, hk, hl, q⟩ := h
  refine ⟨_, (pss_cons (ps_fldaug (pv 0) pe_int in_add)
   (pss_one (ps_ret (pe_ifExp (pt_cmpR op_le (pe_fld (pv 0) rfl) (pe_callB call_len_seq (by rfl) nlen PySem.boot_len (pa_cons (pe_fld (pv 0) rfl) pa_nil)) (nomark _)) (pe_ix ix_list (pe_fld (pv 0) rfl) (pe_op op_sub (pe_fld (pv 0) rfl) pe_int) (fun _ _ => rfl)) pe_int)))), ?_⟩
  dsimp only [nox_K, comp_K]
  walk_at "re"
  refine ⟨_, _, _, _, _, rfl, hS, T.cl, T.forks, rf_forks _ _ _ _ _ _ _ _ _, ?_⟩
  walk_at "re"
  refine ⟨_, _, rfl, rfl, _, _, hS, rf_len _ _ _ _ _ _ _ _ _, ?_⟩
  rw [rp_forks]
  have hS2 : (upd H r.self (selfO r most sh state steps (k + 1) depth sv bk)) r.self = some (selfO r most sh state steps (k + 1) depth sv bk) := upd_same
  have hC2 : SqL K (upd H r.self (selfO r most sh state steps (k + 1) depth sv bk)) r.ca (ch.map V.int) := seq_upd hS hC
  generalize upd H r.self (selfO r most sh state steps (k + 1) depth sv bk) = H2 at hS2 hC2 q ⊢
  walk_at "re"
  refine ⟨_, _, _, _, _, rfl, hS2, T.cl, T.forks, rf_forks _ _ _ _ _ _ _ _ _, ?_⟩
  walk_at "re"
  refine ⟨_, _, _, _, _, rfl, hS2, T.cl, T.choices, rf_choices _ _ _ _ _ _ _ _ _, ?_⟩
  walk_at "re"
  refine ⟨r.ca, _, rfl, .inl hC2, ?_⟩
  rw [List.length_map]
  walk_at "re"
  refine ite2 (fun hc => ?_) (fun hc => ?_)
  ·have hc : k + 1 ≤ (ch.length : Int) := by simpa using hc
   walk_at "re"
   refine ⟨_, _, _, _, _, rfl, hS2, T.cl, T.choices, rf_choices _ _ _ _ _ _ _ _ _, ?_⟩
   walk_at "re"
   refine ⟨_, _, _, _, _, rfl, hS2, T.cl, T.forks, rf_forks _ _ _ _ _ _ _ _ _, ?_⟩
   walk_at "re"
   have hlt : k.toNat < ch.length := by omega
   refine r_ixL (v := V.int (getB ch k)) hC2 ?_ q
   rw [show k + 1 - 1 = ((k.toNat : Nat) : Int) by omega]
   refine atI_nat ?_
   unfold getB
   rw [List.getElem?_map, List.getD_eq_getElem?_getD, List.getElem?_eq_getElem hlt]; rfl
  ·have hc : ¬ k + 1 ≤ (ch.length : Int) := by simpa using hc
   walk_at "re"
   have : getB ch k = 0 := by
    unfold getB
    rw [List.getD_eq_getElem?_getD, List.getElem?_eq_none (by omega)]; rfl
   rw [this] at q
   exact q
end
end Fs
set_option maxHeartbeats 1000000
namespace Fs
open PySem L2
section
variable {P : Program} {w : World} {K : PySem.W.Frag} {mg : Str → Option Value} {base : Heap}
noncomputable abbrev sLedBy : Stmt := inClass (top 3) 6
theorem scLedBy : FnScope ["self", "end", "beyond"] ["self", "end", "beyond"] (defScope sLedBy) := ⟨rfl, rfl, rfl, by decide +kernel, rfl, by decide +kernel, by decide +kernel⟩
theorem ok_ledby {f C CC : Addr} {fd : FuncData} (F : Fun K "led_by" "Running.led_by" sLedBy f fd) (T : RTx K C CC) (hN : HasM P w K mg base C "next_choice" 1 ["self"] (spNextC K C)) : FnOk P w K mg base CX0 2 f fd ["self", "end", "beyond"] (spLedBy K C) := by
 refine F.ok scLedBy (fun vs H Q E h => ?_) (fun cdv A outer s H vs Q E hr h => ?_)
 ·obtain ⟨r, most, sh, state, steps, k, depth, sv, bk, ch, ns, ve, len, m, rfl, _⟩ := h
  rfl
 ·obtain ⟨r, most, sh, state, steps, k, depth, sv, bk, ch, ns, ve, len, m, rfl, rfl, hS, hC, hk, hl, hD, hok, q⟩ := h
  refine ⟨_, (pss_cons (ps_if (pt_cmpR op_eq (pe_ix ix_tup (pv 1) pe_int (fun _ _ => rfl)) pe_str (nomark _)) (pss_one (ps_ret (pv 2))) pss_nil)
   (pss_cons (ps_if (pw_or (pt_cmpR op_eq (pe_ix ix_tup (pv 1) pe_int (fun _ _ => rfl)) pe_str (nomark _)) (pw_or1 (pt_cmpR op_eq (pe_mt0 hN T.cl hr (by decide) (pv 0)) pe_int (nomark _)))).pt (pss_one (ps_ret (pe_ix ix_tup (pv 1) pe_int (fun _ _ => rfl)))) pss_nil)
   (pss_one (ps_ret (pe_ix ix_tup (pv 1) pe_int (fun _ _ => rfl)))))), ?_⟩
  dsimp only [nox_K, comp_K]
  rcases hok with h | ⟨x, h, h1, h2⟩ | ⟨x, y, h, hxy, h1, h2, h3, h4⟩
  ·subst h
   obtain ⟨a, vs, rfl, hT, hDL⟩ := hD.ofTuple
   obtain ⟨v1, r1, rfl, c1, d1⟩ := hDL.ofCons
   have := d1.ofNil
   subst this
   cases c1.ofStr
   walk_at "re"
   refine r_eqS ?_
   walk_at "re"
   rw [decide_eq_true (by rfl)]
   refine iteT ?_
   walk_at "re"
   exact q H hS fun _ _ => rfl
  ·subst h
   obtain ⟨a, vs, rfl, hT, hDL⟩ := hD.ofTuple
   obtain ⟨v1, r1, rfl, c1, d1⟩ := hDL.ofCons
   obtain ⟨v2, r2, rfl, c2, d2⟩ := d1.ofCons
   have := d2.ofNil
   subst this
   cases c1.ofStr
   cases c2.ofInt
   walk_at "re"
   refine r_eqS ?_
   walk_at "re"
   rw [decide_eq_false (by decide +kernel)]
   refine iteF ?_
   walk_at "re"
   refine r_eqS ?_
   walk_at "re"
   rw [decide_eq_true (by rfl)]
   refine iteT ?_
   refine iteT ?_
   walk_at "re"
   exact q H hS fun _ _ => rfl
  ·subst h
   obtain ⟨a, vs, rfl, hT, hDL⟩ := hD.ofTuple
   obtain ⟨v1, r1, rfl, c1, d1⟩ := hDL.ofCons
   obtain ⟨v2, r2, rfl, c2, d2⟩ := d1.ofCons
   obtain ⟨v3, r3, rfl, c3, d3⟩ := d2.ofCons
   have := d3.ofNil
   subst this
   cases c1.ofStr
   cases c2.ofInt
   cases c3.ofInt
   walk_at "re"
   refine r_eqS ?_
   walk_at "re"
   rw [decide_eq_false (by decide +kernel)]
   refine iteF ?_
   walk_at "re"
   refine r_eqS ?_
   walk_at "re"
   rw [decide_eq_false (by decide +kernel)]
   refine iteF ?_
   walk_at "re"
   refine ⟨r.self, r.dx, _, rfl, hS, by rfl, ?_⟩
   walk_at "re"
   refine ⟨r, most, sh, state, steps, k, depth, sv, bk, ch, rfl, rfl, hS, hC, hk, hl, ?_⟩
   have hT2 : SqT K (upd H r.self (selfO r most sh state steps (k + 1) depth sv bk)) a [V.str "fork", .int x, .int y] := seqT_upd hS hT
   walk_at "re"
   refine r_eqI ?_
   walk_at "re"
   have hne : nextOf ch k len [x, y] = (if getB ch k = 0 then x else y, k + 1) := by
    show ((if k + 1 > ch.length ∨ getB ch k = 0 then x else y), k + 1) = _
    by_cases hg : getB ch k = 0
    ·rw [if_pos (.inr hg), if_pos hg]
    ·have : ¬ (k + 1 > (ch.length : Int) ∨ getB ch k = 0) := by
      rintro (z | z)
      ·refine hg ?_
       unfold getB
       rw [List.getD_eq_getElem?_getD, List.getElem?_eq_none (by omega)]; rfl
      ·exact hg z
     rw [if_neg this, if_neg hg]
   by_cases hg : getB ch k = 0
   ·rw [decide_eq_true hg]
    refine iteT ?_
    walk_at "re"
    rw [hne, if_pos hg] at q
    exact q _ upd_same fun b hb => upd_ne hb
   ·rw [decide_eq_false hg]
    refine iteF ?_
    walk_at "re"
    rw [hne, if_neg hg] at q
    exact q _ upd_same fun b hb => upd_ne hb
end
end Fs
set_option maxHeartbeats 1000000
namespace Fs
open PySem L2
section
variable {P : Program} {w : World} {K : PySem.W.Frag} {mg : Str → Option Value} {base : Heap}
noncomputable abbrev sCount : Stmt := inClass (top 3) 5
theorem scCount : FnScope ["self", "here", "way", "key"] ["self", "here", "way"] (defScope sCount) := ⟨rfl, rfl, rfl, by decide +kernel, rfl, by decide +kernel, by decide +kernel⟩
theorem ok_count {f C CC : Addr} {fd : FuncData} (F : Fun K "count_way" "Running.count_way" sCount f fd) (T : RTx K C CC) : FnOk P w K mg base CX0 1 f fd ["self", "here", "way"] (spCount P w K C CC) := by
 refine F.ok scCount (fun vs H Q E h => ?_) (fun cdv A outer s H vs Q E hr h => ?_)
 ·obtain ⟨r, most, sh, state, steps, forks, depth, sv, bk, hp, hdx, hb, hg, ha, wy, n, w0, w1, ks, rfl, _⟩ := h
  rfl
 ·obtain ⟨r, most, sh, state, steps, forks, depth, sv, bk, hp, hdx, hb, hg, ha, wy, n, w0, w1, ks, rfl, rfl, rfl, hS, hH, hW, hG, hN, hl, q⟩ := h
  have hu : (A.deeper (PyProof.Rows.envOfC "Running.count_way" (defScope sCount) s.heap.objs.size f cdv)).units + 20 < cLine := by have := hr.un; omega
  refine ⟨_, (pss_cons (ps_set (i := 3) scCount.nd rfl (Or.inl rfl) (pe_tup (pa_cons (pe_fld (pv 1) rfl) (pa_cons (pv 2) pa_nil))))
   (pss_one (ps_dputN hu (pe_fld (pv 0) rfl) (pv 3) (pe_op op_add (pe_dgetN hu (pe_fld (pv 0) rfl) (pv 3) pe_int ⟨rfl, rfl, rfl, rfl⟩) pe_int) rfl))), ?_⟩
  dsimp only [nox_K, comp_K]
  walk_at "re"
  refine ⟨_, _, _, _, _, rfl, hH, T.ccl, T.number, cf_number _ _ _ _, ?_⟩
  walk_at "re"
  refine ⟨len2 (by show 2 ≤ 1000; decide), fun p hp' => ?_⟩
  have X1 : Ext [] H (upd H p (.tup [.int n, .ref wy])) := .laid hp'
  have hp1 : (upd H p (.tup [.int n, .ref wy])) p = some (.tup [.int n, .ref wy]) := upd_same
  generalize upd H p (.tup [.int n, .ref wy]) = H1 at X1 hp1 ⊢
  have hS1 := X1 _ _ (by simp) hS
  have hG1 := X1 _ _ (by simp) hG
  have hW1 := X1 _ _ (by simp) hW
  have hN1 : NestAll H1 ks := fun x hx => (hN x hx).mono X1 (by simp)
  have hK1 : NestAt H1 (n, w0, w1) p := ⟨wy, hp1, hW1⟩
  walk_at "re"
  refine ⟨_, _, _, _, _, rfl, hS1, T.cl, T.gone, rf_gone _ _ _ _ _ _ _ _ _, ?_⟩
  refine ⟨r.ga, ks, rfl, hG1, ?_⟩
  walk_at "re"
  refine ⟨ks, (n, w0, w1), p, rfl, hG1, hN1, hK1, ?_⟩
  have hv : (lookN ks (n, w0, w1)).elim (V.int 0) V.int = V.int ((lookN ks (n, w0, w1)).getD 0) := by cases lookN ks (n, w0, w1) <;> rfl
  rw [hv]
  walk_at "re"
  refine ⟨_, _, _, _, _, rfl, hS1, T.cl, T.gone, rf_gone _ _ _ _ _ _ _ _ _, ?_⟩
  walk_at "re"
  refine ⟨r.ga, ks, (n, w0, w1), p, _, rfl, rfl, rfl, hG1, hN1, hK1, by rw [sizeLine_eq]; omega, ?_⟩
  have np : p ≠ r.ga := (ne_of_none hG hp').symm
  have nw : wy ≠ r.ga := fun z => by rw [z, hG] at hW; cases hW
  exact q p _ hp' ((X1.mono (by simp)).trans (.put (by simp))) upd_same ⟨wy, by rw [upd_ne np]; exact hp1, by rw [upd_ne nw]; exact hW1⟩
end
end Fs
set_option maxHeartbeats 1000000
namespace Fs
open PySem L2
section
variable {P : Program} {w : World} {K : PySem.W.Frag} {mg : Str → Option Value} {base : Heap}
noncomputable abbrev sLay : Stmt := inClass (top 3) 8
theorem scLay : FnScope ["self", "here", "deed", "word", "box"] ["self", "here", "deed"] (defScope sLay) := ⟨rfl, rfl, rfl, by decide +kernel, rfl, by decide +kernel, by decide +kernel⟩
theorem ok_lay {f C CC : Addr} {fd : FuncData} (F : Fun K "lay" "Running.lay" sLay f fd) (T : RTx K C CC) : FnOk P w K mg base CX0 1 f fd ["self", "here", "deed"] (spLay P w K C CC) := by
 refine F.ok scLay (fun vs H Q E h => ?_) (fun cdv A outer s H vs Q E hr h => ?_)
 ·obtain ⟨r, g, G0, m, f, rest, hp, hb, hg, ha, dv, d, rfl, _⟩ := h
  rfl
 ·obtain ⟨r, g, G0, m, fr, rest, hp, hb, hg, ha, dv, d, rfl, pre, hD, hAt, hsb, q1, q2⟩ := h
  obtain ⟨gv, ra, ms, R, c, est, rfl, rfl⟩ := pre
  have hu := hu_of hr
  have hmean := hAt.plain gv hsb
  have hok := hAt.ok gv
  have hst := mstep_deed est hAt
  have hheld := ms.held
  have hfr := ms.top est
  have hal := as_len hfr.as
  obtain ⟨hdx, hob⟩ := c.ob
  have hbx := c.bx
  have hmine : mine g m fr = m.held := by unfold mine; rw [hmean, if_neg Bool.false_ne_true]
  rw [hmine] at hbx
  have nself := c.nself R
  have nha := c.nha
  have nas : ha ≠ r.self ∧ ha ≠ r.ta ∧ ha ≠ r.fa ∧ ha ≠ r.ba ∧ ha ≠ r.ga := by
   obtain ⟨fl, R3, _⟩ := R.flt
   obtain ⟨ks, R4, _⟩ := R.gone
   have ea := c.as
   refine ⟨fun z => ?_, fun z => ?_, fun z => ?_, fun z => ?_, fun z => ?_⟩
   ·rw [z, R.ob] at ea; cases ea
   ·rw [z, R.told] at ea; cases ea
   ·rw [z, R3] at ea; cases ea
   ·rw [z, R.held] at ea; cases ea
   ·rw [z, R4] at ea; cases ea
  refine ⟨_, (pss_cons (ps_asg (pv 2) (pg_tup (n := 2) rfl (pgs_cons (pg_name (i := 3) scLay.nd rfl (Or.inl rfl)) (pgs_cons (pg_name (i := 4) scLay.nd rfl (Or.inl rfl)) pgs_nil))))
   (pss_cons (ps_if (pt_cmpR op_eq (pv 3) pe_str (nomark _)) (pss_cons (ps_dput hu (pe_fld (pv 1) rfl) (pv 4) (pe_ix ix_list (pe_fld (pv 1) rfl) (pv 4) (fun _ _ => rfl)) rfl)
   (pss_cons (ps_fldaug (pv 0) pe_int in_add)
   (pss_one (ps_ret pe_non)))) pss_nil)
   (pss_cons (ps_if (pt_cmp (pc_dnotin hu (pv 4) (pe_fld (pv 1) rfl))) (pss_one (ps_ret pe_str)) pss_nil)
   (pss_cons (ps_asg (pe_dget hu (pe_fld (pv 1) rfl) (pv 4) (fun _ _ => rfl)) (pg_sub (pe_fld (pv 1) rfl) (pv 4) set_list))
   (pss_cons (ps_fldaug (pv 0) pe_int in_add)
   (pss_one (ps_ret pe_non))))))), ?_⟩
  dsimp only [nox_K, comp_K]
  walk_at "re"
  rcases hsb with ⟨b, rfl⟩ | ⟨b, rfl⟩
  ·obtain ⟨b0, b1⟩ : 0 ≤ b ∧ b < 8 := hok
   obtain ⟨da, dvs, rfl, hT, hDL⟩ := hD.ofTuple
   obtain ⟨v1, r1, rfl, c1, d1⟩ := hDL.ofCons
   obtain ⟨v2, r2, rfl, c2, d2⟩ := d1.ofCons
   have := d2.ofNil
   subst this
   cases c1.ofStr
   cases c2.ofInt
   refine r_gtup hT rfl ?_
   walk_at "re"
   refine r_eqS ?_
   walk_at "re"
   rw [decide_eq_true (by rfl)]
   refine iteT ?_
   walk_at "re"
   refine ⟨_, _, _, _, _, rfl, hob, T.ccl, T.cboxes, cf_boxes _ _ _ _, ?_⟩
   walk_at "re"
   refine r_ixL (SqL.of hbx) (getB_at b0 (by omega)) ?_
   walk_at "re"
   refine ⟨_, _, _, _, _, rfl, hob, T.ccl, T.aside, cf_aside _ _ _ _, ?_⟩
   walk_at "re"
   refine ⟨ha, _, rfl, DPut.k (k := Sum.inl b) c.as (small1000 (by unfold asD; rw [List.length_map]; omega)), ?_⟩
   rw [asD_put]
   have e1 : Ext [ha] H (upd H ha (.dK (asD (putA fr.as b (getB m.held b))))) := .put (by simp)
   have R1 := R.other e1 (fun xs h => by rw [c.as] at h; cases h) nas c.na
   have c1 := c.setAs (putA fr.as b (getB m.held b))
   generalize upd H ha (.dK (asD (putA fr.as b (getB m.held b)))) = H1 at e1 R1 c1 ⊢
   walk_at "re"
   refine ⟨_, _, _, _, _, rfl, R1.ob, T.cl, T.saves, rf_saves _ _ _ _ _ _ _ _ _, ?_⟩
   walk_at "re"
   refine ⟨_, _, rfl, rfl, _, _, R1.ob, rf_len _ _ _ _ _ _ _ _ _, ?_⟩
   rw [rp_saves]
   have R2 := R1.setSelf ra m.steps m.taken m.st.length (m.sv + 1) m.bk
   have e2 : Ext [r.self] H1 (upd H1 r.self (selfO r g.most (!g.mean) "ended" m.steps m.taken m.st.length (m.sv + 1) m.bk)) := .put (by simp)
   have c2 := c1.after R1 R2 (e2.mono fun z hz => by rw [List.mem_singleton.mp hz]; exact mut_self)
   generalize upd H1 r.self (selfO r g.most (!g.mean) "ended" m.steps m.taken m.st.length (m.sv + 1) m.bk) = H2 at e2 R2 c2 ⊢
   walk_at "re"
   refine q1 { m with sv := m.sv + 1, st := { fr with pos := fr.pos + 1, as := putA fr.as b (getB m.held b) } :: rest } { fr with pos := fr.pos + 1, as := putA fr.as b (getB m.held b) } H2 (.one hst) rfl rfl rfl rfl rfl ?_ (c2.eq rfl rfl rfl rfl) ((e1.mono (by simp)).trans (e2.mono fun z hz => by rw [List.mem_singleton.mp hz]; simp [mutR]))
   have : ((({ fr with pos := fr.pos + 1, as := putA fr.as b (getB m.held b) } : Fr) :: rest).length : Int) = m.st.length := by rw [est]; rfl
   show RunAt P w g r G0 H2 _ m.steps m.taken ((({ fr with pos := fr.pos + 1, as := putA fr.as b (getB m.held b) } : Fr) :: rest).length : Int)
   rw [this]
   exact R2.same rfl rfl rfl rfl rfl rfl (by show m.steps - (m.st.length : Int) ≤ m.steps - _; rw [this]; exact Int.le_refl _)
  ·obtain ⟨b0, b1⟩ : 0 ≤ b ∧ b < 8 := hok
   obtain ⟨da, dvs, rfl, hT, hDL⟩ := hD.ofTuple
   obtain ⟨v1, r1, rfl, c1, d1⟩ := hDL.ofCons
   obtain ⟨v2, r2, rfl, c2, d2⟩ := d1.ofCons
   have := d2.ofNil
   subst this
   cases c1.ofStr
   cases c2.ofInt
   refine r_gtup hT rfl ?_
   walk_at "re"
   refine r_eqS ?_
   walk_at "re"
   rw [decide_eq_false (by decide +kernel)]
   refine iteF ?_
   walk_at "re"
   refine ⟨_, _, _, _, _, rfl, hob, T.ccl, T.aside, cf_aside _ _ _ _, ?_⟩
   refine ⟨ha, _, rfl, DGet.k (k := Sum.inl b) c.as, ?_⟩
   rw [asD_val]
   walk_at "re"
   cases hlk : fr.as.lookup b with
   | none =>
    refine iteT ?_
    walk_at "re"
    refine q2 { m with st := { fr with pos := fr.pos + 1 } :: rest } 3 m H m.steps m.taken m.st.length .refl ?_ (by decide) ?_
    ·rw [hst]
     simp only [mdeed]
     rw [hlk]
    ·exact R.same rfl rfl rfl rfl rfl rfl (by show m.steps - (m.st.length : Int) ≤ m.steps - (({ fr with pos := fr.pos + 1 } :: rest : List Fr).length : Int); rw [est]; simp)
   | some v =>
    refine iteF ?_
    walk_at "re"
    refine ⟨_, _, _, _, _, rfl, hob, T.ccl, T.aside, cf_aside _ _ _ _, ?_⟩
    walk_at "re"
    refine ⟨ha, .int v, rfl, by have := DGet.k (k := Sum.inl b) c.as; rw [asD_val, hlk] at this; exact this, ?_⟩
    walk_at "re"
    refine ⟨_, _, _, _, _, rfl, hob, T.ccl, T.cboxes, cf_boxes _ _ _ _, ?_⟩
    walk_at "re"
    obtain ⟨j, rfl⟩ := Int.eq_ofNat_of_zero_le b0
    refine r_setL (n := j) hbx (by rw [List.length_map]; exact ixN_nat (by omega)) ?_
    rw [putB_at]
    have hbb := c.sh hmean
    have e1 : Ext [hb] H (upd H hb (.lst ((putB m.held (j : Int) v).map V.int))) := .put (by simp)
    have R1 : RunAt P w g r G0 (upd H hb (.lst ((putB m.held (j : Int) v).map V.int))) { m with held := putB m.held (j : Int) v } m.steps m.taken m.st.length := by rw [hbb]; exact R.setHeld ra _
    have c1 := c.setBx (m' := { m with held := putB m.held (j : Int) v }) (f' := { fr with pos := fr.pos + 1 }) (putB m.held (j : Int) v) (by unfold mine; rw [hmean, if_neg Bool.false_ne_true]) rfl (fun _ => rfl) rfl
    generalize upd H hb (.lst ((putB m.held (j : Int) v).map V.int)) = H1 at e1 R1 c1 ⊢
    walk_at "re"
    refine ⟨_, _, _, _, _, rfl, R1.ob, T.cl, T.backs, rf_backs _ _ _ _ _ _ _ _ _, ?_⟩
    walk_at "re"
    refine ⟨_, _, rfl, rfl, _, _, R1.ob, rf_len _ _ _ _ _ _ _ _ _, ?_⟩
    rw [rp_backs]
    have R2 := R1.setSelf ra m.steps m.taken m.st.length m.sv (m.bk + 1)
    have e2 : Ext [r.self] H1 (upd H1 r.self (selfO r g.most (!g.mean) "ended" m.steps m.taken m.st.length m.sv (m.bk + 1))) := .put (by simp)
    have c2 := c1.after R1 R2 (e2.mono fun z hz => by rw [List.mem_singleton.mp hz]; exact mut_self)
    have hR2 : ∀ sv, RunAt P w g r G0 (upd H1 r.self (selfO r g.most (!g.mean) "ended" m.steps m.taken m.st.length sv (m.bk + 1))) { m with held := putB m.held (j : Int) v, sv := sv, bk := m.bk + 1 } m.steps m.taken m.st.length := fun sv => R1.setSelf ra m.steps m.taken m.st.length sv (m.bk + 1)
    walk_at "re"
    refine q1 { m with held := putB m.held (j : Int) v, bk := m.bk + 1, st := { fr with pos := fr.pos + 1 } :: rest } { fr with pos := fr.pos + 1 } _ (.one ?_) rfl rfl rfl rfl rfl ?_ (c2.eq rfl rfl rfl rfl) ((e1.mono (by simp)).trans (e2.mono fun z hz => by rw [List.mem_singleton.mp hz]; simp [mutR]))
    ·rw [hst]
     simp only [mdeed]
     rw [hlk]
    ·have : ((({ fr with pos := fr.pos + 1 } : Fr) :: rest).length : Int) = m.st.length := by rw [est]; rfl
     show RunAt P w g r G0 _ _ m.steps m.taken ((({ fr with pos := fr.pos + 1 } : Fr) :: rest).length : Int)
     rw [this]
     exact (hR2 m.sv).same rfl rfl rfl rfl rfl rfl (by show m.steps - (m.st.length : Int) ≤ m.steps - _; rw [this]; exact Int.le_refl _)
end
end Fs
set_option maxHeartbeats 1000000
namespace Fs
open PySem L2
section
variable {P : Program} {w : World} {K : PySem.W.Frag} {mg : Str → Option Value} {base : Heap}
noncomputable abbrev sAct : Stmt := inClass (top 3) 9
theorem scAct : FnScope ["self", "here", "deed", "stop", "word"] ["self", "here", "deed"] (defScope sAct) := ⟨rfl, rfl, rfl, by decide +kernel, rfl, by decide +kernel, by decide +kernel⟩
theorem ok_act {f C CC : Addr} {fd : FuncData} {N : Nat} (F : Fun K "act" "Running.act" sAct f fd) (T : RTx K C CC) (hS : HasM P w K mg base C "step" 1 ["self"] (spStep C)) (hC : HasM P w K mg base C "call" (4 * N + 4) ["self", "number", "boxes"] (spCallM P w K C CC N)) :
  FnOk P w K mg base CX0 (4 * N + 5) f fd ["self", "here", "deed"] (spAct P w K C CC N) := by
 refine F.ok scAct (fun vs H Q E h => ?_) (fun cdv A outer s H vs Q E hr h => ?_)
 ·obtain ⟨r, g, G0, m, f, rest, hp, hb, hg, ha, dv, d, rfl, _⟩ := h
  rfl
 ·obtain ⟨r, g, G0, m, fr, rest, hp, hb, hg, ha, dv, d, rfl, pre, hD, hAt, hns, hnb, hN, q1, q2⟩ := h
  obtain ⟨gv, ra, ms, R, c, est, rfl, rfl⟩ := pre
  have hu := hu_of hr
  have hok := hAt.ok gv
  have hst := mstep_deed est hAt
  have hfr := ms.top est
  have hml := mine_len ms hfr
  obtain ⟨hdx, hob⟩ := c.ob
  have nself := c.nself R
  have hsteps := ms.steps
  have hlen : ((({ fr with pos := fr.pos + 1 } : Fr) :: rest).length : Int) = m.st.length := by rw [est]; rfl
  have gmut : ∀ x ∈ [r.self], x ∈ mutR g r := fun z hz => by rw [List.mem_singleton.mp hz]; exact mut_self
  refine ⟨_, (pss_cons (ps_set (i := 3) scAct.nd rfl (Or.inl rfl) (pe_mt0 hS T.cl hr (by omega) (pv 0)))
   (pss_cons (ps_if (pt_cmpR op_notN (pv 3) pe_non (nomark _)) (pss_one (ps_ret (pv 3))) pss_nil)
   (pss_cons (ps_set (i := 4) scAct.nd rfl (Or.inl rfl) (pe_ix ix_tup (pv 2) pe_int (fun _ _ => rfl)))
   (pss_cons (ps_if (pt_cmpR op_eq (pv 4) pe_str (nomark _)) (pss_one (ps_ret (pe_mt hC T.cl hr (by omega) (pv 0) (pa_cons (pe_ix ix_tup (pv 2) pe_int (fun _ _ => rfl)) (pa_cons (pe_fld (pv 1) rfl) pa_nil))))) pss_nil)
   (pss_cons (ps_if (pt_cmpR op_eq (pv 4) pe_str (nomark _)) (pss_one (ps_asg (pe_ix ix_tup (pv 2) pe_int (fun _ _ => rfl)) (pg_sub (pe_fld (pv 1) rfl) (pe_ix ix_tup (pv 2) pe_int (fun _ _ => rfl)) set_list))) (pss_one (ps_if (pt_cmpR op_eq (pv 4) pe_str (nomark _)) (pss_one (ps_augS (pe_fld (pv 1) rfl) (pe_ix ix_tup (pv 2) pe_int (fun _ _ => rfl)) get_list (pe_ix ix_list (pe_fld (pv 1) rfl) (pe_ix ix_tup (pv 2) pe_int (fun _ _ => rfl)) (fun _ _ => rfl)) ip_add set_list)) (pss_one (ps_expr (pe_bm PySem.F.plainAttrs_list PySem.F.slot_list_append PySem.F.type_list_append mt_append (pe_fld (pv 0) rfl) (pa_cons (pe_ix ix_list (pe_fld (pv 1) rfl) (pe_ix ix_tup (pv 2) pe_int (fun _ _ => rfl)) (fun _ _ => rfl)) pa_nil)))))))
   (pss_one (ps_ret pe_non))))))), ?_⟩
  dsimp only [nox_K, comp_K]
  walk_at "re"
  refine ⟨r.self, r.dx, _, rfl, R.ob, by rfl, ?_⟩
  walk_at "re"
  refine ⟨r, g.most, !g.mean, "ended", m.steps, m.taken, m.st.length, m.sv, m.bk, rfl, rfl, R.ob, fun hgo => ?_, fun hgo => ?_⟩
  ·have hmost : m.steps = g.most := by omega
   walk_at "re"
   refine ⟨rfl, ?_⟩
   rw [decide_eq_false (by intro z; cases z)]
   walk_at "re"
   refine iteT ?_
   walk_at "re"
   refine q2 { m with st := { fr with pos := fr.pos + 1 } :: rest } 1 m H m.steps m.taken m.st.length .refl ?_ (by decide) (R.same rfl rfl rfl rfl rfl rfl (by show m.steps - (m.st.length : Int) ≤ m.steps - _; rw [hlen]; exact Int.le_refl _))
   rw [hst]
   cases d with
   | save b => exact absurd rfl (hns b)
   | back b => exact absurd rfl (hnb b)
   | call x => simp only [mdeed]; rw [if_pos hmost]
   | tell b => simp only [mdeed]; rw [if_pos hmost]
   | set b v => simp only [mdeed]; rw [if_pos hmost]
   | add b o => simp only [mdeed]; rw [if_pos hmost]
  ·have hmost : ¬ m.steps = g.most := by omega
   have R1 := R.setSelf ra (m.steps + 1) m.taken m.st.length m.sv m.bk
   have e1 : Ext [r.self] H (upd H r.self (selfO r g.most (!g.mean) "ended" (m.steps + 1) m.taken m.st.length m.sv m.bk)) := .put (by simp)
   have c1 := c.after R R1 (e1.mono gmut)
   have hD1 : Den K (upd H r.self (selfO r g.most (!g.mean) "ended" (m.steps + 1) m.taken m.st.length m.sv m.bk)) (deedD d) dv := by
    refine Den.mono (fun b o hb => ?_) (Den.offIns R.ob hD)
    by_cases z : b ∈ [r.self]
    ·rw [wo_in z] at hb; cases hb
    ·rw [wo_out z] at hb; exact e1 _ _ z hb
   generalize upd H r.self (selfO r g.most (!g.mean) "ended" (m.steps + 1) m.taken m.st.length m.sv m.bk) = H1 at R1 e1 c1 hD1 ⊢
   have E1 : Ext (hb :: ha :: mutR g r) H H1 := e1.mono fun z hz => by rw [List.mem_singleton.mp hz]; simp [mutR]
   obtain ⟨hdx1, hob1⟩ := c1.ob
   have hbx1 := c1.bx
   walk_at "re"
   refine ⟨rfl, ?_⟩
   rw [decide_eq_true rfl]
   walk_at "re"
   refine iteF ?_
   walk_at "re"
   cases d with
   | save b => exact absurd rfl (hns b)
   | back b => exact absurd rfl (hnb b)
   | call x =>
    obtain ⟨x0, x1⟩ : 0 ≤ x ∧ x < (g.ws.length : Int) := hok
    obtain ⟨da, dvs, rfl, hT, hDL⟩ := hD1.ofTuple
    obtain ⟨v1, r1, rfl, k1, d1⟩ := hDL.ofCons
    obtain ⟨v2, r2, rfl, k2, d2⟩ := d1.ofCons
    have := d2.ofNil
    subst this
    cases k1.ofStr
    cases k2.ofInt
    walk_at "re"
    refine r_eqS ?_
    walk_at "re"
    rw [decide_eq_true (by rfl)]
    refine iteT ?_
    walk_at "re"
    refine ⟨r.self, r.dx, _, rfl, R1.ob, by rfl, ?_⟩
    walk_at "re"
    refine ⟨_, _, _, _, _, rfl, hob1, T.ccl, T.cboxes, cf_boxes _ _ _ _, ?_⟩
    walk_at "re"
    have hl2 : ((({ fr with pos := fr.pos + 1 } : Fr) :: rest).length) = m.st.length := by rw [est]; rfl
    have R2 : RunAt P w g r G0 H1 { m with steps := m.steps + 1, st := { fr with pos := fr.pos + 1 } :: rest } (m.steps + 1) m.taken ((({ fr with pos := fr.pos + 1 } : Fr) :: rest).length : Int) := by
     rw [hlen]
     exact R1.same rfl rfl rfl rfl rfl rfl (by show m.steps - (m.st.length : Int) ≤ m.steps + 1 - _; rw [hlen]; omega)
    have R2p : RunAt P w g r G0 H1 (pushed { m with steps := m.steps + 1, st := { fr with pos := fr.pos + 1 } :: rest } x (mine g m fr)) (m.steps + 1) m.taken ((({ fr with pos := fr.pos + 1 } : Fr) :: rest).length : Int) := by
     rw [hlen]
     refine R1.same rfl rfl rfl rfl rfl rfl ?_
     show m.steps - (m.st.length : Int) ≤ m.steps + 1 - (((⟨x.toNat, -1, 0, -1, mine g m fr, []⟩ : Fr) :: ({ fr with pos := fr.pos + 1 } : Fr) :: rest).length : Int)
     rw [est]; simp only [List.length_cons]; push_cast; omega
    refine ⟨r, g, G0, { m with steps := m.steps + 1, st := { fr with pos := fr.pos + 1 } :: rest }, x, hb, mine g m fr, rfl, rfl, rfl, gv, ra, R2p, by rw [hl2]; exact ms.deep, hbx1, hml, fun hm => ⟨c.sh hm, by unfold mine; rw [hm, if_neg Bool.false_ne_true]⟩, x0, by rw [hl2]; exact hN, fun h20 => ?_, fun h20 => ?_⟩
    ·rw [hl2] at h20
     refine q2 { m with st := { fr with pos := fr.pos + 1 } :: rest } 2 m H1 (m.steps + 1) m.taken m.st.length .refl ?_ (by decide) (R1.same rfl rfl rfl rfl rfl rfl (by show m.steps - (m.st.length : Int) ≤ m.steps - _; rw [hlen]; exact Int.le_refl _))
     rw [hst]
     simp only [mdeed]
     rw [if_neg hmost, if_pos (by rw [est] at h20; simpa using h20)]
    ·rw [hl2] at h20
     have hst2 : mstep g m = some (pushed { m with steps := m.steps + 1, st := { fr with pos := fr.pos + 1 } :: rest } x (mine g m fr), 0) := by
      rw [hst]
      simp only [mdeed]
      rw [if_neg hmost, if_neg (by rw [est] at h20; simp at h20; omega)]
      rfl
     refine ⟨mstep_ok gv ms hst2, fun m' H' hgo hms RR ee => ?_, fun m' cc mid H' s' t' d' hgo hstp hcc RR => q2 m' cc mid H' s' t' d' (.step hst2 hgo) hstp hcc RR⟩
     have c2 : CallAt g r G0 H1 { m with steps := m.steps + 1, st := { fr with pos := fr.pos + 1 } :: rest } { fr with pos := fr.pos + 1 } hp hb hg ha := c1.eq rfl rfl rfl rfl
     have hms : m'.st = { fr with pos := fr.pos + 1 } :: rest := hms
     refine q1 m' { fr with pos := fr.pos + 1 } H' (.step hst2 hgo) hms rfl rfl rfl rfl ?_ (c2.after R2 RR ee) (E1.trans (ee.mono fun z hz => by simp [hz]))
     rw [hms]; exact RR
   | tell b =>
    obtain ⟨b0, b1⟩ : 0 ≤ b ∧ b < 8 := hok
    obtain ⟨da, dvs, rfl, hT, hDL⟩ := hD1.ofTuple
    obtain ⟨v1, r1, rfl, k1, d1⟩ := hDL.ofCons
    obtain ⟨v2, r2, rfl, k2, d2⟩ := d1.ofCons
    have := d2.ofNil
    subst this
    cases k1.ofStr
    cases k2.ofInt
    walk_at "re"
    refine r_eqS ?_
    walk_at "re"
    rw [decide_eq_false (by decide +kernel)]
    refine iteF ?_
    walk_at "re"
    refine r_eqS ?_
    walk_at "re"
    rw [decide_eq_false (by decide +kernel)]
    refine iteF ?_
    walk_at "re"
    refine r_eqS ?_
    walk_at "re"
    rw [decide_eq_false (by decide +kernel)]
    refine iteF ?_
    walk_at "re"
    refine ⟨_, _, _, _, _, rfl, R1.ob, T.cl, T.told, rf_told _ _ _ _ _ _ _ _ _, ?_⟩
    refine r_tyL R1.told ?_
    walk_at "re"
    refine ⟨_, _, _, _, _, rfl, hob1, T.ccl, T.cboxes, cf_boxes _ _ _ _, ?_⟩
    walk_at "re"
    have hbx2 : H1 hb = some (.lst ((mine g m fr).map V.int)) := hbx1
    refine r_ixL (SqL.of hbx2) (getB_at b0 (by omega)) ?_
    walk_at "re"
    have htl := ms.told
    have hmst := gv.most
    refine r_app R1.told (by rw [List.length_map, sizeLine_eq]; show m.told.length < _; omega) ?_
    have e2 : Ext [r.ta] H1 (upd H1 r.ta (.lst (m.told.map V.int ++ [.int (getB (mine g m fr) b)]))) := .put (by simp)
    have R2 : RunAt P w g r G0 (upd H1 r.ta (.lst (m.told.map V.int ++ [.int (getB (mine g m fr) b)]))) { m with told := m.told ++ [getB (mine g m fr) b] } (m.steps + 1) m.taken m.st.length := R1.setTold ra _
    have c2 := c1.after R1 R2 (e2.mono fun z hz => by rw [List.mem_singleton.mp hz]; exact mut_ta)
    walk_at "re"
    have hst2 : mstep g m = some ({ m with steps := m.steps + 1, told := m.told ++ [getB (mine g m fr) b], st := { fr with pos := fr.pos + 1 } :: rest }, 0) := by
     rw [hst]
     simp only [mdeed]
     rw [if_neg hmost]
     rfl
    refine q1 _ { fr with pos := fr.pos + 1 } _ (.one hst2) rfl rfl rfl rfl rfl ?_ (c2.eq rfl rfl rfl rfl) (E1.trans (e2.mono fun z hz => by rw [List.mem_singleton.mp hz]; simp [mutR]))
    show RunAt P w g r G0 _ _ (m.steps + 1) m.taken ((({ fr with pos := fr.pos + 1 } : Fr) :: rest).length : Int)
    rw [hlen]
    exact R2.same rfl rfl rfl rfl rfl rfl (by show m.steps - (m.st.length : Int) ≤ m.steps + 1 - ((_ :: rest).length : Int); rw [est]; simp; omega)
   | set b v =>
    obtain ⟨b0, b1, _⟩ : 0 ≤ b ∧ b < 8 ∧ _ := hok
    obtain ⟨da, dvs, rfl, hT, hDL⟩ := hD1.ofTuple
    obtain ⟨v1, r1, rfl, k1, d1⟩ := hDL.ofCons
    obtain ⟨v2, r2, rfl, k2, d2⟩ := d1.ofCons
    obtain ⟨v3, r3, rfl, k3, d3⟩ := d2.ofCons
    have := d3.ofNil
    subst this
    cases k1.ofStr
    cases k2.ofInt
    cases k3.ofInt
    have hbx2 : H1 hb = some (.lst ((mine g m fr).map V.int)) := hbx1
    obtain ⟨j, rfl⟩ := Int.eq_ofNat_of_zero_le b0
    have hjl : j < (mine g m fr).length := by omega
    have fin : ∀ (y : Int), mdeed g m { fr with pos := fr.pos + 1 } rest (.set (j : Int) v) = (setMine g { m with steps := m.steps + 1 } { fr with pos := fr.pos + 1 } rest (putB (mine g m fr) (j : Int) y), 0) → Q .non (upd H1 hb (.lst ((putB (mine g m fr) (j : Int) y).map V.int))) := by
     intro y hy
     have e2 : Ext [hb] H1 (upd H1 hb (.lst ((putB (mine g m fr) (j : Int) y).map V.int))) := .put (by simp)
     have hst2 : mstep g m = some (setMine g { m with steps := m.steps + 1 } { fr with pos := fr.pos + 1 } rest (putB (mine g m fr) (j : Int) y), 0) := by rw [hst, hy]
     unfold setMine at hst2
     cases hm : g.mean with
     | true =>
      rw [hm, if_pos rfl] at hst2
      have hbself : hb ≠ r.self := fun z => by rw [z, R1.ob] at hbx2; cases hbx2
      have hbga : hb ≠ r.ga := fun z => by obtain ⟨ks, R4, _⟩ := R1.gone; rw [z, R4] at hbx2; cases hbx2
      have R2 := R1.other e2 (fun xs h => by rw [hbx2] at h; cases h) ⟨hbself, c.nt, c.nf, c.ow hm, hbga⟩ c.nb
      have c2 := c1.setBx (m' := m) (f' := { fr with pos := fr.pos + 1, bx := putB (mine g m fr) (j : Int) y }) (putB (mine g m fr) (j : Int) y) (by unfold mine; rw [hm, if_pos rfl, if_pos rfl]) rfl (fun z => by rw [hm] at z; cases z) rfl
      refine q1 _ { fr with pos := fr.pos + 1, bx := putB (mine g m fr) (j : Int) y } _ (.one hst2) rfl rfl rfl rfl rfl ?_ (c2.eq rfl rfl rfl rfl) (E1.trans (e2.mono (by simp)))
      show RunAt P w g r G0 _ _ (m.steps + 1) m.taken ((({ fr with pos := fr.pos + 1, bx := putB (mine g m fr) (j : Int) y } : Fr) :: rest).length : Int)
      rw [show ((({ fr with pos := fr.pos + 1, bx := putB (mine g m fr) (j : Int) y } : Fr) :: rest).length : Int) = m.st.length by rw [est]; rfl]
      exact R2.same rfl rfl rfl rfl rfl rfl (by show m.steps - (m.st.length : Int) ≤ m.steps + 1 - ((_ :: rest).length : Int); rw [est]; simp; omega)
     | false =>
      rw [hm, if_neg Bool.false_ne_true] at hst2
      have hbb := c.sh hm
      have R2 : RunAt P w g r G0 (upd H1 hb (.lst ((putB (mine g m fr) (j : Int) y).map V.int))) { m with held := putB (mine g m fr) (j : Int) y } (m.steps + 1) m.taken m.st.length := by rw [hbb]; exact R1.setHeld ra _
      have c2 := c1.setBx (m' := { m with held := putB (mine g m fr) (j : Int) y }) (f' := { fr with pos := fr.pos + 1 }) (putB (mine g m fr) (j : Int) y) (by unfold mine; rw [hm, if_neg Bool.false_ne_true, if_neg Bool.false_ne_true]) rfl (fun _ => rfl) rfl
      refine q1 _ { fr with pos := fr.pos + 1 } _ (.one hst2) rfl rfl rfl rfl rfl ?_ (c2.eq rfl rfl rfl rfl) (E1.trans (e2.mono (by simp)))
      show RunAt P w g r G0 _ _ (m.steps + 1) m.taken ((({ fr with pos := fr.pos + 1 } : Fr) :: rest).length : Int)
      rw [hlen]
      exact R2.same rfl rfl rfl rfl rfl rfl (by show m.steps - (m.st.length : Int) ≤ m.steps + 1 - ((_ :: rest).length : Int); rw [est]; simp; omega)
    walk_at "re"
    refine r_eqS ?_
    walk_at "re"
    rw [decide_eq_false (by decide +kernel)]
    refine iteF ?_
    walk_at "re"
    refine r_eqS ?_
    walk_at "re"
    rw [decide_eq_true (by rfl)]
    refine iteT ?_
    walk_at "re"
    refine ⟨_, _, _, _, _, rfl, hob1, T.ccl, T.cboxes, cf_boxes _ _ _ _, ?_⟩
    walk_at "re"
    refine r_setL (n := j) hbx2 (by rw [List.length_map]; exact ixN_nat hjl) ?_
    rw [putB_at]
    walk_at "re"
    refine fin v ?_
    simp only [mdeed]
    rw [if_neg hmost]
    rfl
   | add b o =>
    obtain ⟨b0, b1, o0, o1⟩ : 0 ≤ b ∧ b < 8 ∧ 0 ≤ o ∧ o < 8 := hok
    obtain ⟨da, dvs, rfl, hT, hDL⟩ := hD1.ofTuple
    obtain ⟨v1, r1, rfl, k1, d1⟩ := hDL.ofCons
    obtain ⟨v2, r2, rfl, k2, d2⟩ := d1.ofCons
    obtain ⟨v3, r3, rfl, k3, d3⟩ := d2.ofCons
    have := d3.ofNil
    subst this
    cases k1.ofStr
    cases k2.ofInt
    cases k3.ofInt
    have hbx2 : H1 hb = some (.lst ((mine g m fr).map V.int)) := hbx1
    obtain ⟨j, rfl⟩ := Int.eq_ofNat_of_zero_le b0
    have hjl : j < (mine g m fr).length := by omega
    have fin : ∀ (y : Int), mdeed g m { fr with pos := fr.pos + 1 } rest (.add (j : Int) o) = (setMine g { m with steps := m.steps + 1 } { fr with pos := fr.pos + 1 } rest (putB (mine g m fr) (j : Int) y), 0) → Q .non (upd H1 hb (.lst ((putB (mine g m fr) (j : Int) y).map V.int))) := by
     intro y hy
     have e2 : Ext [hb] H1 (upd H1 hb (.lst ((putB (mine g m fr) (j : Int) y).map V.int))) := .put (by simp)
     have hst2 : mstep g m = some (setMine g { m with steps := m.steps + 1 } { fr with pos := fr.pos + 1 } rest (putB (mine g m fr) (j : Int) y), 0) := by rw [hst, hy]
     unfold setMine at hst2
     cases hm : g.mean with
     | true =>
      rw [hm, if_pos rfl] at hst2
      have hbself : hb ≠ r.self := fun z => by rw [z, R1.ob] at hbx2; cases hbx2
      have hbga : hb ≠ r.ga := fun z => by obtain ⟨ks, R4, _⟩ := R1.gone; rw [z, R4] at hbx2; cases hbx2
      have R2 := R1.other e2 (fun xs h => by rw [hbx2] at h; cases h) ⟨hbself, c.nt, c.nf, c.ow hm, hbga⟩ c.nb
      have c2 := c1.setBx (m' := m) (f' := { fr with pos := fr.pos + 1, bx := putB (mine g m fr) (j : Int) y }) (putB (mine g m fr) (j : Int) y) (by unfold mine; rw [hm, if_pos rfl, if_pos rfl]) rfl (fun z => by rw [hm] at z; cases z) rfl
      refine q1 _ { fr with pos := fr.pos + 1, bx := putB (mine g m fr) (j : Int) y } _ (.one hst2) rfl rfl rfl rfl rfl ?_ (c2.eq rfl rfl rfl rfl) (E1.trans (e2.mono (by simp)))
      show RunAt P w g r G0 _ _ (m.steps + 1) m.taken ((({ fr with pos := fr.pos + 1, bx := putB (mine g m fr) (j : Int) y } : Fr) :: rest).length : Int)
      rw [show ((({ fr with pos := fr.pos + 1, bx := putB (mine g m fr) (j : Int) y } : Fr) :: rest).length : Int) = m.st.length by rw [est]; rfl]
      exact R2.same rfl rfl rfl rfl rfl rfl (by show m.steps - (m.st.length : Int) ≤ m.steps + 1 - ((_ :: rest).length : Int); rw [est]; simp; omega)
     | false =>
      rw [hm, if_neg Bool.false_ne_true] at hst2
      have hbb := c.sh hm
      have R2 : RunAt P w g r G0 (upd H1 hb (.lst ((putB (mine g m fr) (j : Int) y).map V.int))) { m with held := putB (mine g m fr) (j : Int) y } (m.steps + 1) m.taken m.st.length := by rw [hbb]; exact R1.setHeld ra _
      have c2 := c1.setBx (m' := { m with held := putB (mine g m fr) (j : Int) y }) (f' := { fr with pos := fr.pos + 1 }) (putB (mine g m fr) (j : Int) y) (by unfold mine; rw [hm, if_neg Bool.false_ne_true, if_neg Bool.false_ne_true]) rfl (fun _ => rfl) rfl
      refine q1 _ { fr with pos := fr.pos + 1 } _ (.one hst2) rfl rfl rfl rfl rfl ?_ (c2.eq rfl rfl rfl rfl) (E1.trans (e2.mono (by simp)))
      show RunAt P w g r G0 _ _ (m.steps + 1) m.taken ((({ fr with pos := fr.pos + 1 } : Fr) :: rest).length : Int)
      rw [hlen]
      exact R2.same rfl rfl rfl rfl rfl rfl (by show m.steps - (m.st.length : Int) ≤ m.steps + 1 - ((_ :: rest).length : Int); rw [est]; simp; omega)
    walk_at "re"
    refine r_eqS ?_
    walk_at "re"
    rw [decide_eq_false (by decide +kernel)]
    refine iteF ?_
    walk_at "re"
    refine r_eqS ?_
    walk_at "re"
    rw [decide_eq_false (by decide +kernel)]
    refine iteF ?_
    walk_at "re"
    refine r_eqS ?_
    walk_at "re"
    rw [decide_eq_true (by rfl)]
    refine iteT ?_
    walk_at "re"
    refine ⟨_, _, _, _, _, rfl, hob1, T.ccl, T.cboxes, cf_boxes _ _ _ _, ?_⟩
    walk_at "re"
    refine ⟨hb, _, (j : Int), .int (getB (mine g m fr) (j : Int)), rfl, rfl, by omega, SqL.of hbx2, ?_, ?_⟩
    ·unfold getB
     rw [List.getElem?_map, List.getD_eq_getElem?_getD, Int.toNat_natCast, List.getElem?_eq_getElem hjl]; rfl
    walk_at "re"
    refine ⟨_, _, _, _, _, rfl, hob1, T.ccl, T.cboxes, cf_boxes _ _ _ _, ?_⟩
    walk_at "re"
    refine r_ixL (SqL.of hbx2) (getB_at o0 (by omega)) ?_
    refine ⟨_, _, rfl, rfl, ?_⟩
    refine r_setL (n := j) hbx2 (by rw [List.length_map]; exact ixN_nat hjl) ?_
    rw [putB_at]
    walk_at "re"
    refine fin _ ?_
    simp only [mdeed]
    rw [if_neg hmost]
    rfl
end
end Fs
set_option maxHeartbeats 1000000
namespace Fs
open PySem L2
section
variable {P : Program} {w : World} {K : PySem.W.Frag} {mg : Str → Option Value} {base : Heap}
noncomputable abbrev sVisit : Stmt := inClass (top 3) 4
theorem scVisit : FnScope ["self", "here", "way", "stop", "deed"] ["self", "here", "way"] (defScope sVisit) := ⟨rfl, rfl, rfl, by decide +kernel, rfl, by decide +kernel, by decide +kernel⟩
theorem inKv (K : PySem.W.Frag) {X : Cx} (h : X.K = K) : OpR X (compareOp .In) (rIn K false) := h ▸ op_in_seq
theorem ok_visit {f C CC : Addr} {fd : FuncData} {N : Nat} (F : Fun K "visit" "Running.visit" sVisit f fd) (T : RTx K C CC) (hS : HasM P w K mg base C "step" 1 ["self"] (spStep C)) (hW : HasM P w K mg base C "count_way" 1 ["self", "here", "way"] (spCount P w K C CC)) (hL : HasM P w K mg base C "lay" 1 ["self", "here", "deed"] (spLay P w K C CC)) (hA : HasM P w K mg base C "act" (4 * N + 5) ["self", "here", "deed"] (spAct P w K C CC N)) :
  FnOk P w K mg base CX0 (4 * N + 6) f fd ["self", "here", "way"] (spVisit P w K C CC N) := by
 refine F.ok scVisit (fun vs H Q E h => ?_) (fun cdv A outer s H vs Q E hr h => ?_)
 ·obtain ⟨r, g, G0, m, f, rest, hp, hb, hg, ha, wy, wk, b, rfl, _⟩ := h
  rfl
 ·obtain ⟨r, g, G0, m, fr, rest, hp, hb, hg, ha, wy, wk, b, rfl, pre, hwy, hpos, hwk, hw1, hbk, hN, q1, q2⟩ := h
  obtain ⟨gv, ra, ms, R, c, est, rfl, rfl⟩ := pre
  have hfr := ms.top est
  have hsteps := ms.steps
  have hmostb := gv.most
  obtain ⟨hdx, hob⟩ := c.ob
  have gmut : ∀ x ∈ [r.self], x ∈ mutR g r := fun z hz => by rw [List.mem_singleton.mp hz]; exact mut_self
  have hst : mstep g m = if m.steps = g.most then some (m, 1) else some ({ m with steps := m.steps + 1, log := m.log ++ [((fr.n : Int), fr.w0, fr.w1)], st := { fr with pos := 0 } :: rest }, 0) := by
   unfold mstep
   rw [est]
   dsimp only
   rw [hwk]
   dsimp only
   rw [if_neg hw1, hbk]
   dsimp only
   rw [if_pos (by omega)]
  obtain ⟨mm, hm1, hm2, hOk⟩ := gv.ws.all wk (List.mem_of_getElem? hwk)
  have hbok := hOk.blk b (List.mem_of_getElem? hbk)
  have hw0 : 0 ≤ fr.w1 := by obtain ⟨_, _, z, _⟩ := hfr.wk; exact z
  refine ⟨_, (pss_cons (ps_set (i := 3) scVisit.nd rfl (Or.inl rfl) (pe_mt0 hS T.cl hr (by omega) (pv 0)))
   (pss_cons (ps_if (pt_cmpR op_notN (pv 3) pe_non (nomark _)) (pss_one (ps_ret (pv 3))) pss_nil)
   (pss_cons (ps_expr (pe_mt hW T.cl hr (by omega) (pv 0) (pa_cons (pv 1) (pa_cons (pv 2) pa_nil))))
   (pss_cons (ps_for PassesOwn.never rfl (pi_list (pe_ix ix_tup (pe_ix ix_list (pe_ix ix_list (pe_fld (pv 0) rfl) (pe_fld (pv 1) rfl) (fun _ _ => rfl)) (pe_ix ix_tup (pv 2) pe_int (fun _ _ => rfl)) (fun _ _ => rfl)) pe_int (fun _ _ => rfl))) (pg_name (i := 4) scVisit.nd rfl (Or.inl rfl))
   (pss_cons (ps_set (i := 3) scVisit.nd rfl (Or.inl rfl) (pe_ifExp (pt_cmpR (inKv K rfl) (pe_ix ix_tup (pv 4) pe_int (fun _ _ => rfl)) (pe_tup (pa_cons pe_str (pa_cons pe_str pa_nil))) rfl) (pe_mt hL T.cl hr (by omega) (pv 0) (pa_cons (pv 1) (pa_cons (pv 4) pa_nil))) (pe_mt hA T.cl hr (by omega) (pv 0) (pa_cons (pv 1) (pa_cons (pv 4) pa_nil)))))
   (pss_one (ps_if (pt_cmpR op_notN (pv 3) pe_non (nomark _)) (pss_one (ps_ret (pv 3))) pss_nil))))
   (pss_one (ps_ret pe_non)))))), ?_⟩
  dsimp only [nox_K, comp_K]
  walk_at "re"
  refine ⟨r.self, r.dx, _, rfl, R.ob, by rfl, ?_⟩
  walk_at "re"
  refine ⟨r, g.most, !g.mean, "ended", m.steps, m.taken, m.st.length, m.sv, m.bk, rfl, rfl, R.ob, fun hgo => ?_, fun hgo => ?_⟩
  ·have hmost : m.steps = g.most := by omega
   walk_at "re"
   refine ⟨rfl, ?_⟩
   rw [decide_eq_false (by intro z; cases z)]
   walk_at "re"
   refine iteT ?_
   walk_at "re"
   exact q2 m 1 m H m.steps m.taken m.st.length .refl (by rw [hst, if_pos hmost]) (by decide) R
  ·have hmost : ¬ m.steps = g.most := by omega
   rw [if_neg hmost] at hst
   have R1 := R.setSelf ra (m.steps + 1) m.taken m.st.length m.sv m.bk
   have e1 : Ext [r.self] H (upd H r.self (selfO r g.most (!g.mean) "ended" (m.steps + 1) m.taken m.st.length m.sv m.bk)) := .put (by simp)
   have c1 := c.after R R1 (e1.mono gmut)
   have hwy1 : (upd H r.self (selfO r g.most (!g.mean) "ended" (m.steps + 1) m.taken m.st.length m.sv m.bk)) wy = some (.tup [.int fr.w0, .int fr.w1]) := by rw [upd_ne (fun z => by rw [z, R.ob] at hwy; cases hwy)]; exact hwy
   generalize upd H r.self (selfO r g.most (!g.mean) "ended" (m.steps + 1) m.taken m.st.length m.sv m.bk) = H1 at R1 e1 c1 hwy1 ⊢
   have E1 : Ext (hb :: ha :: mutR g r) H H1 := e1.mono fun z hz => by rw [List.mem_singleton.mp hz]; simp [mutR]
   obtain ⟨hdx1, hob1⟩ := c1.ob
   obtain ⟨ks, k1, k2, k3, k4⟩ := R1.gone
   have hll := ms.log
   walk_at "re"
   refine ⟨rfl, ?_⟩
   rw [decide_eq_true rfl]
   walk_at "re"
   refine iteF ?_
   walk_at "re"
   refine ⟨r.self, r.dx, _, rfl, R1.ob, by rfl, ?_⟩
   walk_at "re"
   refine ⟨r, g.most, !g.mean, "ended", m.steps + 1, m.taken, m.st.length, m.sv, m.bk, hp, hdx1, hb, hg, ha, wy, (fr.n : Int), fr.w0, fr.w1, ks, rfl, rfl, rfl, R1.ob, hob1, hwy1, k1, k2, by have : ks.length ≤ m.log.length := k3; omega, fun p H2 hp2 e2 hga2 hn2 => ?_⟩
   have R2' := R1.setGone ra (k := ((fr.n : Int), fr.w0, fr.w1)) k1 k2 k3 k4 e2 hga2 hn2
   have c2' := c1.after R1 R2' (e2.mono fun z hz => by rw [List.mem_singleton.mp hz]; exact mut_ga)
   have hl0 : ((({ fr with pos := 0 } : Fr) :: rest).length : Int) = m.st.length := by rw [est]; rfl
   have R2 : RunAt P w g r G0 H2 { m with steps := m.steps + 1, log := m.log ++ [((fr.n : Int), fr.w0, fr.w1)], st := { fr with pos := 0 } :: rest } (m.steps + 1) m.taken ((({ fr with pos := 0 } : Fr) :: rest).length : Int) := by
    rw [hl0]
    exact R2'.same rfl rfl rfl rfl rfl rfl (by show m.steps - (m.st.length : Int) ≤ m.steps + 1 - _; rw [hl0]; omega)
   have c2 : CallAt g r G0 H2 { m with steps := m.steps + 1, log := m.log ++ [((fr.n : Int), fr.w0, fr.w1)], st := { fr with pos := 0 } :: rest } { fr with pos := 0 } hp hb hg ha := c2'.eq rfl rfl rfl rfl
   have E2 : Ext (hb :: ha :: mutR g r) H H2 := E1.trans (e2.mono fun z hz => by rw [List.mem_singleton.mp hz]; simp [mutR])
   have hwy2 : H2 wy = some (.tup [.int fr.w0, .int fr.w1]) := e2 _ _ (by simp; intro z; rw [z, k1] at hwy1; cases hwy1) hwy1
   obtain ⟨hdx2, hob2⟩ := c2.ob
   obtain ⟨wa', us, ea, hSw, hDus⟩ := ra.works.ofList
   cases ea
   obtain ⟨vw, hvw, dw⟩ := hDus.get' (i := fr.n) (d := workD wk) (by rw [List.getElem?_map, hwk]; rfl)
   obtain ⟨a0, bs, rfl, hSb, hDb⟩ := dw.ofList
   obtain ⟨j0, hj0⟩ : ∃ j : Nat, fr.w1 = (j : Int) := ⟨fr.w1.toNat, by omega⟩
   obtain ⟨vb, hvb, db⟩ := hDb.get' (i := fr.w1.toNat) (d := blkD b) (by rw [List.getElem?_map, hbk]; rfl)
   obtain ⟨pt, pvs, rfl, hSp, hDp⟩ := db.ofTuple
   obtain ⟨v1, q1', rfl, k5, d5⟩ := hDp.ofCons
   obtain ⟨v2, q2', rfl, k6, d6⟩ := d5.ofCons
   have := d6.ofNil
   subst this
   obtain ⟨dl, dvs, rfl, hSd, hDd⟩ := k5.ofList
   have hdl := hDd.len
   rw [List.length_map] at hdl
   walk_at "re"
   refine ⟨_, _, _, _, _, rfl, R2.ob, T.cl, T.works, rf_works _ _ _ _ _ _ _ _ _, ?_⟩
   walk_at "re"
   refine ⟨_, _, _, _, _, rfl, hob2, T.ccl, T.number, cf_number _ _ _ _, ?_⟩
   refine r_ixL (R2.old.toSame.seq hSw) (atI_nat hvw) ?_
   walk_at "re"
   refine r_ixT (SqT.of hwy2) rfl ?_
   refine r_ixL (R2.old.toSame.seq hSb) (by rw [hj0] at hvb ⊢; exact atI_nat hvb) ?_
   walk_at "re"
   refine r_ixT (R2.old.toSame.seqT hSp) rfl ?_
   refine ⟨dl, rfl, ⟨_, R2.old.toSame.seq hSd⟩, for_list (xs := dvs) (fun j σ' G => ∃ (o3 o4 : Option V) (m' : Ms) (f' : Fr), σ' = [some (.ref r.self), some (.ref hp), some (.ref wy), o3, o4] ∧ Go g m m' ∧ m'.st = f' :: rest ∧ f'.n = fr.n ∧ f'.w0 = fr.w0 ∧ f'.w1 = fr.w1 ∧ f'.pos = (j : Int) ∧ RunAt P w g r G0 G m' m'.steps m'.taken m'.st.length ∧ CallAt g r G0 G m' f' hp hb hg ha ∧ Ext (hb :: ha :: mutR g r) H G) ?_ ?_ ?_ ?_⟩
   ·exact ⟨_, _, _, _, rfl, .one hst, rfl, rfl, rfl, rfl, rfl, R2, c2, E2⟩
   ·rintro j σ' G hj ⟨o3, o4, m', f', rfl, hgo, hms, h1, h2, h3, h4, RG, cG, eG⟩
    exact RG.old.toSame.seq hSd
   ·rintro j v σ' G hv ⟨o3, o4, m', f', rfl, hgo, hms, h1, h2, h3, h4, RG, cG, eG⟩
    obtain ⟨dd, hdd, hDx⟩ := hDd.get hv
    obtain ⟨x, hx, rfl⟩ := map_get hdd
    have hDG := hDx.mono RG.old.toSame
    have hms' := hgo.ok gv ms
    have hAt : DeedAt g f' x := ⟨wk, b, by rw [h1]; exact hwk, by rw [h3]; exact hw1, by rw [h3]; exact hbk, by omega, by rw [h4, Int.toNat_natCast]; exact hx⟩
    have pre' : Pre P w K r.C r.CC g r G0 G m' f' rest hp hb hg ha := ⟨gv, ra, hms', RG, cG, hms, rfl, rfl⟩
    have hlen' : m'.st.length = m.st.length := by rw [hms, est]; rfl
    obtain ⟨wd, rr, hxd⟩ : ∃ (s : Str) (r : List PyData), deedD x = .tuple (.str s :: r) := by cases x <;> exact ⟨_, _, rfl⟩
    have hDG2 := hDG
    rw [hxd] at hDG2
    obtain ⟨da, dvs', rfl, hT, hDL⟩ := hDG2.ofTuple
    obtain ⟨u1, r1, rfl, w1', z1⟩ := hDL.ofCons
    cases w1'.ofStr
    have cont : ∀ (o4 : Option V) (D : Ends) (tt : TS), True := fun _ _ _ => trivial
    walk_at "re"
    refine r_ixT hT (show _ = some (V.str wd) from atI_nat (j := 0) rfl) ?_
    walk_at "re"
    refine ⟨len2 (by show 2 ≤ 1000; decide), fun tp htp => ?_⟩
    have X3 : Ext [] G (upd G tp (.tup [.str "save", .str "back"])) := .laid htp
    have htp3 : (upd G tp (.tup [.str "save", .str "back"])) tp = some (.tup [.str "save", .str "back"]) := upd_same
    generalize upd G tp (.tup [.str "save", .str "back"]) = G3 at X3 htp3 ⊢
    have RG3 := RG.fresh X3
    have cG3 := cG.fresh X3
    have pre3 : Pre P w K r.C r.CC g r G0 G3 m' f' rest hp hb hg ha := ⟨gv, ra, hms', RG3, cG3, hms, rfl, rfl⟩
    have hDG3 := hDG.mono X3.toSame
    have eG3 : Ext (hb :: ha :: mutR g r) H G3 := eG.trans (X3.mono (by simp))
    walk_at "re"
    refine ⟨tp, _, rfl, .inr (SqT.of htp3), rfl, rfl, ?_⟩
    rw [if_neg Bool.false_ne_true]
    walk_at "re"
    have isin : inV (.str wd) [V.str "save", .str "back"] = true ↔ ((∃ b, x = .save b) ∨ ∃ b, x = .back b) := by
     cases x <;> cases hxd
     all_goals first
      | exact ⟨fun _ => .inl ⟨_, rfl⟩, fun _ => by decide +kernel⟩
      | exact ⟨fun _ => .inr ⟨_, rfl⟩, fun _ => by decide +kernel⟩
      | exact ⟨fun h => absurd h (by decide +kernel), by rintro (⟨_, h⟩ | ⟨_, h⟩) <;> cases h⟩
    by_cases hsb : (∃ b, x = .save b) ∨ ∃ b, x = .back b
    ·rw [isin.mpr hsb]
     refine iteT ?_
     walk_at "re"
     refine ⟨r.self, r.dx, _, rfl, RG3.ob, by rfl, ?_⟩
     walk_at "re"
     refine ⟨r, g, G0, m', f', rest, hp, hb, hg, ha, _, x, rfl, pre3, hDG3, hAt, hsb, fun m2 f2 H4 hgo2 hst2 i1 i2 i3 i4 RR CC ee => ?_, fun m2 cc mid H4 s' t' d' hgo2 hstp hcc RR => ?_⟩
     ·walk_at "re"
      refine ⟨rfl, ?_⟩
      rw [decide_eq_true rfl]
      walk_at "re"
      refine iteF ?_
      walk_at "re"
      exact ⟨_, _, m2, f2, rfl, hgo.trans hgo2, hst2, i1.trans h1, i2.trans h2, i3.trans h3, by rw [i4, h4]; push_cast; rfl, RR, CC, eG3.trans ee⟩
     ·walk_at "re"
      refine ⟨rfl, ?_⟩
      rw [decide_eq_false (by intro z; cases z)]
      walk_at "re"
      refine iteT ?_
      walk_at "re"
      exact q2 m2 cc mid H4 s' t' d' (hgo.trans hgo2) hstp hcc RR
    ·rw [show inV (.str wd) [V.str "save", .str "back"] = false by rw [Bool.eq_false_iff]; exact fun z => hsb (isin.mp z)]
     refine iteF ?_
     walk_at "re"
     refine ⟨r.self, r.dx, _, rfl, RG3.ob, by rfl, ?_⟩
     walk_at "re"
     refine ⟨r, g, G0, m', f', rest, hp, hb, hg, ha, _, x, rfl, pre3, hDG3, hAt, fun y z => hsb (.inl ⟨y, z⟩), fun y z => hsb (.inr ⟨y, z⟩), by rw [hlen']; exact hN, fun m2 f2 H4 hgo2 hst2 i1 i2 i3 i4 RR CC ee => ?_, fun m2 cc mid H4 s' t' d' hgo2 hstp hcc RR => ?_⟩
     ·walk_at "re"
      refine ⟨rfl, ?_⟩
      rw [decide_eq_true rfl]
      walk_at "re"
      refine iteF ?_
      walk_at "re"
      exact ⟨_, _, m2, f2, rfl, hgo.trans hgo2, hst2, i1.trans h1, i2.trans h2, i3.trans h3, by rw [i4, h4]; push_cast; rfl, RR, CC, eG3.trans ee⟩
     ·walk_at "re"
      refine ⟨rfl, ?_⟩
      rw [decide_eq_false (by intro z; cases z)]
      walk_at "re"
      refine iteT ?_
      walk_at "re"
      exact q2 m2 cc mid H4 s' t' d' (hgo.trans hgo2) hstp hcc RR
   ·rintro σ' G ⟨o3, o4, m', f', rfl, hgo, hms, h1, h2, h3, h4, RG, cG, eG⟩
    walk_at "re"
    exact q1 m' f' G hgo hms h1 h2 h3 (by rw [h4, hdl]) RG cG eG
end
end Fs
set_option maxHeartbeats 1000000
namespace Fs
open PySem L2
section
variable {P : Program} {w : World} {K : PySem.W.Frag} {mg : Str → Option Value} {base : Heap}
noncomputable abbrev sWalk : Stmt := inClass (top 3) 3
theorem scWalk : FnScope ["self", "here", "work", "way", "stop", "changed"] ["self", "here"] (defScope sWalk) := ⟨rfl, rfl, rfl, by decide +kernel, rfl, by decide +kernel, by decide +kernel⟩
theorem ok_walk {f C CC : Addr} {fd : FuncData} {N : Nat} (F : Fun K "walk" "Running.walk" sWalk f fd) (T : RTx K C CC) (nlen : mg "len" = none) (nenumerate : mg "enumerate" = none) (hV : HasM P w K mg base C "visit" (4 * N + 6) ["self", "here", "way"] (spVisit P w K C CC N)) (hW : HasM P w K mg base C "count_way" 1 ["self", "here", "way"] (spCount P w K C CC)) (hL : HasM P w K mg base C "led_by" 2 ["self", "end", "beyond"] (spLedBy K C)) :
  FnOk P w K mg base CX0 (4 * N + 7) f fd ["self", "here"] (spWalk P w K C CC N) := by
 refine F.ok scWalk (fun vs H Q E h => ?_) (fun cdv A outer s H vs Q E hr h => ?_)
 ·obtain ⟨r, g, G0, m, f, rest, hp, hb, hg, ha, rfl, _⟩ := h
  rfl
 ·obtain ⟨r, g, G0, m, fr, rest, hp, hb, hg, ha, rfl, pre, hw0, hw1, hpos, hN, q1, q2⟩ := h
  obtain ⟨gv, ra, ms, R, c, est, rfl, rfl⟩ := pre
  have hfr := ms.top est
  have hmostb := gv.most
  obtain ⟨hdx, hob⟩ := c.ob
  obtain ⟨wk, hwk, _, _⟩ := hfr.wk
  obtain ⟨mm, hm1, hm2, hOk⟩ := gv.ws.all wk (List.mem_of_getElem? hwk)
  have hlen := hOk.len
  refine ⟨_, (pss_cons (ps_set (i := 2) scWalk.nd rfl (Or.inl rfl) (pe_ix ix_list (pe_fld (pv 0) rfl) (pe_fld (pv 1) rfl) (fun _ _ => rfl)))
   (pss_cons (ps_set (i := 3) scWalk.nd rfl (Or.inl rfl) (pe_tup (pa_cons (pe_un un_neg pe_int) (pa_cons pe_int pa_nil))))
   (pss_cons (ps_while PassesOwn.never (pt_cmpR op_lt (pe_ix ix_tup (pv 3) pe_int (fun _ _ => rfl)) (pe_callB call_len_seq (by rfl) nlen PySem.boot_len (pa_cons (pv 2) pa_nil)) (nomark _))
   (pss_cons (ps_set (i := 4) scWalk.nd rfl (Or.inl rfl) (pe_mt hV T.cl hr (by omega) (pv 0) (pa_cons (pv 1) (pa_cons (pv 3) pa_nil))))
   (pss_cons (ps_if (pt_cmpR op_notN (pv 4) pe_non (nomark _)) (pss_one (ps_ret (pv 4))) pss_nil)
   (pss_one (ps_set (i := 3) scWalk.nd rfl (Or.inl rfl) (pe_tup (pa_cons (pe_ix ix_tup (pv 3) pe_int (fun _ _ => rfl)) (pa_cons (pe_mt hL T.cl hr (by omega) (pv 0) (pa_cons (pe_ix ix_tup (pe_ix ix_list (pv 2) (pe_ix ix_tup (pv 3) pe_int (fun _ _ => rfl)) (fun _ _ => rfl)) pe_int (fun _ _ => rfl)) (pa_cons (pe_callB call_len_seq (by rfl) nlen PySem.boot_len (pa_cons (pv 2) pa_nil)) pa_nil))) pa_nil))))))))
   (pss_cons (ps_expr (pe_mt hW T.cl hr (by omega) (pv 0) (pa_cons (pv 1) (pa_cons (pv 3) pa_nil))))
   (pss_cons (ps_lc (i := 5) ["box", "held"] [1] rfl (.of rfl) scWalk.nd rfl (Or.inl rfl) (pi_enum rfl nenumerate (pa_cons (pe_fld (pv 1) rfl) pa_nil)) (fun _ _ _ _ => (pg_tupK (n := 2) K rfl rfl (pgs_cons (pg_name (i := 0) (by show (((["box", "held", "here"] : List Str))).Nodup; decide) rfl (Or.inl rfl)) (pgs_cons (pg_name (i := 1) (by show (((["box", "held", "here"] : List Str))).Nodup; decide) rfl (Or.inl rfl)) pgs_nil)))) (fun _ _ _ _ => .cons (pt_cmpR op_ne (pe_ix (ix_listK K rfl) (pe_fldK K rfl (pv 2) rfl) (pv 0) (fun _ _ => rfl)) (pv 1) (nomark _)) .nil) (fun _ _ _ _ => (pv 0)))
   (pss_cons (ps_expr (pe_bm PySem.F.plainAttrs_list PySem.F.slot_list_extend PySem.F.type_list_extend mt_extend (pe_fld (pv 0) rfl) (pa_cons (pe_lc ["box"] [1] rfl (.of rfl) (pi_list (pv 5)) (fun _ _ _ _ => (pg_name (i := 0) (by show (((["box", "here"] : List Str))).Nodup; decide) rfl (Or.inl rfl))) (fun _ _ _ _ => .nil) (fun _ _ _ _ => (pe_tup (pa_cons (pe_fldK K rfl (pv 1) rfl) (pa_cons (pv 0) pa_nil))))) pa_nil)))
   (pss_one (ps_ret pe_non)))))))), ?_⟩
  dsimp only [nox_K, comp_K]
  obtain ⟨wa', us, ea, hSw, hDus⟩ := ra.works.ofList
  cases ea
  obtain ⟨vw, hvw, dw⟩ := hDus.get' (i := fr.n) (d := workD wk) (by rw [List.getElem?_map, hwk]; rfl)
  obtain ⟨a0, bs, rfl, hSb, hDb⟩ := dw.ofList
  have hbl := hDb.len
  rw [List.length_map] at hbl
  walk_at "re"
  refine ⟨_, _, _, _, _, rfl, R.ob, T.cl, T.works, rf_works _ _ _ _ _ _ _ _ _, ?_⟩
  walk_at "re"
  refine ⟨_, _, _, _, _, rfl, hob, T.ccl, T.number, cf_number _ _ _ _, ?_⟩
  refine r_ixL (R.old.toSame.seq hSw) (atI_nat hvw) ?_
  walk_at "re"
  refine ⟨len2 (by show 2 ≤ 1000; decide), fun tp htp => ?_⟩
  have X1 : Ext [] H (upd H tp (.tup [.int (-1), .int 0])) := .laid htp
  have htp1 : (upd H tp (.tup [.int (-1), .int 0])) tp = some (.tup [.int (-1), .int 0]) := upd_same
  generalize upd H tp (.tup [.int (-1), .int 0]) = H1 at X1 htp1 ⊢
  have R1 := R.fresh X1
  have c1 := c.fresh X1
  have E1 : Ext (hb :: ha :: mutR g r) H H1 := X1.mono (by simp)
  walk_at "re"
  refine ⟨fun n σ' G => ∃ (m' : Ms) (f' : Fr) (wy : Addr) (o4 o5 : Option V), σ' = [some (.ref r.self), some (.ref hp), some (.ref a0), some (.ref wy), o4, o5] ∧ Go g m m' ∧ m'.st = f' :: rest ∧ f'.n = fr.n ∧ f'.pos = -1 ∧ G wy = some (.tup [.int f'.w0, .int f'.w1]) ∧ RunAt P w g r G0 G m' m'.steps m'.taken m'.st.length ∧ CallAt g r G0 G m' f' hp hb hg ha ∧ Ext (hb :: ha :: mutR g r) H G ∧ n = (g.most - m'.steps).toNat, ⟨_, m, fr, tp, _, _, rfl, .refl, est, rfl, hpos, by rw [hw0, hw1]; exact htp1, R1, c1, E1, rfl⟩, ?_⟩
  rintro n σ' G ⟨m', f', wy, o4, o5, rfl, hgo, hms, h1, h2, hwy, RG, cG, eG, hn⟩
  have ms' := hgo.ok gv ms
  have hf' := ms'.top hms
  obtain ⟨wk', hwk', hwa, hwb⟩ := hf'.wk
  rw [h1, hwk] at hwk'
  cases hwk'
  have hlen' : m'.st.length = m.st.length := by rw [hms, est]; rfl
  walk_at "re"
  refine r_ixT (SqT.of hwy) rfl ?_
  walk_at "re"
  refine ⟨a0, _, rfl, .inl (RG.old.toSame.seq hSb), ?_⟩
  walk_at "re"
  by_cases hin : f'.w1 < (wk.length : Int)
  ·rw [decide_eq_true (by omega)]
   refine iteT ?_
   have hne : f'.w1 ≠ (wk.length : Int) := by omega
   obtain ⟨b, hbk⟩ : ∃ b, wk[f'.w1.toNat]? = some b := ⟨_, List.getElem?_eq_getElem (by omega)⟩
   refine ⟨fun σ' G' => ∃ (m'' : Ms) (f'' : Fr) (wy : Addr) (o4 o5 : Option V), σ' = [some (.ref r.self), some (.ref hp), some (.ref a0), some (.ref wy), o4, o5] ∧ Go g m m'' ∧ m''.st = f'' :: rest ∧ f''.n = fr.n ∧ f''.pos = -1 ∧ G' wy = some (.tup [.int f''.w0, .int f''.w1]) ∧ RunAt P w g r G0 G' m'' m''.steps m''.taken m''.st.length ∧ CallAt g r G0 G' m'' f'' hp hb hg ha ∧ Ext (hb :: ha :: mutR g r) H G' ∧ m'.steps < m''.steps, ?_, ?_⟩
   ·rintro σ2 H2 ⟨m'', f'', wy2, o42, o52, i1, i2, i3, i4, i5, i6, i7, i8, i9, i10⟩
    have := (i2.ok gv ms).steps
    exact ⟨_, by omega, m'', f'', wy2, o42, o52, i1, i2, i3, i4, i5, i6, i7, i8, i9, rfl⟩
   walk_at "re"
   refine ⟨r.self, r.dx, _, rfl, RG.ob, by rfl, ?_⟩
   walk_at "re"
   refine ⟨r, g, G0, m', f', rest, hp, hb, hg, ha, wy, wk, b, rfl, ⟨gv, ra, ms', RG, cG, hms, rfl, rfl⟩, hwy, h2, by rw [h1]; exact hwk, hne, hbk, by rw [hlen']; exact hN, fun m2 f2 H2 hgo2 hst2 i1 i2 i3 i4 RR CC ee => ?_, fun m2 cc mid H4 s' t' d' hgo2 hstp hcc RR => ?_⟩
   ·have hmv := hgo2.moved hms h2 (by rw [h1]; exact hwk) hne hbk hst2 (by rw [i4]; omega)
    have hnx := next_step hst2 i4 (by rw [i1, h1]; exact hwk) (by rw [i3]; exact hne) (by rw [i3]; exact hbk)
    obtain ⟨vb, hvb, db⟩ := hDb.get' (i := f'.w1.toNat) (d := blkD b) (by rw [List.getElem?_map, hbk]; rfl)
    obtain ⟨pt, pvs, rfl, hSp, hDp⟩ := db.ofTuple
    obtain ⟨v1, q1', rfl, k5, d5⟩ := hDp.ofCons
    obtain ⟨v2, q2', rfl, k6, d6⟩ := d5.ofCons
    have := d6.ofNil
    subst this
    have hbok := hOk.blk b (List.mem_of_getElem? hbk)
    have hwy2 : H2 wy = some (.tup [.int f'.w0, .int f'.w1]) := ee _ _ (tup_apart (K := K) RG cG hwy) hwy
    walk_at "re"
    refine ⟨rfl, ?_⟩
    rw [decide_eq_true rfl]
    walk_at "re"
    refine iteF ?_
    walk_at "re"
    refine r_ixT (SqT.of hwy2) rfl ?_
    walk_at "re"
    refine ⟨r.self, r.dx, _, rfl, RR.ob, by rfl, ?_⟩
    walk_at "re"
    refine r_ixT (SqT.of hwy2) rfl ?_
    obtain ⟨j0, hj0⟩ : ∃ j : Nat, f'.w1 = (j : Int) := ⟨f'.w1.toNat, by omega⟩
    refine r_ixL (RR.old.toSame.seq hSb) (by rw [hj0] at hvb ⊢; exact atI_nat hvb) ?_
    walk_at "re"
    refine r_ixT (RR.old.toSame.seqT hSp) rfl ?_
    walk_at "re"
    refine ⟨a0, _, rfl, .inl (RR.old.toSame.seq hSb), ?_⟩
    rw [hbl]
    walk_at "re"
    have ms2 := (hgo.trans hgo2).ok gv ms
    refine ⟨r, g.most, !g.mean, "ended", m2.steps, m2.taken, m2.st.length, m2.sv, m2.bk, g.ch, b.ns, _, (wk.length : Int), mm, rfl, rfl, RR.ob, RR.old.toSame.seq ra.ch, ms2.taken, gv.ch, k6.mono RR.old.toSame, hbok.ns, fun H3 hs3 hne3 => ?_⟩
    generalize hnn : nextOf g.ch m2.taken wk.length b.ns = nn at hs3 hnx ⊢
    have e3 : H3 = upd H2 r.self (selfO r g.most (!g.mean) "ended" m2.steps nn.2 m2.st.length m2.sv m2.bk) := by
     funext x
     by_cases hx : x = r.self
     ·rw [hx, upd_same]; exact hs3
     ·rw [upd_ne hx]; exact hne3 x hx
    have R3 := RR.setSelf ra m2.steps nn.2 m2.st.length m2.sv m2.bk
    have x3 : Ext [r.self] H2 (upd H2 r.self (selfO r g.most (!g.mean) "ended" m2.steps nn.2 m2.st.length m2.sv m2.bk)) := .put (by simp)
    rw [← e3] at R3 x3
    have c3 := CC.after RR R3 (x3.mono fun z hz => by rw [List.mem_singleton.mp hz]; exact mut_self)
    have E3 : Ext (hb :: ha :: mutR g r) H H3 := (eG.trans ee).trans (x3.mono fun z hz => by rw [List.mem_singleton.mp hz]; simp [mutR])
    clear e3 hs3 hne3
    walk_at "re"
    refine ⟨len2 (by show 2 ≤ 1000; decide), fun tq htq => ?_⟩
    have X4 : Ext [] H3 (upd H3 tq (.tup [.int f'.w1, .int nn.1])) := .laid htq
    have htq4 : (upd H3 tq (.tup [.int f'.w1, .int nn.1])) tq = some (.tup [.int f'.w1, .int nn.1]) := upd_same
    generalize upd H3 tq (.tup [.int f'.w1, .int nn.1]) = H4 at X4 htq4 ⊢
    have hl0 : ((({ f2 with w0 := f2.w1, w1 := nn.1, pos := -1 } : Fr) :: rest).length : Int) = m2.st.length := by rw [hst2]; rfl
    have R4 : RunAt P w g r G0 H4 { m2 with taken := nn.2, st := { f2 with w0 := f2.w1, w1 := nn.1, pos := -1 } :: rest } m2.steps nn.2 ((({ f2 with w0 := f2.w1, w1 := nn.1, pos := -1 } : Fr) :: rest).length : Int) := by
     rw [hl0]
     exact (R3.fresh X4).same rfl rfl rfl rfl rfl rfl (by show m2.steps - (m2.st.length : Int) ≤ m2.steps - _; rw [hl0]; omega)
    have c4 : CallAt g r G0 H4 { m2 with taken := nn.2, st := { f2 with w0 := f2.w1, w1 := nn.1, pos := -1 } :: rest } { f2 with w0 := f2.w1, w1 := nn.1, pos := -1 } hp hb hg ha := (c3.fresh X4).eq rfl rfl rfl rfl
    walk_at "re"
    exact ⟨_, _, tq, _, _, rfl, (hgo.trans hgo2).trans (.one hnx), rfl, i1.trans h1, rfl, by rw [htq4, ← i3], R4, c4, E3.trans (X4.mono (by simp)), hmv⟩
   ·walk_at "re"
    refine ⟨rfl, ?_⟩
    rw [decide_eq_false (by intro z; cases z)]
    walk_at "re"
    refine iteT ?_
    walk_at "re"
    exact q2 m2 cc mid H4 s' t' d' (hgo.trans hgo2) hstp hcc RR
  ·rw [decide_eq_false (by omega)]
   refine iteF ?_
   have hout := out_step hms (by rw [h1]; exact hwk) (by omega : f'.w1 = (wk.length : Int))
   obtain ⟨hdx', hob'⟩ := cG.ob
   obtain ⟨ks, k1, k2, k3, k4⟩ := RG.gone
   have hll := ms'.log
   have hms2 := ms'.steps
   walk_at "re"
   refine ⟨r.self, r.dx, _, rfl, RG.ob, by rfl, ?_⟩
   walk_at "re"
   refine ⟨r, g.most, !g.mean, "ended", m'.steps, m'.taken, m'.st.length, m'.sv, m'.bk, hp, hdx', hb, hg, ha, wy, (f'.n : Int), f'.w0, f'.w1, ks, rfl, rfl, rfl, RG.ob, hob', hwy, k1, k2, by have : ks.length ≤ m'.log.length := k3; omega, fun p H2 hp2 e2 hga2 hn2 => ?_⟩
   have R2 := RG.setGone ra (k := ((f'.n : Int), f'.w0, f'.w1)) k1 k2 k3 k4 e2 hga2 hn2
   have c2 := cG.after RG R2 (e2.mono fun z hz => by rw [List.mem_singleton.mp hz]; exact mut_ga)
   have E2 : Ext (hb :: ha :: mutR g r) H H2 := eG.trans (e2.mono fun z hz => by rw [List.mem_singleton.mp hz]; simp [mutR])
   obtain ⟨hdx2, hob2⟩ := c2.ob
   obtain ⟨bl, hg2, hbl8, hbf⟩ := c2.bg
   have hbx2 := c2.bx
   have hcl : (mine g { m' with log := m'.log ++ [((f'.n : Int), f'.w0, f'.w1)] } f').length = 8 := show (mine g m' f').length = 8 from mine_len ms' hf'
   generalize hcur : mine g { m' with log := m'.log ++ [((f'.n : Int), f'.w0, f'.w1)] } f' = cur at hbx2 hcl
   walk_at "re"
   refine ⟨_, _, _, _, _, rfl, hob2, T.ccl, T.begun, cf_begun _ _ _ _, ?_⟩
   walk_at "re"
   refine ⟨hg, rfl, ⟨_, SqL.of hg2⟩, fun l hl => ?_⟩
   refine loop_enum (xs := bl.map V.int) (fun i σ' G => ∃ (o0 o1 : Option V), σ' = [o0, o1, some (.ref hp)] ∧ Ext [l] H2 G ∧ G l = some (.lst ((offB cur bl i).map V.int))) ?_ ?_ ?_ ?_
   ·exact ⟨_, _, rfl, .laid hl, upd_same⟩
   ·rintro i σ' G hi ⟨o0, o1, rfl, eX, hlX⟩
    exact (eX.drop hl).toSame.seq (SqL.of hg2)
   ·rintro i x σ' G pt RK hx ⟨o0, o1, rfl, eX, hlX⟩ hpt hR
    rw [List.getElem?_map] at hx
    obtain ⟨n0, hn0, rfl⟩ : ∃ n0, bl[i]? = some n0 ∧ x = V.int n0 := by
     cases hq : bl[i]? with
     | none => rw [hq] at hx; cases hx
     | some n0 => rw [hq] at hx; exact ⟨n0, rfl, (Option.some.inj hx).symm⟩
    have hi : i < bl.length := (List.getElem?_eq_some_iff.mp hn0).1
    have hgb : getB bl (i : Int) = n0 := by unfold getB; rw [List.getD_eq_getElem?_getD, Int.toNat_natCast, hn0]; rfl
    have X1 : Ext [] G (upd G pt (.tup [.int i, .int n0])) := .laid hpt
    have hpt1 : SqT K (upd G pt (.tup [.int i, .int n0])) pt [.int i, .int n0] := SqT.of upd_same
    have hl1 : (upd G pt (.tup [.int i, .int n0])) l = some (.lst ((offB cur bl i).map V.int)) := X1 _ _ (by simp) hlX
    have eX1 : Ext [l] H2 (upd G pt (.tup [.int i, .int n0])) := eX.trans (X1.mono (by simp))
    generalize upd G pt (.tup [.int i, .int n0]) = G1 at X1 hpt1 hl1 eX1 ⊢
    have nl : ∀ {x : Addr} {o : HO}, H2 x = some o → x ≠ l := fun {x o} hx z => by rw [z, hl] at hx; cases hx
    have hob3 := eX1 _ _ (by simpa using nl hob2) hob2
    have hbx3 := eX1 _ _ (by simpa using nl hbx2) hbx2
    refine r_gtup hpt1 rfl ?_
    walk_at "re"
    refine ⟨_, _, _, _, _, rfl, hob3, T.ccl, T.cboxes, cf_boxes _ _ _ _, ?_⟩
    walk_at "re"
    refine r_ixL (SqL.of hbx3) (getB_at (by omega) (by omega)) ?_
    walk_at "re"
    refine r_neI ?_
    walk_at "re"
    rw [← hgb]
    by_cases hq : getB cur (i : Int) = getB bl (i : Int)
    ·rw [decide_eq_true hq]
     refine iteF ?_
     refine iteF ?_
     exact hR _ _ ⟨_, _, rfl, eX1, by rw [offB_succ, if_pos hq, List.append_nil]; exact hl1⟩
    ·rw [decide_eq_false hq]
     refine iteT ?_
     walk_at "re"
     refine iteT ?_
     walk_at "re"
     have := offB_len cur bl i
     refine ⟨_, hl1, ?_, ?_⟩
     ·rw [List.length_map]
      exact Nat.lt_of_le_of_lt (Nat.le_trans this (by omega : i ≤ 8)) (by decide)
     ·exact hR _ _ ⟨_, _, rfl, eX1.trans (.put (by simp)), by rw [upd_same, offB_succ, if_neg hq, List.map_append]; rfl⟩
   rintro σ' G ⟨o0, o1, rfl, eX, hlX⟩
   rw [List.length_map, hbl8] at hlX
   have e0X := eX.drop hl
   have R3 := R2.fresh e0X
   have c3 := c2.fresh e0X
   obtain ⟨fl, f1, f2, f3⟩ := R3.flt
   obtain ⟨hdx3, hob3⟩ := c3.ob
   walk_at "re"
   refine ⟨_, _, _, _, _, rfl, R3.ob, T.cl, T.faults, rf_faults _ _ _ _ _ _ _ _ _, ?_⟩
   refine r_tyL f1 ?_
   walk_at "re"
   refine ⟨l, rfl, ⟨_, SqL.of hlX⟩, fun l2 hl2 => ?_⟩
   refine loop_list (xs := (offB cur bl 8).map V.int) (fun i σ' G' => ∃ (o0 : Option V) (us : List V), σ' = [o0, some (.ref hp)] ∧ Ext [l2] G G' ∧ G' l2 = some (.lst us) ∧ PrsAt G' us (((offB cur bl 8).take i).map fun b => ((f'.n : Int), b))) ?_ ?_ ?_ ?_
   ·exact ⟨_, [], rfl, .laid hl2, upd_same, .nil⟩
   ·rintro i σ' G' hi ⟨o0, us, rfl, eY, hlY, hP⟩
    exact (eY.drop hl2).toSame.seq (SqL.of hlX)
   ·rintro i x σ' G' RK hx ⟨o0, us, rfl, eY, hlY, hP⟩ hR
    have hoff := offB_len cur bl 8
    rw [List.getElem?_map] at hx
    obtain ⟨n0, hn0, rfl⟩ : ∃ n0, (offB cur bl 8)[i]? = some n0 ∧ x = V.int n0 := by
     cases hq : (offB cur bl 8)[i]? with
     | none => rw [hq] at hx; cases hx
     | some n0 => rw [hq] at hx; exact ⟨n0, rfl, (Option.some.inj hx).symm⟩
    have hi : i < (offB cur bl 8).length := (List.getElem?_eq_some_iff.mp hn0).1
    have hob4 := eY _ _ (by simpa using fun z => by rw [z, hl2] at hob3; cases hob3) hob3
    have hus := hP.len
    rw [List.length_map, List.length_take] at hus
    walk_at "re"
    refine iteT ?_
    walk_at "re"
    refine ⟨_, _, _, _, _, rfl, hob4, T.ccl, T.number, cf_number _ _ _ _, ?_⟩
    walk_at "re"
    refine ⟨len2 (by show 2 ≤ 1000; decide), fun tq htq => ?_⟩
    have X4 : Ext [] G' (upd G' tq (.tup [.int (f'.n : Int), .int n0])) := .laid htq
    have htq4 : (upd G' tq (.tup [.int (f'.n : Int), .int n0])) tq = some (.tup [.int (f'.n : Int), .int n0]) := upd_same
    generalize upd G' tq (.tup [.int (f'.n : Int), .int n0]) = G4 at X4 htq4 ⊢
    have hl4 : G4 l2 = some (.lst us) := X4 _ _ (by simp) hlY
    refine ⟨us, hl4, Nat.lt_of_le_of_lt (by omega : us.length ≤ 8) (by decide), ?_⟩
    have x5 : Ext [l2] G4 (upd G4 l2 (.lst (us ++ [.ref tq]))) := .put (by simp)
    have nt5 : ∀ t ∈ [l2], ∀ xs, G4 t ≠ some (.tup xs) := fun z hz xs h => by rw [List.mem_singleton.mp hz, hl4] at h; cases h
    refine hR _ _ ⟨_, _, rfl, (eY.trans (X4.mono (by simp))).trans x5, upd_same, ?_⟩
    rw [List.take_succ, hn0, List.map_append]
    exact ((hP.mono X4 (by simp)).app (.cons ⟨tq, rfl, htq4⟩ .nil)).mono x5 nt5
   rintro σ' G' ⟨o0', us, rfl, eY, hlY, hP⟩
   rw [List.length_map, List.take_length] at hP
   have e0Y := eY.drop hl2
   have R4 := R3.fresh e0Y
   have f14 : G' r.fa = some (.lst fl) := e0Y _ _ (by simp) f1
   have hus := hP.len
   rw [List.length_map] at hus
   have hoff := offB_len cur bl 8
   have hml : (m'.st.length : Int) = rest.length + 1 := by rw [hms]; simp
   walk_at "re"
   refine ⟨r.fa, l2, fl, us, rfl, rfl, f14, hlY, ?_, ?_⟩
   ·refine Nat.le_trans (m := 200000) ?_ (by decide)
    have : ({ m' with log := m'.log ++ [((f'.n : Int), f'.w0, f'.w1)] } : Ms).st.length = m'.st.length := rfl
    have : ({ m' with log := m'.log ++ [((f'.n : Int), f'.w0, f'.w1)] } : Ms).steps = m'.steps := rfl
    omega
   walk_at "re"
   refine q1 { m' with log := m'.log ++ [((f'.n : Int), f'.w0, f'.w1)], flt := if g.mean = true then m'.flt else m'.flt ++ (badB m' f').map fun b => ((f'.n : Int), b), st := rest } _ (hgo.trans (.one hout)) rfl ?_ ?_
   ·refine hlen' ▸ R4.setFlt ra (m' := { m' with log := m'.log ++ [((f'.n : Int), f'.w0, f'.w1)], flt := if g.mean = true then m'.flt else m'.flt ++ (badB m' f').map fun b => ((f'.n : Int), b), st := rest }) f14 hP ?_ (fun z => (f3 z).mono e0Y (by simp)) rfl ?_ rfl rfl rfl rfl
    ·show ((fl ++ us).length : Int) + 8 * (rest.length : Int) ≤ 8 * (m'.steps + 1)
     have f2 : (fl.length : Int) + 8 * (m'.st.length : Int) ≤ 8 * (m'.steps + 1) := f2
     rw [List.length_append]; push_cast; omega
    ·show (if g.mean = true then m'.flt else m'.flt ++ (badB m' f').map fun b => ((f'.n : Int), b)) = if g.mean = true then m'.flt else _
     by_cases hmm : g.mean = true
     ·rw [if_pos hmm, if_pos hmm]
     ·have hmm' : g.mean = false := by simpa using hmm
      rw [if_neg hmm, if_neg hmm]
      have : cur = m'.held := by rw [← hcur]; unfold mine; rw [if_neg hmm]
      rw [this, hbf hmm']
      rfl
   ·exact ((E2.trans (e0X.mono (by simp))).trans (e0Y.mono (by simp))).trans (.put (by simp [mutR]))
end
end Fs
set_option maxHeartbeats 1000000
namespace Fs
open PySem L2
section
variable {P : Program} {w : World} {K : PySem.W.Frag} {mg : Str → Option Value} {base : Heap}
noncomputable abbrev sCallI : Stmt := inClass (top 2) 0
theorem scCallI : FnScope ["self", "number", "boxes"] ["self", "number", "boxes"] (defScope sCallI) := ⟨rfl, rfl, rfl, by decide +kernel, rfl, by decide +kernel, by decide +kernel⟩
theorem ok_calli {f C CC : Addr} {fd : FuncData} (F : Fun K "__init__" "Call.__init__" sCallI f fd) (T : RTx K C CC) (nlist : mg "list" = none) :
  FnOk P w K mg base CX0 1 f fd ["self", "number", "boxes"] (spCallI CC) := by
 refine F.ok scCallI (fun vs H Q E h => ?_) (fun cdv A outer s H vs Q E hr h => ?_)
 ·obtain ⟨hp, hdx, hb, n, bl, rfl, _⟩ := h
  rfl
 ·obtain ⟨hp, hdx, hb, n, bl, rfl, hob, hbx, hl8, q⟩ := h
  have nbp : hb ≠ hp := fun z => by rw [z, hob] at hbx; cases hbx
  refine ⟨_, (pss_cons (ps_fld (pv 0) (pv 1) rfl)
   (pss_cons (ps_fld (pv 0) (pv 2) rfl)
   (pss_cons (ps_fld (pv 0) (pe_callTy call_list_of (by rfl) nlist PyProof.Rows.boot_list (pa_cons (pv 2) pa_nil)) rfl)
   (pss_one (ps_fld (pv 0) pe_dnewK rfl))))), ?_⟩
  dsimp only [nox_K, comp_K]
  walk_at "re"
  refine ⟨hp, CC, hdx, _, rfl, hob, T.ccl, T.number, by show 0 < 1000; decide, ?_⟩
  walk_at "re"
  refine ⟨hp, CC, hdx, _, rfl, upd_same, T.ccl, T.cboxes, by show 1 < 1000; decide, ?_⟩
  have x1 : Ext [hp] H (upd (upd H hp (.ins CC hdx (putF "number" (.int n) []))) hp (.ins CC hdx (putF "boxes" (.ref hb) (putF "number" (.int n) [])))) := (Ext.put (by simp)).trans (.put (by simp))
  have o1 : (upd (upd H hp (.ins CC hdx (putF "number" (.int n) []))) hp (.ins CC hdx (putF "boxes" (.ref hb) (putF "number" (.int n) [])))) hp = some (.ins CC hdx (putF "boxes" (.ref hb) (putF "number" (.int n) []))) := upd_same
  generalize (upd (upd H hp (.ins CC hdx (putF "number" (.int n) []))) hp (.ins CC hdx (putF "boxes" (.ref hb) (putF "number" (.int n) [])))) = H1 at x1 o1 ⊢
  have b1 := x1 _ _ (by simpa using nbp) hbx
  walk_at "re"
  refine ⟨hb, _, rfl, .inl (SqL.of b1), fun hg hgn => ?_⟩
  have ng1 : hg ≠ hp := (ne_of_none o1 hgn).symm
  have hgn0 : H hg = none := x1.none (by simpa using ng1) hgn
  have x2 : Ext [hp] H (upd H1 hg (.lst (bl.map V.int))) := x1.trans (.laid hgn)
  have o2 : (upd H1 hg (.lst (bl.map V.int))) hp = some (.ins CC hdx (putF "boxes" (.ref hb) (putF "number" (.int n) []))) := by rw [upd_ne ng1.symm]; exact o1
  have g2 : (upd H1 hg (.lst (bl.map V.int))) hg = some (.lst (bl.map V.int)) := upd_same
  generalize upd H1 hg (.lst (bl.map V.int)) = H2 at x2 o2 g2 ⊢
  walk_at "re"
  refine ⟨hp, CC, hdx, _, rfl, o2, T.ccl, T.begun, by show 2 < 1000; decide, ?_⟩
  have x3 : Ext [hp] H (upd H2 hp (.ins CC hdx (putF "begun" (.ref hg) (putF "boxes" (.ref hb) (putF "number" (.int n) []))))) := x2.trans (.put (by simp))
  have o3 : (upd H2 hp (.ins CC hdx (putF "begun" (.ref hg) (putF "boxes" (.ref hb) (putF "number" (.int n) []))))) hp = some (.ins CC hdx (putF "begun" (.ref hg) (putF "boxes" (.ref hb) (putF "number" (.int n) [])))) := upd_same
  have g3 : (upd H2 hp (.ins CC hdx (putF "begun" (.ref hg) (putF "boxes" (.ref hb) (putF "number" (.int n) []))))) hg = some (.lst (bl.map V.int)) := by rw [upd_ne ng1]; exact g2
  generalize upd H2 hp (.ins CC hdx (putF "begun" (.ref hg) (putF "boxes" (.ref hb) (putF "number" (.int n) [])))) = H3 at x3 o3 g3 ⊢
  walk_at "re"
  refine r_dnewK fun ha han => ?_
  have na1 : ha ≠ hp := (ne_of_none o3 han).symm
  have na2 : ha ≠ hg := (ne_of_none g3 han).symm
  walk_at "re"
  refine ⟨hp, CC, hdx, _, rfl, by rw [upd_ne na1.symm]; exact o3, T.ccl, T.aside, by show 3 < 1000; decide, ?_⟩
  exact q hg ha _ hgn0 (x3.none (by simpa using na1) han) ((x3.trans (.laid han)).trans (.put (by simp))) upd_same (by rw [upd_ne ng1, upd_ne na2.symm]; exact g3) (by rw [upd_ne na1, upd_same])
end
end Fs
set_option maxHeartbeats 1000000
namespace Fs
open PySem L2
section
variable {P : Program} {w : World} {K : PySem.W.Frag} {mg : Str → Option Value} {base : Heap}
noncomputable abbrev sRunI : Stmt := inClass (top 3) 0
theorem scRunI : FnScope ["self", "works", "boxes", "choices", "most", "sharing"] ["self", "works", "boxes", "choices", "most", "sharing"] (defScope sRunI) := ⟨rfl, rfl, rfl, by decide +kernel, rfl, by decide +kernel, by decide +kernel⟩
theorem ok_runi {f C CC : Addr} {fd : FuncData} (F : Fun K "__init__" "Running.__init__" sRunI f fd) (T : RTx K C CC) (nlist : mg "list" = none) :
  FnOk P w K mg base CX0 1 f fd ["self", "works", "boxes", "choices", "most", "sharing"] (spRunI P w K C CC) := by
 refine F.ok scRunI (fun vs H Q E h => ?_) (fun cdv A outer s H vs Q E hr h => ?_)
 ·obtain ⟨self, dx, wa, bx, ca, most, sh, bl, rfl, _⟩ := h
  rfl
 ·obtain ⟨self, dx, wa, bx, ca, most, sh, bl, rfl, hob, hbx, hl8, q⟩ := h
  have I : IniAt H H self C dx [] 0 [] := ⟨.refl _ _, hob, Nat.le_refl _, (fun p hp => by cases hp), .nil⟩
  refine ⟨_, (pss_cons (ps_fld (pv 0) (pv 1) rfl)
   (pss_cons (ps_fld (pv 0) (pe_callTy call_list_of (by rfl) nlist PyProof.Rows.boot_list (pa_cons (pv 2) pa_nil)) rfl)
   (pss_cons (ps_fld (pv 0) (pv 3) rfl)
   (pss_cons (ps_fld (pv 0) (pv 4) rfl)
   (pss_cons (ps_fld (pv 0) (pv 5) rfl)
   (pss_cons (ps_fld (pv 0) pe_str rfl)
   (pss_cons (ps_fld (pv 0) pe_int rfl)
   (pss_cons (ps_fld (pv 0) pe_int rfl)
   (pss_cons (ps_fld (pv 0) pe_int rfl)
   (pss_cons (ps_fld (pv 0) (pe_lst pa_nil) rfl)
   (pss_cons (ps_fld (pv 0) (pe_lst pa_nil) rfl)
   (pss_cons (ps_fld (pv 0) pe_int rfl)
   (pss_cons (ps_fld (pv 0) pe_int rfl)
   (pss_one (ps_fld (pv 0) pe_dnewN rfl))))))))))))))), ?_⟩
  dsimp only [nox_K, comp_K]
  walk_at "re"
  refine ⟨self, C, dx, _, rfl, I.o, T.cl, T.works, I.few (by decide), ?_⟩
  replace I := I.put "works" (.ref wa)
  generalize upd H self _ = H1 at I ⊢
  walk_at "re"
  refine ⟨bx, _, rfl, .inl (seq_ext hob I.x hbx), fun ba hba => ?_⟩
  replace I := I.lay (.lst (bl.map V.int)) hba
  clear hba
  generalize upd H1 ba _ = G1 at I ⊢
  walk_at "re"
  refine ⟨self, C, dx, _, rfl, I.o, T.cl, T.boxes, I.few (by decide), ?_⟩
  replace I := I.put "boxes" (.ref ba)
  generalize upd G1 self _ = H2 at I ⊢
  walk_at "re"
  refine ⟨self, C, dx, _, rfl, I.o, T.cl, T.choices, I.few (by decide), ?_⟩
  replace I := I.put "choices" (.ref ca)
  generalize upd H2 self _ = H3 at I ⊢
  walk_at "re"
  refine ⟨self, C, dx, _, rfl, I.o, T.cl, T.most, I.few (by decide), ?_⟩
  replace I := I.put "most" (.int most)
  generalize upd H3 self _ = H4 at I ⊢
  walk_at "re"
  refine ⟨self, C, dx, _, rfl, I.o, T.cl, T.sharing, I.few (by decide), ?_⟩
  replace I := I.put "sharing" (.bl sh)
  generalize upd H4 self _ = H5 at I ⊢
  walk_at "re"
  refine ⟨self, C, dx, _, rfl, I.o, T.cl, T.state, I.few (by decide), ?_⟩
  replace I := I.put "state" (.str "ended")
  generalize upd H5 self _ = H6 at I ⊢
  walk_at "re"
  refine ⟨self, C, dx, _, rfl, I.o, T.cl, T.steps, I.few (by decide), ?_⟩
  replace I := I.put "steps" (.int 0)
  generalize upd H6 self _ = H7 at I ⊢
  walk_at "re"
  refine ⟨self, C, dx, _, rfl, I.o, T.cl, T.forks, I.few (by decide), ?_⟩
  replace I := I.put "forks" (.int 0)
  generalize upd H7 self _ = H8 at I ⊢
  walk_at "re"
  refine ⟨self, C, dx, _, rfl, I.o, T.cl, T.depth, I.few (by decide), ?_⟩
  replace I := I.put "depth" (.int 0)
  generalize upd H8 self _ = H9 at I ⊢
  walk_at "re"
  refine ⟨len2 (by show 0 ≤ 1000; decide), fun ta hta => ?_⟩
  replace I := I.lay (.lst []) hta
  clear hta
  generalize upd H9 ta _ = G9 at I ⊢
  walk_at "re"
  refine ⟨self, C, dx, _, rfl, I.o, T.cl, T.told, I.few (by decide), ?_⟩
  replace I := I.put "told" (.ref ta)
  generalize upd G9 self _ = H10 at I ⊢
  walk_at "re"
  refine ⟨len2 (by show 0 ≤ 1000; decide), fun fa hfa => ?_⟩
  replace I := I.lay (.lst []) hfa
  clear hfa
  generalize upd H10 fa _ = G10 at I ⊢
  walk_at "re"
  refine ⟨self, C, dx, _, rfl, I.o, T.cl, T.faults, I.few (by decide), ?_⟩
  replace I := I.put "faults" (.ref fa)
  generalize upd G10 self _ = H11 at I ⊢
  walk_at "re"
  refine ⟨self, C, dx, _, rfl, I.o, T.cl, T.saves, I.few (by decide), ?_⟩
  replace I := I.put "saves" (.int 0)
  generalize upd H11 self _ = H12 at I ⊢
  walk_at "re"
  refine ⟨self, C, dx, _, rfl, I.o, T.cl, T.backs, I.few (by decide), ?_⟩
  replace I := I.put "backs" (.int 0)
  generalize upd H12 self _ = H13 at I ⊢
  walk_at "re"
  refine r_dnewN (P := P) (w := w) fun ga hga => ?_
  replace I := I.lay (gO P w []) hga
  clear hga
  generalize upd H13 ga _ = G13 at I ⊢
  walk_at "re"
  refine ⟨self, C, dx, _, rfl, I.o, T.cl, T.gone, I.few (by decide), ?_⟩
  replace I := I.put "gone" (.ref ga)
  generalize upd G13 self _ = H14 at I ⊢
  have nd : [ga, fa, ta, ba].Nodup := I.nd
  have cs := I.ce
  obtain ⟨g1, _, g2⟩ := cs (ga, gO P w []) (by simp)
  obtain ⟨f1, _, f2⟩ := cs (fa, .lst []) (by simp)
  obtain ⟨t1, _, t2⟩ := cs (ta, .lst []) (by simp)
  obtain ⟨b1, _, b2⟩ := cs (ba, .lst (bl.map V.int)) (by simp)
  have ne : ∀ {i j : Nat} {x y : Addr}, i < j → [ga, fa, ta, ba][i]? = some x → [ga, fa, ta, ba][j]? = some y → x ≠ y := by
   intro i j x y hij hi hj
   obtain ⟨p, e⟩ := List.getElem?_eq_some_iff.mp hi
   obtain ⟨p', e'⟩ := List.getElem?_eq_some_iff.mp hj
   rw [← e, ← e']
   exact List.pairwise_iff_getElem.mp nd i j p p' hij
  exact q ⟨self, dx, wa, ba, ca, ta, fa, ga, C, CC⟩ _ rfl rfl rfl rfl rfl rfl b2 t2 f2 g2 (ne (i := 1) (j := 2) (by decide) rfl rfl).symm (ne (i := 2) (j := 3) (by decide) rfl rfl) (ne (i := 1) (j := 3) (by decide) rfl rfl) I.x I.o b1 t1 f1 g1
end
end Fs
set_option maxHeartbeats 1000000
namespace Fs
open PySem L2
section
variable {P : Program} {w : World} {K : PySem.W.Frag} {mg : Str → Option Value} {base : Heap}
noncomputable abbrev sGone : Stmt := top 4
theorem scGone : FnScope ["works", "number", "boxes", "choices", "most", "sharing", "running", "stop"] ["works", "number", "boxes", "choices", "most", "sharing"] (defScope sGone) := ⟨rfl, rfl, rfl, by decide +kernel, rfl, by decide +kernel, by decide +kernel⟩
theorem ok_gone {f C CC : Addr} {fd : FuncData} (F : Fun K "gone_through" "gone_through" sGone f fd) (T : RTx K C CC) (hR : HasC P w K mg base "Running" C 1 ["self", "works", "boxes", "choices", "most", "sharing"] (spRunI P w K C CC)) (hC : HasM P w K mg base C "call" 84 ["self", "number", "boxes"] (spCallM P w K C CC 20)) :
  FnOk P w K mg base CX0 85 f fd ["works", "number", "boxes", "choices", "most", "sharing"] (spGone P w K C CC) := by
 refine F.ok scGone (fun vs H Q E h => ?_) (fun cdv A outer s H vs Q E hr h => ?_)
 ·obtain ⟨g, wa, bx, ca, c, bl, rfl, _⟩ := h
  rfl
 ·obtain ⟨g, wa, bx, ca, c, bl, rfl, gv, hD, hbx, hl8, hca, c0, c1, q⟩ := h
  refine ⟨_, (pss_cons (ps_set (i := 6) scGone.nd rfl (Or.inl rfl) (pe_mk hR hr (by omega) (pa_cons (pv 0) (pa_cons (pv 2) (pa_cons (pv 3) (pa_cons (pv 4) (pa_cons (pv 5) pa_nil)))))))
   (pss_cons (ps_set (i := 7) scGone.nd rfl (Or.inl rfl) (pe_mt hC T.cl hr (by omega) (pv 6) (pa_cons (pv 1) (pa_cons (pe_fld (pv 6) rfl) pa_nil))))
   (pss_cons (ps_if (pt_cmpR op_notN (pv 7) pe_non (nomark _)) (pss_one (ps_fld (pv 6) (pv 7) rfl)) pss_nil)
   (pss_one (ps_ret (pv 6)))))), ?_⟩
  dsimp only [nox_K, comp_K]
  walk_at "re"
  refine fun x dx hx hdx hne => ?_
  have x1 : Ext [] H (upd (upd H dx (.own x)) x (.ins C dx [])) := (Ext.laid hdx).trans (.laid (by rw [upd_ne hne.symm]; exact hx))
  have o1 : (upd (upd H dx (.own x)) x (.ins C dx [])) x = some (.ins C dx []) := upd_same
  generalize upd (upd H dx (.own x)) x (.ins C dx []) = H1 at x1 o1 ⊢
  refine ⟨x, dx, wa, bx, ca, g.most, !g.mean, bl, rfl, o1, x1.toSame.seq hbx, hl8, fun r H2 e1 e2 e3 e4 e5 e6 n1 n2 n3 n4 m1 m2 m3 x2 o2 t1 t2 t3 t4 => ⟨rfl, ?_⟩⟩
  subst e1 e2 e3 e4 e5 e6
  have x12 : Ext [] H H2 := ((x1.mono (us := [r.self]) (by simp)).trans x2).drop hx
  have ra : RaOk K g r H := ⟨T, hD, hca, hx, x1.none (by simp) n2, x1.none (by simp) n3, x1.none (by simp) n1, x1.none (by simp) n4, m1, m2, m3⟩
  have R : RunAt P w g r H H2 (pushed (ms0 bl) c bl) (ms0 bl).steps (ms0 bl).taken (ms0 bl).st.length := ⟨o2, t2, ⟨[], t3, by show ((0 : Nat) : Int) + 8 * ((1 : Nat) : Int) ≤ 8 * (0 + 1); decide, fun _ => .nil⟩, t1, ⟨[], t4, (fun _ h => nomatch h), Nat.zero_le _, fun k => rfl⟩, x12⟩
  walk_at "re"
  refine ⟨r.self, r.dx, _, rfl, R.ob, by rfl, ?_⟩
  walk_at "re"
  refine ⟨_, _, _, _, _, rfl, R.ob, T.cl, T.boxes, rf_boxes _ _ _ _ _ _ _ _ _, ?_⟩
  walk_at "re"
  refine ⟨r, g, H, ms0 bl, c, r.ba, bl, rfl, rfl, rfl, gv, ra, R, by show 0 ≤ 20; decide, t1, hl8, fun _ => ⟨rfl, rfl⟩, c0, by show 20 ≤ 0 + 20; decide, fun h => absurd h (by show ¬ 0 = 20; decide), fun _ => ⟨ms0_ok gv hl8 c0 c1, fun m' H' hgo hst RR ee => ?_, fun m' cc mid H' s' t' d' hgo hstp hcc RR => ?_⟩⟩
  ·walk_at "re"
   refine ⟨rfl, ?_⟩
   rw [decide_eq_true rfl]
   walk_at "re"
   refine iteF ?_
   walk_at "re"
   exact q r m' 0 H' (.of hgo (.done hst)) (.of RR) ra rfl (hgo.ok gv (ms0_ok gv hl8 c0 c1)) RR.old
  ·walk_at "re"
   refine ⟨rfl, ?_⟩
   rw [decide_eq_false (by intro z; cases z)]
   walk_at "re"
   refine iteT ?_
   walk_at "re"
   refine ⟨r.self, r.C, r.dx, _, rfl, RR.ob, T.cl, T.state, rf_len _ _ _ _ _ _ _ _ _, ?_⟩
   rw [rp_state]
   walk_at "re"
   refine q r m' cc _ (.of hgo (.stop hstp hcc)) (.stop RR ra hcc) ra rfl (mstep_ok gv (hgo.ok gv (ms0_ok gv hl8 c0 c1)) hstp) ?_
   exact (((RR.old.mono (us := [r.self]) (by simp)).trans (.put (by simp))).drop hx)
end
end Fs
set_option maxHeartbeats 1000000
namespace Fs
open PySem L2
section
variable {P : Program} {w : World} {K : PySem.W.Frag} {mg : Str → Option Value} {base : Heap}
theorem DenL.take {K : PySem.W.Frag} {G : Hp} : ∀ {ds : List PyData} {vs : List V} (n : Nat), DenL K G ds vs → DenL K G (ds.take n) (vs.take n)
 | [], vs, n, h => by have := h.ofNil; subst this; simpa using DenL.nil
 | d :: ds, vs, 0, h => by simpa using DenL.nil
 | d :: ds, vs, n + 1, h => by
  obtain ⟨v, r, rfl, h1, h2⟩ := h.ofCons
  exact .cons h1 (DenL.take n h2)
theorem DenL.drop {K : PySem.W.Frag} {G : Hp} : ∀ {ds : List PyData} {vs : List V} (n : Nat), DenL K G ds vs → DenL K G (ds.drop n) (vs.drop n)
 | [], vs, n, h => by have := h.ofNil; subst this; simpa using DenL.nil
 | d :: ds, vs, 0, h => h
 | d :: ds, vs, n + 1, h => by
  obtain ⟨v, r, rfl, h1, h2⟩ := h.ofCons
  exact DenL.drop n h2
theorem wo_old {ts us : List Addr} {H H' : Hp} (e : Ext us H H') (h : ∀ x ∈ us, x ∈ ts ∨ H x = none) {vs : List Addr} (k : ∀ x ∈ vs, x ∈ ts ∨ H x = none) : Same (wo ts H) (wo vs H') := fun b o q => by
 have hb : b ∉ ts := fun z => by rw [wo_in z] at q; cases q
 rw [wo_out hb] at q
 rw [wo_out (fun z => by rcases k b z with y | y; exact hb y; rw [q] at y; cases y)]
 exact e b o (fun z => by rcases h b z with y | y; exact hb y; rw [q] at y; cases y) q
noncomputable abbrev sMoves : Stmt := top 21
theorem scMoves : FnScope ["_law_tape_here", "_law_works_here", "_law_found", "_law_mine", "_law_work_here", "_law_made", "_law_deeds_here", "_law_end", "_law_some", "_law_turn", "_law_word"] ["_law_tape_here", "_law_works_here"] (defScope sMoves) := ⟨rfl, rfl, rfl, by decide +kernel, rfl, by decide +kernel, by decide +kernel⟩
theorem ok_moves {f : Addr} {fd : FuncData} (F : Fun K "_law_with_moves" "_law_with_moves" sMoves f fd) (nrange : mg "range" = none) (nlist : mg "list" = none) (nlen : mg "len" = none) (hD : Has P w K mg base "_law_draw" 1 ["_law_tape_here", "_law_many_here"] spDraw) :
  FnOk P w K mg base CX0 2 f fd ["_law_tape_here", "_law_works_here"] (spMovesL K) := by
 refine F.ok scMoves (fun vs H Q E h => ?_) (fun cdv A outer s H vs Q E hr h => ?_)
 ·obtain ⟨t, l0, k, as0, ws0, works, rfl, _⟩ := h
  rfl
 ·obtain ⟨t, l0, k, as0, ws0, works, rfl, hT, hk, hl0, nl0, nt0, hA0, hok0, hfew0, q⟩ := h
  refine ⟨_, pss_cons (ps_par (i := 2) (j := 3) rfl scMoves.nd rfl rfl (by decide) rfl rfl (pa_cons (pe_lst pa_nil) (pa_cons (pe_lst (pa_cons (pe_fn hD hr (by decide) (pa_cons (pv 0) (pa_cons pe_int pa_nil))) (pa_cons (pe_fn hD hr (by decide) (pa_cons (pv 0) (pa_cons pe_int pa_nil))) pa_nil))) pa_nil)) rfl)
   (pss_cons (ps_for PassesOwn.never rfl (pi_list (pv 1)) (pg_name (i := 4) scMoves.nd rfl (Or.inl rfl))
    (pss_cons (ps_set (i := 5) scMoves.nd rfl (Or.inl rfl) (pe_lst pa_nil))
    (pss_cons (ps_for PassesOwn.never rfl (pi_list (pv 4)) (pg_tup (n := 2) rfl (pgs_cons (pg_name (i := 6) scMoves.nd rfl (Or.inl rfl)) (pgs_cons (pg_name (i := 7) scMoves.nd rfl (Or.inl rfl)) pgs_nil)))
     (pss_cons (ps_set (i := 8) scMoves.nd rfl (Or.inl rfl) (pe_callTy call_list_of (by rfl) nlist PyProof.Rows.boot_list (pa_cons (pv 6) pa_nil)))
     (pss_cons (ps_for PassesOwn.never rfl (pi_range1 rfl nrange (pa_cons (pe_fn hD hr (by decide) (pa_cons (pv 0) (pa_cons pe_int pa_nil))) pa_nil)) (pg_name (i := 9) scMoves.nd rfl (Or.inl rfl))
      (pss_cons (ps_set (i := 10) scMoves.nd rfl (Or.inl rfl) (pe_ix ix_list (pe_lst (pa_cons pe_str (pa_cons pe_str (pa_cons pe_str (pa_cons pe_str pa_nil))))) (pe_fn hD hr (by decide) (pa_cons (pv 0) (pa_cons pe_int pa_nil))) (fun _ _ => rfl)))
      (pss_one (ps_expr (pe_bm PySem.F.plainAttrs_list PySem.F.slot_list_insert PySem.F.type_list_insert mt_insert (pv 8) (pa_cons (pe_fn hD hr (by decide) (pa_cons (pv 0) (pa_cons (pe_op op_add (pe_callB call_len_seq (by rfl) nlen PySem.boot_len (pa_cons (pv 8) pa_nil)) pe_int) pa_nil))) (pa_cons (pe_tup (pa_cons (pv 10) (pa_cons (pe_ix ix_list (pv 3) (pe_fn hD hr (by decide) (pa_cons (pv 0) (pa_cons pe_int pa_nil))) (fun _ _ => rfl)) pa_nil))) pa_nil)))))))
     (pss_one (ps_expr (pe_bm PySem.F.plainAttrs_list PySem.F.slot_list_append PySem.F.type_list_append mt_append (pv 5) (pa_cons (pe_tup (pa_cons (pv 8) (pa_cons (pv 7) pa_nil))) pa_nil)))))))
    (pss_one (ps_expr (pe_bm PySem.F.plainAttrs_list PySem.F.slot_list_append PySem.F.type_list_append mt_append (pv 2) (pa_cons (pv 5) pa_nil)))))))
   (pss_one (ps_ret (pv 2)))), ?_⟩
  dsimp only [nox_K]
  walk_at "re"
  refine ⟨len2 (Nat.zero_le _), fun l hl => ?_⟩
  have nlt : l ≠ t := hT.ne hl
  walk_at "re"
  refine r_draw (hT.ext (ts := []) (.laid hl) (by simp)) (by omega) (by decide) (by decide) fun x H1 x1 x2 T1 e1 _ => ?_
  walk_at "re"
  refine r_draw T1 (by omega) (by decide) (by decide) fun y H2 y1 y2 T2 e2 _ => ?_
  walk_at "re"
  refine ⟨len2 (by show 2 ≤ 1000; decide), fun mi hmi => ?_⟩
  have nmt : mi ≠ t := T2.ne hmi
  have l2 : H2 l = some (.lst []) := e2 _ _ (by simpa using nlt) (e1 _ _ (by simpa using nlt) upd_same)
  have nml : mi ≠ l := (ne_of_none l2 hmi).symm
  have E2 : Ext [t] H H2 := (Ext.laid hl).trans (e1.trans e2)
  have hmiH : H mi = none := E2.none (by simpa using nmt) hmi
  have E3 : Ext [t] H (upd H2 mi (.lst [.int x, .int y])) := E2.trans (.laid hmi)
  have T3 : Tape (upd H2 mi (.lst [.int x, .int y])) t (k + 1 + 1) := T2.ext (ts := []) (.laid hmi) (by simp)
  have m3 : upd H2 mi (.lst [V.int x, .int y]) mi = some (.lst [.int x, .int y]) := upd_same
  have l3 : upd H2 mi (.lst [V.int x, .int y]) l = some (.lst []) := by rw [upd_ne nml.symm]; exact l2
  generalize upd H2 mi (.lst [V.int x, .int y]) = H3 at E3 T3 m3 l3 ⊢
  walk_at "re"
  refine ⟨_, _, rfl, ?_⟩
  walk_at "re"
  have hal0 := hA0.len
  have l03 : ∀ {H' : Hp}, Ext [l, t] H3 H' → SqL K H' l0 (as0.map V.ref) := fun {H'} e => SqL.of (e _ _ (by simp [nl0, (ne_of_none hl0 hl)]) (E3 _ _ (by simpa using nl0) hl0))
  refine ⟨l0, rfl, ⟨_, l03 (.refl _ _)⟩, for_list (xs := as0.map V.ref) (fun i σ' H' => ∃ (as : List Addr) (ws : List (List Blk)) (o4 o5 o6 o7 o8 o9 o10 : Option V), σ' = [some (.ref t), some (.ref l0), some (.ref l), some (.ref mi), o4, o5, o6, o7, o8, o9, o10] ∧ as.length = i ∧ (∀ w ∈ ws, ∃ m : Int, 1 ≤ m ∧ m ≤ 12 ∧ WorkOk m works w) ∧
   l ∉ as ∧ (∀ a ∈ as, H a = none ∧ a ≠ t) ∧ as.Nodup ∧ Tape H' t (k + 2 + 100 * i) ∧ Ext [l, t] H3 H' ∧ H' l = some (.lst (as.map V.ref)) ∧ WorksAt K (wo (l :: t :: as) H') H' as ws) ?_ ?_ ?_ ?_⟩
  ·exact ⟨[], [], _, _, _, _, _, _, _, rfl, rfl, by simp, by simp, by simp, .nil, T3, .refl _ _, l3, .nil⟩
  ·rintro i σ' H' hi ⟨as, ws, o4, o5, o6, o7, o8, o9, o10, rfl, hal, hws, hla, has, hnd, T', e', hl', hA⟩
   exact l03 e'
  ·rintro i x σ' H' hx ⟨as, ws, o4, o5, o6, o7, o8, o9, o10, rfl, hal, hws, hla, has, hnd, T', e', hl', hA⟩
   obtain ⟨a0, ha0, rfl⟩ := map_get hx
   obtain ⟨w0, bs0, hw0, hb0, hden0⟩ := hA0.get ha0
   have hi : i < ws0.length := (List.getElem?_eq_some_iff.mp hw0).1
   have hfi := hok0.few
   obtain ⟨m, hm1, hm2, hW0⟩ := hok0.all w0 (List.mem_of_getElem? hw0)
   have hfw := hfew0 w0 (List.mem_of_getElem? hw0)
   have hw0l := hW0.len
   have nt : a0 ≠ t := fun z => nt0 (z ▸ List.mem_of_getElem? ha0)
   have EH : Ext [l, t] H H' := (E3.mono (by simp)).trans e'
   have hbl : bs0.length = w0.length := by rw [hden0.len, List.length_map]
   walk_at "re"
   refine ⟨len2 (Nat.zero_le _), fun md hmd => ?_⟩
   have nmdl : md ≠ l := (ne_of_none hl' hmd).symm
   have nmdt : md ≠ t := T'.ne hmd
   have hmdH : H md = none := EH.none (by simp [nmdl, nmdt]) hmd
   have nmdas : md ∉ as := fun z => by
    obtain ⟨j, hj, e⟩ := List.getElem_of_mem z
    obtain ⟨_, bs', _, hb', _⟩ := hA.get (i := j) (a := md) (by rw [List.getElem?_eq_getElem hj, e])
    rw [hmd] at hb'; cases hb'
   have a0' : H' a0 = some (.lst bs0) := EH _ _ (by simp [nt, (ne_of_none hb0 hl)]) hb0
   have mi' : H' mi = some (.lst [.int x, .int y]) := e' _ _ (by simp [nml, nmt]) m3
   have e4 : Ext [] H' (upd H' md (.lst [])) := .laid hmd
   have T4 := T'.ext e4 (by simp)
   have md4 : upd H' md (.lst []) md = some (.lst []) := upd_same
   have a04 := e4 _ _ (by simp) a0'
   have mi4 := e4 _ _ (by simp) mi'
   have nma0 : md ≠ a0 := (ne_of_none a0' hmd).symm
   have nmi : md ≠ mi := (ne_of_none mi' hmd).symm
   have hE4 : Ext [l, t] H (upd H' md (.lst [])) := EH.trans (e4.mono (by simp))
   generalize upd H' md (.lst []) = H4 at e4 T4 md4 a04 mi4 hE4 ⊢
   walk_at "re"
   refine ⟨a0, rfl, ⟨_, SqL.of a04⟩, for_list (xs := bs0) (fun j σ'' H'' => ∃ (w1 : List Blk) (us : List V) (o6 o7 o8 o9 o10 : Option V), σ'' = [some (.ref t), some (.ref l0), some (.ref l), some (.ref mi), some (.ref a0), some (.ref md), o6, o7, o8, o9, o10] ∧ w1.length = j ∧ (∀ b ∈ w1, BlkOk m works b) ∧
    Tape H'' t (k + 2 + 100 * i + 8 * j) ∧ Ext [md, t] H4 H'' ∧ H'' md = some (.lst us) ∧ DenL K (wo (md :: l :: t :: as) H'') (w1.map blkD) us) ?_ ?_ ?_ ?_⟩
   ·exact ⟨[], [], _, _, _, _, _, rfl, rfl, by simp, T4, .refl _ _, md4, .nil⟩
   ·rintro j σ'' H'' hj ⟨w1, us, o6, o7, o8, o9, o10, rfl, hw1, hok1, T'', e'', hmd'', hden1⟩
    exact SqL.of (e'' _ _ (by simp [nt, nma0.symm]) a04)
   ·rintro j v σ'' H'' hv ⟨w1, us, o6, o7, o8, o9, o10, rfl, hw1, hok1, T'', e'', hmd'', hden1⟩
    obtain ⟨dd, hdd, hDv⟩ := hden0.get hv
    obtain ⟨b, hb, rfl⟩ := map_get hdd
    have hjl : j < w0.length := (List.getElem?_eq_some_iff.mp hb).1
    have hbok := hW0.blk b (List.mem_of_getElem? hb)
    have hb12 := hfw b (List.mem_of_getElem? hb)
    obtain ⟨c, cs, rfl, hc, hcs⟩ := hDv.ofTuple
    obtain ⟨vd, r1, rfl, hd1, hr1⟩ := hcs.ofCons
    obtain ⟨ve, r2, rfl, hd2, hr2⟩ := hr1.ofCons
    have hr2 := hr2.ofNil
    subst hr2
    obtain ⟨dl, dvs, rfl, hdl, hdvs⟩ := hd1.ofList
    have hdvl : dvs.length = b.ds.length := by rw [hdvs.len, List.length_map]
    have EH'' : Ext [md, l, t] H H'' := (hE4.mono (by simp)).trans (e''.mono (by simp))
    have old : ∀ {G : Hp} {vs : List Addr}, Ext [md, l, t] H G → (∀ x ∈ vs, x = t ∨ H x = none) → Same (wo [t] H) (wo vs G) := fun {G vs} e h => wo_old e (by intro x hx; simp at hx; rcases hx with z | z | z <;> simp [z, hmdH, hl]) (fun x hx => by rcases h x hx with z | z; exact .inl (by simp [z]); exact .inr z)
    have S'' : Same (wo [t] H) H'' := fun b o q => wo_same [] H'' b o (old EH'' (by simp) b o q)
    refine r_gtup (S''.seqT hc) rfl ?_
    walk_at "re"
    refine ⟨dl, dvs, rfl, .inl (S''.seq hdl), fun sm hsm => ?_⟩
    have nst : sm ≠ t := T''.ne hsm
    have nsmd : sm ≠ md := (ne_of_none hmd'' hsm).symm
    have mi'' : H'' mi = some (.lst [.int x, .int y]) := e'' _ _ (by simp [nmi.symm, nmt]) mi4
    have l4'' : ∀ o, H' l = some o → H'' l = some o := fun o q => e'' _ _ (by simp [nmdl.symm, nlt]) (e4 _ _ (by simp) q)
    have l'' := l4'' _ hl'
    have nsl : sm ≠ l := (ne_of_none l'' hsm).symm
    have nsmi : sm ≠ mi := (ne_of_none mi'' hsm).symm
    have hsmH : H sm = none := EH''.none (by simp [nsmd, nsl, nst]) hsm
    have as'' : ∀ a ∈ as, ∀ o, H' a = some o → H'' a = some o := fun a ha o q => e'' _ _ (by simp [(has a ha).2]; intro z; exact nmdas (z ▸ ha)) (e4 _ _ (by simp) q)
    have nsas : sm ∉ as := fun z => by
     obtain ⟨j, hj, e⟩ := List.getElem_of_mem z
     obtain ⟨_, bs', _, hb', _⟩ := hA.get (i := j) (a := sm) (by rw [List.getElem?_eq_getElem hj, e])
     rw [as'' sm z _ hb'] at hsm; cases hsm
    have e5 : Ext [] H'' (upd H'' sm (.lst dvs)) := .laid hsm
    have sm5 : upd H'' sm (.lst dvs) sm = some (.lst dvs) := upd_same
    have T5 := T''.ext e5 (by simp)
    have mi5 := e5 _ _ (by simp) mi''
    have md5 := e5 _ _ (by simp) hmd''
    have EH5 : Ext [md, l, t] H (upd H'' sm (.lst dvs)) := EH''.trans (e5.mono (by simp))
    have den5 : DenL K (wo (md :: l :: t :: as) (upd H'' sm (.lst dvs))) (w1.map blkD) us := hden1.mono (e5.mono (us := md :: l :: t :: as) (by simp)).same
    generalize upd H'' sm (.lst dvs) = H5 at e5 sm5 T5 mi5 md5 EH5 den5 ⊢
    walk_at "re"
    refine r_draw T5 (by omega) (by decide) (by decide) fun r6 H6 a6 b6 T6 e6 _ => ?_
    have sm6 := e6 _ _ (by simpa using nst) sm5
    have mi6 := e6 _ _ (by simpa using nmt) mi5
    have EH6 : Ext [md, l, t] H H6 := EH5.trans (e6.mono (by simp))
    have hex : ∀ x ∈ sm :: md :: l :: t :: as, x = t ∨ H x = none := by
     intro z hz
     simp only [List.mem_cons] at hz
     rcases hz with z | z | z | z | z
     ·exact .inr (z ▸ hsmH)
     ·exact .inr (z ▸ hmdH)
     ·exact .inr (z ▸ hl)
     ·exact .inl z
     ·exact .inr (has _ z).1
    walk_at "re"
    refine ⟨r6, rfl, by omega, by omega, for_range (lo := 0) (n := r6.toNat) (fun r σ3 G => ∃ (ds : List Deed) (vs : List V) (o9 o10 : Option V), σ3 = [some (.ref t), some (.ref l0), some (.ref l), some (.ref mi), some (.ref a0), some (.ref md), some (.ref dl), some ve, some (.ref sm), o9, o10] ∧ ds.length = b.ds.length + r ∧ (∀ d ∈ ds, DeedOk works d) ∧
     Tape G t (k + 2 + 100 * i + 8 * j + 1 + 3 * r) ∧ Ext [sm, t] H6 G ∧ G sm = some (.lst vs) ∧ DenL K (wo (sm :: md :: l :: t :: as) G) (ds.map deedD) vs) ?_ ?_ ?_⟩
    ·exact ⟨b.ds, dvs, _, _, rfl, rfl, hbok.ds, T6, .refl _ _, sm6, hdvs.mono (old EH6 hex)⟩
    ·rintro r σ3 G hr3 ⟨ds, vs, o9, o10, rfl, hdl3, hdok, TG, eG, smG, denG⟩
     have hvl : vs.length = ds.length := by rw [denG.len, List.length_map]
     have hr2 : r < 2 := by omega
     walk_at "re"
     refine ⟨len2 (by show 4 ≤ 1000; decide), fun p1 hp1 => ?_⟩
     have np1 : p1 ≠ t := TG.ne hp1
     walk_at "re"
     refine r_draw (TG.ext (ts := []) (.laid hp1) (by simp)) (by omega) (by decide) (by decide) fun r7 H7 a7 b7 T7 e7 k7 => ?_
     obtain ⟨wd, hwd, ewd⟩ : ∃ wd : Str, (wd = "save" ∨ wd = "back" ∨ wd = "tell") ∧ atI [V.str "save", .str "back", .str "save", .str "tell"] r7 = some (.str wd) := by
      have : r7 = 0 ∨ r7 = 1 ∨ r7 = 2 ∨ r7 = 3 := by omega
      rcases this with z | z | z | z <;> subst z
      ·exact ⟨_, .inl rfl, rfl⟩
      ·exact ⟨_, .inr (.inl rfl), rfl⟩
      ·exact ⟨_, .inl rfl, rfl⟩
      ·exact ⟨_, .inr (.inr rfl), rfl⟩
     have hp7 : SqL K H7 p1 [V.str "save", .str "back", .str "save", .str "tell"] := SqL.of (by rw [k7 p1 np1, upd_same])
     refine r_ixL hp7 ewd ?_
     have e67 : Ext [t] G H7 := (Ext.laid hp1).trans e7
     have sm7 : H7 sm = some (.lst vs) := e67 _ _ (by simpa using nst) smG
     walk_at "re"
     refine r_tyL sm7 ?_
     walk_at "re"
     refine ⟨sm, vs, rfl, .inl (SqL.of sm7), ?_⟩
     walk_at "re"
     refine r_draw T7 (by omega) (by omega) (by omega) fun r8 H8 a8 b8 T8 e8 _ => ?_
     walk_at "re"
     refine r_draw T8 (by omega) (by decide) (by decide) fun r9 H9 a9 b9 T9 e9 _ => ?_
     have e79 : Ext [t] G H9 := e67.trans (e8.trans e9)
     have mi9 : H9 mi = some (.lst [.int x, .int y]) := e79 _ _ (by simpa using nmt) (eG _ _ (by simp [nsmi.symm, nmt]) mi6)
     have sm9 : H9 sm = some (.lst vs) := e79 _ _ (by simpa using nst) smG
     obtain ⟨bx, hbx1, hbx2, ebx⟩ : ∃ bx : Int, 0 ≤ bx ∧ bx < 8 ∧ atI [V.int x, .int y] r9 = some (.int bx) := by
      have : r9 = 0 ∨ r9 = 1 := by omega
      rcases this with z | z <;> subst z
      ·exact ⟨x, x1, x2, rfl⟩
      ·exact ⟨y, y1, y2, rfl⟩
     refine r_ixL (SqL.of mi9) ebx ?_
     walk_at "re"
     refine ⟨len2 (by show 2 ≤ 1000; decide), fun p2 hp2 => ?_⟩
     have np2t : p2 ≠ t := T9.ne hp2
     have np2s : p2 ≠ sm := (ne_of_none sm9 hp2).symm
     have EG : Ext [sm, md, l, t] H G := (EH6.mono (by simp)).trans (eG.mono (by simp))
     have np2X : p2 ∉ sm :: md :: l :: t :: as := fun z => by
      simp only [List.mem_cons] at z
      rcases z with z | z | z | z | z
      ·exact np2s z
      ·have : H9 md = some (.lst us) := e79 _ _ (by simpa using nmdt) (eG _ _ (by simp [nsmd.symm, nmdt]) (e6 _ _ (by simpa using nmdt) md5))
       rw [z] at hp2; rw [hp2] at this; cases this
      ·have : H9 l = some (.lst (as.map V.ref)) := e79 _ _ (by simpa using nlt) (eG _ _ (by simp [nsl.symm, nlt]) (e6 _ _ (by simpa using nlt) (e5 _ _ (by simp) l'')))
       rw [z] at hp2; rw [hp2] at this; cases this
      ·exact np2t z
      ·obtain ⟨j, hj, e⟩ := List.getElem_of_mem z
       obtain ⟨_, bs', _, hb', _⟩ := hA.get (i := j) (a := p2) (by rw [List.getElem?_eq_getElem hj, e])
       have nz : p2 ≠ t := (has _ z).2
       have : H9 p2 = some (.lst bs') := e79 _ _ (by simpa using nz) (eG _ _ (by simp [np2s, nz]) (e6 _ _ (by simpa using nz) (e5 _ _ (by simp) (as'' _ z _ hb'))))
       rw [hp2] at this; cases this
     refine ⟨sm, vs, r8, .ref p2, rfl, rfl, by rw [upd_ne np2s.symm]; exact sm9, a8, by omega, by omega, ?_⟩
     have eF : Ext [sm, t] G (upd (upd H9 p2 (.tup [.str wd, .int bx])) sm (.lst (vs.take r8.toNat ++ V.ref p2 :: vs.drop r8.toNat))) := (e79.mono (by simp)).trans ((Ext.laid hp2).trans (.put (by simp)))
     obtain ⟨d, hd, hdD⟩ : ∃ d : Deed, DeedOk works d ∧ deedD d = .tuple [.str wd, .int bx] := by
      rcases hwd with z | z | z <;> subst z
      ·exact ⟨.save bx, ⟨hbx1, hbx2⟩, rfl⟩
      ·exact ⟨.back bx, ⟨hbx1, hbx2⟩, rfl⟩
      ·exact ⟨.tell bx, ⟨hbx1, hbx2⟩, rfl⟩
     refine ⟨ds.take r8.toNat ++ d :: ds.drop r8.toNat, _, _, _, rfl, ?_, ?_, ?_, eG.trans eF, upd_same, ?_⟩
     ·simp only [List.length_append, List.length_cons, List.length_take, List.length_drop]; omega
     ·intro d' hd'
      rcases List.mem_append.mp hd' with z | z
      ·exact hdok _ (List.mem_of_mem_take z)
      ·rcases List.mem_cons.mp z with z | z
       ·exact z ▸ hd
       ·exact hdok _ (List.mem_of_mem_drop z)
     ·exact ((T9.ext (ts := []) (.laid hp2) (by simp)).ext (ts := [sm]) (.put (by simp)) (by simpa using nst.symm)).mono (by omega)
     ·have dF := denG.mono (eF.mono (us := sm :: md :: l :: t :: as) (by simp)).same
      rw [List.map_append, List.map_cons, List.map_take, List.map_drop]
      refine DenL.append (DenL.take _ dF) (.cons ?_ (DenL.drop _ dF))
      rw [hdD]
      refine .tuple (SqT.of ?_) (.cons .str (.cons .int .nil))
      rw [wo_out np2X, upd_ne np2s, upd_same]
    ·rintro σ3 G ⟨ds, vs, o9, o10, rfl, hdl3, hdok, TG, eG, smG, denG⟩
     have md6 := e6 _ _ (by simpa using nmdt) md5
     have mdG : G md = some (.lst us) := eG _ _ (by simp [nsmd.symm, nmdt]) md6
     walk_at "re"
     refine r_tyL mdG ?_
     walk_at "re"
     refine ⟨len2 (by show 2 ≤ 1000; decide), fun p3 hp3 => ?_⟩
     have np3md : p3 ≠ md := (ne_of_none mdG hp3).symm
     have np3t : p3 ≠ t := TG.ne hp3
     have EG : Ext [sm, md, l, t] H G := (EH6.mono (by simp)).trans (eG.mono (by simp))
     have hul : us.length = j := by rw [hden1.len, List.length_map, hw1]
     have eG5 : Ext [sm, t] H5 G := (e6.mono (by simp)).trans eG
     have np3X : p3 ∉ md :: l :: t :: as := fun z => by
      simp only [List.mem_cons] at z
      rcases z with z | z | z | z
      ·exact np3md z
      ·have : G l = some (.lst (as.map V.ref)) := eG5 _ _ (by simp [nsl.symm, nlt]) (e5 _ _ (by simp) l'')
       rw [z] at hp3; rw [hp3] at this; cases this
      ·exact np3t z
      ·obtain ⟨j, hj, e⟩ := List.getElem_of_mem z
       obtain ⟨_, bs', _, hb', _⟩ := hA.get (i := j) (a := p3) (by rw [List.getElem?_eq_getElem hj, e])
       have nz : p3 ≠ t := (has _ z).2
       have nz2 : p3 ≠ sm := fun y => nsas (y ▸ z)
       have : G p3 = some (.lst bs') := eG5 _ _ (by simp [nz2, nz]) (e5 _ _ (by simp) (as'' _ z _ hb'))
       rw [hp3] at this; cases this
     walk_at "re"
     refine r_app (by rw [upd_ne np3md.symm]; exact mdG) (small1000 (by omega)) ?_
     have eP : Ext [md, t] G (upd (upd G p3 (.tup [.ref sm, ve])) md (.lst (us ++ [V.ref p3]))) := (Ext.laid hp3).trans (.put (by simp))
     have hG'' : Ext [md, t] H'' G := fun b o hb q => by
      have nb : b ≠ sm := fun z => by rw [z, hsm] at q; cases q
      have hb1 : b ≠ md := fun z => hb (by simp [z])
      have hb2 : b ≠ t := fun z => hb (by simp [z])
      exact eG5 _ _ (by simp [nb, hb2]) (e5 _ _ (by simp) q)
     refine ⟨w1 ++ [⟨ds, b.ns⟩], us ++ [V.ref p3], _, _, _, _, _, rfl, by rw [List.length_append, hw1]; rfl, ?_, ?_, e''.trans (hG''.trans eP), upd_same, ?_⟩
     ·intro b' hb'
      rcases List.mem_append.mp hb' with z | z
      ·exact hok1 _ z
      ·rw [List.mem_singleton.mp z]
       exact ⟨hbok.ns, hdok, by show ds.length ≤ 20; omega⟩
     ·exact ((TG.ext (ts := []) (.laid hp3) (by simp)).ext (ts := [md]) (.put (by simp)) (by simpa using nmdt.symm)).mono (by omega)
     ·rw [List.map_append]
      have nsX : sm ∉ md :: l :: t :: as := fun z => by
       simp only [List.mem_cons] at z
       rcases z with z | z | z | z
       ·exact nsmd z
       ·exact nsl z
       ·exact nst z
       ·exact nsas z
      have eP' : Ext (md :: l :: t :: as) G (upd (upd G p3 (.tup [.ref sm, ve])) md (.lst (us ++ [V.ref p3]))) := eP.mono (by simp)
      refine DenL.append ?_ (.cons (.tuple (vs := [.ref sm, ve]) (SqT.of ?_) (.cons (.list (vs := vs) (SqL.of ?_) ?_) (.cons ?_ .nil))) .nil)
      ·refine hden1.mono fun b o q => ?_
       have hb : b ∉ md :: l :: t :: as := fun z => by rw [wo_in z] at q; cases q
       rw [wo_out hb] at q ⊢
       exact (hG''.trans eP) _ _ (fun z => hb (by simp at z; rcases z with z | z <;> simp [z])) q
      ·rw [wo_out np3X, upd_ne np3md, upd_same]
      ·rw [wo_out nsX]; exact eP _ _ (by simp [nsmd, nst]) smG
      ·refine (denG.mono (same_wo (ts := md :: l :: t :: as) (us := sm :: md :: l :: t :: as) (by intro z hz; exact List.mem_cons_of_mem _ hz))).mono eP'.same
      ·refine hd2.mono ?_
       refine wo_old (us := [sm, md, l, t]) (EG.trans (eP.mono (by simp))) (by intro z hz; simp at hz; rcases hz with z | z | z | z <;> simp [z, hsmH, hmdH, hl]) (fun z hz => ?_)
       rcases hex z (List.mem_cons_of_mem _ hz) with y | y
       ·exact .inl (by simp [y])
       ·exact .inr y
   ·rintro σ'' H'' ⟨w1, us, o6, o7, o8, o9, o10, rfl, hw1, hok1, T'', e'', hmd'', hden1⟩
    have l'' : H'' l = some (.lst (as.map V.ref)) := e'' _ _ (by simp [nmdl.symm, nlt]) (e4 _ _ (by simp) hl')
    have as'' : ∀ a ∈ as, ∀ o, H' a = some o → H'' a = some o := fun a ha o q => e'' _ _ (by simp [(has a ha).2]; intro z; exact nmdas (z ▸ ha)) (e4 _ _ (by simp) q)
    walk_at "re"
    refine r_tyL l'' ?_
    walk_at "re"
    refine r_app l'' (small1000 (by rw [List.length_map]; omega)) ?_
    have hH'' : Ext [l, t] H' H'' := fun b o hb q => by
     have nb : b ≠ md := fun z => by rw [z, hmd] at q; cases q
     have hb2 : b ≠ t := fun z => hb (by simp [z])
     exact e'' _ _ (by simp [nb, hb2]) (e4 _ _ (by simp) q)
    have eL : Ext [l, t] H' (upd H'' l (.lst (as.map V.ref ++ [V.ref md]))) := hH''.trans (.put (by simp))
    refine ⟨as ++ [md], ws ++ [w1], _, _, _, _, _, _, _, rfl, by rw [List.length_append, hal]; rfl, ?_, by simp [hla, nmdl.symm], ?_, ?_, ?_, e'.trans eL, by rw [upd_same, List.map_append]; rfl, ?_⟩
    ·intro w hw
     rcases List.mem_append.mp hw with z | z
     ·exact hws _ z
     ·rw [List.mem_singleton.mp z]; exact ⟨m, hm1, hm2, ⟨by omega, hok1⟩⟩
    ·intro a ha
     rcases List.mem_append.mp ha with z | z
     ·exact has _ z
     ·rw [List.mem_singleton.mp z]; exact ⟨hmdH, nmdt⟩
    ·exact List.nodup_append.mpr ⟨hnd, by simp, by intro x hx y hy; simp at hy; subst hy; intro e; subst e; exact nmdas hx⟩
    ·exact (T''.ext (ts := [l]) (.put (by simp)) (by simpa using nlt.symm)).mono (by omega)
    ·have key : Same (wo (l :: t :: as) H') (wo (l :: t :: (as ++ [md])) (upd H'' l (.lst (as.map V.ref ++ [V.ref md])))) := fun b o q => by
      have hb : b ∉ l :: t :: as := fun z => by rw [wo_in z] at q; cases q
      rw [wo_out hb] at q
      have nb : b ≠ md := fun z => by rw [z, hmd] at q; cases q
      rw [wo_out (fun z => by
       simp only [List.mem_cons, List.mem_append, List.not_mem_nil, or_false] at z
       rcases z with z | z | z | z
       ·exact hb (by simp [z])
       ·exact hb (by simp [z])
       ·exact hb (by simp [z])
       ·exact nb z)]
      exact eL _ _ (fun z => hb (by simp at z; rcases z with z | z <;> simp [z])) q
     refine (hA.mono key fun b hb o e => ?_).snoc (bs := us) (by rw [upd_ne nmdl]; exact hmd'') (hden1.mono fun b o q => ?_)
     ·have nbl : b ≠ l := fun z => hla (z ▸ hb)
      exact eL _ _ (by simp [nbl, (has b hb).2]) e
     ·have hb : b ∉ md :: l :: t :: as := fun z => by rw [wo_in z] at q; cases q
      rw [wo_out hb] at q
      rw [wo_out (fun z => by
       simp only [List.mem_cons, List.mem_append, List.not_mem_nil, or_false] at z
       rcases z with z | z | z | z <;> exact hb (by simp [z])), upd_ne (fun z => hb (by simp [z]))]
      exact q
  ·rintro σ' H' ⟨as, ws, o4, o5, o6, o7, o8, o9, o10, rfl, hal, hws, hla, has, hnd, T', e', hl', hA⟩
   walk_at "re"
   have hwl := hA.len
   have h1 := hok0.one
   have h2 := hok0.few
   rw [List.length_map] at hal T'
   exact q l as ws H' hl nlt hla has hnd (T'.mono (by omega)) ((E3.mono (by simp)).trans e' |>.drop hl) hl' hA ⟨hws, by omega, by omega⟩ (by simpa using hal)
end
end Fs
set_option maxHeartbeats 1000000
namespace Fs
open PySem L2
section
variable {P : Program} {w : World} {K : PySem.W.Frag} {mg : Str → Option Value} {base : Heap}
noncomputable abbrev sMeant : Stmt := top 5
theorem scMeant : FnScope ["works", "number", "boxes", "choices", "most", "running"] ["works", "number", "boxes", "choices", "most"] (defScope sMeant) := ⟨rfl, rfl, rfl, by decide +kernel, rfl, by decide +kernel, by decide +kernel⟩
theorem ok_meant {f C CC : Addr} {fd : FuncData} (F : Fun K "meant" "meant" sMeant f fd) (T : RTx K C CC) (hG : Has P w K mg base "gone_through" 85 ["works", "number", "boxes", "choices", "most", "sharing"] (spGone P w K C CC)) :
  FnOk P w K mg base CX0 86 f fd ["works", "number", "boxes", "choices", "most"] (spMeant K) := by
 refine F.ok scMeant (fun vs H Q E h => ?_) (fun cdv A outer s H vs Q E hr h => ?_)
 ·obtain ⟨g, wa, bx, ca, c, bl, rfl, _⟩ := h
  rfl
 ·obtain ⟨g, wa, bx, ca, c, bl, rfl, gv, hm, hD, hbx, hl8, hca, c0, c1, q⟩ := h
  refine ⟨_, (pss_cons (ps_set (i := 5) scMeant.nd rfl (Or.inl rfl) (pe_fn hG hr (by omega) (pa_cons (pv 0) (pa_cons (pv 1) (pa_cons (pv 2) (pa_cons (pv 3) (pa_cons (pv 4) (pa_cons pe_bl pa_nil))))))))
   (pss_one (ps_ret (pe_tup (pa_cons (pe_fld (pv 5) rfl) (pa_cons (pe_fld (pv 5) rfl) pa_nil)))))), ?_⟩
  dsimp only [nox_K, comp_K]
  walk_at "re"
  refine ⟨g, wa, bx, ca, c, bl, by rw [hm]; rfl, gv, hD, hbx, hl8, hca, c0, c1, fun r m' cc H' hfi en ra hC mo ee => ?_⟩
  subst hC
  obtain ⟨s', t', d', ob⟩ := en.ob
  walk_at "re"
  refine ⟨_, _, _, _, _, rfl, ob, T.cl, T.state, rf_state _ _ _ _ _ _ _ _ _, ?_⟩
  walk_at "re"
  refine ⟨_, _, _, _, _, rfl, ob, T.cl, T.told, rf_told _ _ _ _ _ _ _ _ _, ?_⟩
  walk_at "re"
  refine ⟨len2 (by show 2 ≤ 1000; decide), fun tp htp => ?_⟩
  have ntp : r.ta ≠ tp := ne_of_none en.told htp
  walk_at "re"
  exact q tp r.ta m' cc _ hfi upd_same (by rw [upd_ne ntp]; exact en.told) ra.nta (ee.none (by simp) htp) mo (ee.trans (.laid htp))
end
end Fs
set_option maxHeartbeats 1000000
namespace Fs
open PySem L2
section
variable {P : Program} {w : World} {K : PySem.W.Frag} {mg : Str → Option Value} {base : Heap}
noncomputable abbrev sRunF : Stmt := top 6
theorem scRunF : FnScope ["works", "number", "boxes", "choices", "most", "running"] ["works", "number", "boxes", "choices", "most"] (defScope sRunF) := ⟨rfl, rfl, rfl, by decide +kernel, rfl, by decide +kernel, by decide +kernel⟩
theorem ok_run {f C CC : Addr} {fd : FuncData} (F : Fun K "run" "run" sRunF f fd) (T : RTx K C CC) (hG : Has P w K mg base "gone_through" 85 ["works", "number", "boxes", "choices", "most", "sharing"] (spGone P w K C CC)) :
  FnOk P w K mg base CX0 86 f fd ["works", "number", "boxes", "choices", "most"] (spRun K) := by
 refine F.ok scRunF (fun vs H Q E h => ?_) (fun cdv A outer s H vs Q E hr h => ?_)
 ·obtain ⟨g, wa, bx, ca, c, bl, rfl, _⟩ := h
  rfl
 ·obtain ⟨g, wa, bx, ca, c, bl, rfl, gv, hm, hD, hbx, hl8, hca, c0, c1, q⟩ := h
  refine ⟨_, (pss_cons (ps_set (i := 5) scRunF.nd rfl (Or.inl rfl) (pe_fn hG hr (by omega) (pa_cons (pv 0) (pa_cons (pv 1) (pa_cons (pv 2) (pa_cons (pv 3) (pa_cons (pv 4) (pa_cons pe_bl pa_nil))))))))
   (pss_one (ps_ret (pe_tup (pa_cons (pe_fld (pv 5) rfl) (pa_cons (pe_fld (pv 5) rfl) (pa_cons (pe_fld (pv 5) rfl) (pa_cons (pe_fld (pv 5) rfl) pa_nil)))))))), ?_⟩
  dsimp only [nox_K, comp_K]
  walk_at "re"
  refine ⟨g, wa, bx, ca, c, bl, by rw [hm]; rfl, gv, hD, hbx, hl8, hca, c0, c1, fun r m' cc H' hfi en ra hC mo ee => ?_⟩
  subst hC
  obtain ⟨s', t', d', ob⟩ := en.ob
  obtain ⟨fl, f1, f2⟩ := en.flt
  walk_at "re"
  refine ⟨_, _, _, _, _, rfl, ob, T.cl, T.state, rf_state _ _ _ _ _ _ _ _ _, ?_⟩
  walk_at "re"
  refine ⟨_, _, _, _, _, rfl, ob, T.cl, T.told, rf_told _ _ _ _ _ _ _ _ _, ?_⟩
  walk_at "re"
  refine ⟨_, _, _, _, _, rfl, ob, T.cl, T.faults, rf_faults _ _ _ _ _ _ _ _ _, ?_⟩
  walk_at "re"
  refine ⟨_, _, _, _, _, rfl, ob, T.cl, T.boxes, rf_boxes _ _ _ _ _ _ _ _ _, ?_⟩
  walk_at "re"
  refine ⟨len2 (by show 4 ≤ 1000; decide), fun tp htp => ?_⟩
  have e1 : Ext [] H' (upd H' tp (.tup [.str (stS cc), .ref r.ta, .ref r.fa, .ref r.ba])) := .laid htp
  walk_at "re"
  exact q tp r.ta r.fa r.ba fl m' cc _ hfi upd_same (e1 _ _ (by simp) en.told) (e1 _ _ (by simp) f1) ((f2 hm).mono e1 (by simp)) (e1 _ _ (by simp) en.held) ra.nta ra.nfa ra.nba ra.tf ra.tb ra.fb (ee.none (by simp) htp) mo (ee.trans e1)
end
end Fs
set_option maxHeartbeats 1000000
namespace Fs
open PySem L2
section
variable {P : Program} {w : World} {K : PySem.W.Frag} {mg : Str → Option Value} {base : Heap}
noncomputable abbrev sHeld : Stmt := top 19
theorem scHeld : FnScope ["_law_tape_here"] ["_law_tape_here"] (defScope sHeld) := ⟨rfl, rfl, rfl, by decide +kernel, rfl, by decide +kernel, by decide +kernel⟩
theorem ok_held {f : Addr} {fd : FuncData} (F : Fun K "_law_held" "_law_held" sHeld f fd) (nrange : mg "range" = none) (hN : Has P w K mg base "_law_number" 2 ["_law_tape_here"] spNumber) :
  FnOk P w K mg base CX0 3 f fd ["_law_tape_here"] spHeld := by
 refine F.ok scHeld (fun vs H Q E h => ?_) (fun cdv A outer s H vs Q E hr h => ?_)
 ·obtain ⟨t, k, rfl, _⟩ := h
  rfl
 ·obtain ⟨t, k, rfl, T, hk, q⟩ := h
  refine ⟨_, (pss_one (ps_ret (pe_lc ["_law_box"] [0] rfl (.of rfl) (pi_range1 rfl nrange (pa_cons pe_int pa_nil)) (fun _ _ _ _ => (pg_name (i := 0) (by show (((["_law_box", "_law_tape_here"] : List Str))).Nodup; decide) rfl (Or.inl rfl))) (fun _ _ _ _ => .nil) (fun _ _ _ _ => (pe_fn hN hr (by decide) (pa_cons (pv 1) pa_nil)))))), ?_⟩
  try dsimp only [nox_K, comp_K]
  walk_at "re"
  refine ⟨8, rfl, by decide, by decide, fun l hl => ?_⟩
  have nlt : l ≠ t := T.ne hl
  refine loop_range (lo := 0) (n := (8 : Int).toNat) (fun i σ' G => ∃ (o : Option V) (ns : List Int), σ' = [o, some (.ref t)] ∧ ns.length = i ∧ (∀ x ∈ ns, -(10 ^ 12) ≤ x ∧ x ≤ 10 ^ 12) ∧ G l = some (.lst (ns.map V.int)) ∧ Tape G t (k + 3 * i) ∧ Ext [l, t] H G) ?_ ?_ ?_
  ·exact ⟨_, [], rfl, rfl, (fun _ h => absurd h (by simp)), upd_same, T.ext (ts := []) (.laid hl) (by simp), .laid hl⟩
  ·rintro i σ' G R hi ⟨o, ns, rfl, hnl, hns, hL, hT, hE⟩ hR
   have hi8 : i < 8 := hi
   walk_at "re"
   refine iteT ?_
   walk_at "re"
   refine ⟨t, k + 3 * i, rfl, hT, by omega, fun r G2 r1 r2 T2 e2 => ?_⟩
   walk_at "re"
   have hL2 := e2 _ _ (by simpa using nlt) hL
   refine ⟨_, hL2, small1000 (by rw [List.length_map]; omega), hR _ _ ⟨_, ns ++ [r], rfl, by rw [List.length_append, hnl]; rfl, fun x hx => ?_, by rw [upd_same, List.map_append]; rfl, ?_, ?_⟩⟩
   ·rcases List.mem_append.mp hx with z | z
    ·exact hns x z
    ·rw [List.mem_singleton.mp z]; exact ⟨r1, r2⟩
   ·rw [Nat.mul_succ, ← Nat.add_assoc]
    exact T2.ext (ts := [l]) (.put (by simp)) (by simpa using nlt.symm)
   ·exact (hE.trans (e2.mono (by simp))).trans (.put (by simp))
  ·rintro σ' G ⟨o, ns, rfl, hnl, hns, hL, hT, hE⟩
   walk_at "re"
   exact q l ns G hl nlt hnl hns hL hT (hE.drop hl)
end
end Fs
set_option maxHeartbeats 1000000
namespace Fs
open PySem L2
section
variable {P : Program} {w : World} {K : PySem.W.Frag} {mg : Str → Option Value} {base : Heap}
noncomputable abbrev sChoices : Stmt := top 20
theorem scChoices : FnScope ["_law_tape_here"] ["_law_tape_here"] (defScope sChoices) := ⟨rfl, rfl, rfl, by decide +kernel, rfl, by decide +kernel, by decide +kernel⟩
theorem ok_choices {f : Addr} {fd : FuncData} (F : Fun K "_law_choices" "_law_choices" sChoices f fd) (nrange : mg "range" = none) (hD : Has P w K mg base "_law_draw" 1 ["_law_tape_here", "_law_many_here"] spDraw) :
  FnOk P w K mg base CX0 2 f fd ["_law_tape_here"] (spNums 200 201 (-1) 2) := by
 refine F.ok scChoices (fun vs H Q E h => ?_) (fun cdv A outer s H vs Q E hr h => ?_)
 ·obtain ⟨t, k, rfl, _⟩ := h
  rfl
 ·obtain ⟨t, k, rfl, T, hk, q⟩ := h
  refine ⟨_, (pss_one (ps_ret (pe_lc ["_law_k"] [0] rfl (.of rfl) (pi_range1 rfl nrange (pa_cons (pe_ix ix_list (pe_lst (pa_cons pe_int (pa_cons pe_int (pa_cons pe_int (pa_cons pe_int (pa_cons pe_int pa_nil)))))) (pe_fn hD hr (by decide) (pa_cons (pv 0) (pa_cons pe_int pa_nil))) (fun _ _ => rfl)) pa_nil)) (fun _ _ _ _ => (pg_name (i := 0) (by show (((["_law_k", "_law_tape_here"] : List Str))).Nodup; decide) rfl (Or.inl rfl))) (fun _ _ _ _ => .nil) (fun _ _ _ _ => (pe_ix (ix_listK K rfl) (pe_lst (pa_cons pe_int (pa_cons pe_int (pa_cons pe_int (pa_cons pe_int (pa_cons pe_int (pa_cons pe_int (pa_cons (pe_un un_neg pe_int) (pa_cons pe_int pa_nil))))))))) (pe_fn hD hr (by decide) (pa_cons (pv 1) (pa_cons pe_int pa_nil))) (fun _ _ => rfl)))))), ?_⟩
  try dsimp only [nox_K, comp_K]
  walk_at "re"
  refine ⟨len2 (by show 5 ≤ 1000; decide), fun p hp => ?_⟩
  have X1 : Ext [] H (upd H p (.lst [.int 0, .int 3, .int 12, .int 40, .int 200])) := .laid hp
  have hp1 : (upd H p (.lst [.int 0, .int 3, .int 12, .int 40, .int 200])) p = some (.lst (([0, 3, 12, 40, 200] : List Int).map V.int)) := upd_same
  have npt : p ≠ t := T.ne hp
  generalize upd H p (.lst [.int 0, .int 3, .int 12, .int 40, .int 200]) = H1 at X1 hp1 ⊢
  have T1 := T.ext X1 (by simp)
  walk_at "re"
  refine r_draw (n := 5) T1 (by omega) (by decide) (by decide) fun r0 H2 a0 b0 T2 e2 _ => ?_
  have hp2 := e2 _ _ (by simpa using npt) hp1
  obtain ⟨m, hm, hat⟩ := atI_ints (ns := [0, 3, 12, 40, 200]) a0 b0
  have hm2 : 0 ≤ m ∧ m ≤ 200 := by
   simp only [List.mem_cons, List.not_mem_nil, or_false] at hm
   omega
  have E2 : Ext [t] H H2 := (X1.mono (by simp)).trans e2
  walk_at "re"
  refine r_ixL (SqL.of hp2) hat ?_
  walk_at "re"
  refine ⟨m, rfl, by omega, by omega, fun l hl => ?_⟩
  have nlt : l ≠ t := T2.ne hl
  have hl0 : H l = none := E2.none (by simpa using nlt) hl
  refine loop_range (lo := 0) (n := m.toNat) (fun i σ' G => ∃ (o : Option V) (ns : List Int), σ' = [o, some (.ref t)] ∧ ns.length = i ∧ (∀ x ∈ ns, -1 ≤ x ∧ x ≤ 2) ∧ G l = some (.lst (ns.map V.int)) ∧ Tape G t (k + 1 + i) ∧ Ext [l, t] H G) ?_ ?_ ?_
  ·exact ⟨_, [], rfl, rfl, (fun _ h => absurd h (by simp)), upd_same, T2.ext (ts := []) (.laid hl) (by simp), (E2.mono (by simp)).trans (.laid hl)⟩
  ·rintro i σ' G R hi ⟨o, ns, rfl, hnl, hns, hL, hT, hE⟩ hR
   have hi2 : i < 200 := by omega
   walk_at "re"
   refine iteT ?_
   walk_at "re"
   refine ⟨len2 (by show 8 ≤ 1000; decide), fun p2 hq => ?_⟩
   have X3 : Ext [] G (upd G p2 (.lst [.int 0, .int 1, .int 0, .int 1, .int 1, .int 2, .int (-1), .int 0])) := .laid hq
   have hq3 : (upd G p2 (.lst [.int 0, .int 1, .int 0, .int 1, .int 1, .int 2, .int (-1), .int 0])) p2 = some (.lst (([0, 1, 0, 1, 1, 2, -1, 0] : List Int).map V.int)) := upd_same
   have nqt : p2 ≠ t := hT.ne hq
   generalize upd G p2 (.lst [.int 0, .int 1, .int 0, .int 1, .int 1, .int 2, .int (-1), .int 0]) = G3 at X3 hq3 ⊢
   walk_at "re"
   refine r_draw (n := 8) (hT.ext X3 (by simp)) (by omega) (by decide) (by decide) fun r1 G4 a1 b1 T4 e4 _ => ?_
   have hq4 := e4 _ _ (by simpa using nqt) hq3
   obtain ⟨c, hc, hat2⟩ := atI_ints (ns := [0, 1, 0, 1, 1, 2, -1, 0]) a1 b1
   have hc2 : -1 ≤ c ∧ c ≤ 2 := by
    simp only [List.mem_cons, List.not_mem_nil, or_false] at hc
    omega
   walk_at "re"
   refine r_ixL (SqL.of hq4) hat2 ?_
   walk_at "re"
   have hL4 := e4 _ _ (by simpa using nlt) (X3 _ _ (by simp) hL)
   refine ⟨_, hL4, small1000 (by rw [List.length_map]; omega), hR _ _ ⟨_, ns ++ [c], rfl, by rw [List.length_append, hnl]; rfl, fun x hx => ?_, by rw [upd_same, List.map_append]; rfl, ?_, ?_⟩⟩
   ·rcases List.mem_append.mp hx with z | z
    ·exact hns x z
    ·rw [List.mem_singleton.mp z]; exact hc2
   ·rw [← Nat.add_assoc]
    exact T4.ext (ts := [l]) (.put (by simp)) (by simpa using nlt.symm)
   ·exact ((hE.trans (X3.mono (by simp))).trans (e4.mono (by simp))).trans (.put (by simp))
  ·rintro σ' G ⟨o, ns, rfl, hnl, hns, hL, hT, hE⟩
   walk_at "re"
   exact q l ns G hl0 nlt (by omega) hns hL (hT.mono (by omega)) (hE.drop hl0)
end
end Fs
set_option maxHeartbeats 1000000
local macro_rules | `(tactic| walk_at "rf") => `(tactic| repeat (with_reducible first | (refine L2.r_seqH ?_; intro NN_ hNN_) | walk_at "q1" | refine L2.go_nx (by assumption) ?_ | refine L2.go_nv (by assumption) ?_ | (refine L2.r_ifH ?_; intro NA_ NB_ hNA_ hNB_) | walk_at "q2"))
namespace Fs
open PySem L2
section
variable {P : Program} {w : World} {K : PySem.W.Frag} {mg : Str → Option Value} {base : Heap}
noncomputable abbrev sSteps : Stmt := top 22
theorem scSteps : FnScope ["_law_tape_here", "_law_plain", "_law_works_here", "_law_number_here", "_law_boxes", "_law_choices_here", "_law_ways", "_law_ahead", "_law_most", "_law_found"] ["_law_tape_here", "_law_plain", "_law_works_here"] (defScope sSteps) := ⟨rfl, rfl, rfl, by decide +kernel, rfl, by decide +kernel, by decide +kernel⟩
theorem ok_steps {f : Addr} {fd : FuncData} (F : Fun K "_law_steps_right" "_law_steps_right" sSteps f fd) (nrange : mg "range" = none) (nlen : mg "len" = none)
  (hD : Has P w K mg base "_law_draw" 1 ["_law_tape_here", "_law_many_here"] spDraw) (hH : Has P w K mg base "_law_held" 3 ["_law_tape_here"] spHeld) (hC : Has P w K mg base "_law_choices" 2 ["_law_tape_here"] (spNums 200 201 (-1) 2))
  (hM : Has P w K mg base "meant" 86 ["works", "number", "boxes", "choices", "most"] (spMeant K)) (hR : Has P w K mg base "run" 86 ["works", "number", "boxes", "choices", "most"] (spRun K)) :
  FnOk P w K mg base CX0 87 f fd ["_law_tape_here", "_law_plain", "_law_works_here"] (spSteps K) := by
 refine F.ok scSteps (fun vs H Q E h => ?_) (fun cdv A outer s H vs Q E hr h => ?_)
 ·obtain ⟨t, lp, lw, k, wp, ww, rfl, _⟩ := h
  rfl
 ·obtain ⟨t, lp, lw, k, wp, ww, rfl, T0, hk, dp0, dw0, okp, okw, plp, hww, q⟩ := h
  refine ⟨_, (pss_cons (ps_par3 (i := 3) (j := 4) (k := 5) rfl scSteps.nd rfl rfl rfl (by decide) (by decide) (by decide) rfl rfl rfl (pa_cons (pe_fn hD hr (by decide) (pa_cons (pv 0) (pa_cons (pe_callB call_len_seq (by rfl) nlen PySem.boot_len (pa_cons (pv 2) pa_nil)) pa_nil))) (pa_cons (pe_fn hH hr (by decide) (pa_cons (pv 0) pa_nil)) (pa_cons (pe_fn hC hr (by decide) (pa_cons (pv 0) pa_nil)) pa_nil))) rfl)
   (pss_cons (ps_for PassesOwn.never rfl (pi_tup (pe_tup (pa_cons pe_int (pa_cons pe_int pa_nil)))) (pg_name (i := 6) scSteps.nd rfl (Or.inl rfl))
   (pss_cons (ps_set (i := 7) scSteps.nd rfl (Or.inl rfl) pe_non)
   (pss_one (ps_for PassesOwn.never rfl (pi_range1 rfl nrange (pa_cons pe_int pa_nil)) (pg_name (i := 8) scSteps.nd rfl (Or.inl rfl))
   (pss_cons (ps_if (pt_cmpR op_eq (pv 6) pe_int (nomark _)) (pss_one (ps_set (i := 9) scSteps.nd rfl (Or.inl rfl) (pe_fn hM hr (by decide) (pa_cons (pv 1) (pa_cons (pv 3) (pa_cons (pv 4) (pa_cons (pv 5) (pa_cons (pv 8) pa_nil)))))))) (pss_one (ps_set (i := 9) scSteps.nd rfl (Or.inl rfl) (pe_fn hR hr (by decide) (pa_cons (pv 2) (pa_cons (pv 3) (pa_cons (pv 4) (pa_cons (pv 5) (pa_cons (pv 8) pa_nil)))))))))
   (pss_cons (ps_if (pt_cmpR (notInK K rfl) (pe_ix ix_tup (pv 9) pe_int (fun _ _ => rfl)) (pe_tup (pa_cons pe_str (pa_cons pe_str (pa_cons pe_str (pa_cons pe_str pa_nil))))) rfl) (pss_one (ps_ret pe_bl)) pss_nil)
   (pss_cons (ps_if (pw_and (pt_cmpR op_eq (pv 8) pe_int (nomark _)) (pw_and1 (pt_cmpR (op_neD hr) (pe_slice sl_any (pv 9) po_none (po_some pe_int)) (pe_tup (pa_cons pe_str (pa_cons (pe_lst pa_nil) pa_nil))) (nomark _)))).pt (pss_one (ps_ret pe_bl)) pss_nil)
   (pss_cons (ps_if (pt_cmpR op_notN (pv 7) pe_non (nomark _)) (pss_cons (ps_if (pt_cmpR (op_neD hr) (pe_slice sl_list (pe_ix ix_tup (pv 9) pe_int (fun _ _ => rfl)) po_none (po_some (pe_callB call_len_seq (by rfl) nlen PySem.boot_len (pa_cons (pe_ix ix_tup (pv 7) pe_int (fun _ _ => rfl)) pa_nil)))) (pe_ix ix_tup (pv 7) pe_int (fun _ _ => rfl)) (nomark _)) (pss_one (ps_ret pe_bl)) pss_nil)
   (pss_cons (ps_if (pt_cmpR op_gt (pe_callB call_len_seq (by rfl) nlen PySem.boot_len (pa_cons (pe_ix ix_tup (pv 9) pe_int (fun _ _ => rfl)) pa_nil)) (pe_op op_add (pe_callB call_len_seq (by rfl) nlen PySem.boot_len (pa_cons (pe_ix ix_tup (pv 7) pe_int (fun _ _ => rfl)) pa_nil)) pe_int) (nomark _)) (pss_one (ps_ret pe_bl)) pss_nil)
   (pss_one (ps_if (pw_and (pt_cmpR op_ne (pe_ix ix_tup (pv 7) pe_int (fun _ _ => rfl)) pe_str (nomark _)) (pw_and1 (pt_cmpR (op_neD hr) (pv 9) (pv 7) (nomark _)))).pt (pss_one (ps_ret pe_bl)) pss_nil)))) pss_nil)
   (pss_one (ps_set (i := 7) scSteps.nd rfl (Or.inl rfl) (pv 9)))))))))))
   (pss_one (ps_ret pe_bl)))), ?_⟩
  dsimp only [nox_K, comp_K]
  obtain ⟨lw', us, ee, hSl, hDus⟩ := (dw0.mono (wo_same _ _)).ofList
  cases ee
  have hul := hDus.len
  rw [List.length_map] at hul
  have ho1 := okw.one
  have hof := okw.few
  walk_at "rf"
  refine r_par3 ?_
  walk_at "rf"
  refine r_lenL hSl ?_
  rw [hul]
  walk_at "rf"
  refine r_draw T0 (by omega) (by omega) (by omega) fun n G1 n0 n1 T1 e1 _ => ?_
  walk_at "rf"
  refine ⟨t, _, rfl, T1, by omega, fun lb bs G2 hlb nlb hb8 hbb hlb2 T2 e2 => ?_⟩
  walk_at "rf"
  refine ⟨t, _, rfl, T2, by omega, fun lc cs G3 hlc nlc hc2 hcc hlc3 T3 e3 => ?_⟩
  walk_at "rf"
  refine ⟨_, _, _, rfl, ?_⟩
  have E03 : Ext [t] H G3 := e1.trans (e2.trans e3)
  have dp3 : Den K G3 (worksD wp) (.ref lp) := (dp0.mono E03.same).mono (wo_same _ _)
  have dw3 : Den K G3 (worksD ww) (.ref lw) := (dw0.mono E03.same).mono (wo_same _ _)
  have hlb3 : G3 lb = some (.lst (bs.map V.int)) := e3 _ _ (by simpa using nlb) hlb2
  have T3' : Tape G3 t (k + 300) := T3.mono (by omega)
  clear T3 T2 T1 T0 hSl hDus dp0 dw0 e1 e2 e3 hlb2
  walk_at "rf"
  refine ⟨len2 (by show 2 ≤ 1000; decide), fun pw hpw => ⟨pw, rfl, ⟨_, SqT.of upd_same⟩, for_tupN (xs := [V.int 0, V.int 1]) (fun j σ' G => ∃ (o6 o7 o8 o9 : Option V), σ' = [some (.ref t), some (.ref lp), some (.ref lw), some (.int n), some (.ref lb), some (.ref lc), o6, o7, o8, o9] ∧ Ext [] G3 G ∧ G pw = some (.tup [.int 0, .int 1])) ?_ ?_ ?_ ?_⟩⟩
  ·exact ⟨_, _, _, _, rfl, .laid hpw, upd_same⟩
  ·intro j σ' G hj hq_
   obtain ⟨_, _, _, _, _, _, hp⟩ := hq_
   exact SqT.of hp
  ·intro j x σ' G hx hq_ N_ B_ C_ R_ hN_ hC_ hR_
   refine hide fun G_ hG_ => ?_
   obtain ⟨o6, o7, o8, o9, rfl, eG, hpG⟩ := hq_
   obtain ⟨jj, rfl, hjj⟩ : ∃ jj : Int, x = .int jj ∧ (jj = 0 ∨ jj = 1) := by
    rcases j with _ | _ | j
    ·cases hx; exact ⟨0, rfl, .inl rfl⟩
    ·cases hx; exact ⟨1, rfl, .inr rfl⟩
    ·simp at hx
   refine hG_ ?_
   clear hx
   walk_at "rf"
   refine ⟨51, rfl, by decide, by decide, for_rangeN (lo := 0) (n := (51 : Int).toNat) (fun i σ' G2 => ∃ (o8 o9 : Option V) (av : V), σ' = [some (.ref t), some (.ref lp), some (.ref lw), some (.int n), some (.ref lb), some (.ref lc), some (.int jj), some av, o8, o9] ∧ Ext [] G G2 ∧ (i = 0 → av = .non) ∧ ∀ i', i = i' + 1 → ∃ tp ta rest m c, av = .ref tp ∧ Res K G2 (gOf jj wp ww cs i') jj n bs tp ta rest m c) ?_ ?_ ?_⟩
   ·exact ⟨_, _, _, rfl, .refl _ _, fun _ => rfl, fun i' h => by omega⟩
   ·intro i σ' G2 hi hq_ N_ B_ C_ R_ hN_ hC_ hR_
    refine hide fun G_ hG_ => ?_
    obtain ⟨o8, o9, av, rfl, e2, hav0, hav1⟩ := hq_
    have hi : i < 51 := hi
    refine hG_ ?_
    have E32 : Ext [] G3 G2 := eG.trans e2
    with_reducible refine r_gn ?_
    with_reducible refine r_seqC (fun σ' G5 => ∃ tp ta rest m c, σ' = [some (.ref t), some (.ref lp), some (.ref lw), some (.int n), some (.ref lb), some (.ref lc), some (.int jj), some av, some (.int (0 + (i : Int))), some (.ref tp)] ∧ Ext [] G2 G5 ∧ Res K G5 (gOf jj wp ww cs i) jj n bs tp ta rest m c) ?_ (fun hC => ?_)
    ·intro σ' G5 hq_
     refine hide fun G_ hG_ => ?_
     obtain ⟨tp, ta, rest, m, c, rfl, e25, R5⟩ := hq_
     refine hG_ ?_
     have gv := gOf_ok (j := jj) (i := i) okp okw plp (show cs.length ≤ 1000 by omega) (by omega)
     have hgl : (gOf jj wp ww cs i).ws.length = ww.length := gOf_len hww
     have hgm := gOf_most jj wp ww cs i
     obtain ⟨vsh, tsh, htl, osh⟩ := res_shaped (j := jj) gv hb8 hbb n0 (by omega) (by omega) R5.fi R5.ms
     walk_at "rf"
     refine r_ixT (SqT.of R5.tup) at0 ?_
     walk_at "rf"
     refine ⟨len2 (by show 4 ≤ 1000; decide), fun p4 hp4 => ?_⟩
     have e6 : Ext [] G5 (upd G5 p4 (.tup [.str "going", .str "ended", .str "deep", .str "bare"])) := .laid hp4
     refine ⟨p4, _, rfl, .inr (SqT.of upd_same), rfl, rfl, ?_⟩
     have R6 := R5.mono e6
     have e26 := e25.trans e6
     generalize upd G5 p4 (.tup [.str "going", .str "ended", .str "deep", .str "bare"]) = G6 at e6 R6 e26 ⊢
     clear e6 R5 e25 hp4
     rw [stS_four]
     refine ⟨_, rfl, ?_⟩
     refine iteF ?_
     walk_at "rf"
     refine r_eqI ?_
     rcases i with _ | i'
     ·refine ⟨_, rfl, ?_⟩
      refine iteT ?_
      obtain ⟨ec, em⟩ := R6.fi.det (Fi.zero gv hgm n0 (by omega))
      have eto : m.told = [] := by rw [em]; rfl
      have ego : stS c = "going" := by rw [ec]; rfl
      walk_at "rf"
      refine ⟨2, rfl, R6.cut fun p7 G7 e7 hp7 => ?_⟩
      have ht7 := e7 _ _ (by simp) R6.told
      walk_at "rf"
      refine ⟨len2 (by show 0 ≤ 1000; decide), fun p8 hp8 => ?_⟩
      have e8 : Ext [] G7 (upd G7 p8 (.lst [])) := .laid hp8
      have y8 : (upd G7 p8 (.lst [])) p8 = some (.lst []) := upd_same
      generalize upd G7 p8 (.lst []) = G8 at e8 y8 ⊢
      walk_at "rf"
      refine ⟨len2 (by show 2 ≤ 1000; decide), fun p9 hp9 => ?_⟩
      have e9 : Ext [] G8 (upd G8 p9 (.tup [.str "going", .ref p8])) := .laid hp9
      have y9 : (upd G8 p9 (.tup [.str "going", .ref p8])) p9 = some (.tup [.str "going", .ref p8]) := upd_same
      generalize upd G8 p9 (.tup [.str "going", .ref p8]) = G9 at e9 y9 ⊢
      have e79 := e8.trans e9
      have d1 : Den K G9 (outD (stS c) m.told) (.ref p7) := .tuple (SqT.of (e79 _ _ (by simp) hp7)) (.cons .str (.cons (.list (SqL.of (e79 _ _ (by simp) ht7)) (DenL.ofInts _)) .nil))
      have d2 : Den K G9 (outD (stS c) m.told) (.ref p9) := by
       rw [ego, eto]
       exact .tuple (SqT.of y9) (.cons .str (.cons (.list (SqL.of (e9 _ _ (by simp) y8)) .nil) .nil))
      refine ⟨_, _, d1, d2, osh, osh, ?_⟩
      rw [if_pos rfl, eqv_refl _ (den_nodict d1)]
      refine ⟨_, rfl, ?_⟩
      refine iteF ?_
      walk_at "rf"
      obtain rfl := hav0 rfl
      refine ⟨rfl, ?_⟩
      refine ⟨_, rfl, ?_⟩
      refine iteF ?_
      walk_at "rf"
      have e69 := e7.trans e79
      exact ⟨_, _, _, rfl, e2.trans (e26.trans e69), fun h => absurd h (by omega), fun i' h => by
       obtain rfl : i' = 0 := by omega
       exact ⟨tp, ta, rest, m, c, rfl, R6.mono e69⟩⟩
     ·rw [decide_eq_false (by omega)]
      refine ⟨_, rfl, ?_⟩
      refine iteF ?_
      refine iteF ?_
      obtain ⟨tpA, taA, restA, mA, cA, rfl, RA⟩ := hav1 i' rfl
      have RA6 := RA.mono e26
      walk_at "rf"
      refine ⟨rfl, ?_⟩
      rw [show decide (V.ref tpA = V.non) = false from decide_eq_false (fun h => by cases h)]
      refine ⟨_, rfl, ?_⟩
      refine iteT ?_
      have gvA := gOf_ok (j := jj) (i := i') okp okw plp (show cs.length ≤ 1000 by omega) (by omega)
      have hgmA := gOf_most jj wp ww cs i'
      have fi' := R6.fi
      rw [← gOf_more] at fi'
      have hglA : (gOf jj wp ww cs i').ws.length = ww.length := gOf_len hww
      obtain ⟨⟨ext, hx1, hx2⟩, hst⟩ := Fi.next gvA (by omega) RA6.fi fi' (ms0_ok gvA hb8 n0 (by omega))
      have htoA := RA6.told
      have hto := R6.told
      walk_at "rf"
      refine r_ixT (SqT.of R6.tup) at1 ?_
      walk_at "rf"
      refine r_ixT (SqT.of RA6.tup) at1 ?_
      walk_at "rf"
      refine r_lenL (SqL.of htoA) ?_
      walk_at "rf"
      rw [List.length_map]
      refine ⟨_, rfl, ta, _, rfl, SqL.of hto, fun p7 hp7 => ?_⟩
      rw [hx1, cut_told]
      have e7 : Ext [] G6 (upd G6 p7 (.lst (mA.told.map V.int))) := .laid hp7
      have y7 : (upd G6 p7 (.lst (mA.told.map V.int))) p7 = some (.lst (mA.told.map V.int)) := upd_same
      generalize upd G6 p7 (.lst (mA.told.map V.int)) = G7 at e7 y7 ⊢
      have RA7 := RA6.mono e7
      have R7 := R6.mono e7
      have htoA7 := RA7.told
      obtain ⟨_, tshA, _, _⟩ := res_shaped (j := jj) gvA hb8 hbb n0 (by omega) (by omega) RA7.fi RA7.ms
      walk_at "rf"
      refine r_ixT (SqT.of RA7.tup) at1 ?_
      have d1 : Den K G7 (.list (mA.told.map .int)) (.ref p7) := .list (SqL.of y7) (DenL.ofInts _)
      refine ⟨_, _, d1, .list (SqL.of htoA7) (DenL.ofInts _), tshA, tshA, ?_⟩
      rw [if_pos rfl, eqv_refl _ (den_nodict d1)]
      refine ⟨_, rfl, ?_⟩
      refine iteF ?_
      walk_at "rf"
      refine r_ixT (SqT.of R7.tup) at1 ?_
      walk_at "rf"
      refine r_lenL (SqL.of R7.told) ?_
      walk_at "rf"
      refine r_ixT (SqT.of RA7.tup) at1 ?_
      walk_at "rf"
      refine r_lenL (SqL.of htoA7) ?_
      walk_at "rf"
      rw [decide_eq_false (by rw [List.length_map, List.length_map, hx1, List.length_append]; omega)]
      refine iteF ?_
      walk_at "rf"
      refine r_ixT (SqT.of RA7.tup) at0 ?_
      walk_at "rf"
      refine r_neS ?_
      refine ⟨_, rfl, ?_⟩
      have e27 := e26.trans e7
      by_cases hc1 : cA = 1
      ·rw [show decide (stS cA = "going") = true from decide_eq_true (by rw [hc1]; rfl)]
       refine iteF ?_
       refine iteF ?_
       walk_at "rf"
       exact ⟨_, _, _, rfl, e2.trans e27, fun h => absurd h (by omega), fun i2 h => by
        obtain rfl : i2 = i' + 1 := by omega
        exact ⟨tp, ta, rest, m, c, rfl, R7⟩⟩
      ·rw [show decide (stS cA = "going") = false from decide_eq_false (stS_going hc1)]
       refine iteT ?_
       obtain ⟨ec, em⟩ := hst hc1
       walk_at "rf"
       have d2 : Den K G7 (resD jj c m) (.ref tpA) := by rw [ec, em]; exact RA7.den
       refine ⟨_, _, R7.den, d2, vsh, vsh, ?_⟩
       rw [if_pos rfl, eqv_refl _ (den_nodict d2)]
       refine ⟨_, rfl, ?_⟩
       refine iteF ?_
       walk_at "rf"
       exact ⟨_, _, _, rfl, e2.trans e27, fun h => absurd h (by omega), fun i2 h => by
        obtain rfl : i2 = i' + 1 := by omega
        exact ⟨tp, ta, rest, m, c, rfl, R7⟩⟩
    ·walk_at "rf"
     refine r_eqI ?_
     refine ⟨_, rfl, ?_⟩
     rcases hjj with z | z
     ·subst z
      refine iteT ?_
      walk_at "rf"
      have gv := gOf_ok (j := 0) (i := i) okp okw plp (show cs.length ≤ 1000 by omega) (by omega)
      refine ⟨gOf 0 wp ww cs i, lp, lb, lc, n, bs, rfl, gv, rfl, dp3.mono E32.toSame, SqL.of (E32 _ _ (by simp) hlb3), hb8, SqL.of (E32 _ _ (by simp) hlc3), n0, by rw [gOf_len hww]; exact n1, fun tp ta m' c G6 hfi htp hta nta ntp ms6 e6 => ?_⟩
      with_reducible refine r_gn ?_
      exact hC _ _ ⟨tp, ta, [], m', c, rfl, e6, ⟨hfi, htp, hta, (show Den K G6 (outD (stS c) m'.told) (.ref tp) from .tuple (SqT.of htp) (.cons .str (.cons (.list (SqL.of hta) (DenL.ofInts _)) .nil))), ms6, .inl ⟨rfl, rfl⟩⟩⟩
     ·subst z
      refine iteF ?_
      walk_at "rf"
      have gv := gOf_ok (j := 1) (i := i) okp okw plp (show cs.length ≤ 1000 by omega) (by omega)
      refine ⟨gOf 1 wp ww cs i, lw, lb, lc, n, bs, rfl, gv, rfl, dw3.mono E32.toSame, SqL.of (E32 _ _ (by simp) hlb3), hb8, SqL.of (E32 _ _ (by simp) hlc3), n0, by rw [gOf_len hww]; exact n1, fun tp ta fa ba fl m' c G6 hfi htp hta hfa hpr hba _ _ _ _ _ _ _ ms6 e6 => ?_⟩
      with_reducible refine r_gn ?_
      exact hC _ _ ⟨tp, ta, [.ref fa, .ref ba], m', c, rfl, e6, ⟨hfi, htp, hta, (show Den K G6 (runD (stS c) m'.told m'.flt m'.held) (.ref tp) from .tuple (SqT.of htp) (.cons .str (.cons (.list (SqL.of hta) (DenL.ofInts _)) (.cons (.list (SqL.of hfa) hpr.den) (.cons (.list (SqL.of hba) (DenL.ofInts _)) .nil))))), ms6, .inr ⟨rfl, _, _, rfl⟩⟩⟩
   ·intro σ' G2 hq_
    refine hide fun G_ hG_ => ?_
    obtain ⟨o8, o9, av, rfl, e2, _, _⟩ := hq_
    refine hG_ ?_
    walk_at "rf"
    exact ⟨_, _, _, _, rfl, eG.trans e2, e2 _ _ (by simp) hpG⟩
  ·intro σ' G hq_
   refine hide fun G_ hG_ => ?_
   obtain ⟨o6, o7, o8, o9, rfl, eG, hpG⟩ := hq_
   refine hG_ ?_
   walk_at "rf"
   exact q _ (T3'.ext eG (by simp)) (E03.trans (eG.mono (by simp)))
end
end Fs
set_option maxHeartbeats 1000000
namespace Fs
open PySem L2
section
variable {P : Program} {w : World} {K : PySem.W.Frag} {mg : Str → Option Value} {base : Heap}
noncomputable abbrev sRing : Stmt := top 23
theorem scRing : FnScope ["_law_size", "_law_box", "_law_ring", "_law_boxes", "_law_most", "_law_due"] ["_law_size", "_law_box"] (defScope sRing) := ⟨rfl, rfl, rfl, by decide +kernel, rfl, by decide +kernel, by decide +kernel⟩
theorem ok_ring {f : Addr} {fd : FuncData} (F : Fun K "_law_ring_right" "_law_ring_right" sRing f fd) (nrange : mg "range" = none) (nmin : mg "min" = none)
  (hM : Has P w K mg base "meant" 86 ["works", "number", "boxes", "choices", "most"] (spMeant K)) (hR : Has P w K mg base "run" 86 ["works", "number", "boxes", "choices", "most"] (spRun K)) :
  FnOk P w K mg base CX0 87 f fd ["_law_size", "_law_box"] (spRing K) := by
 refine F.ok scRing (fun vs H Q E h => ?_) (fun cdv A outer s H vs Q E hr h => ?_)
 ·obtain ⟨s, b, rfl, _⟩ := h
  rfl
 ·obtain ⟨sz, b, rfl, s1, s4, b0, b1, q⟩ := h
  refine ⟨_, (pss_cons (ps_lc (i := 2) ["_law_k"] [0, 1] rfl (.of rfl) scRing.nd rfl (Or.inl rfl) (pi_range1 rfl nrange (pa_cons (pv 0) pa_nil)) (fun _ _ _ _ => (pg_name (i := 0) (by show (((["_law_k", "_law_size", "_law_box"] : List Str))).Nodup; decide) rfl (Or.inl rfl))) (fun _ _ _ _ => .nil) (fun _ _ _ _ => (pe_lst (pa_cons (pe_tup (pa_cons (pe_lst (pa_cons (pe_tup (pa_cons pe_str (pa_cons (pv 2) pa_nil))) (pa_cons (pe_tup (pa_cons pe_str (pa_cons (pe_op op_mod (pe_op op_add (pv 0) pe_int) (pv 1)) pa_nil))) pa_nil))) (pa_cons (pe_tup (pa_cons pe_str pa_nil)) pa_nil))) pa_nil))))
   (pss_cons (ps_set (i := 3) scRing.nd rfl (Or.inl rfl) (pe_op op_rep (pe_lst (pa_cons pe_int pa_nil)) pe_int))
   (pss_cons (ps_for PassesOwn.never rfl (pi_tup (pe_tup (pa_cons pe_int (pa_cons pe_int (pa_cons pe_int (pa_cons pe_int (pa_cons pe_int (pa_cons pe_int (pa_cons pe_int (pa_cons pe_int (pa_cons pe_int pa_nil))))))))))) (pg_name (i := 4) scRing.nd rfl (Or.inl rfl))
   (pss_cons (ps_if (pt_cmpR op_gt (pv 4) pe_int (nomark _)) (pss_one (ps_set (i := 5) scRing.nd rfl (Or.inl rfl) (pe_tup (pa_cons pe_str (pa_cons (pe_op op_rep (pe_lst (pa_cons pe_int pa_nil)) pe_int) pa_nil))))) (pss_one (ps_set (i := 5) scRing.nd rfl (Or.inl rfl) (pe_tup (pa_cons pe_str (pa_cons (pe_op op_rep (pe_lst (pa_cons pe_int pa_nil)) (pe_callB (call_min2 rfl) (by rfl) nmin PyProof.Rows.boot_min (pa_cons pe_int (pa_cons (pe_op op_fdiv (pe_op op_add (pv 4) pe_int) pe_int) pa_nil)))) pa_nil))))))
   (pss_cons (ps_if (pt_cmpR (op_neD hr) (pe_fn hM hr (by decide) (pa_cons (pv 2) (pa_cons pe_int (pa_cons (pv 3) (pa_cons (pe_lst pa_nil) (pa_cons (pv 4) pa_nil)))))) (pv 5) (nomark _)) (pss_one (ps_ret pe_bl)) pss_nil)
   (pss_one (ps_if (pt_cmpR (op_neD hr) (pe_slice sl_tup (pe_fn hR hr (by decide) (pa_cons (pv 2) (pa_cons pe_int (pa_cons (pv 3) (pa_cons (pe_lst pa_nil) (pa_cons (pv 4) pa_nil)))))) po_none (po_some pe_int)) (pv 5) (nomark _)) (pss_one (ps_ret pe_bl)) pss_nil)))))
   (pss_one (ps_ret pe_bl))))), ?_⟩
  dsimp only [nox_K, comp_K]
  walk_at "rf"
  refine ⟨(sz : Int), rfl, by omega, by omega, fun l hl => ?_⟩
  refine loop_range (lo := 0) (n := (sz : Int).toNat) (fun j σ' G => ∃ (o0 : Option V) (us : List V), σ' = [o0, some (.int (sz : Int)), some (.int b)] ∧ Ext [l] H G ∧ G l = some (.lst us) ∧ DenL K (wo [l] G) ((List.range j).map fun k => workD [⟨[.tell b, .call (((k + 1) % sz : Nat) : Int)], []⟩]) us) ?_ ?_ ?_
  ·exact ⟨none, [], rfl, .laid hl, upd_same, .nil⟩
  ·intro j σ' G R hj hq_ hR_
   refine hide fun G_ hG_ => ?_
   obtain ⟨o0, us, rfl, eG, hlG, hus⟩ := hq_
   have hj : j < sz := by simpa using hj
   have hul : us.length = j := by rw [hus.len, List.length_map, List.length_range]
   refine hG_ ?_
   walk_at "rf"
   refine iteT ?_
   walk_at "rf"
   refine ⟨len2 (by show 2 ≤ 1000; decide), fun p1 h1 => ?_⟩
   obtain ⟨e1, m1, _⟩ := young_step (o := .tup [.str "tell", .int b]) (.refl [] G) h1
   have d1 := young_t (K := K) (.refl [] G) h1 (ds := [.str "tell", .int b]) (.cons .str (.cons .int .nil))
   generalize upd G p1 (.tup [.str "tell", .int b]) = G1 at e1 m1 d1 ⊢
   walk_at "rf"
   refine r_mod (by omega) ?_
   rw [show (0 + (j : Int) + 1) % (sz : Int) = (((j + 1) % sz : Nat) : Int) by push_cast; rw [Int.zero_add]]
   walk_at "rf"
   refine ⟨len2 (by show 2 ≤ 1000; decide), fun p2 h2 => ?_⟩
   obtain ⟨e2, m2, _⟩ := young_step (o := .tup [.str "call", .int (((j + 1) % sz : Nat) : Int)]) e1 h2
   have d2 := young_t (K := K) e1 h2 (ds := [.str "call", .int (((j + 1) % sz : Nat) : Int)]) (.cons .str (.cons .int .nil))
   have d1 := d1.mono m2
   generalize upd G1 p2 (.tup [.str "call", .int (((j + 1) % sz : Nat) : Int)]) = G2 at e2 m2 d2 d1 ⊢
   walk_at "rf"
   refine ⟨len2 (by show 2 ≤ 1000; decide), fun l3 h3 => ?_⟩
   obtain ⟨e3, m3, _⟩ := young_step (o := .lst [.ref p1, .ref p2]) e2 h3
   have d3 := young_l e2 h3 (.cons d1 (.cons d2 .nil))
   generalize upd G2 l3 (.lst [.ref p1, .ref p2]) = G3 at e3 m3 d3 ⊢
   walk_at "rf"
   refine ⟨len2 (by show 1 ≤ 1000; decide), fun p4 h4 => ?_⟩
   obtain ⟨e4, m4, _⟩ := young_step (o := .tup [.str "out"]) e3 h4
   have d4 := young_t (K := K) e3 h4 (ds := [.str "out"]) (.cons .str .nil)
   have d3 := d3.mono m4
   generalize upd G3 p4 (.tup [.str "out"]) = G4 at e4 m4 d4 d3 ⊢
   walk_at "rf"
   refine ⟨len2 (by show 2 ≤ 1000; decide), fun p5 h5 => ?_⟩
   obtain ⟨e5, m5, _⟩ := young_step (o := .tup [.ref l3, .ref p4]) e4 h5
   have d5 := young_t e4 h5 (.cons d3 (.cons d4 .nil))
   generalize upd G4 p5 (.tup [.ref l3, .ref p4]) = G5 at e5 m5 d5 ⊢
   walk_at "rf"
   refine ⟨len2 (by show 1 ≤ 1000; decide), fun l6 h6 => ?_⟩
   obtain ⟨e6, _, _⟩ := young_step (o := .lst [.ref p5]) e5 h6
   have d6 := young_l e5 h6 (.cons d5 .nil)
   generalize upd G5 l6 (.lst [.ref p5]) = G6 at e6 d6 ⊢
   have hl6 := e6 _ _ (by simp) hlG
   refine ⟨us, hl6, small1000 (by omega), hR_ _ _ ⟨_, us ++ [.ref l6], rfl, (eG.trans (e6.mono (by simp))).trans (.put (by simp)), upd_same, ?_⟩⟩
   have hs : Same (wo [l] G6) (wo [l] (upd G6 l (.lst (us ++ [.ref l6])))) := (Ext.put (ts := [l]) (by simp)).same
   rw [ringD_succ]
   refine DenL.append ((hus.mono (e6.mono (us := [l]) (by simp)).same).mono hs) (.cons (d6.mono fun a o z => hs a o ?_) .nil)
   obtain ⟨z1, z2, z3⟩ := yo_some z
   have na : a ≠ l := fun y => by rw [y, hlG] at z1; cases z1
   rw [wo_out (by simpa using na)]; exact z3
  ·intro σ' G hq_
   refine hide fun G_ hG_ => ?_
   obtain ⟨o0, us, rfl, eG, hlG, hus⟩ := hq_
   have EG : Ext [] H G := eG.drop hl
   have dW : Den K G (worksD (ringW sz b)) (.ref l) := by
    rw [ringD_all]
    have := hus.mono (wo_same _ _)
    exact .list (SqL.of hlG) (by simpa using this)
   refine hG_ ?_
   clear hus hlG eG
   walk_at "rf"
   refine ⟨len2 (by show 1 ≤ 1000; decide), fun l5 h5 => ?_⟩
   walk_at "rf"
   refine ⟨l5, 8, _, rfl, rfl, upd_same, by decide, by decide, len2 (by show 1 * 8 ≤ 1000; decide), fun lb hlb => ?_⟩
   rw [rep_map]
   have eB : Ext [] G (upd (upd G l5 (.lst [.int 5])) lb (.lst ((List.replicate (8 : Int).toNat 5).map V.int))) := (Ext.laid h5).trans (.laid hlb)
   have yB : (upd (upd G l5 (.lst [.int 5])) lb (.lst ((List.replicate (8 : Int).toNat 5).map V.int))) lb = some (.lst (fives.map V.int)) := upd_same
   generalize upd (upd G l5 (.lst [.int 5])) lb (.lst ((List.replicate (8 : Int).toNat 5).map V.int)) = GB at eB yB ⊢
   have dB := dW.mono eB.toSame
   have EB := EG.trans eB
   clear dW eB EG hl h5 hlb
   walk_at "rf"
   refine ⟨len2 (by show 9 ≤ 1000; decide), fun pw hpw => ⟨pw, rfl, ⟨_, SqT.of upd_same⟩, for_tupN (xs := ([0, 1, 2, 3, 58, 59, 60, 61, 200] : List Int).map V.int) (fun j σ' G => ∃ (o4 o5 : Option V), σ' = [some (.int (sz : Int)), some (.int b), some (.ref l), some (.ref lb), o4, o5] ∧ Ext [] GB G ∧ G pw = some (.tup (([0, 1, 2, 3, 58, 59, 60, 61, 200] : List Int).map V.int))) ?_ ?_ ?_ ?_⟩⟩
   ·exact ⟨_, _, rfl, .laid hpw, upd_same⟩
   ·intro j σ' G hj hq_
    obtain ⟨_, _, _, _, hp⟩ := hq_
    exact SqT.of hp
   ·intro j x σ' G hx hq_ N_ B_ C_ R_ hN_ hC_ hR_
    refine hide fun G_ hG_ => ?_
    obtain ⟨o4, o5, rfl, eG, hpG⟩ := hq_
    obtain ⟨mo, hmo, rfl⟩ := List.mem_map.mp (List.mem_of_getElem? hx)
    have hm0 : 0 ≤ mo ∧ mo ≤ 200 := (by decide : ∀ m ∈ ([0, 1, 2, 3, 58, 59, 60, 61, 200] : List Int), 0 ≤ m ∧ m ≤ 200) mo hmo
    refine hG_ ?_
    clear hx hmo
    with_reducible refine r_gn ?_
    with_reducible refine r_seqC (fun σ' G5 => ∃ du, σ' = [some (.int (sz : Int)), some (.int b), some (.ref l), some (.ref lb), some (.int mo), some (.ref du)] ∧ Ext [] G G5 ∧ Den K G5 (outD (stS (dueC mo)) (dueT mo)) (.ref du)) ?_ (fun hC => ?_)
    ·intro σ' G5 hq_
     refine hide fun G_ hG_ => ?_
     obtain ⟨du, rfl, e5, dD⟩ := hq_
     refine hG_ ?_
     have hrl : (0 : Int) < ((ringW sz b).length : Int) := by unfold ringW; rw [List.length_map, List.length_range]; omega
     walk_at "rf"
     refine ⟨len2 (by show 0 ≤ 1000; decide), fun pc hpc => ?_⟩
     have e6 : Ext [] G5 (upd G5 pc (.lst [])) := .laid hpc
     have y6 : (upd G5 pc (.lst [])) pc = some (.lst (([] : List Int).map V.int)) := upd_same
     generalize upd G5 pc (.lst []) = G6 at e6 y6 ⊢
     walk_at "rf"
     have eB6 : Ext [] GB G6 := eG.trans (e5.trans e6)
     refine ⟨⟨true, ringW sz b, [], mo⟩, l, lb, pc, 0, fives, rfl, ring_gv s1 s4 b0 b1 hm0.1 (by omega), rfl, dB.mono eB6.toSame, SqL.of (eB6 _ _ (by simp) yB), rfl, SqL.of y6, by decide, hrl, fun tp ta m1 c1 G7 hfi htp hta nta ntp ms7 e7 => ?_⟩
     obtain ⟨ec, et⟩ := ring_due s1 b0 b1 hm0.1 hfi
     have d7 : Den K G7 (outD (stS (dueC mo)) (dueT mo)) (.ref tp) := by rw [← ec, ← et]; exact .tuple (SqT.of htp) (.cons .str (.cons (.list (SqL.of hta) (DenL.ofInts _)) .nil))
     have dD7 := dD.mono (e6.trans e7).toSame
     have eB7 := eB6.trans e7
     have eG7 := e5.trans (e6.trans e7)
     walk_at "rf"
     refine ⟨_, _, d7, dD7, due_shaped hm0.2, due_shaped hm0.2, ?_⟩
     rw [if_pos rfl, eqv_refl _ (den_nodict d7)]
     refine ⟨_, rfl, ?_⟩
     refine iteF ?_
     clear e7 e6 y6 eB6 dD d7 htp hta nta ntp hfi ms7 hpc et ec
     walk_at "rf"
     refine ⟨len2 (by show 0 ≤ 1000; decide), fun pc hpc => ?_⟩
     have e6 : Ext [] G7 (upd G7 pc (.lst [])) := .laid hpc
     have y6 : (upd G7 pc (.lst [])) pc = some (.lst (([] : List Int).map V.int)) := upd_same
     generalize upd G7 pc (.lst []) = G8 at e6 y6 ⊢
     walk_at "rf"
     have eB8 : Ext [] GB G8 := eB7.trans e6
     refine ⟨⟨false, ringW sz b, [], mo⟩, l, lb, pc, 0, fives, rfl, ring_gv s1 s4 b0 b1 hm0.1 (by omega), rfl, dB.mono eB8.toSame, SqL.of (eB8 _ _ (by simp) yB), rfl, SqL.of y6, by decide, hrl, fun tq ta fa ba fl m2 c2 G9 hfi htq hta hfa hpr hba _ _ _ _ _ _ _ ms9 e9 => ?_⟩
     obtain ⟨ec, et⟩ := ring_due s1 b0 b1 hm0.1 hfi
     walk_at "rf"
     refine ⟨2, rfl, tq, _, rfl, SqT.of htq, ?_, fun p2 hp2 => ?_⟩
     ·show ¬ (HT.sIx 4 0 none = 0 ∧ HT.sIx 4 4 (some 2) = 4)
      decide
     have e10 : Ext [] G9 (upd G9 p2 (.tup [.str (stS c2), .ref ta])) := .laid hp2
     have y10 : (upd G9 p2 (.tup [.str (stS c2), .ref ta])) p2 = some (.tup [.str (stS c2), .ref ta]) := upd_same
     rw [show cutV [V.str (stS c2), .ref ta, .ref fa, .ref ba] none (some 2) = [.str (stS c2), .ref ta] from rfl]
     generalize upd G9 p2 (.tup [.str (stS c2), .ref ta]) = G10 at e10 y10 ⊢
     have d10 : Den K G10 (outD (stS (dueC mo)) (dueT mo)) (.ref p2) := by rw [← ec, ← et]; exact .tuple (SqT.of y10) (.cons .str (.cons (.list (SqL.of (e10 _ _ (by simp) hta)) (DenL.ofInts _)) .nil))
     have e710 := e6.trans (e9.trans e10)
     walk_at "rf"
     refine ⟨_, _, d10, dD7.mono e710.toSame, due_shaped hm0.2, due_shaped hm0.2, ?_⟩
     rw [if_pos rfl, eqv_refl _ (den_nodict d10)]
     refine ⟨_, rfl, ?_⟩
     refine iteF ?_
     walk_at "rf"
     have eG10 := eG7.trans e710
     exact ⟨_, _, rfl, eG.trans eG10, eG10 _ _ (by simp) hpG⟩
    ·walk_at "rf"
     by_cases q59 : 59 < mo
     ·rw [decide_eq_true q59]
      refine iteT ?_
      walk_at "rf"
      refine ⟨len2 (by show 1 ≤ 1000; decide), fun l7 h7 => ?_⟩
      walk_at "rf"
      refine ⟨l7, 20, _, rfl, rfl, upd_same, by decide, by decide, len2 (by show 1 * 20 ≤ 1000; decide), fun l8 h8 => ?_⟩
      rw [rep_map]
      have e8 : Ext [] G (upd (upd G l7 (.lst [.int 5])) l8 (.lst ((List.replicate (20 : Int).toNat 5).map V.int))) := (Ext.laid h7).trans (.laid h8)
      have y8 : (upd (upd G l7 (.lst [.int 5])) l8 (.lst ((List.replicate (20 : Int).toNat 5).map V.int))) l8 = some (.lst ((List.replicate 20 5).map V.int)) := upd_same
      generalize upd (upd G l7 (.lst [.int 5])) l8 (.lst ((List.replicate (20 : Int).toNat 5).map V.int)) = G8 at e8 y8 ⊢
      walk_at "rf"
      refine ⟨len2 (by show 2 ≤ 1000; decide), fun du hdu => ?_⟩
      with_reducible refine r_gn ?_
      refine hC _ _ ⟨du, rfl, e8.trans (.laid hdu), ?_⟩
      unfold dueC dueT
      rw [if_pos q59, if_pos q59]
      exact .tuple (SqT.of upd_same) (.cons .str (.cons (.list (SqL.of ((Ext.laid (ts := []) hdu) _ _ (by simp) y8)) (DenL.ofInts _)) .nil))
     ·rw [decide_eq_false q59]
      refine iteF ?_
      walk_at "rf"
      refine ⟨len2 (by show 1 ≤ 1000; decide), fun l7 h7 => ?_⟩
      walk_at "rf"
      refine r_div (by decide) (by decide) ?_
      walk_at "rf"
      refine ⟨_, _, rfl, ?_⟩
      rw [show (if (mo + 1) / 3 < 20 then (mo + 1) / 3 else 20) = (mo + 1) / 3 by split <;> omega]
      refine ⟨l7, (mo + 1) / 3, _, rfl, rfl, upd_same, by omega, by omega, len2 (by show 1 * ((mo + 1) / 3).toNat ≤ 1000; omega), fun l8 h8 => ?_⟩
      rw [rep_map]
      have e8 : Ext [] G (upd (upd G l7 (.lst [.int 5])) l8 (.lst ((List.replicate ((mo + 1) / 3).toNat 5).map V.int))) := (Ext.laid h7).trans (.laid h8)
      have y8 : (upd (upd G l7 (.lst [.int 5])) l8 (.lst ((List.replicate ((mo + 1) / 3).toNat 5).map V.int))) l8 = some (.lst ((List.replicate ((mo + 1) / 3).toNat 5).map V.int)) := upd_same
      generalize upd (upd G l7 (.lst [.int 5])) l8 (.lst ((List.replicate ((mo + 1) / 3).toNat 5).map V.int)) = G8 at e8 y8 ⊢
      walk_at "rf"
      refine ⟨len2 (by show 2 ≤ 1000; decide), fun du hdu => ?_⟩
      with_reducible refine r_gn ?_
      refine hC _ _ ⟨du, rfl, e8.trans (.laid hdu), ?_⟩
      unfold dueC dueT
      rw [if_neg q59, if_neg q59]
      exact .tuple (SqT.of upd_same) (.cons .str (.cons (.list (SqL.of ((Ext.laid (ts := []) hdu) _ _ (by simp) y8)) (DenL.ofInts _)) .nil))
   ·intro σ' G hq_
    refine hide fun G_ hG_ => ?_
    obtain ⟨o4, o5, rfl, eG, hpG⟩ := hq_
    refine hG_ ?_
    walk_at "rf"
    exact q _ (EB.trans eG)
end
end Fs
set_option maxHeartbeats 1000000
namespace Fs
open PySem L2
section
variable {P : Program} {w : World} {K : PySem.W.Frag} {mg : Str → Option Value} {base : Heap}
noncomputable abbrev sChain : Stmt := top 24
theorem scChain : FnScope ["_law_many_here", "_law_chain", "_law_due"] ["_law_many_here"] (defScope sChain) := ⟨rfl, rfl, rfl, by decide +kernel, rfl, by decide +kernel, by decide +kernel⟩
theorem r_andV {ta tb : TE} {σ : St} {H : Hp} {Q : VK} (h : ta σ H fun x H1 => ∃ c, x = .bl c ∧ if c = true then tb σ H1 Q else Q (.bl false) H1) : tAndV ta tb σ H Q := h
theorem ok_chain {f : Addr} {fd : FuncData} (F : Fun K "_law_chain_right" "_law_chain_right" sChain f fd) (nrange : mg "range" = none)
  (hM : Has P w K mg base "meant" 86 ["works", "number", "boxes", "choices", "most"] (spMeant K)) (hR : Has P w K mg base "run" 86 ["works", "number", "boxes", "choices", "most"] (spRun K)) :
  FnOk P w K mg base CX0 87 f fd ["_law_many_here"] (spChainR K) := by
 refine F.ok scChain (fun vs H Q E h => ?_) (fun cdv A outer s H vs Q E hr h => ?_)
 ·obtain ⟨n, rfl, _⟩ := h
  rfl
 ·obtain ⟨n, rfl, hn, q⟩ := h
  refine ⟨_, (pss_cons (ps_set (i := 1) scChain.nd rfl (Or.inl rfl) (pe_op op_cat (pe_lc ["_law_k"] [] rfl (.of rfl) (pi_range1 rfl nrange (pa_cons (pv 0) pa_nil)) (fun _ _ _ _ => (pg_name (i := 0) (by show (((["_law_k"] : List Str))).Nodup; decide) rfl (Or.inl rfl))) (fun _ _ _ _ => .nil) (fun _ _ _ _ => (pe_lst (pa_cons (pe_tup (pa_cons (pe_lst (pa_cons (pe_tup (pa_cons pe_str (pa_cons (pe_op op_add (pv 0) pe_int) pa_nil))) pa_nil)) (pa_cons (pe_tup (pa_cons pe_str pa_nil)) pa_nil))) pa_nil)))) (pe_lst (pa_cons (pe_lst (pa_cons (pe_tup (pa_cons (pe_lst pa_nil) (pa_cons (pe_tup (pa_cons pe_str pa_nil)) pa_nil))) pa_nil)) pa_nil))))
   (pss_cons (ps_set (i := 2) scChain.nd rfl (Or.inl rfl) (pe_ifExp (pt_cmpR op_lt (pv 0) pe_int (nomark _)) pe_str pe_str))
   (pss_one (ps_ret (pe_and (pe_cmpR op_eq (pe_ix ix_tup (pe_fn hM hr (by decide) (pa_cons (pv 1) (pa_cons pe_int (pa_cons (pe_op op_rep (pe_lst (pa_cons pe_int pa_nil)) pe_int) (pa_cons (pe_lst pa_nil) (pa_cons pe_int pa_nil)))))) pe_int (fun _ _ => rfl)) (pv 2) (nomark _)) (pe_one (pe_cmpR op_eq (pe_ix ix_tup (pe_fn hR hr (by decide) (pa_cons (pv 1) (pa_cons pe_int (pa_cons (pe_op op_rep (pe_lst (pa_cons pe_int pa_nil)) pe_int) (pa_cons (pe_lst pa_nil) (pa_cons pe_int pa_nil)))))) pe_int (fun _ _ => rfl)) (pv 2) (nomark _)))))))), ?_⟩
  dsimp only [nox_K, comp_K]
  walk_at "rf"
  refine ⟨(n : Int), rfl, by omega, by omega, fun l hl => ?_⟩
  refine loop_range (lo := 0) (n := (n : Int).toNat) (fun j σ' G => ∃ (o0 : Option V) (us : List V), σ' = [o0] ∧ Ext [l] H G ∧ G l = some (.lst us) ∧ DenL K (wo [l] G) ((List.range j).map fun (k : Nat) => workD [⟨[.call ((k : Int) + 1)], []⟩]) us) ?_ ?_ ?_
  ·exact ⟨none, [], rfl, .laid hl, upd_same, .nil⟩
  ·intro j σ' G R hj hq_ hR_
   refine hide fun G_ hG_ => ?_
   obtain ⟨o0, us, rfl, eG, hlG, hus⟩ := hq_
   have hj : j < n := by simpa using hj
   have hul : us.length = j := by rw [hus.len, List.length_map, List.length_range]
   refine hG_ ?_
   walk_at "rf"
   refine iteT ?_
   walk_at "rf"
   rw [show (0 + (j : Int) + 1) = (j : Int) + 1 by omega]
   refine ⟨len2 (by show 2 ≤ 1000; decide), fun p2 h2 => ?_⟩
   obtain ⟨e2, m2, _⟩ := young_step (o := .tup [.str "call", .int ((j : Int) + 1)]) (.refl [] G) h2
   have d2 := young_t (K := K) (.refl [] G) h2 (ds := [.str "call", .int ((j : Int) + 1)]) (.cons .str (.cons .int .nil))
   generalize upd G p2 (.tup [.str "call", .int ((j : Int) + 1)]) = G2 at e2 m2 d2 ⊢
   walk_at "rf"
   refine ⟨len2 (by show 1 ≤ 1000; decide), fun l3 h3 => ?_⟩
   obtain ⟨e3, m3, _⟩ := young_step (o := .lst [.ref p2]) e2 h3
   have d3 := young_l e2 h3 (.cons d2 .nil)
   generalize upd G2 l3 (.lst [.ref p2]) = G3 at e3 m3 d3 ⊢
   walk_at "rf"
   refine ⟨len2 (by show 1 ≤ 1000; decide), fun p4 h4 => ?_⟩
   obtain ⟨e4, m4, _⟩ := young_step (o := .tup [.str "out"]) e3 h4
   have d4 := young_t (K := K) e3 h4 (ds := [.str "out"]) (.cons .str .nil)
   have d3 := d3.mono m4
   generalize upd G3 p4 (.tup [.str "out"]) = G4 at e4 m4 d4 d3 ⊢
   walk_at "rf"
   refine ⟨len2 (by show 2 ≤ 1000; decide), fun p5 h5 => ?_⟩
   obtain ⟨e5, m5, _⟩ := young_step (o := .tup [.ref l3, .ref p4]) e4 h5
   have d5 := young_t e4 h5 (.cons d3 (.cons d4 .nil))
   generalize upd G4 p5 (.tup [.ref l3, .ref p4]) = G5 at e5 m5 d5 ⊢
   walk_at "rf"
   refine ⟨len2 (by show 1 ≤ 1000; decide), fun l6 h6 => ?_⟩
   obtain ⟨e6, _, _⟩ := young_step (o := .lst [.ref p5]) e5 h6
   have d6 := young_l e5 h6 (.cons d5 .nil)
   generalize upd G5 l6 (.lst [.ref p5]) = G6 at e6 d6 ⊢
   have hl6 := e6 _ _ (by simp) hlG
   refine ⟨us, hl6, small1000 (by omega), hR_ _ _ ⟨_, us ++ [.ref l6], rfl, (eG.trans (e6.mono (by simp))).trans (.put (by simp)), upd_same, ?_⟩⟩
   have hs : Same (wo [l] G6) (wo [l] (upd G6 l (.lst (us ++ [.ref l6])))) := (Ext.put (ts := [l]) (by simp)).same
   rw [chainD_succ]
   refine DenL.append ((hus.mono (e6.mono (us := [l]) (by simp)).same).mono hs) (.cons (d6.mono fun a o z => hs a o ?_) .nil)
   obtain ⟨z1, z2, z3⟩ := yo_some z
   have na : a ≠ l := fun y => by rw [y, hlG] at z1; cases z1
   rw [wo_out (by simpa using na)]; exact z3
  ·intro σ' G hq_
   refine hide fun G_ hG_ => ?_
   obtain ⟨o0, us, rfl, eG, hlG, hus⟩ := hq_
   have EG : Ext [] H G := eG.drop hl
   have hus : DenL K G ((List.range n).map fun (k : Nat) => workD [⟨[.call ((k : Int) + 1)], []⟩]) us := by
    have := hus.mono (wo_same _ _)
    simpa using this
   have hul : us.length = n := by rw [hus.len, List.length_map, List.length_range]
   refine hG_ ?_
   clear eG
   walk_at "rf"
   refine ⟨len2 (by show 0 ≤ 1000; decide), fun l3 h3 => ?_⟩
   obtain ⟨e3, m3, _⟩ := young_step (o := .lst []) (.refl [] G) h3
   have d3 := young_l (K := K) (.refl [] G) h3 (ds := []) .nil
   generalize upd G l3 (.lst []) = G3 at e3 m3 d3 ⊢
   walk_at "rf"
   refine ⟨len2 (by show 1 ≤ 1000; decide), fun p4 h4 => ?_⟩
   obtain ⟨e4, m4, _⟩ := young_step (o := .tup [.str "out"]) e3 h4
   have d4 := young_t (K := K) e3 h4 (ds := [.str "out"]) (.cons .str .nil)
   have d3 := d3.mono m4
   generalize upd G3 p4 (.tup [.str "out"]) = G4 at e4 m4 d4 d3 ⊢
   walk_at "rf"
   refine ⟨len2 (by show 2 ≤ 1000; decide), fun p5 h5 => ?_⟩
   obtain ⟨e5, m5, _⟩ := young_step (o := .tup [.ref l3, .ref p4]) e4 h5
   have d5 := young_t e4 h5 (.cons d3 (.cons d4 .nil))
   generalize upd G4 p5 (.tup [.ref l3, .ref p4]) = G5 at e5 m5 d5 ⊢
   walk_at "rf"
   refine ⟨len2 (by show 1 ≤ 1000; decide), fun l6 h6 => ?_⟩
   obtain ⟨e6, m6, _⟩ := young_step (o := .lst [.ref p5]) e5 h6
   have d6 := young_l e5 h6 (.cons d5 .nil)
   generalize upd G5 l6 (.lst [.ref p5]) = G6 at e6 m6 d6 ⊢
   walk_at "rf"
   refine ⟨len2 (by show 1 ≤ 1000; decide), fun l7 h7 => ?_⟩
   have e7 : Ext [] G6 (upd G6 l7 (.lst [.ref l6])) := .laid h7
   refine ⟨l, l7, us, [.ref l6], rfl, rfl, (e6.trans e7) _ _ (by simp) hlG, upd_same, len2 (by simp; omega), fun lw hlw => ?_⟩
   have e8 : Ext [] G6 (upd (upd G6 l7 (.lst [.ref l6])) lw (.lst (us ++ [.ref l6]))) := e7.trans (.laid hlw)
   have dW : Den K (upd (upd G6 l7 (.lst [.ref l6])) lw (.lst (us ++ [V.ref l6]))) (worksD (chainW n)) (.ref lw) := by
    rw [chainD_all]
    exact .list (SqL.of upd_same) (DenL.append (hus.mono (e6.trans e8).toSame) (.cons ((d6.mono yo_same).mono e8.toSame) .nil))
   have E8 := EG.trans (e6.trans e8)
   generalize upd (upd G6 l7 (.lst [.ref l6])) lw (.lst (us ++ [V.ref l6])) = G8 at e8 dW E8 ⊢
   clear e7 e8 d6 m6 e6 d5 m5 e5 d4 m4 e4 d3 m3 e3 hus hlG EG
   with_reducible refine r_gn ?_
   with_reducible refine go_nx (by assumption) ?_
   with_reducible refine r_seqC (fun σ' G' => σ' = [some (.int (n : Int)), some (.ref lw), some (.str (stS (if n < 20 then 0 else 2)))] ∧ G' = G8) ?_ (fun hC => ?_)
   ·intro σ' G' hq_
    obtain ⟨rfl, rfl⟩ := hq_
    have hcl : (0 : Int) < ((chainW n).length : Int) := by unfold chainW; rw [List.length_append]; simp
    walk_at "rf"
    refine r_andV ?_
    walk_at "rf"
    refine ⟨len2 (by show 1 ≤ 1000; decide), fun l5 h5 => ?_⟩
    walk_at "rf"
    refine ⟨l5, 8, _, rfl, rfl, upd_same, by decide, by decide, len2 (by show 1 * 8 ≤ 1000; decide), fun lb hlb => ?_⟩
    rw [rep_map]
    have eB : Ext [] G' (upd (upd G' l5 (.lst [.int 0])) lb (.lst ((List.replicate (8 : Int).toNat 0).map V.int))) := (Ext.laid h5).trans (.laid hlb)
    have yB : (upd (upd G' l5 (.lst [.int 0])) lb (.lst ((List.replicate (8 : Int).toNat 0).map V.int))) lb = some (.lst ((List.replicate 8 0).map V.int)) := upd_same
    generalize upd (upd G' l5 (.lst [.int 0])) lb (.lst ((List.replicate (8 : Int).toNat 0).map V.int)) = GB at eB yB ⊢
    walk_at "rf"
    refine ⟨len2 (by show 0 ≤ 1000; decide), fun pc hpc => ?_⟩
    have eC : Ext [] GB (upd GB pc (.lst [])) := .laid hpc
    have yC : (upd GB pc (.lst [])) pc = some (.lst (([] : List Int).map V.int)) := upd_same
    generalize upd GB pc (.lst []) = GC at eC yC ⊢
    walk_at "rf"
    have eBC : Ext [] G' GC := eB.trans eC
    refine ⟨⟨true, chainW n, [], 500⟩, lw, lb, pc, 0, List.replicate 8 0, rfl, chain_gv hn, rfl, dW.mono eBC.toSame, SqL.of (eC _ _ (by simp) yB), rfl, SqL.of yC, by decide, hcl, fun tp ta m1 c1 G9 hfi htp hta nta ntp ms9 e9 => ?_⟩
    obtain ⟨m', hf⟩ := chain_fi (g := ⟨true, chainW n, [], 500⟩) (bl := List.replicate 8 0) rfl hn rfl
    obtain ⟨ec, _⟩ := hfi.det hf
    have e89 := eBC.trans e9
    walk_at "rf"
    refine r_ixT (SqT.of htp) at0 ?_
    walk_at "rf"
    refine r_eqS ?_
    rw [decide_eq_true (by rw [ec])]
    refine ⟨_, rfl, ?_⟩
    refine iteT ?_
    clear eC eBC eB yB yC hfi htp hta nta ntp ms9 hf e9 hpc hlb h5
    walk_at "rf"
    refine ⟨len2 (by show 1 ≤ 1000; decide), fun l5 h5 => ?_⟩
    walk_at "rf"
    refine ⟨l5, 8, _, rfl, rfl, upd_same, by decide, by decide, len2 (by show 1 * 8 ≤ 1000; decide), fun lb hlb => ?_⟩
    rw [rep_map]
    have eB : Ext [] G9 (upd (upd G9 l5 (.lst [.int 0])) lb (.lst ((List.replicate (8 : Int).toNat 0).map V.int))) := (Ext.laid h5).trans (.laid hlb)
    have yB : (upd (upd G9 l5 (.lst [.int 0])) lb (.lst ((List.replicate (8 : Int).toNat 0).map V.int))) lb = some (.lst ((List.replicate 8 0).map V.int)) := upd_same
    generalize upd (upd G9 l5 (.lst [.int 0])) lb (.lst ((List.replicate (8 : Int).toNat 0).map V.int)) = GB at eB yB ⊢
    walk_at "rf"
    refine ⟨len2 (by show 0 ≤ 1000; decide), fun pc hpc => ?_⟩
    have eC : Ext [] GB (upd GB pc (.lst [])) := .laid hpc
    have yC : (upd GB pc (.lst [])) pc = some (.lst (([] : List Int).map V.int)) := upd_same
    generalize upd GB pc (.lst []) = GC at eC yC ⊢
    walk_at "rf"
    have eBC : Ext [] G9 GC := eB.trans eC
    refine ⟨⟨false, chainW n, [], 500⟩, lw, lb, pc, 0, List.replicate 8 0, rfl, chain_gv hn, rfl, dW.mono (e89.trans eBC).toSame, SqL.of (eC _ _ (by simp) yB), rfl, SqL.of yC, by decide, hcl, fun tq ta fa ba fl m2 c2 G10 hfi htq hta hfa hpr hba _ _ _ _ _ _ _ ms10 e10 => ?_⟩
    obtain ⟨m', hf⟩ := chain_fi (g := ⟨false, chainW n, [], 500⟩) (bl := List.replicate 8 0) rfl hn rfl
    obtain ⟨ec, _⟩ := hfi.det hf
    walk_at "rf"
    refine r_ixT (SqT.of htq) at0 ?_
    walk_at "rf"
    refine r_eqS ?_
    rw [decide_eq_true (by rw [ec])]
    exact q _ (E8.trans (e89.trans (eBC.trans e10)))
   ·walk_at "rf"
    by_cases q20 : n < 20
    ·rw [decide_eq_true (by omega)]
     refine iteT ?_
     refine hC _ _ ⟨?_, rfl⟩
     rw [if_pos q20]; rfl
    ·rw [decide_eq_false (by omega)]
     refine iteF ?_
     refine hC _ _ ⟨?_, rfl⟩
     rw [if_neg q20]; rfl
end
end Fs
set_option maxHeartbeats 1000000
namespace Fs
open PySem L2
section
variable {P : Program} {w : World} {K : PySem.W.Frag} {mg : Str → Option Value} {base : Heap}
noncomputable abbrev sLaw : Stmt := top 25
theorem scLaw : FnScope ["_law_script", "_law_k", "_law_tape_here", "_law_bent", "_law_works_here", "_law_made"] ["_law_script"] (defScope sLaw) := ⟨rfl, rfl, rfl, by decide +kernel, rfl, by decide +kernel, by decide +kernel⟩
noncomputable def spLaw (K : PySem.W.Frag) : Sp := fun vs H Q _ => ∃ (a : Addr) (ns : List Int), vs = [.ref a] ∧ SqL K H a (ns.map V.int) ∧ ns.length ≤ 63 ∧ ∀ H', Q (.bl true) H'
theorem ok_law {f : Addr} {fd : FuncData} (F : Fun K "law" "law" sLaw f fd) (nrange : mg "range" = none) (nlen : mg "len" = none) (nmax : mg "max" = none) (nmin : mg "min" = none)
  (hT : Has P w K mg base "_law_tape" 1 ["_law_script", "_law_k"] (spTape K)) (hD : Has P w K mg base "_law_draw" 1 ["_law_tape_here", "_law_many_here"] spDraw) (hW : Has P w K mg base "_law_work" 4 ["_law_tape_here", "_law_many_here", "_law_most", "_law_first", "_law_works_here"] (spWorkP K)) (hV : Has P w K mg base "_law_with_moves" 2 ["_law_tape_here", "_law_works_here"] (spMovesL K))
  (hS : Has P w K mg base "_law_steps_right" 87 ["_law_tape_here", "_law_plain", "_law_works_here"] (spSteps K)) (hR : Has P w K mg base "_law_ring_right" 87 ["_law_size", "_law_box"] (spRing K)) (hC : Has P w K mg base "_law_chain_right" 87 ["_law_many_here"] (spChainR K)) :
  FnOk P w K mg base CX0 88 f fd ["_law_script"] (spLaw K) := by
 refine F.ok scLaw (fun vs H Q E h => ?_) (fun cdv A outer s H vs Q E hr h => ?_)
 ·obtain ⟨a, ns, rfl, _⟩ := h
  rfl
 ·obtain ⟨a, ns, rfl, hSq, hlen, q⟩ := h
  refine ⟨_, (pss_cons (ps_for PassesOwn.never rfl (pi_range1 rfl nrange (pa_cons (pe_callB (call_max2 rfl) (by rfl) nmax PyProof.Rows.boot_max (pa_cons pe_int (pa_cons (pe_callB (call_min2 rfl) (by rfl) nmin PyProof.Rows.boot_min (pa_cons (pe_callB call_len_seq (by rfl) nlen PySem.boot_len (pa_cons (pv 0) pa_nil)) (pa_cons pe_int pa_nil))) pa_nil))) pa_nil)) (pg_name (i := 1) scLaw.nd rfl (Or.inl rfl))
   (pss_cons (ps_set (i := 2) scLaw.nd rfl (Or.inr rfl) (pe_fn hT hr (by decide) (pa_cons (pv 0) (pa_cons (pv 1) pa_nil))))
   (pss_cons (ps_set (i := 3) scLaw.nd rfl (Or.inl rfl) (pe_cmpR op_eq (pe_fn hD hr (by decide) (pa_cons (pv 2) (pa_cons pe_int pa_nil))) pe_int (nomark _)))
   (pss_cons (ps_lc (i := 4) ["_law_first"] [2] rfl (.of rfl) scLaw.nd rfl (Or.inl rfl) (pi_range1 rfl nrange (pa_cons pe_int pa_nil)) (fun _ _ _ _ => (pg_name (i := 0) (by show (((["_law_first", "_law_tape_here"] : List Str))).Nodup; decide) rfl (Or.inl rfl))) (fun _ _ _ _ => .nil) (fun _ _ _ _ => (pe_fn hW hr (by decide) (pa_cons (pv 1) (pa_cons (pe_op op_add pe_int (pe_fn hD hr (by decide) (pa_cons (pv 1) (pa_cons pe_int pa_nil)))) (pa_cons pe_int (pa_cons (pv 0) (pa_cons pe_int pa_nil))))))))
   (pss_cons (ps_set (i := 5) scLaw.nd rfl (Or.inl rfl) (pe_ifExp (pt_truthK K rfl (pv 3) (fun _ => rfl)) (pe_fn hV hr (by decide) (pa_cons (pv 2) (pa_cons (pv 4) pa_nil))) (pv 4)))
   (pss_cons (ps_if (pt_not (pt_truthK K rfl (pe_fn hS hr (by decide) (pa_cons (pv 2) (pa_cons (pv 4) (pa_cons (pv 5) pa_nil)))) (fun _ => rfl))) (pss_one (ps_ret pe_bl)) pss_nil)
   (pss_cons (ps_if (pt_not (pt_truthK K rfl (pe_fn hR hr (by decide) (pa_cons (pe_op op_add pe_int (pe_fn hD hr (by decide) (pa_cons (pv 2) (pa_cons pe_int pa_nil)))) (pa_cons (pe_fn hD hr (by decide) (pa_cons (pv 2) (pa_cons pe_int pa_nil))) pa_nil))) (fun _ => rfl))) (pss_one (ps_ret pe_bl)) pss_nil)
   (pss_one (ps_if (pt_not (pt_truthK K rfl (pe_fn hC hr (by decide) (pa_cons (pe_ix ix_list (pe_lst (pa_cons pe_int (pa_cons pe_int (pa_cons pe_int (pa_cons pe_int (pa_cons pe_int (pa_cons pe_int pa_nil))))))) (pe_fn hD hr (by decide) (pa_cons (pv 2) (pa_cons pe_int pa_nil))) (fun _ _ => rfl)) pa_nil)) (fun _ => rfl))) (pss_one (ps_ret pe_bl)) pss_nil)))))))))
   (pss_one (ps_ret pe_bl))), ?_⟩
  dsimp only [nox_K, comp_K]
  walk_at "rf"
  refine r_lenL hSq ?_
  rw [List.length_map]
  walk_at "rf"
  refine ⟨_, _, rfl, ?_⟩
  walk_at "rf"
  refine ⟨_, _, rfl, ?_⟩
  generalize hN : (if (if (2 : Int) < (ns.length : Int) then (2 : Int) else (ns.length : Int)) > 1 then (if (2 : Int) < (ns.length : Int) then (2 : Int) else (ns.length : Int)) else 1) = N
  have hN1 : 1 ≤ N ∧ N ≤ 2 := by
   rw [← hN]
   repeat' split
   all_goals omega
  walk_at "rf"
  refine ⟨N, rfl, by omega, by omega, for_rangeN (lo := 0) (n := N.toNat) (fun i σ' H' => ∃ (o1 o2 o3 o4 o5 : Option V), σ' = [some (.ref a), o1, o2, o3, o4, o5] ∧ Ext [] H H') ?_ ?_ ?_⟩
  ·exact ⟨_, _, _, _, _, rfl, .refl _ _⟩
  ·intro i σ' H' hi hq_ N_ B_ C_ R_ hN_ hC_ hR_
   refine hide fun G_ hG_ => ?_
   obtain ⟨o1, o2, o3, o4, o5, rfl, e'⟩ := hq_
   refine hG_ ?_
   walk_at "rf"
   refine ⟨a, ns, i, by show [V.ref a, V.int (0 + (i : Int))] = [V.ref a, V.int (i : Int)]; rw [Int.zero_add], e'.toSame.seq hSq, by omega, fun t H1 ht T1 s1 => ?_⟩
   walk_at "rf"
   refine r_draw T1 (by omega) (by decide) (by decide) fun bn H1' bn0 bn1 T1' e1' _ => ?_
   walk_at "rf"
   refine r_eqI ?_
   walk_at "rf"
   refine ⟨3, rfl, by decide, by decide, fun l hl => ?_⟩
   have nlt : l ≠ t := T1'.ne hl
   have E01 : Ext [t] H' H1' := (show Ext [t] H' H1 from fun b o _ h => s1 b o h).trans e1'
   refine loop_range (lo := 0) (n := (3 : Int).toNat) (fun j σ' G => ∃ (o0 : Option V) (as : List Addr) (ws : List (List Blk)), σ' = [o0, some (.ref t)] ∧ as.length = j ∧ Tape G t (1 + 2001 * j) ∧ WsAcc K H1' G t l 3 as ws) ?_ ?_ ?_
   ·exact ⟨none, [], [], rfl, rfl, (T1'.ext (ts := []) (.laid hl) (by simp)).mono (by omega), (by simp), (by simp), (by simp), (by simp), .nil, .laid hl, upd_same, .nil⟩
   ·intro j σ' G R hj hq_ hR_
    refine hide fun G_ hG_ => ?_
    obtain ⟨o0, as, ws, rfl, hal, TG, A⟩ := hq_
    have hj : j < 3 := hj
    refine hG_ ?_
    walk_at "rf"
    refine iteT ?_
    walk_at "rf"
    refine r_draw TG (by omega) (by decide) (by decide) fun r G5 r0 r1 T5 e5 _ => ?_
    walk_at "rf"
    refine ⟨t, _, 1 + r, 3, _, 3, rfl, T5, by omega, by omega, by omega, by omega, by omega, by omega, by omega, by omega, by omega, fun a1 w1 bs G6 ha nat T6 e6 hw1 hf1 hba hden => ?_⟩
    obtain ⟨l6, A6⟩ := A.snoc nlt (by omega) (by omega) e5 ha nat e6 hw1 hf1 hba hden
    walk_at "rf"
    exact ⟨_, l6, small1000 (by rw [List.length_map]; omega), hR_ _ _ ⟨_, as ++ [a1], ws ++ [w1], rfl, by rw [List.length_append, hal]; rfl, (T6.ext (ts := [l]) (.put (by simp)) (by simpa using nlt.symm)).mono (by omega), A6⟩⟩
   ·intro σ' G hq_
    refine hide fun G_ hG_ => ?_
    obtain ⟨o0, as, ws, rfl, hal, TG, A⟩ := hq_
    have hal : as.length = 3 := hal
    have hwl : as.length = ws.length := A.wat.len
    have hw3 : ((ws.length : Nat) : Int) = 3 := by omega
    have okA : AllOk (ws.length : Int) ws := ⟨by rw [hw3]; exact A.wok, by omega, by omega⟩
    have okP := allok_ws okA
    have plP : ∀ w ∈ ws, ∀ b ∈ w, ∀ d ∈ b.ds, (∀ x, d ≠ .save x) ∧ ∀ x, d ≠ .back x := fun w hw b hb d hd => ((A.fw w hw b hb).2 d hd).pl
    have TG : Tape G t 6004 := TG
    have dP : Den K (wo [t] G) (worksD ws) (.ref l) := TG.works (.list (SqL.of A.lst) (worksP_den A.wat yo_same))
    have EG : Ext [t] H' G := E01.trans (A.ex.drop hl)
    refine hG_ ?_
    with_reducible refine r_gn ?_
    (try with_reducible refine go_nx (by assumption) ?_)
    with_reducible refine r_seqC (fun σ' G2 => ∃ (lm : Addr) (wm : List (List Blk)), σ' = [some (.ref a), some (.int (0 + (i : Int))), some (.ref t), some (.bl (decide (bn = 0))), some (.ref l), some (.ref lm)] ∧ Tape G2 t 11004 ∧ Ext [t] G G2 ∧ Den K (wo [t] G2) (worksD wm) (.ref lm) ∧ WsOk wm ∧ ws.length = wm.length) ?_ (fun hC => ?_)
    ·intro σ' G2 hq_
     refine hide fun G_ hG_ => ?_
     obtain ⟨lm, wm, rfl, T2, e2, dM, okM, hlm⟩ := hq_
     refine hG_ ?_
     walk_at "rf"
     refine ⟨t, l, lm, _, ws, wm, rfl, T2, by omega, dP.mono e2.same, dM, okP, okM, plP, hlm, fun G3 T3 e3 => ?_⟩
     walk_at "rf"
     refine tru_bl ?_
     refine iteF ?_
     walk_at "rf"
     refine r_draw T3 (by omega) (by decide) (by decide) fun r G4 r0 r1 T4 e4 _ => ?_
     walk_at "rf"
     refine r_draw T4 (by omega) (by decide) (by decide) fun bx G5 b0 b1 T5 e5 _ => ?_
     walk_at "rf"
     refine ⟨(1 + r).toNat, bx, by rw [show (((1 + r).toNat : Nat) : Int) = 1 + r by omega]; rfl, by omega, by omega, b0, b1, fun G6 e6 => ?_⟩
     walk_at "rf"
     refine tru_bl ?_
     refine iteF ?_
     walk_at "rf"
     refine ⟨len2 (by show 6 ≤ 1000; decide), fun pm hpm => ?_⟩
     have T6 := T5.ext e6 (by simp)
     have npm : pm ≠ t := T6.ne hpm
     walk_at "rf"
     refine r_draw (T6.ext (.laid (ts := []) hpm) (by simp)) (by omega) (by decide) (by decide) fun r2 G7 r20 r21 T7 e7 k7 => ?_
     refine hide fun G_ hG_ => ?_
     obtain ⟨cn, hcn, cn1⟩ : ∃ cn : Nat, atI [V.int 0, V.int 1, V.int 18, V.int 19, V.int 20, V.int 21] r2 = some (.int (cn : Int)) ∧ cn ≤ 22 := by
      have : r2 = 0 ∨ r2 = 1 ∨ r2 = 2 ∨ r2 = 3 ∨ r2 = 4 ∨ r2 = 5 := by omega
      rcases this with z | z | z | z | z | z <;> subst z
      ·exact ⟨0, rfl, by decide⟩
      ·exact ⟨1, rfl, by decide⟩
      ·exact ⟨18, rfl, by decide⟩
      ·exact ⟨19, rfl, by decide⟩
      ·exact ⟨20, rfl, by decide⟩
      ·exact ⟨21, rfl, by decide⟩
     refine hG_ ?_
     refine r_ixL (SqL.of (by rw [k7 pm npm, upd_same])) hcn ?_
     have E27 : Ext [t] G2 G7 := e3.trans (e4.trans (e5.trans ((e6.mono (by simp)).trans ((Ext.laid hpm).trans e7))))
     clear k7 npm hpm hcn
     walk_at "rf"
     refine ⟨cn, rfl, cn1, fun G8 e8 => ?_⟩
     walk_at "rf"
     refine tru_bl ?_
     refine iteF ?_
     walk_at "rf"
     exact ⟨_, _, _, _, _, rfl, e'.trans ((EG.trans (e2.trans (E27.trans (e8.mono (by simp))))).drop ht)⟩
    ·walk_at "rf"
     refine tru_bl ?_
     cases hbn : decide (bn = 0) with
     | false =>
      rw [hbn] at hC
      refine iteF ?_
      with_reducible refine r_var (by with_unfolding_all rfl) ?_
      with_reducible refine r_gn ?_
      exact hC _ _ ⟨l, ws, rfl, TG.mono (by omega), .refl _ _, dP, okP, rfl⟩
     | true =>
      rw [hbn] at hC
      refine iteT ?_
      walk_at "rf"
      refine ⟨t, l, _, as, ws, (ws.length : Int), rfl, TG, by omega, A.lst, nlt, (fun z => (A.young t z).2 rfl), A.wat.mono (fun b o h => ?_) (fun _ _ _ h => h), okA, (fun w hw b hb => (A.fw w hw b hb).1), fun lm am wm G3 hlm nlm hlam ham hndm T3 e3 hl3 hWm okm halm => ?_⟩
      ·obtain ⟨h1, h2, h3⟩ := yo_some h
       rw [wo_out (fun z => h2 (by rw [List.mem_singleton.mp z]; simp))]
       exact h3
      have wlm := hWm.len
      have hwm : wm.length = ws.length := by omega
      rw [← hwm] at okm
      with_reducible refine r_gn ?_
      exact hC _ _ ⟨lm, wm, rfl, T3.mono (by omega), e3, T3.works (.list (SqL.of hl3) (worksP_den hWm (wo_same _ _))), allok_ws okm, hwm.symm⟩
  ·intro σ' H' hq_
   refine hide fun G_ hG_ => ?_
   obtain ⟨o1, o2, o3, o4, o5, rfl, e'⟩ := hq_
   refine hG_ ?_
   walk_at "rf"
   exact q _
end
end Fs
set_option maxHeartbeats 1000000
namespace Fs
open PySem L2 PySem.Spec PyProof.Rows
theorem calls {P : Program} {w : World} {K : PySem.W.Frag} {mg : Str → Option Value} {base : Heap} {C CC fa fv fw fc : Addr} {da dv dw dc : FuncData} {tb : Tok} (T : RTx K C CC) (nlen : mg "len" = none) (nenumerate : mg "enumerate" = none) (nlist : mg "list" = none) (hDp : mg "DEEPEST" = some (.int 20 tb))
  (hS : HasM P w K mg base C "step" 1 ["self"] (spStep C)) (hW : HasM P w K mg base C "count_way" 1 ["self", "here", "way"] (spCount P w K C CC)) (hY : HasM P w K mg base C "lay" 1 ["self", "here", "deed"] (spLay P w K C CC)) (hL : HasM P w K mg base C "led_by" 2 ["self", "end", "beyond"] (spLedBy K C)) (hI : HasC P w K mg base "Call" CC 1 ["self", "number", "boxes"] (spCallI CC))
  (Fa : Fun K "act" "Running.act" sAct fa da) (Ma : Meth K C "act" fa) (Ba : Binds K da ["self", "here", "deed"] [])
  (Fv : Fun K "visit" "Running.visit" sVisit fv dv) (Mv : Meth K C "visit" fv) (Bv : Binds K dv ["self", "here", "way"] [])
  (Fw : Fun K "walk" "Running.walk" sWalk fw dw) (Mw : Meth K C "walk" fw) (Bw : Binds K dw ["self", "here"] [])
  (Fc : Fun K "call" "Running.call" sCall fc dc) (Mc : Meth K C "call" fc) (Bc : Binds K dc ["self", "number", "boxes"] []) :
  ∀ N : Nat, HasM P w K mg base C "call" (4 * N + 4) ["self", "number", "boxes"] (spCallM P w K C CC N) := by
 intro N
 induction N with
 | zero => exact ⟨fc, dc, ok_call (N := 0) (j := 1) (spW := spNo) Fc T nlist hDp hI ⟨fw, dw, FnOk.no, Mw, Bw⟩ (by omega) (fun n h => absurd h (by omega)), Mc, Bc⟩
 | succ N ih =>
  have ha : HasM P w K mg base C "act" (4 * N + 5) ["self", "here", "deed"] (spAct P w K C CC N) := ⟨fa, da, ok_act Fa T hS ih, Ma, Ba⟩
  have hv : HasM P w K mg base C "visit" (4 * N + 6) ["self", "here", "way"] (spVisit P w K C CC N) := ⟨fv, dv, ok_visit Fv T hS hW hY ha, Mv, Bv⟩
  have hw : HasM P w K mg base C "walk" (4 * N + 7) ["self", "here"] (spWalk P w K C CC N) := ⟨fw, dw, ok_walk Fw T nlen nenumerate hv hW hL, Mw, Bw⟩
  exact ⟨fc, dc, ok_call (N := N + 1) Fc T nlist hDp hI hw (by omega) (fun n h => by cases h; rfl), Mc, Bc⟩
end Fs
set_option maxHeartbeats 1000000
namespace Fs
open PySem L2
theorem has_mk {P : Program} {w : World} {K : PySem.W.Frag} {mg : Str → Option Value} {base h : Heap} {x : Str} {st : Stmt} {k : Nat} {ps : List Str} {sp : Sp} {f : Addr} {oc : Value} {od an : Option Addr} {osl : Array (Option Value)} {kV doc pm cdv ct : Value} (X : K.In h) (G : h.Ns mainGlobals mg)
  (a : PySem.W.nsIn K mainGlobals x = some (some (.ref f))) (l : K.lookup f = some ⟨oc, od, .func (PySem.W.fnOf x x (defArgs st) (defBody st) (defScope st) .none kV doc pm an cdv ct), osl⟩) (c : PySem.W.codeIn K cdv x = true) (kk : PySem.W.keepIn K (.ref f) = true)
  (hb : ∀ (kV doc pm : Value) (an : Option Addr) (cdv ct : Value) (us : List Value), us.length = ps.length → bindArgs (PySem.W.fnOf x x (defArgs st) (defBody st) (defScope st) .none kV doc pm an cdv ct) ⟨us, []⟩ = pure (ps.zip us))
  (ok : ∀ fd, Fun K x x st f fd → FnOk P w K mg base CX0 k f fd ps sp) : Has P w K mg base x k ps sp := by
 have F := fun_mk (st := st) l c kk
 exact ⟨f, _, ok _ F, PySem.W.mg_of X G a, kk, F.binds hb⟩
theorem lenIs1 {us : List Value} (h : us.length = 1) : ∃ a0, us = [a0] := by
 obtain _ | ⟨x0, us⟩ := us
 ·cases h
 obtain _ | ⟨y, us⟩ := us
 ·exact ⟨x0, rfl⟩
 ·simp at h
theorem lenIs2 {us : List Value} (h : us.length = 2) : ∃ a0 a1, us = [a0, a1] := by
 obtain _ | ⟨x0, us⟩ := us
 ·cases h
 obtain _ | ⟨x1, us⟩ := us
 ·cases h
 obtain _ | ⟨y, us⟩ := us
 ·exact ⟨x0, x1, rfl⟩
 ·simp at h
theorem lenIs3 {us : List Value} (h : us.length = 3) : ∃ a0 a1 a2, us = [a0, a1, a2] := by
 obtain _ | ⟨x0, us⟩ := us
 ·cases h
 obtain _ | ⟨x1, us⟩ := us
 ·cases h
 obtain _ | ⟨x2, us⟩ := us
 ·cases h
 obtain _ | ⟨y, us⟩ := us
 ·exact ⟨x0, x1, x2, rfl⟩
 ·simp at h
theorem lenIs5 {us : List Value} (h : us.length = 5) : ∃ a0 a1 a2 a3 a4, us = [a0, a1, a2, a3, a4] := by
 obtain _ | ⟨x0, us⟩ := us
 ·cases h
 obtain _ | ⟨x1, us⟩ := us
 ·cases h
 obtain _ | ⟨x2, us⟩ := us
 ·cases h
 obtain _ | ⟨x3, us⟩ := us
 ·cases h
 obtain _ | ⟨x4, us⟩ := us
 ·cases h
 obtain _ | ⟨y, us⟩ := us
 ·exact ⟨x0, x1, x2, x3, x4, rfl⟩
 ·simp at h
theorem lenIs6 {us : List Value} (h : us.length = 6) : ∃ a0 a1 a2 a3 a4 a5, us = [a0, a1, a2, a3, a4, a5] := by
 obtain _ | ⟨x0, us⟩ := us
 ·cases h
 obtain _ | ⟨x1, us⟩ := us
 ·cases h
 obtain _ | ⟨x2, us⟩ := us
 ·cases h
 obtain _ | ⟨x3, us⟩ := us
 ·cases h
 obtain _ | ⟨x4, us⟩ := us
 ·cases h
 obtain _ | ⟨x5, us⟩ := us
 ·cases h
 obtain _ | ⟨y, us⟩ := us
 ·exact ⟨x0, x1, x2, x3, x4, x5, rfl⟩
 ·simp at h
theorem all_mk {l : PySem.W.OpenLaw} {w : World} {K : PySem.W.Frag} {h : Heap} {mg : Str → Option Value} {fa f1 f2 f3 f4 f5 f6 f7 f8 f9 f10 f11 f12 f13 f14 f15 f16 CC C xf0 xf1 xf2 xf3 xf4 xf5 xf6 xf7 xf8 xf9 xf10 : Addr} (X : K.In h) (G : h.Ns mainGlobals mg) (hfa : mg "law" = some (.ref fa))
  {od1 an1 od2 an2 od3 an3 od4 an4 od5 an5 od6 an6 od7 an7 od8 an8 od9 an9 od10 an10 od11 an11 od12 an12 od13 an13 od14 an14 od15 an15 od16 an16 : Option Addr} {sl1 sl2 sl3 sl4 sl5 sl6 sl7 sl8 sl9 sl10 sl11 sl12 sl13 sl14 sl15 sl16 : Array (Option Value)} {oc1 kV1 dc1 pm1 cd1 ct1 oc2 kV2 dc2 pm2 cd2 ct2 oc3 kV3 dc3 pm3 cd3 ct3 oc4 kV4 dc4 pm4 cd4 ct4 oc5 kV5 dc5 pm5 cd5 ct5 oc6 kV6 dc6 pm6 cd6 ct6 oc7 kV7 dc7 pm7 cd7 ct7 oc8 kV8 dc8 pm8 cd8 ct8 oc9 kV9 dc9 pm9 cd9 ct9 oc10 kV10 dc10 pm10 cd10 ct10 oc11 kV11 dc11 pm11 cd11 ct11 oc12 kV12 dc12 pm12 cd12 ct12 oc13 kV13 dc13 pm13 cd13 ct13 oc14 kV14 dc14 pm14 cd14 ct14 oc15 kV15 dc15 pm15 cd15 ct15 oc16 kV16 dc16 pm16 cd16 ct16 : Value}
  (a1 : PySem.W.nsIn K mainGlobals "_law_tape" = some (some (.ref f1))) (l1 : K.lookup f1 = some ⟨oc1, od1, .func (PySem.W.fnOf "_law_tape" "_law_tape" (defArgs sTape) (defBody sTape) (defScope sTape) .none kV1 dc1 pm1 an1 cd1 ct1), sl1⟩) (c1 : PySem.W.codeIn K cd1 "_law_tape" = true) (k1 : PySem.W.keepIn K (.ref f1) = true)
  (a2 : PySem.W.nsIn K mainGlobals "_law_draw" = some (some (.ref f2))) (l2 : K.lookup f2 = some ⟨oc2, od2, .func (PySem.W.fnOf "_law_draw" "_law_draw" (defArgs sDraw) (defBody sDraw) (defScope sDraw) .none kV2 dc2 pm2 an2 cd2 ct2), sl2⟩) (c2 : PySem.W.codeIn K cd2 "_law_draw" = true) (k2 : PySem.W.keepIn K (.ref f2) = true)
  (a3 : PySem.W.nsIn K mainGlobals "_law_nexts" = some (some (.ref f3))) (l3 : K.lookup f3 = some ⟨oc3, od3, .func (PySem.W.fnOf "_law_nexts" "_law_nexts" (defArgs sNexts) (defBody sNexts) (defScope sNexts) .none kV3 dc3 pm3 an3 cd3 ct3), sl3⟩) (c3 : PySem.W.codeIn K cd3 "_law_nexts" = true) (k3 : PySem.W.keepIn K (.ref f3) = true)
  (a4 : PySem.W.nsIn K mainGlobals "_law_number" = some (some (.ref f4))) (l4 : K.lookup f4 = some ⟨oc4, od4, .func (PySem.W.fnOf "_law_number" "_law_number" (defArgs sNumber) (defBody sNumber) (defScope sNumber) .none kV4 dc4 pm4 an4 cd4 ct4), sl4⟩) (c4 : PySem.W.codeIn K cd4 "_law_number" = true) (k4 : PySem.W.keepIn K (.ref f4) = true)
  (a5 : PySem.W.nsIn K mainGlobals "_law_deeds" = some (some (.ref f5))) (l5 : K.lookup f5 = some ⟨oc5, od5, .func (PySem.W.fnOf "_law_deeds" "_law_deeds" (defArgs sDeeds) (defBody sDeeds) (defScope sDeeds) .none kV5 dc5 pm5 an5 cd5 ct5), sl5⟩) (c5 : PySem.W.codeIn K cd5 "_law_deeds" = true) (k5 : PySem.W.keepIn K (.ref f5) = true)
  (a6 : PySem.W.nsIn K mainGlobals "_law_work" = some (some (.ref f6))) (l6 : K.lookup f6 = some ⟨oc6, od6, .func (PySem.W.fnOf "_law_work" "_law_work" (defArgs sWork) (defBody sWork) (defScope sWork) .none kV6 dc6 pm6 an6 cd6 ct6), sl6⟩) (c6 : PySem.W.codeIn K cd6 "_law_work" = true) (k6 : PySem.W.keepIn K (.ref f6) = true)
  (a7 : PySem.W.nsIn K mainGlobals "gone_through" = some (some (.ref f7))) (l7 : K.lookup f7 = some ⟨oc7, od7, .func (PySem.W.fnOf "gone_through" "gone_through" (defArgs sGone) (defBody sGone) (defScope sGone) .none kV7 dc7 pm7 an7 cd7 ct7), sl7⟩) (c7 : PySem.W.codeIn K cd7 "gone_through" = true) (k7 : PySem.W.keepIn K (.ref f7) = true)
  (a8 : PySem.W.nsIn K mainGlobals "meant" = some (some (.ref f8))) (l8 : K.lookup f8 = some ⟨oc8, od8, .func (PySem.W.fnOf "meant" "meant" (defArgs sMeant) (defBody sMeant) (defScope sMeant) .none kV8 dc8 pm8 an8 cd8 ct8), sl8⟩) (c8 : PySem.W.codeIn K cd8 "meant" = true) (k8 : PySem.W.keepIn K (.ref f8) = true)
  (a9 : PySem.W.nsIn K mainGlobals "run" = some (some (.ref f9))) (l9 : K.lookup f9 = some ⟨oc9, od9, .func (PySem.W.fnOf "run" "run" (defArgs sRunF) (defBody sRunF) (defScope sRunF) .none kV9 dc9 pm9 an9 cd9 ct9), sl9⟩) (c9 : PySem.W.codeIn K cd9 "run" = true) (k9 : PySem.W.keepIn K (.ref f9) = true)
  (a10 : PySem.W.nsIn K mainGlobals "_law_with_moves" = some (some (.ref f10))) (l10 : K.lookup f10 = some ⟨oc10, od10, .func (PySem.W.fnOf "_law_with_moves" "_law_with_moves" (defArgs sMoves) (defBody sMoves) (defScope sMoves) .none kV10 dc10 pm10 an10 cd10 ct10), sl10⟩) (c10 : PySem.W.codeIn K cd10 "_law_with_moves" = true) (k10 : PySem.W.keepIn K (.ref f10) = true)
  (a11 : PySem.W.nsIn K mainGlobals "_law_held" = some (some (.ref f11))) (l11 : K.lookup f11 = some ⟨oc11, od11, .func (PySem.W.fnOf "_law_held" "_law_held" (defArgs sHeld) (defBody sHeld) (defScope sHeld) .none kV11 dc11 pm11 an11 cd11 ct11), sl11⟩) (c11 : PySem.W.codeIn K cd11 "_law_held" = true) (k11 : PySem.W.keepIn K (.ref f11) = true)
  (a12 : PySem.W.nsIn K mainGlobals "_law_choices" = some (some (.ref f12))) (l12 : K.lookup f12 = some ⟨oc12, od12, .func (PySem.W.fnOf "_law_choices" "_law_choices" (defArgs sChoices) (defBody sChoices) (defScope sChoices) .none kV12 dc12 pm12 an12 cd12 ct12), sl12⟩) (c12 : PySem.W.codeIn K cd12 "_law_choices" = true) (k12 : PySem.W.keepIn K (.ref f12) = true)
  (a13 : PySem.W.nsIn K mainGlobals "_law_steps_right" = some (some (.ref f13))) (l13 : K.lookup f13 = some ⟨oc13, od13, .func (PySem.W.fnOf "_law_steps_right" "_law_steps_right" (defArgs sSteps) (defBody sSteps) (defScope sSteps) .none kV13 dc13 pm13 an13 cd13 ct13), sl13⟩) (c13 : PySem.W.codeIn K cd13 "_law_steps_right" = true) (k13 : PySem.W.keepIn K (.ref f13) = true)
  (a14 : PySem.W.nsIn K mainGlobals "_law_ring_right" = some (some (.ref f14))) (l14 : K.lookup f14 = some ⟨oc14, od14, .func (PySem.W.fnOf "_law_ring_right" "_law_ring_right" (defArgs sRing) (defBody sRing) (defScope sRing) .none kV14 dc14 pm14 an14 cd14 ct14), sl14⟩) (c14 : PySem.W.codeIn K cd14 "_law_ring_right" = true) (k14 : PySem.W.keepIn K (.ref f14) = true)
  (a15 : PySem.W.nsIn K mainGlobals "_law_chain_right" = some (some (.ref f15))) (l15 : K.lookup f15 = some ⟨oc15, od15, .func (PySem.W.fnOf "_law_chain_right" "_law_chain_right" (defArgs sChain) (defBody sChain) (defScope sChain) .none kV15 dc15 pm15 an15 cd15 ct15), sl15⟩) (c15 : PySem.W.codeIn K cd15 "_law_chain_right" = true) (k15 : PySem.W.keepIn K (.ref f15) = true)
  (a16 : PySem.W.nsIn K mainGlobals "law" = some (some (.ref f16))) (l16 : K.lookup f16 = some ⟨oc16, od16, .func (PySem.W.fnOf "law" "law" (defArgs sLaw) (defBody sLaw) (defScope sLaw) .none kV16 dc16 pm16 an16 cd16 ct16), sl16⟩) (c16 : PySem.W.codeIn K cd16 "law" = true) (k16 : PySem.W.keepIn K (.ref f16) = true)
  {xod0 xan0 : Option Addr} {xsl0 : Array (Option Value)} {xoc0 xkV0 xdc0 xpm0 xcd0 xct0 : Value}
  {xod1 xan1 : Option Addr} {xsl1 : Array (Option Value)} {xoc1 xkV1 xdc1 xpm1 xcd1 xct1 : Value}
  {xod2 xan2 : Option Addr} {xsl2 : Array (Option Value)} {xoc2 xkV2 xdc2 xpm2 xcd2 xct2 : Value}
  {xod3 xan3 : Option Addr} {xsl3 : Array (Option Value)} {xoc3 xkV3 xdc3 xpm3 xcd3 xct3 : Value}
  {xod4 xan4 : Option Addr} {xsl4 : Array (Option Value)} {xoc4 xkV4 xdc4 xpm4 xcd4 xct4 : Value}
  {xod5 xan5 : Option Addr} {xsl5 : Array (Option Value)} {xoc5 xkV5 xdc5 xpm5 xcd5 xct5 : Value}
  {xod6 xan6 : Option Addr} {xsl6 : Array (Option Value)} {xoc6 xkV6 xdc6 xpm6 xcd6 xct6 : Value}
  {xod7 xan7 : Option Addr} {xsl7 : Array (Option Value)} {xoc7 xkV7 xdc7 xpm7 xcd7 xct7 : Value}
  {xod8 xan8 : Option Addr} {xsl8 : Array (Option Value)} {xoc8 xkV8 xdc8 xpm8 xcd8 xct8 : Value}
  {xod9 xan9 : Option Addr} {xsl9 : Array (Option Value)} {xoc9 xkV9 xdc9 xpm9 xcd9 xct9 : Value}
  {xod10 xan10 : Option Addr} {xsl10 : Array (Option Value)} {xoc10 xkV10 xdc10 xpm10 xcd10 xct10 : Value}
  (yA0 : PySem.W.nsIn K mainGlobals "Call" = some (some (.ref CC))) (yp0 : PySem.W.plainGet K CC Str.empty = true) (yh0 : PySem.W.hasDictIn K CC = true) (yo0 : PySem.W.plainOver K CC = true) (ys0 : PySem.W.findIn K (.ref CC) "__setattr__" = some (some (.builtin "object.__setattr__"))) (ym0 : PySem.W.makesIn K CC = true) (yk0 : PySem.W.keepIn K (.ref CC) = true)
  (wn0_0 : PySem.W.findIn K (.ref CC) "number" = some none)
  (wn0_1 : PySem.W.findIn K (.ref CC) "boxes" = some none)
  (wn0_2 : PySem.W.findIn K (.ref CC) "begun" = some none)
  (wn0_3 : PySem.W.findIn K (.ref CC) "aside" = some none)
  (yA1 : PySem.W.nsIn K mainGlobals "Running" = some (some (.ref C))) (yp1 : PySem.W.plainGet K C Str.empty = true) (yh1 : PySem.W.hasDictIn K C = true) (yo1 : PySem.W.plainOver K C = true) (ys1 : PySem.W.findIn K (.ref C) "__setattr__" = some (some (.builtin "object.__setattr__"))) (ym1 : PySem.W.makesIn K C = true) (yk1 : PySem.W.keepIn K (.ref C) = true)
  (wn1_0 : PySem.W.findIn K (.ref C) "works" = some none)
  (wn1_1 : PySem.W.findIn K (.ref C) "boxes" = some none)
  (wn1_2 : PySem.W.findIn K (.ref C) "choices" = some none)
  (wn1_3 : PySem.W.findIn K (.ref C) "most" = some none)
  (wn1_4 : PySem.W.findIn K (.ref C) "sharing" = some none)
  (wn1_5 : PySem.W.findIn K (.ref C) "state" = some none)
  (wn1_6 : PySem.W.findIn K (.ref C) "steps" = some none)
  (wn1_7 : PySem.W.findIn K (.ref C) "forks" = some none)
  (wn1_8 : PySem.W.findIn K (.ref C) "depth" = some none)
  (wn1_9 : PySem.W.findIn K (.ref C) "told" = some none)
  (wn1_10 : PySem.W.findIn K (.ref C) "faults" = some none)
  (wn1_11 : PySem.W.findIn K (.ref C) "saves" = some none)
  (wn1_12 : PySem.W.findIn K (.ref C) "backs" = some none)
  (wn1_13 : PySem.W.findIn K (.ref C) "gone" = some none)
  (xa0 : PySem.W.findIn K (.ref CC) "__init__" = some (some (.ref xf0))) (xi0 : PySem.W.isFn K (.ref xf0) = true) (xl0 : K.lookup xf0 = some ⟨xoc0, xod0, .func (PySem.W.fnOf "__init__" "Call.__init__" (defArgs sCallI) (defBody sCallI) (defScope sCallI) .none xkV0 xdc0 xpm0 xan0 xcd0 xct0), xsl0⟩) (xc0 : PySem.W.codeIn K xcd0 "Call.__init__" = true) (xk0 : PySem.W.keepIn K (.ref xf0) = true)
  (xa1 : PySem.W.findIn K (.ref C) "__init__" = some (some (.ref xf1))) (xi1 : PySem.W.isFn K (.ref xf1) = true) (xl1 : K.lookup xf1 = some ⟨xoc1, xod1, .func (PySem.W.fnOf "__init__" "Running.__init__" (defArgs sRunI) (defBody sRunI) (defScope sRunI) .none xkV1 xdc1 xpm1 xan1 xcd1 xct1), xsl1⟩) (xc1 : PySem.W.codeIn K xcd1 "Running.__init__" = true) (xk1 : PySem.W.keepIn K (.ref xf1) = true)
  (xa2 : PySem.W.findIn K (.ref C) "step" = some (some (.ref xf2))) (xi2 : PySem.W.isFn K (.ref xf2) = true) (xl2 : K.lookup xf2 = some ⟨xoc2, xod2, .func (PySem.W.fnOf "step" "Running.step" (defArgs sStep) (defBody sStep) (defScope sStep) .none xkV2 xdc2 xpm2 xan2 xcd2 xct2), xsl2⟩) (xc2 : PySem.W.codeIn K xcd2 "Running.step" = true) (xk2 : PySem.W.keepIn K (.ref xf2) = true)
  (xa3 : PySem.W.findIn K (.ref C) "call" = some (some (.ref xf3))) (xi3 : PySem.W.isFn K (.ref xf3) = true) (xl3 : K.lookup xf3 = some ⟨xoc3, xod3, .func (PySem.W.fnOf "call" "Running.call" (defArgs sCall) (defBody sCall) (defScope sCall) .none xkV3 xdc3 xpm3 xan3 xcd3 xct3), xsl3⟩) (xc3 : PySem.W.codeIn K xcd3 "Running.call" = true) (xk3 : PySem.W.keepIn K (.ref xf3) = true)
  (xa4 : PySem.W.findIn K (.ref C) "walk" = some (some (.ref xf4))) (xi4 : PySem.W.isFn K (.ref xf4) = true) (xl4 : K.lookup xf4 = some ⟨xoc4, xod4, .func (PySem.W.fnOf "walk" "Running.walk" (defArgs sWalk) (defBody sWalk) (defScope sWalk) .none xkV4 xdc4 xpm4 xan4 xcd4 xct4), xsl4⟩) (xc4 : PySem.W.codeIn K xcd4 "Running.walk" = true) (xk4 : PySem.W.keepIn K (.ref xf4) = true)
  (xa5 : PySem.W.findIn K (.ref C) "visit" = some (some (.ref xf5))) (xi5 : PySem.W.isFn K (.ref xf5) = true) (xl5 : K.lookup xf5 = some ⟨xoc5, xod5, .func (PySem.W.fnOf "visit" "Running.visit" (defArgs sVisit) (defBody sVisit) (defScope sVisit) .none xkV5 xdc5 xpm5 xan5 xcd5 xct5), xsl5⟩) (xc5 : PySem.W.codeIn K xcd5 "Running.visit" = true) (xk5 : PySem.W.keepIn K (.ref xf5) = true)
  (xa6 : PySem.W.findIn K (.ref C) "count_way" = some (some (.ref xf6))) (xi6 : PySem.W.isFn K (.ref xf6) = true) (xl6 : K.lookup xf6 = some ⟨xoc6, xod6, .func (PySem.W.fnOf "count_way" "Running.count_way" (defArgs sCount) (defBody sCount) (defScope sCount) .none xkV6 xdc6 xpm6 xan6 xcd6 xct6), xsl6⟩) (xc6 : PySem.W.codeIn K xcd6 "Running.count_way" = true) (xk6 : PySem.W.keepIn K (.ref xf6) = true)
  (xa7 : PySem.W.findIn K (.ref C) "led_by" = some (some (.ref xf7))) (xi7 : PySem.W.isFn K (.ref xf7) = true) (xl7 : K.lookup xf7 = some ⟨xoc7, xod7, .func (PySem.W.fnOf "led_by" "Running.led_by" (defArgs sLedBy) (defBody sLedBy) (defScope sLedBy) .none xkV7 xdc7 xpm7 xan7 xcd7 xct7), xsl7⟩) (xc7 : PySem.W.codeIn K xcd7 "Running.led_by" = true) (xk7 : PySem.W.keepIn K (.ref xf7) = true)
  (xa8 : PySem.W.findIn K (.ref C) "next_choice" = some (some (.ref xf8))) (xi8 : PySem.W.isFn K (.ref xf8) = true) (xl8 : K.lookup xf8 = some ⟨xoc8, xod8, .func (PySem.W.fnOf "next_choice" "Running.next_choice" (defArgs sNextC) (defBody sNextC) (defScope sNextC) .none xkV8 xdc8 xpm8 xan8 xcd8 xct8), xsl8⟩) (xc8 : PySem.W.codeIn K xcd8 "Running.next_choice" = true) (xk8 : PySem.W.keepIn K (.ref xf8) = true)
  (xa9 : PySem.W.findIn K (.ref C) "lay" = some (some (.ref xf9))) (xi9 : PySem.W.isFn K (.ref xf9) = true) (xl9 : K.lookup xf9 = some ⟨xoc9, xod9, .func (PySem.W.fnOf "lay" "Running.lay" (defArgs sLay) (defBody sLay) (defScope sLay) .none xkV9 xdc9 xpm9 xan9 xcd9 xct9), xsl9⟩) (xc9 : PySem.W.codeIn K xcd9 "Running.lay" = true) (xk9 : PySem.W.keepIn K (.ref xf9) = true)
  (xa10 : PySem.W.findIn K (.ref C) "act" = some (some (.ref xf10))) (xi10 : PySem.W.isFn K (.ref xf10) = true) (xl10 : K.lookup xf10 = some ⟨xoc10, xod10, .func (PySem.W.fnOf "act" "Running.act" (defArgs sAct) (defBody sAct) (defScope sAct) .none xkV10 xdc10 xpm10 xan10 xcd10 xct10), xsl10⟩) (xc10 : PySem.W.codeIn K xcd10 "Running.act" = true) (xk10 : PySem.W.keepIn K (.ref xf10) = true)
  {tb0 : Tok} (i0 : PySem.W.nsIn K mainGlobals "DEEPEST" = some (some (.int 20 tb0)))
  (z1 : PySem.W.nsIn K mainGlobals "range" = some none) (z2 : PySem.W.nsIn K mainGlobals "len" = some none) (z3 : PySem.W.nsIn K mainGlobals "abs" = some none) (z4 : PySem.W.nsIn K mainGlobals "int" = some none) (z5 : PySem.W.nsIn K mainGlobals "max" = some none) (z6 : PySem.W.nsIn K mainGlobals "min" = some none) (z7 : PySem.W.nsIn K mainGlobals "list" = some none) (z8 : PySem.W.nsIn K mainGlobals "enumerate" = some none) :
  ∃ fd : FuncData, (∀ (s : Shared) (v : Value), BindsTo s fd ⟨[v], []⟩ [("_law_script", v)]) ∧ ∀ base : Heap, K.In base → base.Ns mainGlobals mg → FnOk l.prog w K mg base CX0 88 fa fd ["_law_script"] (spLaw K) := by
 have e := hfa.symm.trans (PySem.W.mg_of X G a16)
 cases e
 have nrange := PySem.W.mg_none_of X G z1
 have nlen := PySem.W.mg_none_of X G z2
 have nabs := PySem.W.mg_none_of X G z3
 have nint := PySem.W.mg_none_of X G z4
 have nmax := PySem.W.mg_none_of X G z5
 have nmin := PySem.W.mg_none_of X G z6
 have nlist := PySem.W.mg_none_of X G z7
 have nenumerate := PySem.W.mg_none_of X G z8
 have hDp := PySem.W.mg_of X G i0
 have FL := fun_mk (st := sLaw) l16 c16 k16
 refine ⟨PySem.W.fnOf "law" "law" (defArgs sLaw) (defBody sLaw) (defScope sLaw) .none kV16 dc16 pm16 an16 cd16 ct16, fun s v => .of_eq rfl, fun base _ _ => ?_⟩
 have XF0 := fun_mk (st := sCallI) xl0 xc0 xk0
 have XB0 := XF0.binds (ps := ["self", "number", "boxes"]) fun _ _ _ _ _ _ us hl => by obtain ⟨_, _, _, rfl⟩ := lenIs3 hl; rfl
 have XF1 := fun_mk (st := sRunI) xl1 xc1 xk1
 have XB1 := XF1.binds (ps := ["self", "works", "boxes", "choices", "most", "sharing"]) fun _ _ _ _ _ _ us hl => by obtain ⟨_, _, _, _, _, _, rfl⟩ := lenIs6 hl; rfl
 have XF2 := fun_mk (st := sStep) xl2 xc2 xk2
 have XB2 := XF2.binds (ps := ["self"]) fun _ _ _ _ _ _ us hl => by obtain ⟨_, rfl⟩ := lenIs1 hl; rfl
 have XF3 := fun_mk (st := sCall) xl3 xc3 xk3
 have XB3 := XF3.binds (ps := ["self", "number", "boxes"]) fun _ _ _ _ _ _ us hl => by obtain ⟨_, _, _, rfl⟩ := lenIs3 hl; rfl
 have XF4 := fun_mk (st := sWalk) xl4 xc4 xk4
 have XB4 := XF4.binds (ps := ["self", "here"]) fun _ _ _ _ _ _ us hl => by obtain ⟨_, _, rfl⟩ := lenIs2 hl; rfl
 have XF5 := fun_mk (st := sVisit) xl5 xc5 xk5
 have XB5 := XF5.binds (ps := ["self", "here", "way"]) fun _ _ _ _ _ _ us hl => by obtain ⟨_, _, _, rfl⟩ := lenIs3 hl; rfl
 have XF6 := fun_mk (st := sCount) xl6 xc6 xk6
 have XB6 := XF6.binds (ps := ["self", "here", "way"]) fun _ _ _ _ _ _ us hl => by obtain ⟨_, _, _, rfl⟩ := lenIs3 hl; rfl
 have XF7 := fun_mk (st := sLedBy) xl7 xc7 xk7
 have XB7 := XF7.binds (ps := ["self", "end", "beyond"]) fun _ _ _ _ _ _ us hl => by obtain ⟨_, _, _, rfl⟩ := lenIs3 hl; rfl
 have XF8 := fun_mk (st := sNextC) xl8 xc8 xk8
 have XB8 := XF8.binds (ps := ["self"]) fun _ _ _ _ _ _ us hl => by obtain ⟨_, rfl⟩ := lenIs1 hl; rfl
 have XF9 := fun_mk (st := sLay) xl9 xc9 xk9
 have XB9 := XF9.binds (ps := ["self", "here", "deed"]) fun _ _ _ _ _ _ us hl => by obtain ⟨_, _, _, rfl⟩ := lenIs3 hl; rfl
 have XF10 := fun_mk (st := sAct) xl10 xc10 xk10
 have XB10 := XF10.binds (ps := ["self", "here", "deed"]) fun _ _ _ _ _ _ us hl => by obtain ⟨_, _, _, rfl⟩ := lenIs3 hl; rfl
 have T : RTx K C CC := ⟨⟨yp1, yh1, yo1, ys1⟩, wn1_0, wn1_1, wn1_2, wn1_3, wn1_4, wn1_5, wn1_6, wn1_7, wn1_8, wn1_9, wn1_10, wn1_11, wn1_12, wn1_13, ⟨yp0, yh0, yo0, ys0⟩, wn0_0, wn0_1, wn0_2, wn0_3⟩
 have hCall : HasC l.prog w K mg base "Call" CC 1 ["self", "number", "boxes"] (spCallI CC) := ⟨_, _, ok_calli XF0 T nlist, ⟨ym0, xa0, xi0, yk0⟩, XB0, PySem.W.mg_of X G yA0⟩
 have hRunning : HasC l.prog w K mg base "Running" C 1 ["self", "works", "boxes", "choices", "most", "sharing"] (spRunI l.prog w K C CC) := ⟨_, _, ok_runi XF1 T nlist, ⟨ym1, xa1, xi1, yk1⟩, XB1, PySem.W.mg_of X G yA1⟩
 have hstep : HasM l.prog w K mg base C "step" 1 ["self"] (spStep C) := ⟨_, _, ok_step XF2 T, ⟨xa2, xi2, xk2⟩, XB2⟩
 have hcount : HasM l.prog w K mg base C "count_way" 1 ["self", "here", "way"] (spCount l.prog w K C CC) := ⟨_, _, ok_count XF6 T, ⟨xa6, xi6, xk6⟩, XB6⟩
 have hnextc : HasM l.prog w K mg base C "next_choice" 1 ["self"] (spNextC K C) := ⟨_, _, ok_nextc XF8 T nlen, ⟨xa8, xi8, xk8⟩, XB8⟩
 have hledby : HasM l.prog w K mg base C "led_by" 2 ["self", "end", "beyond"] (spLedBy K C) := ⟨_, _, ok_ledby XF7 T hnextc, ⟨xa7, xi7, xk7⟩, XB7⟩
 have hlay : HasM l.prog w K mg base C "lay" 1 ["self", "here", "deed"] (spLay l.prog w K C CC) := ⟨_, _, ok_lay XF9 T, ⟨xa9, xi9, xk9⟩, XB9⟩
 have hcall : HasM l.prog w K mg base C "call" 84 ["self", "number", "boxes"] (spCallM l.prog w K C CC 20) := calls T nlen nenumerate nlist hDp hstep hcount hlay hledby hCall XF10 ⟨xa10, xi10, xk10⟩ XB10 XF5 ⟨xa5, xi5, xk5⟩ XB5 XF4 ⟨xa4, xi4, xk4⟩ XB4 XF3 ⟨xa3, xi3, xk3⟩ XB3 20
 have htape : Has l.prog w K mg base "_law_tape" 1 ["_law_script", "_law_k"] (spTape K) := has_mk (st := sTape) X G a1 l1 c1 k1 (fun _ _ _ _ _ _ us hl => by obtain ⟨_, _, rfl⟩ := lenIs2 hl; rfl) fun _ F => ok_tape F nlen nabs nint
 have hdraw : Has l.prog w K mg base "_law_draw" 1 ["_law_tape_here", "_law_many_here"] spDraw := has_mk (st := sDraw) X G a2 l2 c2 k2 (fun _ _ _ _ _ _ us hl => by obtain ⟨_, _, rfl⟩ := lenIs2 hl; rfl) fun _ F => ok_draw F
 have hnexts : Has l.prog w K mg base "_law_nexts" 2 ["_law_tape_here", "_law_many_here"] (spNexts K) := has_mk (st := sNexts) X G a3 l3 c3 k3 (fun _ _ _ _ _ _ us hl => by obtain ⟨_, _, rfl⟩ := lenIs2 hl; rfl) fun _ F => ok_nexts F nrange nmax hdraw
 have hnumber : Has l.prog w K mg base "_law_number" 2 ["_law_tape_here"] spNumber := has_mk (st := sNumber) X G a4 l4 c4 k4 (fun _ _ _ _ _ _ us hl => by obtain ⟨_, rfl⟩ := lenIs1 hl; rfl) fun _ F => ok_number F hdraw
 have hdeeds : Has l.prog w K mg base "_law_deeds" 3 ["_law_tape_here", "_law_most", "_law_boxes", "_law_first", "_law_works_here"] (spDeedsP K) := has_mk (st := sDeeds) X G a5 l5 c5 k5 (fun _ _ _ _ _ _ us hl => by obtain ⟨_, _, _, _, _, rfl⟩ := lenIs5 hl; rfl) fun _ F => ok_deeds F nrange nint nlen hdraw hnumber
 have hwork : Has l.prog w K mg base "_law_work" 4 ["_law_tape_here", "_law_many_here", "_law_most", "_law_first", "_law_works_here"] (spWorkP K) := has_mk (st := sWork) X G a6 l6 c6 k6 (fun _ _ _ _ _ _ us hl => by obtain ⟨_, _, _, _, _, rfl⟩ := lenIs5 hl; rfl) fun _ F => ok_work F nrange nlist nlen hdraw hnexts hdeeds
 have hgone_through : Has l.prog w K mg base "gone_through" 85 ["works", "number", "boxes", "choices", "most", "sharing"] (spGone l.prog w K C CC) := has_mk (st := sGone) X G a7 l7 c7 k7 (fun _ _ _ _ _ _ us hl => by obtain ⟨_, _, _, _, _, _, rfl⟩ := lenIs6 hl; rfl) fun _ F => ok_gone F T hRunning hcall
 have hmeant : Has l.prog w K mg base "meant" 86 ["works", "number", "boxes", "choices", "most"] (spMeant K) := has_mk (st := sMeant) X G a8 l8 c8 k8 (fun _ _ _ _ _ _ us hl => by obtain ⟨_, _, _, _, _, rfl⟩ := lenIs5 hl; rfl) fun _ F => ok_meant F T hgone_through
 have hrun : Has l.prog w K mg base "run" 86 ["works", "number", "boxes", "choices", "most"] (spRun K) := has_mk (st := sRunF) X G a9 l9 c9 k9 (fun _ _ _ _ _ _ us hl => by obtain ⟨_, _, _, _, _, rfl⟩ := lenIs5 hl; rfl) fun _ F => ok_run F T hgone_through
 have hwith_moves : Has l.prog w K mg base "_law_with_moves" 2 ["_law_tape_here", "_law_works_here"] (spMovesL K) := has_mk (st := sMoves) X G a10 l10 c10 k10 (fun _ _ _ _ _ _ us hl => by obtain ⟨_, _, rfl⟩ := lenIs2 hl; rfl) fun _ F => ok_moves F nrange nlist nlen hdraw
 have hheld : Has l.prog w K mg base "_law_held" 3 ["_law_tape_here"] spHeld := has_mk (st := sHeld) X G a11 l11 c11 k11 (fun _ _ _ _ _ _ us hl => by obtain ⟨_, rfl⟩ := lenIs1 hl; rfl) fun _ F => ok_held F nrange hnumber
 have hchoices : Has l.prog w K mg base "_law_choices" 2 ["_law_tape_here"] (spNums 200 201 (-1) 2) := has_mk (st := sChoices) X G a12 l12 c12 k12 (fun _ _ _ _ _ _ us hl => by obtain ⟨_, rfl⟩ := lenIs1 hl; rfl) fun _ F => ok_choices F nrange hdraw
 have hsteps_right : Has l.prog w K mg base "_law_steps_right" 87 ["_law_tape_here", "_law_plain", "_law_works_here"] (spSteps K) := has_mk (st := sSteps) X G a13 l13 c13 k13 (fun _ _ _ _ _ _ us hl => by obtain ⟨_, _, _, rfl⟩ := lenIs3 hl; rfl) fun _ F => ok_steps F nrange nlen hdraw hheld hchoices hmeant hrun
 have hring_right : Has l.prog w K mg base "_law_ring_right" 87 ["_law_size", "_law_box"] (spRing K) := has_mk (st := sRing) X G a14 l14 c14 k14 (fun _ _ _ _ _ _ us hl => by obtain ⟨_, _, rfl⟩ := lenIs2 hl; rfl) fun _ F => ok_ring F nrange nmin hmeant hrun
 have hchain_right : Has l.prog w K mg base "_law_chain_right" 87 ["_law_many_here"] (spChainR K) := has_mk (st := sChain) X G a15 l15 c15 k15 (fun _ _ _ _ _ _ us hl => by obtain ⟨_, rfl⟩ := lenIs1 hl; rfl) fun _ F => ok_chain F nrange hmeant hrun
 exact ok_law FL nrange nlen nmax nmin htape hdraw hwork hwith_moves hsteps_right hring_right hchain_right
theorem walk {l : PySem.W.OpenLaw} {q : Program} {loose : List Str} {XP : (Str → Option Value) → Heap → Prop} {YP : World → Heap → Prop} {d : DefRec} {K : Params → PySem.W.Frag} (hn : l.most = some 63) (hdf : d.params.defaults = [])
  (hY : ∀ (w : World) (h : Heap), YP w h → (K w.params).In h)
  (F : ∀ (w : World) (mg : Str → Option Value) (fa : Addr) (h : Heap), (K w.params).In h → h.Ns mainGlobals mg → mg d.name = some (.ref fa) →
   ∃ fd : FuncData, (∀ (s : Shared) (u : Value), BindsTo s fd ⟨[u], []⟩ [("_law_script", u)]) ∧ ∀ base : Heap, (K w.params).In base → base.Ns mainGlobals mg → FnOk l.prog w (K w.params) mg base CX0 88 fa fd ["_law_script"] (spLaw (K w.params))) :
  PySem.W.WalkO q loose XP YP l.row.toRowW d [] (fun f vs => PySem.call f vs) :=
 L2.walk_of (n := 63) (k := 88) (x := "_law_script") (CX := fun _ => CX0) (sp := fun w => spLaw (K w.params)) hn (by decide) hdf ⟨rfl, by decide, by decide, rfl⟩ hY F (fun _ _ a ns hl _ hS => ⟨a, ns, rfl, hS, hl, fun _ => rfl⟩) fun _ _ _ _ _ z => z
end Fs
open PySem PySem.W PyProof.Rows
namespace PySem.W.Fast
def tw10112970060374180236:=0
def tw13583286200688836997:=0
def tw4077734246610958667:=0
def tw436293547645500493:=0
def tw136501304809213765:=0
def tw3999347346828040621:=0
def tw3169658122731832908:=0
def tw11449292171148345491:=0
def tw16683432761950321613:=0
def tw260009811712348869:=0
def tw5019139748527781715:=0
def tw17602344409311317028:=0
def tw6364127521438559749:=0
def tw6043071777045342229:=0
def tw15193305005012444700:=0
def tw12089423162005392901:=0
def tw7894747147647483123:=0
def tw703292049034295030:=0
def tw13629622260911848813:=0
def tw16283967059725813603:=0
def tw16930140081045006903:=0
def tw14515085113186038127:=0
def tw16781818512597906856:=0
def tw11253990095374945710:=0
def tw5619079349150050706:=0
def tw11140026307758592954:=0
def tw4157973588981261568:=0
def tw7061873941686687816:=0
def tw8718119278525917154:=0
def tw15537641440017705486:=0
def tw6510200809492239008:=0
def tw17263042972958474134:=0
def tw11030242823391784348:=0
def tw7039921393849476547:=0
def tw17157357652023102630:=0
def tw1074738724903882279:=0
def tw3149272416168509157:=0
def tw12610811038538013475:=0
def tw12003135277144578840:=0
def tw9467367189636867051:=0
def tw5208794240099519356:=0
def tw2938673021448113306:=0
def tw7040175649194107160:=0
def tw1965158075974064199:=0
def tw10473741864594362361:=0
def tw10640181102729379972:=0
def tw15694767712747260439:=0
def tw4755350162048421362:=0
def tw17236748922476156912:=0
def tw10407233269497732718:=0
def tw12677757120445981676:=0
def tw4807871794367908453:=0
def tw4059455475052741479:=0
def tw13487326474391639047:=0
def tw10674338710123145856:=0
def tw828330695525844432:=0
def tw8522098613244569120:=0
def tw10948418351473404697:=0
def tw17546605949455621898:=0
def tw16174149045723411893:=0
def tw13471807293855606995:=0
def tw7990284058091942204:=0
def tw13542132976508908745:=0
def tw52997872535111155:=0
def tw16358708647347577276:=0
def tw6509911129286284655:=0
def tw17023157869016322994:=0
def tw1749829962216235865:=0
def tw1699471768674663371:=0
def tw2293389454713508288:=0
def tw4848598165925491914:=0
def tw8489656254988116942:=0
def tw17412806376963426237:=0
def tw2026129865138466350:=0
def tw1101298431930124202:=0
def tw8532827167769232475:=0
def tw15725161817093319736:=0
def tw3907144444325780735:=0
def tw5856653845530323820:=0
def tw17177732945841879126:=0
def tw645137627740188240:=0
def tw18366816630185852455:=0
def tw5738363458544807689:=0
def tw16802567149322729817:=0
def tw16060199279289579423:=0
def tw12693426625758216472:=0
def tw6711810238754998316:=0
def tw5621330788756774786:=0
def tw4455545031763408900:=0
def tw4570103638600253183:=0
def tw2185245344741109408:=0
def tw8329291397566453901:=0
def tw1282192996012291037:=0
def tw15109108651025296101:=0
def tw6940969658118995596:=0
def tw1483502483488912148:=0
def tw13919751271376769637:=0
def tw7034548341210439434:=0
def tw918314345157708518:=0
def tw1720790332382997011:=0
def tw7200190215858324570:=0
def tw4916675183155698025:=0
def tw11422114402569560947:=0
def tw3781310494106240094:=0
def tw16485567210245787029:=0
def tw4017166240979138160:=0
def tw8480083419128536962:=0
def tw5955452505933162679:=0
def tw4739379879600546886:=0
def tw5739731907477058208:=0
def tw1863014154370431413:=0
def tw10892524118645735684:=0
def tw12959158633503410060:=0
def tw15356274034548141918:=0
def tw6349309022426162751:=0
def tw7249655148151590567:=0
def tw6634065397626147030:=0
def tw10289814962424250498:=0
def tw2732600501677140846:=0
def tw2612689160277406411:=0
def tw4017533003662382503:=0
def tw16427574749666692881:=0
def tw13812810353314214134:=0
def tw7396146350664252542:=0
def tw10680121802962334429:=0
def tw3739631267529467031:=0
def tw1973165851691187644:=0
def tw14952924911436027651:=0
def tw2594676181325401458:=0
def tw4676915220390202066:=0
def tw17614923126327454317:=0
def tw11779861417565412538:=0
def tw8485141017295499142:=0
def tw5960082500984832298:=0
def tw2013659245785215864:=0
def tw8130373996853923665:=0
def tw5010149981603974019:=0
def tw8639455019645827467:=0
def tw6643411599195575395:=0
def tw1779474324542230659:=0
def tw8667365918176739214:=0
def tw5670366578961865833:=0
def tw13855825494350605308:=0
def tw13978477014580979896:=0
def tw1921224894461383193:=0
def tw5221279182173486369:=0
def tw9643831389746088617:=0
def tw10543444003490423582:=0
def tw12498088091740241224:=0
def tw18423316194884573907:=0
def tw6464150195040336285:=0
def tw13933509654968781265:=0
def tw9540528600294669546:=0
def tw15343803780486635545:=0
def tw7616027136567052243:=0
def tw16380792072492241742:=0
def tw13630371942995039604:=0
def tw14118880517679456441:=0
def tw11693578687378393248:=0
def tw8597261057977347398:=0
def tw515176790357739709:=0
def tw12694083562947329165:=0
def tw11850499540709534007:=0
def tw9351246996814937704:=0
def tw8178769316351036090:=0
def tw1677736585247764892:=0
def tw5903254154726140558:=0
def tw2051169081279306867:=0
def tw18036857262187962939:=0
def tw4100766217947506085:=0
def tw10503169368058378984:=0
def tw12618192384410813524:=0
def tw9561687892900438759:=0
def tw8348159221378695754:=0
def tw2037906568555776446:=0
def tw6750433553505937360:=0
def tw8101419547728970476:=0
def tw17545073940964029585:=0
def tw18204218637750974333:=0
def tw17830323398865096447:=0
def tw4242349685261892428:=0
def tw9277307512484790279:=0
def tw14103534621027689469:=0
def tw11937675589909672391:=0
def tw5797545329294567519:=0
def tw14957044633376517434:=0
def tw8360939567194177678:=0
def tw1333470382429153773:=0
def tw18080172704729101358:=0
def tw1036094412652100:=0
def tw10933011946949279474:=0
def tw5407029968293076356:=0
def tw7276394680313348119:=0
def tw17410554171138171112:=0
def tw15927557903041289044:=0
def tw87761036660630912:=0
def tw5140628658199564231:=0
def tw11095186427583022555:=0
def tw7840351015523809619:=0
def tw13673885641764327478:=0
def tw7927364026436830048:=0
def tw1646593472393110168:=0
def tw1881338052401102685:=0
def tw17452757444483245942:=0
def tw15256783850370626700:=0
def tw9713455490282629668:=0
def tw16832950193822057372:=0
def tw9320373079270139556:=0
def tw13180827957550986128:=0
def tw12290656696760373248:=0
def tw2916184994358755382:=0
def tw12267503063379654960:=0
def tw8966788105078008003:=0
def tw10063544083378315667:=0
def tw2407416445710434922:=0
def tw15495570697516674873:=0
def tw1997047567211893541:=0
def tw16405259017644493810:=0
def tw14863816238354312502:=0
def tw7850158998136446095:=0
def tw16963680249009694436:=0
def tw7011376211891690423:=0
def tw13296465887205172738:=0
end PySem.W.Fast
set_option maxRecDepth 100000 in
set_option maxHeartbeats 0 in
theorem PySem.Challenge.cw_fewsaves_k12_runs_stopped_holds : PySem.Challenge.rw_fewsaves_k12_runs_stopped.Holds := by
 w_on; o_law; k_head; (case hw => w_witness2)
 k_fill
 refine Fs.walk (l := PySem.Challenge.rw_fewsaves_k12_runs_stopped) rfl rfl (fun w h Y => PySem.W.kIn_of Y) ?F
 case F =>
  intro w mg fa h KX G hmg
  refine' Fs.all_mk KX G hmg ?a1 ?l1 ?c1 ?k1 ?a2 ?l2 ?c2 ?k2 ?a3 ?l3 ?c3 ?k3 ?a4 ?l4 ?c4 ?k4 ?a5 ?l5 ?c5 ?k5 ?a6 ?l6 ?c6 ?k6 ?a7 ?l7 ?c7 ?k7 ?a8 ?l8 ?c8 ?k8 ?a9 ?l9 ?c9 ?k9 ?a10 ?l10 ?c10 ?k10 ?a11 ?l11 ?c11 ?k11 ?a12 ?l12 ?c12 ?k12 ?a13 ?l13 ?c13 ?k13 ?a14 ?l14 ?c14 ?k14 ?a15 ?l15 ?c15 ?k15 ?a16 ?l16 ?c16 ?k16 ?yA0 ?yp0 ?yh0 ?yo0 ?ys0 ?ym0 ?yk0 ?wn0_0 ?wn0_1 ?wn0_2 ?wn0_3 ?yA1 ?yp1 ?yh1 ?yo1 ?ys1 ?ym1 ?yk1 ?wn1_0 ?wn1_1 ?wn1_2 ?wn1_3 ?wn1_4 ?wn1_5 ?wn1_6 ?wn1_7 ?wn1_8 ?wn1_9 ?wn1_10 ?wn1_11 ?wn1_12 ?wn1_13 ?xa0 ?xi0 ?xl0 ?xc0 ?xk0 ?xa1 ?xi1 ?xl1 ?xc1 ?xk1 ?xa2 ?xi2 ?xl2 ?xc2 ?xk2 ?xa3 ?xi3 ?xl3 ?xc3 ?xk3 ?xa4 ?xi4 ?xl4 ?xc4 ?xk4 ?xa5 ?xi5 ?xl5 ?xc5 ?xk5 ?xa6 ?xi6 ?xl6 ?xc6 ?xk6 ?xa7 ?xi7 ?xl7 ?xc7 ?xk7 ?xa8 ?xi8 ?xl8 ?xc8 ?xk8 ?xa9 ?xi9 ?xl9 ?xc9 ?xk9 ?xa10 ?xi10 ?xl10 ?xc10 ?xk10 ?i0 ?z1 ?z2 ?z3 ?z4 ?z5 ?z6 ?z7 ?z8
  (case a1 => k_is)
  (case l1 => k_is)
  (case c1 => k_is)
  (case k1 => k_is)
  (case a2 => k_is)
  (case l2 => k_is)
  (case c2 => k_is)
  (case k2 => k_is)
  (case a3 => k_is)
  (case l3 => k_is)
  (case c3 => k_is)
  (case k3 => k_is)
  (case a4 => k_is)
  (case l4 => k_is)
  (case c4 => k_is)
  (case k4 => k_is)
  (case a5 => k_is)
  (case l5 => k_is)
  (case c5 => k_is)
  (case k5 => k_is)
  (case a6 => k_is)
  (case l6 => k_is)
  (case c6 => k_is)
  (case k6 => k_is)
  (case a7 => k_is)
  (case l7 => k_is)
  (case c7 => k_is)
  (case k7 => k_is)
  (case a8 => k_is)
  (case l8 => k_is)
  (case c8 => k_is)
  (case k8 => k_is)
  (case a9 => k_is)
  (case l9 => k_is)
  (case c9 => k_is)
  (case k9 => k_is)
  (case a10 => k_is)
  (case l10 => k_is)
  (case c10 => k_is)
  (case k10 => k_is)
  (case a11 => k_is)
  (case l11 => k_is)
  (case c11 => k_is)
  (case k11 => k_is)
  (case a12 => k_is)
  (case l12 => k_is)
  (case c12 => k_is)
  (case k12 => k_is)
  (case a13 => k_is)
  (case l13 => k_is)
  (case c13 => k_is)
  (case k13 => k_is)
  (case a14 => k_is)
  (case l14 => k_is)
  (case c14 => k_is)
  (case k14 => k_is)
  (case a15 => k_is)
  (case l15 => k_is)
  (case c15 => k_is)
  (case k15 => k_is)
  (case a16 => k_is)
  (case l16 => k_is)
  (case c16 => k_is)
  (case k16 => k_is)
  (case yA0 => k_is)
  (case yp0 => k_is)
  (case yh0 => k_is)
  (case yo0 => k_is)
  (case ys0 => k_is)
  (case ym0 => k_is)
  (case yk0 => k_is)
  (case wn0_0 => k_is)
  (case wn0_1 => k_is)
  (case wn0_2 => k_is)
  (case wn0_3 => k_is)
  (case yA1 => k_is)
  (case yp1 => k_is)
  (case yh1 => k_is)
  (case yo1 => k_is)
  (case ys1 => k_is)
  (case ym1 => k_is)
  (case yk1 => k_is)
  (case wn1_0 => k_is)
  (case wn1_1 => k_is)
  (case wn1_2 => k_is)
  (case wn1_3 => k_is)
  (case wn1_4 => k_is)
  (case wn1_5 => k_is)
  (case wn1_6 => k_is)
  (case wn1_7 => k_is)
  (case wn1_8 => k_is)
  (case wn1_9 => k_is)
  (case wn1_10 => k_is)
  (case wn1_11 => k_is)
  (case wn1_12 => k_is)
  (case wn1_13 => k_is)
  (case xa0 => k_is)
  (case xi0 => k_is)
  (case xl0 => k_is)
  (case xc0 => k_is)
  (case xk0 => k_is)
  (case xa1 => k_is)
  (case xi1 => k_is)
  (case xl1 => k_is)
  (case xc1 => k_is)
  (case xk1 => k_is)
  (case xa2 => k_is)
  (case xi2 => k_is)
  (case xl2 => k_is)
  (case xc2 => k_is)
  (case xk2 => k_is)
  (case xa3 => k_is)
  (case xi3 => k_is)
  (case xl3 => k_is)
  (case xc3 => k_is)
  (case xk3 => k_is)
  (case xa4 => k_is)
  (case xi4 => k_is)
  (case xl4 => k_is)
  (case xc4 => k_is)
  (case xk4 => k_is)
  (case xa5 => k_is)
  (case xi5 => k_is)
  (case xl5 => k_is)
  (case xc5 => k_is)
  (case xk5 => k_is)
  (case xa6 => k_is)
  (case xi6 => k_is)
  (case xl6 => k_is)
  (case xc6 => k_is)
  (case xk6 => k_is)
  (case xa7 => k_is)
  (case xi7 => k_is)
  (case xl7 => k_is)
  (case xc7 => k_is)
  (case xk7 => k_is)
  (case xa8 => k_is)
  (case xi8 => k_is)
  (case xl8 => k_is)
  (case xc8 => k_is)
  (case xk8 => k_is)
  (case xa9 => k_is)
  (case xi9 => k_is)
  (case xl9 => k_is)
  (case xc9 => k_is)
  (case xk9 => k_is)
  (case xa10 => k_is)
  (case xi10 => k_is)
  (case xl10 => k_is)
  (case xc10 => k_is)
  (case xk10 => k_is)
  (case i0 => k_is)
  (case z1 => k_is)
  (case z2 => k_is)
  (case z3 => k_is)
  (case z4 => k_is)
  (case z5 => k_is)
  (case z6 => k_is)
  (case z7 => k_is)
  (case z8 => k_is)
