import PyProof.Rows.All
import Wide.All
import OpenK.AllK
import Wide.FinOn
import Lean
import PyProof.EqAt
import PyProof.EqKinds
import PyProof.TupleCall
import PySem.Challenge.RW_fewsaves_k06_busy
import PyProof.CollectWalk
set_option Elab.async false
set_option linter.all false
set_option maxRecDepth 100000
namespace L2
open PySem PySem.Spec PyProof.Rows
noncomputable abbrev Key := Sum Int Str
noncomputable def keyIs : Key → Value → Bool
  | .inl k, v => Value.isInt k v
  | .inr x, v => Value.isStrOf x v
noncomputable def keyH (w : World) : Key → Int
  | .inl k => hashInt k
  | .inr x => hashStr w x
theorem keyIs_shape : ∀ {k : Key} {v : Value}, keyIs k v = true → (∃ i t, k = Sum.inl i ∧ v = Value.int i t) ∨ (∃ x t, k = Sum.inr x ∧ v = Value.str x t)
  | .inl i, v, h => by
    obtain ⟨t, e⟩ := Value.isInt_shape (k := i) (v := v) h
    exact .inl ⟨i, t, rfl, e⟩
  | .inr x, v, h => by
    obtain ⟨t, e⟩ := Value.isStrOf_shape (x := x) (v := v) h
    exact .inr ⟨x, t, rfl, e⟩
theorem keyIs_int (i : Int) (t : Tok) : keyIs (.inl i) (.int i t) = true := by simp [keyIs, Value.isInt]
theorem keyIs_str (x : Str) (t : Tok) : keyIs (.inr x) (.str x t) = true := by simp [keyIs, Value.isStrOf]
theorem key_ll (a b : Int) : decide ((Sum.inl a : Key) = Sum.inl b) = (a == b) := by
  by_cases e : a = b
  · subst e; simp
  · have h : ¬ (Sum.inl a : Key) = Sum.inl b := fun q => e (Sum.inl.inj q)
    rw [decide_eq_false h]
    exact (beq_eq_false_iff_ne.mpr e).symm
theorem key_rr (a b : Str) : decide ((Sum.inr a : Key) = Sum.inr b) = decide (a = b) := by
  by_cases e : a = b
  · subst e; simp
  · have h : ¬ (Sum.inr a : Key) = Sum.inr b := fun q => e (Sum.inr.inj q)
    rw [decide_eq_false h, decide_eq_false e]
theorem key_lr (a : Int) (b : Str) : decide ((Sum.inl a : Key) = Sum.inr b) = false := decide_eq_false (fun q => nomatch q)
theorem key_rl (a : Str) (b : Int) : decide ((Sum.inr a : Key) = Sum.inl b) = false := decide_eq_false (fun q => nomatch q)
noncomputable def mixKind (prog : Program) (w : World) : PySem.KeyKind prog w Key where
  is := keyIs
  hash := keyH w
  inj := fun v a b ha hb => by
    rcases keyIs_shape ha with ⟨i, t, rfl, rfl⟩ | ⟨x, t, rfl, rfl⟩
    · rcases keyIs_shape hb with ⟨j, u, rfl, e⟩ | ⟨y, u, rfl, e⟩
      · injection e with e1 _; rw [e1]
      · exact nomatch e
    · rcases keyIs_shape hb with ⟨j, u, rfl, e⟩ | ⟨y, u, rfl, e⟩
      · exact nomatch e
      · injection e with e1 _; rw [e1]
  byValue := fun k v h => by
    rcases keyIs_shape h with ⟨i, t, rfl, rfl⟩ | ⟨x, t, rfl, rfl⟩ <;> rfl
  pyHash := fun hv h => by
    rcases keyIs_shape hv with ⟨i, t, rfl, rfl⟩ | ⟨x, t, rfl, rfl⟩
    · exact wpAny_pyHash_int h
    · exact wpAny_pyHash_str h
  eqBool := fun hu hv h => by
    rcases keyIs_shape hu with ⟨i, t, rfl, rfl⟩ | ⟨x, t, rfl, rfl⟩
    · rcases keyIs_shape hv with ⟨j, u, rfl, rfl⟩ | ⟨y, u, rfl, rfl⟩
      · rw [key_ll] at h; exact wpAny_eqBool_int h
      · rw [key_lr] at h; exact SeqAt.EqAt.int_str i t y u _ _ _ _ h
    · rcases keyIs_shape hv with ⟨j, u, rfl, rfl⟩ | ⟨y, u, rfl, rfl⟩
      · rw [key_rl] at h; exact SeqAt.EqAt.str_int x t j u _ _ _ _ h
      · rw [key_rr] at h; exact wpAny_eqBool_str h
  «strs» := fun k x t v h => by
    rcases keyIs_shape h with ⟨i, u, rfl, e⟩ | ⟨y, u, rfl, e⟩
    · exact nomatch e
    · injection e with e1 _
      subst e1
      cases v <;> rfl
theorem mixKind_int (prog : Program) (w : World) (i : Int) (t : Tok) : (mixKind prog w).is (.inl i) (.int i t) = true := keyIs_int i t
theorem mixKind_str (prog : Program) (w : World) (x : Str) (t : Tok) : (mixKind prog w).is (.inr x) (.str x t) = true := keyIs_str x t
end L2
namespace L2
open PySem PySem.Spec PyProof.Rows
inductive V where
  | non | bl (b : Bool) | int (i : Int) | str (x : Str) | byt (b : Array UInt8) | flt (b : UInt64) | ref (a : Addr) | ty (n : String)
  deriving DecidableEq
noncomputable def RelV : V → Value → Prop
  | .non, u => u = Value.none
  | .bl b, u => u = Value.bool b
  | .int i, u => ∃ t, u = Value.int i t
  | .str x, u => ∃ t, u = Value.str x t
  | .byt b, u => ∃ t, u = Value.bytes b t
  | .flt b, u => ∃ t, u = Value.float b t
  | .ref a, u => u = Value.ref a
  | .ty n, u => u = Value.type n
noncomputable abbrev Vals : List V → List Value → Prop := Paired RelV
theorem Vals.length {xs : List V} {us : List Value} (r : Vals xs us) : xs.length = us.length := Paired.length r
theorem Vals.get : ∀ {xs : List V} {us : List Value} {i : Nat} {x : V}, Vals xs us → xs[i]? = some x → ∃ u, us[i]? = some u ∧ RelV x u
  | _, _, _, _, .nil, e => by simp at e
  | _, _, 0, _, .cons r _, e => by simp at e; subst e; exact ⟨_, rfl, r⟩
  | _, _, i + 1, x, .cons _ t, e => by
    obtain ⟨u, h1, h2⟩ := Vals.get (i := i) (x := x) t (by simpa using e)
    exact ⟨u, by simpa using h1, h2⟩
theorem Vals.set {x : V} {u : Value} (r : RelV x u) : ∀ {xs : List V} {us : List Value} (i : Nat), Vals xs us → Vals (xs.set i x) (us.set i u)
  | _, _, _, .nil => .nil
  | _, _, 0, .cons _ t => .cons r t
  | _, _, i + 1, .cons q t => .cons q (Vals.set r i t)
theorem Vals.append {xs ys : List V} {us ws : List Value} (h : Vals xs us) (s : Vals ys ws) : Vals (xs ++ ys) (us ++ ws) := by
  induction h with
  | nil => exact s
  | cons r _ ih => exact .cons r ih
theorem Vals.take : ∀ {xs : List V} {us : List Value} (n : Nat), Vals xs us → Vals (xs.take n) (us.take n)
  | _, _, 0, _ => .nil
  | _, _, _ + 1, .nil => .nil
  | _, _, n + 1, .cons r t => .cons r (Vals.take n t)
theorem Vals.drop : ∀ {xs : List V} {us : List Value} (n : Nat), Vals xs us → Vals (xs.drop n) (us.drop n)
  | _, _, 0, r => r
  | _, _, _ + 1, .nil => .nil
  | _, _, n + 1, .cons _ t => Vals.drop n t
noncomputable def RelO : Option V → Option Value → Prop
  | some v, some u => RelV v u
  | none, none => True
  | _, _ => False
noncomputable def KV {κ : Type} : List (κ × V) → List (κ × Value) → Prop := Paired fun (p : κ × V) (q : κ × Value) => p.1 = q.1 ∧ RelV p.2 q.2
noncomputable def kV : Key → V
  | .inl i => .int i
  | .inr x => .str x
inductive HO where
  | lst (xs : List V)
  | tup (xs : List V)
  | dK (kvs : List (Key × V)) | dT (kvs : List (List Key × V))
  | set (S : Int → Bool) (n : Nat)
  | ins (C dx : Addr) (fs : List (Str × V))
  | own (x : Addr)
  | xd (fs : List (Str × V))
  | met (f x : Addr)
  | rng (lo hi : Int)
  | frz (o : Obj) (u : HO)
  | tbl (ps : Array Value)
  | ext (φ : Addr → Heap → Prop)
noncomputable abbrev Hp := Addr → Option HO
noncomputable def upd (H : Hp) (a : Addr) (o : HO) : Hp := fun b => if b = a then some o else H b
theorem upd_same {H : Hp} {a : Addr} {o : HO} : upd H a o a = some o := by unfold upd; rw [if_pos rfl]
theorem upd_ne {H : Hp} {a b : Addr} {o : HO} (h : b ≠ a) : upd H a o b = H b := by unfold upd; rw [if_neg h]
theorem upd_upd {H : Hp} {a : Addr} {o u : HO} : upd (upd H a o) a u = upd H a u := by
  funext b; unfold upd; split <;> rfl
theorem ne_of {H : Hp} {a b : Addr} {o u : HO} (h : H a = some o) (h' : H b = some u) (d : o ≠ u) : a ≠ b := by
  intro e; subst e; rw [h] at h'; exact d (Option.some.inj h')
theorem ne_of_none {H : Hp} {a b : Addr} {o : HO} (h : H a = some o) (h' : H b = none) : a ≠ b := by
  intro e; subst e; rw [h] at h'; cases h'
section
variable (P : Program) (w : World)
noncomputable def ObjOk (H : Hp) (h : Heap) (a : Addr) : HO → Prop
  | .lst xs => xs.length ≤ sizeLine ∧ ∃ (its : List Value) (n : Nat), Vals xs its ∧ h.get? a = some { cls := .type "list", data := .seq its.toArray n }
  | .tup xs => xs.length ≤ sizeLine ∧ ∃ its : List Value, Vals xs its ∧ IsTup h a its.toArray
  | .dK kvs => kvs.length ≤ sizeLine ∧ (a == sysModules) = false ∧ ∃ vs, KV kvs vs ∧ h.DictOf (mixKind P w) a vs
  | .dT kvs => kvs.length ≤ sizeLine ∧ (a == sysModules) = false ∧ ∃ xs : List (List Key × Addr × Value),
      Paired (fun (p : List Key × V) (q : List Key × Addr × Value) => p.1 = q.1 ∧ H q.2.1 = some (.tup (p.1.map kV)) ∧ RelV p.2 q.2.2) kvs xs ∧
      ∃ o es ep, h.get? a = some o ∧ o.ExactDict ∧ o.data = .dict es ep ∧ es.toList = xs.map (entryOfKey (tupleKind (mixKind P w))) ∧ (xs.map (·.1)).Nodup
  | .set S n => h.SetOf (intKind P w) a S n
  | .ins C dx fs => H dx = some (.own a) ∧ fs.length ≤ 1000 ∧ dx ≠ a ∧ h.get? a = some (PySem.W.instObj C dx) ∧
      ∃ mA, h.Ns1 dx mA ∧ (∀ f, RelO (fs.lookup f) (mA f)) ∧ PySem.Within mA (fs.map (·.1))
  | .own _ => ∃ o, h.get? a = some o
  | .xd fs => ∃ mA, h.Ns1 a mA ∧ ∀ f, RelO (fs.lookup f) (mA f)
  | .rng lo hi => ∃ t u v, h.get? a = some { cls := .type "range", data := .fields #[.int lo t, .int hi u, .int 1 v] }
  | .frz o u => h.get? a = some o ∧ ObjOk H h a u
  | .tbl ps => h.get? a = some { cls := .none, data := .fields ps }
  | .met f x => h.get? a = some (PySem.W.methodObj (.ref f) (.ref x))
  | .ext φ => φ a h ∧ (∃ o, h.get? a = some o) ∧ ∀ h1 h2 : Heap, φ a h1 → (∀ o, h1.get? a = some o → h2.get? a = some o) → φ a h2
def HOk (H : Hp) (h : Heap) : Prop := ∀ a o, H a = some o → ObjOk P w H h a o
end
section
variable {P : Program} {w : World} {H H' : Hp} {h h' : Heap} {a : Addr} {o : HO}
theorem ObjOk.lt (x : ObjOk P w H h a o) : a < h.objs.size := by
  cases o with
  | lst xs => obtain ⟨_, _, _, _, e⟩ := x; exact Heap.lt_size e
  | tup xs => obtain ⟨_, _, _, p⟩ := x; exact p.lt
  | dK kvs => obtain ⟨_, _, _, _, o, _, _, e, _⟩ := x; exact Heap.lt_size e
  | dT kvs => obtain ⟨_, _, _, _, o, _, _, e, _⟩ := x; exact Heap.lt_size e
  | set S n => obtain ⟨o, _, _, _, e, _⟩ := x; exact Heap.lt_size e
  | ins C dx fs => obtain ⟨_, _, _, e, _⟩ := x; exact Heap.lt_size e
  | own y => obtain ⟨_, e⟩ := x; exact Heap.lt_size e
  | xd fs => obtain ⟨_, ⟨_, _, _, e, _⟩, _⟩ := x; exact Heap.lt_size e
  | rng lo hi => obtain ⟨_, _, _, e⟩ := x; exact Heap.lt_size e
  | frz ob u => obtain ⟨e, _⟩ := x; exact Heap.lt_size e
  | tbl ps => exact Heap.lt_size (show h.get? a = some _ from x)
  | met f y => exact Heap.lt_size (show h.get? a = some _ from x)
  | ext φ => obtain ⟨_, ⟨_, e⟩, _⟩ := x; exact Heap.lt_size e
theorem Paired.mapP {α β : Type} {F G : α → β → Prop} {l₁ : List α} {l₂ : List β} (h : Paired F l₁ l₂) (f : ∀ a b, F a b → G a b) : Paired G l₁ l₂ := by
  induction h with
  | nil => exact .nil
  | cons r _ ih => exact .cons (f _ _ r) ih
theorem ObjOk.stay (x : ObjOk P w H h a o) (k : ∀ b u, (b = a ∨ H b = some (.own a)) → h.get? b = some u → h'.get? b = some u)
    (ho : ∀ b, H b = some (.own a) → H' b = some (.own a)) (ht : ∀ b xs, H b = some (.tup xs) → H' b = some (.tup xs)) : ObjOk P w H' h' a o := by
  induction o with
  | lst xs => obtain ⟨z, its, n, r, e⟩ := x; exact ⟨z, its, n, r, k _ _ (.inl rfl) e⟩
  | tup xs => obtain ⟨z, its, r, ob, e, c⟩ := x; exact ⟨z, its, r, ob, k _ _ (.inl rfl) e, c⟩
  | dK kvs => obtain ⟨z, y, vs, r, ob, es, ep, e, c⟩ := x; exact ⟨z, y, vs, r, ob, es, ep, k _ _ (.inl rfl) e, c⟩
  | dT kvs =>
    obtain ⟨z, y, xs, r, ob, es, ep, e, c⟩ := x
    exact ⟨z, y, xs, Paired.mapP r fun p q z => ⟨z.1, ht _ _ z.2.1, z.2.2⟩, ob, es, ep, k _ _ (.inl rfl) e, c⟩
  | set S n => obtain ⟨ob, es, ep, t, e, c⟩ := x; exact ⟨ob, es, ep, t, k _ _ (.inl rfl) e, c⟩
  | ins C dx fs =>
    obtain ⟨d, z, ne, e, mA, ⟨od, es, ep, e2, c⟩, r⟩ := x
    exact ⟨ho _ d, z, ne, k _ _ (.inl rfl) e, mA, ⟨od, es, ep, k _ _ (.inr d) e2, c⟩, r⟩
  | own y => obtain ⟨ob, e⟩ := x; exact ⟨ob, k _ _ (.inl rfl) e⟩
  | xd fs => obtain ⟨mA, ⟨od, es, ep, e, c⟩, r⟩ := x; exact ⟨mA, ⟨od, es, ep, k _ _ (.inl rfl) e, c⟩, r⟩
  | rng lo hi => obtain ⟨t, u, v, e⟩ := x; exact ⟨t, u, v, k _ _ (.inl rfl) e⟩
  | frz ob u ih => obtain ⟨e, q⟩ := x; exact ⟨k _ _ (.inl rfl) e, ih q⟩
  | tbl ps =>
    have e : h.get? a = some { cls := .none, data := .fields ps } := x
    show h'.get? a = some { cls := .none, data := .fields ps }
    exact k a _ (.inl rfl) e
  | met f y =>
    have e : h.get? a = some (PySem.W.methodObj (.ref f) (.ref y)) := x
    show h'.get? a = some (PySem.W.methodObj (.ref f) (.ref y))
    exact k a _ (.inl rfl) e
  | ext φ => obtain ⟨p, ⟨o, e⟩, st⟩ := x; exact ⟨st _ _ p fun o q => k _ _ (.inl rfl) q, ⟨o, k _ _ (.inl rfl) e⟩, st⟩
theorem HOk.lt (x : HOk P w H h) (e : H a = some o) : a < h.objs.size := (x a o e).lt
theorem HOk.fresh (x : HOk P w H h) (e : h.objs.size ≤ a) : H a = none := by
  cases q : H a with
  | none => rfl
  | some u => exact absurd (Nat.lt_of_lt_of_le (x.lt q) e) (Nat.lt_irrefl _)
theorem HOk.kept (x : HOk P w H h) (k : ∀ b u, h.get? b = some u → h'.get? b = some u) : HOk P w H h' := fun a o e =>
  (x a o e).stay (fun b u _ q => k b u q) (fun _ q => q) fun _ _ q => q
theorem HOk.laid (x : HOk P w H h) (k : ∀ b u, h.get? b = some u → h'.get? b = some u) (hp : h.objs.size ≤ a) (new : ObjOk P w (upd H a o) h' a o) : HOk P w (upd H a o) h' := fun b u e => by
  have hn := x.fresh hp
  by_cases hb : b = a
  · subst hb; rw [upd_same] at e; cases e; exact new
  · rw [upd_ne hb] at e
    exact (x b u e).stay (fun c v _ q => k c v q) (fun c q => by rw [upd_ne (ne_of_none q hn)]; exact q) fun c xs q => by rw [upd_ne (ne_of_none q hn)]; exact q
end
def Rd (H : Hp) (a : Addr) (u : HO) : Prop := H a = some u ∨ ∃ o, H a = some (.frz o u)
theorem Rd.ok {P : Program} {w : World} {H : Hp} {h : Heap} {a : Addr} {u : HO} (r : Rd H a u) (x : HOk P w H h) : ObjOk P w H h a u := by
  rcases r with r | ⟨o, r⟩
  · exact x a u r
  · obtain ⟨_, q⟩ := x a _ r
    exact q
noncomputable def Mut : Option HO → Prop
  | some (.lst _) => True
  | some (.dK _) => True
  | some (.dT _) => True
  | some (.set _ _) => True
  | some (.ins _ _ _) => True
  | some (.ext _) => True
  | _ => False
section
variable {P : Program} {w : World} {H : Hp} {h h' : Heap} {x e : Addr} {o' : HO}
theorem HOk.write (ok : HOk P w H h) (mu : Mut (H x)) (he : e = x ∨ H e = some (.own x)) (k : ∀ b u, b ≠ e → h.get? b = some u → h'.get? b = some u) (heo : ∃ u, h'.get? e = some u)
    (new : ObjOk P w (upd H x o') h' x o') : HOk P w (upd H x o') h' := fun b u q => by
  have nown : ∀ c y, H c = some (.own y) → c ≠ x := fun c y r z => by subst z; rw [r] at mu; exact mu
  have ntup : ∀ c xs, H c = some (.tup xs) → c ≠ x := fun c xs r z => by subst z; rw [r] at mu; exact mu
  by_cases hb : b = x
  · subst hb; rw [upd_same] at q; cases q; exact new
  · rw [upd_ne hb] at q
    by_cases hbe : b = e
    · have q' : H b = some (.own x) := by
        rcases he with z | z
        · exact absurd (hbe.trans z) hb
        · rw [hbe]; exact z
      rw [q] at q'; cases q'
      obtain ⟨v, hv⟩ := heo
      exact ⟨v, by rw [hbe]; exact hv⟩
    · refine (ok b u q).stay (fun c v hc r => k c v ?_ r) (fun c r => by rw [upd_ne (nown c b r)]; exact r) fun c xs r => by rw [upd_ne (ntup c xs r)]; exact r
      rcases hc with rfl | hc
      · exact hbe
      · rintro rfl
        rcases he with z | z
        · exact nown c b hc z
        · rw [hc] at z; cases z; exact hb rfl
end
structure Un (fs ex : List Addr) (H H' : Hp) (h h' : Heap) : Prop where
  keep : ∀ b o, h.get? b = some o → H b = none → b ∉ fs → b ∉ ex → h'.get? b = some o
  slot : ∀ b o, h.get? b = some o → H b = none → b ∈ fs → b ∉ ex → ∃ sl, h'.get? b = some { o with slots := sl }
  free : ∀ b o, h.get? b = some o → H b = none → b ∉ ex → H' b = none
  there : ∀ b o, h.get? b = some o → b ∉ ex → ∃ o', h'.get? b = some o'
  tups : ∀ b xs, H b = some (.tup xs) → H' b = some (.tup xs)
  frzs : ∀ b o u, H b = some (.frz o u) → H' b = some (.frz o u)
  tbls : ∀ b ps, H b = some (.tbl ps) → ∃ more, H' b = some (.tbl (ps ++ more))
section
variable {fs fs' ex ex' : List Addr} {H H1 H2 : Hp} {h h1 h2 h' : Heap} {a x e : Addr} {o : HO}
theorem Un.any (u : Un fs ex H H1 h h1) {b : Addr} {ob : Obj} (q : h.get? b = some ob) (n : H b = none) (hx : b ∉ ex) : ∃ sl, h1.get? b = some { ob with slots := sl } := by
  by_cases hb : b ∈ fs
  · exact u.slot b ob q n hb hx
  · exact ⟨ob.slots, u.keep b ob q n hb hx⟩
theorem Un.kept (k : ∀ b u, h.get? b = some u → h'.get? b = some u) : Un fs ex H H h h' :=
  ⟨fun b ob q _ _ _ => k b ob q, fun b ob q _ _ _ => ⟨ob.slots, k b ob q⟩, fun _ _ _ n _ => n, fun b ob q _ => ⟨ob, k b ob q⟩, fun _ _ q => q, fun _ _ _ q => q, fun _ ps q => ⟨#[], by rw [q]; simp⟩⟩
theorem Un.refl : Un fs ex H H h h := Un.kept fun _ _ q => q
theorem Un.laid (k : ∀ b u, h.get? b = some u → h'.get? b = some u) (hp : h.objs.size ≤ a) (hn : H a = none) : Un fs ex H (upd H a o) h h' where
  keep := fun b u q _ _ _ => k b u q
  slot := fun b u q _ _ _ => ⟨u.slots, k b u q⟩
  free := fun b u q n _ => by rw [upd_ne (Nat.ne_of_lt (Nat.lt_of_lt_of_le (Heap.lt_size q) hp))]; exact n
  there := fun b u q _ => ⟨u, k b u q⟩
  tups := fun b xs q => by rw [upd_ne (ne_of_none q hn)]; exact q
  frzs := fun b u xs q => by rw [upd_ne (ne_of_none q hn)]; exact q
  tbls := fun b ps q => ⟨#[], by rw [upd_ne (ne_of_none q hn), q]; simp⟩
theorem Un.write (mu : Mut (H x)) (he : e = x ∨ H e = some (.own x)) (k : ∀ b u, b ≠ e → h.get? b = some u → h'.get? b = some u) (heo : ∃ u, h'.get? e = some u) : Un fs ex H (upd H x o) h h' := by
  have hx : ∀ b, H b = none → b ≠ x := fun b n z => by subst z; rw [n] at mu; exact mu
  have hb : ∀ b, H b = none → b ≠ e := fun b n z => by
    subst z
    rcases he with r | r
    · exact hx b n r
    · rw [n] at r; cases r
  have hm : ∀ b u, H b = some u → ¬ Mut (some u) → b ≠ x := fun b u q nm z => by subst z; rw [q] at mu; exact nm mu
  refine ⟨fun b u q n _ _ => k b u (hb b n) q, fun b u q n _ _ => ⟨u.slots, k b u (hb b n) q⟩, fun b u q n _ => by rw [upd_ne (hx b n)]; exact n, fun b u q _ => ?_,
    fun b xs q => by rw [upd_ne (hm b _ q fun z => z)]; exact q, fun b u xs q => by rw [upd_ne (hm b _ q fun z => z)]; exact q, fun b ps q => ⟨#[], by rw [upd_ne (hm b _ q fun z => z), q]; simp⟩⟩
  by_cases hbe : b = e
  · subst hbe; exact heo
  · exact ⟨u, k b u hbe q⟩
end
noncomputable def trk (h : Heap) (H : Hp) : List Addr := (List.range h.objs.size).filter fun a => (H a).isSome
noncomputable def hidT (h : Heap) (H : Hp) : Heap := PySem.W.hideAll h (trk h H)
theorem hidT_size (h : Heap) (H : Hp) : (hidT h H).objs.size = h.objs.size := PySem.W.hideAll_size _ _
theorem hidT_get {h : Heap} {H : Hp} {b : Addr} {o : Obj} (e : h.get? b = some o) (n : H b = none) : (hidT h H).get? b = some o :=
  PySem.W.hideAll_get _ e fun hm => by
    have q : (H b).isSome = true := (List.mem_filter.mp hm).2
    rw [n] at q; simp at q
theorem of_hidT {h : Heap} {H : Hp} {b : Addr} {o : Obj} (e : (hidT h H).get? b = some o) : h.get? b = some o ∧ H b = none := by
  have e' : h.get? b = some o := PySem.W.of_hideAll (trk h H) e
  refine ⟨e', ?_⟩
  cases q : H b with
  | none => rfl
  | some x =>
    have hm : b ∈ trk h H := List.mem_filter.mpr ⟨List.mem_range.mpr (Heap.lt_size e'), by simp [q]⟩
    have z : (hidT h H).get? b = none := PySem.W.hideAll_none (trk h H) hm
    rw [z] at e; cases e
noncomputable def allNews (g h : Heap) (L : Addr) : List (Addr × Obj) := (List.range h.objs.size).filterMap fun a => if a = L ∨ (g.get? a).isSome = true then none else (h.get? a).map fun o => (a, o)
noncomputable def rest (g h : Heap) (L d : Addr) : List (Addr × Obj) := (allNews g h L).filter fun p => decide (p.1 ≠ d)
end L2
namespace L2
open PySem PySem.Spec PyProof.Rows
structure Mod (K : PySem.W.Frag) (mg : Str → Option Value) (base : Heap) : Prop where
  kin : K.In base
  glob : base.Ns mainGlobals mg
  blt : ∃ mb, base.Ns builtinsNs mb ∧ ∀ x : Str, x ≠ "__name__" → mb x = bootBuiltins x
  nolimit : base.NoLimit
structure Cx where
  prog : Program
  w : World
  K : PySem.W.Frag
  mg : Str → Option Value
  base : Heap
  A : Around
  N : List Str
  s₀ : Shared
  H₀ : Hp
  env : Env
  outer : List Env
  stack : List Env
  ex : List Addr
  fn : Str → Bool
  calm : Bool
  pn : List (Addr × Obj)
  xe : Value → Shared → Prop
noncomputable def frs (l : List Env) : List Addr := l.filterMap (·.frame)
noncomputable abbrev Cx.fs (X : Cx) : List Addr := frs X.outer
def Vis (sc : Scope) (x : Str) : Prop := sc.names.lookup x = some .local ∨ sc.names.lookup x = some .cell ∨ sc.names.lookup x = some .free
def Loc (sc : Scope) (x : Str) : Prop := sc.names.lookup x = some .local ∨ sc.names.lookup x = some .cell
def Look (env : Env) (h : Heap) (m : Str → Option Value) (x : Str) (u : Value) : Prop :=
  (env.kindOf x = some .local ∧ m x = some u) ∨ ((env.kindOf x = some .cell ∨ env.kindOf x = some .free) ∧ ∃ c, env.cells.lookup x = some c ∧ h.IsCell c (some u))
structure Cx.Ok (X : Cx) : Prop where
  mod : Mod X.K X.mg X.base
  kind : X.env.scope.kind = .function
  glob : X.env.globals = mainGlobals
  blt : X.env.builtins = builtinsNs
  above : X.s₀.heap.objs.size ≤ X.env.locals
  inj : ∀ x y c, X.env.cells.lookup x = some c → X.env.cells.lookup y = some c → x = y
  has : ∀ x, (X.env.kindOf x = some .cell ∨ X.env.kindOf x = some .free) → ∃ c, X.env.cells.lookup x = some c
  cab : ∀ x c, X.fn x = true → X.env.cells.lookup x = some c → X.s₀.heap.objs.size ≤ c
  hd : X.calm = true → X.A.handled = none
  frames : X.A.frames = some X.stack
  stk : X.stack = X.outer ∨ (X.stack = X.env :: X.outer ∧ X.env.frame = some X.env.locals)
  exf : ∀ b ∈ X.ex, b ≠ X.env.locals ∧ ∀ x c, X.env.cells.lookup x = some c → c ≠ b
  bs : ∀ b o, X.base.get? b = some o → X.s₀.heap.get? b = some o ∧ X.H₀ b = none
  bsz : X.base.objs.size ≤ X.s₀.heap.objs.size
  noex : ∀ b o, X.base.get? b = some o → b ∉ X.ex
  exfs : ∀ b ∈ X.ex, b ∉ X.fs
  funs : X.s₀.heap.FunFrames X.base X.outer
  frf : ∀ b ∈ X.fs, X.H₀ b = none
structure Inv (X : Cx) (pins : List (Addr × Obj)) (σ : List (Option V)) (H : Hp) (s : Shared) : Prop where
  ok : X.Ok
  os : s.os = X.s₀.os
  bare : AllBare s.gens
  base : Un X.fs X.ex X.H₀ H X.s₀.heap s.heap
  loc : ∃ m, s.heap.Ns X.env.locals m ∧ ∀ (i : Nat) (x : Str) (v : V), X.N[i]? = some x → σ[i]? = some (some v) → Vis X.env.scope x → ∃ u, RelV v u ∧ Look X.env s.heap m x u
  cell : ∀ x c, X.env.cells.lookup x = some c → ∃ v, s.heap.IsCell c v
  free : H X.env.locals = none
  freeC : ∀ x c, X.env.cells.lookup x = some c → H c = none
  pin : ∀ p ∈ X.pn ++ pins, s.heap.get? p.1 = some p.2 ∧ H p.1 = none ∧ p.1 ≠ X.env.locals ∧ p.1 ∉ X.fs ∧ ∀ v, p.2.data ≠ .cell v
  hok : HOk X.prog X.w H s.heap
  len : σ.length = X.N.length
section
variable {X : Cx} {pins : List (Addr × Obj)} {σ : List (Option V)} {H H' : Hp} {s : Shared} {h' : Heap}
theorem Cx.Ok.nofr (ok : X.Ok) {b : Addr} {o : Obj} (e : X.base.get? b = some o) : b ∉ X.fs := fun hb => by
  have := (ok.funs.mem hb).1
  rw [e] at this; cases this
theorem Inv.bs (I : Inv X pins σ H s) : ∀ b o, X.base.get? b = some o → s.heap.get? b = some o ∧ H b = none := fun b o e =>
  ⟨I.base.keep b o (I.ok.bs b o e).1 (I.ok.bs b o e).2 (I.ok.nofr e) (I.ok.noex b o e), I.base.free b o (I.ok.bs b o e).1 (I.ok.bs b o e).2 (I.ok.noex b o e)⟩
theorem Inv.bk (I : Inv X pins σ H s) : ∀ b o, X.base.get? b = some o → s.heap.get? b = some o := fun b o e => (I.bs b o e).1
theorem Inv.mod (I : Inv X pins σ H s) : Mod X.K X.mg X.base := I.ok.mod
theorem Inv.kIn (I : Inv X pins σ H s) : X.K.In s.heap := I.ok.mod.kin.keeps I.bk
theorem Inv.lt (I : Inv X pins σ H s) : X.env.locals < s.heap.objs.size := let ⟨_, hn, _⟩ := I.loc; hn.lt
theorem Inv.sz (I : Inv X pins σ H s) : X.s₀.heap.objs.size ≤ s.heap.objs.size := Nat.le_trans I.ok.above (Nat.le_of_lt I.lt)
theorem Inv.nofs (I : Inv X pins σ H s) {a : Addr} (h : s.heap.objs.size ≤ a) : a ∉ X.fs := fun hb => by
  obtain ⟨_, o, ho, _⟩ := I.ok.funs.mem hb
  exact absurd (Nat.lt_of_lt_of_le (Heap.lt_size ho) (Nat.le_trans I.sz h)) (Nat.lt_irrefl _)
theorem Inv.cne (I : Inv X pins σ H s) : ∀ x c, X.env.cells.lookup x = some c → c ≠ X.env.locals := fun x c e z => by
  obtain ⟨v, o, ho, hd⟩ := I.cell x c e
  obtain ⟨m, ⟨o', es, ep, ho', hd', _⟩, _⟩ := I.loc
  rw [z, ho'] at ho; cases ho; rw [hd'] at hd; cases hd
theorem Inv.funs (I : Inv X pins σ H s) : s.heap.FunFrames X.base X.outer := by
  have all : ∀ (l : List Env), (∀ b ∈ frs l, b ∈ X.fs) → X.s₀.heap.FunFrames X.base l → s.heap.FunFrames X.base l := by
    intro l
    induction l with
    | nil => intro _ _; trivial
    | cons env r ih =>
      intro hs hl
      obtain ⟨hk, ⟨L, o, hf, hn, ho, hd⟩, hr⟩ := hl
      have hL : L ∈ X.fs := hs L (by unfold frs; rw [List.filterMap_cons, hf]; exact List.mem_cons_self)
      obtain ⟨sl, e⟩ := I.base.slot L o ho (I.ok.frf L hL) hL fun z => I.ok.exfs L z hL
      exact ⟨hk, ⟨L, _, hf, hn, e, hd⟩, ih (fun b hb => hs b (by unfold frs; rw [List.filterMap_cons, hf]; exact List.mem_cons_of_mem _ hb)) hr⟩
  exact all X.outer (fun _ hb => hb) I.ok.funs
theorem Inv.stack (I : Inv X pins σ H s) : s.heap.FunFrames X.base X.stack := by
  rcases I.ok.stk with e | ⟨e, hf⟩
  · rw [e]; exact I.funs
  · rw [e]
    obtain ⟨m, hn, _⟩ := I.loc
    refine .cons (by rw [I.ok.kind]; decide) hf hn ?_ I.funs
    exact Heap.get?_none_of_le (Nat.le_trans I.ok.bsz I.ok.above)
theorem Inv.stkSub (I : Inv X pins σ H s) : ∀ b ∈ frs X.stack, b ∈ X.env.locals :: X.fs := fun b hb => by
  rcases I.ok.stk with e | ⟨e, hf⟩
  · rw [e] at hb; exact List.mem_cons_of_mem _ hb
  · rw [e] at hb
    unfold frs at hb
    rw [List.filterMap_cons, hf] at hb
    exact hb
theorem Inv.stkFree (I : Inv X pins σ H s) : ∀ b ∈ frs X.stack, H b = none := fun b hb => by
  rcases List.mem_cons.mp (I.stkSub b hb) with e | hb
  · rw [e]; exact I.free
  · obtain ⟨_, o, ho, _⟩ := I.ok.funs.mem hb
    exact I.base.free b o ho (I.ok.frf b hb) fun z => I.ok.exfs b z hb
theorem Inv.step {g' : Array GenState} {t' : Nat} {d' : Drawn} {ch : List Addr} (I : Inv X pins σ H s)
    (hch : ∀ b ∈ ch, (b ∈ X.ex ∨ X.s₀.heap.objs.size ≤ b) ∧ b ≠ X.env.locals ∧ (∀ x c, X.env.cells.lookup x = some c → c ≠ b) ∧ ∀ p ∈ X.pn ++ pins, p.1 ≠ b)
    (keep : ∀ b o, b ≠ X.env.locals → b ∉ X.fs → b ∉ ch → s.heap.get? b = some o → H b = none → h'.get? b = some o)
    (slot : ∀ b o, b ≠ X.env.locals → b ∈ X.fs → b ∉ ch → s.heap.get? b = some o → H b = none → ∃ sl, h'.get? b = some { o with slots := sl }) (free : ∀ b o, b ∉ ch → s.heap.get? b = some o → H b = none → H' b = none)
    (there : ∀ b o, b ∉ ch → s.heap.get? b = some o → ∃ o', h'.get? b = some o')
    (tups : ∀ b xs, H b = some (.tup xs) → H' b = some (.tup xs)) (frzs : ∀ b o u, H b = some (.frz o u) → H' b = some (.frz o u)) (tbls : ∀ b ps, H b = some (.tbl ps) → ∃ more, H' b = some (.tbl (ps ++ more)))
    (ns : ∀ m, s.heap.Ns X.env.locals m → h'.Ns X.env.locals m) (hok : HOk X.prog X.w H' h') (hg : AllBare g') :
    Inv X pins σ H' { s with heap := h', gens := g', drawn := d', toks := t' } := by
  have neL : ∀ b o, X.s₀.heap.get? b = some o → b ≠ X.env.locals := fun b o e => Nat.ne_of_lt (Nat.lt_of_lt_of_le (Heap.lt_size e) I.ok.above)
  have neC : ∀ b o, X.s₀.heap.get? b = some o → b ∉ X.ex → b ∉ ch := fun b o e hx hb => by
    rcases (hch b hb).1 with z | z
    · exact hx z
    · exact absurd (Nat.lt_of_lt_of_le (Heap.lt_size e) z) (Nat.lt_irrefl _)
  have cellK : ∀ x c, X.env.cells.lookup x = some c → ∀ v, s.heap.IsCell c v → h'.IsCell c v := fun x c e v ⟨o, ho, hd⟩ => by
    have nch : c ∉ ch := fun z => (hch c z).2.2.1 x c e rfl
    by_cases hc : c ∈ X.fs
    · obtain ⟨sl, q⟩ := slot c o (I.cne x c e) hc nch ho (I.freeC x c e)
      exact ⟨_, q, hd⟩
    · exact ⟨o, keep c o (I.cne x c e) hc nch ho (I.freeC x c e), hd⟩
  refine ⟨I.ok, I.os, hg, ⟨fun b o e n hb hx => ?_, fun b o e n hb hx => ?_, fun b o e n hx => ?_, fun b o e hx => ?_, fun b xs e => tups b xs (I.base.tups b xs e), fun b o xs e => frzs b o xs (I.base.frzs b o xs e), fun b ps e => ?_⟩, ?_, fun x c e => ?_, ?_, fun x c e => ?_, fun p hp => ?_, hok, I.len⟩
  · exact keep b o (neL b o e) hb (neC b o e hx) (I.base.keep b o e n hb hx) (I.base.free b o e n hx)
  · obtain ⟨sl, e1⟩ := I.base.slot b o e n hb hx
    obtain ⟨sl', e2⟩ := slot b _ (neL b o e) hb (neC b o e hx) e1 (I.base.free b o e n hx)
    exact ⟨sl', e2⟩
  · obtain ⟨o', e1⟩ := I.base.there b o e hx
    exact free b o' (neC b o e hx) e1 (I.base.free b o e n hx)
  · obtain ⟨o', e1⟩ := I.base.there b o e hx
    exact there b o' (neC b o e hx) e1
  · obtain ⟨m1, e1⟩ := I.base.tbls b ps e
    obtain ⟨m2, e2⟩ := tbls b _ e1
    exact ⟨m1 ++ m2, by rw [e2, Array.append_assoc]⟩
  · obtain ⟨m, hn, hl⟩ := I.loc
    refine ⟨m, ns m hn, fun i x v e1 e2 e3 => ?_⟩
    obtain ⟨u, r, l⟩ := hl i x v e1 e2 e3
    refine ⟨u, r, ?_⟩
    rcases l with l | ⟨k, c, e, z⟩
    · exact .inl l
    · exact .inr ⟨k, c, e, cellK x c e _ z⟩
  · obtain ⟨v, z⟩ := I.cell x c e
    exact ⟨v, cellK x c e v z⟩
  · obtain ⟨m, ⟨o, _, _, ho, _⟩, _⟩ := I.loc
    exact free _ o (fun z => (hch _ z).2.1 rfl) ho I.free
  · obtain ⟨v, o, ho, hd⟩ := I.cell x c e
    exact free c o (fun z => (hch c z).2.2.1 x c e rfl) ho (I.freeC x c e)
  · obtain ⟨e, n, ne, nf, d⟩ := I.pin p hp
    have nch : p.1 ∉ ch := fun z => (hch p.1 z).2.2.2 p hp rfl
    exact ⟨keep p.1 p.2 ne nf nch e n, free p.1 p.2 nch e n, ne, nf, d⟩
theorem Inv.un {t' : Nat} (I : Inv X pins σ H s) (u : Un X.fs [] H H' s.heap h') (hok : HOk X.prog X.w H' h') : Inv X pins σ H' { s with heap := h', toks := t' } := by
  obtain ⟨m, ⟨o, es, ep, ho, r⟩, _⟩ := id I.loc
  obtain ⟨sl, hL⟩ := u.any ho I.free (by simp)
  exact I.step (g' := s.gens) (d' := s.drawn) (ch := []) (fun _ z => nomatch z) (fun b o _ hb _ e n => u.keep b o e n hb (by simp)) (fun b o _ hb _ e n => u.slot b o e n hb (by simp)) (fun b o _ e n => u.free b o e n (by simp)) (fun b o _ e => u.there b o e (by simp)) u.tups u.frzs u.tbls (fun m' hm => by
    obtain ⟨o', es', ep', ho', r'⟩ := hm
    rw [ho] at ho'; cases ho'
    exact ⟨_, es', ep', hL, r'⟩) hok I.bare
theorem Inv.call {g' : Array GenState} {t' : Nat} {d' : Drawn} {ch : List Addr} (I : Inv X pins σ H s) (u : Un (frs X.stack) ch H H' s.heap h') (hok : HOk X.prog X.w H' h') (hg : AllBare g')
    (hch : ∀ b ∈ ch, (b ∈ X.ex ∨ X.s₀.heap.objs.size ≤ b) ∧ b ≠ X.env.locals ∧ (∀ x c, X.env.cells.lookup x = some c → c ≠ b) ∧ ∀ p ∈ X.pn ++ pins, p.1 ≠ b) :
    Inv X pins σ H' { s with heap := h', gens := g', drawn := d', toks := t' } := by
  obtain ⟨m, ⟨o, es, ep, ho, r⟩, _⟩ := id I.loc
  obtain ⟨sl, hL⟩ := u.any ho I.free fun z => (hch _ z).2.1 rfl
  exact I.step (ch := ch) hch (fun b o hL hb hc e n => u.keep b o e n (fun z => (List.mem_cons.mp (I.stkSub b z)).elim hL hb) hc) (fun b o _ _ hc e n => u.any e n hc) (fun b o hc e n => u.free b o e n hc) (fun b o hc e => u.there b o e hc) u.tups u.frzs u.tbls (fun m' hm => by
    obtain ⟨o', es', ep', ho', r'⟩ := hm
    rw [ho] at ho'; cases ho'
    exact ⟨_, es', ep', hL, r'⟩) hok hg
theorem Inv.turned {t' : Nat} {it : Addr} (I : Inv X pins σ H s) (k : ∀ b o, b ≠ it → s.heap.get? b = some o → h'.get? b = some o) (hn : H it = none) (hL : it ≠ X.env.locals)
    (h1 : it ∈ X.ex ∨ X.s₀.heap.objs.size ≤ it) (h2 : ∀ x c, X.env.cells.lookup x = some c → c ≠ it) (h3 : ∀ p ∈ X.pn ++ pins, p.1 ≠ it) : Inv X pins σ H { s with heap := h', toks := t' } := by
  have nit : ∀ b u, H b = some u → b ≠ it := fun b u e z => by rw [z, hn] at e; cases e
  refine I.step (g' := s.gens) (d' := s.drawn) (ch := [it]) (fun b hb => ?_) (fun b o _ _ hc e _ => k b o (fun z => hc (by simp [z])) e) (fun b o _ _ hc e _ => ⟨o.slots, k b o (fun z => hc (by simp [z])) e⟩) (fun _ _ _ _ n => n)
    (fun b o hc e => ⟨o, k b o (fun z => hc (by simp [z])) e⟩) (fun _ _ e => e) (fun _ _ _ e => e) (fun b ps e => ⟨#[], by rw [e]; simp⟩) (fun m hm => ?_) (fun b u e => ?_) I.bare
  · have e : b = it := by simpa using hb
    subst e
    exact ⟨h1, hL, h2, h3⟩
  · obtain ⟨o, es, ep, ho, r⟩ := hm
    exact ⟨o, es, ep, k _ o (Ne.symm hL) ho, r⟩
  · refine (I.hok b u e).stay (fun c v hc q => k c v ?_ q) (fun _ q => q) fun _ _ q => q
    rcases hc with z | z
    · rw [z]; exact nit b u e
    · exact nit c _ z
theorem Inv.tok (I : Inv X pins σ H s) (t : Nat) : Inv X pins σ H { s with toks := t } := I.un (h' := s.heap) (t' := t) Un.refl I.hok
theorem Inv.kept {t' : Nat} (I : Inv X pins σ H s) (k : ∀ b u, s.heap.get? b = some u → h'.get? b = some u) : Inv X pins σ H { s with heap := h', toks := t' } := I.un (Un.kept k) (I.hok.kept k)
theorem Inv.laid {a : Addr} {o : HO} {t' : Nat} (I : Inv X pins σ H s) (k : ∀ b u, s.heap.get? b = some u → h'.get? b = some u) (hp : s.heap.objs.size ≤ a) (new : ObjOk X.prog X.w (upd H a o) h' a o) :
    Inv X pins σ (upd H a o) { s with heap := h', toks := t' } := I.un (Un.laid k hp (I.hok.fresh hp)) (I.hok.laid k hp new)
theorem Inv.write {x e : Addr} {o : HO} {t' : Nat} (I : Inv X pins σ H s) (mu : Mut (H x)) (he : e = x ∨ H e = some (.own x)) (k : ∀ b u, b ≠ e → s.heap.get? b = some u → h'.get? b = some u) (heo : ∃ u, h'.get? e = some u)
    (new : ObjOk X.prog X.w (upd H x o) h' x o) : Inv X pins σ (upd H x o) { s with heap := h', toks := t' } := I.un (Un.write mu he k heo) (I.hok.write mu he k heo new)
theorem Inv.pins_of {pins' : List (Addr × Obj)} (I : Inv X pins σ H s) (h : ∀ p ∈ pins', s.heap.get? p.1 = some p.2 ∧ H p.1 = none ∧ p.1 ≠ X.env.locals ∧ p.1 ∉ X.fs ∧ ∀ v, p.2.data ≠ .cell v) : Inv X pins' σ H s :=
  ⟨I.ok, I.os, I.bare, I.base, I.loc, I.cell, I.free, I.freeC, fun p hp => (List.mem_append.mp hp).elim (fun z => I.pin p (List.mem_append_left _ z)) (h p), I.hok, I.len⟩
theorem nodup_ix {N : List Str} (hN : N.Nodup) {i j : Nat} {x : Str} (a : N[i]? = some x) (b : N[j]? = some x) : i = j := by
  obtain ⟨h1, e1⟩ := List.getElem?_eq_some_iff.mp a
  obtain ⟨h2, e2⟩ := List.getElem?_eq_some_iff.mp b
  exact (List.getElem_inj hN).mp (e1.trans e2.symm)
theorem store_ok2 {M : Model} {A : Around} {E : Value → Shared → Prop} {i : Nat} {x : Str} {v : V} {u : Value} {Q : Unit → Shared → Prop} (I : Inv X pins σ H s) (hN : X.N.Nodup) (hi : X.N[i]? = some x) (hx : Loc X.env.scope x) (r : RelV v u)
    (h : ∀ s', Inv X pins (σ.set i (some v)) H s' → (∃ a, Heap.SameBut a s.heap s'.heap ∧ (a = X.env.locals ∨ X.env.cells.lookup x = some a)) → Q () s') (hf : X.fn x = true ∨ X.env.scope.names.lookup x = some .local := by first | exact .inl rfl | exact .inr rfl | assumption) : wpAny M A (storeName X.env x u) Q E s := by
  obtain ⟨m, hn, hl⟩ := id I.loc
  have hcls : (X.env.scope.kind == .class || (X.env.scope.kind == .module && X.env.locals != X.env.globals)) = false := by rw [I.ok.kind]; rfl
  have hiσ : i < σ.length := by rw [I.len]; exact (List.getElem?_eq_some_iff.mp hi).1
  have cne := I.cne
  have tracked : ∀ {a : Addr} {h' : Heap}, (∃ o, s.heap.get? a = some o ∧ H a = none) → Heap.SameBut a s.heap h' → HOk X.prog X.w H h' := fun {a h'} ha hs b ob e => by
    obtain ⟨_, _, hfree⟩ := ha
    refine (I.hok b ob e).stay (fun c w' hc q => (hs.2 c ?_).trans q) (fun _ q => q) fun _ _ q => q
    rintro rfl
    rcases hc with rfl | hc
    · rw [hfree] at e; cases e
    · rw [hfree] at hc; cases hc
  rcases hx with hk | hk
  · refine wpAny_storeName_local hk hn (fun h' hn' hs => ?_) hcls
    obtain ⟨oL, _, _, hoL, _⟩ := id hn
    refine h _ ⟨I.ok, I.os, I.bare, ⟨fun b o e n hb hx => ?_, fun b o e n hb hx => ?_, I.base.free, fun b o e hx => ?_, I.base.tups, I.base.frzs, I.base.tbls⟩, ⟨_, hn', fun j y v' e1 e2 e3 => ?_⟩, fun y c e => ?_, I.free, I.freeC, fun p hp => ?_, tracked ⟨oL, hoL, I.free⟩ hs, by simpa using I.len⟩ ⟨_, hs, .inl rfl⟩
    · exact (hs.2 b (Nat.ne_of_lt (Nat.lt_of_lt_of_le (Heap.lt_size e) I.ok.above))).trans (I.base.keep b o e n hb hx)
    · obtain ⟨sl, e1⟩ := I.base.slot b o e n hb hx
      exact ⟨sl, (hs.2 b (Nat.ne_of_lt (Nat.lt_of_lt_of_le (Heap.lt_size e) I.ok.above))).trans e1⟩
    · obtain ⟨o', e1⟩ := I.base.there b o e hx
      exact ⟨o', (hs.2 b (Nat.ne_of_lt (Nat.lt_of_lt_of_le (Heap.lt_size e) I.ok.above))).trans e1⟩
    · by_cases hj : j = i
      · subst hj
        rw [hi] at e1; cases e1
        rw [List.getElem?_set_self hiσ] at e2
        cases e2
        exact ⟨u, r, .inl ⟨hk, by simp⟩⟩
      · rw [List.getElem?_set_ne (Ne.symm hj)] at e2
        obtain ⟨u', r', q⟩ := hl j y v' e1 e2 e3
        refine ⟨u', r', ?_⟩
        rcases q with ⟨k, e⟩ | ⟨k, c, e, z⟩
        · refine .inl ⟨k, ?_⟩
          have : y ≠ x := fun e => hj (nodup_ix hN e1 (e ▸ hi))
          simp [this, e]
        · exact .inr ⟨k, c, e, z.sameBut hs (cne y c e)⟩
    · obtain ⟨w', z⟩ := I.cell y c e
      exact ⟨w', z.sameBut hs (cne y c e)⟩
    · obtain ⟨e, n, ne, nf, d⟩ := I.pin p hp
      exact ⟨(hs.2 p.1 ne).trans e, n, ne, nf, d⟩
  · have hfn : X.fn x = true := by
      rcases hf with z | z
      · exact z
      · rw [z] at hk; cases hk
    obtain ⟨c, hc⟩ := I.ok.has x (.inl hk)
    obtain ⟨w', z⟩ := I.cell x c hc
    refine wpAny_storeName_cell I.ok.kind hk hc z (fun h' hc' hs => ?_)
    obtain ⟨oc, hoc, hocd⟩ := id z
    refine h { s with heap := h' } ⟨I.ok, I.os, I.bare, ⟨fun b o e n hb hx => ?_, fun b o e n hb hx => ?_, I.base.free, fun b o e hx => ?_, I.base.tups, I.base.frzs, I.base.tbls⟩, ⟨m, hn.sameBut hs (Ne.symm (cne x c hc)), fun j y v' e1 e2 e3 => ?_⟩, fun y c' e => ?_, I.free, I.freeC, fun p hp => ?_, tracked ⟨oc, hoc, I.freeC x c hc⟩ hs, by simpa using I.len⟩ ⟨c, hs, .inr hc⟩
    · exact (hs.2 b (Nat.ne_of_lt (Nat.lt_of_lt_of_le (Heap.lt_size e) (I.ok.cab x c hfn hc)))).trans (I.base.keep b o e n hb hx)
    · obtain ⟨sl, e1⟩ := I.base.slot b o e n hb hx
      exact ⟨sl, (hs.2 b (Nat.ne_of_lt (Nat.lt_of_lt_of_le (Heap.lt_size e) (I.ok.cab x c hfn hc)))).trans e1⟩
    · obtain ⟨o', e1⟩ := I.base.there b o e hx
      exact ⟨o', (hs.2 b (Nat.ne_of_lt (Nat.lt_of_lt_of_le (Heap.lt_size e) (I.ok.cab x c hfn hc)))).trans e1⟩
    · by_cases hj : j = i
      · subst hj
        rw [hi] at e1; cases e1
        rw [List.getElem?_set_self hiσ] at e2
        cases e2
        exact ⟨u, r, .inr ⟨.inl hk, c, hc, hc'⟩⟩
      · rw [List.getElem?_set_ne (Ne.symm hj)] at e2
        obtain ⟨u', r', q⟩ := hl j y v' e1 e2 e3
        refine ⟨u', r', ?_⟩
        rcases q with q | ⟨k, c', e, z'⟩
        · exact .inl q
        · refine .inr ⟨k, c', e, z'.sameBut hs ?_⟩
          rintro rfl
          exact hj (nodup_ix hN e1 (I.ok.inj _ _ _ e hc ▸ hi))
    · by_cases hcc : c' = c
      · subst hcc; exact ⟨_, hc'⟩
      · obtain ⟨w2, z2⟩ := I.cell y c' e
        exact ⟨w2, z2.sameBut hs hcc⟩
    · obtain ⟨e, n, ne, nf, d⟩ := I.pin p hp
      refine ⟨(hs.2 p.1 ?_).trans e, n, ne, nf, d⟩
      intro q
      rw [q, hoc] at e
      have q' : oc = p.2 := Option.some.inj e
      exact d w' (by rw [← q']; exact hocd)
theorem store_ok {M : Model} {A : Around} {E : Value → Shared → Prop} {i : Nat} {x : Str} {v : V} {u : Value} {Q : Unit → Shared → Prop} (I : Inv X pins σ H s) (hN : X.N.Nodup) (hi : X.N[i]? = some x) (hx : Loc X.env.scope x) (r : RelV v u)
    (h : ∀ s', Inv X pins (σ.set i (some v)) H s' → Q () s') (hf : X.fn x = true ∨ X.env.scope.names.lookup x = some .local := by first | exact .inl rfl | exact .inr rfl | assumption) : wpAny M A (storeName X.env x u) Q E s :=
  store_ok2 I hN hi hx r (fun s' I' _ => h s' I') hf
theorem Inv.call' {s' : Shared} {ch : List Addr} (I : Inv X pins σ H s) (ho : s'.os = s.os) (u : Un (frs X.stack) ch H H' s.heap s'.heap) (hok : HOk X.prog X.w H' s'.heap) (hg : AllBare s'.gens)
    (hch : ∀ b ∈ ch, (b ∈ X.ex ∨ X.s₀.heap.objs.size ≤ b) ∧ b ≠ X.env.locals ∧ (∀ x c, X.env.cells.lookup x = some c → c ≠ b) ∧ ∀ p ∈ X.pn ++ pins, p.1 ≠ b) : Inv X pins σ H' s' := by
  obtain ⟨h', g', d', t', o'⟩ := s'
  have e : o' = s.os := ho
  subst e
  exact I.call (g' := g') (t' := t') (d' := d') u hok hg hch
end
noncomputable abbrev XK := Value → Option Addr → Hp → Prop
noncomputable abbrev St := List (Option V)
noncomputable abbrev VK := V → Hp → Prop
noncomputable abbrev TE := St → Hp → VK → Prop
noncomputable abbrev TT := St → Hp → (Bool → Hp → Prop) → Prop
noncomputable abbrev TA := St → Hp → (List V → Hp → Prop) → Prop
structure Ends where
  nx : St → Hp → Prop
  rt : VK
  bk : St → Hp → Prop := fun _ _ => False
  ct : St → Hp → Prop := fun _ _ => False
noncomputable abbrev TS := Ends → St → Hp → Prop
def EP (X : Cx) (pins : List (Addr × Obj)) (σ : St) (Q : VK) (u : Value) (s' : Shared) : Prop := ∃ v H', Inv X pins σ H' s' ∧ RelV v u ∧ Q v H'
def TP (X : Cx) (pins : List (Addr × Obj)) (σ : St) (Q : Bool → Hp → Prop) (b : Bool) (s' : Shared) : Prop := ∃ H', Inv X pins σ H' s' ∧ Q b H'
def AP (X : Cx) (pins : List (Addr × Obj)) (σ : St) (Q : List V → Hp → Prop) (us : List Value) (s' : Shared) : Prop := ∃ vs H', Inv X pins σ H' s' ∧ Vals vs us ∧ Q vs H'
def SP (X : Cx) (pins : List (Addr × Obj)) (D : Ends) (f : Flow) (s' : Shared) : Prop :=
  match f with
  | .next => ∃ σ' H', Inv X pins σ' H' s' ∧ D.nx σ' H'
  | .brk => ∃ σ' H', Inv X pins σ' H' s' ∧ D.bk σ' H'
  | .cont => ∃ σ' H', Inv X pins σ' H' s' ∧ D.ct σ' H'
  | .ret u => ∃ v σ' H', Inv X pins σ' H' s' ∧ RelV v u ∧ D.rt v H'
def PE (X : Cx) (e : Expr) (t : TE) : Prop :=
  ∀ (pins : List (Addr × Obj)) (s : Shared) (σ : St) (H : Hp) (Q : VK), Inv X pins σ H s → t σ H Q → wpAny (model X.prog X.w) X.A (eval e X.env) (EP X pins σ Q) X.xe s
def PT (X : Cx) (e : Expr) (t : TT) : Prop :=
  ∀ (pins : List (Addr × Obj)) (s : Shared) (σ : St) (H : Hp) (Q : Bool → Hp → Prop), Inv X pins σ H s → t σ H Q → wpAny (model X.prog X.w) X.A (isTrue e X.env (eval e X.env)) (TP X pins σ Q) X.xe s
def PW (X : Cx) (e : Expr) (t : TT) : Prop :=
  ∀ (whole : Sem Value) (pins : List (Addr × Obj)) (s : Shared) (σ : St) (H : Hp) (Q : Bool → Hp → Prop), Inv X pins σ H s → t σ H Q → wpAny (model X.prog X.w) X.A (isTrue e X.env whole) (TP X pins σ Q) X.xe s
theorem PW.pt {X : Cx} {e : Expr} {t : TT} (h : PW X e t) : PT X e t := h _
def PA (X : Cx) (es : List Expr) (t : TA) : Prop :=
  ∀ (pos : Pos) (pins : List (Addr × Obj)) (s : Shared) (σ : St) (H : Hp) (Q : List V → Hp → Prop), Inv X pins σ H s → t σ H Q → wpAny (model X.prog X.w) X.A (spliced (backTo pos (starEach es X.env))) (AP X pins σ Q) X.xe s
def PS (X : Cx) (st : Stmt) (t : TS) : Prop :=
  ∀ (pins : List (Addr × Obj)) (s : Shared) (σ : St) (H : Hp) (D : Ends), Inv X pins σ H s → t D σ H → wpAny (model X.prog X.w) X.A (exec st X.env) (SP X pins D) X.xe s
def PSs (X : Cx) (st : List Stmt) (t : TS) : Prop :=
  ∀ (pins : List (Addr × Obj)) (s : Shared) (σ : St) (H : Hp) (D : Ends), Inv X pins σ H s → t D σ H → wpAny (model X.prog X.w) X.A (execs st X.env) (SP X pins D) X.xe s
theorem thn {α : Type} {t : Sem α} {Q Q' : α → Shared → Prop} {M : Model} {A : Around} {E : Value → Shared → Prop} {s : Shared} (h : wpAny M A t Q E s) (hQ : ∀ a s, Q a s → Q' a s) : wpAny M A t Q' E s := wpAny_mono h hQ fun _ _ x => x
end L2
namespace L2
open PySem PySem.Spec PyProof.Rows
section
variable {X : Cx}
theorem bin {a b : Expr} {ta tb : TE} (ha : PE X a ta) (hb : PE X b tb) {pins : List (Addr × Obj)} {s : Shared} {σ : St} {H : Hp} {R : V → V → Hp → Prop} (I : Inv X pins σ H s) (h : ta σ H fun x H1 => tb σ H1 fun y H2 => R x y H2)
    {α : Type} {Q : α → Shared → Prop} {f : Value → Value → Sem α}
    (hf : ∀ v u s2 x y H2, Inv X pins σ H2 s2 → RelV x v → RelV y u → R x y H2 → wpAny (model X.prog X.w) X.A (f v u) Q X.xe s2) :
    wpAny (model X.prog X.w) X.A (eval a X.env) (fun v s₁ => wpAny (model X.prog X.w) X.A (eval b X.env) (fun u s₂ => wpAny (model X.prog X.w) X.A (f v u) Q X.xe s₂) X.xe s₁) X.xe s := by
  refine thn (ha pins s σ H _ I h) fun v s1 hq_ => ?_
  obtain ⟨x, H1, I1, r1, q1⟩ := hq_
  refine thn (hb pins s1 σ H1 _ I1 q1) fun u s2 hq_ => ?_
  obtain ⟨y, H2, I2, r2, q2⟩ := hq_
  exact hf v u s2 x y H2 I2 r1 r2 q2
noncomputable def tVar (i : Nat) : TE := fun σ H Q => ∃ v, σ[i]? = some (some v) ∧ Q v H
noncomputable def tC (v : V) : TE := fun _ H Q => Q v H
theorem pe_var {i : Nat} {x : Str} {pos : Pos} (hN : X.N[i]? = some x) (hv : Vis X.env.scope x) (hd : (x == ("__debug__" : Str)) = false := by decide) (hcd : (x == ("__classdict__" : Str)) = false := by decide) : PE X (.Name x pos) (tVar i) := by
  intro pins s σ H Q I h
  obtain ⟨v, e, h⟩ := h
  obtain ⟨m, hn, hl⟩ := I.loc
  obtain ⟨u, r, l⟩ := hl i x v hN e hv
  have fin : EP X pins σ Q u s := ⟨v, H, I, r, h⟩
  rcases l with ⟨hk, hm⟩ | ⟨hk, c, hc, hcell⟩
  · exact wpAny_Name (wpAny_loadName_local I.ok.kind hk hn hm fin) hd
  · rcases hk with hk | hk
    · exact wpAny_Name (wpAny_loadName_cell I.ok.kind hk hc hcell fin) hd
    · exact wpAny_Name (wpAny_loadName_free I.ok.kind hk hc hcell fin hcd) hd
theorem pe_int {i j pos} : PE X (.Constant (.int i) j pos) (tC (.int i)) := fun _ _ _ H _ I h => wpAny_Constant_int ⟨.int i, H, I.tok _, ⟨_, rfl⟩, h⟩
theorem pe_bl {b j pos} : PE X (.Constant (.bool b) j pos) (tC (.bl b)) := fun _ _ _ H _ I h => Constant_bool ⟨.bl b, H, I, rfl, h⟩
theorem pe_str {x j pos} : PE X (.Constant (.str x) j pos) (tC (.str x)) := fun _ _ _ H _ I h => Calls.Constant_str ⟨.str x, H, I.tok _, ⟨_, rfl⟩, h⟩
def Gl (X : Cx) (x : Str) : Prop := X.env.kindOf x = some .globalImplicit
theorem ld_glob {E : Value → Shared → Prop} {pins : List (Addr × Obj)} {s : Shared} {σ : St} {H : Hp} {x : Str} {u : Value} {pos : Pos} {Q : Value → Shared → Prop} (I : Inv X pins σ H s) (hg : Gl X x) (hm : X.mg x = some u) (h : Q u s)
    (hd : (x == ("__debug__" : Str)) = false := by decide) : wpAny (model X.prog X.w) X.A (eval (.Name x pos) X.env) Q E s :=
  Calls.Name_function_global I.ok.kind hg (Calls.loadGlobal_global (by rw [I.ok.glob]; exact I.mod.glob.keeps I.bk) hm h) hd
theorem ld_blt {E : Value → Shared → Prop} {pins : List (Addr × Obj)} {s : Shared} {σ : St} {H : Hp} {x : Str} {u : Value} {pos : Pos} {Q : Value → Shared → Prop} (I : Inv X pins σ H s) (hg : Gl X x) (hm : X.mg x = none) (hv : bootBuiltins x = some u) (h : Q u s)
    (hn : x ≠ "__name__" := by decide) (hd : (x == ("__debug__" : Str)) = false := by decide) : wpAny (model X.prog X.w) X.A (eval (.Name x pos) X.env) Q E s := by
  obtain ⟨mb, h1, h2⟩ := I.mod.blt
  exact Calls.Name_function_global I.ok.kind hg (Calls.loadGlobal_builtin (by rw [I.ok.glob]; exact I.mod.glob.keeps I.bk) hm (by rw [I.ok.blt]; exact h1.keeps I.bk) ((h2 x hn).trans hv) h) hd
theorem pe_glob {x : Str} {v : V} {u : Value} {pos : Pos} (hg : Gl X x) (hm : X.mg x = some u) (r : RelV v u) (hd : (x == ("__debug__" : Str)) = false := by decide) : PE X (.Name x pos) (tC v) :=
  fun _ _ _ H _ I h => ld_glob I hg hm ⟨v, H, I, r, h⟩ hd
variable {a b : Expr} {ta tb : TE} {pos : Pos}
def PC (X : Cx) (op : CmpOp) (a b : Expr) (t : TE) : Prop :=
  ∀ (pins : List (Addr × Obj)) (s : Shared) (σ : St) (H : Hp) (Q : VK), Inv X pins σ H s → t σ H Q →
    wpAny (model X.prog X.w) X.A (eval a X.env) (fun v s₁ => wpAny (model X.prog X.w) X.A (eval b X.env) (fun u s₂ => wpAny (model X.prog X.w) X.A (compareOp op v u) (EP X pins σ Q) X.xe s₂) X.xe s₁) X.xe s
theorem nobehind (b : Expr) {op : CmpOp} (h : op ≠ .In) (h2 : op ≠ .NotIn) : behindInMarks op b = false := by
  have e1 : (op == CmpOp.In) = false := by cases op <;> first | rfl | exact absurd rfl h
  have e2 : (op == CmpOp.NotIn) = false := by cases op <;> first | rfl | exact absurd rfl h2
  cases b <;> simp [behindInMarks, e1, e2]
noncomputable def tB (t : TE) : TT := fun σ H Q => t σ H fun x H1 => ∃ c, x = .bl c ∧ Q c H1
theorem pt_cmp {op : CmpOp} {t : TE} (h : PC X op a b t) (h1 : behindInMarks op b = false := by first | exact nobehind _ (by decide) (by decide) | rfl) : PT X (.Compare a [op] [b] pos) (tB t) := by
  intro pins s σ H Q I hw
  refine wpAny_isTrue_Compare1 (thn (h pins s σ H _ I hw) fun v s1 h1 => thn h1 fun u s2 h2 => thn h2 fun c s3 ⟨x, H1, I1, r1, q1⟩ => ?_) h1
  obtain ⟨d, rfl, q⟩ := q1
  cases r1
  exact wpAny_truthy_bool ⟨H1, I1, q⟩
variable {tA tB' : TT} {rest : List Expr}
noncomputable def tAnd (t u : TT) : TT := fun σ H Q => t σ H fun c H1 => if c = true then u σ H1 Q else Q false H1
noncomputable def tOr (t u : TT) : TT := fun σ H Q => t σ H fun c H1 => if c = true then Q true H1 else u σ H1 Q
noncomputable def tNot (t : TT) : TT := fun σ H Q => t σ H fun c H1 => Q (!c) H1
theorem pw_and1 (ha : PT X a tA) : PW X (.BoolOp .And [a] pos) tA := by
  intro wh pins s σ H Q I h
  refine isTrue_and (thn (ha pins s σ H Q I h) fun c s1 e => ?_)
  cases c with
  | true => exact isTrue_and_nil e
  | false => exact e
theorem pw_or1 (ha : PT X a tA) : PW X (.BoolOp .Or [a] pos) tA := by
  intro wh pins s σ H Q I h
  refine isTrue_or (thn (ha pins s σ H Q I h) fun c s1 e => ?_)
  cases c with
  | false => exact isTrue_or_nil e
  | true => exact e
theorem pw_and (ha : PT X a tA) (hb : PW X (.BoolOp .And (b :: rest) pos) tB') : PW X (.BoolOp .And (a :: b :: rest) pos) (tAnd tA tB') := by
  intro wh pins s σ H Q I h
  refine isTrue_and (thn (ha pins s σ H _ I h) fun c s1 hq_ => ?_)
  obtain ⟨H1, I1, q1⟩ := hq_
  cases c with
  | true => exact hb wh pins s1 σ H1 Q I1 q1
  | false => exact ⟨H1, I1, q1⟩
theorem pw_or (ha : PT X a tA) (hb : PW X (.BoolOp .Or (b :: rest) pos) tB') : PW X (.BoolOp .Or (a :: b :: rest) pos) (tOr tA tB') := by
  intro wh pins s σ H Q I h
  refine isTrue_or (thn (ha pins s σ H _ I h) fun c s1 hq_ => ?_)
  obtain ⟨H1, I1, q1⟩ := hq_
  cases c with
  | true => exact ⟨H1, I1, q1⟩
  | false => exact hb wh pins s1 σ H1 Q I1 q1
theorem pt_not (ha : PT X a tA) : PT X (.UnaryOp .Not a pos) (tNot tA) := by
  intro pins s σ H Q I h
  exact isTrue_not (ha pins s σ H (fun c H1 => Q (!c) H1) I h)
noncomputable def tAndV (ta tb : TE) : TE := fun σ H Q => ta σ H fun x H1 => ∃ c, x = .bl c ∧ if c = true then tb σ H1 Q else Q (.bl false) H1
noncomputable def tOrV (ta tb : TE) : TE := fun σ H Q => ta σ H fun x H1 => ∃ c, x = .bl c ∧ if c = true then Q (.bl true) H1 else tb σ H1 Q
theorem pe_one {op} {t : TE} (h : PE X a t) : PE X (.BoolOp op [a] pos) t := fun pins s σ H Q I hw => BoolOp_one (h pins s σ H Q I hw)
theorem pe_and (ha : PE X a ta) (hb : PE X (.BoolOp .And (b :: rest) pos) tb) : PE X (.BoolOp .And (a :: b :: rest) pos) (tAndV ta tb) := by
  intro pins s σ H Q I h
  refine BoolOp_and (thn (ha pins s σ H _ I h) fun v s1 hq_ => ?_)
  obtain ⟨x, H1, I1, r1, q1⟩ := hq_
  obtain ⟨c, rfl, q1⟩ := q1
  cases r1
  refine wpAny_truthy_bool ?_
  cases c with
  | true => exact hb pins s1 σ H1 Q I1 q1
  | false => exact ⟨.bl false, H1, I1, rfl, q1⟩
theorem pe_or (ha : PE X a ta) (hb : PE X (.BoolOp .Or (b :: rest) pos) tb) : PE X (.BoolOp .Or (a :: b :: rest) pos) (tOrV ta tb) := by
  intro pins s σ H Q I h
  refine BoolOp_or (thn (ha pins s σ H _ I h) fun v s1 hq_ => ?_)
  obtain ⟨x, H1, I1, r1, q1⟩ := hq_
  obtain ⟨c, rfl, q1⟩ := q1
  cases r1
  refine wpAny_truthy_bool ?_
  cases c with
  | false => exact hb pins s1 σ H1 Q I1 q1
  | true => exact ⟨.bl true, H1, I1, rfl, q1⟩
noncomputable def tIf (t : TT) (ta tb : TE) : TE := fun σ H Q => t σ H fun c H1 => if c = true then ta σ H1 Q else tb σ H1 Q
theorem pe_ifExp {c : Expr} (hc : PT X c tA) (ha : PE X a ta) (hb : PE X b tb) : PE X (.IfExp c a b pos) (tIf tA ta tb) := by
  intro pins s σ H Q I h
  refine wpAny_IfExp (thn (hc pins s σ H _ I h) fun d s1 hq_ => ?_)
  obtain ⟨H1, I1, q1⟩ := hq_
  cases d with
  | true => exact ha pins s1 σ H1 Q I1 q1
  | false => exact hb pins s1 σ H1 Q I1 q1
end
end L2
namespace L2
open PySem PySem.Spec PyProof.Rows
def SqL (K : PySem.W.Frag) (H : Hp) (a : Addr) (xs : List V) : Prop :=
  Rd H a (.lst xs) ∨
    ∃ (o : Obj) (its : Array Value) (n : Nat), K.lookup a = some o ∧ o.cls = .type "list" ∧ o.dict = none ∧ o.data = .seq its n ∧ its.size ≤ sizeLine ∧ Vals xs its.toList
def SqT (K : PySem.W.Frag) (H : Hp) (a : Addr) (xs : List V) : Prop :=
  Rd H a (.tup xs) ∨
    ∃ (o : Obj) (its : Array Value) (n : Nat), K.lookup a = some o ∧ o.cls = .type "tuple" ∧ o.data = .seq its n ∧ its.size ≤ sizeLine ∧ Vals xs its.toList
noncomputable def absV : Value → Option V
  | .none => some .non
  | .bool b => some (.bl b)
  | .int i _ => some (.int i)
  | .str x _ => some (.str x)
  | .bytes b _ => some (.byt b)
  | .float b _ => some (.flt b)
  | .ref a => some (.ref a)
  | .type n => some (.ty n)
  | _ => none
theorem RelV.abs {x : V} {u : Value} (r : RelV x u) : absV u = some x := by
  cases x with
  | non => cases r; rfl
  | bl _ => cases r; rfl
  | int _ => obtain ⟨t, rfl⟩ := r; rfl
  | str _ => obtain ⟨t, rfl⟩ := r; rfl
  | byt _ => obtain ⟨t, rfl⟩ := r; rfl
  | flt _ => obtain ⟨t, rfl⟩ := r; rfl
  | ref _ => cases r; rfl
  | ty _ => cases r; rfl
theorem RelV.inj {x y : V} {u : Value} (r : RelV x u) (q : RelV y u) : x = y := Option.some.inj (r.abs.symm.trans q.abs)
theorem Vals.inj {xs ys : List V} {us : List Value} (h : Vals xs us) (k : Vals ys us) : xs = ys := by
  induction h generalizing ys with
  | nil => cases k; rfl
  | cons r _ ih => cases k with | cons r' t' => rw [r.inj r', ih t']
section
variable {X : Cx} {pins : List (Addr × Obj)} {σ : St} {H : Hp} {s : Shared} {a : Addr} {xs ys : List V}
theorem SqL.of {K : PySem.W.Frag} (h : H a = some (.lst xs)) : SqL K H a xs := .inl (.inl h)
theorem SqT.of {K : PySem.W.Frag} (h : H a = some (.tup xs)) : SqT K H a xs := .inl (.inl h)
theorem Inv.list (I : Inv X pins σ H s) (h : SqL X.K H a xs) : ∃ its : List Value, Vals xs its ∧ PlainL s.heap a its.toArray ∧ xs.length ≤ sizeLine := by
  rcases h with h | ⟨o, its, n, hk, hc, hd, hs, hz, r⟩
  · obtain ⟨z, its, n, r, e⟩ := h.ok I.hok
    exact ⟨its, r, ⟨_, n, e, rfl, rfl, rfl⟩, z⟩
  · refine ⟨its.toList, r, ⟨o, n, I.kIn a o hk, hc, hd, by simpa using hs⟩, ?_⟩
    have e := r.length
    simp only [Array.length_toList] at e
    omega
theorem Inv.tuple (I : Inv X pins σ H s) (h : SqT X.K H a xs) : ∃ its : List Value, Vals xs its ∧ IsTup s.heap a its.toArray ∧ xs.length ≤ sizeLine := by
  rcases h with h | ⟨o, its, n, hk, hc, hs, hz, r⟩
  · obtain ⟨z, its, r, p⟩ := h.ok I.hok
    exact ⟨its, r, p, z⟩
  · refine ⟨its.toList, r, ⟨o, I.kIn a o hk, hc, n, by simpa using hs⟩, ?_⟩
    have e := r.length
    simp only [Array.length_toList] at e
    omega
theorem Inv.list_inj (I : Inv X pins σ H s) (h : SqL X.K H a xs) (h' : SqL X.K H a ys) : xs = ys := by
  obtain ⟨its, r, ⟨o, n, e, _, _, d⟩, _⟩ := I.list h
  obtain ⟨its', r', ⟨o', n', e', _, _, d'⟩, _⟩ := I.list h'
  rw [e] at e'; cases e'
  rw [d] at d'
  injection d' with d1 _
  have : its = its' := by simpa using congrArg Array.toList d1
  subst this
  exact r.inj r'
theorem Inv.tuple_inj (I : Inv X pins σ H s) (h : SqT X.K H a xs) (h' : SqT X.K H a ys) : xs = ys := by
  obtain ⟨its, r, ⟨o, e, _, n, d⟩, _⟩ := I.tuple h
  obtain ⟨its', r', ⟨o', e', _, n', d'⟩, _⟩ := I.tuple h'
  rw [e] at e'; cases e'
  rw [d] at d'
  injection d' with d1 _
  have : its = its' := by simpa using congrArg Array.toList d1
  subst this
  exact r.inj r'
end
noncomputable abbrev Cx.wish (X : Cx) (E : Value → Shared → Prop) : Cx := { X with xe := E }
noncomputable abbrev Cx.nox (X : Cx) : Cx := X.wish fun _ _ => False
theorem Cx.Ok.wish {X : Cx} (ok : X.Ok) (E : Value → Shared → Prop) : (X.wish E).Ok :=
  ⟨ok.mod, ok.kind, ok.glob, ok.blt, ok.above, ok.inj, ok.has, ok.cab, ok.hd, ok.frames, ok.stk, ok.exf, ok.bs, ok.bsz, ok.noex, ok.exfs, ok.funs, ok.frf⟩
theorem Cx.Ok.unwish {X : Cx} {E : Value → Shared → Prop} (ok : (X.wish E).Ok) : X.Ok :=
  ⟨ok.mod, ok.kind, ok.glob, ok.blt, ok.above, ok.inj, ok.has, ok.cab, ok.hd, ok.frames, ok.stk, ok.exf, ok.bs, ok.bsz, ok.noex, ok.exfs, ok.funs, ok.frf⟩
section
variable {X : Cx} {pins : List (Addr × Obj)} {σ : St} {H : Hp} {s : Shared} {E : Value → Shared → Prop}
theorem Inv.wish (I : Inv X pins σ H s) (E : Value → Shared → Prop) : Inv (X.wish E) pins σ H s := ⟨I.ok.wish E, I.os, I.bare, I.base, I.loc, I.cell, I.free, I.freeC, I.pin, I.hok, I.len⟩
theorem Inv.unwish (I : Inv (X.wish E) pins σ H s) : Inv X pins σ H s := ⟨I.ok.unwish, I.os, I.bare, I.base, I.loc, I.cell, I.free, I.freeC, I.pin, I.hok, I.len⟩
theorem SP.unwish {D : Ends} {f : Flow} {s' : Shared} (h : SP (X.wish E) pins D f s') : SP X pins D f s' := by
  cases f with
  | next => obtain ⟨σ', H', I, q⟩ := h; exact ⟨σ', H', I.unwish, q⟩
  | brk => obtain ⟨σ', H', I, q⟩ := h; exact ⟨σ', H', I.unwish, q⟩
  | cont => obtain ⟨σ', H', I, q⟩ := h; exact ⟨σ', H', I.unwish, q⟩
  | ret u => obtain ⟨v, σ', H', I, r, q⟩ := h; exact ⟨v, σ', H', I.unwish, r, q⟩
theorem PSs.nox {st : List Stmt} {t : TS} (h : PSs X.nox st t) : PSs X st t := fun pins s σ H D I hw =>
  wpAny_mono (h pins s σ H D (I.wish _) hw) (fun _ _ q => q.unwish) fun _ _ z => False.elim z
end
section
variable {X : Cx} {st : Stmt} {rest : List Stmt} {t u : TS} {e : Expr} {te : TE} {pos : Pos}
noncomputable def tNext : TS := fun D σ H => D.nx σ H
noncomputable def tSeq (t u : TS) : TS := fun D σ H => t { D with nx := u D } σ H
theorem pss_nil : PSs X [] tNext := fun _ _ σ H _ I h => wpAny_execs_nil ⟨σ, H, I, h⟩
theorem pss_cons (h1 : PS X st t) (h2 : PSs X rest u) : PSs X (st :: rest) (tSeq t u) := by
  intro pins s σ H D I h
  refine wpAny_execs_cons (thn (h1 pins s σ H { D with nx := u D } I h) fun f s1 q => ?_)
  cases f with
  | next =>
    obtain ⟨σ', H', I', q⟩ := q
    exact h2 pins s1 σ' H' D I' q
  | ret v => exact q
  | brk => exact q
  | cont => exact q
theorem pss_one (h1 : PS X st t) : PSs X [st] t := by
  intro pins s σ H D I h
  refine wpAny_execs_cons (thn (h1 pins s σ H D I h) fun f s1 q => ?_)
  cases f with
  | next => exact wpAny_execs_nil q
  | ret v => exact q
  | brk => exact q
  | cont => exact q
theorem Inv.quiet {pins : List (Addr × Obj)} {σ : St} {H : Hp} {s : Shared} (I : Inv X pins σ H s) : interactive X.env = false := by simp [interactive, I.ok.kind]
noncomputable def tDrop (te : TE) : TS := fun D σ H => te σ H fun _ H1 => D.nx σ H1
theorem ps_expr (he : PE X e te) (hs : swapsWith e none pos.line X.env = pure false := by rfl) : PS X (.Expr e pos) (tDrop te) := by
  intro pins s σ H D I h
  exact wpAny_Expr_any (thn (he pins s σ H _ I h) fun v s1 ⟨x, H1, I1, r1, q1⟩ => ⟨σ, H1, I1, q1⟩) I.quiet hs
noncomputable def tRet (te : TE) : TS := fun D σ H => te σ H D.rt
theorem ps_ret (he : PE X e te) : PS X (.Return (some e) pos) (tRet te) := by
  intro pins s σ H D I h
  exact wpAny_Return_some (thn (he pins s σ H _ I h) fun v s1 ⟨x, H1, I1, r1, q1⟩ => ⟨x, σ, H1, I1, r1, q1⟩)
noncomputable def tIfS (c : TT) (t u : TS) : TS := fun D σ H => c σ H fun b H1 => if b = true then t D σ H1 else u D σ H1
theorem ps_if {c : Expr} {a b : List Stmt} {tc : TT} (hc : PT X c tc) (ha : PSs X a t) (hb : PSs X b u) : PS X (.If c a b pos) (tIfS tc t u) := by
  intro pins s σ H D I h
  refine wpAny_If (thn (hc pins s σ H _ I h) fun d s1 hq_ => ?_)
  obtain ⟨H1, I1, q1⟩ := hq_
  cases d with
  | true => exact ha pins s1 σ H1 D I1 q1
  | false => exact hb pins s1 σ H1 D I1 q1
end
noncomputable abbrev TG := V → St → Hp → (St → Hp → Prop) → Prop
noncomputable abbrev TGs := List V → St → Hp → (St → Hp → Prop) → Prop
def PG (X : Cx) (target : Expr) (t : TG) : Prop :=
  ∀ (pins : List (Addr × Obj)) (s : Shared) (σ : St) (H : Hp) (v : V) (u : Value) (Q : St → Hp → Prop), Inv X pins σ H s → RelV v u → t v σ H Q →
    wpAny (model X.prog X.w) X.A (assign target X.env u) (fun _ s' => ∃ σ' H', Inv X pins σ' H' s' ∧ Q σ' H') X.xe s
def PGs (X : Cx) (ts : List Expr) (t : TGs) : Prop :=
  ∀ (pins : List (Addr × Obj)) (s : Shared) (σ : St) (H : Hp) (vs : List V) (us : List Value) (Q : St → Hp → Prop), Inv X pins σ H s → Vals vs us → t vs σ H Q →
    wpAny (model X.prog X.w) X.A (assignInOrder ((assignEach ts X.env).map (·.2)) us) (fun _ s' => ∃ σ' H', Inv X pins σ' H' s' ∧ Q σ' H') X.xe s
noncomputable abbrev TSet := V → V → V → Hp → (Hp → Prop) → Prop
def PSet (X : Cx) (t : TSet) : Prop :=
  ∀ (pins : List (Addr × Obj)) (s : Shared) (σ : St) (H : Hp) (o i v : V) (ov iv u : Value) (Q : Hp → Prop), Inv X pins σ H s → RelV o ov → RelV i iv → RelV v u → t o i v H Q →
    wpAny (model X.prog X.w) X.A (setItem ov iv u) (fun _ s' => ∃ H', Inv X pins σ H' s' ∧ Q H') X.xe s
section
variable {X : Cx} {pos : Pos}
noncomputable def gName (i : Nat) : TG := fun v σ H Q => Q (σ.set i (some v)) H
theorem pg_name {i : Nat} {x : Str} (hN : X.N.Nodup) (hi : X.N[i]? = some x) (hx : Loc X.env.scope x) (hf : X.fn x = true ∨ X.env.scope.names.lookup x = some .local := by first | exact .inl rfl | exact .inr rfl | assumption) : PG X (.Name x pos) (gName i) := by
  intro pins s σ H v u Q I r h
  exact wpAny_assign_Name (store_ok I hN hi hx r (fun s' I' => ⟨_, H, I', h⟩) hf)
noncomputable def gNil : TGs := fun vs σ H Q => vs = [] ∧ Q σ H
noncomputable def gCons (t : TG) (u : TGs) : TGs := fun vs σ H Q => ∃ v r, vs = v :: r ∧ t v σ H fun σ' H' => u r σ' H' Q
theorem pgs_nil : PGs X [] gNil := by
  intro pins s σ H vs us Q I r h
  obtain ⟨e, h⟩ := h
  subst e
  cases r
  exact assignInOrder_nil ⟨σ, H, I, h⟩
theorem pgs_cons {e : Expr} {es : List Expr} {t : TG} {u : TGs} (h1 : PG X e t) (h2 : PGs X es u)
    (hs : (assignEach (e :: es) X.env).map (·.2) = assign e X.env :: (assignEach es X.env).map (·.2) := by rfl) : PGs X (e :: es) (gCons t u) := by
  intro pins s σ H vs us Q I r h
  obtain ⟨v, vr, e1, h⟩ := h
  subst e1
  cases r with
  | cons r rr =>
    rw [hs]
    refine assignInOrder_cons (thn (h1 pins s σ H _ _ _ I r h) fun _ s1 hq_ => ?_)
    obtain ⟨σ1, H1, I1, q1⟩ := hq_
    exact h2 pins s1 σ1 H1 _ _ Q I1 rr q1
noncomputable def gTup (K : PySem.W.Frag) (n : Nat) (t : TGs) : TG := fun v σ H Q => ∃ a xs, v = .ref a ∧ SqT K H a xs ∧ xs.length = n ∧ t xs σ H Q
theorem pg_tup {es : List Expr} {k : Nat} {t : TGs} {n : Nat} (hc : X.calm = true) (h : PGs X es t)
    (hn : (assignEach es X.env).length = n := by rfl) (hst : (assignEach es X.env).findIdx? (·.1) = none := by rfl) : PG X (.Tuple es k pos) (gTup X.K n t) := by
  intro pins s σ H v u Q I r hw
  obtain ⟨a, xs, e1, hq, hl, hw⟩ := hw
  subst e1
  cases r
  obtain ⟨its, rv, ht, hz⟩ := I.tuple hq
  refine assign_Tuple_tuple (I.ok.hd hc) ht (by simp [hn, ← hl, rv.length]) hst fun h' hx => ?_
  have I1 : Inv X pins σ H { s with heap := h' } := I.kept (t' := s.toks) fun b o e => hx b o (Nat.ne_of_lt (Heap.lt_size e)) e
  exact h pins _ σ H xs _ Q I1 (by simpa using rv) hw
noncomputable def gSub (to ti : TE) (t : TSet) : TG := fun v σ H Q => to σ H fun o H1 => ti σ H1 fun i H2 => t o i v H2 fun H3 => Q σ H3
theorem pg_sub {o i : Expr} {to ti : TE} {t : TSet} (ho : PE X o to) (hi : PE X i ti) (hs : PSet X t)
    (ha : ∀ v, assign (.Subscript o i pos) X.env v = (do
      let ov ← holding [v] (eval o X.env)
      let iv ← holding [v, ov] (eval i X.env)
      standAt pos
      holding [v, ov, iv] (setItem ov iv v)
      release [v, ov, iv] []) := by intro _; rfl) : PG X (.Subscript o i pos) (gSub to ti t) := by
  intro pins s σ H v u Q I r h
  rw [ha]
  refine wpAny_bind (wpAny_holding (thn (ho pins s σ H _ I h) fun ov s1 hq_ => ?_))
  obtain ⟨x, H1, I1, r1, q1⟩ := hq_
  refine wpAny_bind (wpAny_holding (thn (hi pins s1 σ H1 _ I1 q1) fun iv s2 hq_ => ?_))
  obtain ⟨y, H2, I2, r2, q2⟩ := hq_
  refine wpAny_bind (wpAny_standAt (wpAny_bind (wpAny_holding (thn (hs pins s2 σ H2 x y v ov iv u _ I2 r1 r2 r q2) fun _ s3 hq_ => ?_))))
  obtain ⟨H3, I3, q3⟩ := hq_
  exact wpAny_release ⟨σ, H3, I3, q3⟩
noncomputable def tAsg (te : TE) (g : TG) : TS := fun D σ H => te σ H fun x H1 => g x σ H1 D.nx
theorem ps_asg {tg e : Expr} {te : TE} {g : TG} (he : PE X e te) (hg : PG X tg g) (hs : swapsWithSole [tg] e pos.line X.env = pure false := by rfl) (hw : swappedStores [tg] e X.env = pure none := by rfl)
    (h1 : (assignEach [tg] X.env).map (·.2) = [assign tg X.env] := by rfl) : PS X (.Assign [tg] e pos) (tAsg te g) := by
  intro pins s σ H D I h
  refine wpAny_Assign_stores (thn (he pins s σ H _ I h) fun v s1 ⟨x, H1, I1, r1, q1⟩ => ?_) hs hw
  rw [h1]
  exact thn (hg pins s1 σ H1 x v _ I1 r1 q1) fun _ s2 q => q
theorem ps_set {i : Nat} {x : Str} {e : Expr} {te : TE} {pos' : Pos} (hN : X.N.Nodup) (hi : X.N[i]? = some x) (hx : Loc X.env.scope x) (he : PE X e te) (hs : swapsWith e (some (.Name x pos')) pos.line X.env = pure false := by rfl) (hf : X.fn x = true ∨ X.env.scope.names.lookup x = some .local := by first | exact .inl rfl | exact .inr rfl | assumption) :
    PS X (.Assign [.Name x pos'] e pos) (tAsg te (gName i)) := by
  intro pins s σ H D I h
  refine wpAny_Assign_Name (thn (he pins s σ H _ I h) fun v s1 ⟨y, H1, I1, r1, q1⟩ => ?_) hs
  exact store_ok I1 hN hi hx r1 (fun s2 I2 => ⟨_, H1, I2, q1⟩) hf
noncomputable def tPar (i j : Nat) (ta : TA) : TS := fun D σ H => ta σ H fun vs H1 => ∃ v w, vs = [v, w] ∧ D.nx ((σ.set i (some v)).set j (some w)) H1
theorem ps_par {i j : Nat} {x y : Str} {a b : Expr} {ta : TA} {px py pt : Pos} {kt k2 pt2} (hc : X.calm = true) (hN : X.N.Nodup) (hi : X.N[i]? = some x) (hj : X.N[j]? = some y) (hij : i ≠ j)
    (hx : X.env.scope.names.lookup x = some .local) (hy : X.env.scope.names.lookup y = some .local) (ha : PA X [a, b] ta)
    (hw : swappedStores [.Tuple [.Name x px, .Name y py] kt pt] (.Tuple [a, b] k2 pt2) X.env = pure (some [x, y]))
    (hs : swapsWithSole [.Tuple [.Name x px, .Name y py] kt pt] (.Tuple [a, b] k2 pt2) pos.line X.env = pure false := by rfl) :
    PS X (.Assign [.Tuple [.Name x px, .Name y py] kt pt] (.Tuple [a, b] k2 pt2) pos) (tPar i j ta) := by
  intro pins s σ H D I h
  rw [exec_Assign_arm]
  refine wpAny_bind (wpAny_standAt ?_)
  rw [hs]
  refine wpAny_bind (wpAny_pure ?_)
  rw [if_neg (by decide)]
  refine wpAny_bind (Tuple_ (thn (ha _ pins s σ H _ I h) fun us s1 hq_ => ?_))
  obtain ⟨vs, H1, I1, r1, q1⟩ := hq_
  obtain ⟨v, w, e1, q1⟩ := q1
  subst e1
  obtain ⟨u1, u2, rfl, rv, rw'⟩ : ∃ u1 u2, us = [u1, u2] ∧ RelV v u1 ∧ RelV w u2 := by
    cases r1 with
    | cons p q =>
      cases q with
      | cons p' q' =>
        cases q'
        exact ⟨_, _, rfl, p, p'⟩
  refine wpAny_newObj_type ?_ (by show 2 ≤ sizeLine; decide)
  have I2 : Inv X pins σ H1 { s1 with heap := s1.heap.push { cls := .type "tuple", data := .seq [u1, u2].toArray } } := I1.kept (t' := s1.toks) fun b o e => Heap.get?_push_of_some _ e
  rw [hw]
  refine wpAny_bind (wpAny_pure ?_)
  show wpAny (model X.prog X.w) X.A (do rule "assign.swapped-stores"; let items ← unpackItems (.ref s1.heap.objs.size) 2 none; assignInOrder [fun v => bindName X.env y v, fun v => bindName X.env x v] items.reverse; pure Flow.next) _ _ _
  refine wpAny_bind (wpAny_rule (wpAny_bind (unpackItems_tuple (items := #[u1, u2]) (I.ok.hd hc) (IsTup.new s1.heap _) fun h' hx' => ?_)))
  have I3 := I2.kept (h' := h') (t' := s1.toks) fun b o e => hx' b o (Nat.ne_of_lt (Heap.lt_size e)) e
  show wpAny _ _ (assignInOrder [fun v => bindName X.env y v, fun v => bindName X.env x v] [u2, u1] >>= fun _ => pure Flow.next) _ _ _
  refine wpAny_bind (assignInOrder_cons (wpAny_bindName (store_ok I3 hN hj (.inl hy) rw' (fun s2 I4 => ?_) (.inr hy))))
  refine assignInOrder_cons (wpAny_bindName (store_ok I4 hN hi (.inl hx) rv (fun s3 I5 => assignInOrder_nil (wpAny_pure ?_)) (.inr hx)))
  rw [List.set_comm _ _ (Ne.symm hij)] at I5
  exact ⟨_, H1, I5, q1⟩
end
section
variable {X : Cx} {pos : Pos}
noncomputable def tWhile (c : TT) (tb : TS) : TS := fun D σ H => ∃ W : Nat → St → Hp → Prop, (∃ m, W m σ H) ∧ ∀ m σ H, W m σ H →
  c σ H fun b H1 => if b = true then ∃ N : St → Hp → Prop, (∀ σ' H', N σ' H' → ∃ m', m' < m ∧ W m' σ' H') ∧ tb { D with nx := N, ct := N, bk := D.nx } σ H1 else D.nx σ H1
theorem ps_while {c : Expr} {body : List Stmt} {tc : TT} {tb : TS} (hp : PassesOwn (model X.prog X.w) X.A X.env X.xe) (hc : PT X c tc) (hb : PSs X body tb) : PS X (.While c body [] pos) (tWhile tc tb) := by
  intro pins s σ H D I h
  obtain ⟨W, ⟨m0, w0⟩, turn⟩ := h
  refine wpAny_While (codeAny_whileLoop (fun n s' => ∃ σ' H', Inv X pins σ' H' s' ∧ W n σ' H') ?_ m0 ⟨σ, H, I, w0⟩)
  rintro n s1 ⟨σ1, H1, I1, w1⟩
  refine wpAny_passesOwn hp (thn (hc pins s1 σ1 H1 _ I1 (turn n σ1 H1 w1)) fun b s2 hq_ => ?_)
  obtain ⟨H2, I2, q2⟩ := hq_
  cases b with
  | true =>
    obtain ⟨N, hN, q2⟩ := q2
    rw [if_pos rfl]
    refine wpAny_passesOwn hp (thn (hb pins s2 σ1 H2 _ I2 q2) fun f s3 q3 => ?_)
    cases f with
    | next =>
      obtain ⟨σ3, H3, I3, n3⟩ := q3
      obtain ⟨m', hm, w3⟩ := hN σ3 H3 n3
      exact ⟨m', hm, σ3, H3, I3, w3⟩
    | cont =>
      obtain ⟨σ3, H3, I3, n3⟩ := q3
      obtain ⟨m', hm, w3⟩ := hN σ3 H3 n3
      exact ⟨m', hm, σ3, H3, I3, w3⟩
    | brk => exact q3
    | ret v => exact q3
  | false =>
    rw [if_neg Bool.false_ne_true]
    exact wpAny_execs_nil ⟨σ1, H2, I2, q2⟩
end
structure It where
  go : Nat → Hp → Prop
  yld : Nat → Hp → V → Hp → Prop
  stop : Nat → Hp → Prop
def FpOk (X : Cx) (pins : List (Addr × Obj)) (H : Hp) (b : Addr) : Prop :=
  H b = none ∧ b ≠ X.env.locals ∧ b ∉ X.fs ∧ (b ∈ X.ex ∨ X.s₀.heap.objs.size ≤ b) ∧ (∀ x c, X.env.cells.lookup x = some c → c ≠ b) ∧ ∀ p ∈ X.pn ++ pins, p.1 ≠ b
theorem Inv.fpOk {X : Cx} {pins : List (Addr × Obj)} {σ : St} {H H' : Hp} {s : Shared} {b : Addr} (I : Inv X pins σ H s) (hb : s.heap.objs.size ≤ b) (hn : H' b = none) : FpOk X pins H' b := by
  refine ⟨hn, Nat.ne_of_gt (Nat.lt_of_lt_of_le I.lt hb), I.nofs hb, .inr (Nat.le_trans I.sz hb), fun x c e z => ?_, fun p hp z => ?_⟩
  · obtain ⟨v, q⟩ := I.cell x c e
    exact absurd (Nat.lt_of_lt_of_le q.lt (by rw [z]; exact hb)) (Nat.lt_irrefl _)
  · exact absurd (Nat.lt_of_lt_of_le (Heap.lt_size (I.pin p hp).1) (by rw [z]; exact hb)) (Nat.lt_irrefl _)
structure Turn (P : Program) (w : World) (K : PySem.W.Frag) (tg : Expr) (J : It) (fp : List Addr) (it : Addr) (tn : Nat → Heap → Prop) : Prop where
  mem : it ∈ fp
  obj : ∀ i h, tn i h → ∀ b ∈ fp, ∃ o, h.get? b = some o ∧ ∀ v, o.data ≠ .cell v
  keep : ∀ i h h', tn i h → (∀ b ∈ fp, ∀ o, h.get? b = some o → h'.get? b = some o) → tn i h'
  item : ∀ (X : Cx), X.prog = P → X.w = w → X.K = K → X.calm = true → ∀ (i : Nat) (pins : List (Addr × Obj)) (s : Shared) (σ : St) (H : Hp) (E : Value → Shared → Prop), Inv X pins σ H s → (∀ b ∈ fp, FpOk X pins H b) → tn i s.heap → J.go i H →
    wpAny (model P w) X.A (pyNext (.ref it)) (fun r s1 => ∃ u, r = some u ∧
      wpAny (model P w) X.A (letOwnedTupleGo tg (.ref it) u) (fun _ s2 => ∃ x H', Inv X pins σ H' s2 ∧ RelV x u ∧ J.yld i H x H' ∧ tn (i + 1) s2.heap ∧ ∀ b ∈ fp, H' b = none) E s1) E s
  done : ∀ (X : Cx), X.prog = P → X.w = w → X.K = K → X.calm = true → ∀ (i : Nat) (pins : List (Addr × Obj)) (s : Shared) (σ : St) (H : Hp) (E : Value → Shared → Prop), Inv X pins σ H s → (∀ b ∈ fp, FpOk X pins H b) → tn i s.heap → J.stop i H →
    wpAny (model P w) X.A (pyNext (.ref it)) (fun r s1 => r = none ∧ Inv X pins σ H s1) E s
  self : ∀ (A : Around) (i : Nat) (s : Shared) (Q : Value → Shared → Prop) (E : Value → Shared → Prop), tn i s.heap → Q (.ref it) s → wpAny (model P w) A (pyIter (.ref it)) Q E s
noncomputable abbrev TI := St → Hp → (It → Hp → Prop) → Prop
def PIE (X : Cx) (pins : List (Addr × Obj)) (σ : St) (tg : Expr) (R : It → Hp → Prop) (itv : Value) (s2 : Shared) : Prop :=
  ∃ (it : Addr) (fp : List Addr) (tn : Nat → Heap → Prop) (J : It) (H' : Hp), itv = .ref it ∧ Inv X pins σ H' s2 ∧ Turn X.prog X.w X.K tg J fp it tn ∧ tn 0 s2.heap ∧ (∀ b ∈ fp, FpOk X pins H' b) ∧ R J H'
def PI (X : Cx) (tg iter : Expr) (wi : TI) : Prop :=
  ∀ (pins : List (Addr × Obj)) (s : Shared) (σ : St) (H : Hp) (R : It → Hp → Prop), Inv X pins σ H s → wi σ H R →
    wpAny (model X.prog X.w) X.A (eval iter X.env) (fun v s1 => wpAny (model X.prog X.w) X.A (pyIter v) (PIE X pins σ tg R) X.xe s1) X.xe s
theorem go_of {M : Model} {A : Around} {E : Value → Shared → Prop} {s : Shared} {tg : Expr} {it : Addr} {u : Value} {o : Obj} {n : String} {vs : Array Value} {Q : Unit → Shared → Prop} (ho : s.heap.get? it = some o) (hc : o.cls = .type n) (hd : o.data = .fields vs)
    (hn : ["enumerate", "zip", "dict_itemiterator", "dict_reverseitemiterator", "odict_iterator", "itertools.zip_longest", "itertools.pairwise"].contains n = false) (hQ : Q () s) : wpAny M A (letOwnedTupleGo tg (.ref it) u) Q E s := by
  unfold letOwnedTupleGo
  cases tg <;> first
    | exact wpAny_pure hQ
    | (cases u <;> first
        | exact wpAny_pure hQ
        | (refine wpAny_bind (wpAny_load ho ?_)
           rw [hc, hd]
           show wpAny M A (if (["enumerate", "zip", "dict_itemiterator", "dict_reverseitemiterator", "odict_iterator", "itertools.zip_longest", "itertools.pairwise"].contains n && vs[0]? == some (rawInt _)) = true then _ else _) Q E s
           rw [if_neg (by intro h; rw [hn, Bool.false_and] at h; cases h)]
           exact wpAny_pure hQ))
noncomputable def Itl (K : PySem.W.Frag) (a : Addr) : It :=
  ⟨fun i H => ∃ xs x, SqL K H a xs ∧ xs[i]? = some x, fun i H x H' => H' = H ∧ ∀ xs, SqL K H a xs → xs[i]? = some x, fun i H => ∃ xs, SqL K H a xs ∧ xs.length ≤ i⟩
noncomputable def Itt (K : PySem.W.Frag) (a : Addr) : It :=
  ⟨fun i H => ∃ xs x, SqT K H a xs ∧ xs[i]? = some x, fun i H x H' => H' = H ∧ ∀ xs, SqT K H a xs → xs[i]? = some x, fun i H => ∃ xs, SqT K H a xs ∧ xs.length ≤ i⟩
noncomputable def Itr (lo : Int) (n : Nat) : It := ⟨fun i _ => i < n, fun i H x H' => H' = H ∧ x = .int (lo + i), fun i _ => n ≤ i⟩
theorem turn_list {P : Program} {w : World} {K : PySem.W.Frag} {tg : Expr} (a it : Addr) : Turn P w K tg (Itl K a) [it] it (fun i h => h.IsListIter it a i) where
  mem := by simp
  obj := fun i h st b hb => by
    have e : b = it := by simpa using hb
    subst e
    obtain ⟨o, e, c, d⟩ := st
    exact ⟨o, e, fun v z => by rw [d] at z; cases z⟩
  keep := fun i h h' st k => st.at fun o e => k it (by simp) o e
  item := by
    intro X hP hw hK hc i pins s σ H E I hf st hg
    subst hP hw hK
    obtain ⟨xs, x, hq, hx⟩ := hg
    obtain ⟨its, rv, p, hz⟩ := I.list hq
    obtain ⟨u, hu, ru⟩ := rv.get hx
    obtain ⟨f0, f1, f2, f3, f4, f5⟩ := hf it (by simp)
    refine wpAny_pyNext_list_item st p.isList (x := u) (by simpa using hu) fun h' st' sb => ?_
    have I1 : Inv X pins σ H { s with heap := h' } := I.turned (t' := s.toks) (fun b o hb e => (sb.2 b hb).trans e) f0 f1 f3 f4 f5
    obtain ⟨o, e, c, d⟩ := id st'
    exact ⟨u, rfl, go_of (s := { s with heap := h' }) e c d (by decide) ⟨x, H, I1, ru, ⟨rfl, fun ys hy => by rw [I.list_inj hy hq]; exact hx⟩, st', fun b hb => (hf b hb).1⟩⟩
  done := by
    intro X hP hw hK hc i pins s σ H E I hf st hg
    subst hP hw hK
    obtain ⟨xs, hq, hx⟩ := hg
    obtain ⟨its, rv, p, hz⟩ := I.list hq
    obtain ⟨f0, f1, f2, f3, f4, f5⟩ := hf it (by simp)
    have hl := rv.length
    exact wpAny_pyNext_list_end (I.ok.hd hc) st p.isList (by simp; omega) fun h' eb => ⟨rfl, I.turned (t' := s.toks) (fun b o hb e => eb b o hb e) f0 f1 f3 f4 f5⟩
  self := fun _ _ _ _ _ st h => wpAny_pyIter_listiter st h
theorem turn_tuple {P : Program} {w : World} {K : PySem.W.Frag} {tg : Expr} (a it : Addr) : Turn P w K tg (Itt K a) [it] it (fun i h => h.IsTupleIter it a i) where
  mem := by simp
  obj := fun i h st b hb => by
    have e : b = it := by simpa using hb
    subst e
    obtain ⟨o, e, c, d⟩ := st
    exact ⟨o, e, fun v z => by rw [d] at z; cases z⟩
  keep := fun i h h' st k => st.at fun o e => k it (by simp) o e
  item := by
    intro X hP hw hK hc i pins s σ H E I hf st hg
    subst hP hw hK
    obtain ⟨xs, x, hq, hx⟩ := hg
    obtain ⟨its, rv, p, hz⟩ := I.tuple hq
    obtain ⟨u, hu, ru⟩ := rv.get hx
    obtain ⟨f0, f1, f2, f3, f4, f5⟩ := hf it (by simp)
    refine wpAny_pyNext_tuple_item st (show s.heap.IsTuple a its.toArray from p) (x := u) (by simpa using hu) fun h' st' sb => ?_
    have I1 : Inv X pins σ H { s with heap := h' } := I.turned (t' := s.toks) (fun b o hb e => (sb.2 b hb).trans e) f0 f1 f3 f4 f5
    obtain ⟨o, e, c, d⟩ := id st'
    exact ⟨u, rfl, go_of (s := { s with heap := h' }) e c d (by decide) ⟨x, H, I1, ru, ⟨rfl, fun ys hy => by rw [I.tuple_inj hy hq]; exact hx⟩, st', fun b hb => (hf b hb).1⟩⟩
  done := by
    intro X hP hw hK hc i pins s σ H E I hf st hg
    subst hP hw hK
    obtain ⟨xs, hq, hx⟩ := hg
    obtain ⟨its, rv, p, hz⟩ := I.tuple hq
    obtain ⟨f0, f1, f2, f3, f4, f5⟩ := hf it (by simp)
    have hl := rv.length
    exact wpAny_pyNext_tuple_end (I.ok.hd hc) st (show s.heap.IsTuple a its.toArray from p) (by simp; omega) fun h' eb => ⟨rfl, I.turned (t' := s.toks) (fun b o hb e => eb b o hb e) f0 f1 f3 f4 f5⟩
  self := fun _ _ _ _ _ st h => wpAny_pyIter_tupleiter st h
theorem turn_range {P : Program} {w : World} {K : PySem.W.Frag} {tg : Expr} (it : Addr) (lo : Int) (n : Nat) : Turn P w K tg (Itr lo n) [it] it (fun i h => IsRangeIter h it (lo + (i : Nat) * 1) ((n : Int) - (i : Nat)) 1) where
  mem := by simp
  obj := fun i h st b hb => by
    have e : b = it := by simpa using hb
    subst e
    exact ⟨_, st, fun v z => by
      have z' : Data.fields _ = Data.cell v := z
      cases z'⟩
  keep := fun i h h' st k => k it (by simp) _ st
  item := by
    intro X hP hw hK hc i pins s σ H E I hf st hg
    subst hP hw hK
    obtain ⟨f0, f1, f2, f3, f4, f5⟩ := hf it (by simp)
    have W := Walks.range (prog := X.prog) (w := X.w) (I.ok.hd hc) it lo 1 n
    refine W.item i s _ _ hg st fun v h' tk hv st' kk => ?_
    obtain ⟨t, rfl⟩ := hv
    have I1 : Inv X pins σ H { s with heap := h', toks := tk } := I.turned (fun b o hb e => kk b o (by simpa using hb) e) f0 f1 f3 f4 f5
    refine ⟨_, rfl, go_of (s := { s with heap := h', toks := tk }) (n := "range_iterator") st' rfl rfl (by decide) ⟨.int (lo + i), H, I1, ⟨t, ?_⟩, ⟨rfl, rfl⟩, st', fun b hb => (hf b hb).1⟩⟩
    rw [Int.mul_one]
  done := by
    intro X hP hw hK hc i pins s σ H E I hf st hg
    subst hP hw hK
    obtain ⟨f0, f1, f2, f3, f4, f5⟩ := hf it (by simp)
    exact wpAny_pyNext_range_end (I.ok.hd hc) st (by have : n ≤ i := hg; omega) fun h' eb => ⟨rfl, I.turned (t' := s.toks) (fun b o hb e => eb b o hb e) f0 f1 f3 f4 f5⟩
  self := fun _ _ _ _ _ st h => wpAny_pyIter_rangeiter st h
end L2
namespace L2
open PySem PySem.Spec PyProof.Rows
section
variable {X : Cx} {tg : Expr}
noncomputable def iList (K : PySem.W.Frag) (tl : TE) : TI := fun σ H R => tl σ H fun x H1 => ∃ a, x = .ref a ∧ (∃ xs, SqL K H1 a xs) ∧ R (Itl K a) H1
noncomputable def iTup (K : PySem.W.Frag) (tl : TE) : TI := fun σ H R => tl σ H fun x H1 => ∃ a, x = .ref a ∧ (∃ xs, SqT K H1 a xs) ∧ R (Itt K a) H1
theorem pi_list {l : Expr} {tl : TE} (hl : PE X l tl) : PI X tg l (iList X.K tl) := by
  intro pins s σ H R I h
  refine thn (hl pins s σ H _ I h) fun v s1 hq_ => ?_
  obtain ⟨x, H1, I1, r1, q1⟩ := hq_
  obtain ⟨a, e, ⟨xs, hq⟩, q⟩ := q1
  subst e
  cases r1
  obtain ⟨its, rv, p, hz⟩ := I1.list hq
  refine wpAny_pyIter_list p.isList ?_
  refine ⟨s1.heap.objs.size, [s1.heap.objs.size], _, _, H1, rfl, I1.kept (t' := s1.toks) fun b o e => Heap.get?_push_of_some _ e, turn_list a _, ⟨_, Heap.get?_push_size _ rfl, rfl, rfl⟩, fun b hb => ?_, q⟩
  have e : b = s1.heap.objs.size := by simpa using hb
  subst e
  exact I1.fpOk (Nat.le_refl _) (I1.hok.fresh (Nat.le_refl _))
theorem pi_tup {l : Expr} {tl : TE} (hl : PE X l tl) : PI X tg l (iTup X.K tl) := by
  intro pins s σ H R I h
  refine thn (hl pins s σ H _ I h) fun v s1 hq_ => ?_
  obtain ⟨x, H1, I1, r1, q1⟩ := hq_
  obtain ⟨a, e, ⟨xs, hq⟩, q⟩ := q1
  subst e
  cases r1
  obtain ⟨its, rv, p, hz⟩ := I1.tuple hq
  refine wpAny_pyIter_tuple (show s1.heap.IsTuple a its.toArray from p) ?_
  refine ⟨s1.heap.objs.size, [s1.heap.objs.size], _, _, H1, rfl, I1.kept (t' := s1.toks) fun b o e => Heap.get?_push_of_some _ e, turn_tuple a _, ⟨_, Heap.get?_push_size _ rfl, rfl, rfl⟩, fun b hb => ?_, q⟩
  have e : b = s1.heap.objs.size := by simpa using hb
  subst e
  exact I1.fpOk (Nat.le_refl _) (I1.hok.fresh (Nat.le_refl _))
theorem range_it {pins : List (Addr × Obj)} {σ : St} {H : Hp} {s : Shared} {R : It → Hp → Prop} {E : Value → Shared → Prop} {lo hi : Int} {t u v : Tok} {tk : Nat} (I : Inv X pins σ H s) (h1 : -(2 ^ 62) ≤ lo) (h2 : lo < 2 ^ 62) (h3 : -(2 ^ 62) ≤ hi) (h4 : hi < 2 ^ 62)
    (q : R (Itr lo (hi - lo).toNat) H) : wpAny (model X.prog X.w) X.A (pyIter (.ref s.heap.objs.size)) (PIE X pins σ tg R) E { s with heap := s.heap.push { cls := .type "range", data := .fields #[.int lo t, .int hi u, .int 1 v] }, toks := tk } := by
  refine wpAny_pyIter_range (IsRange.new ..) (small_one h1 h2 h3 h4) ?_
  have I1 : Inv X pins σ H { s with heap := s.heap.push { cls := .type "range", data := .fields #[.int lo t, .int hi u, .int 1 v] }, toks := tk } := I.kept fun b o e => Heap.get?_push_of_some _ e
  refine ⟨(s.heap.push { cls := .type "range", data := .fields #[.int lo t, .int hi u, .int 1 v] }).objs.size, [(s.heap.push { cls := .type "range", data := .fields #[.int lo t, .int hi u, .int 1 v] }).objs.size], _, _, H, rfl,
    I1.kept (t' := tk) fun b o e => Heap.get?_push_of_some _ e, turn_range _ lo (hi - lo).toNat, ?_, fun b hb => ?_, q⟩
  · have e1 : lo + ((0 : Nat) : Int) * 1 = lo := by simp
    have e2 : (((hi - lo).toNat : Nat) : Int) - ((0 : Nat) : Int) = Builtin.Range.rangeSize lo hi 1 := by rw [rangeSize_one]; split <;> omega
    show IsRangeIter _ _ (lo + ((0 : Nat) : Int) * 1) ((((hi - lo).toNat : Nat) : Int) - ((0 : Nat) : Int)) 1
    rw [e1, e2]
    exact Heap.get?_push_size _ rfl
  · have e : b = (s.heap.push { cls := .type "range", data := .fields #[.int lo t, .int hi u, .int 1 v] }).objs.size := by simpa using hb
    subst e
    exact I1.fpOk (Nat.le_refl _) (I1.hok.fresh (Nat.le_refl _))
noncomputable def iRng1 (ta : TA) : TI := fun σ H R => ta σ H fun vs H1 => ∃ j : Int, vs = [.int j] ∧ -(2 ^ 62) ≤ j ∧ j < 2 ^ 62 ∧ R (Itr 0 j.toNat) H1
theorem pi_range1 {a : Expr} {ta : TA} {p pos : Pos} (hg : Gl X "range") (hm : X.mg "range" = none) (ha : PA X [a] ta) (hs : starEach [a] X.env = [(false, eval a X.env)] := by rfl) : PI X tg (.Call (.Name "range" p) [a] [] pos) (iRng1 ta) := by
  intro pins s σ H R I h
  refine Call_ (ld_blt I hg hm boot_range (PyProof.Rows.callWith_type1 (thn (ha pos pins s σ H _ I h) fun us s1 ⟨vs, H1, I1, r1, q1⟩ => ?_) hs rfl))
  obtain ⟨j, e, q1, q2, q⟩ := q1
  subst e
  cases r1 with
  | cons r rr =>
    cases rr
    obtain ⟨t, rfl⟩ := r
    exact call_range_1 (range_it I1 (by omega) (by omega) q1 q2 (by simpa using q))
noncomputable def tFor (wi : TI) (g : TG) (tb : TS) : TS := fun D σ H => wi σ H fun J H1 => ∃ W : Nat → Nat → St → Hp → Prop, (∃ m, W 0 m σ H1) ∧ ∀ i m σ H, W i m σ H →
  (J.stop i H ∧ D.nx σ H) ∨ (J.go i H ∧ ∃ N : St → Hp → Prop, (∀ σ' H', N σ' H' → ∃ m', m' < m ∧ W (i + 1) m' σ' H') ∧ ∀ x H', J.yld i H x H' → g x σ H' fun σ2 H2 => tb { D with nx := N, ct := N, bk := D.nx } σ2 H2)
noncomputable def pinsAt (fp : List Addr) (h : Heap) : List (Addr × Obj) := fp.filterMap fun b => (h.get? b).map fun o => (b, o)
theorem mem_pinsAt {fp : List Addr} {h : Heap} {b : Addr} {o : Obj} (hb : b ∈ fp) (e : h.get? b = some o) : (b, o) ∈ pinsAt fp h := List.mem_filterMap.mpr ⟨b, hb, by rw [e]; rfl⟩
theorem of_pinsAt {fp : List Addr} {h : Heap} {p : Addr × Obj} (hp : p ∈ pinsAt fp h) : p.1 ∈ fp ∧ h.get? p.1 = some p.2 := by
  obtain ⟨b, hb, e⟩ := List.mem_filterMap.mp hp
  cases q : h.get? b with
  | none => rw [q] at e; cases e
  | some o =>
    rw [q] at e
    have e' : (b, o) = p := Option.some.inj e
    subst e'
    exact ⟨hb, q⟩
theorem Inv.pinned {pins : List (Addr × Obj)} {σ : St} {H : Hp} {s : Shared} {fp : List Addr} (I : Inv X pins σ H s) (hf : ∀ b ∈ fp, FpOk X pins H b) (ho : ∀ b ∈ fp, ∃ o, s.heap.get? b = some o ∧ ∀ v, o.data ≠ .cell v) : Inv X (pins ++ pinsAt fp s.heap) σ H s :=
  I.pins_of fun p hp => (List.mem_append.mp hp).elim (fun z => I.pin p (List.mem_append_right _ z)) fun z => by
    obtain ⟨hb, e⟩ := of_pinsAt z
    obtain ⟨f0, f1, f2, _⟩ := hf p.1 hb
    obtain ⟨o, e', d⟩ := ho p.1 hb
    rw [e] at e'; cases e'
    exact ⟨e, f0, f1, f2, d⟩
theorem Inv.unpinned {pins pl : List (Addr × Obj)} {σ : St} {H : Hp} {s : Shared} (I : Inv X (pins ++ pl) σ H s) : Inv X pins σ H s := I.pins_of fun p hp => I.pin p (List.mem_append_right _ (List.mem_append_left _ hp))
theorem ps_for {iter : Expr} {body : List Stmt} {wi : TI} {g : TG} {tb : TS} {pos : Pos} (hp : PassesOwn (model X.prog X.w) X.A X.env X.xe) (hc : X.calm = true) (hi : PI X tg iter wi) (hg : PG X tg g) (hb : PSs X body tb)
    (hs : ∀ x, foldedSetIterable iter X.env x = pure x := by intro _; rfl) : PS X (.For tg iter body [] pos) (tFor wi g tb) := by
  intro pins s σ H D I h
  refine wpAny_For (thn (hi pins s σ H _ I h) fun v s1 h1 => thn h1 fun itv s2 h2 => ?_) hs
  obtain ⟨it, fp, tn, J, H2, e, I2, T, st2, f2, W, ⟨m0, w0⟩, turn⟩ := h2
  subst e
  have stat : ∀ {H' : Hp}, (∀ b ∈ fp, H' b = none) → ∀ b ∈ fp, FpOk X pins H' b := fun hn b hb => ⟨hn b hb, (f2 b hb).2⟩
  refine codeAny_forLoop_any (fun n s' => ∃ i σ' H', Inv X pins σ' H' s' ∧ tn i s'.heap ∧ (∀ b ∈ fp, H' b = none) ∧ W i n σ' H') ?_ m0 ⟨0, σ, H2, I2, st2, fun b hb => (f2 b hb).1, w0⟩
  rintro n s3 ⟨i, σ3, H3, I3, st3, fr3, w3⟩
  rcases turn i n σ3 H3 w3 with ⟨stop, qn⟩ | ⟨go, N, hN, step⟩
  · refine wpAny_passesOwn hp (thn (T.done X rfl rfl rfl hc i pins s3 σ3 H3 X.xe I3 (stat fr3) st3 stop) fun r s4 hq_ => ?_)
    obtain ⟨hr, I4⟩ := hq_
    subst hr
    exact wpAny_execs_nil ⟨σ3, H3, I4, qn⟩
  · refine wpAny_passesOwn hp (thn (T.item X rfl rfl rfl hc i pins s3 σ3 H3 X.xe I3 (stat fr3) st3 go) fun r s4 hq_ => ?_)
    obtain ⟨u, hr, h4⟩ := hq_
    subst hr
    refine wpAny_passesOwn hp (thn h4 fun _ s5 hq_ => ?_)
    obtain ⟨x, H5, I5, r5, y5, st5, fr5⟩ := hq_
    have I5' := I5.pinned (stat fr5) (T.obj _ _ st5)
    refine wpAny_passesOwn hp (thn (hg _ s5 σ3 H5 x u _ I5' r5 (step x H5 y5)) fun _ s6 hq_ => ?_)
    obtain ⟨σ6, H6, I6, q6⟩ := hq_
    refine wpAny_passesOwn hp (thn (hb _ s6 σ6 H6 _ I6 q6) fun f s7 q7 => ?_)
    have again : ∀ {σ7 : St} {H7 : Hp}, Inv X (pins ++ pinsAt fp s5.heap) σ7 H7 s7 → N σ7 H7 → ∃ m, m < n ∧ ∃ i σ' H', Inv X pins σ' H' s7 ∧ tn i s7.heap ∧ (∀ b ∈ fp, H' b = none) ∧ W i m σ' H' := fun {σ7 H7} I7 n7 => by
      obtain ⟨m', hm, w7⟩ := hN σ7 H7 n7
      refine ⟨m', hm, i + 1, σ7, H7, I7.unpinned, T.keep _ _ _ st5 fun b hb o e => (I7.pin (b, o) (List.mem_append_right _ (List.mem_append_right _ (mem_pinsAt hb e)))).1, fun b hb => ?_, w7⟩
      obtain ⟨o, e, d⟩ := T.obj _ _ st5 b hb
      exact (I7.pin (b, o) (List.mem_append_right _ (List.mem_append_right _ (mem_pinsAt hb e)))).2.1
    cases f with
    | next => obtain ⟨σ7, H7, I7, n7⟩ := q7; exact again I7 n7
    | cont => obtain ⟨σ7, H7, I7, n7⟩ := q7; exact again I7 n7
    | brk => obtain ⟨σ7, H7, I7, q7⟩ := q7; exact ⟨σ7, H7, I7.unpinned, q7⟩
    | ret v => obtain ⟨x7, σ7, H7, I7, r7, q7⟩ := q7; exact ⟨x7, σ7, H7, I7.unpinned, r7, q7⟩
end
theorem for_list {K : PySem.W.Frag} {a : Addr} {xs : List V} {g : TG} {tb : TS} {D : Ends} {σ : St} {H : Hp} (Pv : Nat → St → Hp → Prop) (h0 : Pv 0 σ H) (hl : ∀ i σ H, i ≤ xs.length → Pv i σ H → SqL K H a xs)
    (hs : ∀ i x σ H, xs[i]? = some x → Pv i σ H → g x σ H fun σ2 H2 => tb { D with nx := Pv (i + 1), ct := Pv (i + 1), bk := D.nx } σ2 H2) (hd : ∀ σ H, Pv xs.length σ H → D.nx σ H) :
    ∃ W : Nat → Nat → St → Hp → Prop, (∃ m, W 0 m σ H) ∧ ∀ i m σ H, W i m σ H →
      ((Itl K a).stop i H ∧ D.nx σ H) ∨ ((Itl K a).go i H ∧ ∃ N : St → Hp → Prop, (∀ σ' H', N σ' H' → ∃ m', m' < m ∧ W (i + 1) m' σ' H') ∧ ∀ x H', (Itl K a).yld i H x H' → g x σ H' fun σ2 H2 => tb { D with nx := N, ct := N, bk := D.nx } σ2 H2) := by
  refine ⟨fun i m σ H => m = xs.length - i ∧ i ≤ xs.length ∧ Pv i σ H, ⟨xs.length, by simp, Nat.zero_le _, h0⟩, ?_⟩
  rintro i m σ H ⟨rfl, hi, p⟩
  have q := hl i σ H hi p
  by_cases hlt : i < xs.length
  · refine .inr ⟨⟨xs, xs[i], q, by simp [hlt]⟩, Pv (i + 1), fun σ' H' p' => ⟨xs.length - (i + 1), by omega, rfl, hlt, p'⟩, fun x H' y => ?_⟩
    obtain ⟨e, y⟩ := y
    subst e
    exact hs i x σ _ (y xs q) p
  · have e : i = xs.length := by omega
    subst e
    exact .inl ⟨⟨xs, q, Nat.le_refl _⟩, hd σ H p⟩
theorem for_range {lo : Int} {n : Nat} {g : TG} {tb : TS} {D : Ends} {σ : St} {H : Hp} (Pv : Nat → St → Hp → Prop) (h0 : Pv 0 σ H)
    (hs : ∀ i σ H, i < n → Pv i σ H → g (.int (lo + i)) σ H fun σ2 H2 => tb { D with nx := Pv (i + 1), ct := Pv (i + 1), bk := D.nx } σ2 H2) (hd : ∀ σ H, Pv n σ H → D.nx σ H) :
    ∃ W : Nat → Nat → St → Hp → Prop, (∃ m, W 0 m σ H) ∧ ∀ i m σ H, W i m σ H →
      ((Itr lo n).stop i H ∧ D.nx σ H) ∨ ((Itr lo n).go i H ∧ ∃ N : St → Hp → Prop, (∀ σ' H', N σ' H' → ∃ m', m' < m ∧ W (i + 1) m' σ' H') ∧ ∀ x H', (Itr lo n).yld i H x H' → g x σ H' fun σ2 H2 => tb { D with nx := N, ct := N, bk := D.nx } σ2 H2) := by
  refine ⟨fun i m σ H => m = n - i ∧ i ≤ n ∧ Pv i σ H, ⟨n, by simp, Nat.zero_le _, h0⟩, ?_⟩
  rintro i m σ H ⟨rfl, hi, p⟩
  by_cases hlt : i < n
  · refine .inr ⟨hlt, Pv (i + 1), fun σ' H' p' => ⟨n - (i + 1), by omega, rfl, hlt, p'⟩, fun x H' y => ?_⟩
    obtain ⟨e, y⟩ := y
    subst e y
    exact hs i σ _ hlt p
  · have e : i = n := by omega
    subst e
    exact .inl ⟨Nat.le_refl _, hd σ H p⟩
end L2
namespace L2
open PySem PySem.Spec PyProof.Rows
noncomputable abbrev R2 := V → V → Hp → VK → Prop
def OpR (X : Cx) (f : Value → Value → Sem Value) (r : R2) : Prop :=
  ∀ (pins : List (Addr × Obj)) (s : Shared) (σ : St) (H : Hp) (x y : V) (v u : Value) (Q : VK), Inv X pins σ H s → RelV x v → RelV y u → r x y H Q →
    wpAny (model X.prog X.w) X.A (f v u) (EP X pins σ Q) X.xe s
def UnR (X : Cx) (f : Value → Sem Value) (r : V → Hp → VK → Prop) : Prop :=
  ∀ (pins : List (Addr × Obj)) (s : Shared) (σ : St) (H : Hp) (x : V) (v : Value) (Q : VK), Inv X pins σ H s → RelV x v → r x H Q →
    wpAny (model X.prog X.w) X.A (f v) (EP X pins σ Q) X.xe s
def CallR (X : Cx) (f : Value) (r : List V → Hp → VK → Prop) : Prop :=
  ∀ (pins : List (Addr × Obj)) (s : Shared) (σ : St) (H : Hp) (xs : List V) (us : List Value) (Q : VK), Inv X pins σ H s → Vals xs us → r xs H Q →
    wpAny (model X.prog X.w) X.A (call f us) (EP X pins σ Q) X.xe s
def TruR (X : Cx) (r : V → Hp → (Bool → Hp → Prop) → Prop) : Prop :=
  ∀ (pins : List (Addr × Obj)) (s : Shared) (σ : St) (H : Hp) (x : V) (v : Value) (Q : Bool → Hp → Prop), Inv X pins σ H s → RelV x v → r x H Q →
    wpAny (model X.prog X.w) X.A (truthy v) (TP X pins σ Q) X.xe s
noncomputable def tOp (r : R2) (ta tb : TE) : TE := fun σ H Q => ta σ H fun x H1 => tb σ H1 fun y H2 => r x y H2 Q
noncomputable def tUn (r : V → Hp → VK → Prop) (ta : TE) : TE := fun σ H Q => ta σ H fun x H1 => r x H1 Q
noncomputable def rI (C : Int → Int → Prop) (g : Int → Int → V) : R2 := fun x y H Q => ∃ i j, x = .int i ∧ y = .int j ∧ C i j ∧ Q (g i j) H
noncomputable def rI0 (g : Int → Int → V) : R2 := fun x y H Q => ∃ i j, x = .int i ∧ y = .int j ∧ Q (g i j) H
noncomputable def rU (g : Int → V) : V → Hp → VK → Prop := fun x H Q => ∃ i, x = .int i ∧ Q (g i) H
section
variable {X : Cx} {a b c : Expr} {ta tb tc : TE} {pos : Pos}
theorem binT (ha : PE X a ta) (hb : PE X b tb) {pins : List (Addr × Obj)} {s : Shared} {σ : St} {H : Hp} {R : V → V → Hp → Prop} (I : Inv X pins σ H s)
    (h : ta σ H fun x H1 => tb σ H1 fun y H2 => R x y H2) {Q : Value → Shared → Prop} {f : Value → Value → Sem Value}
    (hf : ∀ v u s2 x y H2, Inv X pins σ H2 s2 → RelV x v → RelV y u → R x y H2 → wpAny (model X.prog X.w) X.A (f v u) Q X.xe s2) :
    wpAny (model X.prog X.w) X.A (eval a X.env) (fun v s₁ => wpAny (model X.prog X.w) X.A (eval b X.env) (fun u s₂ => wpAny (model X.prog X.w) X.A (f v u) Q X.xe s₂) X.xe s₁) X.xe s := by
  refine thn (ha pins s σ H _ I h) fun v s1 hq_ => ?_
  obtain ⟨x, H1, I1, r1, q1⟩ := hq_
  refine thn (hb pins s1 σ H1 _ I1 q1) fun u s2 hq_ => ?_
  obtain ⟨y, H2, I2, r2, q2⟩ := hq_
  exact hf v u s2 x y H2 I2 r1 r2 q2
theorem pe_op {op : Operator} {r : R2} (ho : OpR X (binaryOp op) r) (ha : PE X a ta) (hb : PE X b tb) : PE X (.BinOp a op b pos) (tOp r ta tb) := by
  intro pins s σ H Q I h
  exact wpAny_BinOp (binT ha hb I h fun v u s2 x y H2 I2 rx ry q => ho pins s2 σ H2 x y v u Q I2 rx ry q)
theorem pe_un {op : UnaryOp} {r : V → Hp → VK → Prop} (ho : UnR X (unaryOp op) r) (ha : PE X a ta) : PE X (.UnaryOp op a pos) (tUn r ta) := by
  intro pins s σ H Q I h
  exact UnaryOp_ (thn (ha pins s σ H _ I h) fun v s1 ⟨x, H1, I1, r1, q1⟩ => ho pins s1 σ H1 x v Q I1 r1 q1)
theorem opI {f : Value → Value → Sem Value} {C : Int → Int → Prop} {g : Int → Int → Int}
    (rule : ∀ (i j : Int) (t u : Tok) (s : Shared) (Q : Value → Shared → Prop) (E : Value → Shared → Prop), C i j → Q (.int (g i j) s.toks) { s with toks := s.toks + 1 } → wpAny (model X.prog X.w) X.A (f (.int i t) (.int j u)) Q E s) :
    OpR X f (rI C fun i j => .int (g i j)) := by
  intro pins s σ H x y v u Q I rx ry h
  obtain ⟨i, j, rfl, rfl, hc, q⟩ := h
  obtain ⟨t, rfl⟩ := rx
  obtain ⟨t', rfl⟩ := ry
  exact rule i j t t' s _ _ hc ⟨.int (g i j), H, I.tok _, ⟨_, rfl⟩, q⟩
theorem opI0 {f : Value → Value → Sem Value} {g : Int → Int → Int}
    (rule : ∀ (i j : Int) (t u : Tok) (s : Shared) (Q : Value → Shared → Prop) (E : Value → Shared → Prop), Q (.int (g i j) s.toks) { s with toks := s.toks + 1 } → wpAny (model X.prog X.w) X.A (f (.int i t) (.int j u)) Q E s) :
    OpR X f (rI0 fun i j => .int (g i j)) := by
  intro pins s σ H x y v u Q I rx ry h
  obtain ⟨i, j, rfl, rfl, q⟩ := h
  obtain ⟨t, rfl⟩ := rx
  obtain ⟨t', rfl⟩ := ry
  exact rule i j t t' s _ _ ⟨.int (g i j), H, I.tok _, ⟨_, rfl⟩, q⟩
theorem opB0 {f : Value → Value → Sem Value} {g : Int → Int → Bool}
    (rule : ∀ (i j : Int) (t u : Tok) (s : Shared) (Q : Value → Shared → Prop) (E : Value → Shared → Prop), Q (.bool (g i j)) s → wpAny (model X.prog X.w) X.A (f (.int i t) (.int j u)) Q E s) :
    OpR X f (rI0 fun i j => .bl (g i j)) := by
  intro pins s σ H x y v u Q I rx ry h
  obtain ⟨i, j, rfl, rfl, q⟩ := h
  obtain ⟨t, rfl⟩ := rx
  obtain ⟨t', rfl⟩ := ry
  exact rule i j t t' s _ _ ⟨.bl (g i j), H, I, rfl, q⟩
def CDiv (i j : Int) : Prop := 0 < j ∧ j < 1073741824
def CPow (i j : Int) : Prop := 0 ≤ j ∧ j ≤ 1000000 ∧ i.natAbs < 2 ^ 64
def CMul (i j : Int) : Prop := (-(2 ^ 64) < i ∧ i < 2 ^ 64) ∨ (-(2 ^ 64) < j ∧ j < 2 ^ 64)
theorem CMul.ok {i j : Int} (h : CMul i j) : IntMulOk i j := by
  rcases h with ⟨h1, h2⟩ | ⟨h1, h2⟩
  · exact .of_left (intBits_le_64 h1 h2)
  · exact .of_right (intBits_le_64 h1 h2)
theorem op_add : OpR X (binaryOp .Add) (rI0 fun i j => .int (i + j)) := opI0 fun _ _ _ _ _ _ _ q => add_int q
theorem op_sub : OpR X (binaryOp .Sub) (rI0 fun i j => .int (i - j)) := opI0 fun _ _ _ _ _ _ _ q => sub_int q
theorem op_mul : OpR X (binaryOp .Mult) (rI CMul fun i j => .int (i * j)) := opI fun _ _ _ _ _ _ _ hc q => mul_int q hc.ok
theorem op_fdiv : OpR X (binaryOp .FloorDiv) (rI CDiv fun i j => .int (i / j)) := opI fun i j _ _ _ _ _ hc q => by
  have h1 : (0 : Int) < j := hc.1
  have h2 : j < 1073741824 := hc.2
  exact floordiv_int (by omega) (by rw [Int.fdiv_eq_ediv_of_nonneg i (by omega)]; exact q) (.inl (PyProof.noPylong_small (by omega)))
theorem op_mod : OpR X (binaryOp .Mod) (rI (fun _ j => 0 < j) fun i j => .int (i % j)) := opI fun i j _ _ _ _ _ hc q => by
  have h1 : (0 : Int) < j := hc
  exact mod_int' (by omega) (by rw [Int.fmod_eq_emod_of_nonneg i (by omega)]; exact q)
theorem op_pow : OpR X (binaryOp .Pow) (rI CPow fun i j => .int (i ^ j.toNat)) := opI fun _ _ _ _ _ _ _ hc q => pow_int_small hc.1 hc.2.1 hc.2.2 q
theorem unI {f : Value → Sem Value} {g : Int → Int}
    (rule : ∀ (i : Int) (t : Tok) (s : Shared) (Q : Value → Shared → Prop) (E : Value → Shared → Prop), Q (.int (g i) s.toks) { s with toks := s.toks + 1 } → wpAny (model X.prog X.w) X.A (f (.int i t)) Q E s) :
    UnR X f (rU fun i => .int (g i)) := by
  intro pins s σ H x v Q I rx h
  obtain ⟨i, rfl, q⟩ := h
  obtain ⟨t, rfl⟩ := rx
  exact rule i t s _ _ ⟨.int (g i), H, I.tok _, ⟨_, rfl⟩, q⟩
theorem un_neg : UnR X (unaryOp .USub) (rU fun i => .int (-i)) := unI fun _ _ _ _ _ q => neg_int q
end
noncomputable def scal : V → V → Bool
  | .non, .non => true | .non, .int _ => true | .int _, .non => true | .non, .bl _ => true | .bl _, .non => true | .non, .str _ => true | .str _, .non => true
  | .int _, .int _ => true | .bl _, .bl _ => true | .str _, .str _ => true | .byt _, .byt _ => true
  | .int _, .str _ => true | .str _, .int _ => true | .bl _, .str _ => true | .str _, .bl _ => true
  | _, _ => false
noncomputable def rEq : R2 := fun x y H Q => scal x y = true ∧ Q (.bl (decide (x = y))) H
noncomputable def rNe : R2 := fun x y H Q => scal x y = true ∧ Q (.bl (!decide (x = y))) H
theorem dec_int {i j : Int} : decide (V.int i = V.int j) = (i == j) := by
  rw [Bool.eq_iff_iff]
  simp
theorem dec_bl {i j : Bool} : decide (V.bl i = V.bl j) = (i == j) := by
  rw [Bool.eq_iff_iff]
  simp
theorem dec_str {i j : Str} : decide (V.str i = V.str j) = (i == j) := by
  rw [Bool.eq_iff_iff]
  simp
theorem dec_byt {i j : Array UInt8} : decide (V.byt i = V.byt j) = (i.toList == j.toList) := by
  rw [Bool.eq_iff_iff]
  cases i
  cases j
  simp
section
variable {X : Cx} {a b c : Expr} {ta tb tc : TE} {pos : Pos}
theorem fin_bl {pins : List (Addr × Obj)} {σ : St} {H : Hp} {s : Shared} {Q : VK} {k k' : Bool} (I : Inv X pins σ H s) (q : Q (.bl k) H) (e : k = k') : EP X pins σ Q (.bool k') s := by
  subst e
  exact ⟨.bl k, H, I, rfl, q⟩
theorem op_eq : OpR X (compareOp .Eq) rEq := by
  intro pins s σ H x y v u Q I rx ry h
  obtain ⟨hs, q⟩ := h
  cases x with
  | non =>
    cases rx
    cases y with
    | non => cases ry; exact PySem.EqNone.eq_none_none (fin_bl I q (by simp))
    | bl j => cases ry; exact PySem.EqNone.eq_none_bool (fin_bl I q (by simp))
    | int j => obtain ⟨t', rfl⟩ := ry; exact PySem.EqNone.eq_none_int (fin_bl I q (by simp))
    | str j => obtain ⟨t', rfl⟩ := ry; exact PySem.EqNone.eq_none_str (fin_bl I q (by simp))
    | _ => exact absurd (show false = true from hs) Bool.false_ne_true
  | bl i =>
    cases rx
    cases y with
    | non => cases ry; exact PySem.EqNone.eq_bool_none (fin_bl I q (by simp))
    | bl j => cases ry; exact eq_bool (fin_bl I q dec_bl)
    | str j => obtain ⟨t', rfl⟩ := ry; exact PySem.EqMixed.eq_bool_str (fin_bl I q (by simp))
    | _ => exact absurd (show false = true from hs) Bool.false_ne_true
  | int i =>
    obtain ⟨t, rfl⟩ := rx
    cases y with
    | non => cases ry; exact PySem.EqNone.eq_int_none (fin_bl I q (by simp))
    | int j => obtain ⟨t', rfl⟩ := ry; exact eq_int (fin_bl I q dec_int)
    | str j => obtain ⟨t', rfl⟩ := ry; exact PySem.EqMixed.eq_int_str (fin_bl I q (by simp))
    | _ => exact absurd (show false = true from hs) Bool.false_ne_true
  | str i =>
    obtain ⟨t, rfl⟩ := rx
    cases y with
    | non => cases ry; exact PySem.EqNone.eq_str_none (fin_bl I q (by simp))
    | bl j => cases ry; exact PySem.EqMixed.eq_str_bool (fin_bl I q (by simp))
    | int j => obtain ⟨t', rfl⟩ := ry; exact PySem.EqMixed.eq_str_int (fin_bl I q (by simp))
    | str j => obtain ⟨t', rfl⟩ := ry; exact eq_str (fin_bl I q dec_str)
    | _ => exact absurd (show false = true from hs) Bool.false_ne_true
  | byt i =>
    obtain ⟨t, rfl⟩ := rx
    cases y with
    | byt j => obtain ⟨t', rfl⟩ := ry; exact PySem.W.eq_bytes (fin_bl I q dec_byt)
    | _ => exact absurd (show false = true from hs) Bool.false_ne_true
  | _ => cases y <;> exact absurd (show false = true from hs) Bool.false_ne_true
theorem op_ne : OpR X (compareOp .NotEq) rNe := by
  intro pins s σ H x y v u Q I rx ry h
  obtain ⟨hs, q⟩ := h
  cases x with
  | non =>
    cases rx
    cases y with
    | non => cases ry; exact PySem.EqNone.ne_none_none (fin_bl I q (by simp))
    | bl j => cases ry; exact PySem.EqNone.ne_none_bool (fin_bl I q (by simp))
    | int j => obtain ⟨t', rfl⟩ := ry; exact PySem.EqNone.ne_none_int (fin_bl I q (by simp))
    | str j => obtain ⟨t', rfl⟩ := ry; exact PySem.EqNone.ne_none_str (fin_bl I q (by simp))
    | _ => exact absurd (show false = true from hs) Bool.false_ne_true
  | bl i =>
    cases rx
    cases y with
    | non => cases ry; exact PySem.EqNone.ne_bool_none (fin_bl I q (by simp))
    | bl j => cases ry; exact ne_bool (fin_bl I q (congrArg not dec_bl))
    | str j => obtain ⟨t', rfl⟩ := ry; exact PySem.EqMixed.ne_bool_str (fin_bl I q (by simp))
    | _ => exact absurd (show false = true from hs) Bool.false_ne_true
  | int i =>
    obtain ⟨t, rfl⟩ := rx
    cases y with
    | non => cases ry; exact PySem.EqNone.ne_int_none (fin_bl I q (by simp))
    | int j => obtain ⟨t', rfl⟩ := ry; exact ne_int (fin_bl I q (congrArg not dec_int))
    | str j => obtain ⟨t', rfl⟩ := ry; exact PySem.EqMixed.ne_int_str (fin_bl I q (by simp))
    | _ => exact absurd (show false = true from hs) Bool.false_ne_true
  | str i =>
    obtain ⟨t, rfl⟩ := rx
    cases y with
    | non => cases ry; exact PySem.EqNone.ne_str_none (fin_bl I q (by simp))
    | bl j => cases ry; exact PySem.EqMixed.ne_str_bool (fin_bl I q (by simp))
    | int j => obtain ⟨t', rfl⟩ := ry; exact PySem.EqMixed.ne_str_int (fin_bl I q (by simp))
    | str j => obtain ⟨t', rfl⟩ := ry; exact ne_str (fin_bl I q (congrArg not dec_str))
    | _ => exact absurd (show false = true from hs) Bool.false_ne_true
  | byt i =>
    obtain ⟨t, rfl⟩ := rx
    cases y with
    | byt j => obtain ⟨t', rfl⟩ := ry; exact PySem.W.ne_bytes (fin_bl I q (congrArg not dec_byt))
    | _ => exact absurd (show false = true from hs) Bool.false_ne_true
  | _ => cases y <;> exact absurd (show false = true from hs) Bool.false_ne_true
theorem op_lt : OpR X (compareOp .Lt) (rI0 fun i j => .bl (decide (i < j))) := opB0 fun _ _ _ _ _ _ _ q => lt_int q
theorem op_le : OpR X (compareOp .LtE) (rI0 fun i j => .bl (decide (i ≤ j))) := opB0 fun _ _ _ _ _ _ _ q => le_int q
theorem op_gt : OpR X (compareOp .Gt) (rI0 fun i j => .bl (decide (j < i))) := opB0 fun _ _ _ _ _ _ _ q => gt_int q
theorem op_ge : OpR X (compareOp .GtE) (rI0 fun i j => .bl (decide (j ≤ i))) := opB0 fun _ _ _ _ _ _ _ q => ge_int q
theorem nomark (b : Expr) {op : CmpOp} (h : op ≠ .In := by decide) (h2 : op ≠ .NotIn := by decide) : behindInMarks op b = false := by
  have e1 : (op == CmpOp.In) = false := by cases op <;> first | rfl | exact absurd rfl h
  have e2 : (op == CmpOp.NotIn) = false := by cases op <;> first | rfl | exact absurd rfl h2
  cases b <;> simp [behindInMarks, e1, e2]
theorem pe_cmpR {op : CmpOp} {r : R2} (ho : OpR X (compareOp op) r) (ha : PE X a ta) (hb : PE X b tb) (hm : behindInMarks op b = false) : PE X (.Compare a [op] [b] pos) (tOp r ta tb) := by
  intro pins s σ H Q I h
  exact wpAny_Compare1 (binT ha hb I h fun v u s2 x y H2 I2 rx ry q => ho pins s2 σ H2 x y v u Q I2 rx ry q) hm
noncomputable def tTest (t : TE) : TT := fun σ H Q => t σ H fun x H' => ∃ k, x = .bl k ∧ Q k H'
theorem pt_cmpR {op : CmpOp} {r : R2} (ho : OpR X (compareOp op) r) (ha : PE X a ta) (hb : PE X b tb) (hm : behindInMarks op b = false) : PT X (.Compare a [op] [b] pos) (tTest (tOp r ta tb)) := by
  intro pins s σ H Q I h
  refine wpAny_isTrue_Compare1 (thn (ha pins s σ H _ I h) fun v s1 ⟨x, H1, I1, r1, q1⟩ => thn (hb pins s1 σ H1 _ I1 q1) fun u s2 ⟨y, H2, I2, r2, q2⟩ =>
    thn (ho pins s2 σ H2 x y v u _ I2 r1 r2 q2) fun c s3 ⟨z, H3, I3, r3, k, e, q3⟩ => ?_) hm
  subst e
  cases r3
  exact wpAny_truthy_bool ⟨H3, I3, q3⟩
def TruV (K : PySem.W.Frag) (x : V) (H : Hp) (k : Bool) : Prop :=
  match x with
  | .non => k = false
  | .bl b => k = b
  | .int i => k = (i != 0)
  | .str y => y.length ≤ sizeLine ∧ k = ((y.length : Int) != 0)
  | .byt y => y.size ≤ sizeLine ∧ k = ((y.size : Int) != 0)
  | .ref p => (∃ xs, SqL K H p xs ∧ k = !xs.isEmpty) ∨ (∃ xs, SqT K H p xs ∧ k = !xs.isEmpty) ∨ ∃ kvs, H p = some (.dK kvs) ∧ k = !kvs.isEmpty
  | _ => False
theorem isEmpty_kv {κ : Type} {kvs : List (κ × V)} {vs : List (κ × Value)} (r : KV kvs vs) : (!vs.isEmpty) = !kvs.isEmpty := by
  cases r <;> rfl
theorem isEmpty_of {xs : List V} {its : List Value} (r : Vals xs its) : (!its.toArray.isEmpty) = !xs.isEmpty := by
  cases r <;> simp
theorem line63 : (sizeLine : Nat) < 2 ^ 63 := by rw [sizeLine_eq]; decide
theorem tru_ok : TruR X (fun x H Q => ∃ k, TruV X.K x H k ∧ Q k H) := by
  intro pins s σ H x v Q I rx h
  obtain ⟨k, e, q⟩ := h
  have hl := line63
  have hs : sizeLine = 16777216 := sizeLine_eq
  cases x with
  | non =>
    cases rx
    have e' : k = false := e
    subst e'
    exact truthy_none ⟨H, I, q⟩
  | bl b =>
    cases rx
    have e' : k = b := e
    subst e'
    exact wpAny_truthy_bool ⟨H, I, q⟩
  | int i =>
    obtain ⟨t, rfl⟩ := rx
    have e' : k = (i != 0) := e
    subst e'
    exact PySem.P.truthy_int ⟨H, I, q⟩
  | str y =>
    obtain ⟨t, rfl⟩ := rx
    obtain ⟨hy, e'⟩ : y.length ≤ sizeLine ∧ k = ((y.length : Int) != 0) := e
    subst e'
    exact PySem.P.truthy_str (by omega) ⟨H, I.tok _, q⟩
  | byt y =>
    obtain ⟨t, rfl⟩ := rx
    obtain ⟨hy, e'⟩ : y.size ≤ sizeLine ∧ k = ((y.size : Int) != 0) := e
    subst e'
    exact PySem.W.truthy_bytes (by omega) ⟨H, I.tok _, q⟩
  | ref p =>
    cases rx
    have e' : (∃ xs, SqL X.K H p xs ∧ k = !xs.isEmpty) ∨ (∃ xs, SqT X.K H p xs ∧ k = !xs.isEmpty) ∨ ∃ kvs, H p = some (.dK kvs) ∧ k = !kvs.isEmpty := e
    rcases e' with ⟨xs, hx, e'⟩ | ⟨xs, hx, e'⟩ | ⟨kvs, hx, e'⟩
    · subst e'
      obtain ⟨its, r, pl, hz⟩ := I.list hx
      have hlen := r.length
      exact wpAny_truthy_list pl.isList (by simp only [List.size_toArray]; omega) ⟨H, I.tok _, by rw [isEmpty_of r]; exact q⟩
    · subst e'
      obtain ⟨its, r, pl, hz⟩ := I.tuple hx
      have hlen := r.length
      exact truthy_tuple pl (by simp only [List.size_toArray]; omega) ⟨H, I.tok _, by rw [isEmpty_of r]; exact q⟩
    · subst e'
      obtain ⟨hz, hS, vs, r, m⟩ : kvs.length ≤ sizeLine ∧ (p == sysModules) = false ∧ ∃ vs, KV kvs vs ∧ s.heap.DictOf (mixKind X.prog X.w) p vs := I.hok p _ hx
      have hlen : kvs.length = vs.length := Paired.length r
      exact wpAny_truthy_dict hS m (by omega) ⟨H, I.tok _, by rw [isEmpty_kv r]; exact q⟩
  | _ => exact (show False from e).elim
theorem pt_truth (ha : PE X a ta) (he : ∀ whole, isTrue a X.env whole = (do let v ← whole; standAt a.pos; holding [v] (truthy v))) :
    PT X a (fun σ H Q => ta σ H fun x H' => ∃ k, TruV X.K x H' k ∧ Q k H') := by
  intro pins s σ H Q I h
  exact isTrue_plain (thn (ha pins s σ H _ I h) fun v s1 ⟨x, H1, I1, r1, q1⟩ => tru_ok pins s1 σ H1 x v Q I1 r1 q1) (he _)
theorem vals1 {x : V} {us : List Value} (r : Vals [x] us) : ∃ u, us = [u] ∧ RelV x u := by
  cases r with
  | cons r1 r2 => cases r2; exact ⟨_, rfl, r1⟩
theorem vals2 {x y : V} {us : List Value} (r : Vals [x, y] us) : ∃ u w', us = [u, w'] ∧ RelV x u ∧ RelV y w' := by
  cases r with
  | cons r1 r2 =>
    cases r2 with
    | cons r3 r4 => cases r4; exact ⟨_, _, rfl, r1, r3⟩
theorem call_abs : CallR X (.builtin "abs") (fun xs H Q => ∃ i, xs = [.int i] ∧ Q (.int (if i < 0 then -i else i)) H) := by
  intro pins s σ H xs us Q I r h
  obtain ⟨i, rfl, q⟩ := h
  obtain ⟨u, rfl, t, rfl⟩ := vals1 r
  exact call_abs_int fun u tk => ⟨.int (if i < 0 then -i else i), H, I.tok _, ⟨_, rfl⟩, q⟩
theorem call_max2 (hc : X.calm = true) : CallR X (.builtin "max") (fun xs H Q => ∃ i j, xs = [.int i, .int j] ∧ Q (.int (if j > i then j else i)) H) := by
  intro pins s σ H xs us Q I r h
  obtain ⟨i, j, rfl, q⟩ := h
  obtain ⟨u, w', rfl, ⟨t, rfl⟩, ⟨t', rfl⟩⟩ := vals2 r
  refine max_two_ints (I.ok.hd hc) fun h' tk k => ⟨_, H, I.kept k, ?_, q⟩
  by_cases hj : j > i
  · rw [if_pos hj, if_pos hj]; exact ⟨_, rfl⟩
  · rw [if_neg hj, if_neg hj]; exact ⟨_, rfl⟩
theorem call_min2 (hc : X.calm = true) : CallR X (.builtin "min") (fun xs H Q => ∃ i j, xs = [.int i, .int j] ∧ Q (.int (if j < i then j else i)) H) := by
  intro pins s σ H xs us Q I r h
  obtain ⟨i, j, rfl, q⟩ := h
  obtain ⟨u, w', rfl, ⟨t, rfl⟩, ⟨t', rfl⟩⟩ := vals2 r
  refine min_two_ints (I.ok.hd hc) fun h' tk k => ⟨_, H, I.kept k, ?_, q⟩
  by_cases hj : j < i
  · rw [if_pos hj, if_pos hj]; exact ⟨_, rfl⟩
  · rw [if_neg hj, if_neg hj]; exact ⟨_, rfl⟩
theorem call_int1 : CallR X (.type "int") (fun xs H Q => (∃ i, xs = [.int i] ∧ Q (.int i) H) ∨ ∃ k, xs = [.bl k] ∧ Q (.int (if k then 1 else 0)) H) := by
  intro pins s σ H xs us Q I r h
  rcases h with ⟨i, rfl, q⟩ | ⟨k, rfl, q⟩
  · obtain ⟨u, rfl, t, rfl⟩ := vals1 r
    exact call_int_int ⟨.int i, H, I, ⟨_, rfl⟩, q⟩
  · obtain ⟨u, rfl, r1⟩ := vals1 r
    cases r1
    exact call_int_bool ⟨.int (if k then 1 else 0), H, I.tok _, ⟨_, rfl⟩, q⟩
end
end L2
namespace L2
open PySem PySem.Spec PyProof.Rows
theorem RelO.some_of {v : V} {o : Option Value} (r : RelO (some v) o) : ∃ u, o = some u ∧ RelV v u := by
  cases o with
  | none => exact (show False from r).elim
  | some u => exact ⟨u, rfl, r⟩
end L2
namespace L2
open PySem PySem.Spec PyProof.Rows
structure Room (k : Nat) (A : Around) : Prop where
  hd : A.handled = none
  dp : A.depth + 3 * k + 5 < recursionLimit
  un : A.units + 16 * k + 200 < cLine
  gd : A.guards = some [] := by rfl
theorem Room.mono {j k : Nat} {A : Around} (r : Room k A) (h : j ≤ k) : Room j A := ⟨r.hd, by have := r.dp; omega, by have := r.un; omega, r.gd⟩
theorem Room.deeper {k : Nat} {A : Around} (r : Room (k + 1) A) (env : Env) : Room k (A.deeper env) :=
  ⟨r.hd, by have := r.dp; show A.depth + 1 + 3 * k + 5 < _; omega, by have := r.un; show A.units + 3 + 16 * k + 200 < _; omega, r.gd⟩
theorem Room.depth {k : Nat} {A : Around} (r : Room k A) : A.depth < recursionLimit := by have := r.dp; omega
theorem Room.units {k : Nat} {A : Around} (r : Room k A) : A.units + 64 < cLine := by have := r.un; omega
noncomputable def tNil : TA := fun _ H Q => Q [] H
noncomputable def tCons (ta : TE) (tr : TA) : TA := fun σ H Q => ta σ H fun x H1 => tr σ H1 fun xs H2 => Q (x :: xs) H2
section
variable {X : Cx} {e : Expr} {es : List Expr} {te : TE} {t : TA} {pos : Pos}
theorem pa_nil : PA X [] tNil := fun _ _ _ _ H Q I h => Calls.spliced_nil ⟨[], H, I, .nil, h⟩
theorem pa_cons (ha : PE X e te) (hr : PA X es t) (hs : starEach (e :: es) X.env = (false, eval e X.env) :: starEach es X.env := by rfl) : PA X (e :: es) (tCons te t) := by
  intro pos pins s σ H Q I h
  rw [hs]
  show wpAny _ _ (spliced ((false, eval e X.env) :: backTo pos (starEach es X.env))) _ _ s
  refine Calls.spliced_cons (thn (ha pins s σ H _ I h) fun u s1 hq_ => ?_)
  obtain ⟨x, H1, I1, r1, q1⟩ := hq_
  exact thn (hr pos pins s1 σ H1 _ I1 q1) fun us s2 ⟨xs, H2, I2, r2, q2⟩ => ⟨x :: xs, H2, I2, .cons r1 r2, q2⟩
noncomputable def tTup (t : TA) : TE := fun σ H Q => t σ H fun xs H1 => xs.length ≤ sizeLine ∧ ∀ p, H1 p = none → Q (.ref p) (upd H1 p (.tup xs))
noncomputable def tLst (t : TA) : TE := fun σ H Q => t σ H fun xs H1 => xs.length ≤ sizeLine ∧ ∀ p, H1 p = none → Q (.ref p) (upd H1 p (.lst xs))
theorem pe_tup {x1} (h : PA X es t) : PE X (.Tuple es x1 pos) (tTup t) := by
  intro pins s σ H Q I hq
  refine wpAny_Tuple_spliced (thn (h pos pins s σ H _ I hq) fun us s1 ⟨xs, H1, I1, r, z, q⟩ => ⟨by rw [← r.length]; exact z, ?_⟩)
  have hf : H1 s1.heap.objs.size = none := I1.hok.fresh (Nat.le_refl _)
  refine ⟨.ref s1.heap.objs.size, upd H1 s1.heap.objs.size (.tup xs), I1.laid (t' := s1.toks) (fun b u e => Heap.get?_push_of_some _ e) (Nat.le_refl _) ?_, rfl, q _ hf⟩
  exact ⟨z, us, r, ⟨_, Heap.get?_push_size _ rfl, rfl, _, rfl⟩⟩
theorem pe_lst (h : PA X es t) : PE X (.List es pos) (tLst t) := by
  intro pins s σ H Q I hq
  refine wpAny_List_spliced (thn (h pos pins s σ H _ I hq) fun us s1 ⟨xs, H1, I1, r, z, q⟩ => ⟨by rw [← r.length]; exact z, ?_⟩)
  have hf : H1 s1.heap.objs.size = none := I1.hok.fresh (Nat.le_refl _)
  refine ⟨.ref s1.heap.objs.size, upd H1 s1.heap.objs.size (.lst xs), I1.laid (t' := s1.toks) (fun b u e => Heap.get?_push_of_some _ e) (Nat.le_refl _) ?_, rfl, q _ hf⟩
  exact ⟨z, us, 0, r, Heap.get?_push_size _ rfl⟩
end
noncomputable abbrev Sp := List V → Hp → VK → XK → Prop
noncomputable abbrev CXT := List Env → Hp → Shared → XK → Value → Shared → Prop
structure Env0 (P : Program) (w : World) (K : PySem.W.Frag) (mg : Str → Option Value) (base : Heap) (A : Around) (outer : List Env) (s : Shared) (H : Hp) : Prop where
  frames : A.frames = some outer
  mod : Mod K mg base
  bs : ∀ b o, base.get? b = some o → s.heap.get? b = some o ∧ H b = none
  bsz : base.objs.size ≤ s.heap.objs.size
  funs : s.heap.FunFrames base outer
  frf : ∀ b ∈ frs outer, H b = none
  hok : HOk P w H s.heap
  bare : AllBare s.gens
def CE (outer : List Env) (P : Program) (w : World) (H : Hp) (s : Shared) (Q : VK) (u : Value) (s' : Shared) : Prop :=
  ∃ v H', s'.os = s.os ∧ AllBare s'.gens ∧ Un (frs outer) [] H H' s.heap s'.heap ∧ HOk P w H' s'.heap ∧ RelV v u ∧ Q v H'
def CR (CX : CXT) (outer : List Env) (P : Program) (w : World) (H : Hp) (s : Shared) (Q : VK) (E : XK) (r : Result) (s' : Shared) : Prop :=
  match r with
  | .ok (.ret u) => CE outer P w H s Q u s'
  | .ok _ => False
  | .error e => CX outer H s E e s'
structure FnOk (P : Program) (w : World) (K : PySem.W.Frag) (mg : Str → Option Value) (base : Heap) (CX : CXT) (k : Nat) (f : Addr) (fd : FuncData) (ps : List Str) (sp : Sp) : Prop where
  len : ∀ vs H Q E, sp vs H Q E → vs.length = ps.length
  run : ∀ (A : Around) (outer : List Env) (s : Shared) (H : Hp) (args : Args) (us : List Value) (vs : List V) (Q : VK) (E : XK), Room k A → Env0 P w K mg base A outer s H → BindsTo s fd args (ps.zip us) → Vals vs us → sp vs H Q E →
    codeAny (model P w) A (.call (.ref f) args) (CR CX outer P w H s Q E) s
section
variable {X : Cx} {pins : List (Addr × Obj)} {σ : St} {H : Hp} {s s' : Shared}
theorem Inv.env0 (I : Inv X pins σ H s) : Env0 X.prog X.w X.K X.mg X.base X.A X.stack s H :=
  ⟨I.ok.frames, I.ok.mod, I.bs, Nat.le_trans I.ok.bsz I.sz, I.stack, I.stkFree, I.hok, I.bare⟩
theorem Inv.after {Q : VK} {u : Value} (I : Inv X pins σ H s) (h : CE X.stack X.prog X.w H s Q u s') : EP X pins σ Q u s' := by
  obtain ⟨v, H', os, bare, un, hok, r, q⟩ := h
  obtain ⟨hh, g, d, t, os'⟩ := s'
  obtain rfl : os' = s.os := os
  exact ⟨v, H', I.call (h' := hh) (g' := g) (d' := d) (t' := t) (ch := []) un hok bare (fun b z => absurd z (by simp)), r, q⟩
end
noncomputable def tCall (sp : Sp) (dvs : List V) (E : XK) (t : TA) : TE := fun σ H Q => t σ H fun vs H1 => sp (vs ++ dvs) H1 Q E
def Binds (K : PySem.W.Frag) (fd : FuncData) (ps : List Str) (ds : List Value) : Prop :=
  ∀ (s : Shared) (us : List Value), K.In s.heap → (us ++ ds).length = ps.length → BindsTo s fd ⟨us, []⟩ (ps.zip (us ++ ds))
theorem Binds.all {K : PySem.W.Frag} {fd : FuncData} {ps : List Str} (h : ∀ us : List Value, us.length = ps.length → bindArgs fd ⟨us, []⟩ = pure (ps.zip us)) : Binds K fd ps [] := fun s us _ hl => by
  rw [List.append_nil] at hl ⊢
  exact .of_eq (h us hl)
def Passes (CX : CXT) (X : Cx) (E : XK) : Prop := ∀ (pins : List (Addr × Obj)) (σ : St) (H : Hp) (s : Shared) (e : Value) (s' : Shared), Inv X pins σ H s → CX X.stack H s E e s' → X.xe e s'
section
variable {X : Cx} {CX : CXT} {k : Nat} {f C : Addr} {fd : FuncData} {ps : List Str} {sp : Sp} {dvs : List V} {ds : List Value} {E : XK} {x m : Str} {p pos apos : Pos} {e o : Expr} {es : List Expr} {ta : TE} {t : TA}
theorem run_fn {pins : List (Addr × Obj)} {σ : St} {H : Hp} {s : Shared} {Q : VK} {us : List Value} {vs : List V} (F : FnOk X.prog X.w X.K X.mg X.base CX k f fd ps sp) (hr : Room k X.A) (hb : Binds X.K fd ps ds) (hd : Vals dvs ds) (hx : Passes CX X E)
    (I : Inv X pins σ H s) (r : Vals vs us) (h : sp (vs ++ dvs) H Q E) : wpAny (model X.prog X.w) X.A (call (.ref f) us) (EP X pins σ Q) X.xe s := by
  have r2 : Vals (vs ++ dvs) (us ++ ds) := r.append hd
  have hl : (us ++ ds).length = ps.length := by rw [← r2.length]; exact F.len _ _ _ _ h
  refine wpAny_call (codeAny_mono (F.run X.A X.stack s H ⟨us, []⟩ (us ++ ds) (vs ++ dvs) Q E hr I.env0 (hb s us I.kIn hl) r2 h) fun r s' hq => ?_)
  cases r with
  | error e => exact hx pins σ H s e s' I hq
  | ok fl =>
    cases fl with
    | ret u => exact I.after hq
    | next => exact False.elim hq
    | brk => exact False.elim hq
    | cont => exact False.elim hq
theorem pe_call (F : FnOk X.prog X.w X.K X.mg X.base CX k f fd ps sp) (hr : Room k X.A) (hg : Gl X x) (hm : X.mg x = some (.ref f)) (hk : PySem.W.keepIn X.K (.ref f) = true) (hb : Binds X.K fd ps ds) (hd : Vals dvs ds) (hx : Passes CX X E)
    (ha : PA X (e :: es) t) (hdb : (x == ("__debug__" : Str)) = false := by decide) (he : starEach (e :: es) X.env = (false, eval e X.env) :: starEach es X.env := by rfl) (hpl : (backTo pos (starEach es X.env)).any (·.1) = false := by rfl) :
    PE X (.Call (.Name x p) (e :: es) [] pos) (tCall sp dvs E t) := by
  intro pins s σ H Q I h
  refine wpAny_Call_Name_kw (ld_glob I hg hm ?_ hdb)
  refine PySem.W.callWith_K (h₀ := X.base) I.ok.mod.kin hk (thn (ha pos pins s σ H _ I h) fun us s1 ⟨vs, H1, I1, r, q⟩ => ⟨I1.kIn, ?_⟩) he hpl
  exact run_fn F hr hb hd hx I1 r q
end
section
variable {X : Cx} {CX : CXT} {k : Nat} {f C : Addr} {fd : FuncData} {ps ks : List Str} {sp : Sp} {E : XK} {x m : Str} {p pos apos kpos : Pos} {e o : Expr} {es : List Expr} {kws : List Keyword} {te ta : TE} {t tk : TA} {nm : Option Str}
variable {g : List Value → List Value → List Value} {gV : List V → List V → List V}
end
structure FnScope (N P : List Str) (sc : Scope) : Prop where
  kind : sc.kind = .function
  co : sc.isCoroutine = false
  gen : sc.isGenerator = false
  nd : N.Nodup
  pre : N.take P.length = P
  par : ∀ x ∈ P, sc.names.lookup x = some .local ∨ sc.names.lookup x = some .cell
  nofree : ∀ y ∈ sc.names, y.2 ≠ .free
theorem bindL_out {kindOf : Str → Option NameKind} {x : Str} : ∀ {binds : List (Str × Value)} {m : Str → Option Value}, (∀ v, (x, v) ∉ binds) → bindL kindOf binds m x = m x
  | [], _, _ => rfl
  | (n, v) :: r, m, h => by
    unfold bindL
    rw [bindL_out fun w hw => h w (List.mem_cons_of_mem _ hw)]
    split
    · have : x ≠ n := by rintro rfl; exact h v List.mem_cons_self
      simp [this]
    · rfl
theorem bindC_out {kindOf : Str → Option NameKind} {x : Str} : ∀ {binds : List (Str × Value)} {m : Str → Option Value}, (∀ v, (x, v) ∉ binds) → bindC kindOf binds m x = m x
  | [], _, _ => rfl
  | (n, v) :: r, m, h => by
    unfold bindC
    rw [bindC_out fun w hw => h w (List.mem_cons_of_mem _ hw)]
    split
    · rfl
    · have : x ≠ n := by rintro rfl; exact h v List.mem_cons_self
      simp [this]
theorem bindL_get {kindOf : Str → Option NameKind} {x : Str} {v : Value} : ∀ {P : List Str} {vs : List Value} {i : Nat} {m : Str → Option Value}, P.Nodup → P[i]? = some x → vs[i]? = some v → kindOf x = some .local →
    bindL kindOf (P.zip vs) m x = some v
  | [], _, _, _, _, h, _, _ => by simp at h
  | _ :: _, [], _, _, _, _, h, _ => by simp at h
  | p :: P, w :: vs, 0, m, nd, h1, h2, hk => by
    simp at h1 h2; subst h1; subst h2
    show bindL kindOf ((p, w) :: P.zip vs) m p = _
    unfold bindL
    rw [bindL_out fun v hv => (List.nodup_cons.mp nd).1 (List.of_mem_zip hv).1, if_pos hk]
    simp
  | p :: P, w :: vs, i + 1, m, nd, h1, h2, hk => by
    show bindL kindOf ((p, w) :: P.zip vs) m x = _
    unfold bindL
    exact bindL_get (i := i) (List.nodup_cons.mp nd).2 (by simpa using h1) (by simpa using h2) hk
theorem bindC_get {kindOf : Str → Option NameKind} {x : Str} {v : Value} : ∀ {P : List Str} {vs : List Value} {i : Nat} {m : Str → Option Value}, P.Nodup → P[i]? = some x → vs[i]? = some v → kindOf x ≠ some .local →
    bindC kindOf (P.zip vs) m x = some v
  | [], _, _, _, _, h, _, _ => by simp at h
  | _ :: _, [], _, _, _, _, h, _ => by simp at h
  | p :: P, w :: vs, 0, m, nd, h1, h2, hk => by
    simp at h1 h2; subst h1; subst h2
    show bindC kindOf ((p, w) :: P.zip vs) m p = _
    unfold bindC
    rw [bindC_out fun v hv => (List.nodup_cons.mp nd).1 (List.of_mem_zip hv).1, if_neg hk]
    simp
  | p :: P, w :: vs, i + 1, m, nd, h1, h2, hk => by
    show bindC kindOf ((p, w) :: P.zip vs) m x = _
    unfold bindC
    exact bindC_get (i := i) (List.nodup_cons.mp nd).2 (by simpa using h1) (by simpa using h2) hk
noncomputable def start (N : List Str) (vs : List V) : St := vs.map some ++ List.replicate (N.length - vs.length) none
noncomputable def cxOf (CX : CXT) (P : Program) (w : World) (K : PySem.W.Frag) (mg : Str → Option Value) (base : Heap) (N : List Str) (qual : Str) (scope : Scope) (f : Addr) (cd : Value) (A : Around) (outer : List Env) (s : Shared) (H : Hp) (E : XK) : Cx where
  prog := P
  w := w
  K := K
  mg := mg
  base := base
  A := A.deeper (envOfC qual scope s.heap.objs.size f cd)
  N := N
  s₀ := s
  H₀ := H
  env := envOfC qual scope s.heap.objs.size f cd
  outer := outer
  stack := envOfC qual scope s.heap.objs.size f cd :: outer
  ex := []
  calm := true
  fn := fun _ => true
  pn := []
  xe := fun e s' => wpAny (model P w) (A.deeper (envOfC qual scope s.heap.objs.size f cd)) (leaving (envOfC qual scope s.heap.objs.size f cd) e) (fun _ s'' => CX outer H s E e s'') (fun e' s'' => CX outer H s E e' s'') s'
theorem cell_has {sc : Scope} {n : Nat} {x : Str} (h : sc.names.lookup x = some .cell) : ∃ c, (cellsFrom n sc.names []).lookup x = some c := by
  have q := PySem.W.cellsFrom_some sc.names n [] (.inl h)
  exact Option.isSome_iff_exists.mp q
theorem inv_start {CX : CXT} {P : Program} {w : World} {K : PySem.W.Frag} {mg : Str → Option Value} {base : Heap} {N ps : List Str} {qual : Str} {scope : Scope} {f : Addr} {cd : Value} {A : Around} {outer : List Env} {s s1 : Shared} {H : Hp} {E : XK} {us : List Value} {vs : List V}
    (S : FnScope N ps scope) (hd : A.handled = none) (e0 : Env0 P w K mg base A outer s H) (hl : vs.length = ps.length) (r : Vals vs us)
    (x : InCallC s s.heap.objs.size (bindL (envOfC qual scope s.heap.objs.size f cd).kindOf (ps.zip us) fun _ => none) (cellsFrom (s.heap.objs.size + 1) scope.names []) (bindC (envOfC qual scope s.heap.objs.size f cd).kindOf (ps.zip us) fun _ => none) s1) :
    Inv (cxOf CX P w K mg base N qual scope f cd A outer s H E) [] (start N vs) H s1 := by
  have hpl : ps.length ≤ N.length := by have := congrArg List.length S.pre; rw [List.length_take] at this; omega
  obtain ⟨h1, tk, rfl, hk⟩ := x.done
  have noA : ∀ b : Addr, b ∉ (cxOf CX P w K mg base N qual scope f cd A outer s H E).ex := fun b z => absurd (show b ∈ ([] : List Addr) from z) (by simp)
  refine ⟨⟨e0.mod, S.kind, rfl, rfl, Nat.le_refl _, fun y z c h1 h2 => ?_, fun y hy => ?_, fun y c _ h => ?_, fun _ => hd, Around.frames_deeper e0.frames, .inr ⟨rfl, rfl⟩, fun b z => absurd z (noA b), e0.bs, e0.bsz, fun b _ _ => noA b, fun b z => absurd z (noA b), e0.funs, e0.frf⟩,
    rfl, e0.bare, Un.kept hk, ⟨_, x.toInCall.ns, fun i y v h1 h2 h3 => ?_⟩, fun y c h => ⟨_, x.cell y c h⟩, e0.hok.fresh (Nat.le_refl _), fun y c h => ?_, fun p hp => absurd (show p ∈ ([] : List (Addr × Obj)) from hp) (by simp), e0.hok.kept hk, ?_⟩
  · exact name_of_addr x.apart (PySem.mem_of_lookup h1) (PySem.mem_of_lookup h2)
  · have hy : scope.names.lookup y = some .cell ∨ scope.names.lookup y = some .free := hy
    rcases hy with hy | hy
    · exact cell_has hy
    · exact absurd rfl (S.nofree _ (PySem.mem_of_lookup hy))
  · exact Nat.le_of_lt (x.above y c (PySem.mem_of_lookup h))
  · have hi : i < vs.length := by
      unfold start at h2
      by_cases hi : i < vs.length
      · exact hi
      · rw [List.getElem?_append_right (by simpa using hi)] at h2
        rw [List.getElem?_replicate] at h2
        split at h2 <;> cases h2
    have ha : vs[i]? = some v := by
      unfold start at h2
      rw [List.getElem?_append_left (by simpa using hi), List.getElem?_map] at h2
      cases e : vs[i]? with
      | none => rw [e] at h2; cases h2
      | some a => rw [e] at h2; cases h2; rfl
    obtain ⟨u, hu, rv⟩ := r.get ha
    have hp : ps[i]? = some y := by
      rw [← S.pre, List.getElem?_take_of_lt (by omega)]; exact h1
    have ndP : ps.Nodup := by rw [← S.pre]; exact S.nd.sublist (List.take_sublist _ _)
    refine ⟨u, rv, ?_⟩
    rcases S.par y (List.mem_of_getElem? hp) with k | k
    · exact .inl ⟨k, bindL_get ndP hp hu k⟩
    · obtain ⟨c, e⟩ := cell_has (n := s.heap.objs.size + 1) k
      refine .inr ⟨.inl k, c, e, ?_⟩
      have q := x.cell y c e
      rw [bindC_get ndP hp hu (by show scope.names.lookup y ≠ _; rw [k]; decide)] at q
      exact q
  · exact e0.hok.fresh (Nat.le_of_lt (x.above y c (PySem.mem_of_lookup h)))
  · unfold start
    show _ = N.length
    rw [List.length_append, List.length_map, List.length_replicate]
    omega
theorem fn_of {CX : CXT} {P : Program} {w : World} {K : PySem.W.Frag} {mg : Str → Option Value} {base : Heap} {k : Nat} {f : Addr} {name qual : Str} {params : Arguments} {body : List Stmt} {scope : Scope} {dV kV doc pm cdv ct oc : Value} {an od : Option Addr}
    {osl : Array (Option Value)} {N ps : List Str} {sp : Sp} (lk : K.lookup f = some ⟨oc, od, .func (PySem.W.fnOf name qual params body scope dV kV doc pm an cdv ct), osl⟩) (hcd : PySem.W.codeIn K cdv qual = true) (S : FnScope N ps scope)
    (len : ∀ vs H Q E, sp vs H Q E → vs.length = ps.length)
    (hbody : ∀ (A : Around) (outer : List Env) (s : Shared) (H : Hp) (vs : List V) (Q : VK) (E : XK), Room k (A.deeper (envOfC qual scope s.heap.objs.size f cdv)) → sp vs H Q E →
      ∃ t, PSs (cxOf CX P w K mg base N qual scope f cdv A outer s H E) body t ∧ t { nx := fun _ H' => Q .non H', rt := Q } (start N vs) H) :
    FnOk P w K mg base CX (k + 1) f (PySem.W.fnOf name qual params body scope dV kV doc pm an cdv ct) ps sp := by
  refine ⟨len, fun A outer s H args us vs Q E hr e0 hb r hsp => ?_⟩
  have hl := len _ _ _ _ hsp
  have KX : K.In s.heap := e0.mod.kin.keeps fun b o e => (e0.bs b o e).1
  have lim : s.heap.NoLimit := e0.mod.nolimit.keeps fun b o e => (e0.bs b o e).1
  have hkind : ∀ y ∈ ps.zip us, scope.names.lookup y.1 = some .local ∨ (scope.names.lookup y.1 = some .cell ∧ ((cellsFrom (s.heap.objs.size + 1) scope.names []).lookup y.1).isSome = true) := fun ⟨n, v⟩ hy => by
    rcases S.par n (List.of_mem_zip hy).1 with q | q
    · exact .inl q
    · exact .inr ⟨q, PySem.W.cellsFrom_some _ _ _ (.inl q)⟩
  refine codeAny_call_function hr.depth (KX _ _ lk) rfl S.co S.gen rfl (PySem.W.codeRec_of KX hcd) (hb _ _ _ _ ?_)
  refine wpAny_newFunctionEnv_cells S.kind hkind fun env he s1 x => ?_
  subst he
  refine ⟨lim.keeps x.toInCall.keep, codeAny_func ?_⟩
  obtain ⟨t, ht, hq⟩ := hbody A outer s H vs Q E (hr.deeper _) hsp
  have I : Inv (cxOf CX P w K mg base N qual scope f cdv A outer s H E) [] (start N vs) H s1 := inv_start S hr.hd e0 hl r x
  refine wpAny_mono (ht [] s1 (start N vs) H _ I hq) (fun fl s' hs => ?_) fun e s' hs => hs
  have fin : ∀ {σ' : St} {H' : Hp} {v : V} {u : Value}, Inv (cxOf CX P w K mg base N qual scope f cdv A outer s H E) [] σ' H' s' → RelV v u → Q v H' → CE outer P w H s Q u s' :=
    fun {σ' H' v u} J rv q => ⟨v, H', J.os, J.bare, J.base, J.hok, rv, q⟩
  cases fl with
  | ret u =>
    obtain ⟨v, σ', H', J, rv, q⟩ := hs
    exact fin J rv q
  | next =>
    obtain ⟨σ', H', J, q⟩ := hs
    exact fin (v := V.non) (u := Value.none) J rfl q
  | brk =>
    obtain ⟨_, _, _, q⟩ := hs
    exact False.elim q
  | cont =>
    obtain ⟨_, _, _, q⟩ := hs
    exact False.elim q
end L2
namespace L2
open PySem PySem.Spec PyProof.Rows
section
variable {X : Cx} {x : Str} {p pos : Pos} {e : Expr} {es : List Expr} {t : TA} {id T : String} {r : List V → Hp → VK → Prop}
noncomputable def tCB (r : List V → Hp → VK → Prop) (t : TA) : TE := fun σ H Q => t σ H fun vs H1 => r vs H1 Q
theorem pe_callB (hc : CallR X (.builtin id) r) (hg : Gl X x) (hm : X.mg x = none) (hv : bootBuiltins x = some (.builtin id)) (ha : PA X (e :: es) t) (hn : x ≠ "__name__" := by decide) (hdb : (x == ("__debug__" : Str)) = false := by decide)
    (he : starEach (e :: es) X.env = (false, eval e X.env) :: starEach es X.env := by rfl) (hpl : (backTo pos (starEach es X.env)).any (·.1) = false := by rfl) : PE X (.Call (.Name x p) (e :: es) [] pos) (tCB r t) := by
  intro pins s σ H Q I h
  refine wpAny_Call_Name_kw (ld_blt I hg hm hv ?_ hn hdb)
  exact PyProof.Rows.callWith_builtin1 (thn (ha pos pins s σ H _ I h) fun us s1 ⟨vs, H1, I1, r1, q1⟩ => hc pins s1 σ H1 vs us Q I1 r1 q1) he hpl
theorem pe_callTy (hc : CallR X (.type T) r) (hg : Gl X x) (hm : X.mg x = none) (hv : bootBuiltins x = some (.type T)) (ha : PA X (e :: es) t) (hn : x ≠ "__name__" := by decide) (hdb : (x == ("__debug__" : Str)) = false := by decide)
    (he : starEach (e :: es) X.env = (false, eval e X.env) :: starEach es X.env := by rfl) (hpl : (backTo pos (starEach es X.env)).any (·.1) = false := by rfl) : PE X (.Call (.Name x p) (e :: es) [] pos) (tCB r t) := by
  intro pins s σ H Q I h
  refine wpAny_Call_Name_kw (ld_blt I hg hm hv ?_ hn hdb)
  exact PyProof.Rows.callWith_type1 (thn (ha pos pins s σ H _ I h) fun us s1 ⟨vs, H1, I1, r1, q1⟩ => hc pins s1 σ H1 vs us Q I1 r1 q1) he hpl
end
end L2
namespace HT
open PySem PyProof.Rows
section
open PySem.SeqAt
open PySem.AutoSeq1 (wpAny_loadPart')
open PySem.MeetsSeq PySem.MeetsSeq2 PySem.MeetsSeq3
end
section
variable {prog : Program} {w : World} {A : Around} {E : Value → Shared → Prop} {s : Shared}
noncomputable def sIx (n d : Nat) : Option Int → Nat
  | none => d
  | some v => if v < 0 then (v + (n : Int)).toNat else min v.toNat n
theorem sIx_none (n d : Nat) : sIx n d none = d := rfl
theorem sIx_nat (n d k : Nat) : sIx n d (some (k : Int)) = min k n := by
  show (if (k : Int) < 0 then ((k : Int) + (n : Int)).toNat else min (k : Int).toNat n) = min k n
  rw [if_neg (by omega), Int.toNat_natCast]
theorem sIx_le (n d : Nat) (hd : d ≤ n) (o : Option Int) : sIx n d o ≤ n := by
  cases o with
  | none => exact hd
  | some v =>
    show (if v < 0 then (v + (n : Int)).toNat else min v.toNat n) ≤ n
    by_cases hv : v < 0
    · rw [if_pos hv]; omega
    · rw [if_neg hv]; exact Nat.min_le_right _ _
theorem clip_eq (v : Int) (n d : Nat) : (if v < 0 then max (v + (n : Int)) 0 else min v (n : Int)) = ((sIx n d (some v) : Nat) : Int) := by
  show (if v < 0 then max (v + (n : Int)) 0 else min v (n : Int)) = (((if v < 0 then (v + (n : Int)).toNat else min v.toNat n) : Nat) : Int)
  by_cases hv : v < 0
  · simp only [if_pos hv]; omega
  · simp only [if_neg hv]; omega
theorem adjust_gen (lo hi : Option Int) (n : Nat) : Builtin.Slice.sliceAdjust lo hi 1 (n : Int) = (((sIx n 0 lo : Nat) : Int), ((sIx n n hi : Nat) : Int)) := by
  have h1 : ¬ ((1 : Int) < 0) := by omega
  unfold Builtin.Slice.sliceAdjust
  simp only [h1, if_false]
  refine Prod.ext ?_ ?_
  · cases lo with
    | none => rfl
    | some v => exact clip_eq v n 0
  · cases hi with
    | none => rfl
    | some v => exact clip_eq v n n
theorem places_gen (i j : Nat) : Builtin.Slice.slicePlaces (i : Int) (j : Int) 1 = j - i := by
  unfold Builtin.Slice.slicePlaces
  have h1 : (1 : Int) > 0 := by omega
  simp only [h1, if_true, Int.ediv_one]
  split <;> omega
theorem slicePart_ {v : Value} {o : Option Int} {Q : Option Int → Shared → Prop} (p : IsPart v o) (h : Q o s) : wpAny (model prog w) A (Builtin.Slice.slicePartIndex v) Q E s := by
  cases p with
  | none => exact slicePart_none h
  | int i t => exact slicePart_int h
theorem sliceApplied_gen {sl : Addr} {vl vu : Value} {lo hi : Option Int} {n : Nat} {Q : Int × Int × Nat → Shared → Prop} (hs : s.heap.IsSliceOf sl vl vu .none) (pl : IsPart vl lo) (pu : IsPart vu hi)
    (h : Q (((sIx n 0 lo : Nat) : Int), 1, sIx n n hi - sIx n 0 lo) s) : wpAny (model prog w) A (Builtin.Slice.sliceApplied (.ref sl) (pure (n : Int))) Q E s := by
  obtain ⟨os, hos, hcs, hds⟩ := id hs
  unfold Builtin.Slice.sliceApplied Builtin.Slice.sliceFields
  refine wpAny_bind (wpAny_bind (wpAny_field hos hds (x := vl) rfl (wpAny_bind (wpAny_field hos hds (x := vu) rfl (wpAny_bind (wpAny_field hos hds (x := .none) rfl (wpAny_pure ?_)))))))
  refine wpAny_bind (slicePart_none ?_)
  show wpAny _ _ (if ((1 : Int) == 0) = true then _ else _) _ _ s
  rw [if_neg (by decide)]
  refine wpAny_bind (slicePart_ pl (wpAny_bind (slicePart_ pu (wpAny_bind (wpAny_pure ?_)))))
  show wpAny _ _ (match Builtin.Slice.sliceAdjust lo hi 1 (n : Int) with | (lo, hi) => pure (lo, (1 : Int), Builtin.Slice.slicePlaces lo hi 1)) _ _ s
  rw [adjust_gen lo hi n]
  show wpAny _ _ (pure (((sIx n 0 lo : Nat) : Int), (1 : Int), Builtin.Slice.slicePlaces ((sIx n 0 lo : Nat) : Int) ((sIx n n hi : Nat) : Int) 1)) _ _ s
  rw [places_gen]
  exact wpAny_pure h
theorem pick_gen (xs : Array Value) (i k : Nat) : ((List.range k).filterMap fun (m : Nat) => xs[((i : Int) + (m : Int) * 1).toNat]?).toArray = ((xs.toList.drop i).take k).toArray := by
  have e : (fun (m : Nat) => xs[((i : Int) + (m : Int) * 1).toNat]?) = fun m => xs[i + m]? := by
    funext m
    have : ((i : Int) + (m : Int) * 1).toNat = i + m := by omega
    rw [this]
  rw [e]
  have := pick_run xs i k
  rw [List.filterMap_map] at this
  have e2 : ((fun x => xs[x]?) ∘ fun x => i + x) = fun m => xs[i + m]? := rfl
  rw [e2] at this
  rw [this]
theorem getItem_tuple_cut {t sl : Addr} {items : Array Value} {vl vu : Value} {lo hi : Option Int} {Q : Value → Shared → Prop} (ht : IsTup s.heap t items) (hs : s.heap.IsSliceOf sl vl vu .none) (pl : IsPart vl lo) (pu : IsPart vu hi)
    (hw : ¬ (sIx items.size 0 lo = 0 ∧ sIx items.size items.size hi = items.size))
    (h : Q (.ref s.heap.objs.size) { s with heap := s.heap.push { cls := .type "tuple", data := .seq ((items.toList.drop (sIx items.size 0 lo)).take (sIx items.size items.size hi - sIx items.size 0 lo)).toArray } })
    (hsz : items.size ≤ sizeLine) : wpAny (model prog w) A (getItem (.ref t) (.ref sl)) Q E s := by
  have htake : sizeOk (.seq ((items.toList.drop (sIx items.size 0 lo)).take (sIx items.size items.size hi - sIx items.size 0 lo)).toArray) := by
    show ((items.toList.drop (sIx items.size 0 lo)).take (sIx items.size items.size hi - sIx items.size 0 lo)).toArray.size ≤ sizeLine
    rw [List.size_toArray, List.length_take, List.length_drop, Array.length_toList]
    omega
  have hj : sIx items.size items.size hi ≤ items.size := sIx_le _ _ (Nat.le_refl _) hi
  obtain ⟨os, hos, hcs, hds⟩ := id hs
  have hTs : s.TypeIs (.ref sl) "slice" := ⟨os, hos, hcs⟩
  unfold getItem
  try with_reducible refine wpAny_holding ?_
  first | refine wpAny_bind (wpAny_pure ?_) | skip
  refine wpAny_bind (wpAny_sequenceKey ht.typeIs (by decide) ?_)
  refine wpAny_bind (wpAny_callSpecial?_slot (name := Str.ofString "__getitem__") ht.typeIs PyProof.Rows.slot_tuple_getitem
    (wpAny_call_entry PyProof.Rows.slot_tuple_getitem ht.typeIs entry_tuple_getitem ?_ (args_tuple_getitem _ _)))
  show wpAny _ _ (Builtin.Tuple.tupleItemsOf (.ref t) >>= _) _ _ s
  refine wpAny_bind (tupleItemsOf_ ht ?_)
  refine wpAny_bind (wpAny_typeOf hTs ?_)
  rw [if_pos (by decide)]
  refine wpAny_bind (sliceApplied_gen hs pl pu ?_)
  have hno : ¬ ((((sIx items.size 0 lo : Nat) : Int) == 0 && (1 : Int) == 1 && (sIx items.size items.size hi - sIx items.size 0 lo) == items.size) = true) := by
    intro q
    rw [Bool.and_eq_true, Bool.and_eq_true] at q
    have q1 : ((sIx items.size 0 lo : Nat) : Int) = 0 := eq_of_beq q.1.1
    have q2 : sIx items.size items.size hi - sIx items.size 0 lo = items.size := eq_of_beq q.2
    exact hw ⟨by omega, by omega⟩
  show wpAny _ _ (if (((sIx items.size 0 lo : Nat) : Int) == 0 && (1 : Int) == 1 && (sIx items.size items.size hi - sIx items.size 0 lo) == items.size) = true then _ else _) _ _ s
  rw [if_neg hno, pick_gen]
  first
    | exact wpAny_bind (m := Builtin.Tuple.tupleExact _) (wpAny_newObj_type (wpAny_pure ⟨_, rfl, wpAny_pure h⟩) htake)
    | exact wpAny_bind (m := Builtin.Tuple.tupleExact _) (wpAny_newObj_type (wpAny_bind (wpAny_pure (wpAny_pure ⟨_, rfl, wpAny_pure h⟩))) htake)
    | exact wpAny_bind (wpAny_bind (m := Builtin.Tuple.tupleExact _) (wpAny_newObj_type (wpAny_pure (wpAny_pure ⟨_, rfl, wpAny_pure h⟩)) htake))
    | exact wpAny_bind (wpAny_bind (m := Builtin.Tuple.tupleExact _) (wpAny_newObj_type (wpAny_pure ⟨_, rfl, wpAny_pure h⟩) htake))
end
end HT
namespace L2
open PySem PySem.Spec PyProof.Rows
noncomputable abbrev TO := St → Hp → (Option Int → Hp → Prop) → Prop
def PO (X : Cx) (e : Option Expr) (t : TO) : Prop :=
  ∀ (pins : List (Addr × Obj)) (s : Shared) (σ : St) (H : Hp) (Q : Option Int → Hp → Prop), Inv X pins σ H s → t σ H Q →
    wpAny (model X.prog X.w) X.A (evalPart e X.env) (fun u s' => ∃ o H', Inv X pins σ H' s' ∧ IsPart u o ∧ Q o H') X.xe s
noncomputable def tNoPart : TO := fun _ H Q => Q none H
noncomputable def tPart (t : TE) : TO := fun σ H Q => t σ H fun x H1 => ∃ i, x = .int i ∧ Q (some i) H1
theorem intsAre_of {ns : List Int} : ∀ {us : List Value}, Vals (ns.map V.int) us → IntsAre us ns := by
  induction ns with
  | nil => intro us r; rw [List.map_nil] at r; cases r; exact .nil
  | cons n ns ih =>
    intro us r
    rw [List.map_cons] at r
    cases r with
    | cons r1 r2 =>
      obtain ⟨t, e⟩ := r1
      subst e
      exact .cons n t (ih r2)
section
variable {X : Cx} {e : Expr} {te : TE} {lo hi : Option Expr} {tl th : TO} {pos p2 : Pos}
theorem po_none : PO X none tNoPart := by
  intro pins s σ H Q I h
  rw [evalPart_none]
  exact wpAny_pure ⟨none, H, I, .none, h⟩
theorem po_some (h : PE X e te) : PO X (some e) (tPart te) := by
  intro pins s σ H Q I hw
  rw [evalPart_some]
  refine thn (h pins s σ H _ I hw) fun u s1 hq_ => ?_
  obtain ⟨x, H1, I1, r1, q1⟩ := hq_
  obtain ⟨i, rfl, q⟩ := q1
  obtain ⟨t, rfl⟩ := r1
  exact ⟨some i, H1, I1, .int i t, q⟩
def SlR (X : Cx) (r : V → Option Int → Option Int → Hp → VK → Prop) : Prop :=
  ∀ (pins : List (Addr × Obj)) (s : Shared) (σ : St) (H : Hp) (x : V) (v vl vu : Value) (lo hi : Option Int) (sl : Addr) (Q : VK), Inv X pins σ H s → RelV x v → s.heap.IsSliceOf sl vl vu .none → IsPart vl lo → IsPart vu hi → r x lo hi H Q →
    ∃ T id, typeLookup (.type T) "__getitem__" = pure (some (.builtin id)) ∧ s.TypeIs v T ∧ wpAny (model X.prog X.w) X.A (getItem v (.ref sl)) (EP X pins σ Q) X.xe s
noncomputable def tSl (r : V → Option Int → Option Int → Hp → VK → Prop) (te : TE) (tl th : TO) : TE := fun σ H Q => te σ H fun x H1 => tl σ H1 fun l H2 => th σ H2 fun u H3 => r x l u H3 Q
theorem pe_slice {r : V → Option Int → Option Int → Hp → VK → Prop} (hr : SlR X r) (he : PE X e te) (hl : PO X lo tl) (hu : PO X hi th) : PE X (.Subscript e (.Slice lo hi none p2) pos) (tSl r te tl th) := by
  intro pins s σ H Q I h
  refine Subscript_ (thn (he pins s σ H _ I h) fun v s1 hq_ => ?_)
  obtain ⟨x, H1, I1, r1, q1⟩ := hq_
  refine wpAny_Slice (thn (hl pins s1 σ H1 _ I1 q1) fun vl s2 ⟨l, H2, I2, pl, q2⟩ => thn (hu pins s2 σ H2 _ I2 q2) fun vu s3 hq_ => ?_)
  obtain ⟨u, H3, I3, pu, q3⟩ := hq_
  rw [evalPart_none]
  refine wpAny_pure ?_
  have I4 : Inv X pins σ H3 { s3 with heap := s3.heap.push { cls := .type "slice", data := .fields #[vl, vu, .none] } } := I3.kept (t' := s3.toks) fun b ob q => Heap.get?_push_of_some _ q
  obtain ⟨T, id, hT, ht, hg⟩ := hr pins { s3 with heap := s3.heap.push { cls := .type "slice", data := .fields #[vl, vu, .none] } } σ H3 x v vl vu l u s3.heap.objs.size Q I4 r1 (Heap.IsSliceOf.new ..) pl pu q3
  show wpAny (model X.prog X.w) X.A (subscriptTail e (.Slice lo hi none p2) v (.ref s3.heap.objs.size)) (EP X pins σ Q) X.xe { s3 with heap := s3.heap.push { cls := .type "slice", data := .fields #[vl, vu, .none] } }
  exact tail_any (ops := [.ref s3.heap.objs.size, v]) ht hT hg (by with_unfolding_all rfl)
noncomputable def cutV (xs : List V) (lo hi : Option Int) : List V := (xs.drop (HT.sIx xs.length 0 lo)).take (HT.sIx xs.length xs.length hi - HT.sIx xs.length 0 lo)
theorem cutV_length (xs : List V) (lo hi : Option Int) : (cutV xs lo hi).length ≤ xs.length := by
  unfold cutV
  rw [List.length_take, List.length_drop]
  omega
noncomputable def rSlT (K : PySem.W.Frag) : V → Option Int → Option Int → Hp → VK → Prop := fun x lo hi H Q => ∃ a xs, x = .ref a ∧ SqT K H a xs ∧
  ¬ (HT.sIx xs.length 0 lo = 0 ∧ HT.sIx xs.length xs.length hi = xs.length) ∧ ∀ p, H p = none → Q (.ref p) (upd H p (.tup (cutV xs lo hi)))
theorem sl_tup : SlR X (rSlT X.K) := by
  intro pins s σ H x v vl vu lo hi sl Q I rx hs pl pu h
  obtain ⟨a, xs, rfl, hx, hw, q⟩ := h
  cases rx
  obtain ⟨its, r, ht, hz⟩ := I.tuple hx
  have hlen : its.toArray.size = xs.length := by rw [List.size_toArray]; exact r.length.symm
  refine ⟨"tuple", _, PyProof.Rows.slot_tuple_getitem.lookup, ht.typeIs, ?_⟩
  refine HT.getItem_tuple_cut ht hs pl pu (by rw [hlen]; exact hw) ?_ (by rw [hlen]; exact hz)
  rw [hlen]
  refine ⟨.ref s.heap.objs.size, _, I.laid (t' := s.toks) (o := .tup (cutV xs lo hi)) (fun b ob q => Heap.get?_push_of_some _ q) (Nat.le_refl _) ?_, rfl, q _ (I.hok.fresh (Nat.le_refl _))⟩
  exact ⟨Nat.le_trans (cutV_length xs lo hi) hz, _, (r.drop (HT.sIx xs.length 0 lo)).take (HT.sIx xs.length xs.length hi - HT.sIx xs.length 0 lo), IsTup.new _ _⟩
end
end L2
namespace L2
open PySem PySem.Spec PyProof.Rows
noncomputable def ixN (n : Nat) (i : Int) : Option Nat := if 0 ≤ i then (if i < n then some i.toNat else none) else if -(n : Int) ≤ i then some (i + n).toNat else none
noncomputable def atI {α : Type} (xs : List α) (i : Int) : Option α := (ixN xs.length i).bind fun j => xs[j]?
theorem ixN_seq {n : Nat} {i : Int} {j : Nat} (h : ixN n i = some j) : seqIndex? i n = some j ∧ j < n ∧ -(n : Int) ≤ i ∧ i < n := by
  unfold ixN at h
  by_cases h0 : 0 ≤ i
  · rw [if_pos h0] at h
    by_cases h1 : i < n
    · rw [if_pos h1] at h
      have e : i.toNat = j := Option.some.inj h
      exact ⟨by rw [seqIndex_of h0 h1, e], by omega, by omega, h1⟩
    · rw [if_neg h1] at h; cases h
  · rw [if_neg h0] at h
    by_cases h1 : -(n : Int) ≤ i
    · rw [if_pos h1] at h
      have e : (i + n).toNat = j := Option.some.inj h
      exact ⟨by rw [seqIndex_neg (by omega) h1, e], by omega, h1, by omega⟩
    · rw [if_neg h1] at h; cases h
theorem atI_get {α : Type} {xs : List α} {i : Int} {v : α} (h : atI xs i = some v) : ∃ j, seqIndex? i xs.length = some j ∧ xs[j]? = some v ∧ j < xs.length ∧ -(xs.length : Int) ≤ i ∧ i < xs.length := by
  unfold atI at h
  cases e : ixN xs.length i with
  | none => rw [e] at h; cases h
  | some j =>
    rw [e] at h
    obtain ⟨h1, h2, h3, h4⟩ := ixN_seq e
    exact ⟨j, h1, h, h2, h3, h4⟩
theorem atI_nat {α : Type} {xs : List α} {j : Nat} {v : α} (h : xs[j]? = some v) : atI xs (j : Int) = some v := by
  have hj : j < xs.length := (List.getElem?_eq_some_iff.mp h).1
  have e : ixN xs.length (j : Int) = some j := by
    unfold ixN
    rw [if_pos (by omega), if_pos (by omega)]; simp
  unfold atI; rw [e]; exact h
def PlainIx (b : Expr) : Prop := ∀ o i, subscripted b false o i = operate [o, i] (getItem o i)
def IxR (X : Cx) (r : R2) : Prop :=
  ∀ (value slice : Expr) (pins : List (Addr × Obj)) (s : Shared) (σ : St) (H : Hp) (x y : V) (v u : Value) (Q : VK), Inv X pins σ H s → RelV x v → RelV y u → r x y H Q →
    subscripted slice false v u = operate [v, u] (getItem v u) → wpAny (model X.prog X.w) X.A (subscriptTail value slice v u) (EP X pins σ Q) X.xe s
def MtR (X : Cx) (id : String) (r : V → List V → Hp → VK → Prop) : Prop :=
  ∀ (pins : List (Addr × Obj)) (s : Shared) (σ : St) (H : Hp) (x : V) (xs : List V) (v : Value) (us : List Value) (Q : VK), Inv X pins σ H s → RelV x v → Vals xs us → r x xs H Q →
    wpAny (model X.prog X.w) X.A (call (.builtin id) (v :: us)) (EP X pins σ Q) X.xe s
section
variable {X : Cx} {a b : Expr} {ta tb : TE} {pos : Pos}
theorem pe_ix {r : R2} (hr : IxR X r) (ha : PE X a ta) (hb : PE X b tb) (hs : PlainIx b) : PE X (.Subscript a b pos) (tOp r ta tb) := by
  intro pins s σ H Q I h
  exact Subscript_ (binT ha hb I h fun v u s2 x y H2 I2 rx ry q => hr a b pins s2 σ H2 x y v u Q I2 rx ry q (hs _ _))
noncomputable def rIxL (K : PySem.W.Frag) : R2 := fun x y H Q => ∃ p xs i v, x = .ref p ∧ y = .int i ∧ SqL K H p xs ∧ atI xs i = some v ∧ Q v H
noncomputable def rIxT (K : PySem.W.Frag) : R2 := fun x y H Q => ∃ p xs i v, x = .ref p ∧ y = .int i ∧ SqT K H p xs ∧ atI xs i = some v ∧ Q v H
theorem ix_list : IxR X (rIxL X.K) := by
  intro value slice pins s σ H x y v u Q I rx ry h hs
  obtain ⟨p, xs, i, z, rfl, rfl, hq, he, q⟩ := h
  cases rx
  obtain ⟨t, rfl⟩ := ry
  obtain ⟨its, r, pl, hz⟩ := I.list hq
  obtain ⟨j, h1, h2, h3, h4, h5⟩ := atI_get he
  obtain ⟨w, ew, rw'⟩ := r.get h2
  have hl := r.length
  have hn := line63
  have fin : EP X pins σ Q w s := ⟨z, H, I, rw', q⟩
  by_cases h0 : 0 ≤ i
  · have hj : i.toNat = j := by
      rw [seqIndex_of h0 h5] at h1
      exact Option.some.inj h1
    exact item_listR pl.isList h0 (by omega) (by rw [hj]; simpa using ew) fin hs
  · have hj : (i + (its.toArray.size : Int)).toNat = j := by
      rw [seqIndex_neg (by omega) h4] at h1
      rw [List.size_toArray, ← hl]
      exact Option.some.inj h1
    exact subscriptTail_builtinR (x := w) pl.isList.typeIs slot_list_getitem.lookup
      (wpAny_getItem_list_neg (Q := fun r s' => r = w ∧ EP X pins σ Q r s') pl.isList (by omega) (by rw [List.size_toArray] <;> omega) (by omega) (by rw [hj]; simpa using ew) ⟨rfl, fin⟩) hs
theorem ix_tup : IxR X (rIxT X.K) := by
  intro value slice pins s σ H x y v u Q I rx ry h hs
  obtain ⟨p, xs, i, z, rfl, rfl, hq, he, q⟩ := h
  cases rx
  obtain ⟨t, rfl⟩ := ry
  obtain ⟨its, r, pl, hz⟩ := I.tuple hq
  obtain ⟨j, h1, h2, h3, h4, h5⟩ := atI_get he
  obtain ⟨w, ew, rw'⟩ := r.get h2
  have hl := r.length
  have hn := line63
  have fin : EP X pins σ Q w s := ⟨z, H, I, rw', q⟩
  exact subscriptTail_builtinR (x := w) pl.typeIs slot_tuple_getitem.lookup
    (getItem_tuple (j := j) (Q := fun r s' => r = w ∧ EP X pins σ Q r s') pl (by omega) (by omega) (by rw [List.size_toArray, ← hl]; exact h1) (by simpa using ew) ⟨rfl, fin⟩) hs
theorem mapSeq_set (its : List Value) (n j : Nat) (u : Value) : Obj.mapSeq (·.setIfInBounds j u) { cls := .type "list", data := .seq its.toArray n } = { cls := .type "list", data := .seq (its.set j u).toArray n } := by
  simp [Obj.mapSeq]
theorem Inv.lst {pins : List (Addr × Obj)} {σ : St} {H : Hp} {s : Shared} {p : Addr} {xs : List V} (I : Inv X pins σ H s) (h : H p = some (.lst xs)) :
    ∃ (its : List Value) (n : Nat), Vals xs its ∧ s.heap.get? p = some { cls := .type "list", data := .seq its.toArray n } ∧ xs.length ≤ sizeLine := by
  obtain ⟨z, its, n, r, e⟩ := I.hok p _ h
  exact ⟨its, n, r, e, z⟩
theorem Inv.lstUpd {pins : List (Addr × Obj)} {σ : St} {H : Hp} {s : Shared} {p : Addr} {xs ys : List V} {its its' : List Value} {n n' : Nat} {f : Obj → Obj} (I : Inv X pins σ H s) (h : H p = some (.lst xs))
    (ho : s.heap.get? p = some { cls := .type "list", data := .seq its.toArray n }) (hf : f { cls := .type "list", data := .seq its.toArray n } = { cls := .type "list", data := .seq its'.toArray n' }) (r : Vals ys its') (hz : ys.length ≤ sizeLine) (t : Nat) :
    Inv X pins σ (upd H p (.lst ys)) { s with heap := s.heap.update p f, toks := t } := by
  have e : (s.heap.update p f).get? p = some { cls := .type "list", data := .seq its'.toArray n' } := by
    rw [Heap.get?_update_self f ho (by rw [hf] <;> rfl), hf]
  refine I.write (x := p) (e := p) (by rw [h]; trivial) (.inl rfl) (fun b u hb q => (Heap.get?_update_other _ _ (Ne.symm hb)).trans q) ⟨_, e⟩ ?_
  exact ⟨hz, its', n', r, e⟩
noncomputable def rSetL : V → V → V → Hp → (Hp → Prop) → Prop := fun o i v H Q => ∃ p xs k j, o = .ref p ∧ i = .int k ∧ H p = some (.lst xs) ∧ ixN xs.length k = some j ∧ Q (upd H p (.lst (xs.set j v)))
theorem set_list : PSet X rSetL := by
  intro pins s σ H o i v ov iv u Q I ro ri rv h
  obtain ⟨p, xs, k, j, rfl, rfl, hp, hj, q⟩ := h
  cases ro
  obtain ⟨t, rfl⟩ := ri
  obtain ⟨its, n, r, ho, hz⟩ := I.lst hp
  obtain ⟨h1, h2, h3, h4⟩ := ixN_seq hj
  have hl := r.length
  have hn := line63
  have I' : Inv X pins σ (upd H p (.lst (xs.set j v))) { s with heap := s.heap.update p (Obj.mapSeq (·.setIfInBounds j u)) } :=
    I.lstUpd hp ho (mapSeq_set its n j u) (r.set rv j) (by rw [List.length_set]; exact hz) s.toks
  by_cases h0 : 0 ≤ k
  · have hk : k.toNat = j := by
      rw [seqIndex_of h0 h4] at h1
      exact Option.some.inj h1
    exact PySem.W.ki_setAt ho h0 (by omega) (by rw [List.size_toArray, ← hl]; exact h4) (by rw [hk]; exact ⟨_, I', q⟩)
  · have hk : (k + (its.toArray.size : Int)).toNat = j := by
      rw [seqIndex_neg (by omega) h3] at h1
      rw [List.size_toArray, ← hl]
      exact Option.some.inj h1
    exact PySem.W.ki_setBack ho (by omega) (by rw [List.size_toArray, ← hl]; exact h3) (by omega) (by rw [hk]; exact ⟨_, I', q⟩)
theorem slice_bounds (lo hi : Option Int) (n : Nat) : (sliceBounds lo hi none n).1 = ((HT.sIx n 0 lo : Nat) : Int) ∧ (sliceBounds lo hi none n).2.1 = ((HT.sIx n n hi : Nat) : Int) ∧ (sliceBounds lo hi none n).2.2 = 1 := by
  refine ⟨?_, ?_, rfl⟩
  · cases lo with
    | none => simp [sliceBounds, HT.sIx]
    | some i =>
      simp only [sliceBounds, HT.sIx, Option.getD_none, show (1 : Int) > 0 by decide, if_true]
      by_cases h : i < 0
      · simp only [h, if_true] <;> omega
      · simp only [h, if_false] <;> omega
  · cases hi with
    | none => simp [sliceBounds, HT.sIx]
    | some i =>
      simp only [sliceBounds, HT.sIx, Option.getD_none, show (1 : Int) > 0 by decide, if_true]
      by_cases h : i < 0
      · simp only [h, if_true] <;> omega
      · simp only [h, if_false] <;> omega
theorem slicePick_cut (its : List Value) (lo hi : Option Int) : slicePick its.toArray lo hi none = ((its.drop (HT.sIx its.length 0 lo)).take (HT.sIx its.length its.length hi - HT.sIx its.length 0 lo)).toArray := by
  obtain ⟨h1, h2, h3⟩ := slice_bounds lo hi its.toArray.size
  unfold slicePick
  rw [h1, h2, h3]
  simp only [sliceRange_one, pick_run, List.size_toArray] <;> rfl
noncomputable def rSlL (K : PySem.W.Frag) : V → Option Int → Option Int → Hp → VK → Prop := fun x lo hi H Q => ∃ a xs, x = .ref a ∧ SqL K H a xs ∧ ∀ p, H p = none → Q (.ref p) (upd H p (.lst (cutV xs lo hi)))
theorem sl_list : SlR X (rSlL X.K) := by
  intro pins s σ H x v vl vu lo hi sl Q I rx hs pl pu h
  obtain ⟨a, xs, rfl, hx, q⟩ := h
  cases rx
  obtain ⟨its, r, ht, hz⟩ := I.list hx
  have hlen := r.length
  refine ⟨"list", _, slot_list_getitem.lookup, ht.isList.typeIs, ?_⟩
  refine wpAny_getItem_list_slice ht.isList hs pl pu .none (by simp) ?_ (by rw [List.size_toArray] <;> omega)
  rw [slicePick_cut, ← hlen]
  refine ⟨.ref s.heap.objs.size, _, I.laid (t' := s.toks) (o := .lst (cutV xs lo hi)) (fun b ob q => Heap.get?_push_of_some _ q) (Nat.le_refl _) ?_, rfl, q _ (I.hok.fresh (Nat.le_refl _))⟩
  exact ⟨Nat.le_trans (cutV_length xs lo hi) hz, _, 0, (r.drop (HT.sIx xs.length 0 lo)).take (HT.sIx xs.length xs.length hi - HT.sIx xs.length 0 lo), Heap.get?_push_size _ rfl⟩
noncomputable def flatV : V → Bool
  | .non => true
  | .bl _ => true
  | .int _ => true
  | .str _ => true
  | _ => false
noncomputable def eqV : V → V → Bool
  | .non, .non => true
  | .bl a, .bl b => a == b
  | .bl a, .int b => (if a then 1 else 0) == b
  | .int a, .bl b => a == (if b then 1 else 0)
  | .int a, .int b => a == b
  | .str a, .str b => a == b
  | _, _ => false
theorem eqAt_V {A : Around} {s : Shared} {y x : V} {u v : Value} (ry : RelV y u) (rx : RelV x v) (fy : flatV y = true) (fx : flatV x = true) : SeqAt.EqAt A s u v (eqV y x) := by
  cases y with
  | non =>
    cases ry
    cases x with
    | non => cases rx; exact SeqAt.EqAt.same _
    | bl b => cases rx; exact SeqAt.EqAt.none_bool b
    | int b => obtain ⟨t, rfl⟩ := rx; exact SeqAt.EqAt.none_int b t
    | str b => obtain ⟨t, rfl⟩ := rx; exact SeqAt.EqAt.none_str b t
    | _ => exact absurd (show false = true from fx) Bool.false_ne_true
  | bl a =>
    cases ry
    cases x with
    | non => cases rx; exact SeqAt.EqAt.bool_none a
    | bl b => cases rx; exact SeqAt.EqAt.bool_bool a b
    | int b => obtain ⟨t, rfl⟩ := rx; exact SeqAt.EqAt.bool_int a b t
    | str b => obtain ⟨t, rfl⟩ := rx; exact SeqAt.EqAt.bool_str a b t
    | _ => exact absurd (show false = true from fx) Bool.false_ne_true
  | int a =>
    obtain ⟨t', rfl⟩ := ry
    cases x with
    | non => cases rx; exact SeqAt.EqAt.int_none a t'
    | bl b => cases rx; exact SeqAt.EqAt.int_bool a t' b
    | int b => obtain ⟨t, rfl⟩ := rx; exact SeqAt.EqAt.int_int a t' b t
    | str b => obtain ⟨t, rfl⟩ := rx; exact SeqAt.EqAt.int_str a t' b t
    | _ => exact absurd (show false = true from fx) Bool.false_ne_true
  | str a =>
    obtain ⟨t', rfl⟩ := ry
    cases x with
    | non => cases rx; exact SeqAt.EqAt.str_none a t'
    | bl b => cases rx; exact SeqAt.EqAt.str_bool a t' b
    | int b => obtain ⟨t, rfl⟩ := rx; exact SeqAt.EqAt.str_int a t' b t
    | str b => obtain ⟨t, rfl⟩ := rx; exact SeqAt.EqAt.str_str a t' b t
    | _ => exact absurd (show false = true from fx) Bool.false_ne_true
  | _ => exact absurd (show false = true from fy) Bool.false_ne_true
noncomputable def eqU (x : V) (u : Value) : Bool := match u with
  | .none => eqV .non x
  | .bool b => eqV (.bl b) x
  | .int i _ => eqV (.int i) x
  | .str z _ => eqV (.str z) x
  | _ => false
theorem eqU_of {x y : V} {u : Value} (r : RelV y u) (f : flatV y = true) : eqU x u = eqV y x := by
  cases y with
  | non => cases r; rfl
  | bl b => cases r; rfl
  | int i => obtain ⟨t, rfl⟩ := r; rfl
  | str z => obtain ⟨t, rfl⟩ := r; rfl
  | _ => exact absurd (show false = true from f) Bool.false_ne_true
theorem any_eqU {x : V} {xs : List V} {us : List Value} (h : Vals xs us) (f : xs.all flatV = true) : us.any (eqU x) = xs.any fun y => eqV y x := by
  induction h with
  | nil => rfl
  | cons r t ih =>
    rw [List.all_cons, Bool.and_eq_true] at f
    rw [List.any_cons, List.any_cons, eqU_of r f.1, ih f.2]
theorem mem_eqAt {A : Around} {s : Shared} {x : V} {v : Value} (rx : RelV x v) (fx : flatV x = true) {xs : List V} {us : List Value} (h : Vals xs us) (f : xs.all flatV = true) : ∀ u ∈ us, SeqAt.EqAt A s u v (eqU x u) := by
  induction h with
  | nil => intro u hu; cases hu
  | cons r t ih =>
    intro u' hu
    rw [List.all_cons, Bool.and_eq_true] at f
    rcases List.mem_cons.mp hu with rfl | hu
    · rw [eqU_of r f.1]; exact eqAt_V r rx f.1 fx
    · exact ih f.2 u' hu
noncomputable def inV (x : V) (xs : List V) : Bool := xs.any fun y => eqV y x
noncomputable def rIn (K : PySem.W.Frag) (neg : Bool) : R2 := fun x y H Q => ∃ p xs, y = .ref p ∧ (SqL K H p xs ∨ SqT K H p xs) ∧ flatV x = true ∧ xs.all flatV = true ∧ Q (.bl (if neg then !inV x xs else inV x xs)) H
theorem op_in_seq : OpR X (compareOp .In) (rIn X.K false) := by
  intro pins s σ H x y v u Q I rx ry h
  obtain ⟨p, xs, rfl, hq, fx, fs, q⟩ := h
  cases ry
  rcases hq with hq | hq
  · obtain ⟨its, r, pl, hz⟩ := I.list hq
    refine SeqAt.in_listAt (eqU x) pl.isList (fun w hw => mem_eqAt rx fx r fs w (by simpa using hw)) ⟨.bl _, H, I, rfl, ?_⟩
    rw [show its.toArray.any (eqU x) = its.any (eqU x) by simp, any_eqU r fs]
    exact q
  · obtain ⟨its, r, pl, hz⟩ := I.tuple hq
    refine SeqAt.in_tupleAt (eqU x) pl (fun w hw => mem_eqAt rx fx r fs w (by simpa using hw)) ⟨.bl _, H, I, rfl, ?_⟩
    rw [show its.toArray.any (eqU x) = its.any (eqU x) by simp, any_eqU r fs]
    exact q
theorem op_notIn_seq : OpR X (compareOp .NotIn) (rIn X.K true) := by
  intro pins s σ H x y v u Q I rx ry h
  obtain ⟨p, xs, rfl, hq, fx, fs, q⟩ := h
  cases ry
  rcases hq with hq | hq
  · obtain ⟨its, r, pl, hz⟩ := I.list hq
    refine SeqAt.notIn_listAt (eqU x) pl.isList (fun w hw => mem_eqAt rx fx r fs w (by simpa using hw)) ⟨.bl _, H, I, rfl, ?_⟩
    rw [show its.toArray.any (eqU x) = its.any (eqU x) by simp, any_eqU r fs]
    exact q
  · obtain ⟨its, r, pl, hz⟩ := I.tuple hq
    refine SeqAt.notIn_tupleAt (eqU x) pl (fun w hw => mem_eqAt rx fx r fs w (by simpa using hw)) ⟨.bl _, H, I, rfl, ?_⟩
    rw [show its.toArray.any (eqU x) = its.any (eqU x) by simp, any_eqU r fs]
    exact q
theorem call_len_seq : CallR X (.builtin "len") (fun xs H Q => ∃ p ys, xs = [.ref p] ∧ (SqL X.K H p ys ∨ SqT X.K H p ys) ∧ Q (.int ys.length) H) := by
  intro pins s σ H xs us Q I r h
  obtain ⟨p, ys, rfl, hq, q⟩ := h
  obtain ⟨u, rfl, rx⟩ := vals1 r
  cases rx
  have hn := line63
  rcases hq with hq | hq
  · obtain ⟨its, r', pl, hz⟩ := I.list hq
    have hlen := r'.length
    exact Calls.call_len_list pl.isList (by simp only [List.size_toArray] <;> omega) ⟨.int ys.length, H, I.tok _, ⟨s.toks + 1, by rw [List.size_toArray, hlen]⟩, q⟩
  · obtain ⟨its, r', pl, hz⟩ := I.tuple hq
    have hlen := r'.length
    exact len_tuple pl (by simp only [List.size_toArray] <;> omega) ⟨.int ys.length, H, I.tok _, ⟨s.toks + 1, by rw [List.size_toArray, hlen]⟩, q⟩
theorem call_list_of : CallR X (.type "list") (fun xs H Q => ∃ p ys, xs = [.ref p] ∧ (SqL X.K H p ys ∨ SqT X.K H p ys) ∧ ∀ l, H l = none → Q (.ref l) (upd H l (.lst ys))) := by
  intro pins s σ H xs us Q I r h
  obtain ⟨p, ys, rfl, hq, q⟩ := h
  obtain ⟨u, rfl, rx⟩ := vals1 r
  cases rx
  have fin : ∀ (its : List Value), Vals ys its → ys.length ≤ sizeLine → ∀ (h' : Heap) (c' : Nat), (∀ b o', s.heap.get? b = some o' → h'.get? b = some o') →
      h'.get? s.heap.objs.size = some { cls := .type "list", dict := none, data := .seq its.toArray c', slots := #[] } → EP X pins σ Q (.ref s.heap.objs.size) { s with heap := h' } := fun its r' hz h' c' kp e =>
    ⟨.ref s.heap.objs.size, _, I.laid (t' := s.toks) kp (Nat.le_refl _) (show ObjOk X.prog X.w _ h' _ (.lst ys) from ⟨hz, its, c', r', e⟩), rfl, q _ (I.hok.fresh (Nat.le_refl _))⟩
  rcases hq with hq | hq
  · obtain ⟨its, r', pl, hz⟩ := I.list hq
    have hlen := r'.length
    obtain ⟨o, ho, hc, n, hd⟩ := pl.isList
    exact call_list_seq p (.inl rfl) ho hc hd (fun h' c' kp e => fin its r' hz h' c' kp e) (by simp only [List.size_toArray] <;> omega)
  · obtain ⟨its, r', pl, hz⟩ := I.tuple hq
    have hlen := r'.length
    obtain ⟨o, ho, hc, n, hd⟩ := pl
    exact call_list_seq p (.inr rfl) ho hc hd (fun h' c' kp e => fin its r' hz h' c' kp e) (by simp only [List.size_toArray] <;> omega)
def tyV (K : PySem.W.Frag) (T : String) (x : V) (H : Hp) : Prop := match x with
  | .str _ => T = "str"
  | .int _ => T = "int"
  | .ref p => (T = "list" ∧ ∃ xs, SqL K H p xs) ∨ (T = "tuple" ∧ ∃ o, K.lookup p = some o ∧ o.cls = .type "tuple" ∧ o.dict = none) ∨
      (T = "dict" ∧ ((∃ kvs, H p = some (.dK kvs)) ∨ ∃ kvs, H p = some (.dT kvs))) ∨ (T = "set" ∧ ∃ S n, H p = some (.set S n))
  | _ => False
theorem tyV_is {pins : List (Addr × Obj)} {σ : St} {H : Hp} {s : Shared} {T : String} {x : V} {v : Value} (I : Inv X pins σ H s) (r : RelV x v) (ty : tyV X.K T x H) :
    s.TypeIs v T ∧ ∀ a, v = .ref a → ∃ ob, s.heap.get? a = some ob ∧ ob.dict = none := by
  cases x with
  | str z =>
    obtain ⟨t, rfl⟩ := r
    cases (show T = "str" from ty)
    exact ⟨typeIs_str s z t, fun _ e => nomatch e⟩
  | int i =>
    obtain ⟨t, rfl⟩ := r
    cases (show T = "int" from ty)
    exact ⟨typeIs_int s i t, fun _ e => nomatch e⟩
  | ref p =>
    cases r
    rcases ty with ⟨rfl, xs, hq⟩ | ⟨rfl, o, hk, hc, hd⟩ | ⟨rfl, hk⟩ | ⟨rfl, S, n, hk⟩
    · obtain ⟨its, _, pl, _⟩ := I.list hq
      refine ⟨pl.isList.typeIs, fun a e => ?_⟩
      cases e
      obtain ⟨o, n, e, c, hd, _⟩ := pl
      exact ⟨o, e, hd⟩
    · refine ⟨⟨o, I.kIn p o hk, hc⟩, fun a e => ?_⟩
      cases e
      exact ⟨o, I.kIn _ o hk, hd⟩
    · have z : ∃ o, s.heap.get? p = some o ∧ o.ExactDict := by
        rcases hk with ⟨kvs, hk⟩ | ⟨kvs, hk⟩
        · obtain ⟨_, _, _, _, o, _, _, e, ex, _⟩ := I.hok p _ hk
          exact ⟨o, e, ex⟩
        · obtain ⟨_, _, _, _, o, _, _, e, ex, _⟩ := I.hok p _ hk
          exact ⟨o, e, ex⟩
      obtain ⟨o, e, ex⟩ := z
      refine ⟨⟨o, e, ex.1⟩, fun a e2 => ?_⟩
      cases e2
      exact ⟨o, e, ex.2.1⟩
    · obtain ⟨o, _, _, _, e, ex, _⟩ := I.hok p _ hk
      refine ⟨⟨o, e, ex.1⟩, fun a e2 => ?_⟩
      cases e2
      exact ⟨o, e, ex.2.1⟩
  | _ => exact False.elim ty
noncomputable def tBM0 (K : PySem.W.Frag) (T : String) (r : V → List V → Hp → VK → Prop) (to : TE) : TE := fun σ H Q => to σ H fun x H1 => tyV K T x H1 ∧ r x [] H1 Q
noncomputable def tBM (K : PySem.W.Frag) (T : String) (r : V → List V → Hp → VK → Prop) (to : TE) (t : TA) : TE := fun σ H Q => to σ H fun x H1 => tyV K T x H1 ∧ t σ H1 fun xs H2 => r x xs H2 Q
variable {o e : Expr} {es : List Expr} {to : TE} {t : TA} {name : Str} {apos cpos : Pos} {T id : String} {r : V → List V → Hp → VK → Prop}
theorem pe_bm0 (pa : PlainAttrs T) (slot : Slot T name id) (hty : typeOf (.builtin id) = pure (.type "method_descriptor")) (hm : MtR X id r) (ho : PE X o to)
    (hbase : attributeBase o name X.env (eval o X.env) = eval o X.env := by rfl) (hline : (apos.endLine == cpos.line) = true := by rfl) : PE X (.Call (.Attribute o name apos) [] [] cpos) (tBM0 X.K T r to) := by
  intro pins s σ H Q I h
  refine wpAny_Call_method0_late hbase hline (thn (ho pins s σ H _ I h) fun v s1 hq_ => ?_)
  obtain ⟨x, H1, I1, r1, ty, q1⟩ := hq_
  obtain ⟨h1, h2⟩ := tyV_is I1 r1 ty
  exact ⟨T, id, pa, slot, hty, h1, h2, Calls.callWith_builtin rfl (PySem.evalArgs_none (hm pins s1 σ H1 x [] v [] Q I1 r1 .nil q1))⟩
theorem pe_bm (pa : PlainAttrs T) (slot : Slot T name id) (hty : typeOf (.builtin id) = pure (.type "method_descriptor")) (hm : MtR X id r) (ho : PE X o to) (ha : PA X (e :: es) t)
    (hbase : attributeBase o name X.env (eval o X.env) = eval o X.env := by rfl)
    (hfew : ((backTo cpos (starEach (e :: es) X.env)).all (fun x => !x.1) && (backToKw cpos (keywordEach [] X.env)).all (fun x => x.1.isSome)
      && decide ((e :: es).length + ([] : List Keyword).length + (if ([] : List Keyword).isEmpty then 0 else 1) < 30)) = true := by rfl)
    (hline : (apos.endLine == cpos.line) = true := by rfl) (hs : starEach (e :: es) X.env = (false, eval e X.env) :: starEach es X.env := by rfl) (hplain : (backTo cpos (starEach es X.env)).any (·.1) = false := by rfl) :
    PE X (.Call (.Attribute o name apos) (e :: es) [] cpos) (tBM X.K T r to t) := by
  intro pins s σ H Q I h
  refine wpAny_Call_method_late hbase hfew hline rfl (thn (ho pins s σ H _ I h) fun v s1 hq_ => ?_)
  obtain ⟨x, H1, I1, r1, ty, q1⟩ := hq_
  obtain ⟨h1, h2⟩ := tyV_is I1 r1 ty
  refine ⟨T, id, pa, slot, hty, h1, h2, ?_⟩
  have hA := ha cpos pins s1 σ H1 _ I1 q1
  rw [hs] at hA ⊢
  refine Calls.callWith_builtin (by show (false || (backTo cpos (starEach es X.env)).any (·.1)) = false; rw [hplain] <;> rfl) (Calls.evalArgs_plain ?_)
  exact thn hA fun us s2 ⟨vs, H2, I2, r2, q2⟩ => hm pins s2 σ H2 x vs v us Q I2 r1 r2 q2
end
end L2
namespace L2
open PySem PySem.Spec PyProof.Rows
def MtM (X : Cx) (id : String) (r : V → List V → Hp → VK → Prop) : Prop :=
  ∀ (pins : List (Addr × Obj)) (s : Shared) (σ : St) (H : Hp) (x : V) (xs : List V) (v : Value) (us : List Value) (Q : VK), Inv X pins σ H s → RelV x v → Vals xs us → r x xs H Q →
    wpAny (model X.prog X.w) X.A (call (.builtin id) (v :: us)) (EP X pins σ Q) X.xe s
theorem Vals.one {x : V} {us : List Value} (h : Vals [x] us) : ∃ u, us = [u] ∧ RelV x u := by
  cases h with | cons r t => cases t; exact ⟨_, rfl, r⟩
theorem Vals.two {x y : V} {us : List Value} (h : Vals [x, y] us) : ∃ u v, us = [u, v] ∧ RelV x u ∧ RelV y v := by
  cases h with | cons r t => cases t with | cons q t => cases t; exact ⟨_, _, rfl, r, q⟩
theorem Vals.zero : ∀ {us : List Value}, Vals [] us → us = []
  | _, .nil => rfl
theorem Vals.dropLast {xs : List V} {us : List Value} (h : Vals xs us) : Vals xs.dropLast us.dropLast := by
  induction h with
  | nil => exact .nil
  | cons r t ih =>
    cases t with
    | nil => exact .nil
    | cons q t' => exact .cons r ih
theorem Vals.eraseIdx : ∀ {xs : List V} {us : List Value} (i : Nat), Vals xs us → Vals (xs.eraseIdx i) (us.eraseIdx i)
  | _, _, _, .nil => .nil
  | _, _, 0, .cons _ t => t
  | _, _, i + 1, .cons r t => .cons r (Vals.eraseIdx i t)
theorem erase_last {α : Type} (l : List α) : l.eraseIdx (l.length - 1) = l.dropLast := by
  induction l with
  | nil => rfl
  | cons a r ih =>
    cases r with
    | nil => rfl
    | cons b r =>
      have e : (a :: b :: r).length - 1 = ((b :: r).length - 1) + 1 := by
        have h1 : (a :: b :: r).length = r.length + 2 := rfl
        have h2 : (b :: r).length = r.length + 1 := rfl
        omega
      rw [e, List.eraseIdx_cons_succ, ih]
      all_goals rfl
theorem len_erase {α : Type} : ∀ (l : List α) (i : Nat), (l.eraseIdx i).length ≤ l.length
  | [], _ => Nat.le_refl _
  | _ :: _, 0 => Nat.le_succ _
  | _ :: r, i + 1 => Nat.succ_le_succ (len_erase r i)
section
variable {X : Cx} {pins : List (Addr × Obj)} {σ : St} {H : Hp} {s : Shared} {l b : Addr} {xs ys zs : List V}
theorem Inv.lset {its its' : List Value} {n : Nat} {f : Array Value → Array Value} {t' : Nat} (I : Inv X pins σ H s) (hH : H l = some (.lst xs))
    (e : s.heap.get? l = some { cls := .type "list", data := .seq its.toArray n }) (hf : f its.toArray = its'.toArray) (hv : Vals ys its') (hz : ys.length ≤ sizeLine) :
    Inv X pins σ (upd H l (.lst ys)) { s with heap := s.heap.update l (Obj.mapSeq f), toks := t' } := by
  have q := PySem.IsL.update e f
  rw [hf] at q
  refine I.write (x := l) (e := l) (by rw [hH]; exact trivial) (.inl rfl) (fun b' u hb hu => (Heap.get?_update_other s.heap (Obj.mapSeq f) (Ne.symm hb)).trans hu) ⟨_, q⟩ ?_
  exact ⟨hz, its', _, hv, q⟩
theorem Inv.lnew {its : List Value} {t' : Nat} (I : Inv X pins σ H s) (hv : Vals ys its) (hz : ys.length ≤ sizeLine) :
    Inv X pins σ (upd H s.heap.objs.size (.lst ys)) { s with heap := s.heap.push { cls := .type "list", data := .seq its.toArray }, toks := t' } :=
  I.laid (fun _ _ q => Heap.get?_push_of_some _ q) (Nat.le_refl _) ⟨hz, its, 0, hv, Heap.get?_push_size _ rfl⟩
theorem Inv.fresh (I : Inv X pins σ H s) : H s.heap.objs.size = none := I.hok.fresh (Nat.le_refl _)
theorem Inv.lstM (I : Inv X pins σ H s) (hH : H l = some (.lst xs)) : xs.length ≤ sizeLine ∧ ∃ (its : List Value) (n : Nat), Vals xs its ∧ xs.length = its.length ∧ s.heap.get? l = some { cls := .type "list", data := .seq its.toArray n } := by
  obtain ⟨z, its, n, r, e⟩ := I.hok l _ hH
  exact ⟨z, its, n, r, r.length, e⟩
theorem notLongL {n : Nat} (h : n ≤ sizeLine) : Builtin.List.listTooLong n = false := by
  unfold Builtin.List.listTooLong
  exact decide_eq_false (by omega)
end
section
variable {X : Cx}
noncomputable def rAppend : V → List V → Hp → VK → Prop := fun x vs H Q => ∃ l xs y, x = .ref l ∧ vs = [y] ∧ H l = some (.lst xs) ∧ xs.length < sizeLine ∧ Q .non (upd H l (.lst (xs ++ [y])))
theorem mt_append : MtM X "list.append" rAppend := by
  intro pins s σ H x vs v us Q I rx rv h
  obtain ⟨l, xs, y, rfl, rfl, hH, hz, q⟩ := h
  cases rx
  obtain ⟨u, rfl, ru⟩ := rv.one
  obtain ⟨z, its, n, r, hl, e⟩ := I.lstM hH
  refine call_meets F.slot_list_append ⟨_, e, rfl⟩ F.entry_list_append (F.args_list_append_2 _ _) (PySem.list_append l its.toArray n u (by rw [List.size_toArray]; omega)) ⟨e, ?_⟩
  refine ⟨.non, _, I.lset (its' := its ++ [u]) hH e (by simp) (r.append (.cons ru .nil)) ?_, rfl, q⟩
  rw [List.length_append, List.length_singleton]
  omega
noncomputable def rExtend : V → List V → Hp → VK → Prop := fun x vs H Q => ∃ l b xs zs, x = .ref l ∧ vs = [.ref b] ∧ H l = some (.lst xs) ∧ H b = some (.lst zs) ∧ xs.length + zs.length ≤ sizeLine ∧ Q .non (upd H l (.lst (xs ++ zs)))
theorem mt_extend : MtM X "list.extend" rExtend := by
  intro pins s σ H x vs v us Q I rx rv h
  obtain ⟨l, b, xs, zs, rfl, rfl, hH, hB, hz, q⟩ := h
  cases rx
  obtain ⟨u, rfl, ru⟩ := rv.one
  cases ru
  obtain ⟨z, its, n, r, hl, e⟩ := I.lstM hH
  obtain ⟨z2, its2, n2, r2, hl2, e2⟩ := I.lstM hB
  have hsz : its.toArray.size + its2.toArray.size ≤ sizeLine := by rw [List.size_toArray, List.size_toArray]; omega
  have hlong : ¬ (!its.toArray.isEmpty && Builtin.List.listTooLong (its.toArray.size + its2.toArray.size)) = true := by
    rw [notLongL hsz, Bool.and_false]
    exact Bool.false_ne_true
  refine call_meets F.slot_list_extend ⟨_, e, rfl⟩ F.entry_list_extend (F.args_list_extend_2 _ _)
    (AutoSeq1.list_extend_list_list_0 l its.toArray n b its2.toArray n2 hlong (by rw [List.size_toArray]; omega) (by omega)) ⟨e, e2, ?_⟩
  refine ⟨.non, _, I.lset (its' := its ++ its2) hH e (by simp) (r.append r2) ?_, rfl, q⟩
  rw [List.length_append]
  omega
noncomputable def rPop : V → List V → Hp → VK → Prop := fun x vs H Q => ∃ l xs y, x = .ref l ∧ vs = [] ∧ H l = some (.lst xs) ∧ xs[xs.length - 1]? = some y ∧ Q y (upd H l (.lst xs.dropLast))
theorem mt_pop : MtM X "list.pop" rPop := by
  intro pins s σ H x vs v us Q I rx rv h
  obtain ⟨l, xs, y, rfl, rfl, hH, hy, q⟩ := h
  cases rx
  have hus := rv.zero
  subst hus
  obtain ⟨z, its, n, r, hl, e⟩ := I.lstM hH
  obtain ⟨u, hu, ru⟩ := r.get hy
  have hy' : its.toArray[its.toArray.size - 1]? = some u := by
    show its.toArray[its.length - 1]? = some u
    rw [← Array.getElem?_toList, ← hl]
    exact hu
  refine call_meets F.slot_list_pop ⟨_, e, rfl⟩ F.entry_list_pop (F.args_list_pop_1 _) (MeetsSeq.list_pop_last l its.toArray n u hy' (by rw [List.size_toArray]; omega)) ⟨e, ?_⟩
  refine ⟨y, _, I.lset (its' := its.dropLast) hH e ?_ r.dropLast ?_, ru, q⟩
  · show its.toArray.eraseIdxIfInBounds (its.toArray.size - 1) = its.dropLast.toArray
    rw [List.size_toArray, List.eraseIdxIfInBounds_toArray, erase_last]
  · rw [List.length_dropLast]
    omega
noncomputable def rPopAt : V → List V → Hp → VK → Prop := fun x vs H Q => ∃ l xs i k y, x = .ref l ∧ vs = [.int i] ∧ H l = some (.lst xs) ∧ -(2 ^ 63) ≤ i ∧ i < 2 ^ 63 ∧ seqIndex? i xs.length = some k ∧ xs[k]? = some y ∧ Q y (upd H l (.lst (xs.eraseIdx k)))
theorem mt_popAt : MtM X "list.pop" rPopAt := by
  intro pins s σ H x vs v us Q I rx rv h
  obtain ⟨l, xs, i, k, y, rfl, rfl, hH, h1, h2, hk, hy, q⟩ := h
  cases rx
  obtain ⟨u, rfl, ru⟩ := rv.one
  obtain ⟨t, rfl⟩ := ru
  obtain ⟨z, its, n, r, hl, e⟩ := I.lstM hH
  obtain ⟨w, hw, rw'⟩ := r.get hy
  refine call_meets F.slot_list_pop ⟨_, e, rfl⟩ F.entry_list_pop (F.args_list_pop_2 _ _)
    (MeetsSeq.list_pop_at l its.toArray n i t k w (fitsIndex_both h1 h2) (by rw [List.size_toArray, ← hl]; exact hk) (by rw [← Array.getElem?_toList]; exact hw) (by rw [List.size_toArray]; omega)) ⟨e, ?_⟩
  refine ⟨y, _, I.lset (its' := its.eraseIdx k) hH e ?_ (r.eraseIdx k) ?_, rw', q⟩
  · show its.toArray.eraseIdxIfInBounds k = (its.eraseIdx k).toArray
    rw [List.eraseIdxIfInBounds_toArray]
  · have := len_erase xs k
    omega
noncomputable def rCat : R2 := fun x y H Q => ∃ l b xs zs, x = .ref l ∧ y = .ref b ∧ H l = some (.lst xs) ∧ H b = some (.lst zs) ∧ xs.length + zs.length ≤ sizeLine ∧ ∀ p, H p = none → Q (.ref p) (upd H p (.lst (xs ++ zs)))
theorem op_cat : OpR X (binaryOp .Add) rCat := by
  intro pins s σ H x y v u Q I rx ry h
  obtain ⟨l, b, xs, zs, rfl, rfl, hH, hB, hz, q⟩ := h
  cases rx
  cases ry
  obtain ⟨z, its, n, r, hl, e⟩ := I.lstM hH
  obtain ⟨z2, its2, n2, r2, hl2, e2⟩ := I.lstM hB
  refine PySem.P.add_list e e2 ?_ (by rw [List.size_toArray, List.size_toArray]; omega)
  have ea : its.toArray ++ its2.toArray = (its ++ its2).toArray := by simp
  rw [ea]
  exact ⟨.ref _, _, I.lnew (t' := s.toks) (r.append r2) (by rw [List.length_append]; omega), rfl, q _ I.fresh⟩
end
end L2
namespace L2
open PySem PySem.Spec PyProof.Rows
section
variable {κ : Type} [DecidableEq κ]
noncomputable def valV (kvs : List (κ × V)) (k : κ) : Option V := (kvs.find? fun kv => decide (kv.1 = k)).map (·.2)
noncomputable def putK (kvs : List (κ × V)) (k : κ) (v : V) : List (κ × V) :=
  if (kvs.any fun kv => decide (kv.1 = k)) = true then kvs.map (fun kv => if kv.1 = k then (kv.1, v) else kv) else kvs ++ [(k, v)]
theorem valV_pos {p : κ × V} {r : List (κ × V)} {k : κ} (e : p.1 = k) : valV (p :: r) k = some p.2 := by simp [valV, List.find?_cons, e]
theorem valV_neg {p : κ × V} {r : List (κ × V)} {k : κ} (e : ¬ p.1 = k) : valV (p :: r) k = valV r k := by simp [valV, List.find?_cons, e]
theorem valV_any (k : κ) : ∀ kvs : List (κ × V), (kvs.any fun kv => decide (kv.1 = k)) = (valV kvs k).isSome
  | [] => rfl
  | p :: r => by
    rw [List.any_cons]
    by_cases e : p.1 = k
    · simp only [valV_pos e, decide_eq_true e, Bool.true_or, Option.isSome_some]
    · rw [valV_neg e, decide_eq_false e, Bool.false_or]; exact valV_any k r
theorem valV_map (k j : κ) (y : V) : ∀ kvs : List (κ × V), valV (kvs.map fun kv => if kv.1 = k then (kv.1, y) else kv) j = (valV kvs j).map fun x => if j = k then y else x
  | [] => rfl
  | p :: r => by
    have ih := valV_map k j y r
    rw [List.map_cons]
    by_cases h : p.1 = k
    · rw [if_pos h]
      by_cases e : p.1 = j
      · rw [valV_pos (p := (p.1, y)) e, valV_pos e, Option.map_some, if_pos (e.symm.trans h)]
      · rw [valV_neg (p := (p.1, y)) e, valV_neg e, ih]
    · rw [if_neg h]
      by_cases e : p.1 = j
      · rw [valV_pos (p := p) e, valV_pos e, Option.map_some, if_neg (fun z => h (e.trans z))]
      · rw [valV_neg (p := p) e, valV_neg e, ih]
theorem valV_snoc (k j : κ) (y : V) : ∀ kvs : List (κ × V), valV kvs k = none → valV (kvs ++ [(k, y)]) j = if j = k then some y else valV kvs j
  | [], _ => by
    by_cases e : k = j
    · rw [if_pos e.symm]; exact valV_pos (p := (k, y)) e
    · rw [if_neg (fun z => e z.symm)]; exact valV_neg (p := (k, y)) e
  | p :: r, hn => by
    rw [List.cons_append]
    have hk : ¬ p.1 = k := fun z => by rw [valV_pos z] at hn; cases hn
    rw [valV_neg hk] at hn
    have ih := valV_snoc k j y r hn
    by_cases e : p.1 = j
    · rw [valV_pos e, valV_pos e, if_neg (fun z => hk (e.trans z))]
    · rw [valV_neg e, valV_neg e, ih]
theorem valV_put (kvs : List (κ × V)) (k j : κ) (y : V) : valV (putK kvs k y) j = if j = k then some y else valV kvs j := by
  unfold putK
  by_cases a : (kvs.any fun kv => decide (kv.1 = k)) = true
  · rw [if_pos a, valV_map]
    rw [valV_any] at a
    by_cases e : j = k
    · obtain ⟨x, hx⟩ := Option.isSome_iff_exists.mp a
      rw [if_pos e, e, hx, Option.map_some, if_pos rfl]
    · rw [if_neg e]
      cases valV kvs j with
      | none => rfl
      | some x => rw [Option.map_some, if_neg e]
  · rw [if_neg a]
    refine valV_snoc k j y kvs ?_
    rw [valV_any] at a
    cases q : valV kvs k with
    | none => rfl
    | some x => rw [q] at a; exact (a rfl).elim
theorem length_putK (kvs : List (κ × V)) (k : κ) (v : V) : (putK kvs k v).length ≤ kvs.length + 1 := by
  unfold putK
  split
  · rw [List.length_map]; omega
  · rw [List.length_append, List.length_cons, List.length_nil]; omega
theorem putK_new {kvs : List (κ × V)} {k : κ} (v : V) (h : valV kvs k = none) : putK kvs k v = kvs ++ [(k, v)] := by
  unfold putK
  rw [valV_any, h]
  exact if_neg (by decide)
theorem RelO.isSome_eq {o : Option V} {u : Option Value} (r : RelO o u) : o.isSome = u.isSome := by
  cases o with
  | none => cases u with
    | none => rfl
    | some _ => exact (show False from r).elim
  | some _ => cases u with
    | none => exact (show False from r).elim
    | some _ => rfl
theorem RelO.getD {o : Option V} {u : Option Value} {d : V} {d' : Value} (r : RelO o u) (rd : RelV d d') : RelV (o.getD d) (u.getD d') := by
  cases o with
  | none => cases u with
    | none => exact rd
    | some _ => exact (show False from r).elim
  | some _ => cases u with
    | none => exact (show False from r).elim
    | some _ => exact r
theorem KV.val {kvs : List (κ × V)} {vs : List (κ × Value)} (r : KV kvs vs) (k : κ) : RelO (valV kvs k) (valueAt vs k) := by
  unfold KV at r
  induction r with
  | nil => exact True.intro
  | @cons p q ps qs h t ih =>
    obtain ⟨h1, h2⟩ := h
    by_cases e : p.1 = k
    · have e' : q.1 = k := h1.symm.trans e
      have b : valueAt (q :: qs) k = some q.2 := by simp [valueAt, List.find?_cons, e']
      rw [valV_pos e, b]; exact h2
    · have e' : ¬ q.1 = k := fun z => e (h1.trans z)
      have b : valueAt (q :: qs) k = valueAt qs k := by simp [valueAt, List.find?_cons, e']
      rw [valV_neg e, b]; exact ih
theorem KV.any {kvs : List (κ × V)} {vs : List (κ × Value)} (r : KV kvs vs) (k : κ) : (kvs.any fun kv => decide (kv.1 = k)) = vs.any fun kv => decide (kv.1 = k) := by
  unfold KV at r
  induction r with
  | nil => rfl
  | cons h t ih => rw [List.any_cons, List.any_cons, ih, h.1]
theorem KV.repl {kvs : List (κ × V)} {vs : List (κ × Value)} (r : KV kvs vs) (k : κ) {y : V} {u : Value} (ry : RelV y u) :
    KV (kvs.map fun kv => if kv.1 = k then (kv.1, y) else kv) (vs.map fun kv => if kv.1 = k then (kv.1, u) else kv) := by
  unfold KV at r ⊢
  induction r with
  | nil => exact .nil
  | @cons p q ps qs h t ih =>
    rw [List.map_cons, List.map_cons]
    refine .cons ?_ ih
    obtain ⟨h1, h2⟩ := h
    by_cases e : p.1 = k
    · rw [if_pos e, if_pos (h1.symm.trans e)]; exact ⟨h1, ry⟩
    · rw [if_neg e, if_neg (fun z => e (h1.trans z))]; exact ⟨h1, h2⟩
theorem KV.put {kvs : List (κ × V)} {vs : List (κ × Value)} (r : KV kvs vs) (k : κ) {y : V} {u : Value} (ry : RelV y u) : KV (putK kvs k y) (stored vs k u) := by
  unfold putK stored
  rw [r.any k]
  by_cases e : (vs.any fun kv => decide (kv.1 = k)) = true
  · rw [if_pos e, if_pos e]; exact r.repl k ry
  · rw [if_neg e, if_neg e]; exact Paired.snoc r ⟨rfl, ry⟩
theorem KV.keys {kvs : List (κ × V)} {vs : List (κ × Value)} (r : KV kvs vs) : kvs.map (·.1) = vs.map (·.1) := by
  unfold KV at r
  induction r with
  | nil => rfl
  | cons h t ih => rw [List.map_cons, List.map_cons, ih, h.1]
theorem KV.length {kvs : List (κ × V)} {vs : List (κ × Value)} (r : KV kvs vs) : kvs.length = vs.length := Paired.length r
end
theorem kV_is {P : Program} {w : World} {k : Key} {u : Value} (r : RelV (kV k) u) : (mixKind P w).is k u = true := by
  cases k with
  | inl i => obtain ⟨t, e⟩ := (show ∃ t, u = Value.int i t from r); subst e; exact mixKind_int P w i t
  | inr x => obtain ⟨t, e⟩ := (show ∃ t, u = Value.str x t from r); subst e; exact mixKind_str P w x t
theorem items_are {P : Program} {w : World} : ∀ {ks : List Key} {us : List Value}, Vals (ks.map kV) us → ItemsAre (mixKind P w) ks us
  | [], _, r => by rw [List.map_nil] at r; cases r; exact .nil
  | k :: ks, _, r => by
    rw [List.map_cons] at r
    cases r with
    | cons h t => exact .cons (kV_is h) (items_are t)
noncomputable abbrev KT (H : Hp) : List (List Key × V) → List (List Key × Addr × Value) → Prop := Paired fun p q => p.1 = q.1 ∧ H q.2.1 = some (.tup (p.1.map kV)) ∧ RelV p.2 q.2.2
theorem KT.val {H : Hp} {kvs : List (List Key × V)} {xs : List (List Key × Addr × Value)} (r : KT H kvs xs) (k : List Key) : RelO (valV kvs k) ((atKey xs k).map (·.2)) := by
  induction r with
  | nil => exact True.intro
  | @cons p q ps qs h t ih =>
    obtain ⟨h1, _, h2⟩ := h
    by_cases e : p.1 = k
    · have e' : q.1 = k := h1.symm.trans e
      have b : atKey (q :: qs) k = some q.2 := by simp [atKey, List.find?_cons, e']
      rw [valV_pos e, b]; exact h2
    · have e' : ¬ q.1 = k := fun z => e (h1.trans z)
      have b : atKey (q :: qs) k = atKey qs k := by simp [atKey, List.find?_cons, e']
      rw [valV_neg e, b]; exact ih
theorem KT.repl {H : Hp} {kvs : List (List Key × V)} {xs : List (List Key × Addr × Value)} (r : KT H kvs xs) (k : List Key) {y : V} {u : Value} (ry : RelV y u) :
    KT H (kvs.map fun kv => if kv.1 = k then (kv.1, y) else kv) (xs.map (putAt k u)) := by
  induction r with
  | nil => exact .nil
  | @cons p q ps qs h t ih =>
    rw [List.map_cons, List.map_cons]
    refine .cons ?_ ih
    obtain ⟨h1, h2, h3⟩ := h
    unfold putAt
    by_cases e : p.1 = k
    · rw [if_pos e, if_pos (h1.symm.trans e)]; exact ⟨h1, h2, ry⟩
    · rw [if_neg e, if_neg (fun z => e (h1.trans z))]; exact ⟨h1, h2, h3⟩
theorem KT.put {H : Hp} {kvs : List (List Key × V)} {xs : List (List Key × Addr × Value)} (r : KT H kvs xs) (k : List Key) {b : Addr} {y : V} {u : Value} (hb : H b = some (.tup (k.map kV))) (ry : RelV y u) :
    KT H (putK kvs k y) (storedH xs k b u) := by
  have e : (kvs.any fun kv => decide (kv.1 = k)) = (atKey xs k).isSome := by
    rw [valV_any, (r.val k).isSome_eq, Option.isSome_map]
  unfold putK storedH
  rw [e]
  by_cases q : (atKey xs k).isSome = true
  · rw [if_pos q, if_pos q]; exact r.repl k ry
  · rw [if_neg q, if_neg q]; exact Paired.snoc r ⟨rfl, hb, ry⟩
theorem KT.keeps {H H' : Hp} {kvs : List (List Key × V)} {xs : List (List Key × Addr × Value)} (r : KT H kvs xs) (ht : ∀ b ys, H b = some (.tup ys) → H' b = some (.tup ys)) : KT H' kvs xs :=
  Paired.mapP r fun _ _ z => ⟨z.1, ht _ _ z.2.1, z.2.2⟩
section
variable {P : Program} {w : World} {H : Hp} {h : Heap} {a : Addr}
theorem rd_of {u : HO} (ok : HOk P w H h) (e : Rd H a u) : ObjOk P w H h a u := e.ok ok
theorem dk_rd {kvs : List (Key × V)} (ok : HOk P w H h) (e : Rd H a (.dK kvs)) : kvs.length ≤ sizeLine ∧ (a == sysModules) = false ∧ ∃ vs, KV kvs vs ∧ h.DictOf (mixKind P w) a vs :=
  show ObjOk P w H h a (.dK kvs) from rd_of ok e
theorem dk_of {kvs : List (Key × V)} (ok : HOk P w H h) (e : H a = some (.dK kvs)) : kvs.length ≤ sizeLine ∧ (a == sysModules) = false ∧ ∃ vs, KV kvs vs ∧ h.DictOf (mixKind P w) a vs := dk_rd ok (.inl e)
theorem key_of {ks : List Key} (ok : HOk P w H h) (e : H a = some (.tup (ks.map kV))) : (tupleKind (mixKind P w)).is h ks a := by
  obtain ⟨_, its, r, o, h1, h2, n, h3⟩ := (show ObjOk P w H h a (.tup (ks.map kV)) from ok a _ e)
  exact ⟨o, its.toArray, n, h1, h2, h3, by simpa using items_are r⟩
theorem dt_rd {kvs : List (List Key × V)} (ok : HOk P w H h) (e : Rd H a (.dT kvs)) : kvs.length ≤ sizeLine ∧ (a == sysModules) = false ∧
    ∃ xs, KT H kvs xs ∧ h.DictOfH (tupleKind (mixKind P w)) a xs := by
  obtain ⟨z, y, xs, r, o, es, ep, h1, h2, h3, h4, h5⟩ := (show ObjOk P w H h a (.dT kvs) from rd_of ok e)
  refine ⟨z, y, xs, r, o, es, ep, h1, h2, h3, h4, fun x hx => ?_, h5⟩
  have all : ∀ {l : List (List Key × V)} {m : List (List Key × Addr × Value)}, KT H l m → ∀ x ∈ m, (tupleKind (mixKind P w)).is h x.1 x.2.1 := by
    intro l m q
    induction q with
    | nil => intro x hx; exact nomatch hx
    | @cons p q ps qs hq t ih =>
      intro x hx
      rcases List.mem_cons.mp hx with e | hx
      · subst e
        exact key_of ok (by rw [← hq.1]; exact hq.2.1)
      · exact ih x hx
  exact all r x hx
theorem dt_of {kvs : List (List Key × V)} (ok : HOk P w H h) (e : H a = some (.dT kvs)) : kvs.length ≤ sizeLine ∧ (a == sysModules) = false ∧
    ∃ xs, KT H kvs xs ∧ h.DictOfH (tupleKind (mixKind P w)) a xs := dt_rd ok (.inl e)
end
def DGet (H : Hp) (a : Addr) (y : V) (r : Option V) : Prop :=
  (∃ kvs k, Rd H a (.dK kvs) ∧ y = kV k ∧ r = valV kvs k) ∨ ∃ kvs k b, Rd H a (.dT kvs) ∧ y = .ref b ∧ H b = some (.tup (k.map kV)) ∧ r = valV kvs k
def DPut (H : Hp) (a : Addr) (y v : V) (H' : Hp) : Prop :=
  (∃ kvs k, H a = some (.dK kvs) ∧ y = kV k ∧ kvs.length < sizeLine ∧ H' = upd H a (.dK (putK kvs k v))) ∨
  ∃ kvs k b, H a = some (.dT kvs) ∧ y = .ref b ∧ H b = some (.tup (k.map kV)) ∧ kvs.length < sizeLine ∧ H' = upd H a (.dT (putK kvs k v))
theorem DGet.k {H : Hp} {a : Addr} {kvs : List (Key × V)} {k : Key} (e : H a = some (.dK kvs)) : DGet H a (kV k) (valV kvs k) := .inl ⟨kvs, k, .inl e, rfl, rfl⟩
theorem DGet.t {H : Hp} {a b : Addr} {kvs : List (List Key × V)} {k : List Key} (e : H a = some (.dT kvs)) (eb : H b = some (.tup (k.map kV))) : DGet H a (.ref b) (valV kvs k) := .inr ⟨kvs, k, b, .inl e, rfl, eb, rfl⟩
theorem DPut.k {H : Hp} {a : Addr} {kvs : List (Key × V)} {k : Key} {v : V} (e : H a = some (.dK kvs)) (hl : kvs.length < sizeLine) : DPut H a (kV k) v (upd H a (.dK (putK kvs k v))) := .inl ⟨kvs, k, e, rfl, hl, rfl⟩
theorem DPut.t {H : Hp} {a b : Addr} {kvs : List (List Key × V)} {k : List Key} {v : V} (e : H a = some (.dT kvs)) (eb : H b = some (.tup (k.map kV))) (hl : kvs.length < sizeLine) :
    DPut H a (.ref b) v (upd H a (.dT (putK kvs k v))) := .inr ⟨kvs, k, b, e, rfl, eb, hl, rfl⟩
section
variable {X : Cx} {pins : List (Addr × Obj)} {σ : St} {H : Hp} {s : Shared} {a : Addr} {y v : V} {u r : Value} {o : Option V} {A : Around} {E : Value → Shared → Prop}
theorem Inv.big (I : Inv X pins σ H s) : sysModules < s.heap.objs.size := by
  have h : mainGlobals < s.heap.objs.size := (I.mod.glob.keeps I.bk).lt
  exact Nat.lt_trans (by decide) h
theorem d_getItem {Q : Value → Shared → Prop} (hu : A.units + 1 < cLine) (I : Inv X pins σ H s) (g : DGet H a y (some v)) (ry : RelV y u) (h : ∀ w' s', Inv X pins σ H s' → RelV v w' → Q w' s') :
    wpAny (model X.prog X.w) A (getItem (.ref a) u) Q E s := by
  rcases g with ⟨kvs, k, e, ey, l⟩ | ⟨kvs, k, b, e, ey, eb, l⟩
  · subst ey
    obtain ⟨z, hd, vs, rel, dd⟩ := dk_rd I.hok e
    obtain ⟨w', hw, rw'⟩ := RelO.some_of (v := v) (o := valueAt vs k) (by rw [l]; exact rel.val k)
    exact wpAny_getItem_of (kV_is ry) dd.mapOf hw (h w' _ (I.tok _) rw')
  · subst ey
    cases (show u = Value.ref b from ry)
    obtain ⟨z, hd, xs, rel, dd⟩ := dt_rd I.hok e
    obtain ⟨w', hw, rw'⟩ := RelO.some_of (v := v) (o := (atKey xs k).map (·.2)) (by rw [l]; exact rel.val k)
    obtain ⟨p, hp, hp2⟩ := Option.map_eq_some_iff.mp hw
    refine wpAny_getItem_heap (tupleKind_room_in1 hu) (key_of I.hok eb) dd hp ?_
    rw [hp2]
    exact h w' _ (I.tok _) rw'
theorem d_in {Q : Value → Shared → Prop} (hu : A.units + 1 < cLine) (I : Inv X pins σ H s) (g : DGet H a y o) (ry : RelV y u) (h : ∀ s', Inv X pins σ H s' → Q (.bool o.isSome) s') :
    wpAny (model X.prog X.w) A (compareOp .In u (.ref a)) Q E s := by
  rcases g with ⟨kvs, k, e, ey, l⟩ | ⟨kvs, k, b, e, ey, eb, l⟩
  · subst ey
    obtain ⟨z, hd, vs, rel, dd⟩ := dk_rd I.hok e
    refine wpAny_in_of (kV_is ry) hd dd.mapOf ?_
    rw [← (rel.val k).isSome_eq, ← l]
    exact h _ (I.tok _)
  · subst ey
    cases (show u = Value.ref b from ry)
    obtain ⟨z, hd, xs, rel, dd⟩ := dt_rd I.hok e
    refine wpAny_in_heap (tupleKind_room_in1 hu) (key_of I.hok eb) hd dd ?_
    have q := (rel.val k).isSome_eq
    rw [Option.isSome_map] at q
    rw [← q, ← l]
    exact h _ (I.tok _)
theorem d_notIn {Q : Value → Shared → Prop} (hu : A.units + 1 < cLine) (I : Inv X pins σ H s) (g : DGet H a y o) (ry : RelV y u) (h : ∀ s', Inv X pins σ H s' → Q (.bool (!o.isSome)) s') :
    wpAny (model X.prog X.w) A (compareOp .NotIn u (.ref a)) Q E s := by
  rcases g with ⟨kvs, k, e, ey, l⟩ | ⟨kvs, k, b, e, ey, eb, l⟩
  · subst ey
    obtain ⟨z, hd, vs, rel, dd⟩ := dk_rd I.hok e
    refine wpAny_notIn_of (kV_is ry) hd dd.mapOf ?_
    rw [← (rel.val k).isSome_eq, ← l]
    exact h _ (I.tok _)
  · subst ey
    cases (show u = Value.ref b from ry)
    obtain ⟨z, hd, xs, rel, dd⟩ := dt_rd I.hok e
    refine wpAny_notIn_heap (tupleKind_room_in1 hu) (key_of I.hok eb) hd dd ?_
    have q := (rel.val k).isSome_eq
    rw [Option.isSome_map] at q
    rw [← q, ← l]
    exact h _ (I.tok _)
theorem d_write {h' : Heap} {t' : Nat} {ob : HO} (I : Inv X pins σ H s) (mu : Mut (H a)) (hs : Heap.SameBut a s.heap h') (he : ∃ q, h'.get? a = some q) (new : ObjOk X.prog X.w (upd H a ob) h' a ob) :
    Inv X pins σ (upd H a ob) { s with heap := h', toks := t' } :=
  I.write (x := a) (e := a) mu (.inl rfl) (fun b q hb z => (hs.2 b hb).trans z) he new
theorem dk_new {P : Program} {w : World} {H' : Hp} {h' : Heap} {kvs : List (Key × V)} {vs : List (Key × Value)} (z : kvs.length ≤ sizeLine) (hd : (a == sysModules) = false) (rel : KV kvs vs) (dd : h'.DictOf (mixKind P w) a vs) :
    ObjOk P w H' h' a (.dK kvs) := ⟨z, hd, vs, rel, dd⟩
theorem d_setItem {H' : Hp} {Q : Unit → Shared → Prop} (hu : A.units + 1 < cLine) (I : Inv X pins σ H s) (g : DPut H a y v H') (ry : RelV y u) (rv : RelV v r) (h : ∀ s', Inv X pins σ H' s' → Q () s') :
    wpAny (model X.prog X.w) A (setItem (.ref a) u r) Q E s := by
  rcases g with ⟨kvs, k, e, ey, l, eH⟩ | ⟨kvs, k, b, e, ey, eb, l, eH⟩
  · subst ey eH
    obtain ⟨z, hd, vs, rel, dd⟩ := dk_of I.hok e
    have hz : vs.length ≤ sizeLine := by rw [← rel.length]; exact z
    have hl : (putK kvs k v).length ≤ sizeLine := by have := length_putK kvs k v; omega
    refine wpAny_setItem_pairs (hsz := hz) (kV_is ry) dd fun h' dd' hs => h _ ?_
    have he : ∃ q, h'.get? a = some q := let ⟨q, _, _, hq, _⟩ := dd'; ⟨q, hq⟩
    exact d_write I (by rw [e]; exact True.intro) hs he (dk_new hl hd (rel.put k rv) dd')
  · subst ey eH
    cases (show u = Value.ref b from ry)
    obtain ⟨z, hd, xs, rel, dd⟩ := dt_of I.hok e
    have hz : xs.length ≤ sizeLine := by rw [← Paired.length rel]; exact z
    have hl : (putK kvs k v).length ≤ sizeLine := by have := length_putK kvs k v; omega
    refine wpAny_setItem_heap (hsz := hz) (tupleKind_room_in1 hu) (key_of I.hok eb) dd fun h' dd' hs => h _ ?_
    obtain ⟨q, es, ep, hq, h2, h3, h4, _, h5⟩ := dd'
    refine d_write I (by rw [e]; exact True.intro) hs ⟨q, hq⟩ ⟨hl, hd, _, (rel.put k eb rv).keeps fun c ys ec => ?_, q, es, ep, hq, h2, h3, h4, h5⟩
    rw [upd_ne (ne_of ec e (fun z => nomatch z))]
    exact ec
end
def NoSl (i : Expr) : Prop := ∀ ov iv, subscripted i false ov iv = operate [ov, iv] (getItem ov iv)
theorem subD_of {prog : Program} {w : World} {A : Around} {E : Value → Shared → Prop} {s : Shared} {env : Env} {value slice : Expr} {pos : Pos} {T id : String} {Q : Value → Shared → Prop}
    (hl : typeLookup (.type T) "__getitem__" = pure (some (.builtin id))) (hs : NoSl slice)
    (h : wpAny (model prog w) A (eval value env) (fun o s₁ => wpAny (model prog w) A (eval slice env) (fun i s₂ => s₂.TypeIs o T ∧ wpAny (model prog w) A (getItem o i) Q E s₂) E s₁) E s) :
    wpAny (model prog w) A (eval (.Subscript value slice pos) env) Q E s := by
  refine Subscript_ (wpAny_mono h (fun o s₁ h₁ => wpAny_mono h₁ (fun i s₂ h₂ => ?_) fun _ _ x => x) fun _ _ x => x)
  obtain ⟨hT, h₂⟩ := h₂
  unfold subscriptTail
  refine wpAny_bind ?_
  rw [getitemInPython_of_ne hT.not_modules]
  refine wpAny_bind (wpAny_specialOf hT hl ?_)
  have fin : wpAny (model prog w) A (subscripted slice false o i) (fun r s₃ => wpAny (model prog w) A (letTemporaryGo value o r >>= fun _ => pure r) Q E s₃) E s₂ := by
    rw [hs o i]
    exact wpAny_operating (wpAny_mono h₂ (fun r s₃ h₃ => wpAny_bind (wpAny_letTemporaryGo (wpAny_pure h₃))) fun _ _ x => x)
  first
    | exact wpAny_pure (wpAny_bind fin)
    | exact wpAny_bind (wpAny_pure (wpAny_bind fin))
    | exact wpAny_bind fin
theorem dict_typeIs {X : Cx} {pins : List (Addr × Obj)} {σ : St} {H : Hp} {s : Shared} {a : Addr} {y : V} {o : Option V} (I : Inv X pins σ H s) (g : DGet H a y o) : s.TypeIs (.ref a) "dict" := by
  rcases g with ⟨kvs, k, e, _, _⟩ | ⟨kvs, k, b, e, _, _, _⟩
  · obtain ⟨_, _, vs, _, dd⟩ := dk_rd I.hok e
    exact dd.typeIs
  · obtain ⟨_, _, xs, _, dd⟩ := dt_rd I.hok e
    exact dd.typeIs
noncomputable def tDGet (td ty : TE) : TE := fun σ H Q => td σ H fun x H1 => ty σ H1 fun y H2 => ∃ a v, x = .ref a ∧ DGet H2 a y (some v) ∧ Q v H2
noncomputable def tDIn (ty td : TE) : TE := fun σ H Q => ty σ H fun y H1 => td σ H1 fun x H2 => ∃ a o, x = .ref a ∧ DGet H2 a y o ∧ Q (.bl o.isSome) H2
noncomputable def tDNotIn (ty td : TE) : TE := fun σ H Q => ty σ H fun y H1 => td σ H1 fun x H2 => ∃ a o, x = .ref a ∧ DGet H2 a y o ∧ Q (.bl (!o.isSome)) H2
noncomputable def sDPut (td ty tv : TE) : TS := fun D σ H => tv σ H fun v H1 => td σ H1 fun x H2 => ty σ H2 fun y H3 => ∃ a H4, x = .ref a ∧ DPut H3 a y v H4 ∧ D.nx σ H4
section
variable {X : Cx} {o i e value : Expr} {pos pos' tpos : Pos} {td ty tv : TE}
theorem pe_dget (hu : X.A.units + 1 < cLine) (ho : PE X o td) (hi : PE X i ty) (hs : NoSl i) : PE X (.Subscript o i pos) (tDGet td ty) := by
  intro pins s σ H Q I h
  refine subD_of PySem.F.slot_dict_getitem.lookup hs (thn (ho pins s σ H _ I h) fun u s1 ⟨x, H1, I1, rx, q1⟩ => thn (hi pins s1 σ H1 _ I1 q1) fun iv s2 hq_ => ?_)
  obtain ⟨y, H2, I2, ry, a, v, ex, g, q2⟩ := hq_
  subst ex
  obtain rfl : u = Value.ref a := rx
  exact ⟨dict_typeIs I2 g, d_getItem hu I2 g ry fun w' s3 I3 rw' => ⟨v, H2, I3, rw', q2⟩⟩
theorem pc_din (hu : X.A.units + 1 < cLine) (hi : PE X i ty) (ho : PE X o td) : PC X .In i o (tDIn ty td) := by
  intro pins s σ H Q I h
  refine thn (hi pins s σ H _ I h) fun iv s1 ⟨y, H1, I1, ry, q1⟩ => thn (ho pins s1 σ H1 _ I1 q1) fun u s2 hq_ => ?_
  obtain ⟨x, H2, I2, rx, a, ov, ex, g, q2⟩ := hq_
  subst ex
  obtain rfl : u = Value.ref a := rx
  exact d_in hu I2 g ry fun s3 I3 => ⟨.bl ov.isSome, H2, I3, rfl, q2⟩
theorem pc_dnotin (hu : X.A.units + 1 < cLine) (hi : PE X i ty) (ho : PE X o td) : PC X .NotIn i o (tDNotIn ty td) := by
  intro pins s σ H Q I h
  refine thn (hi pins s σ H _ I h) fun iv s1 ⟨y, H1, I1, ry, q1⟩ => thn (ho pins s1 σ H1 _ I1 q1) fun u s2 hq_ => ?_
  obtain ⟨x, H2, I2, rx, a, ov, ex, g, q2⟩ := hq_
  subst ex
  obtain rfl : u = Value.ref a := rx
  exact d_notIn hu I2 g ry fun s3 I3 => ⟨.bl (!ov.isSome), H2, I3, rfl, q2⟩
theorem ps_dput (hu : X.A.units + 1 < cLine) (ho : PE X o td) (hi : PE X i ty) (hv : PE X value tv) (hs : swapsWith value (some (.Subscript o i pos')) pos.line X.env = pure false) :
    PS X (.Assign [.Subscript o i pos'] value pos) (sDPut td ty tv) := by
  intro pins s σ H D I h
  refine wpAny_Assign_Subscript (thn (hv pins s σ H _ I h) fun r s1 ⟨v, H1, I1, rv, q1⟩ => thn (ho pins s1 σ H1 _ I1 q1) fun u s2 ⟨x, H2, I2, rx, q2⟩ => thn (hi pins s2 σ H2 _ I2 q2) fun iv s3 ⟨y, H3, I3, ry, a, H4, ex, g, q3⟩ => ?_) hs
  subst ex
  obtain rfl : u = Value.ref a := rx
  exact d_setItem hu I3 g ry rv fun s4 I4 => ⟨σ, H4, I4, q3⟩
end
theorem dk_empty {P : Program} {w : World} {H : Hp} (h : Heap) (hb : sysModules < h.objs.size) : ObjOk P w H (h.push { cls := .type "dict", data := .dict #[] }) h.objs.size (.dK []) :=
  ⟨Nat.zero_le _, beq_eq_false_iff_ne.mpr (Ne.symm (Nat.ne_of_lt hb)), [], .nil, Heap.DictOf.new h⟩
theorem dt_empty {P : Program} {w : World} {H : Hp} (h : Heap) (hb : sysModules < h.objs.size) : ObjOk P w H (h.push { cls := .type "dict", data := .dict #[] }) h.objs.size (.dT []) :=
  ⟨Nat.zero_le _, beq_eq_false_iff_ne.mpr (Ne.symm (Nat.ne_of_lt hb)), [], .nil, _, #[], 0, Heap.get?_push_size _ rfl, ⟨rfl, rfl, rfl⟩, rfl, rfl, List.nodup_nil⟩
noncomputable def tDNewK : TE := fun _ H Q => ∀ p, H p = none → Q (.ref p) (upd H p (.dK []))
noncomputable def tDNewT : TE := fun _ H Q => ∀ p, H p = none → Q (.ref p) (upd H p (.dT []))
section
variable {X : Cx} {pos : Pos}
theorem pe_dnewK : PE X (.Dict [] [] pos) tDNewK := fun pins s σ H Q I h =>
  wpAny_Dict_empty ⟨.ref s.heap.objs.size, _, I.laid (a := s.heap.objs.size) (o := .dK []) (t' := s.toks) (fun _ _ q => Heap.get?_push_of_some _ q) (Nat.le_refl _) (dk_empty s.heap I.big), rfl, h _ (I.hok.fresh (Nat.le_refl _))⟩
theorem pe_dnewT : PE X (.Dict [] [] pos) tDNewT := fun pins s σ H Q I h =>
  wpAny_Dict_empty ⟨.ref s.heap.objs.size, _, I.laid (a := s.heap.objs.size) (o := .dT []) (t' := s.toks) (fun _ _ q => Heap.get?_push_of_some _ q) (Nat.le_refl _) (dt_empty s.heap I.big), rfl, h _ (I.hok.fresh (Nat.le_refl _))⟩
end
noncomputable def mergeK (kvs more : List (Key × V)) : List (Key × V) := more.foldl (fun acc kv => putK acc kv.1 kv.2) kvs
theorem length_mergeK : ∀ (more kvs : List (Key × V)), (mergeK kvs more).length ≤ kvs.length + more.length
  | [], kvs => by show kvs.length ≤ kvs.length + 0; omega
  | p :: r, kvs => by
    have h1 := length_mergeK r (putK kvs p.1 p.2)
    have h2 := length_putK kvs p.1 p.2
    show (mergeK (putK kvs p.1 p.2) r).length ≤ _
    rw [List.length_cons]; omega
structure M2 (X : Cx) (o : Expr) (m : Str) (apos : Pos) (e f : Expr) (cpos : Pos) : Prop where
  base : attributeBase o m X.env (eval o X.env) = eval o X.env
  few : ((backTo cpos (starEach [e, f] X.env)).all (fun x => !x.1) && (backToKw cpos (keywordEach [] X.env)).all (fun x => x.1.isSome)
    && decide (([e, f] : List Expr).length + ([] : List Keyword).length + (if ([] : List Keyword).isEmpty then 0 else 1) < 30)) = true
  line : (apos.endLine == cpos.line) = true
  trees : backTo cpos (starEach [e, f] X.env) = [(false, eval e X.env), (false, eval f X.env)]
def IsD (H : Hp) (a : Addr) : Prop := (∃ kvs, Rd H a (.dK kvs)) ∨ ∃ kvs, Rd H a (.dT kvs)
theorem isD_at {X : Cx} {pins : List (Addr × Obj)} {σ : St} {H : Hp} {s : Shared} {a : Addr} (I : Inv X pins σ H s) (d : IsD H a) :
    s.TypeIs (.ref a) "dict" ∧ (∀ b, Value.ref a = .ref b → ∃ ob, s.heap.get? b = some ob ∧ ob.dict = none) ∧ (a == sysModules) = false := by
  rcases d with ⟨kvs, e⟩ | ⟨kvs, e⟩
  · obtain ⟨_, hd, vs, _, dd⟩ := dk_rd I.hok e
    refine ⟨dd.typeIs, fun b q => ?_, hd⟩
    cases q
    obtain ⟨ob, _, _, h1, h2, _⟩ := dd
    exact ⟨ob, h1, h2.2.1⟩
  · obtain ⟨_, hd, xs, _, dd⟩ := dt_rd I.hok e
    refine ⟨dd.typeIs, fun b q => ?_, hd⟩
    cases q
    obtain ⟨ob, _, _, h1, h2, _⟩ := dd
    exact ⟨ob, h1, h2.2.1⟩
section
variable {X : Cx} {pins : List (Addr × Obj)} {σ : St} {H : Hp} {s : Shared} {a : Addr} {y d : V} {u r : Value} {o : Option V} {A : Around} {E : Value → Shared → Prop}
theorem d_get2 {Q : Value → Shared → Prop} (hu : A.units + 1 < cLine) (I : Inv X pins σ H s) (g : DGet H a y o) (ry : RelV y u) (rd : RelV d r) (h : ∀ w' s', Inv X pins σ H s' → RelV (o.getD d) w' → Q w' s') :
    wpAny (model X.prog X.w) A (call (.builtin "dict.get") [.ref a, u, r]) Q E s := by
  rcases g with ⟨kvs, k, e, ey, l⟩ | ⟨kvs, k, b, e, ey, eb, l⟩
  · subst ey
    obtain ⟨z, hd, vs, rel, dd⟩ := dk_rd I.hok e
    refine call_meetsIn PySem.F.slot_dict_get dd.typeIs PySem.F.entry_dict_get (PySem.F.args_dict_get_3 _ _ _) (meets_dict_get_default (mixKind X.prog X.w) a (kV_is ry) hd r) ⟨_, dd.mapOf, h _ _ (I.tok _) ?_⟩
    rw [l]
    exact (rel.val k).getD rd
  · subst ey
    cases (show u = Value.ref b from ry)
    obtain ⟨z, hd, xs, rel, dd⟩ := dt_rd I.hok e
    refine call_meetsIn PySem.F.slot_dict_get dd.typeIs PySem.F.entry_dict_get (PySem.F.args_dict_get_3 _ _ _) (meetsH_dict_get_default (tupleKind (mixKind X.prog X.w)) a b hd r) ⟨tupleKind_room_in1 hu, k, xs, key_of I.hok eb, dd, h _ _ (I.tok _) ?_⟩
    rw [l]
    exact (rel.val k).getD rd
end
noncomputable def tDGet2 (td ty tx : TE) : TE := fun σ H Q => td σ H fun x H1 => ∃ a, x = .ref a ∧ IsD H1 a ∧ ty σ H1 fun y H2 => tx σ H2 fun z H3 => ∃ o, DGet H3 a y o ∧ Q (o.getD z) H3
section
variable {X : Cx} {o e f : Expr} {apos cpos : Pos} {td ty tx : TE}
theorem pe_dget2 (hu : X.A.units + 1 < cLine) (ho : PE X o td) (he : PE X e ty) (hf : PE X f tx) (m : M2 X o "get" apos e f cpos) : PE X (.Call (.Attribute o "get" apos) [e, f] [] cpos) (tDGet2 td ty tx) := by
  intro pins s σ H Q I h
  refine wpAny_Call_method m.base m.few m.line PySem.F.plainAttrs_dict PySem.F.slot_dict_get PySem.F.type_dict_get (thn (ho pins s σ H _ I h) fun u s1 hq_ => ?_)
  obtain ⟨x, H1, I1, rx, a, ex, d, q1⟩ := hq_
  subst ex
  obtain rfl : u = Value.ref a := rx
  obtain ⟨t1, t2, _⟩ := isD_at I1 d
  refine ⟨t1, t2, ?_⟩
  rw [m.trees]
  refine Calls.callWith_builtin rfl (Calls.evalArgs_plain (Calls.spliced_cons (thn (he pins s1 σ H1 _ I1 q1) fun iv s2 ⟨y, H2, I2, ry, q2⟩ =>
    Calls.spliced_cons (thn (hf pins s2 σ H2 _ I2 q2) fun fv s3 ⟨z, H3, I3, rz, ov, g, q3⟩ => Calls.spliced_nil ?_))))
  exact d_get2 hu I3 g ry rz fun w' s4 I4 rw' => ⟨_, H3, I4, rw', q3⟩
end
end L2
namespace Att
open PySem PySem.W PySem.Calls PyProof.Rows
theorem ints_of_wellAll {P : Params} {h : Heap} : ∀ (ns : List Int) (vs : List Value), WellAll P h vs (ns.map WData.int) → IntsAre vs ns := by
  intro ns
  induction ns with
  | nil =>
    intro vs w
    rw [List.map_nil] at w
    cases w
    exact .nil
  | cons n ns ih =>
    intro vs w
    rw [List.map_cons] at w
    cases w with
    | cons a b =>
      cases a
      exact .cons _ _ (ih _ b)
theorem script_of {l : OpenLaw} {n : Nat} (hn : l.most = some n) {P : Params} {h : Heap} {args : List WData} {vals : List Value}
    (hpre : l.row.toRowW.claim.pre args = true) (hwl : WellAll P h vals args) :
    ∃ a vs ns, vals = [Value.ref a] ∧ args = [WData.list (ns.map WData.int)] ∧ h.get? a = some { cls := .type "list", data := .seq vs.toArray } ∧ IntsAre vs ns ∧ ns.length ≤ n := by
  have hsh : WShape.hasAll [] args [.list .int] = true := (pre_splitW hpre).1
  have hc : l.pre.holds [] { args := args } = true := (pre_splitW hpre).2
  obtain ⟨d, r, rfl, h1, h2⟩ := hasAllW_cons hsh
  obtain rfl := hasAllW_nil h2
  obtain ⟨xs, rfl, h3⟩ := hasW_list h1
  obtain ⟨ns, rfl⟩ := items_int h3
  have hlen : ns.length ≤ n := by
    unfold OpenLaw.pre at hc
    have h4 : (WTm.not (.lt (.lit (.int (n : Int))) (.len (.arg 0)))).holds [] { args := [.list (ns.map .int)] } = true := by
      have h4 := (holds_andW hc).1
      rw [hn] at h4
      exact h4
    have h5 := condW_of h4 (w_not (w_lt w_lit (w_len_list (w_arg rfl))))
    rw [List.length_map] at h5
    refine Nat.le_of_not_lt fun q => ?_
    have q' : (n : Int) < ((ns.length : Nat) : Int) := by omega
    first
      | (rw [decide_eq_true q'] at h5; exact absurd h5 (by decide))
      | (simp at h5; omega)
  cases hwl with
  | cons w1 w2 =>
    cases w2
    cases w1 with
    | list ho hall => exact ⟨_, _, ns, rfl, rfl, ho, ints_of_wellAll ns _ hall, hlen⟩
theorem post_true (l : OpenLaw) (args : List WData) : l.row.toRowW.claim.post args (.bool true) args = true :=
  postW_of (r := l.row.toRowW) (X := (true == true))
    (show WShape.has [] (.bool true) .bool = true by first | rfl | decide | simp [WShape.has, WShape.arms, WShape.armsAll])
    (show (WTm.eq .res (.lit (.bool true))).value [] { args := args, res := some (.bool true), after := args } = some (.bool (true == true)) from w_eq_bool (w_res rfl) w_lit) rfl
theorem attach_call {l : OpenLaw} {n : Nat} {q : Program} {loose : List Str} {XP : (Str → Option Value) → Heap → Prop} {YP : World → Heap → Prop} {d : DefRec}
    (hn : l.most = some n) (hdf : d.params.defaults = [])
    (call : ∀ (w : World) (s₀ s₁ : Shared) (mg mb : Str → Option Value) (fa : Addr) (o : Obj) (pm cd doc : Value) (a : Addr) (vs : List Value) (ns : List Int),
      Ground q loose [] XP w s₀ mg mb s₁.heap → YP w s₁.heap →
      s₁.heap.get? fa = some o → o.data = .func (docDef d.name d.params d.body d.scope pm cd doc) → s₁.heap.CodeRec cd d.name → mg d.name = some (.ref fa) →
      s₁.heap.get? a = some { cls := .type "list", data := .seq vs.toArray } → IntsAre vs ns → ns.length ≤ n → s₁.gens = #[] →
      codeAny (model l.prog w) callerA (.call (.ref fa) ⟨[.ref a], []⟩) (fun r s' => r = .ok (.ret (.bool true)) ∧ OldK s₁.heap s'.heap ∧ s'.os = s₁.os ∧ AllBare s'.gens) s₁) :
    WalkO q loose XP YP l.row.toRowW d [] (fun f vs => PySem.call f vs) := by
  intro w s₀ s₁ mg mb G Y fa o pm cd doc dV kV ho hd hcd hD hmg hg args vals as hpre hlay hrd hwl hlo
  obtain rfl : dV = .none := Dflts.none hD hdf
  obtain rfl : kV = .none := Dflts.noKw hD
  obtain ⟨a, vs, ns, rfl, rfl, hobj, hints, hlen⟩ := script_of hn hpre hwl
  refine enter_call (codeAny_mono (call w s₀ s₁ mg mb fa o pm cd doc a vs ns G Y ho (fd_plain hd) hcd hmg hobj hints hlen hg) fun r s' hq => ?_)
  obtain ⟨rfl, h2, h3, h4⟩ := hq
  exact ⟨.inl ⟨.bool true, .bool true, [], rfl, fun _ => rfl, .bool true, post_true l _, fun _ => ⟨List.Pairwise.nil, fun _ hm => (nomatch hm)⟩⟩, h2, h3, h4⟩
end Att
namespace L2
open PySem PySem.Spec PyProof.Rows
theorem vals_ints {vs : List Value} {ns : List Int} (h : IntsAre vs ns) : Vals (ns.map V.int) vs := by
  induction h with
  | nil => exact .nil
  | cons n t _ ih => exact .cons ⟨t, rfl⟩ ih
def Only (H : Hp) : Prop := ∀ b, H b = none ∨ ∃ o xs, H b = some (.frz o (.lst xs))
theorem law_call {P : Program} {w : World} {K : PySem.W.Frag} {mg mb : Str → Option Value} {CX : CXT} {k : Nat} {fa a : Addr} {fd : FuncData} {x : Str} {sp : Sp} {s₁ : Shared} {vs : List Value} {ns : List Int}
    (KX : K.In s₁.heap) (hns : s₁.heap.Ns mainGlobals mg) (hb : s₁.heap.Ns builtinsNs mb) (hbb : ∀ x : Str, x ≠ "__name__" → mb x = bootBuiltins x) (hlim : s₁.heap.NoLimit) (hg : s₁.gens = #[])
    (ha : s₁.heap.get? a = some { cls := .type "list", data := .seq vs.toArray }) (hi : IntsAre vs ns) (hl : ns.length ≤ sizeLine) (hr : Room k callerA)
    (F : ∀ base : Heap, K.In base → base.Ns mainGlobals mg → FnOk P w K mg base CX k fa fd [x] sp) (hbind : ∀ (s : Shared) (u : Value), BindsTo s fd ⟨[u], []⟩ [(x, u)])
    (hsp : ∀ H : Hp, Only H → SqL K H a (ns.map V.int) → sp [.ref a] H (fun v _ => v = .bl true) fun _ _ _ => False)
    (hCX : ∀ H e s', CX [] H s₁ (fun _ _ _ => False) e s' → False) :
    codeAny (model P w) callerA (.call (.ref fa) ⟨[.ref a], []⟩) (fun r s' => r = .ok (.ret (.bool true)) ∧ OldK s₁.heap s'.heap ∧ s'.os = s₁.os ∧ AllBare s'.gens) s₁ := by
  have rv := vals_ints hi
  have lenV := hi.length
  have core : ∀ H : Hp, Only H → SqL K H a (ns.map V.int) → HOk P w H s₁.heap → (∀ b, H b ≠ none → b = a) → (H a ≠ none → K.lookup a = none) →
      codeAny (model P w) callerA (.call (.ref fa) ⟨[.ref a], []⟩) (fun r s' => r = .ok (.ret (.bool true)) ∧ OldK s₁.heap s'.heap ∧ s'.os = s₁.os ∧ AllBare s'.gens) s₁ := by
    intro H hO hS hok hA hK
    have base_of : ∀ {b : Addr} {o : Obj}, s₁.heap.get? b = some o → H b = none → (hidT s₁.heap H).get? b = some o := fun e n => hidT_get e n
    have noA : ∀ {b : Addr} {o : Obj} {es : Array DictEntry} {ep : Nat}, s₁.heap.get? b = some o → o.data = .dict es ep → H b = none := fun {b o es ep} e d => by
      cases q : H b with
      | none => rfl
      | some u =>
        have e' : b = a := hA b (by rw [q]; simp)
        subst e'
        rw [ha] at e; cases e
        have d' : Data.seq vs.toArray _ = Data.dict es ep := d
        cases d'
    have nsK : ∀ {b : Addr} {m : Str → Option Value}, s₁.heap.Ns b m → (hidT s₁.heap H).Ns b m := fun {b m} ⟨o, es, ep, e, d, r⟩ => ⟨o, es, ep, base_of e (noA e d), d, r⟩
    have hKb : K.In (hidT s₁.heap H) := fun b o e => base_of (KX b o e) (by
      cases q : H b with
      | none => rfl
      | some u =>
        have e' : b = a := hA b (by rw [q]; simp)
        subst e'
        rw [hK (by rw [q]; simp)] at e; cases e)
    have hM : Mod K mg (hidT s₁.heap H) := ⟨hKb, nsK hns, ⟨mb, nsK hb, hbb⟩, let ⟨mc, h1, h2⟩ := hlim; ⟨mc, nsK h1, h2⟩⟩
    have e0 : Env0 P w K mg (hidT s₁.heap H) callerA [] s₁ H := ⟨rfl, hM, fun b o e => of_hidT e, Nat.le_of_eq (hidT_size _ _), trivial, fun b hb => absurd (show b ∈ ([] : List Addr) from hb) (by simp), hok, .of_eq hg⟩
    refine codeAny_mono ((F _ hKb (nsK hns)).run callerA [] s₁ H ⟨[.ref a], []⟩ [.ref a] [.ref a] _ _ hr e0 (hbind s₁ (.ref a)) (.cons rfl .nil) (hsp H hO hS)) fun r s' h => ?_
    cases r with
    | error e => exact (hCX H e s' h).elim
    | ok fl =>
      cases fl with
      | next => exact False.elim h
      | brk => exact False.elim h
      | cont => exact False.elim h
      | ret u =>
        obtain ⟨v, H', os, bare, un, hok', r', q⟩ := h
        have q' : v = .bl true := q
        subst q'
        obtain rfl : u = Value.bool true := r'
        refine ⟨rfl, OldK.of_keep fun b o e => ?_, os, bare⟩
        cases q : H b with
        | none => exact un.keep b o e q (by intro z; exact absurd (show b ∈ ([] : List Addr) from z) (by simp)) (by simp)
        | some u =>
          rcases hO b with z | ⟨ob, xs, z⟩
          · rw [q] at z; cases z
          · have z2 := un.frzs b ob _ z
            obtain ⟨e1, _⟩ := hok b _ z
            obtain ⟨e2, _⟩ := hok' b _ z2
            rw [e] at e1; cases e1
            exact e2
  cases hk : K.lookup a with
  | some o =>
    have e := KX a o hk
    rw [ha] at e
    cases e
    refine core (fun _ => none) (fun _ => .inl rfl) (.inr ⟨_, vs.toArray, _, hk, rfl, rfl, rfl, by rw [List.size_toArray, lenV]; exact hl, by simpa using rv⟩) (fun b u z => by have z' : (none : Option HO) = some u := z; cases z') (fun b z => absurd rfl z) fun z => absurd rfl z
  | none =>
    refine core (fun b => if b = a then some (.frz { cls := .type "list", data := .seq vs.toArray } (.lst (ns.map V.int))) else none) (fun b => ?_) (.inl (.inr ⟨{ cls := .type "list", data := .seq vs.toArray }, if_pos rfl⟩)) (fun b u z => ?_) (fun b z => ?_) fun _ => hk
    · by_cases hb : b = a
      · exact .inr ⟨_, _, if_pos hb⟩
      · exact .inl (if_neg hb)
    · by_cases hb : b = a
      · have z' := (if_pos hb).symm.trans z
        cases z'
        subst hb
        exact ⟨ha, by rw [List.length_map]; exact hl, vs, _, rv, ha⟩
      · have z' := (if_neg hb).symm.trans z
        cases z'
    · by_cases hb : b = a
      · exact hb
      · exact absurd (if_neg hb) z
end L2
namespace L2
open PySem PySem.Spec PyProof.Rows
theorem walk_of {l : PySem.W.OpenLaw} {n k : Nat} {q : Program} {loose : List Str} {XP : (Str → Option Value) → Heap → Prop} {YP : World → Heap → Prop} {d : DefRec} {K : Params → PySem.W.Frag} {CX : World → CXT} {sp : World → Sp} {x : Str}
    (hn : l.most = some n) (hn2 : n ≤ sizeLine) (hdf : d.params.defaults = []) (hr : Room k callerA)
    (hY : ∀ (w : World) (h : Heap), YP w h → (K w.params).In h)
    (F : ∀ (w : World) (mg : Str → Option Value) (fa : Addr) (h : Heap), (K w.params).In h → h.Ns mainGlobals mg → mg d.name = some (.ref fa) →
      ∃ fd : FuncData, (∀ (s : Shared) (u : Value), BindsTo s fd ⟨[u], []⟩ [(x, u)]) ∧
        ∀ base : Heap, (K w.params).In base → base.Ns mainGlobals mg → FnOk l.prog w (K w.params) mg base (CX w) k fa fd [x] (sp w))
    (hsp : ∀ (w : World) (H : Hp) (a : Addr) (ns : List Int), ns.length ≤ n → Only H → SqL (K w.params) H a (ns.map V.int) → sp w [.ref a] H (fun v _ => v = .bl true) fun _ _ _ => False)
    (hCX : ∀ (w : World) (H : Hp) (s : Shared) (e : Value) (s' : Shared), CX w [] H s (fun _ _ _ => False) e s' → False) :
    PySem.W.WalkO q loose XP YP l.row.toRowW d [] (fun f vs => PySem.call f vs) := by
  refine Att.attach_call hn hdf fun w s₀ s₁ mg mb fa o pm cd doc a vs ns G Y ho hd hcd hmg hobj hints hlen hg => ?_
  have KX := hY w _ Y
  obtain ⟨fd, hb, hF⟩ := F w mg fa _ KX G.T.g hmg
  exact law_call KX G.T.g G.T.b G.T.builtins G.T.nolimit hg hobj hints (Nat.le_trans hlen hn2) hr hF hb (fun H hO hS => hsp w H a ns hlen hO hS) fun H e s' => hCX w H s₁ e s'
end L2
namespace L2
open PySem PySem.Spec PyProof.Rows
noncomputable def defArgs (s : Stmt) : Arguments := match s with
  | .FunctionDef _ a _ _ _ _ _ _ _ _ => a
  | _ => { posonlyargs := [], args := [], vararg := none, kwonlyargs := [], kw_defaults := [], kwarg := none, defaults := [] }
noncomputable def defBody (s : Stmt) : List Stmt := match s with
  | .FunctionDef _ _ b _ _ _ _ _ _ _ => b
  | _ => []
noncomputable def defScope (s : Stmt) : Scope := match s with
  | .FunctionDef _ _ _ _ _ _ sc _ _ _ => sc
  | _ => { kind := .function, names := [], isGenerator := false, isCoroutine := false }
noncomputable abbrev CX0 : CXT := fun _ _ _ _ _ _ => False
noncomputable abbrev E0 : XK := fun _ _ _ => False
theorem pass0 {X : Cx} : Passes CX0 X E0 := fun _ _ _ _ _ _ _ h => h.elim
structure Fun (K : PySem.W.Frag) (x qual : Str) (st : Stmt) (f : Addr) (fd : FuncData) : Prop where
  ex : ∃ (oc : Value) (od : Option Addr) (kV doc pm : Value) (an : Option Addr) (cdv ct : Value) (osl : Array (Option Value)),
    fd = PySem.W.fnOf x qual (defArgs st) (defBody st) (defScope st) .none kV doc pm an cdv ct ∧ K.lookup f = some ⟨oc, od, .func fd, osl⟩ ∧ PySem.W.codeIn K cdv qual = true
  kp : PySem.W.keepIn K (.ref f) = true
section
variable {P : Program} {w : World} {K : PySem.W.Frag} {mg : Str → Option Value} {base : Heap}
theorem Fun.ok {x qual : Str} {st : Stmt} {f : Addr} {fd : FuncData} {N ps : List Str} {k : Nat} {sp : Sp} (F : Fun K x qual st f fd) (S : FnScope N ps (defScope st)) (len : ∀ vs H Q E, sp vs H Q E → vs.length = ps.length)
    (hbody : ∀ (cdv : Value) (A : Around) (outer : List Env) (s : Shared) (H : Hp) (vs : List V) (Q : VK) (E : XK), Room k (A.deeper (envOfC qual (defScope st) s.heap.objs.size f cdv)) → sp vs H Q E →
      ∃ t, PSs (cxOf CX0 P w K mg base N qual (defScope st) f cdv A outer s H E).nox (defBody st) t ∧ t { nx := fun _ H' => Q .non H', rt := Q } (start N vs) H) : FnOk P w K mg base CX0 (k + 1) f fd ps sp := by
  obtain ⟨oc, od, kV, doc, pm, an, cdv, ct, osl, rfl, lk, hcd⟩ := F.ex
  refine fn_of lk hcd S len fun A outer s H vs Q E hr hsp => ?_
  obtain ⟨t, h, q⟩ := hbody cdv A outer s H vs Q E hr hsp
  exact ⟨t, h.nox, q⟩
theorem Fun.binds {x qual : Str} {st : Stmt} {f : Addr} {fd : FuncData} {ps : List Str} (F : Fun K x qual st f fd)
    (h : ∀ (kV doc pm : Value) (an : Option Addr) (cdv ct : Value) (us : List Value), us.length = ps.length → bindArgs (PySem.W.fnOf x qual (defArgs st) (defBody st) (defScope st) .none kV doc pm an cdv ct) ⟨us, []⟩ = pure (ps.zip us)) : Binds K fd ps [] := by
  obtain ⟨oc, od, kV, doc, pm, an, cdv, ct, osl, rfl, lk, hcd⟩ := F.ex
  exact .all (h kV doc pm an cdv ct)
theorem fun_mk {x qual : Str} {st : Stmt} {f : Addr} {oc : Value} {od an : Option Addr} {osl : Array (Option Value)} {kV doc pm cdv ct : Value} (l : K.lookup f = some ⟨oc, od, .func (PySem.W.fnOf x qual (defArgs st) (defBody st) (defScope st) .none kV doc pm an cdv ct), osl⟩)
    (c : PySem.W.codeIn K cdv qual = true) (k : PySem.W.keepIn K (.ref f) = true) : Fun K x qual st f (PySem.W.fnOf x qual (defArgs st) (defBody st) (defScope st) .none kV doc pm an cdv ct) := ⟨⟨oc, od, kV, doc, pm, an, cdv, ct, osl, rfl, l, c⟩, k⟩
end
theorem hu_of {A : Around} {k : Nat} (hr : Room k A) : A.units + 1 < cLine := Nat.lt_of_le_of_lt (Nat.add_le_add_left (by decide : 1 ≤ 64) _) hr.units
theorem small1000 {n : Nat} (h : n ≤ 1000) : n < sizeLine := Nat.lt_of_le_of_lt h (by decide)
section
variable {X : Cx}
theorem pv (i : Nat) {x : Str} {pos : Pos} (hN : X.N[i]? = some x := by rfl) (hv : Vis X.env.scope x := by first | exact Or.inl rfl | exact Or.inr (Or.inl rfl) | exact Or.inr (Or.inr rfl)) (hd : (x == ("__debug__" : Str)) = false := by decide)
    (hcd : (x == ("__classdict__" : Str)) = false := by decide) : PE X (.Name x pos) (tVar i) := pe_var hN hv hd hcd
end
theorem iteF {A B : Prop} (h : B) : if false = true then A else B := by
  rw [if_neg Bool.false_ne_true]
  exact h
theorem iteT {A B : Prop} (h : A) : if true = true then A else B := by
  rw [if_pos rfl]
  exact h
theorem ite2 {c A B : Prop} [Decidable c] (h1 : c → A) (h2 : ¬ c → B) : if c then A else B := by
  by_cases h : c
  · rw [if_pos h]
    exact h1 h
  · rw [if_neg h]
    exact h2 h
def Same (H H' : Hp) : Prop := ∀ b o, H b = some o → H' b = some o
theorem Same.seq {K : PySem.W.Frag} {H H' : Hp} {a : Addr} {xs : List V} (e : Same H H') (h : SqL K H a xs) : SqL K H' a xs := by
  rcases h with (h | ⟨o, h⟩) | h
  · exact .inl (.inl (e _ _ h))
  · exact .inl (.inr ⟨o, e _ _ h⟩)
  · exact .inr h
end L2
set_option maxHeartbeats 4000000
namespace L2
open PySem PySem.Spec PyProof.Rows
noncomputable abbrev TB := St → Hp → (St → Hp → Prop) → Prop
def PB (X : Cx) (m : Sem Unit) (B : TB) : Prop :=
  ∀ (pins : List (Addr × Obj)) (s : Shared) (σ : St) (H : Hp) (Q : St → Hp → Prop), Inv X pins σ H s → B σ H Q →
    wpAny (model X.prog X.w) X.A m (fun _ s' => ∃ σ' H', Inv X pins σ' H' s' ∧ Q σ' H') X.xe s
noncomputable def tAll : List TT → TT
  | [] => fun _ H Q => Q true H
  | t :: r => fun σ H Q => t σ H fun b H1 => if b = true then tAll r σ H1 Q else Q false H1
inductive PTs (X : Cx) : List Expr → List TT → Prop
  | nil : PTs X [] []
  | cons {e es t ts} : PT X e t → PTs X es ts → PTs X (e :: es) (t :: ts)
noncomputable def testsOf (ifs : List Expr) (env : Env) (b : Bool) : Sem Bool := forIn ifs b fun c r => if r = true then do let ok ← isTrue c env (eval c env); pure (ForInStep.yield ok) else pure (ForInStep.yield r)
theorem tests_false {M : Model} {A : Around} {E : Value → Shared → Prop} {env : Env} {Q : Bool → Shared → Prop} {s : Shared} (h : Q false s) : ∀ ifs : List Expr, wpAny M A (testsOf ifs env false) Q E s
  | [] => wpAny_pure h
  | c :: r => by
    unfold testsOf
    simp only [List.forIn_cons, Bool.false_eq_true, if_false]
    exact wpAny_bind (wpAny_pure (tests_false h r))
theorem tests_ok {X : Cx} : ∀ {ifs : List Expr} {ts : List TT}, PTs X ifs ts → ∀ (pins : List (Addr × Obj)) (s : Shared) (σ : St) (H : Hp) (Q : Bool → Hp → Prop), Inv X pins σ H s → tAll ts σ H Q →
    wpAny (model X.prog X.w) X.A (testsOf ifs X.env true) (TP X pins σ Q) X.xe s
  | _, _, .nil, pins, s, σ, H, Q, I, h => wpAny_pure ⟨H, I, h⟩
  | _, _, .cons (es := es) h1 h2, pins, s, σ, H, Q, I, h => by
    unfold testsOf
    simp only [List.forIn_cons, if_true]
    refine wpAny_bind (wpAny_bind (thn (h1 pins s σ H _ I h) fun b s1 ⟨H1, I1, q1⟩ => wpAny_pure ?_))
    cases b with
    | true => exact tests_ok h2 pins s1 σ H1 Q I1 q1
    | false => exact tests_false (show TP X pins σ Q false s1 from ⟨H1, I1, q1⟩) es
noncomputable def LoopT (J : It) (g : TG) (tt : TT) (B : TB) : TB := fun σ H Q => ∃ W : Nat → Nat → St → Hp → Prop, (∃ m, W 0 m σ H) ∧ ∀ i m σ H, W i m σ H →
  (J.stop i H ∧ Q σ H) ∨ (J.go i H ∧ ∀ x H', J.yld i H x H' → g x σ H' fun σ2 H2 => tt σ2 H2 fun b H3 =>
    if b = true then B σ2 H3 (fun σ3 H4 => ∃ m', m' < m ∧ W (i + 1) m' σ3 H4) else ∃ m', m' < m ∧ W (i + 1) m' σ2 H3)
noncomputable def CompR (X : Cx) (pins : List (Addr × Obj)) (Q : St → Hp → Prop) : Result → Shared → Prop
  | .ok _, s' => ∃ σ' H', Inv X pins σ' H' s' ∧ Q σ' H'
  | .error _, _ => False
structure ClauseAt (X : Cx) (e : Expr) (d : Nat) (acc : Value) (tg iter : Expr) (ifs : List Expr) (beh : Sem Unit) : Prop where
  quiet : ∀ it, (Code.compLoop e d it acc X.env).quiet = true
  under : ∀ it, X.A.under (Code.compLoop e d it acc X.env) = X.A
  den : ∀ it, (model X.prog X.w).den (.compLoop e d it acc X.env) = (compTurn e d it acc X.env).onRaise (fun x => do noteFrame x X.env; theTreesLotGoes x)
  turn : ∀ it, compTurn e d it acc X.env = (do
      standAt iter.pos
      match ← pyNext it with
      | none => pure (.done .next)
      | some v =>
        letOwnedTupleGo tg it v
        assign tg X.env v
        let ok ← testsOf ifs X.env true
        if ok then beh
        again (.compLoop e d it acc X.env))
  start : ∀ (it : Value) (R : Result → Shared → Prop) (s : Shared), codeAny (model X.prog X.w) X.A (.compLoop e d it acc X.env) R s →
    wpAny (model X.prog X.w) X.A (pyIter it) (fun it' s' => codeAny (model X.prog X.w) X.A (.compLoop e d it' acc X.env) R s') (fun _ _ => False) s → codeAny (model X.prog X.w) X.A (.compStart e d it acc X.env) R s
theorem comp_loop {X : Cx} {e : Expr} {d : Nat} {acc : Value} {tg iter : Expr} {ifs : List Expr} {beh : Sem Unit} {J : It} {fp : List Addr} {it : Addr} {tn : Nat → Heap → Prop} {g : TG} {tts : List TT} {B : TB}
    (hxe : X.xe = fun _ _ => False) (hc : X.calm = true) (C : ClauseAt X e d acc tg iter ifs beh) (T : Turn X.prog X.w X.K tg J fp it tn) (hg : PG X tg g) (ht : PTs X ifs tts) (hb : PB X beh B)
    {pins : List (Addr × Obj)} {σ : St} {H : Hp} {s : Shared} {Q : St → Hp → Prop} (I : Inv X pins σ H s) (st : tn 0 s.heap) (f : ∀ b ∈ fp, FpOk X pins H b) (q : LoopT J g (tAll tts) B σ H Q) :
    codeAny (model X.prog X.w) X.A (.compLoop e d (.ref it) acc X.env) (CompR X pins Q) s := by
  obtain ⟨W, ⟨m0, w0⟩, turn⟩ := q
  have stat : ∀ {H' : Hp}, (∀ b ∈ fp, H' b = none) → ∀ b ∈ fp, FpOk X pins H' b := fun hn b hb => ⟨hn b hb, (f b hb).2⟩
  refine codeAny_loop (C.quiet _) (fun n s' => ∃ i σ' H', Inv X pins σ' H' s' ∧ tn i s'.heap ∧ (∀ b ∈ fp, H' b = none) ∧ W i n σ' H') ?_ m0 ⟨0, σ, H, I, st, fun b hb => (f b hb).1, w0⟩
  rintro n s3 ⟨i, σ3, H3, I3, st3, fr3, w3⟩
  rw [C.under, C.den]
  refine wpAny_noted ?_
  rw [C.turn]
  refine wpAny_bind (wpAny_standAt ?_)
  have lift : ∀ {α : Type} {t : Sem α} {R : α → Shared → Prop} {s : Shared}, wpAny (model X.prog X.w) X.A t R X.xe s → wpAny (model X.prog X.w) X.A t R (notedBy (model X.prog X.w) X.A X.env fun x s' => CompR X pins Q (.error x) s') s := by
    intro α t R s h
    rw [hxe] at h
    exact wpAny_mono h (fun _ _ z => z) fun _ _ z => z.elim
  rcases turn i n σ3 H3 w3 with ⟨stop, qn⟩ | ⟨go, step⟩
  · refine wpAny_bind (lift (thn (T.done X rfl rfl rfl hc i pins s3 σ3 H3 X.xe I3 (stat fr3) st3 stop) fun r s4 hq_ => ?_))
    obtain ⟨hr, I4⟩ := hq_
    subst hr
    exact wpAny_pure ⟨σ3, H3, I4, qn⟩
  · refine wpAny_bind (lift (thn (T.item X rfl rfl rfl hc i pins s3 σ3 H3 X.xe I3 (stat fr3) st3 go) fun r s4 hq_ => ?_))
    obtain ⟨u, hr, h4⟩ := hq_
    subst hr
    refine wpAny_bind (lift (thn h4 fun _ s5 hq_ => ?_))
    obtain ⟨x, H5, I5, r5, y5, st5, fr5⟩ := hq_
    have I5' := I5.pinned (stat fr5) (T.obj _ _ st5)
    refine wpAny_bind (lift (thn (hg _ s5 σ3 H5 x u _ I5' r5 (step x H5 y5)) fun _ s6 hq_ => ?_))
    obtain ⟨σ6, H6, I6, q6⟩ := hq_
    have again : ∀ {σ7 : St} {H7 : Hp} {s7 : Shared}, Inv X (pins ++ pinsAt fp s5.heap) σ7 H7 s7 → (∃ m', m' < n ∧ W (i + 1) m' σ7 H7) → ∃ m, m < n ∧ ∃ i σ' H', Inv X pins σ' H' s7 ∧ tn i s7.heap ∧ (∀ b ∈ fp, H' b = none) ∧ W i m σ' H' := fun {σ7 H7 s7} I7 ⟨m', hm, w7⟩ => by
      refine ⟨m', hm, i + 1, σ7, H7, I7.unpinned, T.keep _ _ _ st5 fun b hb o e => (I7.pin (b, o) (List.mem_append_right _ (List.mem_append_right _ (mem_pinsAt hb e)))).1, fun b hb => ?_, w7⟩
      obtain ⟨o, e, _⟩ := T.obj _ _ st5 b hb
      exact (I7.pin (b, o) (List.mem_append_right _ (List.mem_append_right _ (mem_pinsAt hb e)))).2.1
    refine wpAny_bind (lift (thn (tests_ok ht _ s6 σ6 H6 _ I6 q6) fun ok s7 hq_ => ?_))
    obtain ⟨H7, I7, q7⟩ := hq_
    cases ok with
    | false =>
      exact wpAny_pure ⟨rfl, again I7 q7⟩
    | true =>
      refine wpAny_bind (lift (thn (hb _ s7 σ6 H7 _ I7 q7) fun _ s8 hq_ => ?_))
      obtain ⟨σ8, H8, I8, q8⟩ := hq_
      exact wpAny_pure ⟨rfl, again I8 q8⟩
end L2
set_option maxHeartbeats 4000000
namespace L2
open PySem PySem.Spec PyProof.Rows
theorem closure_go (env : Env) : ∀ (names : List (Str × NameKind)) (cs : List (Str × Addr)), (∀ x ∈ names, x.2 = .free → ∃ c, env.cells.lookup x.1 = some c) →
    (∀ x c, cs.lookup x = some c → env.cells.lookup x = some c) →
    ∃ cl, (forIn names cs fun (x : Str × NameKind) (r : List (Str × Addr)) => (if (x.2 == NameKind.free) = true then do let c ← cellOf env x.1; pure (ForInStep.yield ((x.1, c) :: r)) else pure (ForInStep.yield r) : Sem (ForInStep (List (Str × Addr))))) = pure cl ∧
      (∀ x c, cl.lookup x = some c → env.cells.lookup x = some c) ∧ (∀ x, (x, NameKind.free) ∈ names ∨ (∃ c, cs.lookup x = some c) → ∃ c, cl.lookup x = some c)
  | [], cs, _, h2 => ⟨cs, rfl, h2, fun x h => h.elim (fun z => nomatch z) id⟩
  | (n, k) :: r, cs, h1, h2 => by
    rw [List.forIn_cons]
    have hr : ∀ x ∈ r, x.2 = .free → ∃ c, env.cells.lookup x.1 = some c := fun x hx => h1 x (List.mem_cons_of_mem _ hx)
    by_cases hk : k = .free
    · subst hk
      obtain ⟨c, hc⟩ := h1 (n, .free) List.mem_cons_self rfl
      have hcell : cellOf env n = pure c := by unfold cellOf; rw [hc]
      obtain ⟨cl, e, a, b⟩ := closure_go env r ((n, c) :: cs) hr (fun x d hx => by
        rw [List.lookup_cons] at hx
        cases hxn : x == n with
        | true =>
          rw [hxn] at hx
          have : x = n := eq_of_beq hxn
          cases hx; rw [this]; exact hc
        | false => rw [hxn] at hx; exact h2 x d hx)
      refine ⟨cl, ?_, a, fun x hx => b x ?_⟩
      · rw [hcell]
        exact e
      · by_cases hxn : x = n
        · exact .inr ⟨c, by rw [List.lookup_cons, hxn, beq_self_eq_true]⟩
        · rcases hx with hx | ⟨d, hx⟩
          · rcases List.mem_cons.mp hx with z | z
            · exact absurd (congrArg Prod.fst z) hxn
            · exact .inl z
          · refine .inr ⟨d, ?_⟩
            have : (x == n) = false := by simpa using hxn
            rw [List.lookup_cons, this]; exact hx
    · have hb : (k == NameKind.free) = false := by simpa using hk
      obtain ⟨cl, e, a, b⟩ := closure_go env r cs hr h2
      refine ⟨cl, ?_, a, fun x hx => b x ?_⟩
      · show (if (k == NameKind.free) = true then _ else _) >>= _ = _
        rw [hb]
        exact e
      · rcases hx with hx | hx
        · rcases List.mem_cons.mp hx with z | z
          · exact absurd (congrArg Prod.snd z).symm hk
          · exact .inl z
        · exact .inr hx
theorem closure_of {scope : Scope} {env : Env} (h : ∀ x ∈ scope.names, x.2 = .free → ∃ c, env.cells.lookup x.1 = some c) :
    ∃ cl, closureFor scope env = pure cl ∧ (∀ x c, cl.lookup x = some c → env.cells.lookup x = some c) ∧ ∀ x, (x, NameKind.free) ∈ scope.names → ∃ c, cl.lookup x = some c := by
  obtain ⟨cl, e, a, b⟩ := closure_go env scope.names [] h (fun x c hx => nomatch hx)
  refine ⟨cl, ?_, a, fun x hx => b x (.inl hx)⟩
  unfold closureFor
  show (forIn scope.names ([] : List (Str × Addr)) _) >>= _ = _
  have e2 : (forIn scope.names ([] : List (Str × Addr)) fun (x : Str × NameKind) (r : List (Str × Addr)) => (match x with | (name, kind) => if (kind == NameKind.free) = true then do let c ← cellOf env name; pure (ForInStep.yield ((name, c) :: r)) else pure (ForInStep.yield r) : Sem (ForInStep (List (Str × Addr))))) = pure cl := e
  rw [e2]
  rfl
noncomputable def relK (env : Env) (x : Str) (k : NameKind) : NameKind := if (k == .free && env.scope.kind == .function && env.kindOf x == some .cell) = true then .cell else k
theorem lookup_relabel (env : Env) (x : Str) : ∀ names : List (Str × NameKind),
    (names.map fun (n, k) => if (k == NameKind.free && env.scope.kind == .function && env.kindOf n == some .cell) then (n, NameKind.cell) else (n, k)).lookup x = (names.lookup x).map (relK env x)
  | [] => rfl
  | (n, k) :: r => by
    have ih := lookup_relabel env x r
    show List.lookup x ((if (k == NameKind.free && env.scope.kind == .function && env.kindOf n == some .cell) = true then (n, NameKind.cell) else (n, k)) :: _) = _
    have e : (if (k == NameKind.free && env.scope.kind == .function && env.kindOf n == some .cell) = true then (n, NameKind.cell) else (n, k)) = (n, relK env n k) := by
      unfold relK; split <;> rfl
    rw [e, List.lookup_cons, List.lookup_cons]
    cases hx : x == n with
    | true => have := eq_of_beq hx; subst this; rfl
    | false => exact ih
theorem kind_relabel (scope : Scope) (env : Env) (x : Str) : (relabel scope env).names.lookup x = (scope.names.lookup x).map (relK env x) := lookup_relabel env x scope.names
noncomputable def compCx (X : Cx) (own : List Str) (cap : List Nat) (scope : Scope) (cl : List (Str × Addr)) (s : Shared) (H : Hp) (ex : List Addr) : Cx :=
  { X with N := own ++ cap.map (fun j => X.N.getD j ""), env := compEnvC scope cl s.heap.objs.size X.env, s₀ := s, H₀ := H, outer := X.stack, ex := ex, fn := fun _ => false, pn := [], xe := fun _ _ => False }
noncomputable def compSt (own : List Str) (cap : List Nat) (σ : St) : St := own.map (fun _ => none) ++ cap.map (fun j => (σ[j]?).join)
structure CompScope (X : Cx) (own : List Str) (cap : List Nat) (scope : Scope) : Prop where
  kind : scope.kind = .function
  nocell : ∀ x ∈ scope.names, x.2 ≠ .cell
  names : ∀ x ∈ scope.names, x.2 = .local → scope.names.lookup x.1 = some .local
  free : ∀ x ∈ scope.names, x.2 = .free → X.env.kindOf x.1 = some .cell ∨ X.env.kindOf x.1 = some .free
  own : ∀ x ∈ own, scope.names.lookup x = some .local
  caps : ∀ j ∈ cap, scope.names.lookup (X.N.getD j "") = some .free ∧ j < X.N.length
theorem comp_inv {X : Cx} {own : List Str} {cap : List Nat} {scope : Scope} {cl : List (Str × Addr)} {pins : List (Addr × Obj)} {σ : St} {H : Hp} {s : Shared} {fp : List Addr} {h' : Heap} {tk : Nat} (S : CompScope X own cap scope)
    (I : Inv X pins σ H s) (hcl : ∀ x c, cl.lookup x = some c → X.env.cells.lookup x = some c) (hfr : ∀ x, (x, NameKind.free) ∈ scope.names → ∃ c, cl.lookup x = some c)
    (hf : ∀ b ∈ fp, FpOk X pins H b) (hlt : ∀ b ∈ fp, b < s.heap.objs.size) (hns : h'.Ns s.heap.objs.size (fun x => ([] : List (Str × Value)).reverse.lookup x)) (hk : ∀ b u, s.heap.get? b = some u → h'.get? b = some u) :
    Inv (compCx X own cap scope cl s H fp) [] (compSt own cap σ) H { s with heap := h', toks := tk } := by
  have kc : ∀ x k, (relabel scope X.env).names.lookup x = some k → (k = .cell ∨ k = .free) → (x, NameKind.free) ∈ scope.names := by
    intro x k e hk
    rw [kind_relabel] at e
    cases q : scope.names.lookup x with
    | none => rw [q] at e; cases e
    | some k0 =>
      rw [q] at e
      have e' : relK X.env x k0 = k := Option.some.inj e
      have hm := PySem.mem_of_lookup q
      have h0 : k0 ≠ .cell := S.nocell _ hm
      have : k0 = .free := by
        unfold relK at e'
        by_cases hb : (k0 == NameKind.free && X.env.scope.kind == .function && X.env.kindOf x == some .cell) = true
        · simp only [Bool.and_eq_true, beq_iff_eq] at hb
          exact hb.1.1
        · rw [if_neg hb] at e'
          rcases hk with z | z
          · exact absurd (e'.trans z) h0
          · exact e'.trans z
      rw [this] at hm
      exact hm
  have ok : (compCx X own cap scope cl s H fp).Ok := {
    mod := I.ok.mod
    kind := S.kind
    glob := I.ok.glob
    blt := I.ok.blt
    above := Nat.le_refl _
    inj := fun x y c e1 e2 => I.ok.inj x y c (hcl x c e1) (hcl y c e2)
    has := fun x hx => by
      rcases hx with hx | hx
      · exact hfr x (kc x _ hx (.inl rfl))
      · exact hfr x (kc x _ hx (.inr rfl))
    cab := fun x c h => absurd h (show ¬ (false = true) from Bool.false_ne_true)
    hd := I.ok.hd
    frames := I.ok.frames
    stk := .inl rfl
    exf := fun b hb => ⟨Nat.ne_of_lt (hlt b hb), fun x c e => (hf b hb).2.2.2.2.1 x c (hcl x c e)⟩
    bs := I.bs
    bsz := Nat.le_trans I.ok.bsz I.sz
    noex := fun b o e hb => by
      rcases (hf b hb).2.2.2.1 with z | z
      · exact I.ok.noex b o e z
      · exact absurd (Nat.lt_of_lt_of_le (Heap.lt_size e) (Nat.le_trans I.ok.bsz z)) (Nat.lt_irrefl _)
    exfs := fun b hb hm => by
      rcases List.mem_cons.mp (I.stkSub b hm) with z | z
      · exact (hf b hb).2.1 z
      · exact (hf b hb).2.2.1 z
    funs := I.stack
    frf := I.stkFree }
  refine ⟨ok, rfl, I.bare, Un.kept hk, ⟨_, hns, fun i x v e1 e2 e3 => ?_⟩, fun x c e => ?_, I.hok.fresh (Nat.le_refl _), fun x c e => I.freeC x c (hcl x c e), fun p hp => absurd (show p ∈ ([] : List (Addr × Obj)) from hp) (by simp), I.hok.kept hk, ?_⟩
  · have e1 : (own ++ cap.map (fun j => X.N.getD j ""))[i]? = some x := e1
    have e2 : (own.map (fun _ => (none : Option V)) ++ cap.map (fun j => (σ[j]?).join))[i]? = some (some v) := e2
    by_cases hi : i < own.length
    · rw [List.getElem?_append_left (by simpa using hi), List.getElem?_map] at e2
      cases q : own[i]? with
      | none => rw [q] at e2; cases e2
      | some y => rw [q] at e2; cases e2
    · rw [List.getElem?_append_right (by simpa using hi), List.getElem?_map] at e1
      rw [List.getElem?_append_right (by simpa using hi), List.getElem?_map, List.length_map] at e2
      cases q : cap[i - own.length]? with
      | none => rw [q] at e2; cases e2
      | some j =>
        rw [q] at e1 e2
        have e1' : X.N.getD j "" = x := Option.some.inj e1
        have e2' : (σ[j]?).join = some v := Option.some.inj e2
        obtain ⟨hj, hlj⟩ := S.caps j (List.mem_of_getElem? q)
        rw [e1'] at hj
        have hNj : X.N[j]? = some x := by
          rw [List.getElem?_eq_getElem hlj, ← e1', List.getD_eq_getElem?_getD, List.getElem?_eq_getElem hlj]; rfl
        have hσ : σ[j]? = some (some v) := by
          cases z : σ[j]? with
          | none => rw [z] at e2'; cases e2'
          | some o => rw [z] at e2'; rw [show o = some v from e2']
        obtain ⟨m, hn, hl⟩ := I.loc
        have hm := PySem.mem_of_lookup hj
        have hkx := S.free _ hm rfl
        have vis : Vis X.env.scope x := by
          rcases hkx with z | z
          · exact .inr (.inl z)
          · exact .inr (.inr z)
        obtain ⟨u, r, l⟩ := hl j x v hNj hσ vis
        refine ⟨u, r, .inr ?_⟩
        rcases l with ⟨kl, _⟩ | ⟨_, c, hc, z⟩
        · rcases hkx with z | z
          · rw [kl] at z; cases z
          · rw [kl] at z; cases z
        · obtain ⟨c', hc'⟩ := hfr x hm
          have := hcl x c' hc'
          rw [hc] at this; cases this
          refine ⟨?_, c, hc', ?_⟩
          · have q : (relabel scope X.env).names.lookup x = some (relK X.env x .free) := by rw [kind_relabel, hj]; rfl
            show (relabel scope X.env).names.lookup x = some .cell ∨ (relabel scope X.env).names.lookup x = some .free
            rw [q]
            unfold relK
            split
            · exact .inl rfl
            · exact .inr rfl
          · obtain ⟨o, ho, hd⟩ := z
            exact ⟨o, hk c o ho, hd⟩
  · obtain ⟨v, o, ho, hd⟩ := I.cell x c (hcl x c e)
    exact ⟨v, o, hk c o ho, hd⟩
  · show (own.map (fun _ => (none : Option V)) ++ cap.map (fun j => (σ[j]?).join)).length = (own ++ cap.map (fun j => X.N.getD j "")).length
    simp only [List.length_append, List.length_map]
end L2
set_option maxHeartbeats 4000000
namespace L2
open PySem PySem.Spec PyProof.Rows
def NewAcc (X : Cx) (m : Sem Value) (o : HO) : Prop :=
  ∀ (pins : List (Addr × Obj)) (s : Shared) (σ : St) (H : Hp) (E : Value → Shared → Prop) (Q : Value → Shared → Prop), Inv X pins σ H s →
    (∀ l s', s.heap.objs.size ≤ l → H l = none → Inv X pins σ (upd H l o) s' → (∀ b u, s.heap.get? b = some u → s'.heap.get? b = some u) → Q (.ref l) s') → wpAny (model X.prog X.w) X.A m Q E s
theorem acc_list {X : Cx} : NewAcc X (newList []) (.lst []) := by
  intro pins s σ H E Q I h
  exact wpAny_newList (h _ _ (Nat.le_refl _) I.fresh (I.lnew (its := []) (t' := s.toks) .nil (Nat.zero_le _)) fun b u e => Heap.get?_push_of_some _ e)
theorem comp_core {X : Cx} {e : Expr} {tg iter : Expr} {ifs : List Expr} {scope : Scope} {own : List Str} {cap : List Nat} {newAcc : Sem Value} {o : HO} {cl : List (Str × Addr)} {behOf : Value → Env → Sem Unit} {g : TG} {tts : List TT} {Bof : Addr → TB}
    (hc : X.calm = true) (S : CompScope X own cap scope) (hcl : ∀ x c, cl.lookup x = some c → X.env.cells.lookup x = some c) (hfr : ∀ x, (x, NameKind.free) ∈ scope.names → ∃ c, cl.lookup x = some c)
    (hacc : NewAcc X newAcc o)
    (hC : ∀ s H ex l, ClauseAt (compCx X own cap scope cl s H ex) e 0 (.ref l) tg iter ifs (behOf (.ref l) (compCx X own cap scope cl s H ex).env))
    (hg : ∀ s H ex, PG (compCx X own cap scope cl s H ex) tg g) (ht : ∀ s H ex, PTs (compCx X own cap scope cl s H ex) ifs tts)
    (hb : ∀ s H ex l, PB (compCx X own cap scope cl s H ex) (behOf (.ref l) (compCx X own cap scope cl s H ex).env) (Bof l))
    {pins : List (Addr × Obj)} {σ : St} {s2 : Shared} {itv : Value} {Q : Addr → Hp → Prop} {E : Value → Shared → Prop} {R : Value → Addr → Result → Shared → Prop}
    (h : PIE X pins σ tg (fun J H1 => ∀ l, H1 l = none → LoopT J g (tAll tts) (Bof l) (compSt own cap σ) (upd H1 l o) fun _ H2 => Q l H2) itv s2)
    (hR : ∀ l C s' H', Inv X pins σ H' s' → FpOk X pins H' C → (∃ m, s'.heap.Ns C m) → Q l H' → R (.ref l) C (.ok .next) s')
    (hok : ∀ acc C f s', R acc C (.ok .next) s' → R acc C (.ok f) s') :
    wpAny (model X.prog X.w) X.A newAcc (fun acc s₃ => wpAny (model X.prog X.w) X.A (newFunctionEnv scope X.env.globals cl [] X.env.qual none .none (some X.env)) (fun cenv s₄ =>
      codeAny (model X.prog X.w) X.A (.compStart e 0 itv acc { cenv with scope := relabel scope X.env }) (R acc cenv.locals) s₄) E s₃) E s2 := by
  obtain ⟨it, fp, tn, J, H2, rfl, I2, T, st2, f2, q⟩ := h
  have lt2 : ∀ b ∈ fp, b < s2.heap.objs.size := fun b hb => by
    obtain ⟨ob, e, _⟩ := T.obj _ _ st2 b hb
    exact Heap.lt_size e
  refine hacc pins s2 σ H2 E _ I2 fun l s3 hl hn I3 k3 => ?_
  have q' := q l hn
  have f3 : ∀ b ∈ fp, FpOk X pins (upd H2 l o) b := fun b hb => by
    obtain ⟨a1, a2⟩ := f2 b hb
    refine ⟨?_, a2⟩
    rw [upd_ne (Nat.ne_of_lt (Nat.lt_of_lt_of_le (lt2 b hb) hl))]; exact a1
  have lt3 : ∀ b ∈ fp, b < s3.heap.objs.size := fun b hb => by
    obtain ⟨ob, e, _⟩ := T.obj _ _ st2 b hb
    exact Heap.lt_size (k3 b ob e)
  refine wpAny_newFunctionEnv S.nocell (by intro y hy; simp at hy) (fun h1 hns hsb => ?_) S.kind
  have k4 : ∀ b u, s3.heap.get? b = some u → h1.get? b = some u := fun b u e => by
    exact hsb.extBut b u (Nat.ne_of_lt (Heap.lt_size e)) (Heap.get?_push_of_some _ e)
  have I4 : Inv (compCx X own cap scope cl s3 (upd H2 l o) fp) [] (compSt own cap σ) (upd H2 l o) { s3 with heap := h1, toks := s3.toks + ([] : List (Str × Value)).length } := comp_inv S I3 hcl hfr f3 lt3 hns k4
  have st4 : tn 0 h1 := T.keep _ _ _ st2 fun b hb ob e => k4 b ob (k3 b ob e)
  have f4 : ∀ b ∈ fp, FpOk (compCx X own cap scope cl s3 (upd H2 l o) fp) [] (upd H2 l o) b := fun b hb => by
    obtain ⟨a0, a1, a2, a3, a4, a5⟩ := f3 b hb
    refine ⟨a0, Nat.ne_of_lt (lt3 b hb), fun hm => ?_, .inl hb, fun x c ex => a4 x c (hcl x c ex), fun p hp => absurd (show p ∈ ([] : List (Addr × Obj)) from hp) (by simp)⟩
    rcases List.mem_cons.mp (I3.stkSub b hm) with z | z
    · exact a1 z
    · exact a2 z
  have fin : ∀ (r : Result) (s' : Shared), CompR (compCx X own cap scope cl s3 (upd H2 l o) fp) [] (fun _ H2 => Q l H2) r s' → R (.ref l) s3.heap.objs.size r s' := by
    intro r s' hr
    cases r with
    | error x => exact (show False from hr).elim
    | ok f =>
      obtain ⟨σ5, H5, I5, q5⟩ := (show ∃ σ' H', Inv (compCx X own cap scope cl s3 (upd H2 l o) fp) [] σ' H' s' ∧ Q l H' from hr)
      have I6 : Inv X pins σ H5 s' := I3.call' (ch := fp) I5.os I5.base I5.hok I5.bare fun b hb => (f3 b hb).2.2.2 |> fun ⟨z1, z2, z3⟩ => ⟨z1, (f3 b hb).2.1, z2, z3⟩
      refine hok _ _ _ _ (hR l _ s' H5 I6 (I3.fpOk (Nat.le_refl _) I5.free) ?_ q5)
      obtain ⟨m, hm, _⟩ := I5.loc
      exact ⟨m, hm⟩
  have loop : ∀ s4 : Shared, s4 = { s3 with heap := h1, toks := s3.toks + ([] : List (Str × Value)).length } →
      codeAny (model X.prog X.w) X.A (.compLoop e 0 (.ref it) (.ref l) (compCx X own cap scope cl s3 (upd H2 l o) fp).env) (R (.ref l) s3.heap.objs.size) s4 := by
    rintro s4 rfl
    exact codeAny_mono (comp_loop (X := compCx X own cap scope cl s3 (upd H2 l o) fp) rfl hc (hC _ _ _ _) T (hg _ _ _) (ht _ _ _) (hb _ _ _ l) I4 st4 f4 q') fin
  exact (hC s3 (upd H2 l o) fp l).start (.ref it) _ _ (loop _ rfl) (T.self _ 0 _ _ _ st4 (loop _ rfl))
section
variable {X : Cx} {e : Expr} {tg iter : Expr} {ifs : List Expr} {gs : List Comprehension} {scope : Scope} {own : List Str} {cap : List Nat} {newAcc : Sem Value} {o : HO} {behOf : Value → Env → Sem Unit} {wi : TI} {g : TG} {tts : List TT} {Bof : Addr → TB} {cpos : Pos}
noncomputable def tComp (own : List Str) (cap : List Nat) (o : HO) (wi : TI) (g : TG) (tts : List TT) (Bof : Addr → TB) : TE := fun σ H Q => wi σ H fun J H1 => ∀ l, H1 l = none → LoopT J g (tAll tts) (Bof l) (compSt own cap σ) (upd H1 l o) fun _ H2 => Q (.ref l) H2
theorem comp_val (hc : X.calm = true) (S : CompScope X own cap scope) (hcl : clausesOf e = ⟨tg, iter, ifs, 0⟩ :: gs) (hi : PI X tg iter wi) (hacc : NewAcc X newAcc o)
    (hC : ∀ cl s H ex l, ClauseAt (compCx X own cap scope cl s H ex) e 0 (.ref l) tg iter ifs (behOf (.ref l) (compCx X own cap scope cl s H ex).env))
    (hg : ∀ cl s H ex, PG (compCx X own cap scope cl s H ex) tg g) (ht : ∀ cl s H ex, PTs (compCx X own cap scope cl s H ex) ifs tts)
    (hb : ∀ cl s H ex l, PB (compCx X own cap scope cl s H ex) (behOf (.ref l) (compCx X own cap scope cl s H ex).env) (Bof l)) (hs : ∀ x, foldedSetIterable iter X.env x = pure x) :
    ∀ (pins : List (Addr × Obj)) (s : Shared) (σ : St) (H : Hp) (Q : VK), Inv X pins σ H s → tComp own cap o wi g tts Bof σ H Q →
      wpAny (model X.prog X.w) X.A (comprehension e scope X.env cpos newAcc false (eval iter X.env)) (EP X pins σ Q) X.xe s := by
  intro pins s σ H Q I h
  obtain ⟨cl, hclos, h1, h2⟩ := closure_of (scope := scope) (env := X.env) fun x hx hf => I.ok.has x.1 (S.free x hx hf)
  refine wpAny_comprehension_free (use := none) hcl hs hclos S.kind S.names (thn (hi pins s σ H _ I h) fun v s1 q1 => thn q1 fun itv s2 q2 => ?_)
  refine comp_core (R := fun acc C => compPost (model X.prog X.w) X.A X.xe none (EP X pins σ Q) acc C) hc S h1 h2 hacc (hC cl) (hg cl) (ht cl) (hb cl) q2 (fun l C s' H' I' fC hm q => ?_) (fun acc C f s' z => z)
  obtain ⟨m, hm⟩ := hm
  refine ⟨m, hm, fun h' sb => ⟨.ref l, H', I'.turned (t' := s'.toks) (fun b o hb e => (sb.2 b hb).trans e) fC.1 fC.2.1 fC.2.2.2.1 fC.2.2.2.2.1 fC.2.2.2.2.2, rfl, q⟩⟩
theorem comp_use {i : Nat} {x : Str} {px : Pos} (hc : X.calm = true) (S : CompScope X own cap scope) (hcl : clausesOf e = ⟨tg, iter, ifs, 0⟩ :: gs) (hi : PI X tg iter wi) (hacc : NewAcc X newAcc o)
    (hC : ∀ cl s H ex l, ClauseAt (compCx X own cap scope cl s H ex) e 0 (.ref l) tg iter ifs (behOf (.ref l) (compCx X own cap scope cl s H ex).env))
    (hg : ∀ cl s H ex, PG (compCx X own cap scope cl s H ex) tg g) (ht : ∀ cl s H ex, PTs (compCx X own cap scope cl s H ex) ifs tts)
    (hb : ∀ cl s H ex l, PB (compCx X own cap scope cl s H ex) (behOf (.ref l) (compCx X own cap scope cl s H ex).env) (Bof l)) (hs : ∀ x, foldedSetIterable iter X.env x = pure x)
    (hN : X.N.Nodup) (hix : X.N[i]? = some x) (hx : Loc X.env.scope x) (hf : X.fn x = true ∨ X.env.scope.names.lookup x = some .local) :
    ∀ (pins : List (Addr × Obj)) (s : Shared) (σ : St) (H : Hp) (D : Ends), Inv X pins σ H s → tComp own cap o wi g tts Bof σ H (fun v H1 => D.nx (σ.set i (some v)) H1) →
      wpAny (model X.prog X.w) X.A (comprehension e scope X.env cpos newAcc false (eval iter X.env) (some (assign (.Name x px) X.env))) (fun _ s' => SP X pins D .next s') X.xe s := by
  intro pins s σ H D I h
  obtain ⟨cl, hclos, h1, h2⟩ := closure_of (scope := scope) (env := X.env) fun x hx hf => I.ok.has x.1 (S.free x hx hf)
  refine wpAny_comprehension_free (use := some (assign (.Name x px) X.env)) hcl hs hclos S.kind S.names (thn (hi pins s σ H _ I h) fun v s1 q1 => thn q1 fun itv s2 q2 => ?_)
  refine comp_core (R := fun acc C => compPost (model X.prog X.w) X.A X.xe (some (assign (.Name x px) X.env)) (fun _ s' => SP X pins D .next s') acc C) hc S h1 h2 hacc (hC cl) (hg cl) (ht cl) (hb cl) q2 (fun l C s' H' I' fC hm q => ?_) (fun acc C f s' z => z)
  obtain ⟨m, hm⟩ := hm
  show wpAny (model X.prog X.w) X.A (assign (.Name x px) X.env (.ref l)) _ X.xe s'
  refine wpAny_assign_Name (store_ok2 (v := .ref l) I' hN hix hx rfl (fun s'' I'' ⟨a, sa, ha⟩ => ?_) hf)
  have hCa : C ≠ a := by
    rcases ha with z | z
    · rw [z]; exact fC.2.1
    · exact Ne.symm (fC.2.2.2.2.1 x a z)
  refine ⟨m, hm.sameBut sa hCa, fun h' sb => ⟨_, H', I''.turned (t' := s''.toks) (fun b o hb e => (sb.2 b hb).trans e) fC.1 fC.2.1 fC.2.2.2.1 fC.2.2.2.2.1 fC.2.2.2.2.2, q⟩⟩
end
noncomputable def eApp (te : TE) (l : Addr) : TB := fun σ H Q => te σ H fun v H1 => ∃ vs, H1 l = some (.lst vs) ∧ vs.length < sizeLine ∧ Q σ (upd H1 l (.lst (vs ++ [v])))
noncomputable def behList (elt : Expr) (acc : Value) (env : Env) : Sem Unit := do let _ ← call (.builtin "list.append") [acc, ← eval elt env]
theorem pb_list {X : Cx} {elt : Expr} {te : TE} {l : Addr} (he : PE X elt te) : PB X (behList elt (.ref l) X.env) (eApp te l) := by
  intro pins s σ H Q I h
  refine wpAny_bind (thn (he pins s σ H _ I h) fun v s1 hq_ => ?_)
  obtain ⟨x, H1, I1, r1, vs, e, hz, q⟩ := hq_
  refine wpAny_bind (thn (mt_append pins s1 σ H1 (.ref l) [x] (.ref l) [v] (fun _ H2 => Q σ H2) I1 rfl (.cons r1 .nil) ⟨l, vs, x, rfl, rfl, e, hz, q⟩) fun u s2 hq_ => ?_)
  obtain ⟨z, H2, I2, _, q2⟩ := hq_
  exact wpAny_pure ⟨σ, H2, I2, q2⟩
theorem clause_list {X : Cx} {elt tg iter : Expr} {ifs : List Expr} {scope : Scope} {pos : Pos} {acc : Value} : ClauseAt X (.ListComp elt [⟨tg, iter, ifs, 0⟩] scope pos) 0 acc tg iter ifs (behList elt acc X.env) where
  quiet := fun _ => rfl
  under := fun _ => rfl
  den := fun _ => rfl
  turn := fun _ => rfl
  start := fun it R s h0 h => codeAny_compStart_list h0 (wpAny_mono h (fun _ _ z => z) fun _ _ z => z.elim)
end L2
set_option maxHeartbeats 4000000
namespace L2
open PySem PySem.Spec PyProof.Rows
theorem Inv.turnLaid {X : Cx} {pins : List (Addr × Obj)} {σ : St} {H : Hp} {s : Shared} {h' : Heap} {t' : Nat} {ch : List Addr} {p : Addr} {o : HO} (I : Inv X pins σ H s) (k : ∀ b u, b ∉ ch → s.heap.get? b = some u → h'.get? b = some u)
    (hth : ∀ b ∈ ch, ∃ u, h'.get? b = some u) (hf : ∀ b ∈ ch, FpOk X pins H b) (hp : s.heap.objs.size ≤ p) (new : ObjOk X.prog X.w (upd H p o) h' p o) : Inv X pins σ (upd H p o) { s with heap := h', toks := t' } := by
  have hn : H p = none := I.hok.fresh hp
  have nch : ∀ b u, H b = some u → b ∉ ch := fun b u e hb => by rw [(hf b hb).1] at e; cases e
  refine I.step (g' := s.gens) (d' := s.drawn) (ch := ch) (fun b hb => ?_) (fun b u _ _ hc e _ => k b u hc e) (fun b u _ _ hc e _ => ⟨u.slots, k b u hc e⟩) (fun b u _ e n => ?_)
    (fun b u hc e => ⟨u, k b u hc e⟩) (fun b xs e => ?_) (fun b ob xs e => ?_) (fun b ps e => ?_) (fun m hm => ?_) (fun b u e => ?_) I.bare
  · obtain ⟨_, a1, _, a3, a4, a5⟩ := hf b hb
    exact ⟨a3, a1, a4, a5⟩
  · rw [upd_ne (Nat.ne_of_lt (Nat.lt_of_lt_of_le (Heap.lt_size e) hp))]; exact n
  · rw [upd_ne (ne_of_none e hn)]; exact e
  · rw [upd_ne (ne_of_none e hn)]; exact e
  · exact ⟨#[], by rw [upd_ne (ne_of_none e hn), e]; simp⟩
  · obtain ⟨ob, es, ep, ho, r⟩ := hm
    exact ⟨ob, es, ep, k _ ob (fun hb => (hf _ hb).2.1 rfl) ho, r⟩
  · by_cases hb : b = p
    · subst hb; rw [upd_same] at e; cases e; exact new
    · rw [upd_ne hb] at e
      refine (I.hok b u e).stay (fun c v hc q => k c v ?_ q) (fun c q => by rw [upd_ne (ne_of_none q hn)]; exact q) fun c xs q => by rw [upd_ne (ne_of_none q hn)]; exact q
      rcases hc with z | z
      · rw [z]; exact nch b u e
      · exact nch c _ z
noncomputable def Ite (K : PySem.W.Frag) (a : Addr) : It :=
  ⟨fun i H => ∃ xs x, SqL K H a xs ∧ xs[i]? = some x, fun i H x H' => ∃ p y, x = .ref p ∧ H p = none ∧ (∀ ys, SqL K H a ys → ys[i]? = some y) ∧ H' = upd H p (.tup [.int (i : Int), y]), fun i H => ∃ xs, SqL K H a xs ∧ xs.length ≤ i⟩
theorem turn_enum {P : Program} {w : World} {K : PySem.W.Frag} {elts : List Expr} {k : Nat} {pos : Pos} (a e it : Addr) (hne : e ≠ it) :
    Turn P w K (.Tuple elts k pos) (Ite K a) [e, it] e (fun i h => (∃ old, IsEnum h e it (i : Nat) old) ∧ h.IsListIter it a i) where
  mem := by simp
  obj := fun i h st b hb => by
    obtain ⟨⟨old, he⟩, ⟨o, h1, h2, h3⟩⟩ := st
    rcases List.mem_cons.mp hb with z | z
    · subst z
      exact ⟨_, he, fun v z => by
        have z' : Data.fields _ = Data.cell v := z
        cases z'⟩
    · have z : b = it := by simpa using z
      subst z
      exact ⟨o, h1, fun v z => by rw [h3] at z; cases z⟩
  keep := fun i h h' st kk => by
    obtain ⟨⟨old, he⟩, hi⟩ := st
    exact ⟨⟨old, kk e (by simp) _ he⟩, hi.at fun o q => kk it (by simp) o q⟩
  item := by
    intro X hP hw hK hc i pins s σ H E I hf st hg
    subst hP hw hK
    obtain ⟨xs, x, hq, hx⟩ := hg
    obtain ⟨⟨old, he⟩, hi⟩ := st
    obtain ⟨its, rv, p, hz⟩ := I.list hq
    obtain ⟨u, hu, ru⟩ := rv.get hx
    refine wpAny_pyNext_enum_item he hi p.isList (x := u) (by simpa using hu) hne fun h1 heo hi1 ht hsz hk => ?_
    refine ⟨_, rfl, wpAny_letOwnedTupleGo_enum heo fun h2 he2 hs2 => ?_⟩
    have helt : e < s.heap.objs.size := Heap.lt_size he
    have hs2' : Heap.SameBut e h1 h2 := hs2
    have I1 : Inv X pins σ (upd H s.heap.objs.size (.tup [.int (i : Int), x])) { s with heap := h2, toks := s.toks + 1 } := by
      refine I.turnLaid (ch := [e, it]) (fun b o hb q => ?_) (fun b hb => ?_) hf (Nat.le_refl _) ?_
      · have h1' : b ≠ e := fun z => hb (by simp [z])
        have h2' : b ≠ it := fun z => hb (by simp [z])
        exact (hs2'.2 b h1').trans (hk b o h1' h2' q)
      · rcases List.mem_cons.mp hb with z | z
        · subst z; exact ⟨_, he2⟩
        · have z : b = it := by simpa using z
          subst z
          obtain ⟨o, q, _⟩ := hi1
          exact ⟨o, (hs2'.2 _ (Ne.symm hne)).trans q⟩
      · refine ⟨by show 2 ≤ sizeLine; decide, [.int (i : Int) s.toks, u], .cons ⟨_, rfl⟩ (.cons ru .nil), ⟨_, (hs2'.2 _ (Nat.ne_of_gt helt)).trans ht, rfl, _, rfl⟩⟩
    refine ⟨.ref s.heap.objs.size, _, I1, rfl, ⟨s.heap.objs.size, x, rfl, I.fresh, fun ys hy => by rw [I.list_inj hy hq]; exact hx, rfl⟩, ⟨⟨_, by
      have : ((i + 1 : Nat) : Int) = (i : Int) + 1 := by omega
      rw [this]; exact he2⟩, hi1.extBut hs2'.extBut (Ne.symm hne)⟩, fun b hb => ?_⟩
    have hlt : b < s.heap.objs.size := by
      rcases List.mem_cons.mp hb with z | z
      · rw [z]; exact helt
      · have z : b = it := by simpa using z
        rw [z]; obtain ⟨o, q, _⟩ := hi; exact Heap.lt_size q
    rw [upd_ne (Nat.ne_of_lt hlt)]; exact (hf b hb).1
  done := by
    intro X hP hw hK hc i pins s σ H E I hf st hg
    subst hP hw hK
    obtain ⟨xs, hq, hx⟩ := hg
    obtain ⟨⟨old, he⟩, hi⟩ := st
    obtain ⟨its, rv, p, hz⟩ := I.list hq
    obtain ⟨f0, f1, f2, f3, f4, f5⟩ := hf it (by simp)
    have hl := rv.length
    exact wpAny_pyNext_enum_end (I.ok.hd hc) he hi p.isList (by simp; omega) fun h' eb => ⟨rfl, I.turned (t' := s.toks) (fun b o hb q => eb b o hb q) f0 f1 f3 f4 f5⟩
  self := fun _ _ _ _ _ st h => by
    obtain ⟨⟨old, he⟩, _⟩ := st
    exact wpAny_pyIter_enum he h
section
variable {X : Cx} {elts : List Expr} {k : Nat} {tpos : Pos}
noncomputable def iEnum (K : PySem.W.Frag) (ta : TA) : TI := fun σ H R => ta σ H fun vs H1 => ∃ a, vs = [.ref a] ∧ (∃ xs, SqL K H1 a xs) ∧ R (Ite K a) H1
theorem pi_enum {a : Expr} {ta : TA} {p pos : Pos} (hg : Gl X "enumerate") (hm : X.mg "enumerate" = none) (ha : PA X [a] ta) (hs : starEach [a] X.env = [(false, eval a X.env)] := by rfl) : PI X (.Tuple elts k tpos) (.Call (.Name "enumerate" p) [a] [] pos) (iEnum X.K ta) := by
  intro pins s σ H R I h
  refine Call_ (ld_blt I hg hm boot_enumerate (PyProof.Rows.callWith_type1 (thn (ha pos pins s σ H _ I h) fun us s1 ⟨vs, H1, I1, r1, q1⟩ => ?_) hs rfl))
  obtain ⟨l, e, ⟨xs, hq⟩, q⟩ := q1
  subst e
  obtain ⟨u, rfl, ru⟩ := vals1 r1
  cases ru
  obtain ⟨its, rv, pl, hz⟩ := I1.list hq
  refine call_enumerate_list pl.isList fun h' he hi hsz hk => ?_
  refine wpAny_pyIter_enum he ?_
  have I2 : Inv X pins σ H1 { s1 with heap := h' } := I1.kept (t' := s1.toks) hk
  refine ⟨s1.heap.objs.size + 1, [s1.heap.objs.size + 1, s1.heap.objs.size], _, _, H1, rfl, I2, turn_enum l (s1.heap.objs.size + 1) s1.heap.objs.size (Nat.ne_of_gt (Nat.lt_succ_self _)), ⟨⟨_, he⟩, hi⟩, fun b hb => ?_, q⟩
  have hge : s1.heap.objs.size ≤ b := by
    rcases List.mem_cons.mp hb with z | z
    · rw [z]; exact Nat.le_succ _
    · have z : b = s1.heap.objs.size := by simpa using z
      rw [z]; exact Nat.le_refl _
  exact I1.fpOk hge (I1.hok.fresh hge)
end
section
variable {X : Cx} {elt tg iter tg2 iter2 : Expr} {ifs ifs2 : List Expr} {scope : Scope} {own : List Str} {cap : List Nat} {wi wi2 : TI} {g g2 : TG} {tts tts2 : List TT} {te : TE} {pos : Pos}
theorem pe_lc (own : List Str) (cap : List Nat) (hc : X.calm = true) (S : CompScope X own cap scope) (hi : PI X tg iter wi) (hg : ∀ cl s H ex, PG (compCx X own cap scope cl s H ex) tg g)
    (ht : ∀ cl s H ex, PTs (compCx X own cap scope cl s H ex) ifs tts) (he : ∀ cl s H ex, PE (compCx X own cap scope cl s H ex) elt te) (hs : ∀ x, foldedSetIterable iter X.env x = pure x := by intro _; rfl) :
    PE X (.ListComp elt [⟨tg, iter, ifs, 0⟩] scope pos) (tComp own cap (.lst []) wi g tts (eApp te)) := by
  intro pins s σ H Q I h
  exact comp_val (behOf := behList elt) hc S rfl hi acc_list (fun _ _ _ _ _ => clause_list) hg ht (fun cl s H ex l => pb_list (he cl s H ex)) hs pins s σ H Q I h
theorem ps_lc {i : Nat} {x : Str} {px spos : Pos} (own : List Str) (cap : List Nat) (hc : X.calm = true) (S : CompScope X own cap scope) (hN : X.N.Nodup) (hix : X.N[i]? = some x) (hx : Loc X.env.scope x)
    (hi : PI X tg iter wi) (hg : ∀ cl s H ex, PG (compCx X own cap scope cl s H ex) tg g)
    (ht : ∀ cl s H ex, PTs (compCx X own cap scope cl s H ex) ifs tts) (he : ∀ cl s H ex, PE (compCx X own cap scope cl s H ex) elt te)
    (hsw : swapsWith (.ListComp elt [⟨tg, iter, ifs, 0⟩] scope pos) (some (.Name x px)) spos.line X.env = pure true := by rfl) (hs : ∀ x, foldedSetIterable iter X.env x = pure x := by intro _; rfl)
    (hf : X.fn x = true ∨ X.env.scope.names.lookup x = some .local := by first | exact .inl rfl | exact .inr rfl | assumption) :
    PS X (.Assign [.Name x px] (.ListComp elt [⟨tg, iter, ifs, 0⟩] scope pos) spos) (tAsg (tComp own cap (.lst []) wi g tts (eApp te)) (gName i)) := by
  intro pins s σ H D I h
  rw [exec_Assign_Name_used _ _ _ _ hsw]
  refine wpAny_bind (wpAny_standAt (wpAny_bind ?_))
  show wpAny _ X.A (do let _ ← comprehension (.ListComp elt [⟨tg, iter, ifs, 0⟩] scope pos) scope X.env _ (newList []) false (eval iter X.env) (some (assign (.Name x px) X.env))) _ _ s
  refine wpAny_bind (thn (comp_use (behOf := behList elt) hc S rfl hi acc_list (fun _ _ _ _ _ => clause_list) hg ht (fun cl s H ex l => pb_list (he cl s H ex)) hs hN hix hx hf pins s σ H D I h) fun _ s' hq => ?_)
  exact wpAny_pure (wpAny_pure hq)
noncomputable def behNext (e iter2 : Expr) (d : Nat) (acc : Value) (env : Env) : Sem Unit := do
  let x ← eval iter2 env
  standAt iter2.pos
  let x ← foldedSetIterable iter2 env x
  let _ ← runOwn (.compStart e d (← holding [x] (pyIter x)) acc env) env
noncomputable def bNext (wi2 : TI) (g2 : TG) (tts2 : List TT) (B : TB) : TB := fun σ H Q => wi2 σ H fun J H1 => LoopT J g2 (tAll tts2) B σ H1 Q
theorem pb_next {e : Expr} {d : Nat} {acc : Value} {beh : Sem Unit} {B : TB} (hxe : X.xe = fun _ _ => False) (hc : X.calm = true) (C : ClauseAt X e d acc tg2 iter2 ifs2 beh) (hi : PI X tg2 iter2 wi2) (hg : PG X tg2 g2) (ht : PTs X ifs2 tts2) (hb : PB X beh B)
    (hs : ∀ x, foldedSetIterable iter2 X.env x = pure x) : PB X (behNext e iter2 d acc X.env) (bNext wi2 g2 tts2 B) := by
  intro pins s σ H Q I h
  refine wpAny_bind (thn (hi pins s σ H _ I h) fun v s1 q1 => wpAny_bind (wpAny_standAt (wpAny_bind (wpAny_of_eq (hs v) (wpAny_bind (wpAny_holding (thn q1 fun itv s2 q2 => ?_)))))))
  obtain ⟨it, fp, tn, J, H2, rfl, I2, T, st2, f2, q⟩ := q2
  have L := comp_loop hxe hc C T hg ht hb I2 st2 f2 q
  refine wpAny_bind (wpAny_runOwn ?_)
  refine codeAny_mono (C.start (.ref it) (CompR X pins Q) s2 L (T.self _ 0 _ _ _ st2 L)) fun r s' hr => ?_
  cases r with
  | error x => exact (show False from hr).elim
  | ok f => exact wpAny_pure hr
theorem start_list {elt : Expr} {gens : List Comprehension} {scope : Scope} {pos : Pos} {acc : Value} {d : Nat} {tg iter : Expr} {ifs : List Expr} (hd : gens[d]? = some ⟨tg, iter, ifs, 0⟩) (it : Value) (R : Result → Shared → Prop) (s : Shared)
    (h0 : codeAny (model X.prog X.w) X.A (.compLoop (.ListComp elt gens scope pos) d it acc X.env) R s)
    (h : wpAny (model X.prog X.w) X.A (pyIter it) (fun it' s' => codeAny (model X.prog X.w) X.A (.compLoop (.ListComp elt gens scope pos) d it' acc X.env) R s') (fun _ _ => False) s) :
    codeAny (model X.prog X.w) X.A (.compStart (.ListComp elt gens scope pos) d it acc X.env) R s := by
  refine codeAny_of_tree ?_
  show wpAny _ X.A ((compStart (.ListComp elt gens scope pos) d it acc X.env).onRaise (fun x => do noteFrame x X.env; standAt theWindowsPlace)) _ _ s
  refine wpAny_notedAt ?_
  unfold compStart
  have e1 : (clausesOf (.ListComp elt gens scope pos))[d]? = some ⟨tg, iter, ifs, 0⟩ := hd
  rw [e1]
  show wpAny _ _ (ask >>= _) _ _ s
  refine wpAny_bind (wpAny_askSetting (wpAny_ite ?_))
  have h' : wpAny (model X.prog X.w) X.A (pyIter it) (fun it' s' => codeAny (model X.prog X.w) X.A (.compLoop (.ListComp elt gens scope pos) d it' acc X.env) R s') (notedBy (model X.prog X.w) X.A X.env fun x s' => R (.error x) s') s := wpAny_mono h (fun _ _ z => z) fun _ _ z => z.elim
  split
  · first
      | exact wpAny_bind (wpAny_pure (wpAny_pure (And.intro rfl h0)))
      | exact wpAny_pure (And.intro rfl h0)
  · first
      | exact wpAny_bind (wpAny_rule (wpAny_bind (wpAny_standAt (wpAny_bind (wpAny_mono h' (fun it' s' h' => wpAny_pure (And.intro rfl h')) fun _ _ x => x)))))
      | (refine wpAny_bind (wpAny_rule ?_); show wpAny _ _ (standAt iter.pos >>= _) _ _ s; exact wpAny_bind (wpAny_standAt (wpAny_bind (wpAny_mono h' (fun it' s' h' => wpAny_pure (And.intro rfl h')) fun _ _ x => x))))
theorem clause_list20 {acc : Value} : ClauseAt X (.ListComp elt [⟨tg, iter, ifs, 0⟩, ⟨tg2, iter2, ifs2, 0⟩] scope pos) 0 acc tg iter ifs (behNext (.ListComp elt [⟨tg, iter, ifs, 0⟩, ⟨tg2, iter2, ifs2, 0⟩] scope pos) iter2 1 acc X.env) where
  quiet := fun _ => rfl
  under := fun _ => rfl
  den := fun _ => rfl
  turn := fun it => by
    have e : compTurn (.ListComp elt [⟨tg, iter, ifs, 0⟩, ⟨tg2, iter2, ifs2, 0⟩] scope pos) 0 it acc X.env = (do
      standAt iter.pos
      match ← pyNext it with
      | none => pure (.done .next)
      | some v =>
        letOwnedTupleGo tg it v
        assign tg X.env v
        let ok ← testsOf ifs X.env true
        if ok then
          let x ← eval iter2 X.env
          standAt iter2.pos
          let x ← foldedSetIterable iter2 X.env x
          let _ ← runOwn (.compStart (.ListComp elt [⟨tg, iter, ifs, 0⟩, ⟨tg2, iter2, ifs2, 0⟩] scope pos) 1 (← holding [x] (pyIter x)) acc X.env) X.env
        again (.compLoop (.ListComp elt [⟨tg, iter, ifs, 0⟩, ⟨tg2, iter2, ifs2, 0⟩] scope pos) 0 it acc X.env)) := rfl
    rw [e]
    unfold behNext
    simp only [bind_assoc, pure_bind]
    first
      | done
      | rfl
      | (congr 1; funext _; congr 1; funext r; cases r <;> rfl)
  start := fun it R s => start_list rfl it R s
theorem clause_list21 {acc : Value} : ClauseAt X (.ListComp elt [⟨tg, iter, ifs, 0⟩, ⟨tg2, iter2, ifs2, 0⟩] scope pos) 1 acc tg2 iter2 ifs2 (behList elt acc X.env) where
  quiet := fun _ => rfl
  under := fun _ => rfl
  den := fun _ => rfl
  turn := fun _ => rfl
  start := fun it R s => start_list rfl it R s
end
end L2
set_option maxHeartbeats 4000000
namespace Srt
open PySem PySem.W PyProof.Rows
noncomputable def run {α : Type} (lt : Nat → Nat → Bool) : KasT α → α
  | .ret a => a
  | .ask i j k => run lt (k (lt i j))
section
variable (lt : Nat → Nat → Bool)
noncomputable abbrev at' (p : Array Nat) (i : Nat) : Nat := p.getD i 0
end
variable {lt : Nat → Nat → Bool}
end Srt
set_option maxHeartbeats 4000000
namespace Srt
open PySem PySem.W PyProof.Rows
noncomputable def Asks {α : Type} (n : Nat) : KasT α → Prop
  | .ret _ => True
  | .ask i j k => i < n ∧ j < n ∧ ∀ b, Asks n (k b)
def Bd (n : Nat) (p : Array Nat) : Prop := ∀ i, at' p i < n
section
variable {n : Nat} (h0 : 0 < n)
abbrev Ok (n : Nat) (p : Array Nat) : Prop := Bd n p ∧ ∀ x ∈ p, x < n
include h0
end
end Srt
namespace L2
open PySem PySem.Spec PyProof.Rows
end L2
set_option maxHeartbeats 4000000
namespace Srt
open PySem PySem.W PyProof.Rows
end Srt
namespace L2
open PySem PySem.Spec PyProof.Rows
end L2
set_option maxHeartbeats 4000000
namespace L2
open PySem PySem.Spec PyProof.Rows
theorem Same.seqT {K : PySem.W.Frag} {H H' : Hp} {a : Addr} {xs : List V} (e : Same H H') (h : SqT K H a xs) : SqT K H' a xs := by
  rcases h with (h | ⟨o, h⟩) | h
  · exact .inl (.inl (e _ _ h))
  · exact .inl (.inr ⟨o, e _ _ h⟩)
  · exact .inr h
mutual
noncomputable def Den (K : PySem.W.Frag) (G : Hp) : PyData → V → Prop
  | .none, v => v = .non
  | .bool b, v => v = .bl b
  | .int i, v => v = .int i
  | .str x, v => v = .str x
  | .list ds, v => ∃ a vs, v = .ref a ∧ SqL K G a vs ∧ DenL K G ds vs
  | .tuple ds, v => ∃ a vs, v = .ref a ∧ SqT K G a vs ∧ DenL K G ds vs
  | .dict _, _ => False
noncomputable def DenL (K : PySem.W.Frag) (G : Hp) : List PyData → List V → Prop
  | [], vs => vs = []
  | d :: ds, vs => ∃ v r, vs = v :: r ∧ Den K G d v ∧ DenL K G ds r
end
section
variable {K : PySem.W.Frag} {G G' : Hp}
mutual
theorem Den.mono (h : Same G G') : ∀ {d : PyData} {v : V}, Den K G d v → Den K G' d v
  | .none, _, e => by simp only [Den] at e ⊢; exact e
  | .bool _, _, e => by simp only [Den] at e ⊢; exact e
  | .int _, _, e => by simp only [Den] at e ⊢; exact e
  | .str _, _, e => by simp only [Den] at e ⊢; exact e
  | .list ds, _, e => by
    simp only [Den] at e ⊢
    obtain ⟨a, vs, e1, e2, e3⟩ := e
    exact ⟨a, vs, e1, h.seq e2, DenL.mono h e3⟩
  | .tuple ds, _, e => by
    simp only [Den] at e ⊢
    obtain ⟨a, vs, e1, e2, e3⟩ := e
    exact ⟨a, vs, e1, h.seqT e2, DenL.mono h e3⟩
  | .dict _, _, e => by simp only [Den] at e
theorem DenL.mono (h : Same G G') : ∀ {ds : List PyData} {vs : List V}, DenL K G ds vs → DenL K G' ds vs
  | [], _, e => by simp only [DenL] at e ⊢; exact e
  | d :: ds, _, e => by
    simp only [DenL] at e ⊢
    obtain ⟨v, r, e1, e2, e3⟩ := e
    exact ⟨v, r, e1, Den.mono h e2, DenL.mono h e3⟩
end
theorem DenL.len : ∀ {ds : List PyData} {vs : List V}, DenL K G ds vs → vs.length = ds.length
  | [], _, e => by simp only [DenL] at e; rw [e]; rfl
  | d :: ds, _, e => by
    simp only [DenL] at e
    obtain ⟨v, r, rfl, _, e3⟩ := e
    simp [DenL.len e3]
theorem DenL.nil : DenL K G [] [] := by simp only [DenL]
theorem DenL.cons {d : PyData} {ds : List PyData} {v : V} {vs : List V} (h1 : Den K G d v) (h2 : DenL K G ds vs) : DenL K G (d :: ds) (v :: vs) := by
  simp only [DenL]; exact ⟨v, vs, rfl, h1, h2⟩
theorem DenL.append : ∀ {ds es : List PyData} {vs ws : List V}, DenL K G ds vs → DenL K G es ws → DenL K G (ds ++ es) (vs ++ ws)
  | [], _, _, _, e, f => by simp only [DenL] at e; subst e; exact f
  | d :: ds, _, _, _, e, f => by
    simp only [DenL] at e
    obtain ⟨v, r, rfl, e2, e3⟩ := e
    exact .cons e2 (DenL.append e3 f)
theorem DenL.get : ∀ {ds : List PyData} {vs : List V} {i : Nat} {v : V}, DenL K G ds vs → vs[i]? = some v → ∃ d, ds[i]? = some d ∧ Den K G d v
  | [], _, _, _, e, h => by simp only [DenL] at e; subst e; simp at h
  | d :: ds, _, 0, _, e, h => by
    simp only [DenL] at e
    obtain ⟨v, r, rfl, e2, e3⟩ := e
    simp at h; subst h
    exact ⟨d, rfl, e2⟩
  | d :: ds, _, i + 1, _, e, h => by
    simp only [DenL] at e
    obtain ⟨v, r, rfl, e2, e3⟩ := e
    exact DenL.get (i := i) e3 (by simpa using h)
theorem DenL.get' : ∀ {ds : List PyData} {vs : List V} {i : Nat} {d : PyData}, DenL K G ds vs → ds[i]? = some d → ∃ v, vs[i]? = some v ∧ Den K G d v
  | [], _, _, _, e, h => by simp at h
  | d :: ds, _, 0, _, e, h => by
    simp only [DenL] at e
    obtain ⟨v, r, rfl, e2, e3⟩ := e
    simp at h; subst h
    exact ⟨v, rfl, e2⟩
  | d :: ds, _, i + 1, _, e, h => by
    simp only [DenL] at e
    obtain ⟨v, r, rfl, e2, e3⟩ := e
    exact DenL.get' (i := i) e3 (by simpa using h)
theorem Den.int {i : Int} : Den K G (.int i) (.int i) := by simp only [Den]
theorem Den.list {ds : List PyData} {a : Addr} {vs : List V} (h : SqL K G a vs) (e : DenL K G ds vs) : Den K G (.list ds) (.ref a) := by simp only [Den]; exact ⟨a, vs, rfl, h, e⟩
theorem Den.tuple {ds : List PyData} {a : Addr} {vs : List V} (h : SqT K G a vs) (e : DenL K G ds vs) : Den K G (.tuple ds) (.ref a) := by simp only [Den]; exact ⟨a, vs, rfl, h, e⟩
theorem Den.ofInt {i : Int} {v : V} (h : Den K G (.int i) v) : v = .int i := by simpa only [Den] using h
theorem Den.ofStr {i : Str} {v : V} (h : Den K G (.str i) v) : v = .str i := by simpa only [Den] using h
theorem Den.ofList {ds : List PyData} {v : V} (h : Den K G (.list ds) v) : ∃ a vs, v = .ref a ∧ SqL K G a vs ∧ DenL K G ds vs := by simpa only [Den] using h
theorem Den.ofTuple {ds : List PyData} {v : V} (h : Den K G (.tuple ds) v) : ∃ a vs, v = .ref a ∧ SqT K G a vs ∧ DenL K G ds vs := by simpa only [Den] using h
theorem DenL.ofCons {d : PyData} {ds : List PyData} {vs : List V} (h : DenL K G (d :: ds) vs) : ∃ v r, vs = v :: r ∧ Den K G d v ∧ DenL K G ds r := by simpa only [DenL] using h
theorem DenL.ofNil {vs : List V} (h : DenL K G [] vs) : vs = [] := by simpa only [DenL] using h
theorem DenL.ints : ∀ {ns : List Int} {vs : List V}, DenL K G (ns.map PyData.int) vs → vs = ns.map V.int
  | [], _, e => e.ofNil
  | n :: ns, _, e => by
    obtain ⟨v, r, rfl, e2, e3⟩ := DenL.ofCons e
    rw [e2.ofInt, DenL.ints e3]; rfl
theorem DenL.ofInts : ∀ ns : List Int, DenL K G (ns.map PyData.int) (ns.map V.int)
  | [] => .nil
  | n :: ns => .cons .int (DenL.ofInts ns)
end
section
variable {X : Cx} {pins : List (Addr × Obj)} {σ : St} {H : Hp} {s : Shared}
mutual
theorem Den.reads (I : Inv X pins σ H s) : ∀ {d : PyData} {v : V} {u : Value}, Den X.K H d v → RelV v u → ∃ as, Reads s.heap u d as
  | .none, _, _, e, r => by simp only [Den] at e; subst e; cases r; exact ⟨_, .none⟩
  | .bool b, _, _, e, r => by simp only [Den] at e; subst e; cases r; exact ⟨_, .bool b⟩
  | .int i, _, _, e, r => by simp only [Den] at e; subst e; obtain ⟨t, rfl⟩ := r; exact ⟨_, .int i t⟩
  | .str x, _, _, e, r => by simp only [Den] at e; subst e; obtain ⟨t, rfl⟩ := r; exact ⟨_, .str x t⟩
  | .list ds, _, _, e, r => by
    simp only [Den] at e
    obtain ⟨a, vs, rfl, e2, e3⟩ := e
    cases r
    obtain ⟨its, rv, ⟨o, n, h1, h2, h3, h4⟩, _⟩ := I.list e2
    obtain ⟨as, ra⟩ := DenL.reads I e3 rv
    exact ⟨_, .list h1 h2 h4 (by simpa using ra)⟩
  | .tuple ds, _, _, e, r => by
    simp only [Den] at e
    obtain ⟨a, vs, rfl, e2, e3⟩ := e
    cases r
    obtain ⟨its, rv, ⟨o, h1, h2, n, h4⟩, _⟩ := I.tuple e2
    obtain ⟨as, ra⟩ := DenL.reads I e3 rv
    exact ⟨_, .tuple h1 h2 h4 (by simpa using ra)⟩
  | .dict _, _, _, e, _ => by simp only [Den] at e
theorem DenL.reads (I : Inv X pins σ H s) : ∀ {ds : List PyData} {vs : List V} {us : List Value}, DenL X.K H ds vs → Vals vs us → ∃ as, ReadsAll s.heap us ds as
  | [], _, _, e, r => by simp only [DenL] at e; subst e; cases r; exact ⟨_, .nil⟩
  | d :: ds, _, _, e, r => by
    simp only [DenL] at e
    obtain ⟨v, vr, rfl, e2, e3⟩ := e
    cases r with
    | cons r1 r2 =>
      obtain ⟨as, ra⟩ := Den.reads I e2 r1
      obtain ⟨bs, rb⟩ := DenL.reads I e3 r2
      exact ⟨_, .cons ra rb⟩
end
end
mutual
theorem den_nodict {K : PySem.W.Frag} {G : Hp} : ∀ {d : PyData} {v : V}, Den K G d v → d.hasDict = false
  | .none, _, _ => by simp only [PyData.hasDict]
  | .bool _, _, _ => by simp only [PyData.hasDict]
  | .int _, _, _ => by simp only [PyData.hasDict]
  | .str _, _, _ => by simp only [PyData.hasDict]
  | .list ds, _, e => by
    simp only [Den] at e
    obtain ⟨a, vs, rfl, e2, e3⟩ := e
    simp only [PyData.hasDict]; exact denl_nodict e3
  | .tuple ds, _, e => by
    simp only [Den] at e
    obtain ⟨a, vs, rfl, e2, e3⟩ := e
    simp only [PyData.hasDict]; exact denl_nodict e3
  | .dict _, _, e => by simp only [Den] at e
theorem denl_nodict {K : PySem.W.Frag} {G : Hp} : ∀ {ds : List PyData} {vs : List V}, DenL K G ds vs → PyData.hasDictAll ds = false
  | [], _, _ => by simp only [PyData.hasDictAll]
  | d :: ds, _, e => by
    simp only [DenL] at e
    obtain ⟨v, vr, rfl, e2, e3⟩ := e
    simp only [PyData.hasDictAll, den_nodict e2, denl_nodict e3, Bool.or_false]
end
section
variable {X : Cx} {k : Nat}
noncomputable def rRepr (K : PySem.W.Frag) : List V → Hp → VK → Prop := fun xs H Q => ∃ (a : Addr) (d : PyData), xs = [.ref a] ∧ Den K H d (.ref a) ∧ d.showable = true ∧ d.depth ≤ 100 ∧ d.shown.length ≤ sizeLine ∧ Q (.str d.shown) H
theorem call_repr (hr : Room k X.A) : CallR X (.builtin "repr") (rRepr X.K) := by
  intro pins s σ H xs us Q I r h
  obtain ⟨a, d, rfl, hd, h1, h2, h3, q⟩ := h
  obtain ⟨u, rfl, ru⟩ := vals1 r
  cases ru
  obtain ⟨as, ra⟩ := Den.reads I hd (show RelV (.ref a) (Value.ref a) from rfl)
  have hu := hr.un
  exact repr_of_reads' ra h1 (fun z => by rw [den_nodict hd] at z; cases z) hr.gd (by omega) (fun _ _ e => e) (fun h' u tk kk => ⟨.str d.shown, H, I.kept (t' := tk) kk, ⟨_, rfl⟩, q⟩) h3
noncomputable def rEqD (K : PySem.W.Frag) (neg : Bool) : R2 := fun x y H Q => ∃ da db, Den K H da x ∧ Den K H db y ∧ SeqAt.shaped da = true ∧ SeqAt.shaped db = true ∧ Q (.bl (if neg then !PyData.eqv da db else PyData.eqv da db)) H
theorem op_eqD (hr : Room k X.A) : OpR X (compareOp .Eq) (rEqD X.K false) := by
  intro pins s σ H x y v u Q I rx ry h
  obtain ⟨da, db, ha, hb, h1, h2, q⟩ := h
  obtain ⟨as, ra⟩ := Den.reads I ha rx
  obtain ⟨bs, rb⟩ := Den.reads I hb ry
  exact SeqAt.compareEq_shaped ra rb h1 h2 hr.units ⟨.bl _, H, I, rfl, q⟩
theorem op_neD (hr : Room k X.A) : OpR X (compareOp .NotEq) (rEqD X.K true) := by
  intro pins s σ H x y v u Q I rx ry h
  obtain ⟨da, db, ha, hb, h1, h2, q⟩ := h
  obtain ⟨as, ra⟩ := Den.reads I ha rx
  obtain ⟨bs, rb⟩ := Den.reads I hb ry
  exact SeqAt.compareNe_shaped ra rb h1 h2 hr.units ⟨.bl _, H, I, rfl, q⟩
end
mutual
theorem eqv_refl : ∀ d : PyData, d.hasDict = false → PyData.eqv d d = true
  | .none, _ => by simp only [PyData.eqv]
  | .bool _, _ => by simp only [PyData.eqv, beq_self_eq_true]
  | .int _, _ => by simp only [PyData.eqv, beq_self_eq_true]
  | .str _, _ => by simp only [PyData.eqv, beq_self_eq_true]
  | .list ds, h => by simp only [PyData.eqv]; exact eqvAll_refl ds (by simpa only [PyData.hasDict] using h)
  | .tuple ds, h => by simp only [PyData.eqv]; exact eqvAll_refl ds (by simpa only [PyData.hasDict] using h)
  | .dict _, h => by simp [PyData.hasDict] at h
theorem eqvAll_refl : ∀ ds : List PyData, PyData.hasDictAll ds = false → PyData.eqvAll ds ds = true
  | [], _ => by simp only [PyData.eqvAll]
  | d :: ds, h => by
    simp only [PyData.hasDictAll, Bool.or_eq_false_iff] at h
    simp only [PyData.eqvAll, eqv_refl d h.1, eqvAll_refl ds h.2, Bool.and_self]
end
end L2
set_option maxHeartbeats 4000000
namespace Miss
open PySem PySem.Spec PyProof.Rows
theorem lk_keys : typeLookup (.type "list") "keys" = pure none := am_miss_of_fast (by decide +kernel)
theorem lk_ga : typeLookup (.type "list") "__getattr__" = pure none := am_miss_of_fast (by decide +kernel)
section
variable {prog : Program} {w : World} {A : Around} {E : Value → Shared → Prop} {a : Addr} {its : Array Value} {n : Nat}
theorem entry {u : Tok} : Meets (Builtin.«object.__getattribute__» ⟨[.ref a, .str "keys" u], []⟩) (fun A R s => s.heap.get? a = some { cls := .type "list", dict := none, data := .seq its n, slots := #[] } ∧ raisesAttr (.ref a) "keys" A R s) :=
  Meets.of_wp fun prog w A R s hs => by
    obtain ⟨hp, g, d, tk, os⟩ := s
    obtain ⟨hx, hs⟩ := hs
    have hT : (⟨hp, g, d, tk, os⟩ : Shared).TypeIs (.ref a) "list" := ⟨_, hx, rfl⟩
    have f4 := lk_keys
    unfold Builtin.«object.__getattribute__»
    repeat (any_goals (first | assumption | wp_step))
    exact wpAny_raiseAttrError hs.1 hs.2 (attrMsg_fits (by decide +kernel) (by rw [sizeLine_eq]; decide +kernel))
theorem no_keys {s : Shared} {Q : Option Value → Shared → Prop} (hA : A.handled = none) (hx : s.heap.get? a = some { cls := .type "list", dict := none, data := .seq its n, slots := #[] })
    (h : ∀ h' tk, (∀ b o, s.heap.get? b = some o → h'.get? b = some o) → Q none { s with heap := h', toks := tk }) : wpAny (model prog w) A (getAttr? (.ref a) "keys") Q E s := by
  obtain ⟨hp, g, d, tk, os⟩ := s
  have hT : ∀ tk, (⟨hp, g, d, tk, os⟩ : Shared).TypeIs (.ref a) "list" := fun _ => ⟨_, hx, rfl⟩
  have f1 := sub_AttributeError
  have f3 := F.slot_list_getattribute.lookup
  have f4 := F.slot_list_getattribute.bind (.ref a)
  have f5 := lk_ga
  unfold getAttr? getAttrBy? getAttrBy
  repeat (any_goals (first | assumption | ((with_reducible show wpAny _ _ (call (Value.builtin "list.__getattribute__") _ _) _ _ _); refine call_meets F.slot_list_getattribute (hT _) F.entry_list_ga (F.args_list_getattribute_2 _ _) (entry (its := its) (n := n)) ⟨hx, hA, fun h' tk' e x => ?_⟩) | wp_step))
  obtain ⟨t', u', he⟩ := x.there
  show wpAny _ _ (getattributeRaised _ _ (Value.type "list") _ _ _ _) _ _ _
  unfold getattributeRaised
  repeat (any_goals (first | assumption | wp_step))
  exact h _ _ x.keeps
theorem entry_loop : entryFor table "dict.update.loop" = some Builtin.«dict.update.loop» := entryFor_of_tree (by kernel_rfl)
theorem plain_loop : plainId "dict.update.loop" = true := by decide +kernel
end
end Miss
set_option maxHeartbeats 4000000
namespace L2
open PySem PySem.Spec PyProof.Rows
theorem acc_dict {X : Cx} : NewAcc X newDict (.dK []) := by
  intro pins s σ H E Q I h
  refine wpAny_newObj_type (h _ _ (Nat.le_refl _) I.fresh (I.laid (t' := s.toks) (fun _ _ q => Heap.get?_push_of_some _ q) (Nat.le_refl _) (dk_empty s.heap I.big)) fun b u e => Heap.get?_push_of_some _ e) ?_
  first | trivial | size_fits | decide
noncomputable def ePut (tk tv : TE) (l : Addr) : TB := fun σ H Q => tk σ H fun x H1 => tv σ H1 fun y H2 => ∃ kvs k, x = kV k ∧ H2 l = some (.dK kvs) ∧ kvs.length < sizeLine ∧ Q σ (upd H2 l (.dK (putK kvs k y)))
noncomputable def behDict (k v : Expr) (acc : Value) (env : Env) : Sem Unit := do
  let kv ← eval k env
  let vv ← holding [kv] (eval v env)
  match acc with
  | .ref d => do
    standAt { k.pos with endLine := v.pos.endLine, endCol := v.pos.endCol }
    holding [kv, vv] (dictSet d kv vv)
  | _ => unsupported "internal:dictcomp"
theorem pb_dict {X : Cx} {k v : Expr} {tk tv : TE} {l : Addr} (hk : PE X k tk) (hv : PE X v tv) : PB X (behDict k v (.ref l) X.env) (ePut tk tv l) := by
  intro pins s σ H Q I h
  refine wpAny_bind (thn (hk pins s σ H _ I h) fun u s1 ⟨x, H1, I1, r1, q1⟩ => wpAny_bind (wpAny_holding (thn (hv pins s1 σ H1 _ I1 q1) fun w2 s2 hq_ => ?_)))
  obtain ⟨y, H2, I2, r2, kvs, kk, e, hd, hz, q⟩ := hq_
  subst e
  obtain ⟨z, hs, vs, rel, dd⟩ := dk_of I2.hok hd
  have hl : (putK kvs kk y).length ≤ sizeLine := by have := length_putK kvs kk y; omega
  refine wpAny_bind (wpAny_standAt (wpAny_holding (wpAny_dictSet_pairs (kV_is r1) dd (fun h' dd' sb => ?_) (by rw [← rel.length]; exact z))))
  have he : ∃ q, h'.get? l = some q := let ⟨q, _, _, hq, _⟩ := dd'; ⟨q, hq⟩
  exact ⟨σ, _, d_write I2 (by rw [hd]; exact True.intro) sb he (dk_new hl hs (rel.put kk r2) dd'), q⟩
theorem clause_dict {X : Cx} {k v tg iter : Expr} {ifs : List Expr} {scope : Scope} {pos : Pos} {acc : Value} : ClauseAt X (.DictComp k v [⟨tg, iter, ifs, 0⟩] scope pos) 0 acc tg iter ifs (behDict k v acc X.env) where
  quiet := fun _ => rfl
  under := fun _ => rfl
  den := fun _ => rfl
  turn := fun _ => rfl
  start := fun it R s h0 h => codeAny_compStart_dict h0 (wpAny_mono h (fun _ _ z => z) fun _ _ z => z.elim)
section
variable {X : Cx} {ke ve tg iter : Expr} {ifs : List Expr} {scope : Scope} {own : List Str} {cap : List Nat} {wi : TI} {g : TG} {tts : List TT} {tk tv : TE} {pos : Pos}
theorem pe_dc (own : List Str) (cap : List Nat) (hc : X.calm = true) (S : CompScope X own cap scope) (hi : PI X tg iter wi) (hg : ∀ cl s H ex, PG (compCx X own cap scope cl s H ex) tg g)
    (ht : ∀ cl s H ex, PTs (compCx X own cap scope cl s H ex) ifs tts) (hk : ∀ cl s H ex, PE (compCx X own cap scope cl s H ex) ke tk) (hv : ∀ cl s H ex, PE (compCx X own cap scope cl s H ex) ve tv) (hs : ∀ x, foldedSetIterable iter X.env x = pure x := by intro _; rfl) :
    PE X (.DictComp ke ve [⟨tg, iter, ifs, 0⟩] scope pos) (tComp own cap (.dK []) wi g tts (ePut tk tv)) := by
  intro pins s σ H Q I h
  exact comp_val (behOf := behDict ke ve) hc S rfl hi acc_dict (fun _ _ _ _ _ => clause_dict) hg ht (fun cl s H ex l => pb_dict (hk cl s H ex) (hv cl s H ex)) hs pins s σ H Q I h
end
noncomputable def Itd (d : Addr) (o : Obj) (kvs : List (Key × V)) : It :=
  ⟨fun i H => H d = some (.frz o (.dK kvs)) ∧ i < kvs.length, fun i H x H' => H' = H ∧ ∃ k v, kvs[i]? = some (k, v) ∧ x = kV k, fun i H => H d = some (.frz o (.dK kvs)) ∧ kvs.length ≤ i⟩
section
variable {X : Cx} {tg : Expr}
noncomputable def iDict (td : TE) : TI := fun σ H R => td σ H fun x H1 => ∃ d kvs, x = .ref d ∧ H1 d = some (.dK kvs) ∧ ∀ o, R (Itd d o kvs) (upd H1 d (.frz o (.dK kvs)))
end
noncomputable def PairsAt (H : Hp) : List V → List (Key × V) → Prop := Paired fun v kv => ∃ a, v = .ref a ∧ H a = some (.tup [kV kv.1, kv.2])
theorem PairsAt.mono {H H' : Hp} (h : ∀ b xs, H b = some (.tup xs) → H' b = some (.tup xs)) {vs : List V} {kvs : List (Key × V)} (p : PairsAt H vs kvs) : PairsAt H' vs kvs := Paired.mapP p fun _ _ ⟨a, e, q⟩ => ⟨a, e, h _ _ q⟩
theorem upd_go {X : Cx} {pins : List (Addr × Obj)} {σ : St} {l d it : Addr} (hh : X.A.handled = none) : ∀ {more : List (Key × V)} {items : List V} {i : Nat} {A : Around} {H : Hp} {s : Shared} {kvs : List (Key × V)} {R : Result → Shared → Prop}, A.handled = none → Inv X pins σ H s → s.heap.IsListIter it l i → FpOk X pins H it →
    H l = some (.lst items) → H d = some (.dK kvs) → l ≠ d → PairsAt H (items.drop i) more → kvs.length + more.length ≤ sizeLine → (∀ s', Inv X pins σ (upd H d (.dK (mergeK kvs more))) s' → R (.ok (.ret .none)) s') →
    codeAny (model X.prog X.w) A (.builtin "dict.update.loop" ⟨[.ref d, .ref it, rawInt i, .none], []⟩) R s
  | [], items, i, A, H, s, kvs, R, hA, I, st, hf, hl, hd, hne, hp, hz, h => by
    refine codeAny_builtin Miss.entry_loop ?_
    rw [Around.under_plainId Miss.plain_loop _]
    obtain ⟨its, n, r, ho, _⟩ := I.lst hl
    have hlen : items.length ≤ i := by
      have := Paired.length hp
      rw [List.length_drop] at this
      have e : ([] : List (Key × V)).length = 0 := rfl
      omega
    have hl2 := r.length
    show wpAny _ _ (pyNext (.ref it) >>= _) _ _ s
    obtain ⟨f0, f1, f2, f3, f4, f5⟩ := hf
    refine wpAny_bind (wpAny_pyNext_list_end (show A.in1.handled = none from hA) st (l := l) (items := its.toArray) ⟨_, ho, rfl, n, rfl⟩ (by simp; omega) fun h' eb => ?_)
    have I1 : Inv X pins σ H { s with heap := h' } := I.turned (t' := s.toks) (fun b ob hb e => eb b ob hb e) f0 f1 f3 f4 f5
    have e1 : upd H d (.dK (mergeK kvs [])) = H := by
      funext b
      by_cases hb : b = d
      · subst hb; rw [upd_same, hd]; rfl
      · rw [upd_ne hb]
    rw [e1] at h
    show wpAny _ _ (Builtin.Dict.addKeywords d [] >>= _) _ _ _
    exact wpAny_bind (wpAny_pure (wpAny_pure (h _ I1)))
  | (k, w) :: more, items, i, A, H, s, kvs, R, hA, I, st, hf, hl, hd, hne, hp, hz, h => by
    refine codeAny_builtin Miss.entry_loop ?_
    rw [Around.under_plainId Miss.plain_loop _]
    obtain ⟨its, n, r, ho, _⟩ := I.lst hl
    have hl2 := r.length
    cases e0 : items.drop i with
    | nil => rw [e0] at hp; cases hp
    | cons v rest =>
      rw [e0] at hp
      cases hp with
      | cons hv hr =>
        obtain ⟨a, rfl, ha⟩ := hv
        have hi : items[i]? = some (.ref a) := by rw [← List.head?_drop, e0]; rfl
        obtain ⟨u, hu, ru⟩ := r.get hi
        cases ru
        obtain ⟨f0, f1, f2, f3, f4, f5⟩ := id hf
        show wpAny _ _ (pyNext (.ref it) >>= _) _ _ s
        refine wpAny_bind (wpAny_pyNext_list_item st (l := l) (items := its.toArray) ⟨_, ho, rfl, n, rfl⟩ (x := .ref a) (by simpa using hu) fun h' st' sb => ?_)
        have I1 : Inv X pins σ H { s with heap := h' } := I.turned (t' := s.toks) (fun b ob hb e => (sb.2 b hb).trans e) f0 f1 f3 f4 f5
        obtain ⟨_, its2, rt, ob, ho2, hc2, n2, hd2⟩ := (show ObjOk X.prog X.w H h' a (.tup [kV k, w]) from I1.hok a _ ha)
        obtain ⟨uk, uw, rfl, rk, rw'⟩ := vals2 rt
        refine wpAny_bind (wpAny_holding (wpAny_bind (wpAny_tryCatch ?_)))
        unfold Builtin.Dict.pairItems
        refine wpAny_bind (wpAny_typeOf (T := "tuple") ⟨ob, ho2, hc2⟩ ?_)
        rw [if_pos (by decide)]
        refine wpAny_bind (wpAny_seqItems ho2 hd2 (wpAny_pure ?_))
        show wpAny _ _ (holding [uk, uw] (dictSet d uk uw)) _ _ _
        obtain ⟨z, hs, vs, rel, dd⟩ := dk_of I1.hok hd
        have hz2 : kvs.length + (more.length + 1) ≤ sizeLine := hz
        have hl3 : (putK kvs k w).length ≤ kvs.length + 1 := length_putK kvs k w
        refine wpAny_holding (wpAny_dictSet_pairs (kV_is rk) dd (fun h2 dd' sb2 => wpAny_pure ?_) (by rw [← rel.length]; exact z))
        have he : ∃ q, h2.get? d = some q := let ⟨q, _, _, hq, _⟩ := dd'; ⟨q, hq⟩
        have I2 : Inv X pins σ (upd H d (.dK (putK kvs k w))) { s with heap := h2, toks := s.toks + 1 } := d_write (s := { s with heap := h' }) (t' := s.toks + 1) I1 (by rw [hd]; exact True.intro) sb2 he (dk_new (by omega) hs (rel.put k rw') dd')
        have hitd : it ≠ d := fun z => by rw [z, hd] at f0; cases f0
        have tk : ∀ b xs, H b = some (.tup xs) → upd H d (.dK (putK kvs k w)) b = some (.tup xs) := fun b xs q => by
          rw [upd_ne (ne_of q hd (by intro z; cases z))]; exact q
        refine ⟨plainId_quiet Miss.plain_loop _, ?_⟩
        have e3 : (i : Int) + 1 = ((i + 1 : Nat) : Int) := by omega
        rw [e3]
        refine upd_go hh (more := more) (items := items) (i := i + 1) (kvs := putK kvs k w) hA I2 (st'.extBut sb2.extBut hitd) ⟨by rw [upd_ne hitd]; exact f0, f1, f2, f3, f4, f5⟩ (by rw [upd_ne hne]; exact hl) upd_same hne ?_ (by omega) fun s' I' => h s' ?_
        · have e4 : items.drop (i + 1) = rest := by rw [← List.tail_drop, e0]; rfl
          rw [e4]
          exact PairsAt.mono tk hr
        · rw [upd_upd] at I'
          exact I'
noncomputable def rUpdate : V → List V → Hp → VK → Prop := fun x vs H Q => ∃ d l kvs items more, x = .ref d ∧ vs = [.ref l] ∧ H d = some (.dK kvs) ∧ H l = some (.lst items) ∧ PairsAt H items more ∧ kvs.length + more.length ≤ sizeLine ∧ Q .non (upd H d (.dK (mergeK kvs more)))
theorem mt_update {X : Cx} (hc : X.calm = true) : MtM X "dict.update" rUpdate := by
  intro pins s σ H x vs v us Q I rx rv h
  obtain ⟨d, l, kvs, items, more, rfl, rfl, hd, hl, hp, hz, q⟩ := h
  cases rx
  obtain ⟨u, rfl, ru⟩ := rv.one
  cases ru
  have hne : l ≠ d := ne_of hl hd (by intro z; cases z)
  obtain ⟨z, hs, ws, rel, dd⟩ := dk_of I.hok hd
  obtain ⟨its, n, r, ho, _⟩ := I.lst hl
  have hA := I.ok.hd hc
  refine wpAny_call (codeAny_call_builtin PySem.F.slot_dict_update.plain PySem.F.entry_dict_update (PySem.F.slot_dict_update.check _ _ _ _ _ _ _ _ dd.typeIs (PySem.F.args_dict_update_2 _ _) ?_))
  unfold Builtin.«dict.update»
  refine wpAny_bind ?_
  unfold Builtin.Dict.selfAndRest
  refine wpAny_bind (wpAny_notOrdered_dict dd.typeIs ?_)
  show wpAny _ _ (pure (d, [Value.ref l])) _ _ s
  refine wpAny_pure ?_
  show wpAny _ _ (Builtin.Dict.updateFrom "dict.update" d (.ref l) [] .none) _ _ s
  unfold Builtin.Dict.updateFrom
  refine wpAny_bind (wpAny_typeOf (T := "list") ⟨_, ho, rfl⟩ ?_)
  rw [if_pos (by decide)]
  refine wpAny_bind (Miss.no_keys hA ho fun h' tk kp => ?_)
  have I1 : Inv X pins σ H { s with heap := h', toks := tk } := I.kept kp
  show wpAny _ _ (if true = true then _ else _) _ _ _
  rw [if_pos rfl]
  refine wpAny_bind (wpAny_rule ?_)
  refine wpAny_bind (wpAny_pyIter_list (l := l) (items := its.toArray) ⟨_, kp _ _ ho, rfl, n, rfl⟩ ?_)
  have I2 : Inv X pins σ H { s with heap := h'.push { cls := .type "list_iterator", data := .fields #[.ref l, .int 0 0] }, toks := tk } := I1.kept (t' := tk) fun b ob e => Heap.get?_push_of_some _ e
  refine wpAny_pure ⟨plainId_quiet Miss.plain_loop _, ?_⟩
  exact upd_go (i := 0) hA hA I2 ⟨_, Heap.get?_push_size _ rfl, rfl, rfl⟩ (I1.fpOk (Nat.le_refl _) (I1.hok.fresh (Nat.le_refl _))) hl hd hne hp hz fun s' I' => ⟨.non, _, I', rfl, q⟩
end L2
set_option maxHeartbeats 4000000
namespace L2
open PySem PySem.Spec PyProof.Rows
noncomputable def wo (ts : List Addr) (H : Hp) : Hp := fun b => if b ∈ ts then none else H b
theorem wo_in {ts : List Addr} {H : Hp} {b : Addr} (h : b ∈ ts) : wo ts H b = none := if_pos h
theorem wo_out {ts : List Addr} {H : Hp} {b : Addr} (h : b ∉ ts) : wo ts H b = H b := if_neg h
theorem wo_same (ts : List Addr) (H : Hp) : Same (wo ts H) H := fun b o e => by
  by_cases h : b ∈ ts
  · rw [wo_in h] at e; cases e
  · rw [wo_out h] at e; exact e
def Ext (ts : List Addr) (H H' : Hp) : Prop := ∀ b o, b ∉ ts → H b = some o → H' b = some o
theorem Ext.refl (ts : List Addr) (H : Hp) : Ext ts H H := fun _ _ _ h => h
theorem Ext.trans {ts : List Addr} {H H1 H2 : Hp} (a : Ext ts H H1) (b : Ext ts H1 H2) : Ext ts H H2 := fun c o h e => b c o h (a c o h e)
theorem Ext.same {ts : List Addr} {H H' : Hp} (a : Ext ts H H') : Same (wo ts H) (wo ts H') := fun b o e => by
  by_cases h : b ∈ ts
  · rw [wo_in h] at e; cases e
  · rw [wo_out h] at e ⊢; exact a b o h e
theorem Ext.put {ts : List Addr} {H : Hp} {t : Addr} {o : HO} (h : t ∈ ts) : Ext ts H (upd H t o) := fun b u hb e => by
  have ne : b ≠ t := fun z => hb (by rw [z]; exact h)
  rw [upd_ne ne]; exact e
theorem Ext.laid {ts : List Addr} {H : Hp} {l : Addr} {o : HO} (h : H l = none) : Ext ts H (upd H l o) := fun b u _ e => by
  rw [upd_ne (ne_of_none e h)]; exact e
theorem Ext.mono {ts us : List Addr} {H H' : Hp} (a : Ext ts H H') (h : ∀ b ∈ ts, b ∈ us) : Ext us H H' := fun b o hb e => a b o (fun z => hb (h b z)) e
theorem Ext.drop {ts : List Addr} {l : Addr} {H H' : Hp} (a : Ext (l :: ts) H H') (h : H l = none) : Ext ts H H' := fun b o hb e => a b o (fun z => by
  rcases List.mem_cons.mp z with y | y
  · rw [y, h] at e; cases e
  · exact hb y) e
theorem same_wo {ts us : List Addr} {H : Hp} (h : ∀ b ∈ ts, b ∈ us) : Same (wo us H) (wo ts H) := fun b o e => by
  by_cases hb : b ∈ us
  · rw [wo_in hb] at e; cases e
  · rw [wo_out hb] at e
    rw [wo_out (fun z => hb (h b z))]; exact e
noncomputable def yo (H0 : Hp) (ts : List Addr) (H : Hp) : Hp := fun b => match H0 b with
  | some _ => none
  | none => wo ts H b
theorem yo_out {H0 : Hp} {ts : List Addr} {H : Hp} {b : Addr} (h0 : H0 b = none) (h : b ∉ ts) : yo H0 ts H b = H b := by
  unfold yo; rw [h0]; exact wo_out h
theorem yo_some {H0 : Hp} {ts : List Addr} {H : Hp} {b : Addr} {o : HO} (h : yo H0 ts H b = some o) : H0 b = none ∧ b ∉ ts ∧ H b = some o := by
  unfold yo at h
  cases z : H0 b with
  | some _ => rw [z] at h; cases h
  | none =>
    rw [z] at h
    have h : wo ts H b = some o := h
    by_cases hb : b ∈ ts
    · rw [wo_in hb] at h; cases h
    · rw [wo_out hb] at h; exact ⟨rfl, hb, h⟩
theorem Ext.none {ts : List Addr} {H H' : Hp} {b : Addr} (a : Ext ts H H') (h : b ∉ ts) (e : H' b = none) : H b = none := by
  cases z : H b with
  | none => rfl
  | some o => rw [a _ _ h z] at e; cases e
theorem Ext.young {H0 : Hp} {ts : List Addr} {H H' : Hp} (a : Ext ts H H') : Same (yo H0 ts H) (yo H0 ts H') := fun b o e => by
  obtain ⟨h0, h1, h2⟩ := yo_some e
  rw [yo_out h0 h1]; exact a b o h1 h2
theorem yo_less {H0 : Hp} {ts us : List Addr} {H : Hp} (h : ∀ b ∈ ts, b ∈ us) : Same (yo H0 us H) (yo H0 ts H) := fun b o e => by
  obtain ⟨h0, h1, h2⟩ := yo_some e
  rw [yo_out h0 (fun z => h1 (h b z))]; exact h2
theorem yo_same {H0 : Hp} {ts : List Addr} {H : Hp} : Same (yo H0 ts H) H := fun b o e => (yo_some e).2.2
theorem yo_older {H0 H1 : Hp} {ts us : List Addr} {H : Hp} (a : Ext ts H0 H1) (h : ∀ b ∈ ts, b ∈ us) : Same (yo H1 us H) (yo H0 us H) := fun b o e => by
  obtain ⟨h0, h1, h2⟩ := yo_some e
  rw [yo_out (a.none (fun z => h1 (h b z)) h0) h1]; exact h2
theorem yo_apart {H0 H1 : Hp} {ts us : List Addr} {H : Hp} (h : ∀ b ∈ us, b ∈ ts ∨ H1 b ≠ none) : Same (yo H1 ts H) (yo H1 us H) := fun b o e => by
  obtain ⟨h0, h1, h2⟩ := yo_some e
  rw [yo_out h0 (fun z => (h b z).elim h1 (fun y => y h0))]; exact h2
def Tape (H : Hp) (t : Addr) (k : Nat) : Prop := ∃ (a b c : Int), H t = some (.lst [.int a, .int b, .int c]) ∧ 0 ≤ a ∧ 0 ≤ b ∧ b < 2 ^ 62 ∧ 0 ≤ c ∧ c ≤ k
theorem Tape.mono {H : Hp} {t : Addr} {k j : Nat} (h : Tape H t k) (hk : k ≤ j) : Tape H t j := by
  obtain ⟨a, b, c, h1, h2, h3, h4, h5, h6⟩ := h
  exact ⟨a, b, c, h1, h2, h3, h4, h5, by omega⟩
theorem Tape.ext {H H' : Hp} {t : Addr} {k : Nat} {ts : List Addr} (h : Tape H t k) (e : Ext ts H H') (ht : t ∉ ts) : Tape H' t k := by
  obtain ⟨a, b, c, h1, r⟩ := h
  exact ⟨a, b, c, e _ _ ht h1, r⟩
theorem Tape.ne {H : Hp} {t l : Addr} {k : Nat} (h : Tape H t k) (hl : H l = none) : l ≠ t := by
  obtain ⟨a, b, c, h1, _⟩ := h
  exact (ne_of_none h1 hl).symm
noncomputable def spDraw : Sp := fun vs H Q _ => ∃ (t : Addr) (k : Nat) (n : Int), vs = [.ref t, .int n] ∧ Tape H t k ∧ k ≤ 2 ^ 40 ∧ 0 < n ∧ n < 2 ^ 24 ∧ ∀ (r : Int) (H' : Hp), 0 ≤ r → r < n → Tape H' t (k + 1) → Ext [t] H H' → (∀ b, b ≠ t → H' b = H b) → Q (.int r) H'
section
variable {K : PySem.W.Frag} {σ : St} {H : Hp} {Q : VK} {p : Addr} {xs : List V} {i j : Int} {v : V} {ta tb te to ti : TE} {r : R2} {t u : TS} {D : Ends} {n m : Nat} {tt t2 : TT} {tl tr : TA}
theorem r_op (h : ta σ H fun x H1 => tb σ H1 fun y H2 => r x y H2 Q) : tOp r ta tb σ H Q := h
theorem r_var (h : σ[n]? = some (some v)) (q : Q v H) : tVar n σ H Q := ⟨v, h, q⟩
theorem r_c (q : Q v H) : tC v σ H Q := q
theorem r_i0 {g : Int → Int → V} (q : Q (g i j) H) : rI0 g (.int i) (.int j) H Q := ⟨i, j, rfl, rfl, q⟩
theorem r_mul (c : (-(2 ^ 64) < i ∧ i < 2 ^ 64) ∨ (-(2 ^ 64) < j ∧ j < 2 ^ 64)) (q : Q (.int (i * j)) H) : rI CMul (fun i j => .int (i * j)) (.int i) (.int j) H Q := ⟨i, j, rfl, rfl, c, q⟩
theorem r_pow (c1 : 0 ≤ j) (c2 : j ≤ 1000000) (c3 : i.natAbs < 2 ^ 64) (q : Q (.int (i ^ j.toNat)) H) : rI CPow (fun i j => .int (i ^ j.toNat)) (.int i) (.int j) H Q := ⟨i, j, rfl, rfl, ⟨c1, c2, c3⟩, q⟩
theorem r_div (c1 : 0 < j) (c2 : j < 1073741824) (q : Q (.int (i / j)) H) : rI CDiv (fun i j => .int (i / j)) (.int i) (.int j) H Q := ⟨i, j, rfl, rfl, ⟨c1, c2⟩, q⟩
theorem r_mod (c : 0 < j) (q : Q (.int (i % j)) H) : rI (fun _ j => 0 < j) (fun i j => .int (i % j)) (.int i) (.int j) H Q := ⟨i, j, rfl, rfl, c, q⟩
theorem r_un {g : Int → V} (h : ta σ H fun x H1 => rU g x H1 Q) : tUn (rU g) ta σ H Q := h
theorem r_u {g : Int → V} (q : Q (g i) H) : rU g (.int i) H Q := ⟨i, rfl, q⟩
theorem r_ixL (h : SqL K H p xs) (e : atI xs i = some v) (q : Q v H) : rIxL K (.ref p) (.int i) H Q := ⟨p, xs, i, v, rfl, rfl, h, e, q⟩
theorem r_ixT (h : SqT K H p xs) (e : atI xs i = some v) (q : Q v H) : rIxT K (.ref p) (.int i) H Q := ⟨p, xs, i, v, rfl, rfl, h, e, q⟩
theorem r_seq (h : t { D with nx := u D } σ H) : tSeq t u D σ H := h
theorem r_asg {g : TG} (h : te σ H fun x H1 => g x σ H1 D.nx) : tAsg te g D σ H := h
theorem r_gn {R : St → Hp → Prop} (q : R (σ.set n (some v)) H) : gName n v σ H R := q
theorem r_ret (h : te σ H D.rt) : tRet te D σ H := h
theorem r_drop (h : te σ H fun _ H1 => D.nx σ H1) : tDrop te D σ H := h
theorem r_next (h : D.nx σ H) : tNext D σ H := h
theorem r_if (h : tt σ H fun b H1 => if b = true then t D σ H1 else u D σ H1) : tIfS tt t u D σ H := h
theorem r_test {R : Bool → Hp → Prop} (h : te σ H fun x H' => ∃ k, x = .bl k ∧ R k H') : tTest te σ H R := h
theorem r_tB {R : Bool → Hp → Prop} (h : te σ H fun x H' => ∃ k, x = .bl k ∧ R k H') : tB te σ H R := h
theorem r_bl {b : Bool} {R : Bool → Prop} (q : R b) : ∃ k, V.bl b = .bl k ∧ R k := ⟨b, rfl, q⟩
theorem r_gsub {ts : TSet} {R : St → Hp → Prop} (h : to σ H fun o H1 => ti σ H1 fun i H2 => ts o i v H2 fun H3 => R σ H3) : gSub to ti ts v σ H R := h
theorem r_setL {R : Hp → Prop} (h : H p = some (.lst xs)) (e : ixN xs.length i = some n) (q : R (upd H p (.lst (xs.set n v)))) : rSetL (.ref p) (.int i) v H R := ⟨p, xs, i, n, rfl, rfl, h, e, q⟩
theorem r_nil {R : List V → Hp → Prop} (q : R [] H) : tNil σ H R := q
theorem r_cons {R : List V → Hp → Prop} (h : ta σ H fun x H1 => tr σ H1 fun xs H2 => R (x :: xs) H2) : tCons ta tr σ H R := h
theorem r_tup (h : tl σ H fun xs H1 => xs.length ≤ sizeLine ∧ ∀ p, H1 p = none → Q (.ref p) (upd H1 p (.tup xs))) : tTup tl σ H Q := h
theorem r_lst (h : tl σ H fun xs H1 => xs.length ≤ sizeLine ∧ ∀ p, H1 p = none → Q (.ref p) (upd H1 p (.lst xs))) : tLst tl σ H Q := h
theorem r_call {sp : Sp} {dvs : List V} {E : XK} (h : tl σ H fun vs H1 => sp (vs ++ dvs) H1 Q E) : tCall sp dvs E tl σ H Q := h
theorem r_cb {rr : List V → Hp → VK → Prop} (h : tl σ H fun vs H1 => rr vs H1 Q) : tCB rr tl σ H Q := h
theorem r_ife (h : tt σ H fun b H1 => if b = true then ta σ H1 Q else tb σ H1 Q) : tIf tt ta tb σ H Q := h
theorem r_and {R : Bool → Hp → Prop} (h : tt σ H fun c H1 => if c = true then t2 σ H1 R else R false H1) : tAnd tt t2 σ H R := h
theorem r_or {R : Bool → Hp → Prop} (h : tt σ H fun c H1 => if c = true then R true H1 else t2 σ H1 R) : tOr tt t2 σ H R := h
theorem r_not {R : Bool → Hp → Prop} (h : tt σ H fun c H1 => R (!c) H1) : tNot tt σ H R := h
theorem r_par (h : tl σ H fun vs H1 => ∃ v w, vs = [v, w] ∧ D.nx ((σ.set n (some v)).set m (some w)) H1) : tPar n m tl D σ H := h
end
section
variable {K : PySem.W.Frag} {σ : St} {H : Hp} {Q : VK} {l t : Addr} {xs : List V} {i j n : Int} {v y : V} {k : Nat} {E : XK}
theorem r_draw (hT : Tape H t k) (hk : k ≤ 2 ^ 40) (h0 : 0 < n) (h1 : n < 2 ^ 24) (q : ∀ r H', 0 ≤ r → r < n → Tape H' t (k + 1) → Ext [t] H H' → (∀ b, b ≠ t → H' b = H b) → Q (.int r) H') : spDraw ([.ref t, .int n] ++ []) H Q E := ⟨t, k, n, rfl, hT, hk, h0, h1, q⟩
theorem r_eqI (q : Q (.bl (decide (i = j))) H) : rEq (.int i) (.int j) H Q := ⟨rfl, by
  have e : decide (V.int i = V.int j) = decide (i = j) := by rw [Bool.eq_iff_iff]; simp
  rw [e]; exact q⟩
theorem r_eqS {a b : Str} (q : Q (.bl (decide (a = b))) H) : rEq (.str a) (.str b) H Q := ⟨rfl, by
  have e : decide (V.str a = V.str b) = decide (a = b) := by rw [Bool.eq_iff_iff]; simp
  rw [e]; exact q⟩
theorem r_neS {a b : Str} (q : Q (.bl (!decide (a = b))) H) : rNe (.str a) (.str b) H Q := ⟨rfl, by
  have e : decide (V.str a = V.str b) = decide (a = b) := by rw [Bool.eq_iff_iff]; simp
  rw [e]; exact q⟩
theorem r_tyL {R : Prop} (h : H l = some (.lst xs)) (q : R) : tyV K "list" (.ref l) H ∧ R := ⟨.inl ⟨rfl, _, SqL.of h⟩, q⟩
theorem r_app (h : H l = some (.lst xs)) (hz : xs.length < sizeLine) (q : Q .non (upd H l (.lst (xs ++ [y])))) : rAppend (.ref l) [y] H Q := ⟨l, xs, y, rfl, rfl, h, hz, q⟩
theorem bit01 (b : Bool) : 0 ≤ (if b = true then (1 : Int) else 0) ∧ (if b = true then (1 : Int) else 0) ≤ 1 := by cases b <;> decide
end
theorem len2 {n : Nat} (h : n ≤ 1000) : n ≤ sizeLine := Nat.le_trans h (by decide)
theorem nox_K {CX : CXT} {P : Program} {w : World} {K : PySem.W.Frag} {mg : Str → Option Value} {base : Heap} {N : List Str} {qual : Str} {scope : Scope} {f : Addr} {cd : Value} {A : Around} {outer : List Env} {s : Shared} {H : Hp} {E : XK} : (cxOf CX P w K mg base N qual scope f cd A outer s H E).nox.K = K := rfl
theorem comp_K {X : Cx} {own : List Str} {cap : List Nat} {scope : Scope} {cl : List (Str × Addr)} {s : Shared} {H : Hp} {ex : List Addr} : (compCx X own cap scope cl s H ex).K = X.K := rfl
def Has (P : Program) (w : World) (K : PySem.W.Frag) (mg : Str → Option Value) (base : Heap) (x : Str) (k : Nat) (ps : List Str) (sp : Sp) : Prop :=
  ∃ f fd, FnOk P w K mg base CX0 k f fd ps sp ∧ mg x = some (.ref f) ∧ PySem.W.keepIn K (.ref f) = true ∧ Binds K fd ps []
theorem pe_fn {X : Cx} {x : Str} {k j : Nat} {ps : List Str} {sp : Sp} {e : Expr} {es : List Expr} {t : TA} {p pos : Pos} (h : Has X.prog X.w X.K X.mg X.base x k ps sp) (hr : Room j X.A) (hj : k ≤ j) (ha : PA X (e :: es) t) (hg : Gl X x := by rfl)
    (hdb : (x == ("__debug__" : Str)) = false := by decide) (he : starEach (e :: es) X.env = (false, eval e X.env) :: starEach es X.env := by rfl) (hpl : (backTo pos (starEach es X.env)).any (·.1) = false := by rfl) :
    PE X (.Call (.Name x p) (e :: es) [] pos) (tCall sp [] E0 t) := by
  obtain ⟨f, fd, G, hm, hk, hb⟩ := h
  exact pe_call G (hr.mono hj) hg hm hk hb .nil pass0 ha hdb he hpl
noncomputable def spTape (K : PySem.W.Frag) : Sp := fun vs H Q _ => ∃ (a : Addr) (ns : List Int) (k : Nat), vs = [.ref a, .int k] ∧ SqL K H a (ns.map V.int) ∧ k ≤ 100 ∧ ∀ (t : Addr) (H' : Hp), H t = none → Tape H' t 0 → Same H H' → Q (.ref t) H'
noncomputable def spInt (c : Nat) (lo hi : Int) : Sp := fun vs H Q _ => ∃ (t : Addr) (k : Nat), vs = [.ref t] ∧ Tape H t k ∧ k + c ≤ 2 ^ 40 ∧ ∀ (r : Int) (H' : Hp), lo ≤ r → r ≤ hi → Tape H' t (k + c) → Ext [t] H H' → Q (.int r) H'
noncomputable abbrev spMany : Sp := spInt 3 1 12
noncomputable abbrev spNumber : Sp := spInt 3 (-(10 ^ 12)) (10 ^ 12)
end L2
set_option maxHeartbeats 1000000
namespace L2
open PySem PySem.Spec PyProof.Rows
noncomputable def chk (X : Cx) (own : List Str) (cap : List Nat) (scope : Scope) : Bool :=
  decide (scope.kind = .function) && (scope.names.all fun x => decide (x.2 ≠ .cell)) && (scope.names.all fun x => !decide (x.2 = .local) || decide (scope.names.lookup x.1 = some .local)) &&
  (scope.names.all fun x => !decide (x.2 = .free) || (decide (X.env.scope.names.lookup x.1 = some .cell) || decide (X.env.scope.names.lookup x.1 = some .free))) && (own.all fun x => decide (scope.names.lookup x = some .local)) &&
  (cap.all fun j => decide (scope.names.lookup (X.N.getD j "") = some .free) && decide (j < X.N.length))
theorem CompScope.of {X : Cx} {own : List Str} {cap : List Nat} {scope : Scope} (h : chk X own cap scope = true) : CompScope X own cap scope := by
  unfold chk at h
  simp only [Bool.and_eq_true, List.all_eq_true, decide_eq_true_eq, Bool.or_eq_true, Bool.not_eq_true', decide_eq_false_iff_not] at h
  obtain ⟨⟨⟨⟨⟨h1, h2⟩, h3⟩, h4⟩, h5⟩, h6⟩ := h
  exact ⟨h1, fun x hx => h2 x hx, fun x hx e => (h3 x hx).resolve_left (fun z => z e), fun x hx e => (h4 x hx).resolve_left (fun z => z e), h5, fun j hj => h6 j hj⟩
section
variable {K : PySem.W.Frag} {a : Addr} {xs : List V} {g : TG} {tt : TT} {B : TB} {σ : St} {H : Hp} {Q : St → Hp → Prop}
theorem loop_by {J : It} {n : Nat} (Pv : Nat → St → Hp → Prop) (h0 : Pv 0 σ H) (hgo : ∀ i σ H, i < n → Pv i σ H → J.go i H) (hst : ∀ σ H, Pv n σ H → J.stop n H)
    (hs : ∀ i σ H (R : St → Hp → Prop), i < n → Pv i σ H → (∀ σ' H', Pv (i + 1) σ' H' → R σ' H') → ∀ x H', J.yld i H x H' → g x σ H' fun σ2 H2 => tt σ2 H2 fun b H3 => if b = true then B σ2 H3 R else R σ2 H3)
    (hd : ∀ σ H, Pv n σ H → Q σ H) : LoopT J g tt B σ H Q := by
  refine ⟨fun i m σ H => m = n - i ∧ i ≤ n ∧ Pv i σ H, ⟨n, by simp, Nat.zero_le _, h0⟩, ?_⟩
  rintro i m σ H ⟨rfl, hi, p⟩
  by_cases hlt : i < n
  · refine .inr ⟨hgo i σ H hlt p, fun x H' y => ?_⟩
    exact hs i σ H _ hlt p (fun σ' H' p' => ⟨n - (i + 1), by omega, rfl, hlt, p'⟩) x H' y
  · have e : i = n := by omega
    subst e
    exact .inl ⟨hst σ H p, hd σ H p⟩
theorem loop_list (Pv : Nat → St → Hp → Prop) (h0 : Pv 0 σ H) (hl : ∀ i σ H, i ≤ xs.length → Pv i σ H → SqL K H a xs)
    (hs : ∀ i x σ H (R : St → Hp → Prop), xs[i]? = some x → Pv i σ H → (∀ σ' H', Pv (i + 1) σ' H' → R σ' H') → g x σ H fun σ2 H2 => tt σ2 H2 fun b H3 => if b = true then B σ2 H3 R else R σ2 H3)
    (hd : ∀ σ H, Pv xs.length σ H → Q σ H) : LoopT (Itl K a) g tt B σ H Q := by
  refine loop_by (n := xs.length) Pv h0 (fun i σ H hi p => ⟨xs, xs[i], hl i σ H (Nat.le_of_lt hi) p, by simp [hi]⟩) (fun σ H p => ⟨xs, hl _ σ H (Nat.le_refl _) p, Nat.le_refl _⟩) (fun i σ H R hi p hR x H' y => ?_) hd
  obtain ⟨e, y⟩ := y
  subst e
  exact hs i x σ _ R (y xs (hl i σ _ (Nat.le_of_lt hi) p)) p hR
theorem loop_range {lo : Int} {n : Nat} (Pv : Nat → St → Hp → Prop) (h0 : Pv 0 σ H)
    (hs : ∀ i σ H (R : St → Hp → Prop), i < n → Pv i σ H → (∀ σ' H', Pv (i + 1) σ' H' → R σ' H') → g (.int (lo + i)) σ H fun σ2 H2 => tt σ2 H2 fun b H3 => if b = true then B σ2 H3 R else R σ2 H3)
    (hd : ∀ σ H, Pv n σ H → Q σ H) : LoopT (Itr lo n) g tt B σ H Q := by
  refine loop_by (n := n) Pv h0 (fun i σ H hi p => hi) (fun σ H p => Nat.le_refl _) (fun i σ H R hi p hR x H' y => ?_) hd
  obtain ⟨e, y⟩ := y
  subst e y
  exact hs i σ _ R hi p hR
theorem loop_enum (Pv : Nat → St → Hp → Prop) (h0 : Pv 0 σ H) (hl : ∀ i σ H, i ≤ xs.length → Pv i σ H → SqL K H a xs)
    (hs : ∀ i x σ H p (R : St → Hp → Prop), xs[i]? = some x → Pv i σ H → H p = none → (∀ σ' H', Pv (i + 1) σ' H' → R σ' H') → g (.ref p) σ (upd H p (.tup [.int i, x])) fun σ2 H2 => tt σ2 H2 fun b H3 => if b = true then B σ2 H3 R else R σ2 H3)
    (hd : ∀ σ H, Pv xs.length σ H → Q σ H) : LoopT (Ite K a) g tt B σ H Q := by
  refine loop_by (n := xs.length) Pv h0 (fun i σ H hi p => ⟨xs, xs[i], hl i σ H (Nat.le_of_lt hi) p, by simp [hi]⟩) (fun σ H p => ⟨xs, hl _ σ H (Nat.le_refl _) p, Nat.le_refl _⟩) (fun i σ H R hi p hR x H' y => ?_) hd
  obtain ⟨q, y, e, hq, hy, e2⟩ := y
  subst e e2
  exact hs i y σ H q R (hy xs (hl i σ H (Nat.le_of_lt hi) p)) p hq hR
end
theorem for_enum {K : PySem.W.Frag} {a : Addr} {xs : List V} {g : TG} {tb : TS} {D : Ends} {σ : St} {H : Hp} (Pv : Nat → St → Hp → Prop) (h0 : Pv 0 σ H) (hl : ∀ i σ H, i ≤ xs.length → Pv i σ H → SqL K H a xs)
    (hs : ∀ i x σ H p, xs[i]? = some x → Pv i σ H → H p = none → g (.ref p) σ (upd H p (.tup [.int i, x])) fun σ2 H2 => tb { D with nx := Pv (i + 1), ct := Pv (i + 1), bk := D.nx } σ2 H2) (hd : ∀ σ H, Pv xs.length σ H → D.nx σ H) :
    ∃ W : Nat → Nat → St → Hp → Prop, (∃ m, W 0 m σ H) ∧ ∀ i m σ H, W i m σ H →
      ((Ite K a).stop i H ∧ D.nx σ H) ∨ ((Ite K a).go i H ∧ ∃ N : St → Hp → Prop, (∀ σ' H', N σ' H' → ∃ m', m' < m ∧ W (i + 1) m' σ' H') ∧ ∀ x H', (Ite K a).yld i H x H' → g x σ H' fun σ2 H2 => tb { D with nx := N, ct := N, bk := D.nx } σ2 H2) := by
  refine ⟨fun i m σ H => m = xs.length - i ∧ i ≤ xs.length ∧ Pv i σ H, ⟨xs.length, by simp, Nat.zero_le _, h0⟩, ?_⟩
  rintro i m σ H ⟨rfl, hi, p⟩
  have q := hl i σ H hi p
  by_cases hlt : i < xs.length
  · refine .inr ⟨⟨xs, xs[i], q, by simp [hlt]⟩, Pv (i + 1), fun σ' H' p' => ⟨xs.length - (i + 1), by omega, rfl, hlt, p'⟩, fun x H' y => ?_⟩
    obtain ⟨r, y, e, hr, hy, e2⟩ := y
    subst e e2
    exact hs i y σ H r (hy xs q) p hr
  · have e : i = xs.length := by omega
    subst e
    exact .inl ⟨⟨xs, q, Nat.le_refl _⟩, hd σ H p⟩
noncomputable abbrev intsD (ns : List Int) : PyData := .list (ns.map .int)
def NxOk (m : Int) (nx : List (List Int)) : Prop := (nx.length : Int) = m ∧ ∀ ns ∈ nx, ns = [] ∨ (∃ x, ns = [x] ∧ 1 ≤ x ∧ x < m) ∨ ∃ x y, ns = [x, y] ∧ x ≠ y ∧ 1 ≤ x ∧ x < m ∧ 1 ≤ y ∧ y < m
noncomputable def spNexts (K : PySem.W.Frag) : Sp := fun vs H Q _ => ∃ (t : Addr) (k : Nat) (m : Int), vs = [.ref t, .int m] ∧ Tape H t k ∧ k + 30 ≤ 2 ^ 40 ∧ 1 ≤ m ∧ m ≤ 12 ∧
  ∀ (l : Addr) (nx : List (List Int)) (H' : Hp), H l = none → Tape H' t (k + 30) → Ext [t] H H' → NxOk m nx → Den K (yo H [t] H') (.list (nx.map intsD)) (.ref l) → Q (.ref l) H'
section
variable {K : PySem.W.Frag} {σ : St} {H : Hp} {Q : VK} {l d : Addr} {xs : List V} {i j : Int} {v y : V} {to ta tb te td ty tk tv tx : TE} {tl : TA} {wi : TI} {g : TG} {tts : List TT} {D : Ends} {tb2 : TS}
theorem r_bm {T : String} {r : V → List V → Hp → VK → Prop} (h : to σ H fun x H1 => tyV K T x H1 ∧ tl σ H1 fun xs H2 => r x xs H2 Q) : tBM K T r to tl σ H Q := h
theorem r_bm0 {T : String} {r : V → List V → Hp → VK → Prop} (h : to σ H fun x H1 => tyV K T x H1 ∧ r x [] H1 Q) : tBM0 K T r to σ H Q := h
theorem r_tyD {R : Prop} {kvs : List (Key × V)} (h : H d = some (.dK kvs)) (q : R) : tyV K "dict" (.ref d) H ∧ R := ⟨.inr (.inr (.inl ⟨rfl, .inl ⟨_, h⟩⟩)), q⟩
theorem r_comp {own : List Str} {cap : List Nat} {o : HO} {Bof : Addr → TB} (h : wi σ H fun J H1 => ∀ l, H1 l = none → LoopT J g (tAll tts) (Bof l) (compSt own cap σ) (upd H1 l o) fun _ H2 => Q (.ref l) H2) : tComp own cap o wi g tts Bof σ H Q := h
theorem r_ilist {R : It → Hp → Prop} (h : te σ H fun x H1 => ∃ a, x = .ref a ∧ (∃ xs, SqL K H1 a xs) ∧ R (Itl K a) H1) : iList K te σ H R := h
theorem r_ienum {R : It → Hp → Prop} (h : tl σ H fun vs H1 => ∃ a, vs = [.ref a] ∧ (∃ xs, SqL K H1 a xs) ∧ R (Ite K a) H1) : iEnum K tl σ H R := h
theorem r_idict {R : It → Hp → Prop} (h : te σ H fun x H1 => ∃ d kvs, x = .ref d ∧ H1 d = some (.dK kvs) ∧ ∀ o, R (Itd d o kvs) (upd H1 d (.frz o (.dK kvs)))) : iDict te σ H R := h
theorem r_itup {R : It → Hp → Prop} (h : te σ H fun x H1 => ∃ a, x = .ref a ∧ (∃ xs, SqT K H1 a xs) ∧ R (Itt K a) H1) : iTup K te σ H R := h
theorem r_rng1 {R : It → Hp → Prop} (h : tl σ H fun vs H1 => ∃ j : Int, vs = [.int j] ∧ -(2 ^ 62) ≤ j ∧ j < 2 ^ 62 ∧ R (Itr 0 j.toNat) H1) : iRng1 tl σ H R := h
theorem r_for (h : wi σ H fun J H1 => ∃ W : Nat → Nat → St → Hp → Prop, (∃ m, W 0 m σ H1) ∧ ∀ i m σ H, W i m σ H →
  (J.stop i H ∧ D.nx σ H) ∨ (J.go i H ∧ ∃ N : St → Hp → Prop, (∀ σ' H', N σ' H' → ∃ m', m' < m ∧ W (i + 1) m' σ' H') ∧ ∀ x H', J.yld i H x H' → g x σ H' fun σ2 H2 => tb2 { D with nx := N, ct := N, bk := D.nx } σ2 H2)) : tFor wi g tb2 D σ H := h
theorem r_dnewK (h : ∀ p, H p = none → Q (.ref p) (upd H p (.dK []))) : tDNewK σ H Q := h
theorem r_din (h : ty σ H fun y H1 => td σ H1 fun x H2 => ∃ a o, x = .ref a ∧ DGet H2 a y o ∧ Q (.bl o.isSome) H2) : tDIn ty td σ H Q := h
theorem r_dnotin (h : ty σ H fun y H1 => td σ H1 fun x H2 => ∃ a o, x = .ref a ∧ DGet H2 a y o ∧ Q (.bl (!o.isSome)) H2) : tDNotIn ty td σ H Q := h
theorem r_dget (h : td σ H fun x H1 => ty σ H1 fun y H2 => ∃ a v, x = .ref a ∧ DGet H2 a y (some v) ∧ Q v H2) : tDGet td ty σ H Q := h
theorem r_dget2 (h : td σ H fun x H1 => ∃ a, x = .ref a ∧ IsD H1 a ∧ ty σ H1 fun y H2 => tx σ H2 fun z H3 => ∃ o, DGet H3 a y o ∧ Q (o.getD z) H3) : tDGet2 td ty tx σ H Q := h
theorem r_dput (h : tv σ H fun v H1 => td σ H1 fun x H2 => ty σ H2 fun y H3 => ∃ a H4, x = .ref a ∧ DPut H3 a y v H4 ∧ D.nx σ H4) : sDPut td ty tv D σ H := h
theorem r_app' {R : St → Hp → Prop} (h : te σ H fun v H1 => ∃ vs, H1 l = some (.lst vs) ∧ vs.length < sizeLine ∧ R σ (upd H1 l (.lst (vs ++ [v])))) : eApp te l σ H R := h
theorem r_put' {R : St → Hp → Prop} (h : tk σ H fun x H1 => tv σ H1 fun y H2 => ∃ kvs k, x = kV k ∧ H2 l = some (.dK kvs) ∧ kvs.length < sizeLine ∧ R σ (upd H2 l (.dK (putK kvs k y)))) : ePut tk tv l σ H R := h
theorem r_all0 {R : Bool → Hp → Prop} (h : R true H) : tAll [] σ H R := h
theorem r_all1 {tt : TT} {R : Bool → Hp → Prop} (h : tt σ H fun b H1 => if b = true then R true H1 else R false H1) : tAll [tt] σ H R := h
theorem r_gtup {n : Nat} {t : TGs} {R : St → Hp → Prop} (h : SqT K H l xs) (hn : xs.length = n) (q : t xs σ H R) : gTup K n t (.ref l) σ H R := ⟨l, xs, rfl, h, hn, q⟩
theorem r_gcons {t : TG} {u : TGs} {R : St → Hp → Prop} (h : t v σ H fun σ' H' => u xs σ' H' R) : gCons t u (v :: xs) σ H R := ⟨v, xs, rfl, h⟩
theorem r_gnil {R : St → Hp → Prop} (h : R σ H) : gNil [] σ H R := ⟨rfl, h⟩
theorem r_sl {r : V → Option Int → Option Int → Hp → VK → Prop} {t1 t2 : TO} (h : te σ H fun x H1 => t1 σ H1 fun l H2 => t2 σ H2 fun u H3 => r x l u H3 Q) : tSl r te t1 t2 σ H Q := h
theorem r_nop {R : Option Int → Hp → Prop} (h : R none H) : tNoPart σ H R := h
theorem r_part {R : Option Int → Hp → Prop} (h : te σ H fun x H1 => ∃ i, x = .int i ∧ R (some i) H1) : tPart te σ H R := h
end
end L2
namespace L2
open PySem PySem.Spec PyProof.Rows
def Nx (N A : St → Hp → Prop) : Prop := ∀ σ H, A σ H → N σ H
theorem go_nx {N A : St → Hp → Prop} {σ : St} {H : Hp} (h : Nx N A) (q : A σ H) : N σ H := h σ H q
def NxV (Q' Q : VK) : Prop := ∀ v H, Q v H → Q' v H
theorem go_nv {Q' Q : VK} {v : V} {H : Hp} (h : NxV Q' Q) (q : Q v H) : Q' v H := h v H q
theorem for_listN {K : PySem.W.Frag} {a : Addr} {xs : List V} {g : TG} {tb : TS} {D : Ends} {σ : St} {H : Hp} (Pv : Nat → St → Hp → Prop) (h0 : Pv 0 σ H) (hl : ∀ i σ H, i ≤ xs.length → Pv i σ H → SqL K H a xs)
    (hs : ∀ i x σ H, xs[i]? = some x → Pv i σ H → ∀ (N B C : St → Hp → Prop) (R : VK), Nx N (Pv (i + 1)) → Nx C (Pv (i + 1)) → NxV R D.rt → g x σ H fun σ2 H2 => tb ⟨N, R, B, C⟩ σ2 H2) (hd : ∀ σ H, Pv xs.length σ H → D.nx σ H) :
    ∃ W : Nat → Nat → St → Hp → Prop, (∃ m, W 0 m σ H) ∧ ∀ i m σ H, W i m σ H →
      ((Itl K a).stop i H ∧ D.nx σ H) ∨ ((Itl K a).go i H ∧ ∃ N : St → Hp → Prop, (∀ σ' H', N σ' H' → ∃ m', m' < m ∧ W (i + 1) m' σ' H') ∧ ∀ x H', (Itl K a).yld i H x H' → g x σ H' fun σ2 H2 => tb { D with nx := N, ct := N, bk := D.nx } σ2 H2) :=
  for_list Pv h0 hl (fun i x σ H hx hp => hs i x σ H hx hp _ _ _ _ (fun _ _ h => h) (fun _ _ h => h) (fun _ _ h => h)) hd
theorem for_rangeN {lo : Int} {n : Nat} {g : TG} {tb : TS} {D : Ends} {σ : St} {H : Hp} (Pv : Nat → St → Hp → Prop) (h0 : Pv 0 σ H)
    (hs : ∀ i σ H, i < n → Pv i σ H → ∀ (N B C : St → Hp → Prop) (R : VK), Nx N (Pv (i + 1)) → Nx C (Pv (i + 1)) → NxV R D.rt → g (.int (lo + i)) σ H fun σ2 H2 => tb ⟨N, R, B, C⟩ σ2 H2) (hd : ∀ σ H, Pv n σ H → D.nx σ H) :
    ∃ W : Nat → Nat → St → Hp → Prop, (∃ m, W 0 m σ H) ∧ ∀ i m σ H, W i m σ H →
      ((Itr lo n).stop i H ∧ D.nx σ H) ∨ ((Itr lo n).go i H ∧ ∃ N : St → Hp → Prop, (∀ σ' H', N σ' H' → ∃ m', m' < m ∧ W (i + 1) m' σ' H') ∧ ∀ x H', (Itr lo n).yld i H x H' → g x σ H' fun σ2 H2 => tb { D with nx := N, ct := N, bk := D.nx } σ2 H2) :=
  for_range Pv h0 (fun i σ H hx hp => hs i σ H hx hp _ _ _ _ (fun _ _ h => h) (fun _ _ h => h) (fun _ _ h => h)) hd
theorem for_enumN {K : PySem.W.Frag} {a : Addr} {xs : List V} {g : TG} {tb : TS} {D : Ends} {σ : St} {H : Hp} (Pv : Nat → St → Hp → Prop) (h0 : Pv 0 σ H) (hl : ∀ i σ H, i ≤ xs.length → Pv i σ H → SqL K H a xs)
    (hs : ∀ i x σ H p, xs[i]? = some x → Pv i σ H → H p = none → ∀ (N B C : St → Hp → Prop) (R : VK), Nx N (Pv (i + 1)) → Nx C (Pv (i + 1)) → NxV R D.rt → g (.ref p) σ (upd H p (.tup [.int i, x])) fun σ2 H2 => tb ⟨N, R, B, C⟩ σ2 H2) (hd : ∀ σ H, Pv xs.length σ H → D.nx σ H) :
    ∃ W : Nat → Nat → St → Hp → Prop, (∃ m, W 0 m σ H) ∧ ∀ i m σ H, W i m σ H →
      ((Ite K a).stop i H ∧ D.nx σ H) ∨ ((Ite K a).go i H ∧ ∃ N : St → Hp → Prop, (∀ σ' H', N σ' H' → ∃ m', m' < m ∧ W (i + 1) m' σ' H') ∧ ∀ x H', (Ite K a).yld i H x H' → g x σ H' fun σ2 H2 => tb { D with nx := N, ct := N, bk := D.nx } σ2 H2) :=
  for_enum Pv h0 hl (fun i x σ H p hx hp hn => hs i x σ H p hx hp hn _ _ _ _ (fun _ _ h => h) (fun _ _ h => h) (fun _ _ h => h)) hd
end L2
set_option maxHeartbeats 400000
local macro_rules | `(tactic| walk_at "rd") => `(tactic| repeat (with_reducible first | refine L2.r_op ?_ | refine L2.r_seq ?_ | refine L2.r_asg ?_ | refine L2.r_gn ?_ | refine L2.r_ret ?_ | refine L2.r_drop ?_ | refine L2.r_next ?_ | refine L2.go_nx (by assumption) ?_ | refine L2.go_nv (by assumption) ?_ | refine L2.r_if ?_ | refine L2.r_test ?_ | refine L2.r_tB ?_ | refine L2.r_bl ?_ | refine L2.r_gsub ?_ | refine L2.r_nil ?_ | refine L2.r_cons ?_ | refine L2.r_tup ?_ | refine L2.r_lst ?_ | refine L2.r_call ?_ | refine L2.r_cb ?_ | refine L2.r_ife ?_ | refine L2.r_un ?_ | refine L2.r_u ?_ | refine L2.r_and ?_ | refine L2.r_or ?_ | refine L2.r_not ?_ | refine L2.r_par ?_ | refine L2.r_c ?_ | refine L2.r_i0 ?_ | refine L2.r_bm ?_ | refine L2.r_bm0 ?_ | refine L2.r_comp ?_ | refine L2.r_ilist ?_ | refine L2.r_ienum ?_ | refine L2.r_idict ?_ | refine L2.r_itup ?_ | refine L2.r_rng1 ?_ | refine L2.r_for ?_ | refine L2.r_din ?_ | refine L2.r_dnotin ?_ | refine L2.r_dget ?_ | refine L2.r_dget2 ?_ | refine L2.r_dput ?_ | refine L2.r_app' ?_ | refine L2.r_put' ?_ | refine L2.r_all0 ?_ | refine L2.r_all1 ?_ | refine L2.r_gcons ?_ | refine L2.r_gnil ?_ | refine L2.r_sl ?_ | refine L2.r_nop ?_ | refine L2.r_part ?_ | refine L2.r_var (by with_unfolding_all rfl) ?_ | refine L2.r_ixL (by assumption) (by with_unfolding_all rfl) ?_ | refine L2.r_ixT (by assumption) (by with_unfolding_all rfl) ?_))
namespace Fs
open PySem L2
noncomputable def top (i : Nat) : Stmt := PySem.Challenge.pw_fewsaves_k06_busy.main.body.getD i (.Pass ⟨0, 0, 0, 0⟩)
noncomputable abbrev sDraw : Stmt := top 18
section
variable {P : Program} {w : World} {K : PySem.W.Frag} {mg : Str → Option Value} {base : Heap}
theorem scDraw : FnScope ["_law_tape_here", "_law_many_here", "_law_found", "_law_once", "_law_twice"] ["_law_tape_here", "_law_many_here"] (defScope sDraw) := ⟨rfl, rfl, rfl, by decide +kernel, rfl, by decide +kernel, by decide +kernel⟩
theorem ok_draw {f : Addr} {fd : FuncData} (F : Fun K "_law_draw" "_law_draw" sDraw f fd) : FnOk P w K mg base CX0 1 f fd ["_law_tape_here", "_law_many_here"] spDraw := by
  refine F.ok scDraw (fun vs H Q E h => ?_) (fun cdv A outer s H vs Q E hr h => ?_)
  · obtain ⟨t, k, n, rfl, _⟩ := h
    rfl
  · obtain ⟨t, k, n, rfl, ⟨a, b, c, ht, ha, hb, hb2, hc, hc2⟩, hk, hn, hn2, q⟩ := h
    refine ⟨_, pss_cons (ps_if (pt_cmpR op_gt (pe_ix ix_list (pv 0) pe_int (fun _ _ => rfl)) pe_int (nomark _))
        (pss_cons (ps_set (i := 2) scDraw.nd rfl (Or.inl rfl) (pe_op op_mod (pe_ix ix_list (pv 0) pe_int (fun _ _ => rfl)) (pv 1)))
        (pss_cons (ps_asg (pe_op op_fdiv (pe_ix ix_list (pv 0) pe_int (fun _ _ => rfl)) (pv 1)) (pg_sub (pv 0) pe_int set_list))
        (pss_one (ps_ret (pv 2))))) pss_nil)
      (pss_cons (ps_asg (pe_op op_add (pe_ix ix_list (pv 0) pe_int (fun _ _ => rfl)) pe_int) (pg_sub (pv 0) pe_int set_list))
      (pss_cons (ps_set (i := 3) scDraw.nd rfl (Or.inl rfl) (pe_op op_mod (pe_op op_pow (pe_op op_add (pe_ix ix_list (pv 0) pe_int (fun _ _ => rfl)) (pe_op op_mul pe_int (pe_ix ix_list (pv 0) pe_int (fun _ _ => rfl)))) pe_int) pe_int))
      (pss_cons (ps_set (i := 4) scDraw.nd rfl (Or.inl rfl) (pe_op op_mod (pe_op op_mul (pe_op op_add (pv 3) (pe_ix ix_list (pv 0) pe_int (fun _ _ => rfl))) (pe_op op_add (pe_op op_add (pe_op op_mod (pv 3) pe_int) pe_int) (pe_ix ix_list (pv 0) pe_int (fun _ _ => rfl)))) pe_int))
      (pss_one (ps_ret (pe_op op_mod (pe_op op_fdiv (pe_op op_mod (pe_op op_add (pe_op op_mul (pv 4) pe_int) (pv 3)) pe_int) pe_int) (pv 1))))))), ?_⟩
    dsimp only [nox_K]
    have hS : SqL K H t [.int a, .int b, .int c] := SqL.of ht
    walk_at "rd"
    refine ite2 (fun g => ?_) (fun g => ?_)
    · walk_at "rd"
      refine r_mod hn ?_
      walk_at "rd"
      refine r_div hn (by omega) ?_
      walk_at "rd"
      refine r_setL (n := 0) ht rfl ?_
      walk_at "rd"
      exact q _ _ (Int.emod_nonneg _ (by omega)) (Int.emod_lt_of_pos _ hn) ⟨a / n, b, c, upd_same, Int.ediv_nonneg ha (by omega), hb, hb2, hc, by omega⟩ (.put (by simp)) (fun b hb => upd_ne hb)
    · walk_at "rd"
      refine r_setL (n := 2) ht rfl ?_
      have hS' : SqL K (upd H t (.lst ([V.int a, V.int b, V.int c].set 2 (.int (c + 1))))) t [.int a, .int b, .int (c + 1)] := SqL.of upd_same
      walk_at "rd"
      refine r_mul (.inl ⟨by decide, by decide⟩) ?_
      walk_at "rd"
      refine r_pow (by decide) (by decide) (by omega) ?_
      walk_at "rd"
      refine r_mod (by decide) ?_
      generalize ho : (b + 39373 * (c + 1)) ^ (5 : Int).toNat % 2147483647 = o
      have ho1 : 0 ≤ o := by rw [← ho]; exact Int.emod_nonneg _ (by decide)
      have ho2 : o < 2147483647 := by rw [← ho]; exact Int.emod_lt_of_pos _ (by decide)
      walk_at "rd"
      refine r_mod (by decide) ?_
      have hm1 : 0 ≤ o % 40009 := Int.emod_nonneg _ (by decide)
      have hm2 : o % 40009 < 40009 := Int.emod_lt_of_pos _ (by decide)
      walk_at "rd"
      refine r_mul (.inl ⟨by omega, by omega⟩) ?_
      walk_at "rd"
      refine r_mod (by decide) ?_
      generalize hp : (o + (c + 1)) * (o % 40009 + 7 + (c + 1)) % 2147483629 = p2
      have hp1 : 0 ≤ p2 := by rw [← hp]; exact Int.emod_nonneg _ (by decide)
      have hp2 : p2 < 2147483629 := by rw [← hp]; exact Int.emod_lt_of_pos _ (by decide)
      walk_at "rd"
      refine r_mul (.inl ⟨by omega, by omega⟩) ?_
      walk_at "rd"
      refine r_mod (by decide) ?_
      walk_at "rd"
      refine r_div (by decide) (by decide) ?_
      walk_at "rd"
      refine r_mod hn ?_
      exact q _ _ (Int.emod_nonneg _ (by omega)) (Int.emod_lt_of_pos _ hn) ⟨a, b, c + 1, upd_same, ha, hb, hb2, by omega, by omega⟩ (.put (by simp)) (fun b hb => upd_ne hb)
end
end Fs
set_option maxHeartbeats 400000
namespace Fs
open PySem L2
section
variable {P : Program} {w : World} {K : PySem.W.Frag} {mg : Str → Option Value} {base : Heap}
noncomputable abbrev sTape : Stmt := top 17
noncomputable abbrev sNumber : Stmt := top 20
noncomputable abbrev sMany : Stmt := top 23
theorem scTape : FnScope ["_law_script", "_law_k", "_law_cell"] ["_law_script", "_law_k"] (defScope sTape) := ⟨rfl, rfl, rfl, by decide +kernel, rfl, by decide +kernel, by decide +kernel⟩
theorem ok_tape {f : Addr} {fd : FuncData} (F : Fun K "_law_tape" "_law_tape" sTape f fd) (nlen : mg "len" = none) (nabs : mg "abs" = none) (nint : mg "int" = none) : FnOk P w K mg base CX0 1 f fd ["_law_script", "_law_k"] (spTape K) := by
  refine F.ok scTape (fun vs H Q E h => ?_) (fun cdv A outer s H vs Q E hr h => ?_)
  · obtain ⟨a, ns, k, rfl, _⟩ := h
    rfl
  · obtain ⟨a, ns, k, rfl, hS, hk, q⟩ := h
    refine ⟨_, pss_cons (ps_set (i := 2) scTape.nd rfl (Or.inl rfl) (pe_ifExp (pt_cmpR op_lt (pv 1) (pe_callB call_len_seq (by rfl) nlen PySem.boot_len (pa_cons (pv 0) pa_nil)) (nomark _)) (pe_ix ix_list (pv 0) (pv 1) (fun _ _ => rfl)) pe_int))
      (pss_one (ps_ret (pe_lst (pa_cons (pe_op op_mul (pe_callB call_abs (by rfl) nabs PyProof.Rows.boot_abs (pa_cons (pv 2) pa_nil)) (pe_callTy call_int1 (by rfl) nint PyProof.Rows.boot_int (pa_cons (pe_cmpR op_ge (pe_callB call_abs (by rfl) nabs PyProof.Rows.boot_abs (pa_cons (pv 2) pa_nil)) (pe_op op_pow pe_int pe_int) (nomark _)) pa_nil)))
        (pa_cons (pe_op op_add (pe_op op_add (pe_op op_mod (pv 2) pe_int) (pe_op op_mul pe_int (pv 1))) pe_int) (pa_cons pe_int pa_nil)))))), ?_⟩
    dsimp only [nox_K]
    have key : ∀ c : Int, 0 ≤ (if c < 0 then -c else c) := fun c => by split <;> omega
    walk_at "rd"
    refine ⟨a, _, rfl, .inl hS, ?_⟩
    walk_at "rd"
    by_cases g : (k : Int) < ((ns.map V.int).length : Int)
    · rw [decide_eq_true g]
      refine iteT ?_
      rw [List.length_map] at g
      have hg : k < ns.length := by omega
      have hat : atI (ns.map V.int) (k : Int) = some (.int ns[k]) := by
        have := atI_nat (xs := ns.map V.int) (j := k) (by rw [List.getElem?_map, List.getElem?_eq_getElem hg]; rfl)
        exact this
      walk_at "rd"
      refine r_ixL hS hat ?_
      generalize ns[k] = c
      walk_at "rd"
      refine ⟨_, rfl, ?_⟩
      walk_at "rd"
      refine ⟨_, rfl, ?_⟩
      walk_at "rd"
      refine r_pow (by decide) (by decide) (by decide) ?_
      walk_at "rd"
      refine .inr ⟨_, rfl, ?_⟩
      refine r_mul (.inr ⟨by have := bit01 (decide (10 ^ Int.toNat 18 ≤ if c < 0 then -c else c)); omega, by have := bit01 (decide (10 ^ Int.toNat 18 ≤ if c < 0 then -c else c)); omega⟩) ?_
      walk_at "rd"
      refine r_mod (by decide) ?_
      walk_at "rd"
      refine r_mul (.inl ⟨by decide, by decide⟩) ?_
      walk_at "rd"
      refine ⟨len2 (by show 3 ≤ 1000; decide), fun t ht => q t _ ht ⟨_, _, _, upd_same, ?_, ?_, ?_, by decide, by decide⟩ fun b o e => ?_⟩
      · exact Int.mul_nonneg (key c) (bit01 _).1
      · have := Int.emod_nonneg c (show (2305843009213693951 : Int) ≠ 0 by decide)
        omega
      · have := Int.emod_lt_of_pos c (show (0 : Int) < 2305843009213693951 by decide)
        omega
      · rw [upd_ne (ne_of_none e ht)]; exact e
    · rw [decide_eq_false g]
      refine iteF ?_
      walk_at "rd"
      refine ⟨_, rfl, ?_⟩
      walk_at "rd"
      refine ⟨_, rfl, ?_⟩
      walk_at "rd"
      refine r_pow (by decide) (by decide) (by decide) ?_
      walk_at "rd"
      refine .inr ⟨_, rfl, ?_⟩
      refine r_mul (.inr ⟨by have := bit01 (decide (10 ^ Int.toNat 18 ≤ if 0 < 0 then -0 else 0)); omega, by have := bit01 (decide (10 ^ Int.toNat 18 ≤ if 0 < 0 then -0 else 0)); omega⟩) ?_
      walk_at "rd"
      refine r_mod (by decide) ?_
      walk_at "rd"
      refine r_mul (.inl ⟨by decide, by decide⟩) ?_
      walk_at "rd"
      refine ⟨len2 (by show 3 ≤ 1000; decide), fun t ht => q t _ ht ⟨_, _, _, upd_same, ?_, ?_, ?_, by decide, by decide⟩ fun b o e => ?_⟩
      · exact Int.mul_nonneg (key 0) (bit01 _).1
      · have : (0 : Int) % 2305843009213693951 = 0 := rfl
        omega
      · have : (0 : Int) % 2305843009213693951 = 0 := rfl
        omega
      · rw [upd_ne (ne_of_none e ht)]; exact e
theorem scMany : FnScope ["_law_tape_here"] ["_law_tape_here"] (defScope sMany) := ⟨rfl, rfl, rfl, by decide +kernel, rfl, by decide +kernel, by decide +kernel⟩
theorem ok_many {f : Addr} {fd : FuncData} (F : Fun K "_law_many" "_law_many" sMany f fd) (nint : mg "int" = none) (hD : Has P w K mg base "_law_draw" 1 ["_law_tape_here", "_law_many_here"] spDraw) : FnOk P w K mg base CX0 2 f fd ["_law_tape_here"] spMany := by
  refine F.ok scMany (fun vs H Q E h => ?_) (fun cdv A outer s H vs Q E hr h => ?_)
  · obtain ⟨t, k, rfl, _⟩ := h
    rfl
  · obtain ⟨t, k, rfl, hT, hk, q⟩ := h
    refine ⟨_, pss_one (ps_ret (pe_ix ix_list (pe_lst (pa_cons (pe_op op_add pe_int (pe_fn hD hr (Nat.le_refl _) (pa_cons (pv 0) (pa_cons pe_int pa_nil)))) (pa_cons (pe_op op_add pe_int (pe_fn hD hr (Nat.le_refl _) (pa_cons (pv 0) (pa_cons pe_int pa_nil)))) pa_nil)))
      (pe_callTy call_int1 (by rfl) nint PyProof.Rows.boot_int (pa_cons (pe_cmpR op_eq (pe_fn hD hr (Nat.le_refl _) (pa_cons (pv 0) (pa_cons pe_int pa_nil))) pe_int (nomark _)) pa_nil)) (fun _ _ => rfl))), ?_⟩
    dsimp only [nox_K]
    walk_at "rd"
    refine r_draw hT (by omega) (by decide) (by decide) fun r1 H1 a1 b1 T1 e1 _ => ?_
    walk_at "rd"
    refine r_draw T1 (by omega) (by decide) (by decide) fun r2 H2 a2 b2 T2 e2 _ => ?_
    walk_at "rd"
    refine ⟨len2 (by show 2 ≤ 1000; decide), fun p hp => ?_⟩
    have np : p ≠ t := T2.ne hp
    walk_at "rd"
    refine r_draw (T2.ext (.laid (ts := []) hp) (by simp)) (by omega) (by decide) (by decide) fun r3 H3 a3 b3 T3 e3 k3 => ?_
    walk_at "rd"
    refine r_eqI ?_
    walk_at "rd"
    refine .inr ⟨_, rfl, ?_⟩
    have e4 : Ext [t] H H3 := (e1.trans e2).trans ((Ext.laid hp).trans e3)
    have hL : SqL K H3 p [V.int (1 + r1), V.int (7 + r2)] := SqL.of (by rw [k3 p np, upd_same])
    cases c : decide (r3 = 0) with
    | true => exact r_ixL hL rfl (q _ _ (by omega) (by omega) T3 e4)
    | false => exact r_ixL hL rfl (q _ _ (by omega) (by omega) T3 e4)
theorem scNumber : FnScope ["_law_tape_here"] ["_law_tape_here"] (defScope sNumber) := ⟨rfl, rfl, rfl, by decide +kernel, rfl, by decide +kernel, by decide +kernel⟩
theorem ok_number {f : Addr} {fd : FuncData} (F : Fun K "_law_number" "_law_number" sNumber f fd) (hD : Has P w K mg base "_law_draw" 1 ["_law_tape_here", "_law_many_here"] spDraw) : FnOk P w K mg base CX0 2 f fd ["_law_tape_here"] spNumber := by
  refine F.ok scNumber (fun vs H Q E h => ?_) (fun cdv A outer s H vs Q E hr h => ?_)
  · obtain ⟨t, k, rfl, _⟩ := h
    rfl
  · obtain ⟨t, k, rfl, hT, hk, q⟩ := h
    refine ⟨_, pss_one (ps_ret (pe_ix ix_list (pe_lst (pa_cons pe_int (pa_cons pe_int (pa_cons (pe_un un_neg pe_int) (pa_cons pe_int (pa_cons (pe_op op_pow pe_int pe_int) (pa_cons (pe_op op_sub pe_int (pe_op op_pow pe_int pe_int))
      (pa_cons (pe_op op_sub (pe_fn hD hr (Nat.le_refl _) (pa_cons (pv 0) (pa_cons pe_int pa_nil))) pe_int) (pa_cons (pe_fn hD hr (Nat.le_refl _) (pa_cons (pv 0) (pa_cons (pe_op op_pow pe_int pe_int) pa_nil))) pa_nil)))))))))
      (pe_fn hD hr (Nat.le_refl _) (pa_cons (pv 0) (pa_cons pe_int pa_nil))) (fun _ _ => rfl))), ?_⟩
    dsimp only [nox_K]
    walk_at "rd"
    refine r_pow (by decide) (by decide) (by decide) ?_
    walk_at "rd"
    refine r_pow (by decide) (by decide) (by decide) ?_
    walk_at "rd"
    refine r_draw hT (by omega) (by decide) (by decide) fun r1 H1 a1 b1 T1 e1 _ => ?_
    walk_at "rd"
    refine r_pow (by decide) (by decide) (by decide) ?_
    walk_at "rd"
    refine r_draw T1 (by omega) (by decide) (by decide) fun r2 H2 a2 b2 T2 e2 _ => ?_
    have b2' : r2 < 1000000 := b2
    walk_at "rd"
    refine ⟨len2 (by show 8 ≤ 1000; decide), fun p hp => ?_⟩
    have np : p ≠ t := T2.ne hp
    walk_at "rd"
    refine r_draw (T2.ext (.laid (ts := []) hp) (by simp)) (by omega) (by decide) (by decide) fun r3 H3 a3 b3 T3 e3 k3 => ?_
    have e4 : Ext [t] H H3 := (e1.trans e2).trans ((Ext.laid hp).trans e3)
    have hL := SqL.of (K := K) ((k3 p np).trans upd_same)
    have e5 : (10 : Int) ^ (12 : Int).toNat = 1000000000000 := by decide
    have e6 : -((10 : Int) ^ 12) = -1000000000000 := by decide
    have e7 : ((10 : Int) ^ 12) = 1000000000000 := by decide
    rw [e6, e7] at q
    obtain h | h | h | h | h | h | h | h : r3 = 0 ∨ r3 = 1 ∨ r3 = 2 ∨ r3 = 3 ∨ r3 = 4 ∨ r3 = 5 ∨ r3 = 6 ∨ r3 = 7 := by omega
    all_goals
      subst h
      refine r_ixL hL rfl (q _ _ ?_ ?_ T3 e4)
    all_goals first | decide | omega
end
end Fs
set_option maxHeartbeats 1000000
namespace L2
open PySem PySem.Spec PyProof.Rows
inductive Deed where
  | set (b n : Int)
  | add (b o : Int)
  | tell (b : Int)
  | call (c : Int)
  | save (b : Int)
  | back (b : Int)
noncomputable def deedD : Deed → PyData
  | .set b n => .tuple [.str "set", .int b, .int n]
  | .add b o => .tuple [.str "add", .int b, .int o]
  | .tell b => .tuple [.str "tell", .int b]
  | .call c => .tuple [.str "call", .int c]
  | .save b => .tuple [.str "save", .int b]
  | .back b => .tuple [.str "back", .int b]
noncomputable def DeedOk (works : Int) : Deed → Prop
  | .set b n => 0 ≤ b ∧ b < 8 ∧ -(10 ^ 12) ≤ n ∧ n ≤ 10 ^ 12
  | .add b o => 0 ≤ b ∧ b < 8 ∧ 0 ≤ o ∧ o < 8
  | .tell b => 0 ≤ b ∧ b < 8
  | .call c => 0 ≤ c ∧ c < works
  | .save b => 0 ≤ b ∧ b < 8
  | .back b => 0 ≤ b ∧ b < 8
noncomputable def endD : List Int → PyData
  | [] => .tuple [.str "out"]
  | [x] => .tuple [.str "go", .int x]
  | x :: y :: _ => .tuple [.str "fork", .int x, .int y]
structure Blk where
  ds : List Deed
  ns : List Int
noncomputable def blkD (b : Blk) : PyData := .tuple [.list (b.ds.map deedD), endD b.ns]
noncomputable def workD (w : List Blk) : PyData := .list (w.map blkD)
def NsOk (m : Int) (ns : List Int) : Prop := ns = [] ∨ (∃ x, ns = [x] ∧ 1 ≤ x ∧ x < m) ∨ ∃ x y, ns = [x, y] ∧ x ≠ y ∧ 1 ≤ x ∧ x < m ∧ 1 ≤ y ∧ y < m
structure BlkOk (m works : Int) (b : Blk) : Prop where
  ns : NsOk m b.ns
  ds : ∀ d ∈ b.ds, DeedOk works d
  few : b.ds.length ≤ 20
structure WorkOk (m works : Int) (w : List Blk) : Prop where
  len : (w.length : Int) = m
  blk : ∀ b ∈ w, BlkOk m works b
structure BsOk (bs : List Int) : Prop where
  one : 1 ≤ bs.length
  few : bs.length ≤ 8
  all : ∀ b ∈ bs, 0 ≤ b ∧ b < 8
theorem r_int {k c : Nat} {lo hi : Int} {t : Addr} {H : Hp} {Q : VK} {E : XK} (hT : Tape H t k) (hk : k + c ≤ 2 ^ 40) (q : ∀ r H', lo ≤ r → r ≤ hi → Tape H' t (k + c) → Ext [t] H H' → Q (.int r) H') : spInt c lo hi ([.ref t] ++ []) H Q E := ⟨t, k, rfl, hT, hk, q⟩
theorem atI_ints {ns : List Int} {r : Int} (h0 : 0 ≤ r) (h1 : r < ns.length) : ∃ n, n ∈ ns ∧ atI (ns.map V.int) r = some (.int n) := by
  obtain ⟨j, rfl⟩ := Int.eq_ofNat_of_zero_le h0
  have hj : j < ns.length := by exact_mod_cast h1
  refine ⟨ns[j], List.getElem_mem hj, ?_⟩
  have := atI_nat (xs := ns.map V.int) (j := j) (by rw [List.getElem?_map, List.getElem?_eq_getElem hj]; rfl)
  exact this
end L2
set_option maxHeartbeats 1000000
namespace L2
open PySem PySem.Spec PyProof.Rows
section
variable {X : Cx}
noncomputable def rRange : List V → Hp → VK → Prop := fun xs H Q => ∃ j : Int, xs = [.int j] ∧ ∀ l, H l = none → Q (.ref l) (upd H l (.rng 0 j))
theorem call_range1 : CallR X (.type "range") rRange := by
  intro pins s σ H xs us Q I r h
  obtain ⟨j, rfl, q⟩ := h
  obtain ⟨u, rfl, t, rfl⟩ := vals1 r
  refine call_range_1 ⟨.ref s.heap.objs.size, _, ?_, rfl, q _ (I.hok.fresh (Nat.le_refl _))⟩
  exact I.laid (fun b o e => Heap.get?_push_of_some _ e) (Nat.le_refl _) ⟨_, _, _, Heap.get?_push_size _ rfl⟩
noncomputable def rListRng : List V → Hp → VK → Prop := fun xs H Q => ∃ (p : Addr) (j : Nat), xs = [.ref p] ∧ H p = some (.rng 0 j) ∧ j ≤ 1000 ∧ ∀ l, H l = none → Q (.ref l) (upd H l (.lst ((List.range j).map fun (i : Nat) => V.int (i : Int))))
theorem call_list_rng (hh : X.A.handled = none) : CallR X (.type "list") rListRng := by
  intro pins s σ H xs us Q I r h
  obtain ⟨p, j, rfl, hp, hj, q⟩ := h
  obtain ⟨u, rfl, rx⟩ := vals1 r
  cases rx
  obtain ⟨t, u, v, e⟩ : ∃ t u v, s.heap.get? p = some { cls := .type "range", data := .fields #[.int 0 t, .int (j : Int) u, .int 1 v] } := I.hok p _ hp
  refine call_list_range hh e (small_one (by decide) (by decide) (by omega) (by omega)) (n := j) (by rw [rangeSize_one]; split <;> omega) (by omega) fun h' tk acc c kp hS hI => ?_
  refine ⟨.ref s.heap.objs.size, _, I.laid (o := .lst ((List.range j).map fun (i : Nat) => V.int (i : Int))) kp (Nat.le_refl _) (show _ ∧ _ from ⟨?_, acc.toList, c, ?_, ?_⟩), rfl, q _ (I.hok.fresh (Nat.le_refl _))⟩
  · rw [List.length_map, List.length_range]; exact len2 hj
  · have hl : acc.toList.length = j := by rw [Array.length_toList]; exact hI.1
    have hv : ∀ (i : Nat) v, acc.toList[i]? = some v → ∃ t, v = Value.int (i : Int) t := fun i v hv => by
      obtain ⟨t, h⟩ := hI.2 i v (by rw [← hv, Array.getElem?_toList])
      exact ⟨t, by rw [h]; congr 1; omega⟩
    generalize acc.toList = us at hl hv
    subst hl
    have key : ∀ (us : List Value) (k : Nat), (∀ (i : Nat) v, us[i]? = some v → ∃ t, v = Value.int ((k + i : Nat) : Int) t) → Vals ((List.range' k us.length).map fun (i : Nat) => V.int (i : Int)) us := by
      intro us
      induction us with
      | nil => intro k _; exact .nil
      | cons u us ih =>
        intro k h
        obtain ⟨t, rfl⟩ := h 0 u rfl
        refine .cons ⟨t, rfl⟩ (ih (k + 1) fun i v e => ?_)
        obtain ⟨t, e⟩ := h (i + 1) v e
        exact ⟨t, by rw [e]; congr 1; omega⟩
    have := key us 0 (fun i v e => by obtain ⟨t, h⟩ := hv i v e; exact ⟨t, by rw [h]; congr 1; omega⟩)
    rwa [← List.range_eq_range'] at this
  · rw [Array.toArray_toList]; exact hS
variable {K : PySem.W.Frag}
theorem ix_listK (K : PySem.W.Frag) (hK : X.K = K) : IxR X (rIxL K) := hK ▸ ix_list
theorem ix_tupK (K : PySem.W.Frag) (hK : X.K = K) : IxR X (rIxT K) := hK ▸ ix_tup
theorem sl_listK (K : PySem.W.Frag) (hK : X.K = K) : SlR X (rSlL K) := hK ▸ sl_list
theorem sl_tupK (K : PySem.W.Frag) (hK : X.K = K) : SlR X (rSlT K) := hK ▸ sl_tup
theorem len_seqK (K : PySem.W.Frag) (hK : X.K = K) : CallR X (.builtin "len") (fun xs H Q => ∃ p ys, xs = [.ref p] ∧ (SqL K H p ys ∨ SqT K H p ys) ∧ Q (.int ys.length) H) := hK ▸ call_len_seq
theorem list_ofK (K : PySem.W.Frag) (hK : X.K = K) : CallR X (.type "list") (fun xs H Q => ∃ p ys, xs = [.ref p] ∧ (SqL K H p ys ∨ SqT K H p ys) ∧ ∀ l, H l = none → Q (.ref l) (upd H l (.lst ys))) := hK ▸ call_list_of
theorem pi_listK (K : PySem.W.Frag) (hK : X.K = K) {tg l : Expr} {tl : TE} (hl : PE X l tl) : PI X tg l (iList K tl) := hK ▸ pi_list hl
theorem pg_tupK (K : PySem.W.Frag) (hK : X.K = K) {es : List Expr} {pos : Pos} {k : Nat} {t : TGs} {n : Nat} (hc : X.calm = true) (h : PGs X es t)
    (hn : (assignEach es X.env).length = n := by rfl) (hst : (assignEach es X.env).findIdx? (·.1) = none := by rfl) : PG X (.Tuple es k pos) (gTup K n t) := hK ▸ pg_tup hc h hn hst
theorem pe_bmK (K : PySem.W.Frag) (hK : X.K = K) {T : String} {name : Str} {id : String} {r : V → List V → Hp → VK → Prop} {o e : Expr} {es : List Expr} {to : TE} {t : TA} {apos cpos : Pos} (pa : PlainAttrs T) (slot : Slot T name id) (hty : typeOf (.builtin id) = pure (.type "method_descriptor")) (hm : MtR X id r) (ho : PE X o to) (ha : PA X (e :: es) t)
    (hbase : attributeBase o name X.env (eval o X.env) = eval o X.env := by rfl)
    (hfew : ((backTo cpos (starEach (e :: es) X.env)).all (fun x => !x.1) && (backToKw cpos (keywordEach [] X.env)).all (fun x => x.1.isSome)
      && decide ((e :: es).length + ([] : List Keyword).length + (if ([] : List Keyword).isEmpty then 0 else 1) < 30)) = true := by rfl)
    (hline : (apos.endLine == cpos.line) = true := by rfl) (hs : starEach (e :: es) X.env = (false, eval e X.env) :: starEach es X.env := by rfl) (hplain : (backTo cpos (starEach es X.env)).any (·.1) = false := by rfl) :
    PE X (.Call (.Attribute o name apos) (e :: es) [] cpos) (tBM K T r to t) := hK ▸ pe_bm pa slot hty hm ho ha hbase hfew hline hs hplain
theorem seq_ix {j n : Nat} (h : j < n) : seqIndex? (j : Int) n = some j := by
  show (if (decide (0 ≤ if (j : Int) < 0 then (j : Int) + n else j) && decide ((if (j : Int) < 0 then (j : Int) + n else j) < n)) = true then some (if (j : Int) < 0 then (j : Int) + n else (j : Int)).toNat else none) = some j
  have e : (if (j : Int) < 0 then (j : Int) + n else (j : Int)) = j := if_neg (by omega)
  rw [e, decide_eq_true (show (0 : Int) ≤ j by omega), decide_eq_true (show (j : Int) < n by omega)]
  rfl
theorem map_erase {α β : Type} {f : α → β} : ∀ (l : List α) (n : Nat), (l.eraseIdx n).map f = (l.map f).eraseIdx n
  | [], _ => rfl
  | _ :: _, 0 => rfl
  | a :: l, n + 1 => congrArg (f a :: ·) (map_erase l n)
end
end L2
namespace L2
open PySem PySem.Spec PyProof.Rows
theorem endD_is {ns : List Int} (h : ns.length ≤ 2) : ∃ w : Str, endD ns = .tuple (.str w :: ns.map .int) := by
  match ns, h with
  | [], _ => exact ⟨_, rfl⟩
  | [x], _ => exact ⟨_, rfl⟩
  | [x, y], _ => exact ⟨_, rfl⟩
theorem Ext.toSame {H H' : Hp} (e : Ext [] H H') : Same H H' := fun b o h => e b o (by simp) h
end L2
set_option maxHeartbeats 1000000
namespace Fs
open PySem L2
section
variable {P : Program} {w : World} {K : PySem.W.Frag} {mg : Str → Option Value} {base : Heap}
theorem nexts_tail {D : Ends} {σ : St} {H5 : Hp} {l d p : Addr} {vs : List V} {kvs : List (Key × V)} {ns : List Int} (h2 : σ[2]? = some (some (.ref l))) (h3 : σ[3]? = some (some (.ref d))) (h7 : σ[7]? = some (some (.ref p))) (hl : H5 l = some (.lst vs)) (hd : H5 d = some (.dK kvs))
    (hp : H5 p = some (.lst (ns.map V.int))) (hz : vs.length < 1000) (hz2 : kvs.length ≤ 900) (hn : ns.length ≤ 2) (npl : p ≠ l) (q : ∀ H6 kvs', H6 l = some (.lst (vs ++ [.ref p])) → H6 d = some (.dK kvs') → kvs'.length ≤ kvs.length + 2 → Ext [l, d] H5 H6 → D.nx σ H6) :
    tSeq (tDrop (tBM K "list" rAppend (tVar 2) (tCons (tVar 7) tNil))) (tDrop (tBM K "dict" rUpdate (tVar 3) (tCons (tComp ["_law_one"] [] (.lst []) (iList K (tVar 7)) (gName 0) [] (eApp (tTup (tCons (tVar 0) (tCons (tC (.bl true)) tNil))))) tNil))) D σ H5 := by
  have nld : l ≠ d := ne_of hl hd (by intro z; cases z)
  have npd : p ≠ d := ne_of hp hd (by intro z; cases z)
  refine r_seq (r_drop (r_bm (r_var h2 (r_tyL hl (r_cons (r_var h7 (r_nil (r_app hl (small1000 (by omega)) ?_))))))))
  generalize hH6 : upd H5 l (.lst (vs ++ [.ref p])) = H6
  have l6 : H6 l = some (.lst (vs ++ [.ref p])) := by rw [← hH6, upd_same]
  have d6 : H6 d = some (.dK kvs) := by rw [← hH6, upd_ne nld.symm]; exact hd
  have p6 : H6 p = some (.lst (ns.map V.int)) := by rw [← hH6, upd_ne npl]; exact hp
  have e6 : Ext [l, d] H5 H6 := by rw [← hH6]; exact .put (by simp)
  refine r_drop (r_bm (r_var h3 (r_tyD d6 (r_cons (r_comp (r_ilist (r_var h7 ⟨p, rfl, ⟨_, SqL.of p6⟩, fun l2 hl2 => ?_⟩)))))))
  have n2p : p ≠ l2 := ne_of_none p6 hl2
  refine loop_list (xs := ns.map V.int) (fun j σ' H' => (∃ o, σ' = [o]) ∧ Ext [l2] H6 H' ∧ ∃ items, H' l2 = some (.lst items) ∧ PairsAt H' items ((ns.take j).map fun n => ((Sum.inl n : Key), V.bl true)))
    ⟨⟨none, rfl⟩, .laid hl2, [], upd_same, .nil⟩ (fun j σ' H' _ ⟨_, e, _⟩ => SqL.of (e _ _ (by simpa using n2p) p6)) ?_ ?_
  · rintro j x σ' H' R hx ⟨⟨o, rfl⟩, e, items, hi, pr⟩ hR
    obtain ⟨n, hnj, rfl⟩ : ∃ n, ns[j]? = some n ∧ x = V.int n := by
      rw [List.getElem?_map] at hx
      cases z : ns[j]? with
      | none => rw [z] at hx; cases hx
      | some n => rw [z] at hx; exact ⟨n, rfl, (Option.some.inj hx).symm⟩
    walk_at "rd"
    refine iteT ?_
    walk_at "rd"
    refine ⟨len2 (by show 2 ≤ 1000; decide), fun p2 hp2 => ?_⟩
    have n22 : l2 ≠ p2 := ne_of_none hi hp2
    have hlen : items.length ≤ 2 := by
      have := Paired.length pr
      rw [List.length_map, List.length_take] at this
      omega
    refine ⟨items, by rw [upd_ne n22]; exact hi, small1000 (by omega), hR _ _ ⟨⟨_, rfl⟩, ?_, items ++ [.ref p2], upd_same, ?_⟩⟩
    · exact e.trans ((Ext.laid hp2).trans (.put (by simp)))
    · have hj : (ns.take (j + 1)) = ns.take j ++ [n] := by rw [List.take_add_one, hnj]; rfl
      rw [hj, List.map_append]
      refine Paired.snoc (PairsAt.mono (fun b ys e => ?_) pr) ⟨p2, rfl, ?_⟩
      · rw [upd_ne (ne_of e hi (by intro z; cases z)), upd_ne (ne_of_none e hp2)]; exact e
      · rw [upd_ne n22.symm, upd_same]; rfl
  · rintro σ' H' ⟨_, e, items, hi, pr⟩
    rw [List.length_map, List.take_length] at pr
    have n2d : d ≠ l2 := ne_of_none d6 hl2
    have n2l : l ≠ l2 := ne_of_none l6 hl2
    have hmore := Paired.length pr
    rw [List.length_map] at hmore
    refine r_nil ⟨d, l2, kvs, items, _, rfl, rfl, e _ _ (by simpa using n2d) d6, hi, pr, len2 (by rw [List.length_map]; omega), ?_⟩
    have hml := length_mergeK (ns.map fun n => ((Sum.inl n : Key), V.bl true)) kvs
    rw [List.length_map] at hml
    refine q _ _ (by rw [upd_ne nld]; exact e _ _ (by simpa using n2l) l6) upd_same (by omega) ?_
    exact e6.trans (((e.drop hl2).mono (by simp)).trans (.put (by simp)))
noncomputable abbrev sNexts : Stmt := top 19
theorem scNexts : FnScope ["_law_tape_here", "_law_many_here", "_law_found", "_law_led", "_law_k", "_law_way", "_law_other", "_law_some"] ["_law_tape_here", "_law_many_here"] (defScope sNexts) := ⟨rfl, rfl, rfl, by decide +kernel, rfl, by decide +kernel, by decide +kernel⟩
theorem ok_nexts {f : Addr} {fd : FuncData} (F : Fun K "_law_nexts" "_law_nexts" sNexts f fd) (nrange : mg "range" = none) (nmax : mg "max" = none) (hD : Has P w K mg base "_law_draw" 1 ["_law_tape_here", "_law_many_here"] spDraw) : FnOk P w K mg base CX0 2 f fd ["_law_tape_here", "_law_many_here"] (spNexts K) := by
  refine F.ok scNexts (fun vs H Q E h => ?_) (fun cdv A outer s H vs Q E hr h => ?_)
  · obtain ⟨t, k, m, rfl, _⟩ := h
    rfl
  · obtain ⟨t, k, m, rfl, hT, hk, hm1, hm2, q⟩ := h
    have hu := hu_of hr
    refine ⟨_, pss_cons (ps_par (i := 2) (j := 3) rfl scNexts.nd rfl rfl (by decide) rfl rfl (pa_cons (pe_lst pa_nil) (pa_cons pe_dnewK pa_nil)) rfl)
      (pss_cons (ps_for PassesOwn.never rfl (pi_range1 rfl nrange (pa_cons (pv 1) pa_nil)) (pg_name (i := 4) scNexts.nd rfl (Or.inl rfl))
        (pss_cons (ps_set (i := 5) scNexts.nd rfl (Or.inl rfl) (pe_fn hD hr (Nat.le_refl _) (pa_cons (pv 0) (pa_cons pe_int pa_nil))))
        (pss_cons (ps_set (i := 6) scNexts.nd rfl (Or.inl rfl) (pe_op op_add pe_int (pe_fn hD hr (Nat.le_refl _) (pa_cons (pv 0) (pa_cons (pe_callB (call_max2 rfl) (by rfl) nmax PyProof.Rows.boot_max (pa_cons pe_int (pa_cons (pe_op op_sub (pv 1) pe_int) pa_nil))) pa_nil)))))
        (pss_cons (ps_set (i := 7) scNexts.nd rfl (Or.inl rfl) (pe_ix ix_list (pe_lst (pa_cons (pe_lst (pa_cons (pe_op op_add (pv 4) pe_int) (pa_cons (pv 6) pa_nil))) (pa_cons (pe_lst (pa_cons (pv 6) (pa_cons (pe_op op_add (pv 4) pe_int) pa_nil))) pa_nil))) (pe_op op_mod (pv 5) pe_int) (fun _ _ => rfl)))
        (pss_cons (ps_if (pt_cmpR op_eq (pe_op op_add (pv 4) pe_int) (pv 1) (nomark _))
            (pss_one (ps_set (i := 7) scNexts.nd rfl (Or.inl rfl) (pe_ifExp (pw_and (pt_cmpR op_eq (pv 5) pe_int (nomark _)) (pw_and1 (pt_cmpR op_gt (pv 1) pe_int (nomark _)))).pt (pe_lst (pa_cons (pv 6) pa_nil)) (pe_lst pa_nil))))
            (pss_one (ps_if (pw_and (pt_cmp (pc_din hu (pe_op op_add (pv 4) pe_int) (pv 3))) (pw_and1 (pt_cmpR op_lt (pv 5) pe_int (nomark _)))).pt
              (pss_one (ps_set (i := 7) scNexts.nd rfl (Or.inl rfl) (pe_ifExp (pt_cmpR op_eq (pv 5) pe_int (nomark _)) (pe_lst (pa_cons (pv 6) pa_nil)) (pe_lst pa_nil))))
              (pss_one (ps_if (pw_or (pt_cmpR op_lt (pv 5) pe_int (nomark _)) (pw_or1 (pt_cmpR op_eq (pv 6) (pe_op op_add (pv 4) pe_int) (nomark _)))).pt
                (pss_one (ps_set (i := 7) scNexts.nd rfl (Or.inl rfl) (pe_lst (pa_cons (pe_op op_add (pv 4) pe_int) pa_nil)))) pss_nil)))))
        (pss_cons (ps_expr (pe_bm PySem.F.plainAttrs_list PySem.F.slot_list_append PySem.F.type_list_append mt_append (pv 2) (pa_cons (pv 7) pa_nil)))
        (pss_one (ps_expr (pe_bm PySem.F.plainAttrs_dict PySem.F.slot_dict_update PySem.F.type_dict_update (mt_update rfl) (pv 3)
          (pa_cons (pe_lc ["_law_one"] [] rfl (.of rfl) (pi_list (pv 7)) (fun _ _ _ _ => pg_name (i := 0) (by show ((["_law_one"] : List Str)).Nodup; decide) rfl (Or.inl rfl)) (fun _ _ _ _ => .nil) (fun _ _ _ _ => pe_tup (pa_cons (pv 0) (pa_cons pe_bl pa_nil)))) pa_nil))))))))))
      (pss_one (ps_ret (pv 2)))), ?_⟩
    dsimp only [nox_K, comp_K]
    walk_at "rd"
    refine ⟨len2 (Nat.zero_le _), fun l hl => ?_⟩
    have nlt : l ≠ t := hT.ne hl
    walk_at "rd"
    refine r_dnewK fun d hd => ?_
    have nld : l ≠ d := fun z => by rw [← z, upd_same] at hd; cases hd
    rw [upd_ne nld.symm] at hd
    have ndt : d ≠ t := hT.ne hd
    walk_at "rd"
    refine ⟨_, _, rfl, ?_⟩
    walk_at "rd"
    refine ⟨m, rfl, by omega, by omega, for_rangeN (lo := 0) (n := m.toNat) (fun i σ' H' => ∃ (nx : List (List Int)) (vs : List V) (kvs : List (Key × V)) (o4 o5 o6 o7 : Option V), σ' = [some (.ref t), some (.int m), some (.ref l), some (.ref d), o4, o5, o6, o7] ∧ nx.length = i ∧ (∀ ns ∈ nx, NsOk m ns) ∧
      Tape H' t (k + 2 * i) ∧ Ext [t] H H' ∧ H' l = some (.lst vs) ∧ DenL K (yo H [t, l, d] H') (nx.map intsD) vs ∧ H' d = some (.dK kvs) ∧ kvs.length ≤ 2 * i) ?_ ?_ ?_⟩
    · refine ⟨[], [], [], none, none, none, none, rfl, rfl, (fun _ h => absurd h (by simp)), ?_, ?_, ?_, .nil, upd_same, Nat.le_refl _⟩
      · exact (hT.ext (ts := []) ((Ext.laid hl).trans (.laid (by rw [upd_ne nld.symm]; exact hd))) (by simp)).mono (by omega)
      · exact (Ext.laid hl).trans (.laid (by rw [upd_ne nld.symm]; exact hd))
      · rw [upd_ne nld, upd_same]
    · rintro i σ' H' hi ⟨nx, vs, kvs, o4, o5, o6, o7, rfl, hnl, hnx, hT', e', hl', hden, hd', hkl⟩ N_ B_ C_ R_ hN_ hC_ hR_
      have hvl : vs.length = i := by rw [hden.len, List.length_map, hnl]
      walk_at "rd"
      refine r_draw hT' (by omega) (by decide) (by decide) fun r1 H1 a1 b1 T1 e1 k1 => ?_
      walk_at "rd"
      refine ⟨_, _, rfl, ?_⟩
      walk_at "rd"
      refine r_draw T1 (by omega) (by split <;> omega) (by split <;> omega) fun r2 H2 a2 b2 T2 e2 k2 => ?_
      have l2 : H2 l = some (.lst vs) := by rw [k2 l nlt, k1 l nlt]; exact hl'
      have d2 : H2 d = some (.dK kvs) := by rw [k2 d ndt, k1 d ndt]; exact hd'
      have den2 : DenL K (yo H [t, l, d] H2) (nx.map intsD) vs := hden.mono ((e1.trans e2).mono (by simp)).young
      walk_at "rd"
      refine ⟨len2 (by show 2 ≤ 1000; decide), fun p1 hp1 => ?_⟩
      walk_at "rd"
      refine ⟨len2 (by show 2 ≤ 1000; decide), fun p2 hp2 => ?_⟩
      walk_at "rd"
      refine ⟨len2 (by show 2 ≤ 1000; decide), fun p3 hp3 => ?_⟩
      have n12 : p1 ≠ p2 := ne_of_none upd_same hp2
      have n23 : p2 ≠ p3 := ne_of_none upd_same hp3
      have n13 : p1 ≠ p3 := ne_of_none (by rw [upd_ne n12, upd_same]) hp3
      generalize hH5 : upd (upd (upd H2 p1 (HO.lst [V.int (0 + ↑i + 1), V.int (1 + r2)])) p2 (HO.lst [V.int (1 + r2), V.int (0 + ↑i + 1)])) p3 (HO.lst [V.ref p1, V.ref p2]) = H5
      have hp2' : H2 p2 = none := by rw [upd_ne n12.symm] at hp2; exact hp2
      have e5 : Ext [] H2 H5 := by
        rw [← hH5]
        exact (Ext.laid hp1).trans ((Ext.laid hp2).trans (.laid hp3))
      have q1 : H5 p1 = some (.lst ([0 + (i : Int) + 1, 1 + r2].map V.int)) := by rw [← hH5, upd_ne n13, upd_ne n12, upd_same]; rfl
      have q2 : H5 p2 = some (.lst ([1 + r2, 0 + (i : Int) + 1].map V.int)) := by rw [← hH5, upd_ne n23, upd_same]; rfl
      have q3 : SqL K H5 p3 [V.ref p1, V.ref p2] := SqL.of (by rw [← hH5, upd_same])
      have fr : ∀ p, H2 p = none → p ≠ t ∧ p ≠ l ∧ p ≠ d := fun p hp => ⟨T2.ne hp, (ne_of_none l2 hp).symm, (ne_of_none d2 hp).symm⟩
      have fin : ∀ (p : Addr) (ns : List Int) (H6 : Hp), Ext [] H5 H6 → H6 p = some (.lst (ns.map V.int)) → H2 p = none → NsOk m ns → ∀ (H7 : Hp) (kvs' : List (Key × V)), H7 l = some (.lst (vs ++ [.ref p])) → H7 d = some (.dK kvs') → kvs'.length ≤ kvs.length + 2 → Ext [l, d] H6 H7 → ∀ o4 o5 o6 o7 : Option V,
          ∃ (nx : List (List Int)) (vs : List V) (kvs : List (Key × V)) (p4 p5 p6 p7 : Option V), [some (V.ref t), some (.int m), some (.ref l), some (.ref d), o4, o5, o6, o7] = [some (.ref t), some (.int m), some (.ref l), some (.ref d), p4, p5, p6, p7] ∧ nx.length = i + 1 ∧ (∀ ns ∈ nx, NsOk m ns) ∧
            Tape H7 t (k + 2 * (i + 1)) ∧ Ext [t] H H7 ∧ H7 l = some (.lst vs) ∧ DenL K (yo H [t, l, d] H7) (nx.map intsD) vs ∧ H7 d = some (.dK kvs) ∧ kvs.length ≤ 2 * (i + 1) := by
        intro p ns H6 e6 hp hn hns H7 kvs' l7 d7 hk7 e7 o4 o5 o6 o7
        obtain ⟨npt, npl, npd⟩ := fr p hn
        have e27 : Ext [l, d] H2 H7 := ((e5.trans e6).mono (by simp)).trans e7
        refine ⟨nx ++ [ns], vs ++ [.ref p], kvs', o4, o5, o6, o7, rfl, by rw [List.length_append, hnl]; rfl, fun z hz => ?_, ?_, ?_, l7, ?_, d7, by omega⟩
        · rcases List.mem_append.mp hz with y | y
          · exact hnx z y
          · rw [List.mem_singleton.mp y]; exact hns
        · exact (T2.ext e27 (by simp [nlt.symm, ndt.symm])).mono (by omega)
        · have E7 : Ext [l, d, t] H H7 := (e'.mono (by simp)).trans (((e1.trans e2).mono (by simp)).trans (e27.mono (by simp)))
          exact (E7.drop hl).drop hd
        · rw [List.map_append]
          refine DenL.append (den2.mono (e27.mono (by simp)).young) (.cons (.list (SqL.of ?_) (DenL.ofInts ns)) .nil)
          rw [yo_out ((e'.trans (e1.trans e2)).none (by simpa using npt) hn) (by simp [npt, npl, npd])]
          exact e7 _ _ (by simp [npl, npd]) hp
      have hr2 : 1 + r2 ≤ 1 ∨ 1 + r2 ≤ m - 1 := by
        by_cases c : m - 1 > 1
        · rw [if_pos c] at b2; omega
        · rw [if_neg c] at b2; omega
      have l5 := e5 _ _ (by simp) l2
      have d5 := e5 _ _ (by simp) d2
      obtain ⟨p0, ns0, h0, hp0, hn0, hat⟩ : ∃ p0 ns0, H5 p0 = some (.lst (ns0.map V.int)) ∧ H2 p0 = none ∧ (ns0 = [0 + (i : Int) + 1, 1 + r2] ∨ ns0 = [1 + r2, 0 + (i : Int) + 1]) ∧ atI [V.ref p1, V.ref p2] (r1 % 2) = some (.ref p0) := by
        have hm := Int.emod_two_eq r1
        rcases hm with c | c
        · exact ⟨p1, _, q1, hp1, .inl rfl, by rw [c]; rfl⟩
        · exact ⟨p2, _, q2, hp2', .inr rfl, by rw [c]; rfl⟩
      walk_at "rd"
      refine r_mod (by decide) (r_ixL q3 hat ?_)
      walk_at "rd"
      refine r_eqI ?_
      walk_at "rd"
      have nsl : ∀ {ns}, NsOk m ns → ns.length ≤ 2 := by
        rintro ns (h | ⟨x, h, _⟩ | ⟨x, y, h, _⟩) <;> subst h <;> simp
      refine ite2 (fun g => ?_) (fun g => ?_)
      · have g := of_decide_eq_true g
        walk_at "rd"
        refine r_eqI ?_
        walk_at "rd"
        refine ite2 (fun g2 => ?_) (fun g2 => ?_)
        · walk_at "rd"
          refine ite2 (fun g3 => ?_) (fun g3 => ?_)
          · have g3 := of_decide_eq_true g3
            walk_at "rd"
            refine ⟨len2 (by first | exact Nat.zero_le _ | (show 1 ≤ 1000; decide)), fun p hp => ?_⟩
            have hf : H2 p = none := by
              cases z : H2 p with
              | none => rfl
              | some o => rw [e5 _ _ (by simp) z] at hp; cases hp
            have e6 : Ext [] H5 (upd H5 p (.lst (([1 + r2] : List Int).map V.int))) := .laid hp
            have hns : NsOk m [1 + r2] := (.inr (.inl ⟨_, rfl, by omega, by omega⟩))
            obtain ⟨_, npl, _⟩ := fr p hf
            refine r_gn ?_
            refine nexts_tail (l := l) (d := d) (p := p) (ns := [1 + r2]) rfl rfl rfl (e6 _ _ (by simp) l5) (e6 _ _ (by simp) d5) upd_same (by omega) (by omega) (nsl hns) npl ?_
            exact fun H7 kvs' l7 d7 hk7 e7 => hN_ _ _ <| fin p [1 + r2] _ e6 upd_same hf hns H7 kvs' l7 d7 hk7 e7 _ _ _ _
          · walk_at "rd"
            refine ⟨len2 (by first | exact Nat.zero_le _ | (show 1 ≤ 1000; decide)), fun p hp => ?_⟩
            have hf : H2 p = none := by
              cases z : H2 p with
              | none => rfl
              | some o => rw [e5 _ _ (by simp) z] at hp; cases hp
            have e6 : Ext [] H5 (upd H5 p (.lst (([] : List Int).map V.int))) := .laid hp
            have hns : NsOk m [] := (.inl rfl)
            obtain ⟨_, npl, _⟩ := fr p hf
            refine r_gn ?_
            refine nexts_tail (l := l) (d := d) (p := p) (ns := []) rfl rfl rfl (e6 _ _ (by simp) l5) (e6 _ _ (by simp) d5) upd_same (by omega) (by omega) (nsl hns) npl ?_
            exact fun H7 kvs' l7 d7 hk7 e7 => hN_ _ _ <| fin p [] _ e6 upd_same hf hns H7 kvs' l7 d7 hk7 e7 _ _ _ _
        · refine iteF ?_
          walk_at "rd"
          refine ⟨len2 (by first | exact Nat.zero_le _ | (show 1 ≤ 1000; decide)), fun p hp => ?_⟩
          have hf : H2 p = none := by
            cases z : H2 p with
            | none => rfl
            | some o => rw [e5 _ _ (by simp) z] at hp; cases hp
          have e6 : Ext [] H5 (upd H5 p (.lst (([] : List Int).map V.int))) := .laid hp
          have hns : NsOk m [] := (.inl rfl)
          obtain ⟨_, npl, _⟩ := fr p hf
          refine r_gn ?_
          refine nexts_tail (l := l) (d := d) (p := p) (ns := []) rfl rfl rfl (e6 _ _ (by simp) l5) (e6 _ _ (by simp) d5) upd_same (by omega) (by omega) (nsl hns) npl ?_
          exact fun H7 kvs' l7 d7 hk7 e7 => hN_ _ _ <| fin p [] _ e6 upd_same hf hns H7 kvs' l7 d7 hk7 e7 _ _ _ _
      · have g : ¬ (0 + (i : Int) + 1 = m) := fun z => g (decide_eq_true z)
        walk_at "rd"
        refine ⟨d, _, rfl, DGet.k (k := Sum.inl _) d5, ?_⟩
        refine r_bl ?_
        refine ite2 (fun g2 => ?_) (fun g2 => ?_)
        · walk_at "rd"
          refine ite2 (fun g3 => ?_) (fun g3 => ?_)
          · walk_at "rd"
            refine r_eqI ?_
            walk_at "rd"
            refine ite2 (fun g4 => ?_) (fun g4 => ?_)
            · walk_at "rd"
              refine ⟨len2 (by first | exact Nat.zero_le _ | (show 1 ≤ 1000; decide)), fun p hp => ?_⟩
              have hf : H2 p = none := by
                cases z : H2 p with
                | none => rfl
                | some o => rw [e5 _ _ (by simp) z] at hp; cases hp
              have e6 : Ext [] H5 (upd H5 p (.lst (([1 + r2] : List Int).map V.int))) := .laid hp
              have hns : NsOk m [1 + r2] := (.inr (.inl ⟨_, rfl, by omega, by omega⟩))
              obtain ⟨_, npl, _⟩ := fr p hf
              refine r_gn ?_
              refine nexts_tail (l := l) (d := d) (p := p) (ns := [1 + r2]) rfl rfl rfl (e6 _ _ (by simp) l5) (e6 _ _ (by simp) d5) upd_same (by omega) (by omega) (nsl hns) npl ?_
              exact fun H7 kvs' l7 d7 hk7 e7 => hN_ _ _ <| fin p [1 + r2] _ e6 upd_same hf hns H7 kvs' l7 d7 hk7 e7 _ _ _ _
            · walk_at "rd"
              refine ⟨len2 (by first | exact Nat.zero_le _ | (show 1 ≤ 1000; decide)), fun p hp => ?_⟩
              have hf : H2 p = none := by
                cases z : H2 p with
                | none => rfl
                | some o => rw [e5 _ _ (by simp) z] at hp; cases hp
              have e6 : Ext [] H5 (upd H5 p (.lst (([] : List Int).map V.int))) := .laid hp
              have hns : NsOk m [] := (.inl rfl)
              obtain ⟨_, npl, _⟩ := fr p hf
              refine r_gn ?_
              refine nexts_tail (l := l) (d := d) (p := p) (ns := []) rfl rfl rfl (e6 _ _ (by simp) l5) (e6 _ _ (by simp) d5) upd_same (by omega) (by omega) (nsl hns) npl ?_
              exact fun H7 kvs' l7 d7 hk7 e7 => hN_ _ _ <| fin p [] _ e6 upd_same hf hns H7 kvs' l7 d7 hk7 e7 _ _ _ _
          · walk_at "rd"
            refine ite2 (fun g5 => ?_) (fun g5 => ?_)
            · refine iteT ?_
              walk_at "rd"
              refine ⟨len2 (by first | exact Nat.zero_le _ | (show 1 ≤ 1000; decide)), fun p hp => ?_⟩
              have hf : H2 p = none := by
                cases z : H2 p with
                | none => rfl
                | some o => rw [e5 _ _ (by simp) z] at hp; cases hp
              have e6 : Ext [] H5 (upd H5 p (.lst (([0 + (i : Int) + 1] : List Int).map V.int))) := .laid hp
              have hns : NsOk m [0 + (i : Int) + 1] := (.inr (.inl ⟨_, rfl, by omega, by omega⟩))
              obtain ⟨_, npl, _⟩ := fr p hf
              refine r_gn ?_
              refine nexts_tail (l := l) (d := d) (p := p) (ns := [0 + (i : Int) + 1]) rfl rfl rfl (e6 _ _ (by simp) l5) (e6 _ _ (by simp) d5) upd_same (by omega) (by omega) (nsl hns) npl ?_
              exact fun H7 kvs' l7 d7 hk7 e7 => hN_ _ _ <| fin p [0 + (i : Int) + 1] _ e6 upd_same hf hns H7 kvs' l7 d7 hk7 e7 _ _ _ _
            · walk_at "rd"
              refine r_eqI ?_
              walk_at "rd"
              refine ite2 (fun g6 => ?_) (fun g6 => ?_)
              · walk_at "rd"
                refine ⟨len2 (by first | exact Nat.zero_le _ | (show 1 ≤ 1000; decide)), fun p hp => ?_⟩
                have hf : H2 p = none := by
                  cases z : H2 p with
                  | none => rfl
                  | some o => rw [e5 _ _ (by simp) z] at hp; cases hp
                have e6 : Ext [] H5 (upd H5 p (.lst (([0 + (i : Int) + 1] : List Int).map V.int))) := .laid hp
                have hns : NsOk m [0 + (i : Int) + 1] := (.inr (.inl ⟨_, rfl, by omega, by omega⟩))
                obtain ⟨_, npl, _⟩ := fr p hf
                refine r_gn ?_
                refine nexts_tail (l := l) (d := d) (p := p) (ns := [0 + (i : Int) + 1]) rfl rfl rfl (e6 _ _ (by simp) l5) (e6 _ _ (by simp) d5) upd_same (by omega) (by omega) (nsl hns) npl ?_
                exact fun H7 kvs' l7 d7 hk7 e7 => hN_ _ _ <| fin p [0 + (i : Int) + 1] _ e6 upd_same hf hns H7 kvs' l7 d7 hk7 e7 _ _ _ _
              · have g6 : ¬ (1 + r2 = 0 + (i : Int) + 1) := fun z => g6 (decide_eq_true z)
                obtain ⟨_, npl, _⟩ := fr p0 hp0
                have hns : NsOk m ns0 := by
                  rcases hn0 with h | h
                  · exact .inr (.inr ⟨_, _, h, by omega, by omega, by omega, by omega, by omega⟩)
                  · exact .inr (.inr ⟨_, _, h, by omega, by omega, by omega, by omega, by omega⟩)
                refine r_next ?_
                refine nexts_tail (l := l) (d := d) (p := p0) (ns := ns0) rfl rfl rfl l5 d5 h0 (by omega) (by omega) (nsl hns) npl ?_
                exact fun H7 kvs' l7 d7 hk7 e7 => hN_ _ _ <| fin p0 ns0 _ (fun _ _ _ h => h) h0 hp0 hns H7 kvs' l7 d7 hk7 e7 _ _ _ _
        · refine iteF ?_
          walk_at "rd"
          refine ite2 (fun g5 => ?_) (fun g5 => ?_)
          · refine iteT ?_
            walk_at "rd"
            refine ⟨len2 (by first | exact Nat.zero_le _ | (show 1 ≤ 1000; decide)), fun p hp => ?_⟩
            have hf : H2 p = none := by
              cases z : H2 p with
              | none => rfl
              | some o => rw [e5 _ _ (by simp) z] at hp; cases hp
            have e6 : Ext [] H5 (upd H5 p (.lst (([0 + (i : Int) + 1] : List Int).map V.int))) := .laid hp
            have hns : NsOk m [0 + (i : Int) + 1] := (.inr (.inl ⟨_, rfl, by omega, by omega⟩))
            obtain ⟨_, npl, _⟩ := fr p hf
            refine r_gn ?_
            refine nexts_tail (l := l) (d := d) (p := p) (ns := [0 + (i : Int) + 1]) rfl rfl rfl (e6 _ _ (by simp) l5) (e6 _ _ (by simp) d5) upd_same (by omega) (by omega) (nsl hns) npl ?_
            exact fun H7 kvs' l7 d7 hk7 e7 => hN_ _ _ <| fin p [0 + (i : Int) + 1] _ e6 upd_same hf hns H7 kvs' l7 d7 hk7 e7 _ _ _ _
          · walk_at "rd"
            refine r_eqI ?_
            walk_at "rd"
            refine ite2 (fun g6 => ?_) (fun g6 => ?_)
            · walk_at "rd"
              refine ⟨len2 (by first | exact Nat.zero_le _ | (show 1 ≤ 1000; decide)), fun p hp => ?_⟩
              have hf : H2 p = none := by
                cases z : H2 p with
                | none => rfl
                | some o => rw [e5 _ _ (by simp) z] at hp; cases hp
              have e6 : Ext [] H5 (upd H5 p (.lst (([0 + (i : Int) + 1] : List Int).map V.int))) := .laid hp
              have hns : NsOk m [0 + (i : Int) + 1] := (.inr (.inl ⟨_, rfl, by omega, by omega⟩))
              obtain ⟨_, npl, _⟩ := fr p hf
              refine r_gn ?_
              refine nexts_tail (l := l) (d := d) (p := p) (ns := [0 + (i : Int) + 1]) rfl rfl rfl (e6 _ _ (by simp) l5) (e6 _ _ (by simp) d5) upd_same (by omega) (by omega) (nsl hns) npl ?_
              exact fun H7 kvs' l7 d7 hk7 e7 => hN_ _ _ <| fin p [0 + (i : Int) + 1] _ e6 upd_same hf hns H7 kvs' l7 d7 hk7 e7 _ _ _ _
            · have g6 : ¬ (1 + r2 = 0 + (i : Int) + 1) := fun z => g6 (decide_eq_true z)
              obtain ⟨_, npl, _⟩ := fr p0 hp0
              have hns : NsOk m ns0 := by
                rcases hn0 with h | h
                · exact .inr (.inr ⟨_, _, h, by omega, by omega, by omega, by omega, by omega⟩)
                · exact .inr (.inr ⟨_, _, h, by omega, by omega, by omega, by omega, by omega⟩)
              refine r_next ?_
              refine nexts_tail (l := l) (d := d) (p := p0) (ns := ns0) rfl rfl rfl l5 d5 h0 (by omega) (by omega) (nsl hns) npl ?_
              exact fun H7 kvs' l7 d7 hk7 e7 => hN_ _ _ <| fin p0 ns0 _ (fun _ _ _ h => h) h0 hp0 hns H7 kvs' l7 d7 hk7 e7 _ _ _ _
    · rintro σ' H' ⟨nx, vs, kvs, o4, o5, o6, o7, rfl, hnl, hnx, hT', e', hl', hden, hd', hkl⟩
      walk_at "rd"
      refine q l nx H' hl (hT'.mono (by omega)) e' ⟨by omega, hnx⟩ (.list (SqL.of ?_) (hden.mono (yo_less (by simp))))
      rw [yo_out hl (by simpa using nlt)]; exact hl'
end
end Fs
set_option maxHeartbeats 1000000
namespace L2
open PySem PySem.Spec PyProof.Rows
noncomputable abbrev pairD (p : Int × Int) : PyData := .tuple [.int p.1, .int p.2]
noncomputable abbrev pairsD (ps : List (Int × Int)) : PyData := .list (ps.map pairD)
theorem NsOk.few {m : Int} {ns : List Int} (h : NsOk m ns) : ns.length ≤ 2 := by
  rcases h with h | ⟨x, h, _⟩ | ⟨x, y, h, _⟩ <;> subst h <;> simp
theorem NsOk.range {m : Int} {ns : List Int} (h : NsOk m ns) : ∀ x ∈ ns, 1 ≤ x ∧ x < m := by
  rcases h with h | ⟨x, h, h1, h2⟩ | ⟨x, y, h, _, h1, h2, h3, h4⟩ <;> subst h <;> intro z hz
  · cases hz
  · rw [List.mem_singleton.mp hz]; exact ⟨h1, h2⟩
  · rcases List.mem_cons.mp hz with e | e
    · rw [e]; exact ⟨h1, h2⟩
    · rw [List.mem_singleton.mp e]; exact ⟨h3, h4⟩
theorem notInK {X : Cx} (K : PySem.W.Frag) (hK : X.K = K) : OpR X (compareOp .NotIn) (rIn K true) := hK ▸ op_notIn_seq
theorem inK {X : Cx} (K : PySem.W.Frag) (hK : X.K = K) : OpR X (compareOp .In) (rIn K false) := hK ▸ op_in_seq
theorem eqV_int {a b : Int} : eqV (.int a) (.int b) = decide (a = b) := by
  first | rfl | (unfold eqV; simp)
theorem inV_ints (x : Int) : ∀ ns : List Int, inV (.int x) (ns.map V.int) = decide (x ∈ ns)
  | [] => rfl
  | n :: r => by
    have ih := inV_ints x r
    show (eqV (.int n) (.int x) || inV (.int x) (r.map V.int)) = _
    rw [ih, eqV_int]
    by_cases h1 : n = x
    · subst h1; simp
    · by_cases h2 : x ∈ r
      · simp [h2]
      · simp [h1, h2, Ne.symm h1]
theorem flat_ints : ∀ ns : List Int, (ns.map V.int).all flatV = true
  | [] => rfl
  | _ :: r => flat_ints r
theorem r_ninI {K : PySem.W.Frag} {x : Int} {ns : List Int} {p : Addr} {H : Hp} {Q : VK} (h : SqL K H p (ns.map V.int)) (q : Q (.bl (!decide (x ∈ ns))) H) : rIn K true (.int x) (.ref p) H Q :=
  ⟨p, _, rfl, .inl h, rfl, flat_ints ns, by rw [if_pos rfl, inV_ints]; exact q⟩
theorem small3 {n : Nat} (h : n ≤ 100000) : n < sizeLine := Nat.lt_of_le_of_lt h (by decide)
theorem map_get {α β : Type} {f : α → β} {l : List α} {i : Nat} {y : β} (h : (l.map f)[i]? = some y) : ∃ x, l[i]? = some x ∧ y = f x := by
  rw [List.getElem?_map] at h
  cases z : l[i]? with
  | none => rw [z] at h; cases h
  | some x => rw [z] at h; exact ⟨x, rfl, (Option.some.inj h).symm⟩
theorem take_get {α : Type} {l : List α} {i : Nat} {x : α} (h : l[i]? = some x) : l.take (i + 1) = l.take i ++ [x] := by rw [List.take_add_one, h]; rfl
end L2
set_option maxHeartbeats 1000000
namespace L2
open PySem PySem.Spec PyProof.Rows
noncomputable def nxt (w : List Blk) (i : Int) : List Int := if 0 ≤ i then ((w[i.toNat]?).map Blk.ns).getD [] else []
inductive Reach (nx : Int → List Int) (a : Int) : Int → Prop
  | refl : Reach nx a a
  | step {b c : Int} : Reach nx a b → c ∈ nx b → Reach nx a c
theorem nxt_nat {w : List Blk} {i : Nat} {b : Blk} (h : w[i]? = some b) : nxt w (i : Int) = b.ns := by
  unfold nxt
  rw [if_pos (by omega), Int.toNat_natCast, h]; rfl
theorem nxt_ok {m works : Int} {w : List Blk} (h : WorkOk m works w) (i : Int) : NsOk m (nxt w i) := by
  unfold nxt
  split
  · cases z : w[i.toNat]? with
    | none => exact .inl rfl
    | some b => exact (h.blk b (List.mem_of_getElem? z)).ns
  · exact .inl rfl
theorem Reach.range {m works a x : Int} {w : List Blk} (h : WorkOk m works w) (ha : 0 ≤ a ∧ a < m) (r : Reach (nxt w) a x) : 0 ≤ x ∧ x < m := by
  induction r with
  | refl => exact ha
  | step _ hc _ => have := (nxt_ok h _).range _ hc; omega
noncomputable def cnt (p : Int → Bool) : Nat → Nat
  | 0 => 0
  | m + 1 => cnt p m + (if p (m : Int) = true then 1 else 0)
theorem cnt_le (p : Int → Bool) : ∀ m, cnt p m ≤ m
  | 0 => Nat.le_refl _
  | m + 1 => by
    have := cnt_le p m
    show cnt p m + _ ≤ _
    split <;> omega
theorem cnt_mono {p q : Int → Bool} (h : ∀ i, p i = true → q i = true) : ∀ m, cnt p m ≤ cnt q m
  | 0 => Nat.le_refl _
  | m + 1 => by
    have := cnt_mono h m
    show cnt p m + _ ≤ cnt q m + _
    by_cases hp : p (m : Int) = true
    · rw [if_pos hp, if_pos (h _ hp)]; omega
    · rw [if_neg hp]; omega
theorem cnt_lt {p q : Int → Bool} {x : Int} (h : ∀ i, p i = true → q i = true) (hq : q x = true) (hp : p x = false) : ∀ m : Nat, 0 ≤ x → x < m → cnt p m < cnt q m
  | 0, h0, h1 => by omega
  | m + 1, h0, h1 => by
    show cnt p m + _ < cnt q m + _
    by_cases e : x = (m : Int)
    · subst e
      have := cnt_mono h m
      rw [if_neg (by rw [hp]; decide), if_pos hq]; omega
    · have := cnt_lt h hq hp m h0 (by omega)
      by_cases hp : p (m : Int) = true
      · rw [if_pos hp, if_pos (h _ hp)]; omega
      · rw [if_neg hp]; omega
theorem cnt_all {p : Int → Bool} : ∀ m : Nat, cnt p m = m → ∀ x : Int, 0 ≤ x → x < m → p x = true
  | 0, _, x, h0, h1 => by omega
  | m + 1, h, x, h0, h1 => by
    have hle := cnt_le p m
    have h : cnt p m + (if p (m : Int) = true then 1 else 0) = m + 1 := h
    by_cases hp : p (m : Int) = true
    · rw [if_pos hp] at h
      by_cases e : x = (m : Int)
      · rw [e]; exact hp
      · exact cnt_all m (by omega) x h0 (by omega)
    · rw [if_neg hp] at h; omega
section
variable (nx : Int → List Int) (a : Int)
noncomputable def lay : Nat → List Int × List Int
  | 0 => ([], [a])
  | j + 1 => let f := (lay j).2.flatMap fun b => (nx b).filter fun x => !decide (x ∈ (lay j).1); ((lay j).1 ++ f, f)
variable {nx a}
theorem lay_further {j : Nat} {x : Int} : x ∈ (lay nx a (j + 1)).2 ↔ (∃ b ∈ (lay nx a j).2, x ∈ nx b) ∧ x ∉ (lay nx a j).1 := by
  show x ∈ (lay nx a j).2.flatMap _ ↔ _
  simp only [List.mem_flatMap, List.mem_filter, Bool.not_eq_true', decide_eq_false_iff_not]
  constructor
  · rintro ⟨b, hb, h1, h2⟩; exact ⟨⟨b, hb, h1⟩, h2⟩
  · rintro ⟨⟨b, hb, h1⟩, h2⟩; exact ⟨b, hb, h1, h2⟩
theorem lay_met {j : Nat} : (lay nx a (j + 1)).1 = (lay nx a j).1 ++ (lay nx a (j + 1)).2 := rfl
theorem met_in {x : Int} : ∀ {j : Nat}, x ∈ (lay nx a j).1 → ∃ i, i ≤ j ∧ x ∈ (lay nx a i).2
  | 0, h => absurd h (by simp [lay])
  | j + 1, h => by
    rw [lay_met] at h
    rcases List.mem_append.mp h with h | h
    · obtain ⟨i, hi, e⟩ := met_in h; exact ⟨i, by omega, e⟩
    · exact ⟨j + 1, Nat.le_refl _, h⟩
theorem lay_reach {x : Int} : ∀ {j : Nat}, x ∈ (lay nx a j).2 → Reach nx a x
  | 0, h => by
    have : x = a := by simpa [lay] using h
    rw [this]; exact .refl
  | j + 1, h => by
    obtain ⟨⟨b, hb, h1⟩, _⟩ := lay_further.mp h
    exact .step (lay_reach hb) h1
theorem reach_lay {x : Int} (r : Reach nx a x) : ∃ j, x ∈ (lay nx a j).2 := by
  induction r with
  | refl => exact ⟨0, by simp [lay]⟩
  | @step b c _ hc ih =>
    obtain ⟨j, hj⟩ := ih
    by_cases hm : c ∈ (lay nx a j).1
    · obtain ⟨i, _, e⟩ := met_in hm; exact ⟨i, e⟩
    · exact ⟨j + 1, lay_further.mpr ⟨⟨b, hj, hc⟩, hm⟩⟩
theorem lay_some {j : Nat} (h : (lay nx a (j + 1)).2 ≠ []) : (lay nx a j).2 ≠ [] := by
  intro e
  apply h
  show (lay nx a j).2.flatMap _ = []
  rw [e]; rfl
theorem lay_some' {j : Nat} : ∀ {i : Nat}, (lay nx a (j + i)).2 ≠ [] → (lay nx a j).2 ≠ []
  | 0, h => h
  | i + 1, h => lay_some' (i := i) (lay_some h)
theorem lay_cnt {m : Nat} (hr : ∀ x j, x ∈ (lay nx a j).2 → 0 ≤ x ∧ x < (m : Int)) : ∀ j, (lay nx a j).2 ≠ [] → j ≤ cnt (fun x => decide (x ∈ (lay nx a j).1)) m
  | 0, _ => Nat.zero_le _
  | j + 1, h => by
    have ih := lay_cnt hr j (lay_some h)
    obtain ⟨x, hx⟩ := List.exists_mem_of_ne_nil _ h
    have h1 := hr x (j + 1) hx
    have h2 := (lay_further.mp hx).2
    have := cnt_lt (p := fun x => decide (x ∈ (lay nx a j).1)) (q := fun x => decide (x ∈ (lay nx a (j + 1)).1)) (x := x) (fun i hi => by
      rw [lay_met]
      exact decide_eq_true (List.mem_append_left _ (of_decide_eq_true hi))) (decide_eq_true (by rw [lay_met]; exact List.mem_append_right _ hx)) (decide_eq_false h2) m h1.1 h1.2
    omega
theorem lay_all {m : Nat} (hr : ∀ x j, x ∈ (lay nx a j).2 → 0 ≤ x ∧ x < (m : Int)) {x : Int} (r : Reach nx a x) : ∃ j, j ≤ m ∧ x ∈ (lay nx a j).2 := by
  obtain ⟨j, hj⟩ := reach_lay r
  by_cases h : j ≤ m
  · exact ⟨j, h, hj⟩
  · have hm : (lay nx a m).2 ≠ [] := lay_some' (i := j - m) (by rw [show m + (j - m) = j by omega]; exact List.ne_nil_of_mem hj)
    have h1 := lay_cnt hr m hm
    have h2 := cnt_le (fun x => decide (x ∈ (lay nx a m).1)) m
    have h3 := hr x j hj
    have := cnt_all (p := fun x => decide (x ∈ (lay nx a m).1)) m (by omega) x h3.1 h3.2
    exact met_in (of_decide_eq_true this)
end
end L2
set_option maxHeartbeats 1000000
namespace L2
open PySem PySem.Spec PyProof.Rows
theorem nodup_le {α : Type} [DecidableEq α] : ∀ {l1 l2 : List α}, l1.Nodup → (∀ x ∈ l1, x ∈ l2) → l1.length ≤ l2.length
  | [], _, _, _ => Nat.zero_le _
  | x :: r, l2, h, hs => by
    rw [List.nodup_cons] at h
    have hx := hs x (List.mem_cons_self ..)
    have ih := nodup_le (l2 := l2.erase x) h.2 fun y hy => by
      have hne : y ≠ x := fun z => h.1 (z ▸ hy)
      exact (List.mem_erase_of_ne hne).mpr (hs y (List.mem_cons_of_mem _ hy))
    have hl := List.length_erase_of_mem hx
    have hp := List.length_pos_of_mem hx
    rw [List.length_cons]
    omega
end L2
set_option maxHeartbeats 1000000
namespace L2
open PySem PySem.Spec PyProof.Rows
theorem pairs_lay : ∀ ps : List (Int × Int), PyData.canLayAll0 (ps.map pairD) = true
  | [] => rfl
  | p :: r => by
    show (PyData.canLay0 (pairD p) && PyData.canLayAll0 (r.map pairD)) = true
    rw [pairs_lay r]; rfl
theorem pairs_deep : ∀ ps : List (Int × Int), PyData.depthAll (ps.map pairD) ≤ 1
  | [] => Nat.zero_le _
  | p :: r => by
    show max (PyData.depth (pairD p)) (PyData.depthAll (r.map pairD)) ≤ 1
    have h1 : PyData.depth (pairD p) = 1 := rfl
    have := pairs_deep r
    omega
theorem pairs_depth (ps : List (Int × Int)) : PyData.depth (pairsD ps) ≤ 2 := by
  have := pairs_deep ps
  show PyData.depthAll (ps.map pairD) + 1 ≤ 2
  omega
theorem pairs_shaped (ps : List (Int × Int)) : SeqAt.shaped (pairsD ps) = true := by
  have := pairs_depth ps
  show (PyData.canLayAll0 (ps.map pairD) && decide (PyData.depth (pairsD ps) ≤ 64)) = true
  rw [pairs_lay, decide_eq_true (show PyData.depth (pairsD ps) ≤ 64 by omega)]; rfl
theorem cut1 (x : V) (xs : List V) : cutV (x :: xs) (some 1) none = xs := by
  unfold cutV HT.sIx
  simp
theorem pt_truthK {X : Cx} {a : Expr} {ta : TE} (K : PySem.W.Frag) (hK : X.K = K) (ha : PE X a ta) (he : ∀ whole, isTrue a X.env whole = (do let v ← whole; standAt a.pos; holding [v] (truthy v))) :
    PT X a (fun σ H Q => ta σ H fun x H' => ∃ k, TruV K x H' k ∧ Q k H') := hK ▸ pt_truth ha he
end L2
set_option maxHeartbeats 1000000
namespace L2
open PySem PySem.Spec PyProof.Rows
theorem below_go (xs : Array Nat) (j : Nat) (up : xs.toList.Pairwise (· < ·)) : ∀ (fuel lo hi : Nat), lo ≤ hi → hi ≤ xs.size → hi - lo ≤ fuel → (∀ (i x : Nat), xs[i]? = some x → i < lo → x < j) → (∀ (i x : Nat), xs[i]? = some x → hi ≤ i → j ≤ x) →
    (SetTable.below.go xs j fuel lo hi ≤ xs.size) ∧ (∀ (i x : Nat), xs[i]? = some x → i < SetTable.below.go xs j fuel lo hi → x < j) ∧ (∀ (i x : Nat), xs[i]? = some x → SetTable.below.go xs j fuel lo hi ≤ i → j ≤ x)
  | 0, lo, hi, h1, h2, h3, h4, h5 => by
    have e : lo = hi := by omega
    subst e
    exact ⟨h2, h4, h5⟩
  | fuel + 1, lo, hi, h1, h2, h3, h4, h5 => by
    unfold SetTable.below.go
    by_cases hl : lo < hi
    · rw [if_pos hl]
      dsimp only
      have hm : (lo + hi) / 2 < xs.size := by omega
      have le : ∀ (i k x y : Nat), xs[i]? = some x → xs[k]? = some y → i ≤ k → x ≤ y := by
        intro i k x y hx hy hik
        rw [← Array.getElem?_toList] at hx hy
        obtain ⟨hi', rfl⟩ := List.getElem?_eq_some_iff.mp hx
        obtain ⟨hk', rfl⟩ := List.getElem?_eq_some_iff.mp hy
        rcases Nat.lt_or_eq_of_le hik with z | z
        · exact Nat.le_of_lt (List.pairwise_iff_getElem.mp up i k hi' hk' z)
        · subst z; exact Nat.le_refl _
      obtain ⟨y, hy⟩ : ∃ y, xs[(lo + hi) / 2]? = some y := ⟨_, Array.getElem?_eq_getElem hm⟩
      have hg : xs.getD ((lo + hi) / 2) j = y := by rw [Array.getD_eq_getD_getElem?, hy]; rfl
      rw [hg]
      by_cases hy2 : y < j
      · rw [if_pos hy2]
        exact below_go xs j up fuel _ _ (by omega) h2 (by omega) (fun i x hx hlt => Nat.lt_of_le_of_lt (le i _ x y hx hy (by omega)) hy2) h5
      · rw [if_neg hy2]
        exact below_go xs j up fuel _ _ (by omega) (by omega) (by omega) h4 (fun i x hx hlt => Nat.le_trans (Nat.le_of_not_lt hy2) (le _ i y x hy hx (by omega)))
    · rw [if_neg hl]
      have e : lo = hi := by omega
      subst e
      exact ⟨h2, h4, h5⟩
theorem below_at (xs : Array Nat) (j : Nat) (up : xs.toList.Pairwise (· < ·)) : SetTable.below xs j ≤ xs.size ∧ (∀ (i x : Nat), xs[i]? = some x → i < SetTable.below xs j → x < j) ∧ (∀ (i x : Nat), xs[i]? = some x → SetTable.below xs j ≤ i → j ≤ x) :=
  below_go xs j up xs.size 0 xs.size (Nat.zero_le _) (Nat.le_refl _) (Nat.sub_le _ _) (fun _ _ _ h => absurd h (Nat.not_lt_zero _)) (fun i x hx h => absurd (Array.getElem?_eq_some_iff.mp hx).1 (by omega))
theorem put_rises (xs : Array Nat) (j : Nat) (up : xs.toList.Pairwise (· < ·)) (hj : xs[SetTable.below xs j]? ≠ some j) : (SetTable.insertAt xs (SetTable.below xs j) j).toList.Pairwise (· < ·) := by
  obtain ⟨h1, h2, h3⟩ := below_at xs j up
  rw [SetTable.toList_insertAt]
  generalize SetTable.below xs j = b at *
  have h4 : ∀ x ∈ xs.toList.drop b, j < x := by
    intro x hx
    obtain ⟨i, hi, e⟩ := List.getElem_of_mem hx
    have hg : xs.toList[b + i]? = some x := by rw [← List.getElem?_drop, List.getElem?_eq_getElem hi, e]
    rw [Array.getElem?_toList] at hg
    have hle := h3 _ _ hg (Nat.le_add_right _ _)
    rcases Nat.lt_or_eq_of_le hle with z | z
    · exact z
    · subst z
      by_cases hi0 : i = 0
      · subst hi0; exact absurd hg hj
      · have hbs : b < xs.toList.length := by rw [List.length_drop] at hi; omega
        have hb : xs[b]? = some xs.toList[b] := by rw [← Array.getElem?_toList, List.getElem?_eq_getElem hbs]
        have z1 := h3 _ _ hb (Nat.le_refl _)
        rw [← Array.getElem?_toList] at hg
        obtain ⟨hbi, e2⟩ := List.getElem?_eq_some_iff.mp hg
        have z2 := List.pairwise_iff_getElem.mp up b (b + i) hbs hbi (by omega)
        omega
  refine List.pairwise_append.mpr ⟨up.sublist (List.take_sublist _ _), List.pairwise_cons.mpr ⟨h4, up.sublist (List.drop_sublist _ _)⟩, fun x hx y hy => ?_⟩
  obtain ⟨i, hi, e⟩ := List.getElem_of_mem hx
  have hib : i < b := by rw [List.length_take] at hi; omega
  have hg : xs.toList[i]? = some x := by rw [← List.getElem?_take_of_lt hib, List.getElem?_eq_getElem hi, e]
  rw [Array.getElem?_toList] at hg
  have hlt := h2 _ _ hg hib
  rcases List.mem_cons.mp hy with z | z
  · subst z; exact hlt
  · exact Nat.lt_trans hlt (h4 y z)
theorem range_rises (n : Nat) : (Array.range n).toList.Pairwise (· < ·) := by
  rw [Array.toList_range]; exact List.pairwise_lt_range
def NotLive (t : SetTable) (j : Nat) : Prop := t.place[SetTable.below t.place j]? ≠ some j
theorem notLive_of {t : SetTable} {j : Nat} (h : t.slot j = .empty ∨ t.slot j = .dummy) : NotLive t j := by
  intro e
  unfold SetTable.slot at h
  dsimp only at h
  rw [e] at h
  simp at h
theorem probe_go {t : SetTable} {f : Nat → Int} {h : Int} {j : Nat} {dm : Option Nat} : ∀ (fuel : Nat) (p : SetTable.Probe), SetTable.probe.go t f h fuel p = some (.empty j dm) → (∀ d, p.dummy = some d → t.slot d = .dummy) →
    t.slot j = .empty ∧ ∀ d, dm = some d → t.slot d = .dummy
  | 0, p, e, _ => by unfold SetTable.probe.go at e; cases e
  | fuel + 1, p, e, hd => by
    unfold SetTable.probe.go at e
    have ha : ∀ q : SetTable.Probe, (t.advance q).dummy = q.dummy := by
      intro q; unfold SetTable.advance; split <;> rfl
    cases hs : t.slot p.j with
    | empty => rw [hs] at e; dsimp only at e; cases e; exact ⟨hs, hd⟩
    | dummy => rw [hs] at e; dsimp only at e; exact probe_go fuel _ e (fun d z => by rw [ha] at z; cases z; exact hs)
    | live i =>
      rw [hs] at e; dsimp only at e
      split at e
      · cases e
      · exact probe_go fuel _ e (fun d z => by rw [ha] at z; exact hd d z)
theorem freeSlot_at {t : SetTable} {h : Int} {slot : Nat} {wd : Bool} (e : t.freeSlot h = some (slot, wd)) : NotLive t slot := by
  unfold SetTable.freeSlot at e
  split at e
  · rename_i j dm hp
    obtain ⟨a, b⟩ := probe_go _ _ hp (fun d z => by unfold SetTable.probeStart at z; cases z)
    cases e
    cases dm with
    | none => exact notLive_of (.inl a)
    | some d => exact notLive_of (.inr (b d rfl))
  · cases e
structure GoodT (b : Bool) (t : SetTable) (n : Nat) : Prop where
  fits : t.fits n = true
  rise : t.place.toList.Pairwise (· < ·)
  led : t.led = b
theorem layNew_good {b : Bool} {t : SetTable} {es : Array (Int × Value)} {h : Int} {x : Value} (g : GoodT b t es.size) : GoodT b (layNew t es h x).2.1 (layNew t es h x).1.size := by
  refine ⟨layNew_fits t es h x, ?_, ?_⟩
  · unfold layNew
    split
    · rename_i slot wd hs
      dsimp only
      unfold SetTable.orStandIn
      split
      · exact put_rises _ _ g.rise (freeSlot_at hs)
      · exact range_rises _
    · exact range_rises _
  · unfold layNew
    split
    · dsimp only
      unfold SetTable.orStandIn
      split
      · exact g.led
      · exact g.led
    · exact g.led
theorem relayAll_good {b : Bool} {t : SetTable} {es : Array (Int × Value)} {m : Nat} (g : GoodT b t es.size) : GoodT b (relayAll t es m).2.1 (relayAll t es m).1.size := by
  refine ⟨relayAll_fits t es m, ?_, ?_⟩
  · unfold relayAll
    split
    · rename_i t' order hr
      dsimp only
      split
      · unfold SetTable.relaid SetTable.laid at hr
        cases hl : SetTable.layClean (SetTable.sizeAbove m - 1) (es.map (·.1)) with
        | none => rw [hl] at hr; cases hr
        | some owner =>
          rw [hl] at hr
          cases hr
          show (((List.range _).filterMap fun j => (owner.getD j none).map (j, ·)).map (·.1)).Pairwise (· < ·)
          have hsub : ∀ l : List Nat, ((l.filterMap fun j => (owner.getD j none).map (j, ·)).map (·.1)).Sublist l := by
            intro l
            induction l with
            | nil => exact .slnil
            | cons a r ih =>
              rw [List.filterMap_cons]
              cases owner.getD a none with
              | none => exact ih.cons _
              | some k => exact ih.cons₂ a
          exact List.Pairwise.sublist (hsub _) List.pairwise_lt_range
      · exact range_rises _
    · exact range_rises _
  · unfold relayAll
    split
    · rename_i t' order hr
      dsimp only
      split
      · unfold SetTable.relaid SetTable.laid at hr
        cases hl : SetTable.layClean (SetTable.sizeAbove m - 1) (es.map (·.1)) with
        | none => rw [hl] at hr; cases hr
        | some owner => rw [hl] at hr; cases hr; exact g.led
      · exact g.led
    · exact g.led
theorem GoodT.plainOff {b : Bool} {t : SetTable} {n : Nat} (g : GoodT b t n) : GoodT b { t with plain := false } n := ⟨SetTable.fits_plain_off g.fits, g.rise, g.led⟩
end L2
set_option maxHeartbeats 1000000
namespace L2
open PySem PySem.Spec PyProof.Rows
noncomputable def keyI : Int × Value → Int
  | (_, .int n _) => n
  | _ => 0
def EI (e : Int × Value) : Prop := ∃ n t, e = (hashInt n, Value.int n t)
noncomputable def byText (w : World) : Bool := w.params.followText "set-order"
def SetI (w : World) (h : Heap) (a : Addr) (ns : List Int) : Prop :=
  ∃ o es ep t, h.get? a = some o ∧ o.ExactSet ∧ o.data = .set es ep t ∧ (∀ e ∈ es.toList, EI e) ∧ (es.toList.map keyI).Perm ns ∧ ns.Nodup ∧ es.size < scanBound ∧ GoodT (!byText w) t es.size
theorem EI.elems {P : Program} {w : World} {l : List (Int × Value)} (h : ∀ e ∈ l, EI e) : ElemsOf (intKind P w) l := fun e he => by
  obtain ⟨n, t, rfl⟩ := h e he
  exact ⟨⟨n, intKind_is P w n t, rfl⟩, rfl⟩
theorem mem_keys {P : Program} {w : World} {l : List (Int × Value)} (h : ∀ e ∈ l, EI e) (n : Int) : n ∈ l.map keyI ↔ ∃ e ∈ l, (intKind P w).is n e.2 = true := by
  constructor
  · intro hm
    obtain ⟨e, he, q⟩ := List.mem_map.mp hm
    obtain ⟨m, t, rfl⟩ := h e he
    cases q
    exact ⟨_, he, intKind_is P w m t⟩
  · rintro ⟨e, he, q⟩
    obtain ⟨m, t, rfl⟩ := h e he
    have : n = m := (intKind P w).inj _ _ _ q (intKind_is P w m t)
    subst this
    exact List.mem_map.mpr ⟨_, he, rfl⟩
theorem SetI.len {w : World} {h : Heap} {a : Addr} {ns : List Int} (S : SetI w h a ns) : ns.length < scanBound := by
  obtain ⟨o, es, ep, t, _, _, _, _, p, _, hb, _⟩ := S
  have := p.length_eq
  rw [List.length_map, Array.length_toList] at this
  omega
theorem SetI.stay {w : World} {h h' : Heap} {a : Addr} {ns : List Int} (S : SetI w h a ns) (k : ∀ o, h.get? a = some o → h'.get? a = some o) : SetI w h' a ns := by
  obtain ⟨o, es, ep, t, e, r⟩ := S
  exact ⟨o, es, ep, t, k o e, r⟩
noncomputable def addN (ns : List Int) (n : Int) : List Int := if n ∈ ns then ns else ns ++ [n]
theorem addN_nodup {ns : List Int} {n : Int} (h : ns.Nodup) : (addN ns n).Nodup := by
  unfold addN; split
  · exact h
  · rename_i hn
    exact List.nodup_append.mpr ⟨h, by simp, by intro x hx y hy; simp at hy; subst hy; intro e; subst e; exact hn hx⟩
theorem mem_addN {ns : List Int} {n m : Int} : m ∈ addN ns n ↔ m ∈ ns ∨ m = n := by
  unfold addN; split
  · rename_i hn; constructor
    · exact .inl
    · rintro (h | rfl)
      · exact h
      · exact hn
  · simp
theorem addN_len {ns : List Int} {n : Int} : (addN ns n).length ≤ ns.length + 1 := by
  unfold addN; split <;> simp
section
variable {P : Program} {w : World} {A : Around} {E : Value → Shared → Prop} {s : Shared}
theorem SetI.store {h : Heap} {a : Addr} {o : Obj} {es es' : Array (Int × Value)} {ep : Nat} {t t' : SetTable} {ns : List Int} (ho : h.get? a = some o) (hex : o.ExactSet) (hd : o.data = .set es ep t)
    (hel : ∀ e ∈ es'.toList, EI e) (hp : (es'.toList.map keyI).Perm ns) (hn : ns.Nodup) (hb : es'.size < scanBound) (g : GoodT (!byText w) t' es'.size) :
    (h.update a (Obj.putSet es' t')).get? a = some { o with data := .set es' (ep + 1) t' } ∧ SetI w (h.update a (Obj.putSet es' t')) a ns := by
  have hg := Heap.get?_update_self (Obj.putSet es' t') ho (by rw [putSet_of es' t' hd]; rfl)
  rw [putSet_of es' t' hd] at hg
  exact ⟨hg, _, es', ep + 1, t', hg, hex, rfl, hel, hp, hn, hb, g⟩
theorem addI_tail {gw : Bool → Sem Unit} (hg : ∀ (b : Bool) (s₁ : Shared) (Q' : Unit → Shared → Prop), Q' () s₁ → wpAny (model P w) A (gw b) Q' E s₁) {a : Addr} {o : Obj} {es : Array (Int × Value)} {ep : Nat} {t : SetTable}
    (ho : s.heap.get? a = some o) (hex : o.ExactSet) (hd : o.data = .set es ep t) {es1 : Array (Int × Value)} {t2 : SetTable} {ns : List Int} (hel : ∀ e ∈ es1.toList, EI e) (hp : (es1.toList.map keyI).Perm ns) (hn : ns.Nodup)
    (hb : es1.size < scanBound) (g : GoodT (!byText w) t2 es1.size) {wd : Bool} {R : Option Bool → Shared → Prop} (h : ∀ h', Heap.SameBut a s.heap h' → SetI w h' a ns → R (some true) { s with heap := h' }) :
    wpAny (model P w) A (do
        storeSet a es1 t2
        if (!wd && t2.tooFull) = true then do
            gw (relayAll t2 es1 (SetTable.grown es1.size)).2.2
            storeSet a (relayAll t2 es1 (SetTable.grown es1.size)).1 (relayAll t2 es1 (SetTable.grown es1.size)).2.1
            pure (some true)
          else pure (some true)) R E s := by
  refine wpAny_bind (wpAny_storeSet_of ho hd ?_ (fits_of_scanBound hb))
  obtain ⟨ho1, hS1⟩ := SetI.store (w := w) ho hex hd hel hp hn hb g
  have sb := Heap.SameBut.update s.heap a (Obj.putSet es1 t2)
  split
  · have hp2 := relayAll_perm t2 es1 (SetTable.grown es1.size)
    have g2 := relayAll_good (m := SetTable.grown es1.size) g
    generalize relayAll t2 es1 (SetTable.grown es1.size) = Rl at hp2 g2 ⊢
    obtain ⟨es2, t3, gv⟩ := Rl
    dsimp only at hp2 g2 ⊢
    have hz : es2.size = es1.size := by rw [← Array.length_toList, hp2.length_eq, Array.length_toList]
    have hb2 : es2.size < scanBound := by omega
    refine wpAny_bind (hg _ _ _ (wpAny_bind (wpAny_storeSet_of ho1 rfl ?_ (fits_of_scanBound hb2))))
    exact wpAny_pure (h _ (sb.trans (Heap.SameBut.update _ a _)) (SetI.store (w := w) ho1 hex rfl (fun e he => hel e (hp2.mem_iff.mp he)) ((hp2.map keyI).trans hp) hn hb2 g2).2)
  · exact wpAny_pure (h _ sb hS1)
theorem addI {a : Addr} {ns : List Int} {n : Int} {tk : Tok} {Q : Bool → Shared → Prop} (S : SetI w s.heap a ns) (hroom : ns.length + 1 < scanBound)
    (h : ∀ h', Heap.SameBut a s.heap h' → SetI w h' a (addN ns n) → Q (!decide (n ∈ ns)) { s with heap := h', toks := s.toks + 1 }) :
    wpAny (model P w) A (setAdd a (.int n tk)) Q E s := by
  unfold setAdd
  refine wpAny_holding (wpAny_bind ((intKind P w).pyHash (k := n) (intKind_is _ _ _ _) ?_))
  obtain ⟨o, es, ep, t, ho, hex, hd, hel, hp, hn, hb, g⟩ := S
  have hlen : es.size = ns.length := by rw [← hp.length_eq, List.length_map, Array.length_toList]
  have he := EI.elems (P := P) (w := w) hel
  have hkey := intKind_is P w n tk
  unfold setAddHashed setAddHashedIn
  refine wpAny_holding (wpAny_bind (wpAny_setState_of (s := { s with toks := s.toks + 1 }) ho hd g.fits ?_))
  dsimp only
  rw [byScan_of (knd := intKind P w) (x := .int n tk) rfl hb he]
  simp only [↓reduceIte]
  unfold setAddByScan
  refine wpAny_bind (wpAny_bind (wpAny_rule (wpAny_bind (wpAny_setScan_of (knd := intKind P w) (k := n) hkey ho hd g.fits he ?_))))
  cases hr : List.findIdx? (fun e => (intKind P w).is n e.2) es.toList with
  | some j =>
    dsimp only
    obtain ⟨hj, hpj, _⟩ := List.findIdx?_eq_some_iff_getElem.mp hr
    have hm : n ∈ ns := hp.mem_iff.mp ((mem_keys (P := P) (w := w) hel n).mpr ⟨_, List.getElem_mem hj, hpj⟩)
    refine wpAny_pure (wpAny_pure ?_)
    have q := h s.heap (Heap.SameBut.refl a s.heap) ⟨o, es, ep, t, ho, hex, hd, hel, by unfold addN; rw [if_pos hm]; exact hp, addN_nodup hn, hb, g⟩
    rw [decide_eq_true hm] at q
    exact q
  | none =>
    dsimp only
    have hm : n ∉ ns := fun z => by
      obtain ⟨e, he, q⟩ := (mem_keys (P := P) (w := w) hel n).mp (hp.mem_iff.mpr z)
      have := List.findIdx?_eq_none_iff.mp hr e he
      rw [q] at this; cases this
    have hgw : ∀ (b : Bool) {s₁ : Shared} {Q' : Unit → Shared → Prop}, Q' () s₁ → wpAny (model P w) A (match b with | true => rule "set.scan.the-table-gave-way" | false => pure ()) Q' E s₁ := fun b s₁ Q' hq => by
      cases b
      · exact wpAny_pure hq
      · exact wpAny_rule hq
    have hp1 := layNew_perm t es ((intKind P w).hash n) (.int n tk)
    have g1 := layNew_good (h := (intKind P w).hash n) (x := .int n tk) g
    generalize layNew t es ((intKind P w).hash n) (.int n tk) = L at hp1 g1 ⊢
    obtain ⟨es1, t1, wd, gave⟩ := L
    dsimp only at hp1 g1 ⊢
    rw [Array.toList_push] at hp1
    have hel1 : ∀ e ∈ es1.toList, EI e := fun e he => by
      rcases List.mem_append.mp (hp1.mem_iff.mp he) with z | z
      · exact hel e z
      · rw [List.mem_singleton] at z; exact ⟨n, tk, z⟩
    have hz1 : es1.size = es.size + 1 := by rw [← Array.length_toList, hp1.length_eq, List.length_append, Array.length_toList]; rfl
    have hq1 : (es1.toList.map keyI).Perm (addN ns n) := by
      unfold addN; rw [if_neg hm]
      refine (hp1.map keyI).trans ?_
      rw [List.map_append]
      exact hp.append_right _
    have fin : ∀ h', Heap.SameBut a s.heap h' → SetI w h' a (addN ns n) → Q true { s with heap := h', toks := s.toks + 1 } := fun h' sb S' => by
      have q := h h' sb S'
      rw [decide_eq_false hm] at q; exact q
    refine wpAny_bind (hgw _ ?_)
    have gw2 : ∀ (b : Bool) (s₁ : Shared) (Q' : Unit → Shared → Prop), Q' () s₁ → wpAny (model P w) A (match b with | true => rule "set.scan.the-table-gave-way" | false => pure ()) Q' E s₁ := fun b s₁ Q' hq => hgw b hq
    split
    · refine wpAny_bind ?_
      rw [hashByValue_scannable 8 (x := .int n tk) rfl]
      refine wpAny_pure ?_
      refine addI_tail (s := { s with toks := s.toks + 1 }) (fun b s₁ Q' hq => ?_) ho hex hd hel1 hq1 (addN_nodup hn) (by omega) ?_ (fun h' sb S' => ?_)
      · cases b
        · exact wpAny_pure hq
        · exact wpAny_rule hq
      · split
        · exact g1
        · exact g1.plainOff
      · dsimp only; exact wpAny_pure (fin h' sb S')
    · refine wpAny_bind (wpAny_pure ?_)
      simp only [↓reduceIte]
      refine addI_tail (s := { s with toks := s.toks + 1 }) (fun b s₁ Q' hq => ?_) ho hex hd hel1 hq1 (addN_nodup hn) (by omega) g1 (fun h' sb S' => ?_)
      · cases b
        · exact wpAny_pure hq
        · exact wpAny_rule hq
      · dsimp only; exact wpAny_pure (fin h' sb S')
end
end L2
set_option maxHeartbeats 1000000
namespace L2
open PySem PySem.Spec PyProof.Rows
theorem slot_si_next : Slot "set_iterator" "__next__" "set_iterator.__next__" := .of (owner := "set_iterator") (n := "__next__") (by rw [typeLookup_type, builtinLookup_eq_fast]; kernel_rfl) (by decide +kernel) (by decide +kernel) (by decide +kernel) (by first | exact .inl (by decide +kernel) | exact .inr (by decide +kernel)) (by rw [isSubtype_type]; kernel_rfl)
theorem slot_si_iter : Slot "set_iterator" "__iter__" "set_iterator.__iter__" := .of (owner := "set_iterator") (n := "__iter__") (by rw [typeLookup_type, builtinLookup_eq_fast]; kernel_rfl) (by decide +kernel) (by decide +kernel) (by decide +kernel) (by first | exact .inl (by decide +kernel) | exact .inr (by decide +kernel)) (by rw [isSubtype_type]; kernel_rfl)
theorem entry_si_next : entryFor table "set_iterator.__next__" = some Builtin.«set_iterator.__next__» := entryFor_of_tree (by kernel_rfl)
theorem entry_si_iter : entryFor table "set_iterator.__iter__" = some Builtin.«dict_keyiterator.__iter__» := entryFor_alias (id' := "dict_keyiterator.__iter__") (by kernel_rfl) rfl (by decide +kernel) (by kernel_rfl)
theorem args_si_next (a : Value) : argsOk "set_iterator.__next__" ⟨[a], []⟩ := by unfold argsOk; kernel_rfl
theorem args_si_iter (a : Value) : argsOk "set_iterator.__iter__" ⟨[a], []⟩ := by unfold argsOk; kernel_rfl
theorem entry_set_iter : entryFor table "set.__iter__" = some Builtin.«frozenset.__iter__» := entryFor_alias (id' := "frozenset.__iter__") (by kernel_rfl) rfl (by decide +kernel) (by kernel_rfl)
def SIter (h : Heap) (it : Addr) (first : Value) (i : Nat) (a : Addr) (n ep : Nat) : Prop :=
  ∃ o, h.get? it = some o ∧ o.cls = .type "set_iterator" ∧ o.data = .fields #[first, .int i 0, .ref a, .int n 0, .int ep 0]
theorem SIter.ty {s : Shared} {it : Addr} {first : Value} {i : Nat} {a : Addr} {n ep : Nat} (h : SIter s.heap it first i a n ep) : s.TypeIs (.ref it) "set_iterator" := let ⟨o, e, c, _⟩ := h; ⟨o, e, c⟩
theorem erase_perm {α : Type} : ∀ {l : List α} {i : Nat} (h : i < l.length), (l[i] :: l.eraseIdx i).Perm l
  | a :: r, 0, _ => .refl _
  | a :: r, i + 1, h => by
    have h' : i < r.length := by simpa using h
    show ((r[i]'h') :: a :: r.eraseIdx i).Perm (a :: r)
    exact (List.Perm.swap _ _ _).trans ((erase_perm h').cons a)
section
variable {P : Program} {w : World} {A : Around} {E : Value → Shared → Prop} {s : Shared}
theorem si_self {it a : Addr} {first : Value} {i n ep : Nat} {Q : Value → Shared → Prop} (h : SIter s.heap it first i a n ep) (q : Q (.ref it) s) : wpAny (model P w) A (pyIter (.ref it)) Q E s := by
  refine wpAny_pyIter_slot h.ty slot_si_iter (wpAny_call_entry slot_si_iter h.ty entry_si_iter ?_ (args_si_iter _))
  show wpAny _ _ (ret (.ref it)) _ _ s
  exact wpAny_pure ⟨_, rfl, "set_iterator", _, h.ty, slot_si_next.lookup, q⟩
theorem wp_choice {src : Source} {n : Nat} {Q : Nat → Shared → Prop} (hn : n ≠ 0) (h : ∀ i d, i < n → Q i { s with drawn := d }) : wpAny (model P w) A (choose src n) Q E s := fun Γ p hΓ => by
  unfold choose
  rw [Sem.wp_choose]
  exact ⟨hn, h _ _ (Nat.mod_lt _ (Nat.pos_of_ne_zero hn))⟩
theorem draw_perm {α : Type} : ∀ (xs : List α) {s : Shared} {Q : List α → Shared → Prop}, (∀ ys d, ys.Perm xs → Q ys { s with drawn := d }) → wpAny (model P w) A (drawOrder xs.length xs) Q E s
  | [], s, Q, h => by
    unfold drawOrder
    exact wpAny_pure (h [] s.drawn (.refl _))
  | x :: r, s, Q, h => by
    show wpAny _ _ (drawOrder (r.length + 1) (x :: r)) _ _ s
    unfold drawOrder
    refine wpAny_bind (wp_choice (by simp) fun i d hi => ?_)
    rw [List.getElem?_eq_getElem hi]
    dsimp only
    have hl : ((x :: r).eraseIdx i).length = r.length := by rw [List.length_eraseIdx_of_lt hi]; rfl
    rw [← hl]
    refine wpAny_bind (draw_perm ((x :: r).eraseIdx i) fun ys d' hp => wpAny_pure (h _ d' ?_))
    exact (hp.cons _).trans (erase_perm hi)
  termination_by xs => xs.length
theorem pick_go {α : Type} (f : Nat → Nat) : ∀ (fuel k : Nat) (l : List α) (out : Array α), l.length = fuel → (pickOrder.go f fuel k l out).toList.Perm (out.toList ++ l)
  | 0, k, l, out, h => by
    have : l = [] := List.length_eq_zero_iff.mp h
    subst this
    unfold pickOrder.go
    simp
  | fuel + 1, k, l, out, h => by
    unfold pickOrder.go
    have hl : f k % l.length < l.length := Nat.mod_lt _ (by omega)
    rw [List.getElem?_eq_getElem hl]
    dsimp only
    refine (pick_go f fuel (k + 1) _ _ (by rw [List.length_eraseIdx_of_lt hl]; omega)).trans ?_
    rw [Array.toList_push, List.append_assoc]
    exact List.Perm.append_left _ (erase_perm hl)
theorem pick_perm {α : Type} (f : Nat → Nat) (xs : Array α) : (pickOrder f xs).toList.Perm xs.toList := by
  unfold pickOrder
  have := pick_go f xs.size 0 xs.toList #[] (by simp)
  simpa using this
end
end L2
set_option maxHeartbeats 1000000
namespace L2
open PySem PySem.Spec PyProof.Rows
theorem flds_put {h : Heap} {it : Addr} {o : Obj} {vs : Array Value} (k : Nat) (v : Value) (ho : h.get? it = some o) (hd : o.data = .fields vs) :
    ∃ o', (h.update it (Obj.mapFields (·.setIfInBounds k v))).get? it = some o' ∧ o'.cls = o.cls ∧ o'.data = .fields (vs.setIfInBounds k v) :=
  ⟨_, Heap.get?_update_self _ ho (Obj.isFreed_of_fields (Obj.data_mapFields hd _)), Obj.cls_mapFields .., Obj.data_mapFields hd _⟩
noncomputable def slotI (t : SetTable) : Nat → Nat
  | 0 => 0
  | i + 1 => t.place.getD i 0 + 1
theorem below_slot {t : SetTable} {n : Nat} (up : t.place.toList.Pairwise (· < ·)) {i : Nat} (hi : i ≤ t.place.size) : SetTable.below t.place (slotI t i) = i := by
  obtain ⟨h1, h2, h3⟩ := below_at t.place (slotI t i) up
  generalize SetTable.below t.place (slotI t i) = b at *
  have lt : ∀ (i k x y : Nat), t.place[i]? = some x → t.place[k]? = some y → i < k → x < y := by
    intro i k x y hx hy hik
    rw [← Array.getElem?_toList] at hx hy
    obtain ⟨hi', rfl⟩ := List.getElem?_eq_some_iff.mp hx
    obtain ⟨hk', rfl⟩ := List.getElem?_eq_some_iff.mp hy
    exact List.pairwise_iff_getElem.mp up i k hi' hk' hik
  cases i with
  | zero =>
    by_cases hb : b = 0
    · exact hb
    · have h0 : 0 < t.place.size := by omega
      exact absurd (h2 0 _ (Array.getElem?_eq_getElem h0) (by omega)) (Nat.not_lt_zero _)
  | succ i =>
    have hx : t.place[i]? = some (t.place.getD i 0) := by
      have hlt : i < t.place.size := by omega
      rw [Array.getD_eq_getD_getElem?, Array.getElem?_eq_getElem hlt]; rfl
    rcases Nat.lt_trichotomy b (i + 1) with z | z | z
    · have := h3 i _ hx (by omega)
      simp only [slotI] at this
      omega
    · exact z
    · have hlt : i + 1 < t.place.size := by omega
      have q := h2 (i + 1) _ (Array.getElem?_eq_getElem hlt) z
      have r := lt i (i + 1) _ _ hx (Array.getElem?_eq_getElem hlt) (by omega)
      simp only [slotI] at q
      omega
inductive Mode (w : World) (h : Heap) (a : Addr) (es : Array (Int × Value)) (ep : Nat) (t : SetTable) (i : Nat) : Value → List (Int × Value) → List Addr → Prop
  | told (sl : Nat) (b : byText w = true) : Mode w h a es ep t i (.int sl 0) (pickOrder (w.params.setOrder a ep) es).toList []
  | place (b : byText w = false) (d : (!t.plain && decide (es.size > 1)) = false) : Mode w h a es ep t i (.int (slotI t i) 0) es.toList []
  | drawn (tp : Addr) (places : List Nat) (o : Obj) (n : Nat) (ord : List (Int × Value)) (e : h.get? tp = some o) (c : o.data = .seq (places.map fun (j : Nat) => rawInt (j : Int)).toArray n) (q : places.map (fun j => es[j]?) = ord.map some) : Mode w h a es ep t i (.ref tp) ord [tp]
def SW (w : World) (it a : Addr) (es : Array (Int × Value)) (ep : Nat) (t : SetTable) (ord : List (Int × Value)) (ex : List Addr) (i : Nat) (h : Heap) : Prop :=
  ∃ first, SIter h it first i a es.size ep ∧ (∃ o, h.get? a = some o ∧ o.data = .set es ep t) ∧ GoodT (!byText w) t es.size ∧ ord.length = es.size ∧ Mode w h a es ep t i first ord ex
section
variable {P : Program} {w : World} {A : Around} {E : Value → Shared → Prop} {s : Shared} {it a : Addr} {es : Array (Int × Value)} {ep : Nat} {t : SetTable} {ord : List (Int × Value)} {ex : List Addr} {i : Nat}
theorem fits_size {t : SetTable} {n : Nat} (h : t.fits n = true) : t.place.size = n := by
  simp only [SetTable.fits, Bool.and_eq_true, beq_iff_eq] at h
  exact h.1
theorem next_told {o : Obj} {sl : Nat} {Q : Option (Value × Nat) → Shared → Prop} (ho : s.heap.get? a = some o) (hd : o.data = .set es ep t) (g : GoodT (!byText w) t es.size) (b : byText w = true)
    (q : Q (((pickOrder (w.params.setOrder a ep) es)[i]?).map fun e => (e.2, sl)) s) : wpAny (model P w) A (setNext a sl i ep) Q E s := by
  unfold setNext
  refine wpAny_bind (wpAny_setState_of ho hd g.fits ?_)
  dsimp only
  unfold setsByText
  refine wpAny_bind (wpAny_bind (wpAny_askSetting (wpAny_pure ?_)))
  show wpAny _ _ (if w.params.followText "set-order" = true then _ else _) _ _ _
  rw [if_pos (show (w.params.followText "set-order") = true from b), if_neg (by simp)]
  unfold setWalk
  refine wpAny_bind (wpAny_bind (wpAny_setState_of ho hd g.fits ?_))
  dsimp only
  unfold setsByText
  refine wpAny_bind (wpAny_bind (wpAny_askSetting (wpAny_pure ?_)))
  show wpAny _ _ (if w.params.followText "set-order" = true then _ else _) _ _ _
  rw [if_pos (show (w.params.followText "set-order") = true from b)]
  refine wpAny_bind (wpAny_askSetting (wpAny_pure (wpAny_pure ?_)))
  exact q
theorem next_place {o : Obj} {Q : Option (Value × Nat) → Shared → Prop} (ho : s.heap.get? a = some o) (hd : o.data = .set es ep t) (g : GoodT (!byText w) t es.size) (b : byText w = false) (d : (!t.plain && decide (es.size > 1)) = false) (hi : i ≤ es.size)
    (q : Q ((es[i]?).map fun e => (e.2, slotI t (i + 1))) s) : wpAny (model P w) A (setNext a (slotI t i) i ep) Q E s := by
  have hz := fits_size g.fits
  unfold setNext
  refine wpAny_bind (wpAny_setState_of ho hd g.fits ?_)
  dsimp only
  unfold setsByText
  refine wpAny_bind (wpAny_bind (wpAny_askSetting (wpAny_pure ?_)))
  show wpAny _ _ (if w.params.followText "set-order" = true then _ else _) _ _ _
  rw [if_neg (show ¬ (w.params.followText "set-order") = true from fun z => by rw [show (w.params.followText "set-order") = false from b] at z; cases z)]
  have led : t.led = true := by rw [g.led, b]; rfl
  split
  · rename_i z
    exact absurd (show (!t.plain && decide (es.size > 1)) = true from z) (by rw [d]; exact Bool.false_ne_true)
  · refine wpAny_bind ?_
    show wpAny _ _ (if (!t.led && !es.isEmpty) = true then unsupported "set:maker-not-led" else pure PUnit.unit) _ _ _
    rw [if_neg (by rw [led]; simp)]
    refine wpAny_pure (wpAny_pure ?_)
    rw [below_slot (n := es.size) g.rise (by omega)]
    by_cases hlt : i < es.size
    · have h1 : es[i]? = some es[i] := Array.getElem?_eq_getElem hlt
      have h2 : t.place[i]? = some (t.place.getD i 0) := by
        have : i < t.place.size := by omega
        rw [Array.getD_eq_getD_getElem?, Array.getElem?_eq_getElem this]; rfl
      rw [h1] at q ⊢
      rw [h2]
      exact q
    · have h1 : es[i]? = none := Array.getElem?_eq_none (by omega)
      rw [h1] at q ⊢
      exact q
theorem Mode.stay {h h' : Heap} {first : Value} (m : Mode w h a es ep t i first ord ex) (k : ∀ b ∈ ex, ∀ o, h.get? b = some o → h'.get? b = some o) : Mode w h' a es ep t i first ord ex := by
  cases m with
  | told sl b => exact .told sl b
  | place b d => exact .place b d
  | drawn tp places o n _ e c q => exact .drawn tp places o n _ (k tp (by simp) _ e) c q
theorem sw_item {Q : Option Value → Shared → Prop} (hia : it ≠ a) (hie : it ∉ ex) (h : SW w it a es ep t ord ex i s.heap) {e : Int × Value} (he : ord[i]? = some e)
    (q : ∀ h', SW w it a es ep t ord ex (i + 1) h' → Heap.SameBut it s.heap h' → Q (some e.2) { s with heap := h' }) : wpAny (model P w) A (pyNext (.ref it)) Q E s := by
  obtain ⟨first, hit, ⟨o, ho, hd⟩, g, hl, m⟩ := h
  obtain ⟨oi, hoi, hc, hdi⟩ := id hit
  have hlt : i < es.size := by rw [← hl]; exact (List.getElem?_eq_some_iff.mp he).1
  unfold pyNext
  refine wpAny_bind (wpAny_attempt (wpAny_callSpecial?_slot (name := Str.ofString "__next__") hit.ty slot_si_next (wpAny_call_entry slot_si_next hit.ty entry_si_next ?_ (args_si_next _))))
  unfold Builtin.«set_iterator.__next__»
  refine wpAny_bind (m := slotArgs "__next__" 0 _) (wpAny_pure ?_)
  refine wpAny_bind (wpAny_fieldsOf hoi hdi ?_)
  dsimp only
  refine wpAny_bind (wpAny_setEntries_of ho hd g.fits ?_)
  rw [if_neg (by simp)]
  have two : ∀ (sl nx : Nat), first = .int sl 0 → (∀ h', Heap.SameBut it s.heap h' → Mode w h' a es ep t (i + 1) (.int nx 0) ord ex) →
      wpAny (model P w) A.in1 (do setField (Value.ref it) 0 (rawInt nx); setField (Value.ref it) 1 (rawInt ((i : Int) + 1)); ret e.2) (fun fin s' => ∃ v, fin = Fin.done (Flow.ret v) ∧ wpAny (model P w) A (pure (some v)) Q E s')
        (fun e s' => wpAny (model P w) A (do if (← isInstance e (Value.type "StopIteration")) = true then pure none else throw e) Q E s') s := by
    intro sl nx hf hm
    subst hf
    refine wpAny_bind (wpAny_setField hoi hdi (by simp) ?_)
    obtain ⟨o1, e1, c1, d1⟩ := flds_put 0 (rawInt nx) hoi hdi
    refine wpAny_bind (wpAny_setField e1 d1 (by simp) ?_)
    obtain ⟨o2, e2, c2, d2⟩ := flds_put 1 (rawInt ((i : Int) + 1)) e1 d1
    have sb : Heap.SameBut it s.heap _ := (Heap.SameBut.update s.heap it (Obj.mapFields (·.setIfInBounds 0 (rawInt nx)))).trans (Heap.SameBut.update _ it (Obj.mapFields (·.setIfInBounds 1 (rawInt ((i : Int) + 1)))))
    refine wpAny_pure ⟨_, rfl, wpAny_pure (q _ ⟨.int nx 0, ⟨o2, e2, c2.trans (c1.trans hc), ?_⟩, ⟨o, (sb.2 a (Ne.symm hia)).trans ho, hd⟩, g, hl, hm _ sb⟩ sb)⟩
    rw [d2]
    simp [rawInt]
  cases m with
  | told sl b =>
    dsimp only
    simp only [Int.toNat_natCast]
    refine wpAny_bind (next_told (i := i) ho hd g b ?_)
    rw [show (pickOrder (w.params.setOrder a ep) es)[i]? = some e by rw [← Array.getElem?_toList]; exact he]
    exact two sl sl rfl fun h' sb => .told sl b
  | place b d =>
    dsimp only
    simp only [Int.toNat_natCast]
    refine wpAny_bind (next_place (i := i) ho hd g b d (by omega) ?_)
    rw [show es[i]? = some e by rw [← Array.getElem?_toList]; exact he]
    exact two _ _ rfl fun h' sb => .place b d
  | drawn tp places op n _ eo c qq =>
    dsimp only
    refine wpAny_bind (wpAny_seqItems eo c ?_)
    dsimp only
    have hpl : places.length = ord.length := by have := congrArg List.length qq; simpa using this
    obtain ⟨j, hj⟩ : ∃ j, places[i]? = some j := ⟨_, List.getElem?_eq_getElem (by omega)⟩
    have hej : es[j]? = some e := by
      have := congrArg (fun l => l[i]?) qq
      simp only [List.getElem?_map, hj, he, Option.map_some] at this
      exact Option.some.inj this
    have hji : (places.map fun (j : Nat) => rawInt (j : Int)).toArray[((i : Int)).toNat]? = some (.int (j : Int) 0) := by
      rw [Int.toNat_natCast, List.getElem?_toArray, List.getElem?_map, hj]; rfl
    rw [hji]
    dsimp only
    unfold setNextDrawn
    refine wpAny_bind (wpAny_bind (wpAny_setState_of ho hd g.fits ?_))
    dsimp only
    rw [if_neg (by simp)]
    rw [Int.toNat_natCast, hej]
    dsimp only
    refine wpAny_pure ?_
    refine wpAny_bind (wpAny_setField hoi hdi (by simp) ?_)
    obtain ⟨o1, e1, c1, d1⟩ := flds_put 1 (rawInt ((i : Int) + 1)) hoi hdi
    have sb : Heap.SameBut it s.heap _ := Heap.SameBut.update s.heap it (Obj.mapFields (·.setIfInBounds 1 (rawInt ((i : Int) + 1))))
    refine wpAny_pure ⟨_, rfl, wpAny_pure (q _ ⟨.ref tp, ⟨o1, e1, c1.trans hc, ?_⟩, ⟨o, (sb.2 a (Ne.symm hia)).trans ho, hd⟩, g, hl, .drawn tp places op n _ ((sb.2 tp (by simpa using Ne.symm (a := it) (by simpa using hie))).trans eo) c qq⟩ sb)⟩
    rw [d1]
    simp [rawInt]
end
end L2
set_option maxHeartbeats 1000000
namespace L2
open PySem PySem.Spec PyProof.Rows
section
variable {P : Program} {w : World} {A : Around} {E : Value → Shared → Prop} {s : Shared} {it a : Addr} {es : Array (Int × Value)} {ep : Nat} {t : SetTable} {ord : List (Int × Value)} {ex : List Addr} {i : Nat}
theorem stop_raised {s0 : Shared} {Q : Option Value → Shared → Prop} {α : Type} {Q0 : α → Shared → Prop} (hh : A.in1.handled = none) (hsb : Heap.ExtBut it s0.heap s.heap) (q : ∀ h', Heap.ExtBut it s0.heap h' → Q none { s with heap := h' }) :
    wpAny (model P w) A.in1 (do raiseNew (← newExc (.type "StopIteration") [])) Q0 (fun e s' => wpAny (model P w) A (do if (← isInstance e (Value.type "StopIteration")) = true then pure none else throw e) Q E s') s := by
  refine wpAny_bind ?_
  simp only [newExc, newTuple]
  refine wpAny_bind (wpAny_newObj_type ?_ (by size_fits))
  refine wpAny_bind (m := firstArgMember _ _) (wpAny_of_eq (a := Value.none) (by first | rfl | (simp only [firstArgMember]; rfl)) ?_)
  refine wpAny_newObj_type ?_ (by size_fits)
  simp only [raiseNew]
  refine wpAny_bind (wpAny_handled ?_)
  rw [hh]
  refine wpAny_bind (wpAny_pure (wpAny_throw ?_))
  refine wpAny_bind (wpAny_isInstance (T := "StopIteration") (b := true) ⟨_, Heap.get?_push_size _ rfl, rfl⟩ isSubtype_stop ?_)
  exact wpAny_pure (q _ ((hsb.push _).push _))
theorem sw_done {Q : Option Value → Shared → Prop} (hh : A.handled = none) (h : SW w it a es ep t ord ex es.size s.heap) (q : ∀ h', Heap.ExtBut it s.heap h' → Q none { s with heap := h' }) : wpAny (model P w) A (pyNext (.ref it)) Q E s := by
  obtain ⟨first, hit, ⟨o, ho, hd⟩, g, hl, m⟩ := h
  obtain ⟨oi, hoi, hc, hdi⟩ := id hit
  unfold pyNext
  refine wpAny_bind (wpAny_attempt (wpAny_callSpecial?_slot (name := Str.ofString "__next__") hit.ty slot_si_next (wpAny_call_entry slot_si_next hit.ty entry_si_next ?_ (args_si_next _))))
  unfold Builtin.«set_iterator.__next__»
  refine wpAny_bind (m := slotArgs "__next__" 0 _) (wpAny_pure ?_)
  refine wpAny_bind (wpAny_fieldsOf hoi hdi ?_)
  dsimp only
  refine wpAny_bind (wpAny_setEntries_of ho hd g.fits ?_)
  rw [if_neg (by simp)]
  have hh1 : A.in1.handled = none := hh
  cases m with
  | told sl b =>
    dsimp only
    simp only [Int.toNat_natCast]
    refine wpAny_bind (next_told (i := es.size) ho hd g b ?_)
    rw [show (pickOrder (w.params.setOrder a ep) es)[es.size]? = none by rw [← Array.getElem?_toList]; exact List.getElem?_eq_none (by omega)]
    dsimp only [Option.map]
    refine wpAny_bind (wpAny_setField hoi hdi (by simp) ?_)
    exact stop_raised (s0 := s) hh1 (Heap.SameBut.update ..).extBut q
  | place b d =>
    dsimp only
    simp only [Int.toNat_natCast]
    refine wpAny_bind (next_place (i := es.size) ho hd g b d (Nat.le_refl _) ?_)
    rw [show es[es.size]? = none from Array.getElem?_eq_none (Nat.le_refl _)]
    dsimp only [Option.map]
    refine wpAny_bind (wpAny_setField hoi hdi (by simp) ?_)
    exact stop_raised (s0 := s) hh1 (Heap.SameBut.update ..).extBut q
  | drawn tp places op n _ eo c qq =>
    dsimp only
    refine wpAny_bind (wpAny_seqItems eo c ?_)
    dsimp only
    have hpl : places.length = ord.length := by have := congrArg List.length qq; simpa using this
    have hji : (places.map fun (j : Nat) => rawInt (j : Int)).toArray[((es.size : Int)).toNat]? = none := by
      rw [Int.toNat_natCast, List.getElem?_toArray]; exact List.getElem?_eq_none (by rw [List.length_map]; omega)
    rw [hji]
    dsimp only
    refine wpAny_bind (wpAny_setField hoi hdi (by simp) ?_)
    obtain ⟨o1, e1, c1, d1⟩ := flds_put 0 (rawInt 0) hoi hdi
    refine wpAny_bind (wpAny_setField e1 d1 (by simp) ?_)
    exact stop_raised (s0 := s) hh1 ((Heap.SameBut.update ..).trans (Heap.SameBut.update ..)).extBut q
theorem sw_walks (hh : A.handled = none) (hia : it ≠ a) (hie : it ∉ ex) : Walks P w A it (it :: a :: ex) [it] es.size (fun i v => (ord[i]?).map (·.2) = some v) (SW w it a es ep t ord ex) where
  sub := fun b hb => by simp at hb; simp [hb]
  frame := fun i h h' st k => by
    obtain ⟨first, ⟨oi, hoi, hc, hdi⟩, ⟨o, ho, hd⟩, g, hl, m⟩ := st
    exact ⟨first, ⟨oi, k it (by simp) _ hoi, hc, hdi⟩, ⟨o, k a (by simp) _ ho, hd⟩, g, hl, m.stay fun b hb o e => k b (by simp [hb]) o e⟩
  item := fun i s Q E hi st q => by
    obtain ⟨first, _, _, _, hl, _⟩ := id st
    obtain ⟨e, he⟩ : ∃ e, ord[i]? = some e := ⟨_, List.getElem?_eq_getElem (by omega)⟩
    refine sw_item hia hie st he fun h' st' sb => q e.2 h' s.toks (by rw [he]; rfl) st' fun b o hb e => ?_
    exact (sb.2 b (by simpa using hb)).trans e
  done := fun s Q E st q => sw_done hh st fun h' xb => q h' s.toks fun b o hb e => xb b o (by simpa using hb) e
  self := fun i s Q E st q => by
    obtain ⟨first, hit, _⟩ := st
    exact si_self hit q
theorem iter_setI {ns : List Int} {Q : Value → Shared → Prop} (S : SetI w s.heap a ns)
    (q : ∀ (it : Addr) (es : Array (Int × Value)) (ep : Nat) (t : SetTable) (ord : List (Int × Value)) (ex : List Addr) (h' : Heap) (d : Drawn), s.heap.objs.size ≤ it → it < h'.objs.size → (∀ b ∈ ex, s.heap.objs.size ≤ b ∧ b < it) → a < s.heap.objs.size → (∀ b u, s.heap.get? b = some u → h'.get? b = some u) → SW w it a es ep t ord ex 0 h' → (∀ e ∈ ord, EI e) → (ord.map keyI).Perm ns → Q (.ref it) { s with heap := h', drawn := d }) :
    wpAny (model P w) A (pyIter (.ref a)) Q E s := by
  obtain ⟨o, es, ep, t, ho, hex, hd, hel, hp, hn, hb, g⟩ := S
  have hT : s.TypeIs (.ref a) "set" := ⟨o, ho, hex.1⟩
  have ha : a < s.heap.objs.size := Heap.lt_size ho
  refine wpAny_pyIter_slot hT F.slot_set_iter (wpAny_call_entry F.slot_set_iter hT entry_set_iter ?_ (F.args_set_iter_1 _))
  unfold Builtin.«frozenset.__iter__» Builtin.Frozenset.slot0
  refine wpAny_bind (wpAny_bind (m := slotArgs "__iter__" 0 _) (wpAny_pure ?_))
  unfold Builtin.Frozenset.addrOf
  refine wpAny_pure ?_
  unfold Builtin.Frozenset.sizeOf
  refine wpAny_bind (wpAny_bind (wpAny_setEntries_of ho hd g.fits (wpAny_pure ?_)))
  unfold setDrawn
  refine wpAny_bind (wpAny_bind (wpAny_setState_of ho hd g.fits ?_))
  dsimp only
  unfold setsByText
  refine wpAny_bind (wpAny_bind (wpAny_askSetting (wpAny_pure (wpAny_pure ?_))))
  show wpAny _ _ (if (!w.params.followText "set-order" && (!t.plain && decide (es.size > 1))) = true then _ else _) _ _ _
  have fin : ∀ (s1 : Shared) (first : Value) (ord : List (Int × Value)) (ex : List Addr), (∃ h' d, s1 = { s with heap := h', drawn := d }) → s.heap.objs.size ≤ s1.heap.objs.size → (∀ b u, s.heap.get? b = some u → s1.heap.get? b = some u) → (∀ b ∈ ex, s.heap.objs.size ≤ b ∧ b < s1.heap.objs.size) → ord.length = es.size → ord.Perm es.toList → (∀ h', (∀ b u, s1.heap.get? b = some u → h'.get? b = some u) → Mode w h' a es ep t 0 first ord ex) →
      wpAny (model P w) A.in1 (do let x ← setEpoch a; let y ← newFields "set_iterator" [first, rawInt 0, Value.ref a, rawInt es.size, rawInt x]; ret y) (fun fin s' => ∃ v, fin = Fin.done (Flow.ret v) ∧ ∃ T' r, s'.TypeIs v T' ∧ typeLookup (Value.type T') (Str.ofString "__next__") = pure (some r) ∧ Q v s') E s1 := by
    rintro s1 first ord ex ⟨h', d, rfl⟩ hsz k hx hl hpm hm
    refine wpAny_bind (wpAny_setEpoch_of (k _ _ ho) hd g.fits ?_)
    refine wpAny_bind (wpAny_newObj_type (wpAny_pure ⟨_, rfl, "set_iterator", _, ⟨_, Heap.get?_push_size _ rfl, rfl⟩, slot_si_next.lookup, ?_⟩))
    refine q h'.objs.size es ep t ord ex _ d hsz (by rw [Heap.size_push]; exact Nat.lt_succ_self _) hx ha (fun b u e => Heap.get?_push_of_some _ (k b u e)) ⟨first, ⟨_, Heap.get?_push_size _ rfl, rfl, rfl⟩, ⟨o, Heap.get?_push_of_some _ (k _ _ ho), hd⟩, g, hl, hm _ fun b u e => Heap.get?_push_of_some _ e⟩ (fun e he => hel e (hpm.mem_iff.mp he)) ((hpm.map keyI).trans hp)
  cases hb2 : byText w with
  | true =>
    rw [if_neg (by rw [show w.params.followText "set-order" = true from hb2]; simp)]
    refine wpAny_bind (wpAny_pure ?_)
    have hpm := pick_perm (w.params.setOrder a ep) es
    exact fin s (rawInt 0) _ [] ⟨s.heap, s.drawn, rfl⟩ (Nat.le_refl _) (fun _ _ e => e) (fun b hb => by simp at hb) (by rw [hpm.length_eq, Array.length_toList]) hpm (fun h' k => .told 0 hb2)
  | false =>
    cases hd2 : (!t.plain && decide (es.size > 1)) with
    | false =>
      rw [if_neg (by simp)]
      refine wpAny_bind (wpAny_pure ?_)
      exact fin s (rawInt 0) _ [] ⟨s.heap, s.drawn, rfl⟩ (Nat.le_refl _) (fun _ _ e => e) (fun b hb => by simp at hb) (Array.length_toList ..) (.refl _) (fun h' k => .place hb2 hd2)
    | true =>
      rw [if_pos (by rw [show w.params.followText "set-order" = false from hb2]; simp)]
      have hr : (List.range es.size).length = es.size := List.length_range
      refine wpAny_bind ?_
      have hdp : ∀ {Q' : List Nat → Shared → Prop}, (∀ ys d, ys.Perm (List.range es.size) → Q' ys { s with drawn := d }) → wpAny (model P w) A.in1 (drawOrder es.size (List.range es.size)) Q' E s := fun {Q'} z => by
        have z2 := draw_perm (P := P) (w := w) (A := A.in1) (E := E) (List.range es.size) (s := s) (Q := Q') z
        rw [hr] at z2
        exact z2
      refine hdp fun ys d hys => ?_
      refine wpAny_bind ?_
      have hyl : ys.length = es.size := by rw [hys.length_eq, hr]
      simp only [newTuple]
      refine wpAny_newObj_type ?_ (by have := fits_of_scanBound hb; show (List.map (fun (i : Nat) => rawInt (i : Int)) ys).toArray.size ≤ sizeLine; rw [List.size_toArray, List.length_map]; omega)
      have hord : ∀ l : List Nat, (∀ j ∈ l, j < es.size) → l.map (fun j => es[j]?) = (l.filterMap fun j => es[j]?).map some := by
        intro l
        induction l with
        | nil => intro _; rfl
        | cons j r ih =>
          intro hj
          have h1 : es[j]? = some (es[j]'(hj j (by simp))) := Array.getElem?_eq_getElem _
          rw [List.map_cons, ih fun k hk => hj k (by simp [hk]), List.filterMap_cons, h1]; rfl
      have hlt : ∀ j ∈ ys, j < es.size := fun j hj => List.mem_range.mp (hys.mem_iff.mp hj)
      have hq := hord ys hlt
      have hpm : (ys.filterMap fun j => es[j]?).Perm es.toList := (hys.filterMap _).trans (by rw [filterMap_getElem?_range])
      exact fin _ (.ref s.heap.objs.size) _ [s.heap.objs.size] ⟨_, d, rfl⟩ (by show _ ≤ (Heap.push _ _).objs.size; rw [Heap.size_push]; exact Nat.le_succ _) (fun b u e => Heap.get?_push_of_some _ e) (fun b hb => by
        have e : b = s.heap.objs.size := by simpa using hb
        rw [e]; exact ⟨Nat.le_refl _, by show _ < (Heap.push _ _).objs.size; rw [Heap.size_push]; exact Nat.lt_succ_self _⟩) (by have := congrArg List.length hq; simp at this; omega) hpm (fun h' k => .drawn s.heap.objs.size ys _ 0 _ (k _ _ (Heap.get?_push_size _ rfl)) rfl hq)
end
end L2
set_option maxHeartbeats 1000000
namespace L2
open PySem PySem.Spec PyProof.Rows
theorem look_set_len : typeLookup (.type "set") "__len__" = pure (some (.builtin "set.__len__")) := F.slot_set_len.lookup
section
variable {P : Program} {w : World} {A : Around} {E : Value → Shared → Prop} {s : Shared} {a : Addr}
theorem collect_setI {ns : List Int} {Q : List Value → Shared → Prop} (hh : A.handled = none) (S : SetI w s.heap a ns)
    (q : ∀ (vs : List Value) (ms : List Int) (h' : Heap) (d : Drawn) (tk : Nat), (∀ b u, s.heap.get? b = some u → h'.get? b = some u) → s.heap.objs.size ≤ h'.objs.size → IntsAre vs ms → ms.Perm ns → Q vs { s with heap := h', drawn := d, toks := tk }) :
    wpAny (model P w) A (collect (.ref a)) Q E s := by
  unfold collect
  refine wpAny_bind (wpAny_runValue (codeAny_builtin F.entry_proto_collect ?_))
  rw [Around.under_plainId F.plain_proto_collect _]
  show wpAny _ A.in1 (newList [] >>= fun l => again (.builtin "list.__iadd__" ⟨[l, .ref a], []⟩)) _ _ s
  refine wpAny_bind (wpAny_newObj_type ?_)
  refine wpAny_pure ⟨plainId_quiet F.plain_list_iadd _, codeAny_builtin F.entry_list_iadd ?_⟩
  rw [Around.under_plainId F.plain_list_iadd _]
  have k1 : ∀ b u, s.heap.get? b = some u → (s.heap.push { cls := .type "list", data := .seq ([] : List Value).toArray }).get? b = some u := fun b u e => Heap.get?_push_of_some _ e
  have S1 := S.stay fun u e => k1 a u e
  obtain ⟨o, es0, ep0, t0, ho, hex, _⟩ := id S1
  have hT : Shared.TypeIs { s with heap := s.heap.push { cls := .type "list", data := .seq ([] : List Value).toArray } } (.ref a) "set" := ⟨o, ho, hex.1⟩
  have haS : a < s.heap.objs.size := by obtain ⟨o, _, _, _, ho, _⟩ := S; exact Heap.lt_size ho
  show wpAny _ A.in1 (Builtin.List.listExtendWith (.ref s.heap.objs.size) (.ref a) (.ref s.heap.objs.size)) _ _ _
  unfold Builtin.List.listExtendWith
  refine wpAny_bind (wpAny_typeOf hT ?_)
  have h1 : Builtin.List.listSameRef (.ref s.heap.objs.size) (.ref a) = false := by simp [Builtin.List.listSameRef]; exact Nat.ne_of_gt haS
  have h2 : (Value.type "set" == Value.type "list") = false := by decide
  have h3 : (Value.type "set" == Value.type "tuple") = false := by decide
  simp only [h1, h2, h3, Bool.or_false, Bool.false_eq_true, if_false]
  refine wpAny_bind (iter_setI S1 fun it es ep t ord ex h' d hit hit2 hx ha k sw hei hpm => ?_)
  refine wpAny_bind (wpAny_holding ?_)
  have hT' : Shared.TypeIs { s with heap := h', drawn := d } (.ref a) "set" := ⟨o, k _ _ ho, hex.1⟩
  unfold Builtin.List.listLengthHint
  refine wpAny_bind (wpAny_specialOf hT' look_set_len ?_)
  have hsp : splitId "set.__len__" = some ("set", "__len__") := by kernel_rfl
  dsimp only
  rw [hsp]
  dsimp only
  refine wpAny_bind (wpAny_isInstance hT' sub_set_self ?_)
  rw [if_neg (by simp)]
  rw [if_pos (by decide +kernel)]
  refine wpAny_bind (wpAny_typeOf hT' (wpAny_pure ?_))
  rw [if_pos (by decide +kernel)]
  refine wpAny_bind (wpAny_rule ?_)
  have hS1 : h'.get? s.heap.objs.size = some { cls := .type "list", data := .seq ([] : List Value).toArray } := k _ _ (Heap.get?_push_size _ rfl)
  refine wpAny_bind ?_
  show wpAny _ A.in1 (updateSeq s.heap.objs.size (·.push .none) >>= fun _ => updateSeq s.heap.objs.size (·.pop)) _ _ _
  refine wpAny_bind (wpAny_updateSeq (s := { s with heap := h', drawn := d }) hS1 rfl ?_)
  have hS2 := Heap.get?_update_self (Obj.mapSeq (·.push Value.none)) hS1 rfl
  refine wpAny_updateSeq hS2 rfl ?_
  have hS3 := Heap.get?_update_self (Obj.mapSeq (·.pop)) hS2 rfl
  have oth : ∀ b u, b ≠ s.heap.objs.size → h'.get? b = some u → ((h'.update s.heap.objs.size (Obj.mapSeq (·.push Value.none))).update s.heap.objs.size (Obj.mapSeq (·.pop))).get? b = some u :=
    fun b u hb e => (Heap.get?_update_other _ _ (Ne.symm hb)).trans ((Heap.get?_update_other _ _ (Ne.symm hb)).trans e)
  rw [Heap.size_push] at hit ha
  have hia : it ≠ a := Nat.ne_of_gt (Nat.lt_of_lt_of_le haS (Nat.le_trans (Nat.le_succ _) hit))
  have hie : it ∉ ex := fun z => Nat.lt_irrefl _ (hx it z).2
  have hSf : s.heap.objs.size ∉ it :: a :: ex := fun z => by
    rcases List.mem_cons.mp z with z | z
    · exact Nat.ne_of_lt hit z
    · rcases List.mem_cons.mp z with z | z
      · exact Nat.ne_of_gt haS z
      · have z2 := (hx _ z).1
        rw [show (Heap.push s.heap { cls := .type "list", data := .seq ([] : List Value).toArray }).objs.size = s.heap.objs.size + 1 from Heap.size_push ..] at z2
        exact Nat.not_succ_le_self _ z2
  have hl : ord.length = es.size := by obtain ⟨_, _, _, _, hl, _⟩ := sw; exact hl
  have hz : es.size = ns.length := by rw [← hl, ← hpm.length_eq, List.length_map]
  have hzz : es.size ≤ sizeLine := fits_of_scanBound (by rw [hz]; exact S.len)
  have W := (sw_walks (P := P) (w := w) (A := A.in1) (it := it) (a := a) (es := es) (ep := ep) (t := t) (ord := ord) (ex := ex) hh hia hie).toS
  refine wpAny_pure ⟨plainId_quiet F.plain_extend_loop _, codeAny_extend_loopS W hzz _ hSf _ es.size 0 _ _ _ rfl (Nat.zero_le _)
    (W.frame 0 ({ s with heap := h', drawn := d } : Shared) _ s.toks sw (Nat.le_refl _) fun b hb u e => oth b u (fun z => hSf (z ▸ hb)) e) hS3 (ItemsOf.nil _) fun s' acc' c' hm hS' hacc => ?_⟩
  show wpAny _ A (load s.heap.objs.size >>= _) _ _ s'
  refine wpAny_bind (wpAny_load hS' ?_)
  refine wpAny_pure ?_
  obtain ⟨h2, g2, d2, tk2, os2⟩ := s'
  have e1 : g2 = s.gens := hm.gens
  have e2 : d2 = d := hm.drawn
  have e3 : os2 = s.os := hm.os
  subst e1; subst e2; subst e3
  have k2 : ∀ b u, s.heap.get? b = some u → h2.get? b = some u := fun b u e => by
    have hlt := Heap.lt_size e
    exact hm.heap b u (fun z => by
      rcases List.mem_cons.mp z with z | z
      · exact Nat.ne_of_lt hlt z
      · have z2 : b = it := by simpa using z
        exact Nat.ne_of_lt (Nat.lt_trans hlt hit) z2) (oth b u (Nat.ne_of_lt hlt) (k b u (k1 b u e)))
  refine q acc'.toList (ord.map keyI) h2 d2 tk2 k2 (Nat.le_of_lt (Heap.lt_size hS')) ?_ hpm
  have hget : ∀ (i : Nat) (v : Value), acc'.toList[i]? = some v → (ord[i]?).map (·.2) = some v := fun i v e => hacc.2 i v (by rw [← Array.getElem?_toList]; exact e)
  have hlen : acc'.toList.length = ord.length := by rw [Array.length_toList, hacc.1, hl]
  have fin : ∀ (ord : List (Int × Value)) (vs : List Value), vs.length = ord.length → (∀ e ∈ ord, EI e) → (∀ (i : Nat) (v : Value), vs[i]? = some v → (ord[i]?).map (·.2) = some v) → IntsAre vs (ord.map keyI) := by
    intro ord
    induction ord with
    | nil => intro vs h _ _; have : vs = [] := List.length_eq_zero_iff.mp h; subst this; exact .nil
    | cons e r ih =>
      intro vs h he hg
      cases vs with
      | nil => cases h
      | cons v vr =>
        obtain ⟨n, tk, rfl⟩ := he e (by simp)
        have := hg 0 v rfl
        simp at this
        subst this
        exact .cons n tk (ih vr (by simpa using h) (fun e he' => he e (by simp [he'])) (fun i v hv => by simpa using hg (i + 1) v (by simpa using hv)))
  exact fin ord acc'.toList hlen hei hget
end
theorem sorted_put {h : Heap} {D : Addr} {vs : List Value} {out : Array Value} {n : Nat} (ho : h.get? D = some (seqObj "list" vs.toArray n)) : (∃ c, (sortedHeap h D vs out).get? D = some { cls := .type "list", data := .seq out c }) ∧ (∀ b u, b ≠ D → h.get? b = some u → (sortedHeap h D vs out).get? b = some u) ∧ h.objs.size ≤ (sortedHeap h D vs out).objs.size := by
  unfold sortedHeap
  have h1 := get?_update_seq ho (fun _ => #[])
  have h2 := Heap.get?_push_of_some (seqObj "tuple" vs.toArray 0) h1
  have h3 := Heap.get?_push_of_some (seqObj "list" #[] 0) h2
  have h4 := get?_update_seq h3 (fun _ => out)
  refine ⟨⟨_, h4⟩, fun b u hb e => ?_, ?_⟩
  · exact (Heap.get?_update_other _ _ (Ne.symm hb)).trans (Heap.get?_push_of_some _ (Heap.get?_push_of_some _ ((Heap.get?_update_other _ _ (Ne.symm hb)).trans e)))
  · rw [Heap.size_update, Heap.size_push, Heap.size_push, Heap.size_update]; omega
section
variable {P : Program} {w : World} {A : Around} {E : Value → Shared → Prop} {s : Shared} {a : Addr}
theorem sorted_setI {ns : List Int} {Q : Value → Shared → Prop} (hh : A.handled = none) (S : SetI w s.heap a ns) (h64 : ns.length < 64)
    (q : ∀ (D : Addr) (out : Array Value) (c : Nat) (ns' : List Int) (h' : Heap) (d : Drawn) (tk : Nat), s.heap.objs.size ≤ D → h'.get? D = some { cls := .type "list", data := .seq out c } → (∀ b u, s.heap.get? b = some u → h'.get? b = some u) → IntsAre out.toList ns' → ns'.Perm ns → ns'.Pairwise (· ≤ ·) → Q (.ref D) { s with heap := h', drawn := d, toks := tk }) :
    wpAny (model P w) A (call (.builtin "sorted") [.ref a]) Q E s := by
  refine Calls.call_function_entry kind_sorted plain_sorted entry_sorted (args_sorted1 _) ?_
  unfold Builtin.«sorted»
  refine wpAny_bind (m := checkCount "sorted" 1 1 _) (wpAny_pure ?_)
  refine wpAny_bind (collect_setI (A := A.in1) hh S fun vs ms h' d tk k hsz hI hpm => ?_)
  have hvl : vs.length < 64 := by rw [IntsAre.length hI, hpm.length_eq]; exact h64
  refine wpAny_bind (wpAny_newList ?_ (by rw [sizeLine_eq]; omega))
  have hoL : (h'.push (seqObj "list" vs.toArray 0)).get? h'.objs.size = some (seqObj "list" vs.toArray 0) := Heap.get?_push_size _ rfl
  refine wpAny_bind (wpAny_holding (wpAny_call_entry slot_list_sort (s := { s with heap := h'.push (seqObj "list" vs.toArray 0), drawn := d, toks := tk }) ⟨_, hoL, rfl⟩ entry_list_sort (list_sort_tree hoL hI hvl fun out ns' a1 a2 a3 => ⟨_, rfl, ?_⟩) (args_list_sort _)))
  obtain ⟨⟨c, e1⟩, e2, _⟩ := sorted_put (out := out) hoL
  exact wpAny_pure ⟨_, rfl, q h'.objs.size out c ns' _ d tk hsz e1 (fun b u e => e2 b u (Nat.ne_of_lt (Heap.lt_size (k b u e))) (Heap.get?_push_of_some _ (k b u e))) a1 (a2.trans hpm) a3⟩
end
theorem Inv.drew {X : Cx} {pins : List (Addr × Obj)} {σ : St} {H : Hp} {s : Shared} {d : Drawn} (I : Inv X pins σ H s) : Inv X pins σ H { s with drawn := d } := ⟨I.ok, I.os, I.bare, I.base, I.loc, I.cell, I.free, I.freeC, I.pin, I.hok, I.len⟩
noncomputable def setO (w : World) (ns : List Int) : HO := .ext fun a h => SetI w h a ns
section
variable {X : Cx}
theorem setO_ok {w : World} {P : Program} {w' : World} {H : Hp} {h : Heap} {a : Addr} {ns : List Int} (S : SetI w h a ns) : ObjOk P w' H h a (setO w ns) := by
  refine ⟨S, ?_, fun h1 h2 S1 k => S1.stay k⟩
  obtain ⟨o, _, _, _, e, _⟩ := S
  exact ⟨o, e⟩
theorem Inv.setI {pins : List (Addr × Obj)} {σ : St} {H : Hp} {s : Shared} {w : World} {a : Addr} {ns : List Int} (I : Inv X pins σ H s) (e : H a = some (setO w ns)) : SetI w s.heap a ns := (I.hok a _ e).1
noncomputable def rSortS (w : World) : List V → Hp → VK → Prop := fun xs H Q => ∃ (a : Addr) (ns : List Int), xs = [.ref a] ∧ H a = some (setO w ns) ∧ ns.length < 64 ∧ ∀ (l : Addr) (ns' : List Int), H l = none → ns'.Perm ns → ns'.Pairwise (· ≤ ·) → Q (.ref l) (upd H l (.lst (ns'.map V.int)))
theorem call_sortS (hh : X.A.handled = none) : CallR X (.builtin "sorted") (rSortS X.w) := by
  intro pins s σ H xs us Q I r h
  obtain ⟨a, ns, rfl, hq, hz, q⟩ := h
  obtain ⟨u, rfl, ru⟩ := vals1 r
  cases ru
  refine sorted_setI hh (I.setI hq) hz fun D out c ns' h' d tk hD hget k a1 a2 a3 => ?_
  have hn : H D = none := I.hok.fresh hD
  have rv' : Vals (ns'.map V.int) out.toList := vals_ints a1
  refine ⟨.ref D, _, (I.laid (t' := tk) (o := .lst (ns'.map V.int)) k hD ⟨?_, out.toList, c, rv', by simpa using hget⟩).drew, rfl, q _ ns' hn a2 a3⟩
  rw [List.length_map, a2.length_eq, sizeLine_eq]; omega
end
end L2
set_option maxHeartbeats 3000000
namespace L2
open PySem PySem.Spec PyProof.Rows
noncomputable def newS (w : World) : Obj := { cls := .type "set", dict := none, data := .set #[] 0 (.fresh 0 0 (!byText w)) }
theorem newS_is {w : World} {h : Heap} {a : Addr} (e : h.get? a = some (newS w)) : SetI w h a [] :=
  ⟨_, #[], 0, _, e, ⟨rfl, rfl, rfl⟩, rfl, fun e he => by simp at he, .refl _, .nil, by decide, ⟨rfl, .nil, rfl⟩⟩
section
variable {P : Program} {w : World} {A : Around} {E : Value → Shared → Prop} {s : Shared} {a : Addr}
theorem newSet_at {Q : Value → Shared → Prop} (q : Q (.ref s.heap.objs.size) { s with heap := s.heap.push (newS w) }) : wpAny (model P w) A (newSet (.type "set")) Q E s := by
  unfold newSet setsByText
  refine wpAny_bind (wpAny_bind (wpAny_askSetting (wpAny_pure ?_)))
  dsimp only
  simp only [newObj]
  exact wpAny_bind (wpAny_alloc (wpAny_pure q))
end
end L2
set_option maxHeartbeats 3000000
namespace L2
open PySem PySem.Spec PyProof.Rows
noncomputable def addAll (ms : List Int) : List Int := ms.foldl addN []
theorem addAll_snoc (ms : List Int) (n : Int) : addAll (ms ++ [n]) = addN (addAll ms) n := by unfold addAll; rw [List.foldl_append]; rfl
theorem addFrom_len : ∀ (ms ns : List Int), (ms.foldl addN ns).length ≤ ns.length + ms.length
  | [], ns => Nat.le_refl _
  | m :: r, ns => by
    have h1 := addFrom_len r (addN ns m)
    have h2 := addN_len (ns := ns) (n := m)
    rw [List.foldl_cons, List.length_cons]; omega
theorem addAll_len (ms : List Int) : (addAll ms).length ≤ ms.length := by have h := addFrom_len ms []; rw [List.length_nil, Nat.zero_add] at h; exact h
theorem mem_addFrom {m : Int} : ∀ (ms ns : List Int), m ∈ ms.foldl addN ns ↔ m ∈ ns ∨ m ∈ ms
  | [], ns => by simp
  | k :: r, ns => by rw [List.foldl_cons, mem_addFrom r, mem_addN, List.mem_cons, or_assoc]
theorem mem_addAll {m : Int} (ms : List Int) : m ∈ addAll ms ↔ m ∈ ms := by unfold addAll; rw [mem_addFrom]; simp
theorem addFrom_nodup : ∀ (ms ns : List Int), ns.Nodup → (ms.foldl addN ns).Nodup
  | [], ns, h => h
  | k :: r, ns, h => addFrom_nodup r _ (addN_nodup h)
theorem addAll_nodup (ms : List Int) : (addAll ms).Nodup := addFrom_nodup ms [] .nil
section
variable {P : Program} {w : World} {A : Around} {R : Result → Shared → Prop} {I : Addr} {fp wr : List Addr} {G : Array GenState → Array GenState → Prop} {n : Nat} {T : Nat → Value → Prop} {St : Nat → Shared → Prop}
theorem fill_loop (W : WalksS P w A.in1 I fp wr G n T St) (S : Addr) (hSf : S ∉ fp) (ms : List Int) (hms : ms.length = n) (hval : ∀ i v, T i v → ∃ t, v = .int (ms.getD i 0) t) (hb : n + 1 < scanBound) :
    ∀ (k i : Nat) (s : Shared), n - i = k → i ≤ n → St i s → SetI w s.heap S (addAll (ms.take i)) → (∀ s', Moved (S :: wr) G s s' → SetI w s'.heap S (addAll ms) → R (.ok (.ret .none)) s') →
      codeAny (model P w) A (.builtin "set.update.loop" ⟨[.ref S, .ref I], []⟩) R s := by
  have hSw : S ∉ wr := fun h => hSf (W.sub _ h)
  have hsub : ∀ b ∈ wr, b ∈ S :: wr := fun b hb => List.mem_cons_of_mem _ hb
  intro k
  induction k with
  | zero =>
    intro i s hk hi hst hS hR
    have hin : i = n := by omega
    subst hin
    refine codeAny_builtin F.entry_set_update_loop ?_
    rw [Around.under_plainId F.plain_set_update_loop _]
    show wpAny _ A.in1 (pyNext (.ref I) >>= _) _ _ s
    refine wpAny_bind (W.done s _ _ hst fun s' hm => ?_)
    show wpAny _ A.in1 (ret Value.none) _ _ s'
    rw [← hms, List.take_length] at hS
    exact wpAny_pure (hR s' (hm.mono hsub) (hS.stay fun o e => hm.heap S _ hSw e))
  | succ k ih =>
    intro i s hk hi hst hS hR
    have hlt : i < n := by omega
    refine codeAny_builtin F.entry_set_update_loop ?_
    rw [Around.under_plainId F.plain_set_update_loop _]
    show wpAny _ A.in1 (pyNext (.ref I) >>= _) _ _ s
    refine wpAny_bind (W.item i s _ _ hlt hst fun v s' hP hst' hm => ?_)
    obtain ⟨t, rfl⟩ := hval i v hP
    have hS' : SetI w s'.heap S (addAll (ms.take i)) := hS.stay fun o e => hm.heap S _ hSw e
    show wpAny _ A.in1 (holding [Value.int (ms.getD i 0) t] (setAdd S (.int (ms.getD i 0) t)) >>= _) _ _ s'
    have hlen := addAll_len (ms.take i)
    rw [List.length_take] at hlen
    refine wpAny_bind (wpAny_holding (addI hS' (by omega) fun h' sb S2 => ?_))
    have ht : ms.take (i + 1) = ms.take i ++ [ms.getD i 0] := by
      have h1 : ms[i]? = some (ms.getD i 0) := by
        have : i < ms.length := by omega
        rw [List.getD_eq_getElem?_getD, List.getElem?_eq_getElem this]; rfl
      rw [List.take_add_one, h1]; rfl
    rw [← addAll_snoc, ← ht] at S2
    refine wpAny_pure ⟨plainId_quiet F.plain_set_update_loop _, ih (i + 1) _ (by omega) hlt (W.frame _ s' _ _ hst' (Nat.le_succ _) fun b hb o e => ?_) S2 fun s'' hm'' hS'' => ?_⟩
    · rw [sb.2 b (fun h : b = S => hSf (by rw [← h]; exact hb))]; exact e
    · refine hR s'' (Moved.trans W.gtrans ((hm.mono hsub).then_heap (Nat.le_succ _) fun b o hb e => ?_) hm'') hS''
      rw [sb.2 b (fun h : b = S => hb (by rw [h]; exact List.mem_cons_self))]; exact e
end
section
variable {P : Program} {w : World} {A : Around} {E : Value → Shared → Prop} {s : Shared}
theorem set_new_at (a : Value) {Q₁ : Value → Shared → Prop} (h : Q₁ (.ref s.heap.objs.size) { s with heap := s.heap.push (newS w) }) :
    codeAny (model P w) A (.call (.builtin "set.__new__") ⟨[.type "set", a], []⟩) (wants Q₁ E) s := by
  refine codeAny_of_tree ?_
  show wpAny _ A.in1 (do checkBuiltinCall "set.__new__" ⟨[.type "set", a], []⟩; again (.builtin "set.__new__" ⟨[.type "set", a], []⟩)) _ _ s
  refine wpAny_bind (wpAny_of_eq (F.newCall_set_1 a) (wpAny_pure ⟨plainId_quiet F.plain_set_new _, codeAny_builtin F.entry_set_new ?_⟩))
  rw [Around.under_plainId F.plain_set_new _]
  unfold Builtin.«set.__new__» Builtin.Frozenset.newClass
  have hsub := sub_set_self
  obtain ⟨hp, g, d, tk, os⟩ := s
  dsimp only
  wp_walk
  refine wpAny_askSetting (wpAny_pure ?_)
  dsimp only
  simp only [newObj]
  exact wpAny_bind (wpAny_alloc (wpAny_pure (wpAny_pure h)))
theorem set_of_list {l : Addr} {items : Array Value} {ns : List Int} {Q : Value → Shared → Prop} (hh : A.handled = none) (hl : s.heap.IsList l items) (hi : IntsAre items.toList ns) (hb : items.size + 1 < scanBound)
    (h : ∀ (h' : Heap) (tk : Nat), SetI w h' s.heap.objs.size (addAll ns) → (∀ b o, b < s.heap.objs.size → s.heap.get? b = some o → h'.get? b = some o) → Q (.ref s.heap.objs.size) { s with heap := h', toks := tk }) :
    wpAny (model P w) A (call (.type "set") [.ref l]) Q E s := by
  obtain ⟨c, tl, hmro⟩ := F.called_set.mro
  have hmade := F.called_set.made
  have hsub := F.called_set.sub
  refine wpAny_call (codeAny_of_tree ?_)
  show wpAny _ _ (callAny (.type "set") _) _ _ _
  refine wpAny_pure ⟨Code.quiet_builtin _ (by decide +kernel), codeAny_builtin F.entry_type_call ?_⟩
  rw [Around.under_plain (weight_type_call_type "set" [.ref l] []) rfl]
  have h1 := F.called_set.notType
  have h2 := F.called_set.canCreate
  have hct := F.typeCall_set_1 (.ref l)
  repeat (any_goals (first | assumption | wp_step))
  refine codeAny_mono (set_new_at (.ref l) (E := E) (Q₁ := fun obj s₁ => obj = .ref s.heap.objs.size ∧ s₁ = { s with heap := s.heap.push (newS w) }) ⟨rfl, rfl⟩) fun r s₁ hr => ?_
  cases r with
  | error e => exact hr
  | ok fl =>
    cases fl with
    | ret obj =>
      obtain ⟨rfl, rfl⟩ := hr
      have hS : (s.heap.push (newS w)).get? s.heap.objs.size = some (newS w) := Heap.get?_push_size _ rfl
      have hT : Shared.TypeIs { s with heap := s.heap.push (newS w) } (.ref s.heap.objs.size) "set" := ⟨_, hS, rfl⟩
      have hli := F.called_set.init.lookup
      have hbi := F.called_set.init.bind (.ref s.heap.objs.size)
      repeat (any_goals (first | assumption | wp_step))
      refine codeAny_mono (codeAny_call_builtin (R := wants (fun r s₂ => r = .none ∧ ∃ h' tk, s₂ = { s with heap := h', toks := tk } ∧ SetI w h' s.heap.objs.size (addAll ns) ∧ (∀ b o, b < s.heap.objs.size → s.heap.get? b = some o → h'.get? b = some o)) E) F.called_set.init.plain F.entry_set_init (check_set_init_1 hT ?_)) fun r₂ s₂ hr₂ => ?_
      · obtain ⟨ol, hol, hcl, nl, hdl⟩ := hl
        obtain ⟨ocls, odict, odata, oslots⟩ := ol
        simp only at hcl hdl
        subst hcl; subst hdl
        have hol' : (s.heap.push (newS w)).get? l = some { cls := .type "list", dict := odict, data := .seq items nl, slots := oslots } := Heap.get?_push_of_some _ hol
        have hsls := F.sub_list_set
        have hslf := F.sub_list_frozenset
        have hne : (Value.type "list" == Value.type "dict") = false := by decide
        have hl1 : (s.heap.push (newS w)).IsList l items := ⟨_, hol', rfl, nl, rfl⟩
        unfold Builtin.«set.__init__» noKeywords Builtin.Frozenset.updateFrom
        generalize hPI : pyIter = PI
        wp_walk
        subst hPI
        refine wpAny_pyIter_list hl1 (wpAny_bind (wpAny_runValue ?_))
        have hlS : l < s.heap.objs.size := Heap.lt_size hol
        have hh3 : A.in1.in1.in1.handled = none := hh
        have hneI : l ≠ (s.heap.push (newS w)).objs.size := by rw [Heap.size_push]; exact Nat.ne_of_lt (Nat.lt_succ_of_lt hlS)
        have hSf : s.heap.objs.size ∉ [(s.heap.push (newS w)).objs.size, l] := by
          rw [Heap.size_push]; simp only [List.mem_cons, List.mem_singleton, List.not_mem_nil, or_false, not_or]
          exact ⟨Nat.ne_of_lt (Nat.lt_succ_self _), Nat.ne_of_gt hlS⟩
        have hlen : ns.length = items.size := by rw [← IntsAre.length hi, Array.length_toList]
        refine fill_loop ((Walks.list hh3 _ l hneI items).toS) s.heap.objs.size hSf ns hlen (fun i v hv => IntsAre.int_at hi i v (by rw [Array.getElem?_toList]; exact hv)) hb (items.size - 0) 0 _ (by omega) (Nat.zero_le _) ⟨⟨_, Heap.get?_push_size _ rfl, rfl, rfl⟩, (hl1.push _)⟩ (newS_is (Heap.get?_push_of_some _ hS)) ?_
        intro s' hm hS'
        obtain ⟨h', g', d', tk', os'⟩ := s'
        have eg : g' = s.gens := hm.gens
        have ed : d' = s.drawn := hm.drawn
        have eo : os' = s.os := hm.os
        subst eg; subst ed; subst eo
        show wpAny _ _ _ _ _ _
        refine wpAny_pure ?_
        show wpAny _ _ (ret Value.none) _ _ _
        refine wpAny_pure ⟨rfl, h', tk', rfl, hS', fun b o hb e => ?_⟩
        refine hm.heap b o (fun z => ?_) (Heap.get?_push_of_some _ (Heap.get?_push_of_some _ e))
        rcases List.mem_cons.mp z with z | z
        · exact Nat.ne_of_lt hb z
        · have z2 : b = (s.heap.push (newS w)).objs.size := by simpa using z
          rw [Heap.size_push] at z2
          exact Nat.ne_of_lt (Nat.lt_succ_of_lt hb) z2
      · cases r₂ with
        | error e => exact hr₂
        | ok fl₂ => cases fl₂ with
          | ret r => obtain ⟨rfl, h', tk, rfl, hS', hk'⟩ := hr₂; (repeat (any_goals (first | assumption | wp_step))); exact h _ _ hS' hk'
          | _ => exact hr₂.elim
    | _ => exact hr.elim
end
section
variable {X : Cx}
noncomputable def rSetOf (w : World) (K : PySem.W.Frag) : List V → Hp → VK → Prop := fun xs H Q => ∃ (a : Addr) (ns : List Int), xs = [.ref a] ∧ SqL K H a (ns.map V.int) ∧ ns.length + 1 < 4096 ∧ ∀ l, H l = none → Q (.ref l) (upd H l (setO w (addAll ns)))
theorem call_setL (hh : X.A.handled = none) : CallR X (.type "set") (rSetOf X.w X.K) := by
  intro pins s σ H xs us Q I r h
  obtain ⟨a, ns, rfl, hq, hz, q⟩ := h
  obtain ⟨u, rfl, ru⟩ := vals1 r
  cases ru
  obtain ⟨its, rv, pl, _⟩ := I.list hq
  have hl := rv.length
  rw [List.length_map] at hl
  refine set_of_list hh pl.isList (intsAre_of rv) (by rw [List.size_toArray]; show its.length + 1 < 4096; omega) fun h' tk S' k => ?_
  exact ⟨.ref s.heap.objs.size, _, I.laid (t' := tk) (fun b u e => k b u (Heap.lt_size e) e) (Nat.le_refl _) (setO_ok S'), rfl, q _ (I.hok.fresh (Nat.le_refl _))⟩
end
end L2
set_option maxHeartbeats 1000000
namespace L2
open PySem PySem.Spec PyProof.Rows
section
variable {X : Cx}
noncomputable def rInsert : V → List V → Hp → VK → Prop := fun x vs H Q => ∃ l xs i y, x = .ref l ∧ vs = [.int i, y] ∧ H l = some (.lst xs) ∧ 0 ≤ i ∧ i ≤ xs.length ∧ xs.length < 1000 ∧ Q .non (upd H l (.lst (xs.take i.toNat ++ y :: xs.drop i.toNat)))
theorem mt_insert : MtM X "list.insert" rInsert := by
  intro pins s σ H x vs v us Q I rx rv h
  obtain ⟨l, xs, i, y, rfl, rfl, hH, h0, h1, hz, q⟩ := h
  cases rx
  obtain ⟨u1, u2, rfl, r1, r2⟩ := rv.two
  obtain ⟨tk, rfl⟩ := r1
  obtain ⟨z, its, n, r, hl, e⟩ := I.lstM hH
  have hfit : ¬(!Builtin.List.listFitsIndex i) = true := by
    have := fitsIndex_both (k := i) (by omega) (by omega)
    simpa using this
  refine call_meets F.slot_list_insert ⟨_, e, rfl⟩ F.entry_list_insert (F.args_list_insert_3 _ _ _) (AutoSeq1.list_insert_list_int_val_1 l its.toArray n i tk u2 hfit (by rw [List.size_toArray, sizeLine_eq]; omega)) ⟨e, ?_⟩
  refine ⟨.non, _, I.lset (its' := its.take i.toNat ++ u2 :: its.drop i.toNat) hH e ?_ (Vals.append (r.take _) (.cons r2 (r.drop _))) ?_, rfl, q⟩
  · dsimp only
    rw [if_neg (by omega), List.size_toArray, Nat.min_eq_left (by omega)]
    apply Array.ext'
    simp [List.extract_eq_take_drop]
    exact List.take_of_length_le (by simp)
  · rw [sizeLine_eq]; simp; omega
end
end L2
set_option maxHeartbeats 1000000
namespace L2
open PySem PySem.Spec PyProof.Rows
section
variable {K : PySem.W.Frag} {a : Addr} {xs : List V} {g : TG} {tt : TT} {B : TB} {σ : St} {H : Hp} {Q : St → Hp → Prop}
theorem loop_tup (Pv : Nat → St → Hp → Prop) (h0 : Pv 0 σ H) (hl : ∀ i σ H, i ≤ xs.length → Pv i σ H → SqT K H a xs)
    (hs : ∀ i x σ H (R : St → Hp → Prop), xs[i]? = some x → Pv i σ H → (∀ σ' H', Pv (i + 1) σ' H' → R σ' H') → g x σ H fun σ2 H2 => tt σ2 H2 fun b H3 => if b = true then B σ2 H3 R else R σ2 H3)
    (hd : ∀ σ H, Pv xs.length σ H → Q σ H) : LoopT (Itt K a) g tt B σ H Q := by
  refine loop_by (n := xs.length) Pv h0 (fun i σ H hi p => ⟨xs, xs[i], hl i σ H (Nat.le_of_lt hi) p, by simp [hi]⟩) (fun σ H p => ⟨xs, hl _ σ H (Nat.le_refl _) p, Nat.le_refl _⟩) (fun i σ H R hi p hR x H' y => ?_) hd
  obtain ⟨e, y⟩ := y
  subst e
  exact hs i x σ _ R (y xs (hl i σ _ (Nat.le_of_lt hi) p)) p hR
end
noncomputable def wr : Deed → Option Int
  | .set b _ => some b
  | .add b _ => some b
  | _ => none
end L2
set_option maxHeartbeats 1000000
namespace L2
open PySem PySem.Spec PyProof.Rows
mutual
noncomputable def tame : PyData → Bool
  | .int i => decide (i.natAbs < 10 ^ 13)
  | .str x => x.cps.all (· < 0x110000) && decide (x.cps.size ≤ 10)
  | .list xs => tameAll xs
  | .tuple xs => tameAll xs
  | .none => false
  | .bool _ => false
  | .dict _ => false
noncomputable def tameAll : List PyData → Bool
  | [] => true
  | x :: xs => tame x && tameAll xs
end
mutual
noncomputable def cells : PyData → Nat
  | .list xs => cellsAll xs
  | .tuple xs => cellsAll xs
  | .int _ => 0
  | .str _ => 0
  | .none => 0
  | .bool _ => 0
  | .dict _ => 0
noncomputable def cellsAll : List PyData → Nat
  | [] => 0
  | x :: xs => cells x + 1 + cellsAll xs
end
theorem log_lt {n : Nat} (h : n < 10 ^ 13) : n.log2 < 44 := by
  by_cases hn : n = 0
  · subst hn; decide
  · exact (Nat.log2_lt hn).mpr (Nat.lt_of_lt_of_le h (by decide))
mutual
theorem tame_show : ∀ d : PyData, tame d = true → PyData.showable d = true
  | .int i, h => by
    have h1 : i.natAbs < 10 ^ 13 := by simpa only [tame, decide_eq_true_eq] using h
    have := log_lt h1
    simp only [PyData.showable, decide_eq_true_eq]; omega
  | .str x, _ => rfl
  | .list xs, h => tameAll_show xs (by simpa only [tame] using h)
  | .tuple xs, h => tameAll_show xs (by simpa only [tame] using h)
theorem tameAll_show : ∀ ds : List PyData, tameAll ds = true → PyData.showableAll ds = true
  | [], _ => rfl
  | x :: xs, h => by
    have h1 : (tame x && tameAll xs) = true := by simpa only [tameAll] using h
    rw [Bool.and_eq_true] at h1
    simp only [PyData.showableAll, tame_show x h1.1, tameAll_show xs h1.2, Bool.and_self]
end
mutual
theorem tame_lay : ∀ d : PyData, tame d = true → PyData.canLay0 d = true
  | .int i, h => rfl
  | .str x, h => by
    have h1 : (x.cps.all (· < 0x110000) && decide (x.cps.size ≤ 10)) = true := by simpa only [tame] using h
    rw [Bool.and_eq_true] at h1
    simpa only [PyData.canLay0, PyData.strOk] using h1.1
  | .list xs, h => tameAll_lay xs (by simpa only [tame] using h)
  | .tuple xs, h => tameAll_lay xs (by simpa only [tame] using h)
theorem tameAll_lay : ∀ ds : List PyData, tameAll ds = true → PyData.canLayAll0 ds = true
  | [], _ => rfl
  | x :: xs, h => by
    have h1 : (tame x && tameAll xs) = true := by simpa only [tameAll] using h
    rw [Bool.and_eq_true] at h1
    simp only [PyData.canLayAll0, tame_lay x h1.1, tameAll_lay xs h1.2, Bool.and_self]
end
mutual
theorem tame_short : ∀ d : PyData, tame d = true → PyData.intsShort 14 d = true
  | .int i, h => by
    have h1 : i.natAbs < 10 ^ 13 := by simpa only [tame, decide_eq_true_eq] using h
    have e := int_text_length_le10 (k := 13) (by decide) h1
    simp only [PyData.intsShort, decide_eq_true_eq]
    show (Str.ofString (toString i)).length ≤ 14
    rw [PySem.ofString_length]; exact e
  | .str x, h => rfl
  | .list xs, h => tameAll_short xs (by simpa only [tame] using h)
  | .tuple xs, h => tameAll_short xs (by simpa only [tame] using h)
theorem tameAll_short : ∀ ds : List PyData, tameAll ds = true → PyData.intsShortAll 14 ds = true
  | [], _ => rfl
  | x :: xs, h => by
    have h1 : (tame x && tameAll xs) = true := by simpa only [tameAll] using h
    rw [Bool.and_eq_true] at h1
    simp only [PyData.intsShortAll, tame_short x h1.1, tameAll_short xs h1.2, Bool.and_self]
end
mutual
theorem tame_weight : ∀ d : PyData, tame d = true → PyData.weight d ≤ 46 * cells d + 45
  | .int i, h => by
    have h1 : i.natAbs < 10 ^ 13 := by simpa only [tame, decide_eq_true_eq] using h
    have := log_lt h1
    simp only [PyData.weight, cells]
    split <;> omega
  | .str x, h => by
    have h1 : (x.cps.all (· < 0x110000) && decide (x.cps.size ≤ 10)) = true := by simpa only [tame] using h
    rw [Bool.and_eq_true, decide_eq_true_eq] at h1
    simp only [PyData.weight, cells]; omega
  | .list xs, h => by
    have := tameAll_weight xs (by simpa only [tame] using h)
    simp only [PyData.weight, cells]; omega
  | .tuple xs, h => by
    have := tameAll_weight xs (by simpa only [tame] using h)
    simp only [PyData.weight, cells]; omega
theorem tameAll_weight : ∀ ds : List PyData, tameAll ds = true → PyData.weightAll ds ≤ 46 * cellsAll ds
  | [], _ => Nat.le_refl _
  | x :: xs, h => by
    have h1 : (tame x && tameAll xs) = true := by simpa only [tameAll] using h
    rw [Bool.and_eq_true] at h1
    have h2 := tame_weight x h1.1
    have h3 := tameAll_weight xs h1.2
    simp only [PyData.weightAll, cellsAll]; omega
end
theorem tame_shown {d : PyData} (h : tame d = true) (hc : cells d ≤ 5000) (hd : d.depth ≤ 64) : d.showable = true ∧ d.depth ≤ 100 ∧ d.shown.length ≤ sizeLine := by
  refine ⟨tame_show d h, by omega, ?_⟩
  have h1 := PyData.shown_le 14 (by decide) d (PyData.leavesShort_of_canLay0 14 d (tame_lay d h) (tame_short d h))
  have h2 := tame_weight d h
  have e : sizeLine = 16777216 := by decide
  have h3 : (14 + 2) * d.weight ≤ 16 * (46 * 5000 + 45) := Nat.mul_le_mul (by decide) (by omega)
  omega
theorem tame_shaped {d : PyData} (h : tame d = true) (hd : d.depth ≤ 64) (hs : ∃ xs, d = .list xs) : SeqAt.shaped d = true := by
  obtain ⟨xs, rfl⟩ := hs
  have h1 := tame_lay _ h
  have h1 : PyData.canLayAll0 xs = true := by simpa only [PyData.canLay0] using h1
  show (PyData.canLayAll0 xs && decide (PyData.depth (.list xs) ≤ 64)) = true
  rw [h1, decide_eq_true hd]; rfl
theorem tame_nodict {d : PyData} (h : tame d = true) : d.hasDict = false := PyData.hasDict_of_canLay _ (tame_lay d h)
theorem tameAll_map {α : Type} {f : α → PyData} : ∀ {l : List α}, (∀ x ∈ l, tame (f x) = true) → tameAll (l.map f) = true
  | [], _ => rfl
  | x :: r, h => by
    simp only [List.map_cons, tameAll, h x (List.mem_cons_self ..), tameAll_map fun y hy => h y (List.mem_cons_of_mem _ hy), Bool.and_self]
theorem cellsAll_map {α : Type} {f : α → PyData} {n : Nat} : ∀ {l : List α}, (∀ x ∈ l, cells (f x) ≤ n) → cellsAll (l.map f) ≤ (n + 1) * l.length
  | [], _ => Nat.zero_le _
  | x :: r, h => by
    have h1 := h x (List.mem_cons_self ..)
    have h2 := cellsAll_map (l := r) fun y hy => h y (List.mem_cons_of_mem _ hy)
    simp only [List.map_cons, cellsAll, List.length_cons, Nat.mul_add]; omega
theorem depthAll_map {α : Type} {f : α → PyData} {n : Nat} : ∀ {l : List α}, (∀ x ∈ l, (f x).depth ≤ n) → PyData.depthAll (l.map f) ≤ n
  | [], _ => Nat.zero_le _
  | x :: r, h => by
    have h1 := h x (List.mem_cons_self ..)
    have h2 := depthAll_map (l := r) fun y hy => h y (List.mem_cons_of_mem _ hy)
    simp only [List.map_cons, PyData.depthAll]; omega
theorem ints_tame {ns : List Int} (h : ∀ n ∈ ns, -1 ≤ n ∧ n ≤ 100) (hl : ns.length ≤ 1000) : tame (intsD ns) = true ∧ cells (intsD ns) ≤ 5000 ∧ (intsD ns).depth ≤ 64 := by
  have d1 := tameAll_map (l := ns) (f := PyData.int) fun n hn => by
    have := h n hn
    simp only [tame, decide_eq_true_eq]; omega
  have d2 := cellsAll_map (l := ns) (f := PyData.int) (n := 0) fun n hn => Nat.le_refl _
  have d3 := depthAll_map (l := ns) (f := PyData.int) (n := 0) fun n hn => Nat.le_refl _
  refine ⟨?_, ?_, ?_⟩
  · simp only [intsD, tame, d1]
  · simp only [intsD, cells]; omega
  · show PyData.depthAll (ns.map .int) + 1 ≤ 64
    omega
end L2
set_option maxHeartbeats 1000000
namespace L2
open PySem PySem.Spec PyProof.Rows
section
variable {prog : Program} {w : World} {K : Type} [DecidableEq K] {knd : HeapKind prog w K} {A : Around} {E : Value → Shared → Prop} {s : Shared} {d a : Addr} {k : K} {xs : List (K × Addr × Value)}
theorem setdef_heap {v : Value} {Q : Value → Shared → Prop} (hu : knd.room A) (hkey : knd.is s.heap k a) (hm : s.heap.DictOfH knd d xs) (hsz : xs.length ≤ sizeLine)
    (h1 : ∀ p, atKey xs k = some p → Q p.2 { s with toks := s.toks + knd.draws k })
    (h2 : atKey xs k = none → ∀ h', h'.DictOfH knd d (storedH xs k a v) → Heap.SameBut d s.heap h' → Q v { s with heap := h', toks := s.toks + knd.draws k }) :
    wpAny (model prog w) A (dictSetDefault d (.ref a) v) Q E s := by
  obtain ⟨o, es, ep, ho, hc, hd, he, his, hn⟩ := hm
  unfold dictSetDefault
  try with_reducible refine wpAny_holding ?_
  refine wpAny_bind (knd.pyHash hu hkey (wpAny_bind (wpAny_dictFind_heap (s := { s with toks := s.toks + knd.draws k }) hu hkey ho hd he his hn ?_ ?_)))
  · intro hno
    have hnot : k ∉ xs.map (·.1) := not_mem_keys_of_get hno
    refine wpAny_bind (wpAny_rule (wpAny_bind (wpAny_updateDictKeys (hz := by have e := size_of_entries he; omega) (s := { s with toks := s.toks + knd.draws k }) ho hd (wpAny_pure (h2 (atKey_none_of_get hno) _ ⟨_, _, ep + 1, Heap.get?_update_self _ ho (Obj.isFreed_of_dict (Obj.data_mapDictKeys hd _)), hc.mapDictKeys _, Obj.data_mapDictKeys hd _, ?_, ?_, ?_⟩ (Heap.SameBut.update ..))))))
    · rw [storedH_new (atKey_none_of_get hno)]; simp [he, entryOfKey]
    · rw [storedH_new (atKey_none_of_get hno)]; intro x hx
      rcases List.mem_append.mp hx with hx | hx
      · exact knd.keeps (his x hx) ho hd (Heap.SameBut.update ..)
      · simp only [List.mem_singleton] at hx; subst hx; exact knd.keeps hkey ho hd (Heap.SameBut.update ..)
    · rw [storedH_new (atKey_none_of_get hno), List.map_append, List.nodup_append]
      refine ⟨hn, by simp, fun x hx y hy => ?_⟩
      simp only [List.map_cons, List.map_nil, List.mem_singleton] at hy
      subst hy
      exact fun e => hnot (e ▸ hx)
  · intro j p hj
    refine wpAny_bind (wpAny_dictEntries (s := { s with toks := s.toks + knd.draws k }) ho hd ?_)
    rw [entry_at he j, hj]
    exact wpAny_bind (wpAny_rule (wpAny_pure (h1 p (atKey_of_get hn hj))))
end
section
variable {X : Cx} {o e f : Expr} {td ty tx : TE} {apos cpos : Pos}
noncomputable def tDSet2 (td ty tx : TE) : TE := fun σ H Q => td σ H fun x H1 => ∃ a, x = .ref a ∧ IsD H1 a ∧ ty σ H1 fun y H2 => tx σ H2 fun z H3 => ∃ kvs k b, y = .ref b ∧ H3 a = some (.dT kvs) ∧ H3 b = some (.tup (k.map kV)) ∧ kvs.length < sizeLine ∧
  (∀ v, valV kvs k = some v → Q v H3) ∧ (valV kvs k = none → Q z (upd H3 a (.dT (putK kvs k z))))
theorem pe_dset2 (hu : X.A.units + 1 < cLine) (ho : PE X o td) (he : PE X e ty) (hf : PE X f tx) (m : M2 X o "setdefault" apos e f cpos) : PE X (.Call (.Attribute o "setdefault" apos) [e, f] [] cpos) (tDSet2 td ty tx) := by
  intro pins s σ H Q I h
  refine wpAny_Call_method m.base m.few m.line PySem.F.plainAttrs_dict PySem.F.slot_dict_setdefault PySem.F.type_dict_setdefault (thn (ho pins s σ H _ I h) fun u s1 hq_ => ?_)
  obtain ⟨x, H1, I1, rx, a, ex, d, q1⟩ := hq_
  subst ex
  obtain rfl : u = Value.ref a := rx
  obtain ⟨t1, t2, _⟩ := isD_at I1 d
  refine ⟨t1, t2, ?_⟩
  rw [m.trees]
  refine Calls.callWith_builtin rfl (Calls.evalArgs_plain (Calls.spliced_cons (thn (he pins s1 σ H1 _ I1 q1) fun iv s2 ⟨y, H2, I2, ry, q2⟩ => Calls.spliced_cons (thn (hf pins s2 σ H2 _ I2 q2) fun fv s3 ⟨z, H3, I3, rz, kvs, k, b, ey, ea, eb, hl, g1, g2⟩ => Calls.spliced_nil ?_))))
  subst ey
  cases (show iv = Value.ref b from ry)
  obtain ⟨zz, hd, xs, rel, dd⟩ := dt_of I3.hok ea
  have hz : xs.length ≤ sizeLine := by rw [← Paired.length rel]; exact zz
  obtain ⟨q0, _, _, hq0, hc0, hdd0, _⟩ := id dd
  have hty : s3.TypeIs (.ref a) "dict" := ⟨q0, hq0, hc0.1⟩
  refine wpAny_call_entry PySem.F.slot_dict_setdefault hty PySem.F.entry_dict_setdefault ?_ (PySem.F.args_dict_setdefault_3 _ _ _)
  unfold Builtin.«dict.setdefault»
  refine wpAny_bind ?_
  unfold Builtin.Dict.keyAndDefault
  refine wpAny_bind (wpAny_notOrdered_dict hty ?_)
  show wpAny _ _ (pure (a, Value.ref b, some fv)) _ _ s3
  refine wpAny_pure ?_
  show wpAny _ _ (if (a == sysModules) = true then _ else (dictSetDefault a (.ref b) fv >>= _)) _ _ s3
  rw [if_neg (by rw [hd]; exact Bool.false_ne_true)]
  refine wpAny_bind (setdef_heap (knd := tupleKind (mixKind X.prog X.w)) (tupleKind_room_in1 hu) (key_of I3.hok eb) dd hz (fun p hp => wpAny_pure ⟨_, rfl, ?_⟩) (fun hn h' dd' hs => wpAny_pure ⟨_, rfl, ?_⟩))
  · have r := rel.val k
    rw [hp] at r
    cases ev : valV kvs k with
    | none => rw [ev] at r; exact r.elim
    | some v => rw [ev] at r; exact ⟨v, H3, I3.tok _, r, g1 v ev⟩
  · have r := rel.val k
    rw [hn] at r
    have ev : valV kvs k = none := by
      cases ev : valV kvs k with
      | none => rfl
      | some v => rw [ev] at r; exact r.elim
    have hl' : (putK kvs k z).length ≤ sizeLine := by have := length_putK kvs k z; omega
    obtain ⟨q, es, ep, hq, h2, h3, h4, _, h5⟩ := dd'
    refine ⟨z, _, d_write (ob := .dT (putK kvs k z)) I3 (by rw [ea]; exact True.intro) hs ⟨q, hq⟩ ⟨hl', hd, _, (rel.put k eb rz).keeps fun c ys ec => ?_, q, es, ep, hq, h2, h3, h4, h5⟩, rz, g2 ev⟩
    rw [upd_ne (ne_of ec ea (fun z => nomatch z))]
    exact ec
end
section
variable {X : Cx}
theorem range_any {bs : List Bool} {f : Nat → Bool} (hf : ∀ i b, bs[i]? = some b → f i = b) : (List.range bs.length).any f = bs.any id := by
  rw [Bool.eq_iff_iff, List.any_eq_true, List.any_eq_true]
  constructor
  · rintro ⟨i, hi, h⟩
    have hi := List.mem_range.mp hi
    have := hf i bs[i] (List.getElem?_eq_getElem hi)
    exact ⟨bs[i], List.getElem_mem hi, by rw [← this]; exact h⟩
  · rintro ⟨b, hb, h⟩
    obtain ⟨i, hi, e⟩ := List.getElem_of_mem hb
    exact ⟨i, List.mem_range.mpr hi, by rw [hf i b (by rw [List.getElem?_eq_getElem hi, e])]; exact h⟩
noncomputable def rAnyB (K : PySem.W.Frag) : List V → Hp → VK → Prop := fun xs H Q => ∃ (a : Addr) (bs : List Bool), xs = [.ref a] ∧ SqL K H a (bs.map V.bl) ∧ Q (.bl (bs.any id)) H
theorem call_anyB (hh : X.A.handled = none) : CallR X (.builtin "any") (rAnyB X.K) := by
  intro pins s σ H xs us Q I r h
  obtain ⟨a, bs, rfl, hq, q⟩ := h
  obtain ⟨u, rfl, ru⟩ := vals1 r
  cases ru
  obtain ⟨its, rv, pl, _⟩ := I.list hq
  have hlen := rv.length
  rw [List.length_map] at hlen
  have hl := pl.isList
  have hne : a ≠ s.heap.objs.size := by obtain ⟨o, e, _⟩ := hl; exact Nat.ne_of_lt (Heap.lt_size e)
  have hval : ∀ (i : Nat) (v : Value), its.toArray[i]? = some v → v = .bool (bs.getD i false) := fun i v e => by
    rw [List.getElem?_toArray] at e
    have hi : i < bs.length := by rw [hlen]; exact (List.getElem?_eq_some_iff.mp e).1
    obtain ⟨u, e2, r2⟩ := rv.get (i := i) (x := V.bl bs[i]) (by rw [List.getElem?_map, List.getElem?_eq_getElem hi]; rfl)
    rw [e] at e2; cases e2
    have r2 : v = Value.bool bs[i] := r2
    rw [r2, List.getD_eq_getElem?_getD, List.getElem?_eq_getElem hi]; rfl
  refine call_any_walk (wpAny_pyIter_list hl ⟨_, _, _, _, _, _, fun i => bs.getD i false, rfl, Walks.list (by exact hh) _ a hne its.toArray, ⟨⟨_, Heap.get?_push_size _ rfl, rfl, rfl⟩, hl.push _⟩, fun i v s Q E hP hQ => ?_, fun h' tk k => ?_⟩)
  · rw [hval i v hP]; exact wpAny_truthy_bool hQ
  · have e : (List.range its.toArray.size).any (fun i => bs.getD i false) = bs.any id := by
      rw [List.size_toArray, ← hlen]
      exact range_any fun i b hb => by rw [List.getD_eq_getElem?_getD, hb]; rfl
    rw [e]
    exact ⟨.bl (bs.any id), H, I.kept (t' := tk) (fun b o e => k b o (by simpa using Nat.ne_of_lt (Heap.lt_size e)) (Heap.get?_push_of_some _ e)), rfl, q⟩
end
end L2
set_option maxHeartbeats 1000000
namespace L2
open PySem PySem.Spec PyProof.Rows
noncomputable abbrev Pl := Int × Int
noncomputable def plK (p : Pl) : List Key := [.inl p.1, .inl p.2]
theorem plK_inj {p q : Pl} (h : plK p = plK q) : p = q := by
  obtain ⟨a, b⟩ := p
  obtain ⟨c, d⟩ := q
  simp only [plK, List.cons.injEq, Sum.inl.injEq, and_true] at h
  rw [h.1, h.2]
def TK (H H' : Hp) : Prop := ∀ b xs, H b = some (.tup xs) → H' b = some (.tup xs)
theorem TK.trans {H H1 H2 : Hp} (a : TK H H1) (b : TK H1 H2) : TK H H2 := fun c xs h => b c xs (a c xs h)
theorem Ext.tk {H H' : Hp} (e : Ext [] H H') : TK H H' := fun b xs h => e b _ (by simp) h
theorem TK.put {H : Hp} {t : Addr} {o : HO} (h : ∀ ys, H t ≠ some (.tup ys)) : TK H (upd H t o) := fun b xs e => by
  have n : b ≠ t := fun z => by rw [z] at e; exact h xs e
  rw [upd_ne n]; exact e
def PlAt (H : Hp) (v : V) (p : Pl) : Prop := ∃ b, v = .ref b ∧ H b = some (.tup [.int p.1, .int p.2])
noncomputable def PlsAt (H : Hp) : List V → List Pl → Prop := Paired (PlAt H)
theorem PlsAt.mono {H H' : Hp} (k : TK H H') {vs : List V} {ps : List Pl} (h : PlsAt H vs ps) : PlsAt H' vs ps := Paired.mapP h fun _ _ ⟨b, e, q⟩ => ⟨b, e, k _ _ q⟩
theorem PlsAt.len {H : Hp} {vs : List V} {ps : List Pl} (h : PlsAt H vs ps) : vs.length = ps.length := Paired.length h
theorem PlsAt.append {H : Hp} {vs ws : List V} {ps qs : List Pl} (h : PlsAt H vs ps) (k : PlsAt H ws qs) : PlsAt H (vs ++ ws) (ps ++ qs) := by
  induction h with
  | nil => exact k
  | cons a _ ih => exact .cons a ih
theorem PlsAt.one {H : Hp} {b : Addr} {p : Pl} (h : H b = some (.tup [.int p.1, .int p.2])) : PlsAt H [.ref b] [p] := .cons ⟨b, rfl, h⟩ .nil
theorem PlsAt.get {H : Hp} : ∀ {vs : List V} {ps : List Pl} {i : Nat} {v : V}, PlsAt H vs ps → vs[i]? = some v → ∃ p, ps[i]? = some p ∧ PlAt H v p
  | _, _, _, _, .nil, e => by simp at e
  | _, _, 0, _, .cons a _, e => by simp at e; subst e; exact ⟨_, rfl, a⟩
  | _, _, i + 1, v, .cons _ r, e => by
    obtain ⟨p, h1, h2⟩ := PlsAt.get (i := i) (v := v) r (by simpa using e)
    exact ⟨p, by simpa using h1, h2⟩
theorem PlsAt.last {H : Hp} : ∀ {vs : List V} {ps : List Pl} {y : Pl}, PlsAt H vs (ps ++ [y]) → ∃ ws v, vs = ws ++ [v] ∧ PlsAt H ws ps ∧ PlAt H v y := by
  intro vs ps
  induction ps generalizing vs with
  | nil =>
    intro y h
    cases h with
    | cons a r => cases r; exact ⟨[], _, rfl, .nil, a⟩
  | cons p r ih =>
    intro y h
    cases h with
    | cons a t =>
      obtain ⟨ws, v, rfl, h1, h2⟩ := ih t
      exact ⟨_ :: ws, v, rfl, .cons a h1, h2⟩
theorem PlsAt.den {K : PySem.W.Frag} {H : Hp} {vs : List V} {ps : List Pl} (h : PlsAt H vs ps) : DenL K H (ps.map pairD) vs := by
  induction h with
  | nil => exact .nil
  | cons a _ ih => obtain ⟨b, e, q⟩ := a; subst e; exact .cons (.tuple (SqT.of q) (.cons .int (.cons .int .nil))) ih
inductive RT (N : Pl → List Pl) (a : Pl) : Pl → Prop
  | refl : RT N a a
  | step {b c : Pl} : RT N a b → c ∈ N b → RT N a c
theorem RT.trans {N : Pl → List Pl} {a b c : Pl} (h1 : RT N a b) (h2 : RT N b c) : RT N a c := by
  induction h2 with
  | refl => exact h1
  | step _ hc ih => exact .step ih hc
theorem RT.back {N M : Pl → List Pl} (h : ∀ p q, q ∈ N p ↔ p ∈ M q) {a b : Pl} (r : RT N a b) : RT M b a := by
  induction r with
  | refl => exact .refl
  | step _ hc ih => exact (RT.step .refl ((h _ _).mp hc)).trans ih
theorem RT.within {N : Pl → List Pl} {U : List Pl} {a b : Pl} (hc : ∀ p ∈ U, ∀ q ∈ N p, q ∈ U) (ha : a ∈ U) (r : RT N a b) : b ∈ U := by
  induction r with
  | refl => exact ha
  | step _ h ih => exact hc _ ih _ h
def NexT (H : Hp) (nd : Addr) (N : Pl → List Pl) : Prop := ∃ kvs : List (List Key × V), H nd = some (.dT kvs) ∧ ∀ p : Pl, (valV kvs (plK p) = none ∧ N p = []) ∨ ∃ c vs, valV kvs (plK p) = some (.ref c) ∧ H c = some (.lst vs) ∧ PlsAt H vs (N p)
theorem NexT.mono {H H' : Hp} {nd : Addr} {N : Pl → List Pl} (h : NexT H nd N) (e : Ext [] H H') : NexT H' nd N := by
  obtain ⟨kvs, h1, h2⟩ := h
  refine ⟨kvs, e _ _ (by simp) h1, fun p => ?_⟩
  rcases h2 p with z | ⟨c, vs, c1, c2, c3⟩
  · exact .inl z
  · exact .inr ⟨c, vs, c1, e _ _ (by simp) c2, c3.mono e.tk⟩
noncomputable def trueD (ks : List Pl) : List (List Key × V) := ks.map fun p => (plK p, V.bl true)
theorem valV_pl (y : Pl) : ∀ ks : List Pl, valV (trueD ks) (plK y) = if y ∈ ks then some (V.bl true) else none
  | [] => rfl
  | k :: r => by
    have ih := valV_pl y r
    unfold trueD at ih ⊢
    by_cases e : k = y
    · subst e
      rw [List.map_cons, valV_pos rfl, if_pos (List.mem_cons_self ..)]
    · rw [List.map_cons, valV_neg (fun z => e (plK_inj z)), ih]
      have : (y ∈ k :: r) ↔ y ∈ r := by simp [Ne.symm e]
      simp only [this]
noncomputable def spLedT (K : PySem.W.Frag) : Sp := fun vs H Q _ => ∃ (st nd : Addr) (svs : List V) (starts U : List Pl) (N : Pl → List Pl), vs = [.ref st, .ref nd] ∧ SqL K H st svs ∧ PlsAt H svs starts ∧ NexT H nd N ∧ (∀ s ∈ starts, s ∈ U) ∧ (∀ p ∈ U, ∀ q ∈ N p, q ∈ U) ∧ (∀ p, (N p).length ≤ 8000) ∧ U.length ≤ 500 ∧ starts.length ≤ 8000 ∧
  ∀ (d : Addr) (ks : List Pl) (H' : Hp), H d = none → Ext [] H H' → H' d = some (.dT (trueD ks)) → ks.Nodup → (∀ x, x ∈ ks ↔ ∃ s ∈ starts, RT N s x) → Q (.ref d) H'
end L2
set_option maxHeartbeats 1000000
namespace L2
open PySem PySem.Spec PyProof.Rows
noncomputable def dword : Deed → Str
  | .set _ _ => "set"
  | .add _ _ => "add"
  | .tell _ => "tell"
  | .call _ => "call"
  | .save _ => "save"
  | .back _ => "back"
noncomputable def dargs : Deed → List Int
  | .set b n => [b, n]
  | .add b o => [b, o]
  | .tell b => [b]
  | .call b => [b]
  | .save b => [b]
  | .back b => [b]
noncomputable def darg : Deed → Int
  | .set b _ => b
  | .add b _ => b
  | .tell b => b
  | .call b => b
  | .save b => b
  | .back b => b
theorem deed_is (d : Deed) : deedD d = .tuple (.str (dword d) :: (dargs d).map .int) := by cases d <;> rfl
theorem dargs_head (d : Deed) : ∃ r, dargs d = darg d :: r := by cases d <;> exact ⟨_, rfl⟩
theorem dargs_len (d : Deed) : 1 ≤ (dargs d).length ∧ (dargs d).length ≤ 2 := by cases d <;> simp [dargs]
theorem deed_in (d : Deed) : inV (V.str (dword d)) [V.str "set", .str "add"] = (wr d).isSome := by cases d <;> first | rfl | (show inV (V.str _) _ = _; simp only [dword, wr]; decide)
noncomputable def wrB (x : Int) (d : Deed) : Bool := (wr d).isSome && decide (darg d = x)
noncomputable def isRead : Deed → Bool
  | .add _ _ => true
  | .tell _ => true
  | _ => false
theorem deed_read (d : Deed) : inV (V.str (dword d)) [V.str "add", .str "tell"] = isRead d := by cases d <;> first | rfl | (show inV (V.str _) _ = _; simp only [dword, isRead]; decide)
noncomputable def rdB (x : Int) (d : Deed) : Bool := isRead d && decide (x ∈ dargs d)
def KTup (K : PySem.W.Frag) (wa : Addr) (xs : List V) : Prop := ∃ (o : Obj) (its : Array Value) (n : Nat), K.lookup wa = some o ∧ o.cls = .type "tuple" ∧ o.data = .seq its n ∧ its.size ≤ sizeLine ∧ Vals xs its.toList
abbrev Writing (K : PySem.W.Frag) (wa : Addr) : Prop := KTup K wa [V.str "set", .str "add"]
abbrev Reading (K : PySem.W.Frag) (wa : Addr) : Prop := KTup K wa [V.str "add", .str "tell"]
noncomputable def spDeedB (φ : Int → Deed → Bool) (K : PySem.W.Frag) : Sp := fun vs H Q _ => ∃ (v : V) (d : Deed) (x : Int), vs = [v, .int x] ∧ Den K H (deedD d) v ∧ ∀ H', Ext [] H H' → Q (.bl (φ x d)) H'
noncomputable def till (x : Int) : List Deed → List Deed
  | [] => []
  | d :: r => if wrB x d = true then [d] else d :: till x r
noncomputable def wrote (x : Int) (ds : List Deed) : Bool := ds.any (wrB x)
noncomputable def callOf : Deed → Option Int
  | .call c => some c
  | _ => none
noncomputable def isCall (d : Deed) : Bool := (callOf d).isSome
theorem deed_call (d : Deed) : decide (dword d = "call") = isCall d := by
  cases d with
  | call c => exact decide_eq_true rfl
  | set _ _ => exact decide_eq_false (show ¬ ("set" : Str) = "call" by decide)
  | add _ _ => exact decide_eq_false (show ¬ ("add" : Str) = "call" by decide)
  | tell _ => exact decide_eq_false (show ¬ ("tell" : Str) = "call" by decide)
  | save _ => exact decide_eq_false (show ¬ ("save" : Str) = "call" by decide)
  | back _ => exact decide_eq_false (show ¬ ("back" : Str) = "call" by decide)
theorem call_of (d : Deed) (h : isCall d = true) : callOf d = some (darg d) := by cases d <;> first | rfl | cases h
theorem till_len (x : Int) : ∀ ds : List Deed, (till x ds).length ≤ ds.length
  | [] => Nat.le_refl _
  | d :: r => by
    unfold till
    split
    · simp
    · have := till_len x r; simp; omega
theorem till_mem {x : Int} {d : Deed} : ∀ {ds : List Deed}, d ∈ till x ds → d ∈ ds
  | [], h => h
  | e :: r, h => by
    unfold till at h
    split at h
    · rw [List.mem_singleton.mp h]; exact List.mem_cons_self ..
    · rcases List.mem_cons.mp h with z | z
      · rw [z]; exact List.mem_cons_self ..
      · exact List.mem_cons_of_mem _ (till_mem z)
theorem till_first {x : Int} : ∀ {ds : List Deed} {i : Nat} {d : Deed}, (∀ e ∈ ds.take i, wrB x e = false) → ds[i]? = some d → wrB x d = true → till x ds = ds.take (i + 1)
  | [], i, d, _, h, _ => by simp at h
  | e :: r, 0, d, _, h, hw => by
    simp at h; subst h
    unfold till; rw [if_pos hw]; rfl
  | e :: r, i + 1, d, ha, h, hw => by
    unfold till
    rw [if_neg (by rw [ha e (by simp)]; exact Bool.false_ne_true), List.take_succ_cons]
    rw [till_first (i := i) (d := d) (fun f hf => ha f (by simp [hf])) (by simpa using h) hw]
theorem till_none {x : Int} : ∀ {ds : List Deed}, (∀ e ∈ ds, wrB x e = false) → till x ds = ds
  | [], _ => rfl
  | e :: r, h => by
    unfold till
    rw [if_neg (by rw [h e (by simp)]; exact Bool.false_ne_true), till_none fun f hf => h f (by simp [hf])]
end L2
set_option maxHeartbeats 1000000
namespace L2
open PySem PySem.Spec PyProof.Rows
noncomputable abbrev worksD (ws : List (List Blk)) : PyData := .list (ws.map workD)
noncomputable def blkAt (ws : List (List Blk)) (p : Pl) : Option Blk := if 0 ≤ p.1 ∧ 0 ≤ p.2 then (ws[p.1.toNat]?).bind fun w => w[p.2.toNat]? else none
noncomputable def callsOf (x : Int) (b : Blk) : List Pl := ((till x b.ds).filterMap callOf).map fun c => (c, 0)
noncomputable def metB (x n : Int) (b : Blk) : List Pl := callsOf x b ++ (if wrote x b.ds = true then [] else b.ns.map fun t => (n, t))
noncomputable def metOf (ws : List (List Blk)) (x : Int) (p : Pl) : List Pl := match blkAt ws p with
  | none => []
  | some b => metB x p.1 b
noncomputable def readB (x : Int) (b : Blk) : Bool := (till x b.ds).any (rdB x)
noncomputable def readAt (ws : List (List Blk)) (x : Int) (p : Pl) : Bool := match blkAt ws p with
  | none => false
  | some b => readB x b
def Asks (ws : List (List Blk)) (x : Int) (p : Pl) : Prop := ∃ q, RT (metOf ws x) p q ∧ readAt ws x q = true
structure WsOk (ws : List (List Blk)) : Prop where
  all : ∀ w ∈ ws, ∃ m : Int, 1 ≤ m ∧ m ≤ 12 ∧ WorkOk m (ws.length : Int) w
  one : 1 ≤ ws.length
  few : ws.length ≤ 25
theorem blkAt_nat (ws : List (List Blk)) (n a : Nat) : blkAt ws ((n : Int), (a : Int)) = (ws[n]?).bind fun w => w[a]? := by
  unfold blkAt
  rw [if_pos ⟨by omega, by omega⟩]; rfl
theorem blkAt_some {ws : List (List Blk)} {p : Pl} {b : Blk} (h : blkAt ws p = some b) : ∃ (n a : Nat) (w : List Blk), p = ((n : Int), (a : Int)) ∧ ws[n]? = some w ∧ w[a]? = some b := by
  unfold blkAt at h
  split at h
  · rename_i hp
    cases e : ws[p.1.toNat]? with
    | none => rw [e] at h; cases h
    | some w =>
      rw [e] at h
      refine ⟨p.1.toNat, p.2.toNat, w, ?_, e, h⟩
      rw [Int.toNat_of_nonneg hp.1, Int.toNat_of_nonneg hp.2]
  · cases h
noncomputable def places (ws : List (List Blk)) : List Pl := (List.range ws.length).flatMap fun (n : Nat) => (List.range ((ws[n]?).getD []).length).map fun (a : Nat) => ((n : Int), (a : Int))
theorem mem_places {ws : List (List Blk)} {p : Pl} : p ∈ places ws ↔ ∃ b, blkAt ws p = some b := by
  unfold places
  rw [List.mem_flatMap]
  constructor
  · rintro ⟨n, hn, hp⟩
    obtain ⟨a, ha, rfl⟩ := List.mem_map.mp hp
    rw [blkAt_nat]
    have hn := List.mem_range.mp hn
    have ha := List.mem_range.mp ha
    rw [List.getElem?_eq_getElem hn] at ha ⊢
    exact ⟨_, List.getElem?_eq_getElem ha⟩
  · rintro ⟨b, hb⟩
    obtain ⟨n, a, w, rfl, hw, ha⟩ := blkAt_some hb
    refine ⟨n, List.mem_range.mpr (List.getElem?_eq_some_iff.mp hw).1, List.mem_map.mpr ⟨a, List.mem_range.mpr ?_, rfl⟩⟩
    rw [hw]
    exact (List.getElem?_eq_some_iff.mp ha).1
theorem WsOk.blk {ws : List (List Blk)} (h : WsOk ws) {p : Pl} {b : Blk} (hb : blkAt ws p = some b) : ∃ (m : Int) (n : Nat) (w : List Blk), p.1 = (n : Int) ∧ ws[n]? = some w ∧ (w.length : Int) = m ∧ 1 ≤ m ∧ m ≤ 12 ∧ BlkOk m (ws.length : Int) b := by
  obtain ⟨n, a, w, rfl, hw, ha⟩ := blkAt_some hb
  obtain ⟨m, h1, h2, h3⟩ := h.all w (List.mem_of_getElem? hw)
  exact ⟨m, n, w, rfl, hw, h3.len, h1, h2, h3.blk b (List.mem_of_getElem? ha)⟩
theorem met_there {ws : List (List Blk)} (h : WsOk ws) {x : Int} {p q : Pl} (hq : q ∈ metOf ws x p) : q ∈ places ws := by
  unfold metOf at hq
  split at hq
  · cases hq
  · rename_i b hb
    obtain ⟨m, n, w, hp, hw, hm, hm1, hm2, hbok⟩ := h.blk hb
    unfold metB at hq
    rcases List.mem_append.mp hq with z | z
    · unfold callsOf at z
      obtain ⟨c, hc, rfl⟩ := List.mem_map.mp z
      obtain ⟨d, hd, e⟩ := List.mem_filterMap.mp hc
      have hdok := hbok.ds d (till_mem hd)
      have hcc : 0 ≤ c ∧ c < (ws.length : Int) := by
        cases d with
        | call c' => cases e; exact hdok
        | set _ _ => cases e
        | add _ _ => cases e
        | tell _ => cases e
        | save _ => cases e
        | back _ => cases e
      obtain ⟨k, rfl⟩ := Int.eq_ofNat_of_zero_le hcc.1
      have hk : k < ws.length := by omega
      refine mem_places.mpr ?_
      have := blkAt_nat ws k 0
      show ∃ b, blkAt ws ((k : Int), ((0 : Nat) : Int)) = some b
      rw [this, List.getElem?_eq_getElem hk]
      obtain ⟨m', g1, g2, g3⟩ := h.all ws[k] (List.getElem_mem hk)
      have g4 := g3.len
      exact ⟨_, List.getElem?_eq_getElem (by omega)⟩
    · split at z
      · cases z
      · obtain ⟨t, ht, rfl⟩ := List.mem_map.mp z
        have hr := hbok.ns.range t ht
        obtain ⟨k, rfl⟩ := Int.eq_ofNat_of_zero_le (show 0 ≤ t by omega)
        refine mem_places.mpr ?_
        rw [hp, blkAt_nat, hw]
        exact ⟨_, List.getElem?_eq_getElem (by omega)⟩
theorem met_len {ws : List (List Blk)} (h : WsOk ws) (x : Int) (p : Pl) : (metOf ws x p).length ≤ 22 := by
  unfold metOf
  split
  · exact Nat.zero_le _
  · rename_i b hb
    obtain ⟨m, n, w, hp, hw, hm, hm1, hm2, hbok⟩ := h.blk hb
    unfold metB callsOf
    have h1 := List.length_filterMap_le callOf (till x b.ds)
    have h2 := till_len x b.ds
    have h3 := hbok.few
    have h4 := hbok.ns.few
    rw [List.length_append, List.length_map]
    split
    · simp; omega
    · rw [List.length_map]; omega
theorem places_len {ws : List (List Blk)} (h : WsOk ws) : (places ws).length ≤ 300 := by
  unfold places
  have key : ∀ l : List Nat, (∀ n ∈ l, n < ws.length) → (l.flatMap fun (n : Nat) => (List.range ((ws[n]?).getD []).length).map fun (a : Nat) => ((n : Int), (a : Int))).length ≤ 12 * l.length := by
    intro l
    induction l with
    | nil => intro _; exact Nat.le_refl _
    | cons n r ih =>
      intro hl
      rw [List.flatMap_cons, List.length_append, List.length_map, List.length_range, List.length_cons]
      have h1 := ih fun m hm => hl m (List.mem_cons_of_mem _ hm)
      have hn := hl n (List.mem_cons_self ..)
      rw [List.getElem?_eq_getElem hn]
      obtain ⟨m', g1, g2, g3⟩ := h.all ws[n] (List.getElem_mem hn)
      have g4 := g3.len
      show ws[n].length + _ ≤ _
      omega
  have h1 := key (List.range ws.length) fun n hn => List.mem_range.mp hn
  rw [List.length_range] at h1
  have := h.few
  omega
noncomputable def spBegins (K : PySem.W.Frag) : Sp := fun vs H Q _ => ∃ (wa : Addr) (ws : List (List Blk)) (n b : Nat) (x : Int), vs = [.ref wa, .int n, .int b, .int x] ∧ Den K H (worksD ws) (.ref wa) ∧ WsOk ws ∧ ((n : Int), (b : Int)) ∈ places ws ∧
  ∀ (l : Addr) (us : List V) (H' : Hp), H l = none → Ext [] H H' → H' l = some (.lst us) → PlsAt H' us (metOf ws x ((n : Int), (b : Int))) → Q (.ref l) H'
end L2
set_option maxHeartbeats 1000000
namespace L2
open PySem PySem.Spec PyProof.Rows
structure NexK (H : Hp) (nd : Addr) (N : Pl → List Pl) (ok : Addr → Prop) (k : Nat) (kvs : List (List Key × V)) : Prop where
  at_ : H nd = some (.dT kvs)
  few : kvs.length ≤ k
  all : ∀ p : Pl, (valV kvs (plK p) = none ∧ N p = []) ∨ ∃ c vs, valV kvs (plK p) = some (.ref c) ∧ ok c ∧ H c = some (.lst vs) ∧ PlsAt H vs (N p)
  one : ∀ (p q : Pl) (c : Addr), valV kvs (plK p) = some (.ref c) → valV kvs (plK q) = some (.ref c) → p = q
def NexB (H : Hp) (nd : Addr) (N : Pl → List Pl) (ok : Addr → Prop) (k : Nat) : Prop := ∃ kvs, NexK H nd N ok k kvs
theorem NexK.mono {H H' : Hp} {nd : Addr} {N : Pl → List Pl} {ok : Addr → Prop} {ts : List Addr} {k : Nat} {kvs : List (List Key × V)} (h : NexK H nd N ok k kvs) (e : Ext ts H H') (hn : nd ∉ ts) (ht : ∀ t ∈ ts, ¬ ok t) (tk : TK H H') : NexK H' nd N ok k kvs := by
  refine ⟨e _ _ hn h.at_, h.few, fun p => ?_, h.one⟩
  rcases h.all p with z | ⟨c, vs, h1, h2, h3, h4⟩
  · exact .inl z
  · exact .inr ⟨c, vs, h1, h2, e _ _ (fun z => ht c z h2) h3, h4.mono tk⟩
theorem NexB.mono {H H' : Hp} {nd : Addr} {N : Pl → List Pl} {ok : Addr → Prop} {ts : List Addr} {k : Nat} (h : NexB H nd N ok k) (e : Ext ts H H') (hn : nd ∉ ts) (ht : ∀ t ∈ ts, ¬ ok t) (tk : TK H H') : NexB H' nd N ok k := let ⟨kvs, z⟩ := h; ⟨kvs, z.mono e hn ht tk⟩
theorem NexB.toT {H : Hp} {nd : Addr} {N : Pl → List Pl} {ok : Addr → Prop} {k : Nat} (h : NexB H nd N ok k) : NexT H nd N := by
  obtain ⟨kvs, z⟩ := h
  refine ⟨kvs, z.at_, fun p => ?_⟩
  rcases z.all p with y | ⟨c, vs, h1, _, h3, h4⟩
  · exact .inl y
  · exact .inr ⟨c, vs, h1, h3, h4⟩
noncomputable def snocN (N : Pl → List Pl) (q p : Pl) : Pl → List Pl := fun r => if r = q then N r ++ [p] else N r
theorem NexK.app {H : Hp} {nd c pt : Addr} {N : Pl → List Pl} {ok : Addr → Prop} {k : Nat} {kvs : List (List Key × V)} {q p : Pl} {vs : List V} (h : NexK H nd N ok k kvs) (hc : valV kvs (plK q) = some (.ref c)) (hv : H c = some (.lst vs)) (hp : PlsAt H vs (N q)) (ht : H pt = some (.tup [.int p.1, .int p.2])) :
    NexK (upd H c (.lst (vs ++ [.ref pt]))) nd (snocN N q p) ok k kvs := by
  have tk : TK H (upd H c (.lst (vs ++ [.ref pt]))) := .put (by intro ys z; rw [hv] at z; cases z)
  have nc : nd ≠ c := ne_of h.at_ hv (by intro z; cases z)
  refine ⟨by rw [upd_ne nc]; exact h.at_, h.few, fun r => ?_, h.one⟩
  unfold snocN
  by_cases hr : r = q
  · subst hr
    rw [if_pos rfl]
    have hcx : ok c := by
      rcases h.all r with z | ⟨c', _, h1, h2, _⟩
      · rw [z.1] at hc; cases hc
      · rw [h1] at hc; cases hc; exact h2
    exact .inr ⟨c, vs ++ [.ref pt], hc, hcx, upd_same, (hp.mono tk).append (.one (tk _ _ ht))⟩
  · rw [if_neg hr]
    rcases h.all r with z | ⟨c', vs', h1, h2, h3, h4⟩
    · exact .inl z
    · have n : c' ≠ c := fun z => hr (h.one r q c (z ▸ h1) hc)
      exact .inr ⟨c', vs', h1, h2, by rw [upd_ne n]; exact h3, h4.mono tk⟩
theorem NexK.new {H : Hp} {nd e0 : Addr} {N : Pl → List Pl} {ok : Addr → Prop} {k : Nat} {kvs : List (List Key × V)} {q : Pl} (h : NexK H nd N ok k kvs) (hn : valV kvs (plK q) = none) (he : H e0 = some (.lst [])) (hx : ok e0) (hf : ∀ (p : Pl) (c : Addr), valV kvs (plK p) = some (.ref c) → c ≠ e0) :
    NexK (upd H nd (.dT (putK kvs (plK q) (.ref e0)))) nd N ok (k + 1) (putK kvs (plK q) (.ref e0)) := by
  have tk : TK H (upd H nd (.dT (putK kvs (plK q) (.ref e0)))) := .put (by intro ys z; rw [h.at_] at z; cases z)
  have hN : N q = [] := by
    rcases h.all q with z | ⟨c, vs, h1, _⟩
    · exact z.2
    · rw [h1] at hn; cases hn
  have ne0 : e0 ≠ nd := ne_of he h.at_ (by intro z; cases z)
  refine ⟨upd_same, by have := length_putK kvs (plK q) (V.ref e0); have := h.few; omega, fun r => ?_, fun r s c hr hs => ?_⟩
  · by_cases hr : r = q
    · subst hr
      exact .inr ⟨e0, [], by rw [valV_put, if_pos rfl], hx, by rw [upd_ne ne0]; exact he, by rw [hN]; exact .nil⟩
    · rw [valV_put, if_neg (fun z => hr (plK_inj z))]
      rcases h.all r with z | ⟨c, vs, h1, h2, h3, h4⟩
      · exact .inl z
      · exact .inr ⟨c, vs, h1, h2, by rw [upd_ne (ne_of h3 h.at_ (by intro z; cases z))]; exact h3, h4.mono tk⟩
  · rw [valV_put] at hr hs
    by_cases h1 : plK r = plK q
    · by_cases h2 : plK s = plK q
      · exact plK_inj (h1.trans h2.symm)
      · rw [if_pos h1] at hr; rw [if_neg h2] at hs
        cases hr
        exact absurd rfl (hf s e0 hs)
    · rw [if_neg h1] at hr
      by_cases h2 : plK s = plK q
      · rw [if_pos h2] at hs
        cases hs
        exact absurd rfl (hf r e0 hr)
      · rw [if_neg h2] at hs
        exact h.one r s c hr hs
noncomputable def behindOf (ws : List (List Blk)) (x : Int) (ps : List Pl) (q : Pl) : List Pl := ps.flatMap fun p => ((metOf ws x p).filter fun r => decide (r = q)).map fun _ => p
noncomputable def behindUp (ws : List (List Blk)) (x : Int) (ps : List Pl) (p : Pl) (ms : List Pl) (q : Pl) : List Pl := behindOf ws x ps q ++ (ms.filter fun r => decide (r = q)).map fun _ => p
theorem behindUp_snoc (ws : List (List Blk)) (x : Int) (ps : List Pl) (p : Pl) (ms : List Pl) (r : Pl) : behindUp ws x ps p (ms ++ [r]) = snocN (behindUp ws x ps p ms) r p := by
  funext q
  unfold behindUp snocN
  rw [List.filter_append, List.map_append, ← List.append_assoc]
  by_cases h : q = r
  · subst h; simp
  · simp [h, Ne.symm h]
theorem behindUp_nil (ws : List (List Blk)) (x : Int) (ps : List Pl) (p : Pl) : behindUp ws x ps p [] = behindOf ws x ps := by
  funext q; unfold behindUp; simp
theorem behindOf_snoc (ws : List (List Blk)) (x : Int) (ps : List Pl) (p : Pl) : behindUp ws x ps p (metOf ws x p) = behindOf ws x (ps ++ [p]) := by
  funext q; unfold behindUp behindOf; rw [List.flatMap_append]; simp
theorem mem_behind {ws : List (List Blk)} {x : Int} {ps : List Pl} {p q : Pl} : p ∈ behindOf ws x ps q ↔ p ∈ ps ∧ q ∈ metOf ws x p := by
  unfold behindOf
  rw [List.mem_flatMap]
  constructor
  · rintro ⟨p', hp', h⟩
    obtain ⟨r, hr, rfl⟩ := List.mem_map.mp h
    obtain ⟨h1, h2⟩ := List.mem_filter.mp hr
    have := of_decide_eq_true h2
    subst this
    exact ⟨hp', h1⟩
  · rintro ⟨h1, h2⟩
    exact ⟨p, h1, List.mem_map.mpr ⟨q, List.mem_filter.mpr ⟨h2, decide_eq_true rfl⟩, rfl⟩⟩
theorem met_from {ws : List (List Blk)} {x : Int} {p q : Pl} (h : q ∈ metOf ws x p) : p ∈ places ws := by
  refine mem_places.mpr ?_
  unfold metOf at h
  split at h
  · cases h
  · rename_i b hb; exact ⟨b, hb⟩
theorem behind_len {ws : List (List Blk)} (h : WsOk ws) (x : Int) (q : Pl) : ∀ ps : List Pl, (behindOf ws x ps q).length ≤ 22 * ps.length
  | [] => Nat.le_refl _
  | p :: r => by
    have ih := behind_len h x q r
    unfold behindOf at ih ⊢
    rw [List.flatMap_cons, List.length_append, List.length_map, List.length_cons]
    have h1 := List.length_filter_le (fun r => decide (r = q)) (metOf ws x p)
    have h2 := met_len h x p
    omega
theorem asks_back {ws : List (List Blk)} {x : Int} {p : Pl} : (∃ s ∈ (places ws).filter (readAt ws x), RT (behindOf ws x (places ws)) s p) ↔ Asks ws x p := by
  have h1 : ∀ p q, q ∈ metOf ws x p ↔ p ∈ behindOf ws x (places ws) q := fun p q => by
    rw [mem_behind]
    exact ⟨fun h => ⟨met_from h, h⟩, fun h => h.2⟩
  have h2 : ∀ p q, q ∈ behindOf ws x (places ws) p ↔ p ∈ metOf ws x q := fun p q => (h1 q p).symm
  constructor
  · rintro ⟨s, hs, r⟩
    exact ⟨s, r.back h2, (List.mem_filter.mp hs).2⟩
  · rintro ⟨q, r, hq⟩
    refine ⟨q, List.mem_filter.mpr ⟨mem_places.mpr ?_, hq⟩, r.back h1⟩
    unfold readAt at hq
    split at hq
    · cases hq
    · rename_i b hb; exact ⟨b, hb⟩
noncomputable def spAwait (K : PySem.W.Frag) : Sp := fun vs H Q _ => ∃ (wa : Addr) (ws : List (List Blk)) (x : Int), vs = [.ref wa, .int x] ∧ Den K H (worksD ws) (.ref wa) ∧ WsOk ws ∧
  ∀ (d : Addr) (ks : List Pl) (H' : Hp), H d = none → Ext [] H H' → H' d = some (.dT (trueD ks)) → ks.Nodup → (∀ p, p ∈ ks ↔ Asks ws x p) → Q (.ref d) H'
end L2
set_option maxHeartbeats 4000000
namespace L2
open PySem PySem.Spec PyProof.Rows
end L2
set_option maxHeartbeats 1000000
namespace L2
open PySem PySem.Spec PyProof.Rows
noncomputable def askB (ws : List (List Blk)) (x : Int) (p : Pl) : Bool := @decide (Asks ws x p) (Classical.propDecidable _)
theorem askB_iff {ws : List (List Blk)} {x : Int} {p : Pl} : askB ws x p = true ↔ Asks ws x p := by unfold askB; exact @decide_eq_true_iff _ (Classical.propDecidable _)
end L2
set_option maxHeartbeats 1000000
namespace L2
open PySem PySem.Spec PyProof.Rows
theorem wrote_snoc (x : Int) (ds : List Deed) (d : Deed) : wrote x (ds ++ [d]) = (wrote x ds || wrB x d) := by unfold wrote; simp
theorem wrote_false {x : Int} {ds : List Deed} (h : wrote x ds = false) : ∀ e ∈ ds, wrB x e = false := by
  unfold wrote at h
  intro e he
  have := List.any_eq_false.mp h e he
  simpa using this
theorem till_app_open {x : Int} {d : Deed} : ∀ {ds : List Deed}, wrote x ds = false → till x (ds ++ [d]) = till x ds ++ [d]
  | [], _ => by
    show (if wrB x d = true then [d] else d :: till x []) = [d]
    split <;> rfl
  | e :: r, h => by
    have h1 := wrote_false h e (by simp)
    have h2 : wrote x r = false := by unfold wrote at h ⊢; simp at h ⊢; exact h.2
    simp only [List.cons_append, till]
    rw [if_neg (by rw [h1]; exact Bool.false_ne_true), if_neg (by rw [h1]; exact Bool.false_ne_true), till_app_open h2]; rfl
theorem till_app_shut {x : Int} : ∀ {ds es : List Deed}, wrote x ds = true → till x (ds ++ es) = till x ds
  | [], es, h => by cases h
  | e :: r, es, h => by
    simp only [List.cons_append, till]
    by_cases hw : wrB x e = true
    · rw [if_pos hw, if_pos hw]
    · have h2 : wrote x r = true := by
        unfold wrote at h ⊢
        rw [List.any_cons] at h
        rw [Bool.eq_false_iff.mpr hw, Bool.false_or] at h
        exact h
      rw [if_neg hw, if_neg hw, till_app_shut h2]
theorem till_has {x : Int} {ds : List Deed} {j : Nat} {d : Deed} (h : wrote x (ds.take j) = false) (hd : ds[j]? = some d) : d ∈ till x ds := by
  have e : ds = (ds.take j ++ [d]) ++ ds.drop (j + 1) := by
    rw [← take_get hd, List.take_append_drop]
  have h1 := till_app_open (d := d) h
  by_cases hw : wrB x d = true
  · have h2 : wrote x (ds.take j ++ [d]) = true := by rw [wrote_snoc, h, hw]; rfl
    rw [e, till_app_shut h2, h1]
    simp
  · have all : ∀ (as bs : List Deed), wrote x as = false → ∀ f ∈ as, f ∈ till x (as ++ bs) := by
      intro as bs
      induction as with
      | nil => intro _ f hf; cases hf
      | cons a r ih =>
        intro ha f hf
        have h3 := wrote_false ha a (by simp)
        have h4 : wrote x r = false := by unfold wrote at ha ⊢; simp at ha ⊢; exact ha.2
        simp only [List.cons_append, till]
        rw [if_neg (by rw [h3]; exact Bool.false_ne_true)]
        rcases List.mem_cons.mp hf with z | z
        · rw [z]; exact List.mem_cons_self ..
        · exact List.mem_cons_of_mem _ (ih h4 f z)
    have h2 : wrote x (ds.take j ++ [d]) = false := by rw [wrote_snoc, h, Bool.eq_false_iff.mpr hw]; rfl
    rw [e]
    exact all _ _ h2 d (by simp)
theorem eqv_pairs_nil (ps : List (Int × Int)) : PyData.eqv (pairsD ps) (.list []) = decide (ps = []) := by
  cases ps with
  | nil => rfl
  | cons p r => rfl
noncomputable def spIsAsked (K : PySem.W.Frag) : Sp := fun vs H Q _ => ∃ (wa : Addr) (ws : List (List Blk)) (n b : Nat) (x : Int), vs = [.ref wa, .int n, .int b, .int x] ∧ Den K H (worksD ws) (.ref wa) ∧ WsOk ws ∧ ((n : Int), (b : Int)) ∈ places ws ∧ ∀ H', Ext [] H H' → Q (.bl (askB ws x ((n : Int), (b : Int)))) H'
end L2
set_option maxHeartbeats 1000000
namespace L2
open PySem PySem.Spec PyProof.Rows
end L2
set_option maxHeartbeats 1000000
namespace L2
open PySem PySem.Spec PyProof.Rows
section
variable {P : Program} {w : World} {A : Around} {E : Value → Shared → Prop} {s : Shared} {d : Addr}
theorem look_dict_len : typeLookup (.type "dict") "__len__" = pure (some (.builtin "dict.__len__")) := F.slot_dict_len.lookup
theorem collect_dictI {ks : List Int} {kvs : List (Key × Value)} {ep : Nat} {Q : List Value → Shared → Prop} (hh : A.handled = none) (hs : (d == sysModules) = false) (dd : s.heap.DictAt (mixKind P w) d kvs ep) (hk : kvs.map (·.1) = ks.map Sum.inl) (hz : ks.length ≤ 1000)
    (q : ∀ (vs : List Value) (h' : Heap) (tk : Nat), (∀ b u, s.heap.get? b = some u → h'.get? b = some u) → s.heap.objs.size ≤ h'.objs.size → IntsAre vs ks → Q vs { s with heap := h', toks := tk }) :
    wpAny (model P w) A (collect (.ref d)) Q E s := by
  have hkl : kvs.length = ks.length := by have := congrArg List.length hk; simpa using this
  unfold collect
  refine wpAny_bind (wpAny_runValue (codeAny_builtin F.entry_proto_collect ?_))
  rw [Around.under_plainId F.plain_proto_collect _]
  show wpAny _ A.in1 (newList [] >>= fun l => again (.builtin "list.__iadd__" ⟨[l, .ref d], []⟩)) _ _ s
  refine wpAny_bind (wpAny_newObj_type ?_)
  refine wpAny_pure ⟨plainId_quiet F.plain_list_iadd _, codeAny_builtin F.entry_list_iadd ?_⟩
  rw [Around.under_plainId F.plain_list_iadd _]
  have k1 : ∀ b u, s.heap.get? b = some u → (s.heap.push { cls := .type "list", data := .seq ([] : List Value).toArray }).get? b = some u := fun b u e => Heap.get?_push_of_some _ e
  have dd1 := dd.at' (h' := s.heap.push { cls := .type "list", data := .seq ([] : List Value).toArray }) fun o e => k1 d o e
  have hT : Shared.TypeIs { s with heap := s.heap.push { cls := .type "list", data := .seq ([] : List Value).toArray } } (.ref d) "dict" := dd1.dictOf.typeIs
  have haS : d < s.heap.objs.size := by obtain ⟨o, es, ho, _⟩ := dd; exact Heap.lt_size ho
  show wpAny _ A.in1 (Builtin.List.listExtendWith (.ref s.heap.objs.size) (.ref d) (.ref s.heap.objs.size)) _ _ _
  unfold Builtin.List.listExtendWith
  refine wpAny_bind (wpAny_typeOf hT ?_)
  have h1 : Builtin.List.listSameRef (.ref s.heap.objs.size) (.ref d) = false := by simp [Builtin.List.listSameRef]; exact Nat.ne_of_gt haS
  have h2 : (Value.type "dict" == Value.type "list") = false := by decide
  have h3 : (Value.type "dict" == Value.type "tuple") = false := by decide
  simp only [h1, h2, h3, Bool.or_false, Bool.false_eq_true, if_false]
  refine wpAny_bind (wpAny_pyIter_dict hs dd1 ?_)
  rw [show ({ s with heap := s.heap.push { cls := .type "list", data := .seq ([] : List Value).toArray } } : Shared).heap.objs.size = s.heap.objs.size + 1 from Heap.size_push ..]
  have k2 : ∀ b u, (s.heap.push { cls := .type "list", data := .seq ([] : List Value).toArray }).get? b = some u → ((s.heap.push { cls := .type "list", data := .seq ([] : List Value).toArray }).push { cls := .type "dict_keyiterator", data := .fields #[.ref d, .int 0 0, .int kvs.length 0, .int ep 0] }).get? b = some u := fun b u e => Heap.get?_push_of_some _ e
  have hit : ((s.heap.push { cls := .type "list", data := .seq ([] : List Value).toArray }).push { cls := .type "dict_keyiterator", data := .fields #[.ref d, .int 0 0, .int kvs.length 0, .int ep 0] }).IsKeyIter (s.heap.objs.size + 1) d 0 kvs.length ep := by
    have := Heap.get?_push_size (h := s.heap.push { cls := .type "list", data := .seq ([] : List Value).toArray }) (o := { cls := .type "dict_keyiterator", data := .fields #[.ref d, .int 0 0, .int kvs.length 0, .int ep 0] }) rfl
    rw [Heap.size_push] at this
    exact ⟨_, this, rfl, rfl⟩
  have dd2 := dd1.at' fun o e => k2 d o e
  have hS1 := k2 _ _ (Heap.get?_push_size (h := s.heap) (o := { cls := .type "list", data := .seq ([] : List Value).toArray }) rfl)
  generalize (s.heap.push { cls := .type "list", data := .seq ([] : List Value).toArray }).push { cls := .type "dict_keyiterator", data := .fields #[.ref d, .int 0 0, .int kvs.length 0, .int ep 0] } = h' at k2 hit dd2 hS1 ⊢
  have hT' : Shared.TypeIs { s with heap := h' } (.ref d) "dict" := dd2.dictOf.typeIs
  refine wpAny_bind (wpAny_holding ?_)
  unfold Builtin.List.listLengthHint
  refine wpAny_bind (wpAny_specialOf hT' look_dict_len ?_)
  have hsp : splitId "dict.__len__" = some ("dict", "__len__") := by kernel_rfl
  dsimp only
  rw [hsp]
  dsimp only
  refine wpAny_bind (wpAny_isInstance (b := true) hT' (by rw [isSubtype_type]; kernel_rfl) ?_)
  rw [if_neg (by simp)]
  rw [if_pos (by decide +kernel)]
  refine wpAny_bind (wpAny_typeOf hT' (wpAny_pure ?_))
  rw [if_pos (by decide +kernel)]
  refine wpAny_bind (wpAny_rule ?_)
  refine wpAny_bind ?_
  show wpAny _ A.in1 (updateSeq s.heap.objs.size (·.push .none) >>= fun _ => updateSeq s.heap.objs.size (·.pop)) _ _ _
  refine wpAny_bind (wpAny_updateSeq (s := { s with heap := h' }) hS1 rfl ?_)
  have hS2 := Heap.get?_update_self (Obj.mapSeq (·.push Value.none)) hS1 rfl
  refine wpAny_updateSeq hS2 rfl ?_
  have hS3 := Heap.get?_update_self (Obj.mapSeq (·.pop)) hS2 rfl
  have oth : ∀ b u, b ≠ s.heap.objs.size → h'.get? b = some u → ((h'.update s.heap.objs.size (Obj.mapSeq (·.push Value.none))).update s.heap.objs.size (Obj.mapSeq (·.pop))).get? b = some u :=
    fun b u hb e => (Heap.get?_update_other _ _ (Ne.symm hb)).trans ((Heap.get?_update_other _ _ (Ne.symm hb)).trans e)
  have hne : d ≠ s.heap.objs.size + 1 := Nat.ne_of_lt (Nat.lt_succ_of_lt haS)
  have hSf : s.heap.objs.size ∉ [s.heap.objs.size + 1, d] := fun z => by
    rcases List.mem_cons.mp z with z | z
    · exact Nat.ne_of_lt (Nat.lt_succ_self _) z
    · have : s.heap.objs.size = d := by simpa using z
      exact Nat.ne_of_gt haS this
  have hzz : kvs.length ≤ sizeLine := by rw [hkl, sizeLine_eq]; omega
  have W := (Walks.dictKeys (prog := P) (w := w) (A := A.in1) (knd := mixKind P w) hh (s.heap.objs.size + 1) d hne kvs ep).toS
  refine wpAny_pure ⟨plainId_quiet F.plain_extend_loop _, codeAny_extend_loopS W hzz _ hSf _ kvs.length 0 _ _ _ rfl (Nat.zero_le _) (W.frame 0 ({ s with heap := h' } : Shared) _ s.toks ⟨hit, dd2⟩ (Nat.le_refl _) fun b hb u e => oth b u (fun z => hSf (z ▸ hb)) e) hS3 (ItemsOf.nil _) fun s' acc' c' hm hS' hacc => ?_⟩
  show wpAny _ A (load s.heap.objs.size >>= _) _ _ s'
  refine wpAny_bind (wpAny_load hS' (wpAny_pure ?_))
  obtain ⟨h2, g2, d2, tk2, os2⟩ := s'
  have e1 : g2 = s.gens := hm.gens
  have e2 : d2 = s.drawn := hm.drawn
  have e3 : os2 = s.os := hm.os
  subst e1; subst e2; subst e3
  refine q acc'.toList h2 tk2 (fun b u e => ?_) (Nat.le_of_lt (Heap.lt_size hS')) ?_
  · have hlt := Heap.lt_size e
    refine hm.heap b u (fun z => ?_) (oth b u (Nat.ne_of_lt hlt) (k2 b u (k1 b u e)))
    rcases List.mem_cons.mp z with z | z
    · exact Nat.ne_of_lt hlt z
    · have z2 : b = s.heap.objs.size + 1 := by simpa using z
      exact Nat.ne_of_lt (Nat.lt_succ_of_lt hlt) z2
  · have hlen : acc'.toList.length = ks.length := by rw [Array.length_toList, hacc.1, hkl]
    have hget : ∀ (i : Nat) (v : Value), acc'.toList[i]? = some v → ∃ n t, ks[i]? = some n ∧ v = .int n t := fun i v e => by
      obtain ⟨k, x, hkx, his⟩ := hacc.2 i v (by rw [← Array.getElem?_toList]; exact e)
      have h5 : (kvs.map (·.1))[i]? = some k := by rw [List.getElem?_map, hkx]; rfl
      rw [hk, List.getElem?_map] at h5
      cases hn : ks[i]? with
      | none => rw [hn] at h5; cases h5
      | some n =>
        rw [hn] at h5
        have h6 : k = Sum.inl n := (Option.some.inj h5).symm
        subst h6
        rcases keyIs_shape (show keyIs (Sum.inl n) v = true from his) with ⟨i', t, e1, e2⟩ | ⟨y, t, e1, e2⟩
        · have e1 : n = i' := by first | exact Sum.inl.inj e1 | exact Sum.inl.inj e2
          subst e1
          exact ⟨n, t, rfl, by first | exact e2 | exact e1⟩
        · first | exact nomatch e1 | exact nomatch e2
    have fin : ∀ (ks : List Int) (vs : List Value), vs.length = ks.length → (∀ (i : Nat) (v : Value), vs[i]? = some v → ∃ n t, ks[i]? = some n ∧ v = .int n t) → IntsAre vs ks := by
      intro ks
      induction ks with
      | nil => intro vs h _; have : vs = [] := List.length_eq_zero_iff.mp h; subst this; exact .nil
      | cons k r ih =>
        intro vs h hg
        cases vs with
        | nil => cases h
        | cons v vr =>
          obtain ⟨n, t, h1, rfl⟩ := hg 0 v rfl
          simp at h1
          subst h1
          exact .cons _ t (ih vr (by simpa using h) fun i v hv => by simpa using hg (i + 1) v (by simpa using hv))
    exact fin ks acc'.toList hlen hget
theorem sorted_dictI {ks : List Int} {kvs : List (Key × Value)} {ep : Nat} {Q : Value → Shared → Prop} (hh : A.handled = none) (hs : (d == sysModules) = false) (dd : s.heap.DictAt (mixKind P w) d kvs ep) (hk : kvs.map (·.1) = ks.map Sum.inl) (h64 : ks.length < 64)
    (q : ∀ (D : Addr) (out : Array Value) (c : Nat) (ns' : List Int) (h' : Heap) (tk : Nat), s.heap.objs.size ≤ D → h'.get? D = some { cls := .type "list", data := .seq out c } → (∀ b u, s.heap.get? b = some u → h'.get? b = some u) → IntsAre out.toList ns' → ns'.Perm ks → ns'.Pairwise (· ≤ ·) → Q (.ref D) { s with heap := h', toks := tk }) :
    wpAny (model P w) A (call (.builtin "sorted") [.ref d]) Q E s := by
  refine Calls.call_function_entry kind_sorted plain_sorted entry_sorted (args_sorted1 _) ?_
  unfold Builtin.«sorted»
  refine wpAny_bind (m := checkCount "sorted" 1 1 _) (wpAny_pure ?_)
  refine wpAny_bind (collect_dictI (A := A.in1) hh hs dd hk (by omega) fun vs h' tk k hsz hI => ?_)
  have hvl : vs.length < 64 := by rw [IntsAre.length hI]; exact h64
  refine wpAny_bind (wpAny_newList ?_ (by rw [sizeLine_eq]; omega))
  have hoL : (h'.push (seqObj "list" vs.toArray 0)).get? h'.objs.size = some (seqObj "list" vs.toArray 0) := Heap.get?_push_size _ rfl
  refine wpAny_bind (wpAny_holding (wpAny_call_entry slot_list_sort (s := { s with heap := h'.push (seqObj "list" vs.toArray 0), toks := tk }) ⟨_, hoL, rfl⟩ entry_list_sort (list_sort_tree hoL hI hvl fun out ns' a1 a2 a3 => ⟨_, rfl, ?_⟩) (args_list_sort _)))
  obtain ⟨⟨c, e1⟩, e2, _⟩ := sorted_put (out := out) hoL
  exact wpAny_pure ⟨_, rfl, q h'.objs.size out c ns' _ tk hsz e1 (fun b u e => e2 b u (Nat.ne_of_lt (Heap.lt_size (k b u e))) (Heap.get?_push_of_some _ (k b u e))) a1 a2 a3⟩
end
section
variable {X : Cx}
noncomputable def rSortD : List V → Hp → VK → Prop := fun xs H Q => ∃ (d : Addr) (ks : List Int) (kvs : List (Key × V)), xs = [.ref d] ∧ H d = some (.dK kvs) ∧ kvs.map (·.1) = ks.map Sum.inl ∧ ks.length < 64 ∧ ∀ (l : Addr) (ns' : List Int), H l = none → ns'.Perm ks → ns'.Pairwise (· ≤ ·) → Q (.ref l) (upd H l (.lst (ns'.map V.int)))
theorem call_sortD (hh : X.A.handled = none) : CallR X (.builtin "sorted") rSortD := by
  intro pins s σ H xs us Q I r h
  obtain ⟨d, ks, kvs, rfl, hq, hk, hz, q⟩ := h
  obtain ⟨u, rfl, ru⟩ := vals1 r
  cases ru
  obtain ⟨z, hs, vs, rel, o, es, ep, ho, h2, h3, h4⟩ := dk_of I.hok hq
  have dd : s.heap.DictAt (mixKind X.prog X.w) d vs ep := ⟨o, es, ho, h2, h3, h4⟩
  refine sorted_dictI hh hs dd (by first | (rw [← KV.keys rel]; exact hk) | (rw [KV.keys rel] at hk; exact hk)) hz fun D out c ns' h' tk hD hget k a1 a2 a3 => ?_
  have hn : H D = none := I.hok.fresh hD
  have rv' : Vals (ns'.map V.int) out.toList := vals_ints a1
  refine ⟨.ref D, _, I.laid (t' := tk) (o := .lst (ns'.map V.int)) k hD ⟨?_, out.toList, c, rv', by simpa using hget⟩, rfl, q _ ns' hn a2 a3⟩
  rw [List.length_map, a2.length_eq, sizeLine_eq]; omega
noncomputable def rSumI (K : PySem.W.Frag) : List V → Hp → VK → Prop := fun xs H Q => ∃ (a : Addr) (ns : List Int), xs = [.ref a] ∧ SqL K H a (ns.map V.int) ∧ Q (.int ns.sum) H
theorem call_sumI (hh : X.A.handled = none) : CallR X (.builtin "sum") (rSumI X.K) := by
  intro pins s σ H xs us Q I r h
  obtain ⟨a, ns, rfl, hq, q⟩ := h
  obtain ⟨u, rfl, ru⟩ := vals1 r
  cases ru
  obtain ⟨its, rv, pl, _⟩ := I.list hq
  have hi := intsAre_of rv
  obtain ⟨xs, hx⟩ := hi.allInts.items
  have hl' : s.heap.IsList a (intItems xs) := hx ▸ pl.isList
  refine sum_intListG hh hl' fun h' tk t' hk => ?_
  have e1 : ns = xs.toList.map (·.1) := by
    rw [← nums_intItems, ← hx]
    exact (show numsOf its.toArray.toList = ns from hi.numsOf).symm
  have e2 : preSum (numAt xs) xs.size = ns.sum := by rw [preSum_eq, List.take_of_length_le (by simp), e1]
  rw [e2]
  exact ⟨.int ns.sum, H, I.kept (t' := tk) hk, ⟨t', rfl⟩, q⟩
end
end L2
set_option maxHeartbeats 1000000
namespace L2
open PySem PySem.Spec PyProof.Rows
theorem sumK {X : Cx} (K : PySem.W.Frag) (hK : X.K = K) (hh : X.A.handled = none) : CallR X (.builtin "sum") (rSumI K) := hK ▸ call_sumI hh
noncomputable def spSize (K : PySem.W.Frag) : Sp := fun vs H Q _ => ∃ (wa : Addr) (ws : List (List Blk)), vs = [.ref wa] ∧ Den K H (worksD ws) (.ref wa) ∧ ws.length ≤ 25 ∧ (∀ w ∈ ws, w.length ≤ 12) ∧ ∀ (r : Int) (H' : Hp), Ext [] H H' → Q (.int r) H'
end L2
set_option maxHeartbeats 1000000
namespace L2
open PySem PySem.Spec PyProof.Rows
noncomputable def slimB (b : Blk) : Blk := ⟨b.ds.take 2, b.ns⟩
noncomputable def slimWs (ws : List (List Blk)) : List (List Blk) := ws.take 1 ++ (ws.drop 1).map fun w => w.map slimB
theorem slim_len (ws : List (List Blk)) : (slimWs ws).length = ws.length := by unfold slimWs; simp; omega
theorem slim_ok {ws : List (List Blk)} (h : WsOk ws) : WsOk (slimWs ws) := by
  refine ⟨fun w hw => ?_, by rw [slim_len]; exact h.one, by rw [slim_len]; exact h.few⟩
  rw [slim_len]
  unfold slimWs at hw
  rcases List.mem_append.mp hw with z | z
  · exact h.all w (List.mem_of_mem_take z)
  · obtain ⟨w0, hw0, rfl⟩ := List.mem_map.mp z
    obtain ⟨m, h1, h2, h3⟩ := h.all w0 (List.mem_of_mem_drop hw0)
    refine ⟨m, h1, h2, by rw [List.length_map]; exact h3.len, fun b hb => ?_⟩
    obtain ⟨b0, hb0, rfl⟩ := List.mem_map.mp hb
    have hb0 := h3.blk b0 hb0
    refine ⟨hb0.ns, fun d hd => hb0.ds d (List.mem_of_mem_take hd), ?_⟩
    show (b0.ds.take 2).length ≤ 20
    rw [List.length_take]; omega
end L2
set_option maxHeartbeats 1000000
namespace L2
open PySem PySem.Spec PyProof.Rows
def Nex (H : Hp) (nd : Addr) (w : List Blk) : Prop := ∃ kvs : List (Key × V), H nd = some (.dK kvs) ∧ ∀ k : Int, 0 ≤ k → k < w.length → ∃ c, valV kvs (Sum.inl k) = some (.ref c) ∧ H c = some (.lst ((nxt w k).map V.int))
theorem Nex.mono {H H' : Hp} {nd : Addr} {w : List Blk} (h : Nex H nd w) (e : Ext [] H H') : Nex H' nd w := by
  obtain ⟨kvs, h1, h2⟩ := h
  refine ⟨kvs, e _ _ (by simp) h1, fun k k0 k1 => ?_⟩
  obtain ⟨c, c1, c2⟩ := h2 k k0 k1
  exact ⟨c, c1, e _ _ (by simp) c2⟩
noncomputable def spLedN (K : PySem.W.Frag) : Sp := fun vs H Q _ => ∃ (st nd : Addr) (wk : List Blk) (m works : Int) (ss : List Int), vs = [.ref st, .ref nd] ∧ SqL K H st (ss.map V.int) ∧ Nex H nd wk ∧ WorkOk m works wk ∧ m ≤ 12 ∧ (∀ s ∈ ss, 0 ≤ s ∧ s < m) ∧ ss.length ≤ 500 ∧
  ∀ (d : Addr) (ks : List Int) (H' : Hp), H d = none → Ext [] H H' → H' d = some (.dK (ks.map fun k => ((Sum.inl k : Key), V.bl true))) → ks.Nodup → (∀ x, x ∈ ks ↔ ∃ s ∈ ss, Reach (nxt wk) s x) → Q (.ref d) H'
theorem valV_ks (y : Int) : ∀ ks : List Int, valV (ks.map fun k => ((Sum.inl k : Key), V.bl true)) (Sum.inl y) = if y ∈ ks then some (V.bl true) else none
  | [] => rfl
  | k :: r => by
    have ih := valV_ks y r
    by_cases e : k = y
    · subst e
      rw [List.map_cons, valV_pos rfl, if_pos (List.mem_cons_self ..)]
    · rw [List.map_cons, valV_neg (fun z => e (Sum.inl.inj z)), ih]
      have : (y ∈ k :: r) ↔ y ∈ r := by simp [Ne.symm e]
      simp only [this]
structure LedI (H : Hp) (st nd d du : Addr) (wk : List Blk) (ss : List Int) (ks due : List Int) (H' : Hp) : Prop where
  ext : Ext [] H H'
  hd : H' d = some (.dK (ks.map fun k => ((Sum.inl k : Key), V.bl true)))
  hdu : H' du = some (.lst (due.map V.int))
  nod : ks.Nodup
  rk : ∀ x ∈ ks, ∃ s ∈ ss, Reach (nxt wk) s x
  rd : ∀ x ∈ due, ∃ s ∈ ss, Reach (nxt wk) s x
  clo : ∀ k ∈ ks, ∀ c ∈ nxt wk k, c ∈ ks ∨ c ∈ due
  one : ∀ s ∈ ss, s ∈ ks ∨ s ∈ due
  few : ks.length ≤ cnt (fun x => decide (x ∈ ks)) wk.length
  fewd : due.length ≤ 500 + 2 * cnt (fun x => decide (x ∈ ks)) wk.length
def LedW (H : Hp) (st nd d du : Addr) (wk : List Blk) (ss : List Int) (μ : Nat) (σ' : St) (H' : Hp) : Prop := ∃ (ks due : List Int) (o4 : Option V), μ = (wk.length - cnt (fun x => decide (x ∈ ks)) wk.length) * 3 + due.length ∧ σ' = [some (.ref st), some (.ref nd), some (.ref d), some (.ref du), o4] ∧ LedI H st nd d du wk ss ks due H'
theorem LedI.end_ {H H' : Hp} {st nd d du : Addr} {wk : List Blk} {ss : List Int} {ks : List Int} (h : LedI H st nd d du wk ss ks [] H') (x : Int) : x ∈ ks ↔ ∃ s ∈ ss, Reach (nxt wk) s x := by
  have key : ∀ s ∈ ss, ∀ y, Reach (nxt wk) s y → y ∈ ks := by
    intro s hs y r
    induction r with
    | refl => exact (h.one s hs).elim id fun z => absurd z (by simp)
    | step _ hc ih => exact (h.clo _ ih _ hc).elim id fun z => absurd z (by simp)
  exact ⟨h.rk x, fun ⟨s, hs, r⟩ => key s hs x r⟩
noncomputable def spLed2 (K : PySem.W.Frag) : Sp := fun vs H Q E => spLedN K vs H Q E ∨ spLedT K vs H Q E
end L2
set_option maxHeartbeats 1000000
namespace L2
open PySem PySem.Spec PyProof.Rows
noncomputable def hasW (wk : List Blk) (x : Int) (i : Nat) : Bool := (wk[i]?).any fun b => wrote x b.ds
noncomputable def wrTo (wk : List Blk) (x : Int) (i : Nat) : List Int := ((List.range i).filter (hasW wk x)).map fun (n : Nat) => (n : Int)
theorem wrTo_succ (wk : List Blk) (x : Int) (i : Nat) : wrTo wk x (i + 1) = if hasW wk x i = true then wrTo wk x i ++ [(i : Int)] else wrTo wk x i := by
  unfold wrTo
  rw [List.range_succ, List.filter_append, List.filter_cons, List.filter_nil]
  split
  · rw [List.map_append]; rfl
  · rw [List.append_nil]
theorem wrTo_len (wk : List Blk) (x : Int) (i : Nat) : (wrTo wk x i).length ≤ i := by
  unfold wrTo
  rw [List.length_map]
  have := List.length_filter_le (hasW wk x) (List.range i)
  rw [List.length_range] at this
  exact this
theorem hasW_at {wk : List Blk} {x : Int} {i : Nat} {b : Blk} (h : wk[i]? = some b) : hasW wk x i = wrote x b.ds := by unfold hasW; rw [h]; rfl
theorem mem_wrTo {wk : List Blk} {x y : Int} {i : Nat} : y ∈ wrTo wk x i ↔ ∃ n : Nat, y = (n : Int) ∧ n < i ∧ hasW wk x n = true := by
  unfold wrTo
  rw [List.mem_map]
  constructor
  · rintro ⟨n, hn, rfl⟩
    obtain ⟨h1, h2⟩ := List.mem_filter.mp hn
    exact ⟨n, rfl, List.mem_range.mp h1, h2⟩
  · rintro ⟨n, rfl, h1, h2⟩
    exact ⟨n, List.mem_filter.mpr ⟨List.mem_range.mpr h1, h2⟩, rfl⟩
noncomputable def spWriters (K : PySem.W.Frag) : Sp := fun vs H Q _ => ∃ (wa : Addr) (wk : List Blk) (m works x : Int), vs = [.ref wa, .int x] ∧ Den K H (workD wk) (.ref wa) ∧ WorkOk m works wk ∧ m ≤ 12 ∧
  ∀ (l : Addr) (H' : Hp), H l = none → Ext [] H H' → H' l = some (.lst ((wrTo wk x wk.length).map V.int)) → Q (.ref l) H'
end L2
set_option maxHeartbeats 1000000
namespace L2
open PySem PySem.Spec PyProof.Rows
noncomputable def waitTo (ws : List (List Blk)) (x : Int) (n i : Nat) : List Int := ((List.range i).filter fun (a : Nat) => askB ws x ((n : Int), (a : Int))).map fun (a : Nat) => (a : Int)
theorem waitTo_succ (ws : List (List Blk)) (x : Int) (n i : Nat) : waitTo ws x n (i + 1) = if askB ws x ((n : Int), (i : Int)) = true then waitTo ws x n i ++ [(i : Int)] else waitTo ws x n i := by
  unfold waitTo
  rw [List.range_succ, List.filter_append, List.filter_cons, List.filter_nil]
  split
  · rw [List.map_append]; rfl
  · rw [List.append_nil]
theorem waitTo_len (ws : List (List Blk)) (x : Int) (n i : Nat) : (waitTo ws x n i).length ≤ i := by
  unfold waitTo
  rw [List.length_map]
  have := List.length_filter_le (fun a : Nat => askB ws x ((n : Int), (a : Int))) (List.range i)
  rw [List.length_range] at this
  exact this
noncomputable def spAwaited (K : PySem.W.Frag) : Sp := fun vs H Q _ => ∃ (wa : Addr) (ws : List (List Blk)) (n : Nat) (wk : List Blk) (x : Int), vs = [.ref wa, .int n, .int x] ∧ Den K H (worksD ws) (.ref wa) ∧ WsOk ws ∧ ws[n]? = some wk ∧
  ∀ (l : Addr) (H' : Hp), H l = none → Ext [] H H' → H' l = some (.lst ((waitTo ws x n wk.length).map V.int)) → Q (.ref l) H'
end L2
set_option maxHeartbeats 1000000
namespace L2
open PySem PySem.Spec PyProof.Rows
noncomputable def startsOf (wk : List Blk) (x : Int) : List Int := (wrTo wk x wk.length).flatMap (nxt wk)
theorem flat_len {α β : Type} (f : α → List β) (h : ∀ a, (f a).length ≤ 2) : ∀ l : List α, (l.flatMap f).length ≤ 2 * l.length
  | [] => Nat.le_refl _
  | a :: r => by
    have := flat_len f h r
    have := h a
    rw [List.flatMap_cons, List.length_append, List.length_cons]; omega
noncomputable def spReached (K : PySem.W.Frag) : Sp := fun vs H Q _ => ∃ (wa : Addr) (ws : List (List Blk)) (n : Nat) (wk : List Blk) (x : Int), vs = [.ref wa, .int n, .int x] ∧ Den K H (worksD ws) (.ref wa) ∧ WsOk ws ∧ ws[n]? = some wk ∧
  ∀ (l : Addr) (ns : List Int) (H' : Hp), H l = none → Ext [] H H' → H' l = some (.lst (ns.map V.int)) → ns.Pairwise (· ≤ ·) → ns.Nodup → (∀ y, y ∈ ns ↔ ∃ s ∈ startsOf wk x, Reach (nxt wk) s y) → Q (.ref l) H'
end L2
set_option maxHeartbeats 1000000
namespace L2
open PySem PySem.Spec PyProof.Rows
noncomputable def grow (nx : Int → List Int) (F : List Int) (b : Int) : List Int := F ++ (nx b).filter fun x => !decide (x ∈ F)
structure BehI (nx : Int → List Int) (ss : List Int) (m : Nat) (F : List Int) : Prop where
  sub : ∀ s ∈ ss, s ∈ F
  rk : ∀ x ∈ F, ∃ s ∈ ss, Reach nx s x
  len : F.length ≤ ss.length + 2 * cnt (fun x => decide (x ∈ F)) m
theorem BehI.start (nx : Int → List Int) (ss : List Int) (m : Nat) : BehI nx ss m ss := ⟨fun _ h => h, fun x h => ⟨x, h, .refl⟩, Nat.le_add_right _ _⟩
theorem mem_grow {nx : Int → List Int} {F : List Int} {b x : Int} : x ∈ grow nx F b ↔ x ∈ F ∨ x ∈ nx b := by
  unfold grow
  rw [List.mem_append, List.mem_filter]
  by_cases h : x ∈ F <;> simp [h]
theorem BehI.grow {nx : Int → List Int} {ss F : List Int} {m : Nat} {b : Int} (h : BehI nx ss m F) (hb : b ∈ F) (few : ∀ x, (nx x).length ≤ 2) (hr : ∀ x, (∃ s ∈ ss, Reach nx s x) → 0 ≤ x ∧ x < (m : Int)) : BehI nx ss m (grow nx F b) := by
  refine ⟨fun s hs => mem_grow.mpr (.inl (h.sub s hs)), fun x hx => ?_, ?_⟩
  · rcases mem_grow.mp hx with z | z
    · exact h.rk x z
    · obtain ⟨s, hs, r⟩ := h.rk b hb
      exact ⟨s, hs, .step r z⟩
  · have hl := h.len
    by_cases e : (nx b).filter (fun x => !decide (x ∈ F)) = []
    · have : L2.grow nx F b = F := by unfold L2.grow; rw [e, List.append_nil]
      rw [this]; exact hl
    · obtain ⟨y, hy⟩ := List.exists_mem_of_ne_nil _ e
      obtain ⟨hy1, hy2⟩ := List.mem_filter.mp hy
      have hyF : y ∉ F := by simpa using hy2
      obtain ⟨s, hs, r⟩ := h.rk b hb
      have hyr := hr y ⟨s, hs, .step r hy1⟩
      have hlt := cnt_lt (p := fun x => decide (x ∈ F)) (q := fun x => decide (x ∈ L2.grow nx F b)) (x := y) (fun i hi => decide_eq_true (mem_grow.mpr (.inl (of_decide_eq_true hi)))) (decide_eq_true (mem_grow.mpr (.inr hy1))) (decide_eq_false hyF) m hyr.1 hyr.2
      have h1 := List.length_filter_le (fun x => !decide (x ∈ F)) (nx b)
      have h2 := few b
      have : (L2.grow nx F b).length = F.length + ((nx b).filter fun x => !decide (x ∈ F)).length := by unfold L2.grow; rw [List.length_append]
      omega
def Lays (nx : Int → List Int) (ss : List Int) (t : Nat) (F : List Int) : Prop := ∀ s ∈ ss, ∀ j, j ≤ t → ∀ x ∈ (lay nx s j).2, x ∈ F
theorem Lays.zero {nx : Int → List Int} {ss F : List Int} (h : ∀ s ∈ ss, s ∈ F) : Lays nx ss 0 F := fun s hs j hj x hx => by
  have : j = 0 := by omega
  subst this
  have : x = s := by simpa [lay] using hx
  rw [this]; exact h s hs
theorem Lays.succ {nx : Int → List Int} {ss F G : List Int} {t : Nat} (h : Lays nx ss t F) (h1 : ∀ x ∈ F, x ∈ G) (h2 : ∀ b ∈ F, ∀ c ∈ nx b, c ∈ G) : Lays nx ss (t + 1) G := fun s hs j hj x hx => by
  by_cases e : j = t + 1
  · subst e
    obtain ⟨⟨b, hb, hx1⟩, _⟩ := lay_further.mp hx
    exact h2 b (h s hs t (Nat.le_refl _) b hb) x hx1
  · exact h1 x (h s hs j (by omega) x hx)
theorem Lays.all {nx : Int → List Int} {ss F : List Int} {m : Nat} (h : Lays nx ss m F) (I : BehI nx ss m F) (hr : ∀ x, (∃ s ∈ ss, Reach nx s x) → 0 ≤ x ∧ x < (m : Int)) (x : Int) : x ∈ F ↔ ∃ s ∈ ss, Reach nx s x := by
  refine ⟨I.rk x, fun ⟨s, hs, r⟩ => ?_⟩
  obtain ⟨j, hj, hx⟩ := lay_all (m := m) (fun y i hy => hr y ⟨s, hs, lay_reach hy⟩) r
  exact h s hs j hj x hx
theorem rising_same : ∀ {xs ys : List Int}, xs.Pairwise (· ≤ ·) → xs.Nodup → ys.Pairwise (· ≤ ·) → ys.Nodup → (∀ y, y ∈ xs ↔ y ∈ ys) → xs = ys := by
  intro xs ys h1 h2 h3 h4 h
  exact List.Perm.eq_of_pairwise (fun a b _ _ h5 h6 => Int.le_antisymm h5 h6) h1 h3 ((List.perm_ext_iff_of_nodup h2 h4).mpr h)
noncomputable def spBehind (K : PySem.W.Frag) : Sp := fun vs H Q _ => ∃ (wa : Addr) (wk : List Blk) (m works x : Int), vs = [.ref wa, .int x] ∧ Den K H (workD wk) (.ref wa) ∧ WorkOk m works wk ∧ m ≤ 12 ∧
  ∀ (l : Addr) (ns : List Int) (H' : Hp), H l = none → Ext [] H H' → H' l = some (.lst (ns.map V.int)) → ns.Pairwise (· ≤ ·) → ns.Nodup → (∀ y, y ∈ ns ↔ ∃ s ∈ startsOf wk x, Reach (nxt wk) s y) → Q (.ref l) H'
end L2
set_option maxHeartbeats 1000000
namespace L2
open PySem PySem.Spec PyProof.Rows
mutual
noncomputable def noI : PyData → Bool
  | .list ds => noIs ds && (match ds with | .int _ :: _ => false | _ => true)
  | .tuple ds => noIs ds
  | _ => true
noncomputable def noIs : List PyData → Bool
  | [] => true
  | d :: ds => noI d && noIs ds
end
theorem noIs_map {α : Type} {f : α → PyData} : ∀ {l : List α}, (∀ a ∈ l, noI (f a) = true) → noIs (l.map f) = true
  | [], _ => rfl
  | a :: l, h => by
    simp only [List.map_cons, noIs, Bool.and_eq_true]
    exact ⟨h a (List.mem_cons_self ..), noIs_map fun b hb => h b (List.mem_cons_of_mem _ hb)⟩
theorem noI_deed (d : Deed) : noI (deedD d) = true := by cases d <;> rfl
theorem noI_end (ns : List Int) : noI (endD ns) = true := by
  match ns with
  | [] => rfl
  | [x] => rfl
  | x :: y :: _ => rfl
theorem noI_blk (b : Blk) : noI (blkD b) = true := by
  simp only [blkD, noI, noIs, noI_end, Bool.and_true, Bool.and_eq_true]
  refine ⟨noIs_map fun d _ => noI_deed d, ?_⟩
  cases b.ds with
  | nil => rfl
  | cons d ds => cases d <;> rfl
theorem noI_work (w : List Blk) : noI (workD w) = true := by
  simp only [workD, noI, Bool.and_eq_true]
  refine ⟨noIs_map fun d _ => noI_blk d, ?_⟩
  cases w <;> rfl
theorem noI_works (ws : List (List Blk)) : noI (worksD ws) = true := by
  simp only [worksD, noI, Bool.and_eq_true]
  refine ⟨noIs_map fun d _ => noI_work d, ?_⟩
  cases ws <;> rfl
theorem rise_len : ∀ {ns : List Int} {lo hi : Int}, ns.Pairwise (· ≤ ·) → ns.Nodup → (∀ n ∈ ns, lo ≤ n ∧ n < hi) → (ns.length : Int) ≤ max 0 (hi - lo)
  | [], _, _, _, _, _ => by simp; omega
  | n :: r, lo, hi, h1, h2, h3 => by
    obtain ⟨h11, h12⟩ := List.pairwise_cons.mp h1
    obtain ⟨h21, h22⟩ := List.nodup_cons.mp h2
    have hn := h3 n (List.mem_cons_self ..)
    have := rise_len (ns := r) (lo := n + 1) (hi := hi) h12 h22 fun m hm => by
      have a := h11 m hm
      have b := h3 m (List.mem_cons_of_mem _ hm)
      have c : m ≠ n := fun z => h21 (z ▸ hm)
      omega
    rw [List.length_cons]
    omega
end L2
set_option maxHeartbeats 1000000
namespace L2
open PySem PySem.Spec PyProof.Rows
noncomputable def lcg (M i : Nat) : Nat := (i * 5 + 1) % M
noncomputable def orb (M : Nat) : Nat → Nat → Nat
  | 0, i => i
  | j + 1, i => orb M j (lcg M i)
theorem orb_succ (M : Nat) : ∀ j i, orb M (j + 1) i = lcg M (orb M j i)
  | 0, _ => rfl
  | j + 1, i => orb_succ M j (lcg M i)
theorem orb_add (M a : Nat) : ∀ b i, orb M (a + b) i = orb M b (orb M a i)
  | 0, _ => rfl
  | b + 1, i => by
    show orb M (a + b) (lcg M i) = orb M b (lcg M (orb M a i))
    rw [orb_add M a b (lcg M i), ← orb_succ]; rfl
noncomputable def Cyc (M : Nat) : Bool := ((List.range M).all fun x => (List.range M).any fun j => orb M j 0 == x) && (orb M M 0 == 0)
theorem Cyc.from {M : Nat} (h : Cyc M = true) {i x : Nat} (hi : i < M) (hx : x < M) : ∃ j, j < M ∧ orb M j i = x := by
  unfold Cyc at h
  rw [Bool.and_eq_true, List.all_eq_true] at h
  obtain ⟨h1, h2⟩ := h
  have h2 := beq_iff_eq.mp h2
  obtain ⟨a, ha, ea⟩ := List.any_eq_true.mp (h1 i (List.mem_range.mpr hi))
  obtain ⟨b, hb, eb⟩ := List.any_eq_true.mp (h1 x (List.mem_range.mpr hx))
  have ha := List.mem_range.mp ha
  have hb := List.mem_range.mp hb
  have ea := beq_iff_eq.mp ea
  have eb := beq_iff_eq.mp eb
  by_cases hab : a ≤ b
  · refine ⟨b - a, by omega, ?_⟩
    rw [← ea, ← orb_add, show a + (b - a) = b by omega]; exact eb
  · refine ⟨M + b - a, by omega, ?_⟩
    rw [← ea, ← orb_add, show a + (M + b - a) = M + b by omega, orb_add, h2]; exact eb
noncomputable def pows : List Nat := [8, 16, 32, 64, 128]
theorem cyc_pows : ∀ M ∈ pows, Cyc M = true := by decide +kernel
theorem free_find {mask : Nat} {owner : Array (Option Nat)} (hs : owner.size = mask + 1) : ∀ (fuel i p : Nat), p < 32 → i < mask + 1 →
    (∃ j, SetTable.layClean.free mask owner fuel i p = some j ∧ j < mask + 1 ∧ owner[j]? = some none) ∨ (∀ j, j < fuel → ∃ v, owner[orb (mask + 1) j i]? = some (some v))
  | 0, _, _, _, _ => .inr fun j hj => absurd hj (Nat.not_lt_zero _)
  | fuel + 1, i, p, hp, hi => by
    unfold SetTable.layClean.free
    have hre : i ≤ SetTable.runEnd mask i ∧ SetTable.runEnd mask i ≤ mask := by unfold SetTable.runEnd; split <;> omega
    cases hf : (List.range (SetTable.runEnd mask i + 1 - i)).find? fun k => (owner.getD (i + k) (some 0)).isNone with
    | some k =>
      have h1 := List.find?_some hf
      have h2 := List.mem_range.mp (List.mem_of_find?_eq_some hf)
      have hlt : i + k < owner.size := by omega
      refine .inl ⟨i + k, rfl, by omega, ?_⟩
      rw [Array.getD_eq_getD_getElem?, Array.getElem?_eq_getElem hlt] at h1
      rw [Array.getElem?_eq_getElem hlt]
      have h1 : (owner[i + k]).isNone = true := h1
      rw [Option.isNone_iff_eq_none.mp h1]
    | none =>
      dsimp only
      have hl : SetTable.leap mask i p = (lcg (mask + 1) i, 0) := by
        unfold SetTable.leap lcg
        rw [show p / 32 = 0 by omega]
      rw [hl]
      dsimp only
      rcases free_find hs fuel (lcg (mask + 1) i) 0 (by omega) (Nat.mod_lt _ (by omega)) with z | z
      · exact .inl z
      · refine .inr fun j hj => ?_
        cases j with
        | zero =>
          have := List.find?_eq_none.mp hf 0 (List.mem_range.mpr (by omega))
          have hlt : i < owner.size := by omega
          rw [Nat.add_zero, Array.getD_eq_getD_getElem?, Array.getElem?_eq_getElem hlt] at this
          show ∃ v, owner[i]? = some (some v)
          rw [Array.getElem?_eq_getElem hlt]
          have this : ¬ (owner[i]).isNone = true := this
          cases ho : owner[i] with
          | none => rw [ho] at this; exact absurd rfl this
          | some v => exact ⟨v, rfl⟩
        | succ j => exact z j (by omega)
theorem somes_set {k : Nat} : ∀ {l : List (Option Nat)} {j : Nat}, l[j]? = some none → ((l.set j (some k)).filterMap id).Perm (k :: l.filterMap id)
  | [], j, h => by simp at h
  | a :: l, 0, h => by
    simp at h; subst h
    exact .refl _
  | a :: l, j + 1, h => by
    have ih := somes_set (k := k) (l := l) (j := j) (by simpa using h)
    rw [List.set_cons_succ]
    cases a with
    | none => exact ih
    | some v =>
      show (v :: (l.set j (some k)).filterMap id).Perm (k :: v :: l.filterMap id)
      exact (List.Perm.cons v ih).trans (List.Perm.swap ..)
theorem somes_len : ∀ l : List (Option Nat), (∀ j, j < l.length → ∃ v, l[j]? = some (some v)) → (l.filterMap id).length = l.length
  | [], _ => rfl
  | a :: l, h => by
    obtain ⟨v, hv⟩ := h 0 (by simp)
    simp at hv; subst hv
    show (v :: l.filterMap id).length = _
    rw [List.length_cons, List.length_cons, somes_len l fun j hj => by simpa using h (j + 1) (by simpa using hj)]
theorem bits_small {h : Int} (h0 : 0 ≤ h) (h1 : h < 32) : SetTable.bits h < 32 := by unfold SetTable.bits; omega
theorem lay_go {mask : Nat} (hM : mask + 1 ∈ pows) : ∀ (hs : List Int) (owner : Array (Option Nat)) (k : Nat), (∀ h ∈ hs, 0 ≤ h ∧ h < 32) → owner.size = mask + 1 → (owner.toList.filterMap id).Perm (List.range k) → k + hs.length ≤ mask →
    ∃ ow, (hs.foldl (fun acc h => (do
      let (owner, k) ← acc
      let j ← SetTable.layClean.free mask owner (SetTable.turns mask) (SetTable.bits h % (mask + 1)) (SetTable.bits h)
      pure (owner.setIfInBounds j (some k), k + 1) : Option (Array (Option Nat) × Nat))) (some (owner, k))) = some (ow, k + hs.length) ∧ ow.size = mask + 1 ∧ (ow.toList.filterMap id).Perm (List.range (k + hs.length))
  | [], owner, k, _, hz, hp, _ => ⟨owner, rfl, hz, hp⟩
  | h :: hs, owner, k, hh, hz, hp, hk => by
    obtain ⟨a0, a1⟩ := hh h (List.mem_cons_self ..)
    rw [List.length_cons] at hk
    have hfree : ∃ j, SetTable.layClean.free mask owner (SetTable.turns mask) (SetTable.bits h % (mask + 1)) (SetTable.bits h) = some j ∧ j < mask + 1 ∧ owner[j]? = some none := by
      rcases free_find hz (SetTable.turns mask) (SetTable.bits h % (mask + 1)) (SetTable.bits h) (bits_small a0 a1) (Nat.mod_lt _ (by omega)) with z | z
      · exact z
      · exfalso
        have hall : ∀ j, j < owner.toList.length → ∃ v, owner.toList[j]? = some (some v) := fun x hx => by
          rw [Array.length_toList, hz] at hx
          obtain ⟨j, hj, e⟩ := Cyc.from (cyc_pows _ hM) (i := SetTable.bits h % (mask + 1)) (Nat.mod_lt _ (by omega)) hx
          obtain ⟨v, hv⟩ := z j (by unfold SetTable.turns; omega)
          rw [e] at hv
          exact ⟨v, by rw [Array.getElem?_toList]; exact hv⟩
        have h1 := somes_len _ hall
        have h2 := hp.length_eq
        rw [List.length_range, h1, Array.length_toList, hz] at h2
        omega
    obtain ⟨j, hj, hjm, hjo⟩ := hfree
    have hstep : ((do
      let (owner, k) ← some (owner, k)
      let j ← SetTable.layClean.free mask owner (SetTable.turns mask) (SetTable.bits h % (mask + 1)) (SetTable.bits h)
      pure (owner.setIfInBounds j (some k), k + 1)) : Option (Array (Option Nat) × Nat)) = some (owner.setIfInBounds j (some k), k + 1) := by
      show (SetTable.layClean.free mask owner (SetTable.turns mask) (SetTable.bits h % (mask + 1)) (SetTable.bits h)).bind _ = _
      rw [hj]; rfl
    have hp' : ((owner.setIfInBounds j (some k)).toList.filterMap id).Perm (List.range (k + 1)) := by
      rw [Array.toList_setIfInBounds]
      refine (somes_set (by rw [Array.getElem?_toList]; exact hjo)).trans ?_
      rw [List.range_succ]
      exact (List.Perm.cons k hp).trans (List.perm_append_singleton k _).symm
    obtain ⟨ow, e, r1, r2⟩ := lay_go hM hs (owner.setIfInBounds j (some k)) (k + 1) (fun x hx => hh x (List.mem_cons_of_mem _ hx)) (by rw [Array.size_setIfInBounds]; exact hz) hp' (by omega)
    refine ⟨ow, ?_, r1, by rw [List.length_cons, show k + (hs.length + 1) = k + 1 + hs.length by omega]; exact r2⟩
    rw [List.foldl_cons, hstep, e, List.length_cons, show k + (hs.length + 1) = k + 1 + hs.length by omega]
theorem filterMap_none {α : Type} : ∀ n : Nat, ((List.replicate n (none : Option α)).filterMap id) = []
  | 0 => rfl
  | n + 1 => by rw [List.replicate_succ]; exact filterMap_none n
theorem layClean_ok {mask : Nat} (hM : mask + 1 ∈ pows) {hs : Array Int} (hh : ∀ h ∈ hs.toList, 0 ≤ h ∧ h < 32) (hl : hs.size ≤ mask) : ∃ ow, SetTable.layClean mask hs = some ow ∧ ow.size = mask + 1 ∧ (ow.toList.filterMap id).Perm (List.range hs.size) := by
  obtain ⟨ow, e, r1, r2⟩ := lay_go hM hs.toList (Array.replicate (mask + 1) none) 0 hh (by simp) (by rw [Array.toList_replicate, filterMap_none]; exact .refl _) (by rw [Array.length_toList]; omega)
  rw [Array.length_toList, Nat.zero_add] at r2
  refine ⟨ow, ?_, r1, r2⟩
  unfold SetTable.layClean
  rw [← Array.foldl_toList, e]; rfl
theorem live_snd (L : List (Option Nat)) : ∀ n, n ≤ L.length → (((List.range n).filterMap fun j => (L.getD j none).map (j, ·)).map (·.2)) = (L.take n).filterMap id
  | 0, _ => by simp
  | n + 1, h => by
    have ih := live_snd L n (by omega)
    rw [List.range_succ, List.filterMap_append, List.map_append, ih, List.take_succ, List.filterMap_append]
    congr 1
    have hn : n < L.length := by omega
    rw [List.getElem?_eq_getElem hn]
    have : L.getD n none = L[n] := by rw [List.getD_eq_getElem?_getD, List.getElem?_eq_getElem hn]; rfl
    rw [List.filterMap_cons, this]
    cases L[n] <;> rfl
theorem live_rise {owner : Array (Option Nat)} {n : Nat} : (((List.range n).filterMap fun j => (owner.getD j none).map (j, ·)).map (·.1)).Pairwise (· < ·) := by
  have hsub : ∀ l : List Nat, ((l.filterMap fun j => (owner.getD j none).map (j, ·)).map (·.1)).Sublist l := by
    intro l
    induction l with
    | nil => exact .slnil
    | cons a r ih =>
      rw [List.filterMap_cons]
      cases owner.getD a none with
      | none => exact ih.cons _
      | some k => exact ih.cons₂ a
  exact List.Pairwise.sublist (hsub _) List.pairwise_lt_range
theorem laid_ok {mask finger moves : Nat} {led plain : Bool} (hM : mask + 1 ∈ pows) {hs : Array Int} (hh : ∀ h ∈ hs.toList, 0 ≤ h ∧ h < 32) (hl : hs.size ≤ mask) :
    ∃ t order, SetTable.laid mask finger moves led plain hs = some (t, order) ∧ order.toList.Perm (List.range hs.size) ∧ GoodT led t hs.size ∧ t.mask = mask ∧ t.dummies = #[] := by
  obtain ⟨ow, e, r1, r2⟩ := layClean_ok hM hh hl
  have hsn := live_snd ow.toList (mask + 1) (by rw [Array.length_toList, r1]; exact Nat.le_refl _)
  rw [List.take_of_length_le (by rw [Array.length_toList, r1]; exact Nat.le_refl _)] at hsn
  have hg : (fun j => (ow.getD j none).map (j, ·)) = fun j => (ow.toList.getD j none).map ((j : Nat), ·) := by
    funext j
    rw [Array.getD_eq_getD_getElem?, List.getD_eq_getElem?_getD, Array.getElem?_toList]
  have hlen : ((List.range (mask + 1)).filterMap fun j => (ow.getD j none).map (j, ·)).length = hs.size := by
    have := congrArg List.length hsn
    rw [List.length_map, ← hg] at this
    rw [this, r2.length_eq, List.length_range]
  refine ⟨_, _, by unfold SetTable.laid; rw [e]; rfl, ?_, ⟨?_, ?_, rfl⟩, rfl, rfl⟩
  · rw [hg]
    show List.Perm (((List.range (mask + 1)).filterMap fun j => (ow.toList.getD j none).map (j, ·)).map (·.2)) _
    rw [hsn]; exact r2
  · unfold SetTable.fits SetTable.fill
    simp only [List.size_toArray, List.length_map, hlen]
    simp
    exact hl
  · exact live_rise
theorem reorder_perm {es : Array (Int × Value)} {order : Array Nat} (h : order.toList.Perm (List.range es.size)) : (order.filterMap (es[·]?)).toList.Perm es.toList := by
  have h1 : (order.filterMap (es[·]?)).toList = order.toList.filterMap (es[·]?) := by rw [Array.toList_filterMap]
  rw [h1]
  refine (h.filterMap _).trans ?_
  have h2 : ∀ n, n ≤ es.size → (List.range n).filterMap (es[·]?) = es.toList.take n := by
    intro n
    induction n with
    | zero => intro _; simp
    | succ n ih =>
      intro hn
      rw [List.range_succ, List.filterMap_append, ih (by omega), List.take_succ]
      congr 1
      rw [List.filterMap_cons, List.filterMap_nil, Array.getElem?_toList, Array.getElem?_eq_getElem (by omega)]; rfl
  rw [h2 es.size (Nat.le_refl _), List.take_of_length_le (by rw [Array.length_toList]; exact Nat.le_refl _)]
theorem above_small : ∀ n, n < 128 → SetTable.sizeAbove n ∈ pows ∧ n < SetTable.sizeAbove n := by decide +kernel
end L2
set_option maxHeartbeats 1000000
namespace L2
open PySem PySem.Spec PyProof.Rows
section
variable {P : Program} {w : World} {A : Around} {E : Value → Shared → Prop} {s : Shared}
theorem addHashI {a : Addr} {ns : List Int} {n : Int} {tk : Tok} {Q : Bool → Shared → Prop} (S : SetI w s.heap a ns) (hroom : ns.length + 1 < scanBound)
    (h : ∀ h', Heap.SameBut a s.heap h' → SetI w h' a (addN ns n) → Q (!decide (n ∈ ns)) { s with heap := h' }) :
    wpAny (model P w) A (setAddHashed a (.int n tk) (hashInt n)) Q E s := by
  show wpAny (model P w) A (setAddHashed a (.int n tk) ((intKind P w).hash n)) Q E s
  obtain ⟨o, es, ep, t, ho, hex, hd, hel, hp, hn, hb, g⟩ := S
  have hlen : es.size = ns.length := by rw [← hp.length_eq, List.length_map, Array.length_toList]
  have he := EI.elems (P := P) (w := w) hel
  have hkey := intKind_is P w n tk
  unfold setAddHashed setAddHashedIn
  refine wpAny_holding (wpAny_bind (wpAny_setState_of ho hd g.fits ?_))
  dsimp only
  rw [byScan_of (knd := intKind P w) (x := .int n tk) rfl hb he]
  simp only [↓reduceIte]
  unfold setAddByScan
  refine wpAny_bind (wpAny_bind (wpAny_rule (wpAny_bind (wpAny_setScan_of (knd := intKind P w) (k := n) hkey ho hd g.fits he ?_))))
  cases hr : List.findIdx? (fun e => (intKind P w).is n e.2) es.toList with
  | some j =>
    dsimp only
    obtain ⟨hj, hpj, _⟩ := List.findIdx?_eq_some_iff_getElem.mp hr
    have hm : n ∈ ns := hp.mem_iff.mp ((mem_keys (P := P) (w := w) hel n).mpr ⟨_, List.getElem_mem hj, hpj⟩)
    refine wpAny_pure (wpAny_pure ?_)
    have q := h s.heap (Heap.SameBut.refl a s.heap) ⟨o, es, ep, t, ho, hex, hd, hel, by unfold addN; rw [if_pos hm]; exact hp, addN_nodup hn, hb, g⟩
    rw [decide_eq_true hm] at q
    exact q
  | none =>
    dsimp only
    have hm : n ∉ ns := fun z => by
      obtain ⟨e, he, q⟩ := (mem_keys (P := P) (w := w) hel n).mp (hp.mem_iff.mpr z)
      have := List.findIdx?_eq_none_iff.mp hr e he
      rw [q] at this; cases this
    have hgw : ∀ (b : Bool) {s₁ : Shared} {Q' : Unit → Shared → Prop}, Q' () s₁ → wpAny (model P w) A (match b with | true => rule "set.scan.the-table-gave-way" | false => pure ()) Q' E s₁ := fun b s₁ Q' hq => by
      cases b
      · exact wpAny_pure hq
      · exact wpAny_rule hq
    have hp1 := layNew_perm t es ((intKind P w).hash n) (.int n tk)
    have g1 := layNew_good (h := (intKind P w).hash n) (x := .int n tk) g
    generalize layNew t es ((intKind P w).hash n) (.int n tk) = L at hp1 g1 ⊢
    obtain ⟨es1, t1, wd, gave⟩ := L
    dsimp only at hp1 g1 ⊢
    rw [Array.toList_push] at hp1
    have hel1 : ∀ e ∈ es1.toList, EI e := fun e he => by
      rcases List.mem_append.mp (hp1.mem_iff.mp he) with z | z
      · exact hel e z
      · rw [List.mem_singleton] at z; exact ⟨n, tk, z⟩
    have hz1 : es1.size = es.size + 1 := by rw [← Array.length_toList, hp1.length_eq, List.length_append, Array.length_toList]; rfl
    have hq1 : (es1.toList.map keyI).Perm (addN ns n) := by
      unfold addN; rw [if_neg hm]
      refine (hp1.map keyI).trans ?_
      rw [List.map_append]
      exact hp.append_right _
    have fin : ∀ h', Heap.SameBut a s.heap h' → SetI w h' a (addN ns n) → Q true { s with heap := h' } := fun h' sb S' => by
      have q := h h' sb S'
      rw [decide_eq_false hm] at q; exact q
    refine wpAny_bind (hgw _ ?_)
    have gw2 : ∀ (b : Bool) (s₁ : Shared) (Q' : Unit → Shared → Prop), Q' () s₁ → wpAny (model P w) A (match b with | true => rule "set.scan.the-table-gave-way" | false => pure ()) Q' E s₁ := fun b s₁ Q' hq => hgw b hq
    split
    · refine wpAny_bind ?_
      rw [hashByValue_scannable 8 (x := .int n tk) rfl]
      refine wpAny_pure ?_
      refine addI_tail (fun b s₁ Q' hq => ?_) ho hex hd hel1 hq1 (addN_nodup hn) (by omega) ?_ (fun h' sb S' => ?_)
      · cases b
        · exact wpAny_pure hq
        · exact wpAny_rule hq
      · split
        · exact g1
        · exact g1.plainOff
      · dsimp only; exact wpAny_pure (fin h' sb S')
    · refine wpAny_bind (wpAny_pure ?_)
      simp only [↓reduceIte]
      refine addI_tail (fun b s₁ Q' hq => ?_) ho hex hd hel1 hq1 (addN_nodup hn) (by omega) g1 (fun h' sb S' => ?_)
      · cases b
        · exact wpAny_pure hq
        · exact wpAny_rule hq
      · dsimp only; exact wpAny_pure (fin h' sb S')
def SetT (w : World) (h : Heap) (a : Addr) (ns : List Int) (es : Array (Int × Value)) (ep : Nat) (t : SetTable) : Prop :=
  ∃ o, h.get? a = some o ∧ o.ExactSet ∧ o.data = .set es ep t ∧ (∀ e ∈ es.toList, EI e) ∧ (es.toList.map keyI).Perm ns ∧ ns.Nodup ∧ es.size < scanBound ∧ GoodT (!byText w) t es.size
theorem SetI.table {w : World} {h : Heap} {a : Addr} {ns : List Int} (S : SetI w h a ns) : ∃ es ep t, SetT w h a ns es ep t := by
  obtain ⟨o, es, ep, t, r⟩ := S
  exact ⟨es, ep, t, o, r⟩
theorem SetT.setI {w : World} {h : Heap} {a : Addr} {ns : List Int} {es : Array (Int × Value)} {ep : Nat} {t : SetTable} (S : SetT w h a ns es ep t) : SetI w h a ns := by
  obtain ⟨o, r⟩ := S
  exact ⟨o, es, ep, t, r⟩
theorem SetT.stay {w : World} {h h' : Heap} {a : Addr} {ns : List Int} {es : Array (Int × Value)} {ep : Nat} {t : SetTable} (S : SetT w h a ns es ep t) (k : ∀ o, h.get? a = some o → h'.get? a = some o) : SetT w h' a ns es ep t := by
  obtain ⟨o, e, r⟩ := S
  exact ⟨o, k o e, r⟩
theorem SetT.len {w : World} {h : Heap} {a : Addr} {ns : List Int} {es : Array (Int × Value)} {ep : Nat} {t : SetTable} (S : SetT w h a ns es ep t) : es.size = ns.length := by
  obtain ⟨o, _, _, _, _, p, _⟩ := S
  rw [← p.length_eq, List.length_map, Array.length_toList]
theorem SetT.state {a : Addr} {ns : List Int} {es : Array (Int × Value)} {ep : Nat} {t : SetTable} {Q : (Array (Int × Value) × Nat × SetTable) → Shared → Prop} (S : SetT w s.heap a ns es ep t) (q : Q (es, ep, t) s) : wpAny (model P w) A (setState a) Q E s := by
  obtain ⟨o, ho, _, hd, _, _, _, _, g⟩ := S
  exact wpAny_setState_of ho hd g.fits q
theorem SetT.put {a : Addr} {ns ms : List Int} {es es' : Array (Int × Value)} {ep : Nat} {t t' : SetTable} {Q : Unit → Shared → Prop} (S : SetT w s.heap a ns es ep t) (hel : ∀ e ∈ es'.toList, EI e) (hp : (es'.toList.map keyI).Perm ms) (hn : ms.Nodup) (hb : es'.size < scanBound) (g : GoodT (!byText w) t' es'.size)
    (q : ∀ h', Heap.SameBut a s.heap h' → SetT w h' a ms es' (ep + 1) t' → Q () { s with heap := h' }) : wpAny (model P w) A (storeSet a es' t') Q E s := by
  obtain ⟨o, ho, hex, hd, _⟩ := S
  refine wpAny_storeSet_of ho hd ?_ (fits_of_scanBound hb)
  have hg := Heap.get?_update_self (Obj.putSet es' t') ho (by rw [putSet_of es' t' hd]; rfl)
  rw [putSet_of es' t' hd] at hg
  exact q _ (Heap.SameBut.update s.heap a (Obj.putSet es' t')) ⟨_, hg, hex, rfl, hel, hp, hn, hb, g⟩
def Small (ns : List Int) : Prop := ∀ n ∈ ns, 0 ≤ n ∧ n < 32
theorem hash_small {n : Int} (h0 : 0 ≤ n) (h1 : n < 32) : hashInt n = n := by
  have : ∀ k : Fin 32, hashInt (k.1 : Int) = (k.1 : Int) := by decide +kernel
  have := this ⟨n.toNat, by omega⟩
  simpa [Int.toNat_of_nonneg h0] using this
theorem hashes_small {es : Array (Int × Value)} {ns : List Int} (hel : ∀ e ∈ es.toList, EI e) (hp : (es.toList.map keyI).Perm ns) (hb : Small ns) : ∀ h ∈ (es.map (·.1)).toList, 0 ≤ h ∧ h < 32 := by
  intro h hh
  rw [Array.toList_map] at hh
  obtain ⟨e, he, rfl⟩ := List.mem_map.mp hh
  obtain ⟨n, t, rfl⟩ := hel e he
  have hn := hb n (hp.mem_iff.mp (List.mem_map.mpr ⟨_, he, rfl⟩))
  have : hashInt n = n := by
    exact hash_small hn.1 hn.2
  show 0 ≤ hashInt n ∧ hashInt n < 32
  rw [this]; exact hn
theorem reord {es : Array (Int × Value)} {t : SetTable} {order : Array Nat} {laid : Option (SetTable × Array Nat)} {Q : (Array (Int × Value) × SetTable) → Shared → Prop} (hl : laid = some (t, order)) (hp : order.toList.Perm (List.range es.size)) (q : Q (order.filterMap (es[·]?), t) s) :
    wpAny (model P w) A (do
      let some (t, order) := laid | unsupported "internal:set-table-without-room"
      let es' := order.filterMap (es[·]?)
      if es'.size != es.size then unsupported "internal:set-table-lost-an-element"
      pure (es', t)) Q E s := by
  subst hl
  dsimp only
  have hz : (order.filterMap (es[·]?)).size = es.size := by rw [← Array.length_toList, (reorder_perm hp).length_eq, Array.length_toList]
  rw [hz]
  simp only [bne_self_eq_false, Bool.false_eq_true, if_false]
  exact wpAny_pure q
theorem relayI {a : Addr} {ns : List Int} {es : Array (Int × Value)} {ep wanted : Nat} {t : SetTable} {Q : Unit → Shared → Prop} (S : SetT w s.heap a ns es ep t) (hb : Small ns) (hw : wanted < 128) (hl : ns.length ≤ wanted)
    (q : ∀ h' es' t', Heap.SameBut a s.heap h' → SetT w h' a ns es' (ep + 1) t' → t'.mask + 1 ∈ pows → wanted ≤ t'.mask → Q () { s with heap := h' }) : wpAny (model P w) A (setRelay a wanted) Q E s := by
  obtain ⟨p1, p2⟩ := above_small wanted hw
  have hsl : SetTable.sizeAbove wanted ≤ 128 := by
    have : ∀ M ∈ pows, M ≤ 128 := by decide
    exact this _ p1
  have hlen := S.len
  obtain ⟨o, ho, hex, hd, hel, hp, hn, hsb, g⟩ := id S
  unfold setRelay
  refine wpAny_bind (S.state ?_)
  dsimp only
  rw [if_neg (by rw [sizeLine_eq]; omega)]
  have hM : SetTable.sizeAbove wanted - 1 + 1 ∈ pows := by rw [show SetTable.sizeAbove wanted - 1 + 1 = SetTable.sizeAbove wanted by omega]; exact p1
  obtain ⟨t', order, e1, e2, e3, e4, e5⟩ := laid_ok (finger := t.finger) (moves := t.movedTo (SetTable.sizeAbove wanted - 1)) (led := t.led) (plain := t.plain) hM (hashes_small hel hp hb) (by rw [Array.size_map]; omega)
  rw [Array.size_map] at e2 e3
  refine wpAny_bind (reord (es := es) (laid := t.relaid (es.map fun (x : Int × Value) => x.1) wanted) (t := t') (order := order) e1 e2 ?_)
  dsimp only
  have hpm := reorder_perm e2
  have hz : (order.filterMap (es[·]?)).size = es.size := by rw [← Array.length_toList, hpm.length_eq, Array.length_toList]
  have g' : GoodT (!byText w) t' (order.filterMap (es[·]?)).size := by rw [hz, ← g.led]; exact e3
  refine S.put (es' := order.filterMap (es[·]?)) (t' := t') (ms := ns) (fun e he => hel e (hpm.mem_iff.mp he)) ((hpm.map keyI).trans hp) hn (by rw [hz]; exact hsb) g' fun h' sb S' => q h' _ t' sb S' (by rw [e4]; exact hM) (by rw [e4]; omega)
end
end L2
set_option maxHeartbeats 1000000
namespace L2
open PySem PySem.Spec PyProof.Rows
section
variable {P : Program} {w : World} {A : Around} {E : Value → Shared → Prop} {s : Shared}
theorem roomI {a : Addr} {ns : List Int} {es : Array (Int × Value)} {ep more : Nat} {t : SetTable} {Q : Unit → Shared → Prop} (S : SetT w s.heap a ns es ep t) (hb : Small ns) (hm : ns.length + more ≤ 60) (h0 : t.fill = 0 → t.mask + 1 ∈ pows)
    (q : ∀ h' es' ep' t', Heap.SameBut a s.heap h' → SetT w h' a ns es' ep' t' → (t'.fill = 0 → t'.mask + 1 ∈ pows ∧ more ≤ t'.mask) → Q () { s with heap := h' }) : wpAny (model P w) A (setRoomFor a more) Q E s := by
  have hlen := S.len
  have hz : t.place.size = es.size := by obtain ⟨o, _, _, _, _, _, _, _, g⟩ := S; exact fits_size g.fits
  unfold setRoomFor
  refine wpAny_bind (S.state ?_)
  dsimp only
  unfold SetTable.roomFor
  by_cases hc : (t.fill + more) * 5 ≥ t.mask * 3
  · rw [if_pos hc]
    dsimp only
    exact relayI S hb (by omega) (by omega) fun h' es' t' sb S' h1 h2 => q h' es' _ t' sb S' fun _ => ⟨h1, by omega⟩
  · rw [if_neg hc]
    dsimp only
    exact wpAny_pure (q s.heap es ep t (Heap.SameBut.refl a s.heap) S fun hf => ⟨h0 hf, by omega⟩)
theorem walkI {a : Addr} {ns : List Int} {es : Array (Int × Value)} {ep : Nat} {t : SetTable} {Q : Array (Int × Value) → Shared → Prop} (S : SetT w s.heap a ns es ep t) (q : ∀ arr d, arr.toList.Perm es.toList → Q arr { s with drawn := d }) : wpAny (model P w) A (setWalk a) Q E s := by
  obtain ⟨o, ho, hex, hd, hel, hp, hn, hsb, g⟩ := id S
  unfold setWalk
  refine wpAny_bind (S.state ?_)
  dsimp only
  unfold setsByText
  refine wpAny_bind (wpAny_bind (wpAny_askSetting (wpAny_pure ?_)))
  show wpAny _ _ (if w.params.followText "set-order" = true then _ else _) _ _ _
  cases b : byText w with
  | true =>
    rw [if_pos (show (w.params.followText "set-order") = true from b)]
    refine wpAny_bind (wpAny_askSetting (wpAny_pure ?_))
    exact q _ s.drawn (pick_perm _ _)
  | false =>
    rw [if_neg (show ¬ (w.params.followText "set-order") = true from fun z => by rw [show (w.params.followText "set-order") = false from b] at z; cases z)]
    have led : t.led = true := by rw [g.led, b]; rfl
    split
    · refine wpAny_bind ?_
      rw [← Array.length_toList]
      refine draw_perm es.toList fun ys d hys => wpAny_pure (q _ d hys)
    · refine wpAny_bind ?_
      show wpAny _ _ (if (!t.led && decide (es.size > 1)) = true then unsupported "set:maker-not-led" else pure PUnit.unit) _ _ _
      rw [if_neg (by rw [led]; simp)]
      exact wpAny_pure (wpAny_pure (q es s.drawn (.refl _)))
theorem quietI {a b : Addr} {ns ms : List Int} {es eo : Array (Int × Value)} {ep eq : Nat} {t u : SetTable} {Q : Bool → Shared → Prop} (S : SetT w s.heap a ns es ep t) (O : SetT w s.heap b ms eo eq u) (q : Q true s) : wpAny (model P w) A (setsQuiet [a, b]) Q E s := by
  unfold setsQuiet
  refine wpAny_bind (wpAny_forIn_list _ (fun rest c s' => s' = s ∧ c.1 = none ∧ ∀ x ∈ rest, ∃ ns es ep t, SetT w s.heap x ns es ep t) _ ?_ ?_ _ _ ?_)
  · rintro x rest c0 s' ⟨rfl, hc, hall⟩
    obtain ⟨ns, es, ep, t, Sx⟩ := hall x (List.mem_cons_self ..)
    obtain ⟨o, ho, hex, hd, hel, hp, hn, hsb, g⟩ := id Sx
    refine wpAny_bind (wpAny_setEntries_of ho hd g.fits ?_)
    refine wpAny_bind (MeetsSeq2.wpAny_forIn_array _ (fun rest c s'' => s'' = s' ∧ c.1 = none ∧ ∀ e ∈ rest, EI e) _ ?_ ?_ _ _ ?_)
    · rintro e rest' c1 s'' ⟨rfl, hc, he⟩
      obtain ⟨n, tk, rfl⟩ := he e (List.mem_cons_self ..)
      exact wpAny_pure ⟨rfl, rfl, fun e h => he e (List.mem_cons_of_mem _ h)⟩
    · rintro ⟨c, u⟩ s'' ⟨rfl, hc, _⟩
      dsimp only at hc
      subst hc
      exact wpAny_pure ⟨rfl, rfl, fun y hy => hall y (List.mem_cons_of_mem _ hy)⟩
    · exact ⟨rfl, rfl, hel⟩
  · rintro ⟨c, u⟩ s' ⟨rfl, hc, _⟩
    dsimp only at hc
    subst hc
    exact wpAny_pure q
  · refine ⟨rfl, rfl, fun x hx => ?_⟩
    rcases List.mem_cons.mp hx with z | z
    · exact z ▸ ⟨_, _, _, _, S⟩
    · exact (List.mem_singleton.mp z) ▸ ⟨_, _, _, _, O⟩
theorem GoodT.flags {b : Bool} {t u : SetTable} {n : Nat} (g : GoodT b t n) (h1 : u.mask = t.mask) (h2 : u.place = t.place) (h3 : u.dummies = t.dummies) (h4 : u.led = b) : GoodT b u n := by
  refine ⟨?_, by rw [h2]; exact g.rise, h4⟩
  have := g.fits
  unfold SetTable.fits SetTable.fill at this ⊢
  rw [h1, h2, h3]; exact this
theorem unseenI {a b : Addr} {ns ms : List Int} {es eo : Array (Int × Value)} {ep eq : Nat} {t u : SetTable} {Q : Array (Int × Value) → Shared → Prop} (hab : a ≠ b) (S : SetT w s.heap a ns es ep t) (O : SetT w s.heap b ms eo eq u)
    (q : ∀ arr h' d es' ep' t', arr.toList.Perm eo.toList → Heap.SameBut a s.heap h' → SetT w h' a ns es' ep' t' → Q arr { s with heap := h', drawn := d }) : wpAny (model P w) A (setWalkUnseen b [a] (some a)) Q E s := by
  unfold setWalkUnseen
  refine wpAny_bind (O.state ?_)
  dsimp only
  unfold setsByText
  refine wpAny_bind (wpAny_bind (wpAny_askSetting (wpAny_pure ?_)))
  have hw : ∀ {Q' : Array (Int × Value) → Shared → Prop}, (∀ arr d, arr.toList.Perm eo.toList → Q' arr { s with drawn := d }) → wpAny (model P w) A (setWalk b) Q' E s := fun z => walkI O z
  split
  · exact hw fun arr d hp => q arr s.heap d es ep t hp (Heap.SameBut.refl a s.heap) S
  · refine wpAny_bind (quietI O S ?_)
    simp only [Bool.not_true, Bool.false_eq_true, if_false]
    refine wpAny_bind (wpAny_rule ?_)
    refine wpAny_bind (S.state ?_)
    dsimp only
    have gs := S
    obtain ⟨o, ho, hex, hd, hel, hp, hn, hsb, g⟩ := S
    have gu : u.led = (!byText w) := by obtain ⟨_, _, _, _, _, _, _, _, g⟩ := O; exact g.led
    split
    · refine wpAny_bind (gs.put (t' := { t with led := t.led && u.led, plain := t.plain && u.plain }) hel hp hn hsb (g.flags rfl rfl rfl (by show (t.led && u.led) = _; rw [g.led, gu, Bool.and_self])) fun h' sb S' => wpAny_pure ?_)
      exact q eo h' s.drawn _ _ _ (.refl _) sb S'
    · exact wpAny_bind (wpAny_pure (wpAny_pure (q eo s.heap s.drawn _ _ _ (.refl _) (Heap.SameBut.refl a s.heap) gs)))
theorem mergeI {a b : Addr} {ns ms : List Int} {es : Array (Int × Value)} {ep : Nat} {t : SetTable} {each : Sem Unit} {Q : Unit → Shared → Prop} (hab : a ≠ b) (S : SetT w s.heap a ns es ep t) (hns : Small ns) (h0 : t.fill = 0 → t.mask + 1 ∈ pows) (O : SetI w s.heap b ms) (hms : Small ms) (hl : ns.length + ms.length ≤ 60)
    (he : ∀ (s' : Shared) (R : Unit → Shared → Prop), (∀ o, s.heap.get? b = some o → s'.heap.get? b = some o) → R () s' → wpAny (model P w) A each R E s')
    (q : ∀ h' d es' ep' t' us, Heap.SameBut a s.heap h' → SetT w h' a us es' ep' t' → (t'.fill = 0 → t'.mask + 1 ∈ pows) → (∀ x, x ∈ us ↔ x ∈ ns ∨ x ∈ ms) → Q () { s with heap := h', drawn := d }) : wpAny (model P w) A (setMerge a b each) Q E s := by
  obtain ⟨eo, eq, u, O⟩ := O.table
  obtain ⟨oo, hoo, hexo, hdo, helo, hpo, hno, hsbo, go⟩ := id O
  have hol := O.len
  unfold setMerge
  rw [if_neg (by simpa using hab)]
  refine wpAny_bind (O.state ?_)
  dsimp only
  split
  · rename_i hz
    have hz : eo.size = 0 := by simpa [Array.isEmpty] using hz
    have : ms = [] := List.length_eq_zero_iff.mp (by omega)
    subst this
    exact wpAny_pure (q s.heap s.drawn es ep t ns (Heap.SameBut.refl a s.heap) S h0 (by simp))
  · rename_i hz0
    have hpos : 0 < eo.size := by
      cases h : eo.size with
      | zero => exact absurd (by simp [Array.isEmpty, h]) hz0
      | succ k => omega
    have fillpos : ∀ {h : Heap} {us : List Int} {es : Array (Int × Value)} {ep : Nat} {t : SetTable}, SetT w h a us es ep t → 0 < us.length → t.fill ≠ 0 := by
      intro h us es ep t S' hu hf
      have h1 := S'.len
      obtain ⟨_, _, _, _, _, _, _, _, g⟩ := S'
      have h2 := fits_size g.fits
      unfold SetTable.fill at hf
      omega
    refine wpAny_bind (roomI S hns (by omega) h0 fun h1 es1 ep1 t1 sb1 S1 hf1 => ?_)
    have O1 : SetT w h1 b ms eo eq u := O.stay fun o e => by rw [sb1.2 b hab.symm]; exact e
    obtain ⟨o1, ho1, hex1, hd1, hel1, hp1, hn1, hsb1, g1⟩ := id S1
    have hl1 := S1.len
    refine wpAny_bind (S1.state (s := { s with heap := h1 }) ?_)
    dsimp only
    have hzero : t1.fill = 0 → ns = [] := fun hf => by
      have h2 := fits_size g1.fits
      unfold SetTable.fill at hf
      exact List.length_eq_zero_iff.mp (by omega)
    have hled : (t1.led && u.led) = !byText w := by rw [g1.led, go.led, Bool.and_self]
    cases hr : t1.road u with
    | slotForSlot =>
      dsimp only
      have hf : t1.fill = 0 := by
        unfold SetTable.road at hr
        split at hr
        · cases hr
        · rename_i z; simpa using z
      have := hzero hf
      subst this
      refine S1.put (s := { s with heap := h1 }) (t' := { u with finger := t1.finger, led := t1.led && u.led, moves := t1.moves, plain := t1.plain && u.plain }) helo hpo hno hsbo (go.flags rfl rfl rfl hled) fun h' sb S' => ?_
      exact q h' s.drawn _ _ _ ms (sb1.trans sb) S' (fun hf => absurd hf (fillpos S' (by omega))) (by simp)
    | clean =>
      dsimp only
      have hf : t1.fill = 0 := by
        unfold SetTable.road at hr
        split at hr
        · cases hr
        · rename_i z; simpa using z
      have := hzero hf
      subst this
      obtain ⟨m1, m2⟩ := hf1 hf
      obtain ⟨t', order, e1, e2, e3, e4, e5⟩ := laid_ok (finger := t1.finger) (moves := t1.moves) (led := t1.led && u.led) (plain := t1.plain && u.plain) m1 (hashes_small helo hpo hms) (by rw [Array.size_map]; omega)
      rw [Array.size_map] at e2 e3
      refine wpAny_bind (reord (s := { s with heap := h1 }) (es := eo) (t := t') (order := order) e1 e2 ?_)
      dsimp only
      have hpm := reorder_perm e2
      have hz : (order.filterMap (eo[·]?)).size = eo.size := by rw [← Array.length_toList, hpm.length_eq, Array.length_toList]
      have g' : GoodT (!byText w) t' (order.filterMap (eo[·]?)).size := by rw [hz, ← hled]; exact e3
      refine S1.put (s := { s with heap := h1 }) (es' := order.filterMap (eo[·]?)) (t' := t') (fun e he => helo e (hpm.mem_iff.mp he)) ((hpm.map keyI).trans hpo) hno (by rw [hz]; exact hsbo) g' fun h' sb S' => ?_
      exact q h' s.drawn _ _ _ ms (sb1.trans sb) S' (fun hf => absurd hf (fillpos S' (by omega))) (by simp)
    | oneByOne =>
      dsimp only
      refine wpAny_bind (unseenI (s := { s with heap := h1 }) hab S1 O1 fun arr h2 d es2 ep2 t2 hpa sb2 S2 => ?_)
      refine wpAny_bind (MeetsSeq2.wpAny_forIn_array _ (fun rest _ s' => ∃ h' us, s' = { s with heap := h', drawn := d } ∧ Heap.SameBut a s.heap h' ∧ SetI w h' a us ∧ us.length + rest.length ≤ 60 ∧ (∀ e ∈ rest, EI e) ∧ ∀ x, (x ∈ us ∨ x ∈ rest.map keyI) ↔ (x ∈ ns ∨ x ∈ ms)) _ ?_ ?_ _ _ ?_)
      · rintro e rest c s' ⟨h', us, rfl, sb, SI, hlen, hEI, hmem⟩
        obtain ⟨n, tk, rfl⟩ := hEI e (List.mem_cons_self ..)
        rw [List.length_cons] at hlen
        dsimp only
        refine wpAny_bind (wpAny_holding (addHashI (s := { s with heap := h', drawn := d }) SI (by show us.length + 1 < 4096; omega) fun h'' sb'' SI'' => ?_))
        have keep : ∀ o, s.heap.get? b = some o → h''.get? b = some o := fun o e => by rw [sb''.2 b hab.symm, sb.2 b hab.symm]; exact e
        refine wpAny_bind (he _ _ keep ?_)
        refine wpAny_bind (SetT.state (s := { s with heap := h'', drawn := d }) (O.stay keep) ?_)
        dsimp only
        rw [if_neg (by simp)]
        refine wpAny_pure ⟨h'', addN us n, rfl, sb.trans sb'', SI'', ?_, fun e h => hEI e (List.mem_cons_of_mem _ h), fun x => ?_⟩
        · have := addN_len (ns := us) (n := n)
          omega
        · rw [← hmem x, mem_addN, List.map_cons, List.mem_cons]
          show (x ∈ us ∨ x = n) ∨ _ ↔ x ∈ us ∨ x = n ∨ _
          rw [or_assoc]
      · rintro c s' ⟨h', us, rfl, sb, SI, hlen, hEI, hmem⟩
        obtain ⟨es3, ep3, t3, S3⟩ := SI.table
        have hus : 0 < us.length := by
          obtain ⟨y, hy⟩ := List.exists_mem_of_ne_nil ms (fun z => by subst z; rw [List.length_nil] at hol; omega)
          exact List.length_pos_of_mem (((hmem y).mpr (.inr hy)).elim id fun z => by cases z)
        exact wpAny_pure (q h' d es3 ep3 t3 us sb S3 (fun hf => absurd hf (fillpos S3 hus)) fun x => by rw [← hmem x]; simp)
      · refine ⟨h2, ns, rfl, sb1.trans sb2, S2.setI, ?_, fun e he => helo e (hpa.mem_iff.mp he), fun x => ?_⟩
        · have h9 : arr.toList.length = eo.size := hpa.length_eq.trans (Array.length_toList ..)
          omega
        · rw [((hpa.map keyI).trans hpo).mem_iff]
theorem anySet {a : Addr} {ns : List Int} {Q : Bool → Shared → Prop} (S : SetI w s.heap a ns) (q : Q true s) : wpAny (model P w) A (Builtin.Frozenset.isAnySet (.ref a)) Q E s := by
  obtain ⟨o, _, _, _, ho, hex, _⟩ := S
  have hT : Shared.TypeIs s (.ref a) "set" := ⟨o, ho, hex.1⟩
  unfold Builtin.Frozenset.isAnySet
  refine wpAny_bind (wpAny_isInstance hT sub_set_self ?_)
  exact wpAny_pure q
theorem copyI {a : Addr} {ns : List Int} {Q : Value → Shared → Prop} (S : SetI w s.heap a ns) (hb : Small ns) (hl : ns.length ≤ 60)
    (q : ∀ h' d es ep t us, (∀ b o, s.heap.get? b = some o → h'.get? b = some o) → SetT w h' s.heap.objs.size us es ep t → (t.fill = 0 → t.mask + 1 ∈ pows) → (∀ x, x ∈ us ↔ x ∈ ns) → Q (.ref s.heap.objs.size) { s with heap := h', drawn := d }) : wpAny (model P w) A (Builtin.Frozenset.copyOf a) Q E s := by
  have hT : Shared.TypeIs s (.ref a) "set" := by obtain ⟨o, _, _, _, ho, hex, _⟩ := S; exact ⟨o, ho, hex.1⟩
  have ha : a < s.heap.objs.size := by obtain ⟨o, _, _, _, ho, _⟩ := S; exact Heap.lt_size ho
  unfold Builtin.Frozenset.copyOf Builtin.Frozenset.baseOf
  refine wpAny_bind (wpAny_bind (wpAny_isInstance hT sub_set_self (wpAny_pure ?_)))
  simp only [if_true]
  refine wpAny_bind (newSet_at ?_)
  unfold Builtin.Frozenset.addrOf
  refine wpAny_bind (wpAny_pure ?_)
  have k1 : ∀ b o, s.heap.get? b = some o → (s.heap.push (newS w)).get? b = some o := fun b o e => Heap.get?_push_of_some _ e
  have S0 : SetT w (s.heap.push (newS w)) s.heap.objs.size [] #[] 0 (.fresh 0 0 (!byText w)) := ⟨newS w, Heap.get?_push_size _ rfl, ⟨rfl, rfl, rfl⟩, rfl, by simp, .refl _, .nil, by decide, ⟨rfl, by simp [SetTable.fresh], rfl⟩⟩
  refine wpAny_bind (mergeI (s := { s with heap := s.heap.push (newS w) }) (Nat.ne_of_gt ha) S0 (fun n hn => by cases hn) (fun _ => by show 8 ∈ pows; decide) (S.stay fun o e => k1 a o e) hb (by simpa using hl) (fun s' R _ hR => wpAny_pure hR) fun h' d es' ep' t' us sb S' hf hmem => ?_)
  refine wpAny_pure (q h' d es' ep' t' us (fun b o e => ?_) S' hf fun x => by rw [hmem x]; simp)
  rw [sb.2 b (Nat.ne_of_lt (Heap.lt_size e))]
  exact k1 b o e
theorem entry_set_or : entryFor table "set.__or__" = some Builtin.«frozenset.__or__» := entryFor_alias (id' := "frozenset.__or__") (by kernel_rfl) rfl (by decide +kernel) (by kernel_rfl)
theorem union_at {a b : Addr} {ns ms : List Int} {id : String} {Q : Value → Shared → Prop} (hab : a ≠ b) (S : SetI w s.heap a ns) (O : SetI w s.heap b ms) (hns : Small ns) (hms : Small ms) (hl : ns.length + ms.length ≤ 60)
    (q : ∀ h' d us, (∀ b o, s.heap.get? b = some o → h'.get? b = some o) → SetI w h' s.heap.objs.size us → (∀ x, x ∈ us ↔ x ∈ ns ∨ x ∈ ms) → Q (.ref s.heap.objs.size) { s with heap := h', drawn := d }) :
    wpAny (model P w) A (do
      let result ← Builtin.Frozenset.copyOf a
      if (Value.ref b) != .ref a then holding [result] (Builtin.Frozenset.updateFrom id (← Builtin.Frozenset.addrOf result) (.ref b))
      return result) Q E s := by
  have ha : b < s.heap.objs.size := by obtain ⟨o, _, _, _, ho, _⟩ := O; exact Heap.lt_size ho
  refine wpAny_bind (copyI S hns (by omega) fun h1 d1 es ep t us k1 S1 hf hmem => ?_)
  have hne : ((Value.ref b) != .ref a) = true := by simp; exact hab.symm
  rw [if_pos hne]
  unfold Builtin.Frozenset.addrOf
  refine wpAny_bind (wpAny_pure (wpAny_bind (wpAny_holding ?_)))
  unfold Builtin.Frozenset.updateFrom
  have O1 : SetI w h1 b ms := O.stay fun o e => k1 b o e
  have O2 := O1
  refine wpAny_bind (anySet (s := { s with heap := h1, drawn := d1 }) O1 ?_)
  simp only [if_true]
  unfold Builtin.Frozenset.addrOf Builtin.Frozenset.merge
  refine wpAny_bind (wpAny_pure ?_)
  obtain ⟨oo, eo, eq, u, hoo, hexo, hdo, helo, hpo, hno, hsbo, go⟩ := O2
  refine wpAny_bind (wpAny_setEpoch_of (s := { s with heap := h1, drawn := d1 }) hoo hdo go.fits ?_)
  have hsl : us.length = ns.length := by
    obtain ⟨_, _, _, _, _, _, hn, _⟩ := S1
    obtain ⟨_, _, _, _, _, _, _, _, _, hn2, _⟩ := S
    exact ((List.perm_ext_iff_of_nodup hn hn2).mpr hmem).length_eq
  refine mergeI (s := { s with heap := h1, drawn := d1 }) (Nat.ne_of_gt ha) S1 (fun n hn => hns n ((hmem n).mp hn)) hf O1 hms (by omega) (fun s' R k hR => ?_) fun h' d es' ep' t' us' sb S' hf' hmem' => ?_
  · unfold Builtin.Frozenset.unchanged
    refine wpAny_bind (wpAny_setEpoch_of (k _ hoo) hdo go.fits ?_)
    rw [if_neg (by simp)]
    exact wpAny_pure hR
  · refine wpAny_pure (q h' d us' (fun c o e => ?_) S'.setI fun x => by rw [hmem' x, hmem x])
    rw [sb.2 c (Nat.ne_of_lt (Heap.lt_size e))]
    exact k1 c o e
theorem or_setI {a b : Addr} {ns ms : List Int} {Q : Value → Shared → Prop} (hab : a ≠ b) (S : SetI w s.heap a ns) (O : SetI w s.heap b ms) (hns : Small ns) (hms : Small ms) (hl : ns.length + ms.length ≤ 60)
    (q : ∀ h' d us, (∀ b o, s.heap.get? b = some o → h'.get? b = some o) → SetI w h' s.heap.objs.size us → (∀ x, x ∈ us ↔ x ∈ ns ∨ x ∈ ms) → Q (.ref s.heap.objs.size) { s with heap := h', drawn := d }) :
    wpAny (model P w) A (binaryOp .BitOr (.ref a) (.ref b)) Q E s := by
  have hT : ∀ {c : Addr} {ls : List Int}, SetI w s.heap c ls → Shared.TypeIs s (.ref c) "set" := by intro c ls S; obtain ⟨o, _, _, _, ho, hex, _⟩ := S; exact ⟨o, ho, hex.1⟩
  refine wpAny_binaryOp_same (hT S) (hT O) F.fills_set_or F.slot_set_or (wpAny_call_entry F.slot_set_or (hT S) entry_set_or ?_ (F.args_set_or_2 _ _))
  show wpAny _ _ (do
    let (self, other) ← Builtin.Frozenset.slot1 "__or__" ⟨[.ref a, .ref b], []⟩
    let (l, r) := if false then (other, self) else (self, other)
    if !(← Builtin.Frozenset.isAnySet l <&&> Builtin.Frozenset.isAnySet r) then rule s!"frozenset.{"__or__"}.declined"; return ← ret .notImplemented
    ret (← (fun (id : String) (l : Addr) (r : Value) => (do
      let result ← Builtin.Frozenset.copyOf l
      if r != .ref l then holding [result] (Builtin.Frozenset.updateFrom id (← Builtin.Frozenset.addrOf result) r)
      return result : Sem Value)) s!"frozenset.{"__or__"}" (← Builtin.Frozenset.addrOf l) r)) _ _ _
  unfold Builtin.Frozenset.slot1
  refine wpAny_bind (wpAny_bind (m := slotArgs "__or__" 1 _) (wpAny_pure (wpAny_pure ?_)))
  refine wpAny_bind (wpAny_bind (anySet S ?_))
  refine anySet O ?_
  simp only [Bool.not_true, Bool.false_eq_true, if_false]
  refine wpAny_bind (m := Builtin.Frozenset.addrOf (.ref a)) (wpAny_pure ?_)
  refine wpAny_bind (union_at hab S O hns hms hl fun h' d us k S' hm => ?_)
  exact wpAny_pure ⟨_, rfl, by simp, q h' d us k S' hm⟩
end
section
variable {X : Cx}
noncomputable def rOrS (w : World) : R2 := fun x y H Q => ∃ (a b : Addr) (ns ms : List Int), x = .ref a ∧ y = .ref b ∧ a ≠ b ∧ H a = some (setO w ns) ∧ H b = some (setO w ms) ∧ Small ns ∧ Small ms ∧ ns.length + ms.length ≤ 60 ∧
  ∀ (l : Addr) (us : List Int), H l = none → us.Nodup → (∀ x, x ∈ us ↔ x ∈ ns ∨ x ∈ ms) → Q (.ref l) (upd H l (setO w us))
theorem op_orS : OpR X (binaryOp .BitOr) (rOrS X.w) := by
  intro pins s σ H x y v u Q I rx ry h
  obtain ⟨a, b, ns, ms, rfl, rfl, hab, ha, hb, hns, hms, hl, q⟩ := h
  cases rx
  cases ry
  refine or_setI hab (I.setI ha) (I.setI hb) hns hms hl fun h' d us k S' hm => ?_
  have hn : us.Nodup := by obtain ⟨_, _, _, _, _, _, _, _, _, hn, _⟩ := S'; exact hn
  exact ⟨.ref s.heap.objs.size, _, (I.laid (t' := s.toks) k (Nat.le_refl _) (setO_ok S')).drew, rfl, q _ us (I.hok.fresh (Nat.le_refl _)) hn hm⟩
end
end L2
set_option maxHeartbeats 1000000
namespace L2
open PySem PySem.Spec PyProof.Rows
theorem nox_w {CX : CXT} {P : Program} {w : World} {K : PySem.W.Frag} {mg : Str → Option Value} {base : Heap} {N : List Str} {qual : Str} {scope : Scope} {f : Addr} {cd : Value} {A : Around} {outer : List Env} {s : Shared} {H : Hp} {E : XK} : (cxOf CX P w K mg base N qual scope f cd A outer s H E).nox.w = w := rfl
theorem cx_w {CX : CXT} {P : Program} {w : World} {K : PySem.W.Frag} {mg : Str → Option Value} {base : Heap} {N : List Str} {qual : Str} {scope : Scope} {f : Addr} {cd : Value} {A : Around} {outer : List Env} {s : Shared} {H : Hp} {E : XK} : (cxOf CX P w K mg base N qual scope f cd A outer s H E).w = w := rfl
def BusyP (ws : List (List Blk)) (n : Nat) (wk : List Blk) (x y : Int) : Prop := y ∈ wrTo wk x wk.length ∨ (∃ s ∈ startsOf wk x, Reach (nxt wk) s y) ∧ y ∈ waitTo ws x n wk.length
noncomputable def spBusy (K : PySem.W.Frag) : Sp := fun vs H Q _ => ∃ (wa : Addr) (ws : List (List Blk)) (n : Nat) (wk : List Blk) (x : Int), vs = [.ref wa, .int n, .int x] ∧ Den K H (worksD ws) (.ref wa) ∧ WsOk ws ∧ ws[n]? = some wk ∧
  ∀ (l : Addr) (ns : List Int) (H' : Hp), H l = none → Ext [] H H' → H' l = some (.lst (ns.map V.int)) → ns.Pairwise (· ≤ ·) → ns.Nodup → (∀ y, y ∈ ns ↔ BusyP ws n wk x y) → Q (.ref l) H'
theorem neDK (K : PySem.W.Frag) {X : Cx} {k : Nat} (hK : X.K = K) (hr : Room k X.A) : OpR X (compareOp .NotEq) (rEqD K true) := hK ▸ op_neD hr
noncomputable def boxTo (wk : List Blk) (i : Nat) : List Int := ((List.range i).filter fun (k : Nat) => !decide (wrTo wk (k : Int) wk.length = [])).map fun (k : Nat) => (k : Int)
theorem boxTo_succ (wk : List Blk) (i : Nat) : boxTo wk (i + 1) = if wrTo wk (i : Int) wk.length = [] then boxTo wk i else boxTo wk i ++ [(i : Int)] := by
  unfold boxTo
  rw [List.range_succ, List.filter_append, List.filter_cons, List.filter_nil]
  by_cases h : wrTo wk (i : Int) wk.length = []
  · rw [decide_eq_true h, if_pos h]; simp
  · rw [decide_eq_false h, if_neg h]; simp
theorem boxTo_len (wk : List Blk) (i : Nat) : (boxTo wk i).length ≤ i := by
  unfold boxTo
  rw [List.length_map]
  have := List.length_filter_le (fun (k : Nat) => !decide (wrTo wk (k : Int) wk.length = [])) (List.range i)
  rw [List.length_range] at this
  exact this
theorem mem_boxTo {wk : List Blk} {i : Nat} {y : Int} : y ∈ boxTo wk i ↔ (0 ≤ y ∧ y < i) ∧ wrTo wk y wk.length ≠ [] := by
  unfold boxTo
  rw [List.mem_map]
  constructor
  · rintro ⟨k, hk, rfl⟩
    obtain ⟨h1, h2⟩ := List.mem_filter.mp hk
    have := List.mem_range.mp h1
    exact ⟨by omega, by simpa using h2⟩
  · rintro ⟨h1, h2⟩
    refine ⟨y.toNat, List.mem_filter.mpr ⟨List.mem_range.mpr (by omega), ?_⟩, by omega⟩
    rw [Int.toNat_of_nonneg h1.1]; simpa using h2
noncomputable def spBoxesL (K : PySem.W.Frag) : Sp := fun vs H Q _ => ∃ (wa : Addr) (wk : List Blk) (m works : Int), vs = [.ref wa] ∧ Den K H (workD wk) (.ref wa) ∧ WorkOk m works wk ∧ m ≤ 12 ∧
  ∀ (l : Addr) (H' : Hp), H l = none → Ext [] H H' → H' l = some (.lst ((boxTo wk 8).map V.int)) → Q (.ref l) H'
theorem busy_none {ws : List (List Blk)} {n : Nat} {wk : List Blk} {x : Int} (h : wrTo wk x wk.length = []) (y : Int) : ¬ BusyP ws n wk x y := by
  rintro (z | ⟨⟨s, hs, _⟩, _⟩)
  · rw [h] at z; cases z
  · unfold startsOf at hs; rw [h] at hs; cases hs
theorem starts_range {m works x y : Int} {wk : List Blk} (h : WorkOk m works wk) (hy : ∃ s ∈ startsOf wk x, Reach (nxt wk) s y) : 0 ≤ y ∧ y < m := by
  obtain ⟨s, hs, rr⟩ := hy
  obtain ⟨b, hb, hsb⟩ := List.mem_flatMap.mp hs
  have := (nxt_ok h b).range _ hsb
  exact rr.range h (by omega)
theorem wrTo_range {m works x y : Int} {wk : List Blk} (h : WorkOk m works wk) (hy : y ∈ wrTo wk x wk.length) : 0 ≤ y ∧ y < m := by
  obtain ⟨n, rfl, h1, _⟩ := mem_wrTo.mp hy
  have := h.len
  omega
theorem busy_range {ws : List (List Blk)} {n : Nat} {m works x y : Int} {wk : List Blk} (h : WorkOk m works wk) (hy : BusyP ws n wk x y) : 0 ≤ y ∧ y < m := hy.elim (wrTo_range h) fun z => starts_range h z.1
theorem mem_waitTo {ws : List (List Blk)} {x y : Int} {n i : Nat} : y ∈ waitTo ws x n i ↔ ∃ a : Nat, y = (a : Int) ∧ a < i ∧ askB ws x ((n : Int), (a : Int)) = true := by
  unfold waitTo
  rw [List.mem_map]
  constructor
  · rintro ⟨a, ha, rfl⟩
    obtain ⟨h1, h2⟩ := List.mem_filter.mp ha
    exact ⟨a, rfl, List.mem_range.mp h1, h2⟩
  · rintro ⟨a, rfl, h1, h2⟩
    exact ⟨a, List.mem_filter.mpr ⟨List.mem_range.mpr h1, h2⟩, rfl⟩
theorem small_of {m : Int} {ns : List Int} (hm : m ≤ 12) (h : ∀ n ∈ ns, 0 ≤ n ∧ n < m) : Small ns := fun n hn => by have := h n hn; omega
theorem nodup_len : ∀ (m : Nat) {ns : List Int}, ns.Nodup → (∀ n ∈ ns, 0 ≤ n ∧ n < (m : Int)) → ns.length ≤ m
  | 0, ns, _, h => by
    cases ns with
    | nil => exact Nat.le_refl _
    | cons a r => have := h a (List.mem_cons_self ..); omega
  | m + 1, ns, hn, h => by
    have ih := nodup_len m (ns := ns.erase (m : Int)) (hn.erase _) fun n hn' => by
      have h1 := (hn.mem_erase_iff).mp hn'
      have h2 := h n h1.2
      have h3 := h1.1
      omega
    by_cases hm : (m : Int) ∈ ns
    · rw [List.length_erase_of_mem hm] at ih; omega
    · rw [List.erase_of_not_mem hm] at ih; omega
end L2
set_option maxHeartbeats 1000000
namespace L2
open PySem PySem.Spec PyProof.Rows
mutual
noncomputable def DenE (G : Hp) : PyData → V → Prop
  | .none, v => v = .non
  | .bool b, v => v = .bl b
  | .int i, v => v = .int i
  | .str x, v => v = .str x
  | .list ds, v => ∃ a vs, v = .ref a ∧ G a = some (.lst vs) ∧ DenEL G ds vs
  | .tuple ds, v => ∃ a vs, v = .ref a ∧ G a = some (.tup vs) ∧ DenEL G ds vs
  | .dict _, _ => False
noncomputable def DenEL (G : Hp) : List PyData → List V → Prop
  | [], vs => vs = []
  | d :: ds, vs => ∃ v r, vs = v :: r ∧ DenE G d v ∧ DenEL G ds r
end
section
variable {G G' : Hp}
mutual
theorem DenE.mono (h : Same G G') : ∀ {d : PyData} {v : V}, DenE G d v → DenE G' d v
  | .none, _, e => by simp only [DenE] at e ⊢; exact e
  | .bool _, _, e => by simp only [DenE] at e ⊢; exact e
  | .int _, _, e => by simp only [DenE] at e ⊢; exact e
  | .str _, _, e => by simp only [DenE] at e ⊢; exact e
  | .list ds, _, e => by
    simp only [DenE] at e ⊢
    obtain ⟨a, vs, e1, e2, e3⟩ := e
    exact ⟨a, vs, e1, h _ _ e2, DenEL.mono h e3⟩
  | .tuple ds, _, e => by
    simp only [DenE] at e ⊢
    obtain ⟨a, vs, e1, e2, e3⟩ := e
    exact ⟨a, vs, e1, h _ _ e2, DenEL.mono h e3⟩
  | .dict _, _, e => by simp only [DenE] at e
theorem DenEL.mono (h : Same G G') : ∀ {ds : List PyData} {vs : List V}, DenEL G ds vs → DenEL G' ds vs
  | [], _, e => by simp only [DenEL] at e ⊢; exact e
  | d :: ds, _, e => by
    simp only [DenEL] at e ⊢
    obtain ⟨v, r, e1, e2, e3⟩ := e
    exact ⟨v, r, e1, DenE.mono h e2, DenEL.mono h e3⟩
end
theorem DenEL.len : ∀ {ds : List PyData} {vs : List V}, DenEL G ds vs → vs.length = ds.length
  | [], _, e => by simp only [DenEL] at e; rw [e]; rfl
  | d :: ds, _, e => by
    simp only [DenEL] at e
    obtain ⟨v, r, rfl, _, e3⟩ := e
    simp [DenEL.len e3]
theorem DenEL.nil : DenEL G [] [] := by simp only [DenEL]
theorem DenEL.cons {d : PyData} {ds : List PyData} {v : V} {vs : List V} (h1 : DenE G d v) (h2 : DenEL G ds vs) : DenEL G (d :: ds) (v :: vs) := by
  simp only [DenEL]; exact ⟨v, vs, rfl, h1, h2⟩
theorem DenEL.append : ∀ {ds es : List PyData} {vs ws : List V}, DenEL G ds vs → DenEL G es ws → DenEL G (ds ++ es) (vs ++ ws)
  | [], _, _, _, e, f => by simp only [DenEL] at e; subst e; exact f
  | d :: ds, _, _, _, e, f => by
    simp only [DenEL] at e
    obtain ⟨v, r, rfl, e2, e3⟩ := e
    exact .cons e2 (DenEL.append e3 f)
theorem DenEL.get : ∀ {ds : List PyData} {vs : List V} {i : Nat} {v : V}, DenEL G ds vs → vs[i]? = some v → ∃ d, ds[i]? = some d ∧ DenE G d v
  | [], _, _, _, e, h => by simp only [DenEL] at e; subst e; simp at h
  | d :: ds, _, 0, _, e, h => by
    simp only [DenEL] at e
    obtain ⟨v, r, rfl, e2, e3⟩ := e
    simp at h; subst h
    exact ⟨d, rfl, e2⟩
  | d :: ds, _, i + 1, _, e, h => by
    simp only [DenEL] at e
    obtain ⟨v, r, rfl, e2, e3⟩ := e
    exact DenEL.get (i := i) e3 (by simpa using h)
theorem DenEL.get' : ∀ {ds : List PyData} {vs : List V} {i : Nat} {d : PyData}, DenEL G ds vs → ds[i]? = some d → ∃ v, vs[i]? = some v ∧ DenE G d v
  | [], _, _, _, e, h => by simp at h
  | d :: ds, _, 0, _, e, h => by
    simp only [DenEL] at e
    obtain ⟨v, r, rfl, e2, e3⟩ := e
    simp at h; subst h
    exact ⟨v, rfl, e2⟩
  | d :: ds, _, i + 1, _, e, h => by
    simp only [DenEL] at e
    obtain ⟨v, r, rfl, e2, e3⟩ := e
    exact DenEL.get' (i := i) e3 (by simpa using h)
theorem DenE.int {i : Int} : DenE G (.int i) (.int i) := by simp only [DenE]
theorem DenE.str {i : Str} : DenE G (.str i) (.str i) := by simp only [DenE]
theorem DenE.list {ds : List PyData} {a : Addr} {vs : List V} (h : G a = some (.lst vs)) (e : DenEL G ds vs) : DenE G (.list ds) (.ref a) := by simp only [DenE]; exact ⟨a, vs, rfl, h, e⟩
theorem DenE.tuple {ds : List PyData} {a : Addr} {vs : List V} (h : G a = some (.tup vs)) (e : DenEL G ds vs) : DenE G (.tuple ds) (.ref a) := by simp only [DenE]; exact ⟨a, vs, rfl, h, e⟩
theorem DenE.ofInt {i : Int} {v : V} (h : DenE G (.int i) v) : v = .int i := by simpa only [DenE] using h
theorem DenE.ofStr {i : Str} {v : V} (h : DenE G (.str i) v) : v = .str i := by simpa only [DenE] using h
theorem DenE.ofListE {ds : List PyData} {v : V} (h : DenE G (.list ds) v) : ∃ a vs, v = .ref a ∧ G a = some (.lst vs) ∧ DenEL G ds vs := by simpa only [DenE] using h
theorem DenE.ofTupleE {ds : List PyData} {v : V} (h : DenE G (.tuple ds) v) : ∃ a vs, v = .ref a ∧ G a = some (.tup vs) ∧ DenEL G ds vs := by simpa only [DenE] using h
theorem DenEL.ofCons {d : PyData} {ds : List PyData} {vs : List V} (h : DenEL G (d :: ds) vs) : ∃ v r, vs = v :: r ∧ DenE G d v ∧ DenEL G ds r := by simpa only [DenEL] using h
theorem DenEL.ofNil {vs : List V} (h : DenEL G [] vs) : vs = [] := by simpa only [DenEL] using h
end
section
variable {K : PySem.W.Frag} {G : Hp}
theorem DenE.ofList {ds : List PyData} {v : V} (h : DenE G (.list ds) v) : ∃ a vs, v = .ref a ∧ SqL K G a vs ∧ DenEL G ds vs := by
  obtain ⟨a, vs, e, h1, h2⟩ := h.ofListE
  exact ⟨a, vs, e, SqL.of h1, h2⟩
theorem DenE.ofTuple {ds : List PyData} {v : V} (h : DenE G (.tuple ds) v) : ∃ a vs, v = .ref a ∧ SqT K G a vs ∧ DenEL G ds vs := by
  obtain ⟨a, vs, e, h1, h2⟩ := h.ofTupleE
  exact ⟨a, vs, e, SqT.of h1, h2⟩
mutual
theorem DenE.den : ∀ {d : PyData} {v : V}, DenE G d v → Den K G d v
  | .none, _, e => by simp only [DenE] at e; simp only [Den]; exact e
  | .bool _, _, e => by simp only [DenE] at e; simp only [Den]; exact e
  | .int _, _, e => by simp only [DenE] at e; simp only [Den]; exact e
  | .str _, _, e => by simp only [DenE] at e; simp only [Den]; exact e
  | .list ds, _, e => by
    simp only [DenE] at e
    obtain ⟨a, vs, rfl, e2, e3⟩ := e
    exact .list (SqL.of e2) (DenEL.den e3)
  | .tuple ds, _, e => by
    simp only [DenE] at e
    obtain ⟨a, vs, rfl, e2, e3⟩ := e
    exact .tuple (SqT.of e2) (DenEL.den e3)
  | .dict _, _, e => by simp only [DenE] at e
theorem DenEL.den : ∀ {ds : List PyData} {vs : List V}, DenEL G ds vs → DenL K G ds vs
  | [], _, e => by simp only [DenEL] at e; subst e; exact .nil
  | d :: ds, _, e => by
    simp only [DenEL] at e
    obtain ⟨v, r, rfl, e2, e3⟩ := e
    exact .cons (DenE.den e2) (DenEL.den e3)
end
end
def WorksE (G H : Hp) (as : List Addr) (ws : List (List Blk)) : Prop := Paired (fun a w => ∃ bs, H a = some (.lst bs) ∧ DenEL G (w.map blkD) bs) as ws
theorem WorksE.len {G H : Hp} {as : List Addr} {ws : List (List Blk)} (h : WorksE G H as ws) : as.length = ws.length := Paired.length h
theorem WorksE.mono {G G' H H' : Hp} (g : Same G G') {as : List Addr} {ws : List (List Blk)} (h : WorksE G H as ws) (k : ∀ a ∈ as, ∀ o, H a = some o → H' a = some o) : WorksE G' H' as ws := by
  induction h with
  | nil => exact .nil
  | cons a _ ih => obtain ⟨bs, e, d⟩ := a; exact .cons ⟨bs, k _ (by simp) _ e, d.mono g⟩ (ih fun a ha o e => k a (by simp [ha]) o e)
theorem WorksE.get {G H : Hp} : ∀ {as : List Addr} {ws : List (List Blk)} {i : Nat} {a : Addr}, WorksE G H as ws → as[i]? = some a → ∃ w bs, ws[i]? = some w ∧ H a = some (.lst bs) ∧ DenEL G (w.map blkD) bs
  | _, _, _, _, .nil, e => by simp at e
  | _, _, 0, _, .cons ⟨bs, e, d⟩ _, h => by simp at h; subst h; exact ⟨_, bs, rfl, e, d⟩
  | _, _, i + 1, a, .cons _ r, h => by
    obtain ⟨w, bs, h1, h2⟩ := WorksE.get (i := i) (a := a) r (by simpa using h)
    exact ⟨w, bs, by simpa using h1, h2⟩
theorem WorksE.snoc {G H : Hp} {a : Addr} {w : List Blk} {bs : List V} {as : List Addr} {ws : List (List Blk)} (h : WorksE G H as ws) (e : H a = some (.lst bs)) (d : DenEL G (w.map blkD) bs) : WorksE G H (as ++ [a]) (ws ++ [w]) := by
  induction h with
  | nil => exact .cons ⟨bs, e, d⟩ .nil
  | cons a _ ih => exact .cons a ih
noncomputable def spDeedsE (K : PySem.W.Frag) : Sp := fun vs H Q _ => ∃ (t b : Addr) (k : Nat) (most first works : Int) (bs : List Int), vs = [.ref t, .int most, .ref b, .int first, .int works] ∧ Tape H t k ∧ k + 130 ≤ 2 ^ 40 ∧ 0 ≤ most ∧ most ≤ 12 ∧ 0 ≤ first ∧ first ≤ 100 ∧ 1 ≤ works ∧ works ≤ 100 ∧
  H b = some (.lst (bs.map V.int)) ∧ b ≠ t ∧ BsOk bs ∧ ∀ (l : Addr) (ds : List Deed) (H' : Hp), H l = none → Tape H' t (k + 130) → Ext [t] H H' → (∀ d ∈ ds, DeedOk works d) → ds.length ≤ 12 → DenE (yo H [t] H') (.list (ds.map deedD)) (.ref l) → Q (.ref l) H'
noncomputable def spWorkE (K : PySem.W.Frag) : Sp := fun vs H Q _ => ∃ (t : Addr) (k : Nat) (m most first works : Int), vs = [.ref t, .int m, .int most, .int first, .int works] ∧ Tape H t k ∧ k + 2000 ≤ 2 ^ 40 ∧ 1 ≤ m ∧ m ≤ 12 ∧ 0 ≤ most ∧ most ≤ 12 ∧ 0 ≤ first ∧ first ≤ 100 ∧ 1 ≤ works ∧ works ≤ 100 ∧
  ∀ (l : Addr) (w : List Blk) (bs : List V) (H' : Hp), H l = none → l ≠ t → Tape H' t (k + 2000) → Ext [t] H H' → WorkOk m works w → (∀ b ∈ w, b.ds.length ≤ 12) → H' l = some (.lst bs) → DenEL (yo H [l, t] H') (w.map blkD) bs → Q (.ref l) H'
noncomputable def spSlimE (K : PySem.W.Frag) : Sp := fun vs H Q _ => ∃ (wa : Addr) (ws : List (List Blk)), vs = [.ref wa] ∧ DenE H (worksD ws) (.ref wa) ∧ WsOk ws ∧ ∀ (l : Addr) (ws' : List (List Blk)) (H' : Hp), Ext [] H H' → DenE H' (worksD ws') (.ref l) → WsOk ws' → ws'.length = ws.length → Q (.ref l) H'
theorem worksE_den {G H : Hp} {as : List Addr} {ws : List (List Blk)} (h : WorksE G H as ws) (g : Same G H) : DenEL H (ws.map workD) (as.map V.ref) := by
  induction h with
  | nil => exact .nil
  | cons a _ ih => obtain ⟨bs, e, d⟩ := a; exact .cons (.list e (d.mono g)) ih
noncomputable def spWorksE (K : PySem.W.Frag) : Sp := fun vs H Q _ => ∃ (t : Addr) (k : Nat) (most : Int), vs = [.ref t, .int most] ∧ Tape H t k ∧ k + 21000 ≤ 2 ^ 40 ∧ 0 ≤ most ∧ most ≤ 12 ∧
  ∀ (l : Addr) (ws : List (List Blk)) (H' : Hp), Tape H' t (k + 21000) → Ext [t] H H' → DenE H' (worksD ws) (.ref l) → WsOk ws → Q (.ref l) H'
end L2
set_option maxHeartbeats 1000000
namespace Fs
open PySem L2
section
variable {P : Program} {w : World} {K : PySem.W.Frag} {mg : Str → Option Value} {base : Heap}
noncomputable abbrev sDeeds : Stmt := top 21
theorem scDeeds : FnScope ["_law_tape_here", "_law_most", "_law_boxes_here", "_law_first", "_law_works_here", "_law_found", "_law_turn", "_law_way", "_law_n", "_law_box", "_law_other", "_law_called"] ["_law_tape_here", "_law_most", "_law_boxes_here", "_law_first", "_law_works_here"] (defScope sDeeds) := ⟨rfl, rfl, rfl, by decide +kernel, rfl, by decide +kernel, by decide +kernel⟩
theorem ok_deeds {f : Addr} {fd : FuncData} (F : Fun K "_law_deeds" "_law_deeds" sDeeds f fd) (nrange : mg "range" = none) (nint : mg "int" = none) (nlen : mg "len" = none) (hD : Has P w K mg base "_law_draw" 1 ["_law_tape_here", "_law_many_here"] spDraw) (hN : Has P w K mg base "_law_number" 2 ["_law_tape_here"] spNumber) :
    FnOk P w K mg base CX0 3 f fd ["_law_tape_here", "_law_most", "_law_boxes_here", "_law_first", "_law_works_here"] (spDeedsE K) := by
  refine F.ok scDeeds (fun vs H Q E h => ?_) (fun cdv A outer s H vs Q E hr h => ?_)
  · obtain ⟨t, b, k, most, first, works, bs, rfl, _⟩ := h
    rfl
  · obtain ⟨t, b, k, most, first, works, bs, rfl, hT, hk, hm1, hm2, hf1, hf2, hw1, hw2, hb, nbt, hB, q⟩ := h
    refine ⟨_, pss_cons (ps_set (i := 5) scDeeds.nd rfl (Or.inl rfl) (pe_lst pa_nil))
      (pss_cons (ps_for PassesOwn.never rfl (pi_range1 rfl nrange (pa_cons (pe_fn hD hr (by decide) (pa_cons (pv 0) (pa_cons (pe_op op_add pe_int (pe_ix ix_list (pe_lst (pa_cons (pv 1) (pa_cons pe_int pa_nil))) (pe_callTy call_int1 (by rfl) nint PyProof.Rows.boot_int (pa_cons (pe_cmpR op_eq (pe_fn hD hr (by decide) (pa_cons (pv 0) (pa_cons pe_int pa_nil))) pe_int (nomark _)) pa_nil)) (fun _ _ => rfl))) pa_nil))) pa_nil)) (pg_name (i := 6) scDeeds.nd rfl (Or.inl rfl))
        (pss_cons (ps_par (i := 7) (j := 8) rfl scDeeds.nd rfl rfl (by decide) rfl rfl (pa_cons (pe_fn hD hr (by decide) (pa_cons (pv 0) (pa_cons pe_int pa_nil))) (pa_cons (pe_fn hN hr (by decide) (pa_cons (pv 0) pa_nil)) pa_nil)) rfl)
        (pss_cons (ps_set (i := 9) scDeeds.nd rfl (Or.inl rfl) (pe_ix ix_list (pv 2) (pe_fn hD hr (by decide) (pa_cons (pv 0) (pa_cons (pe_callB call_len_seq (by rfl) nlen PySem.boot_len (pa_cons (pv 2) pa_nil)) pa_nil))) (fun _ _ => rfl)))
        (pss_cons (ps_set (i := 10) scDeeds.nd rfl (Or.inl rfl) (pe_ix ix_list (pv 2) (pe_fn hD hr (by decide) (pa_cons (pv 0) (pa_cons (pe_callB call_len_seq (by rfl) nlen PySem.boot_len (pa_cons (pv 2) pa_nil)) pa_nil))) (fun _ _ => rfl)))
        (pss_cons (ps_set (i := 11) scDeeds.nd rfl (Or.inl rfl) (pe_ix ix_list (pe_lst (pa_cons (pe_op op_add (pe_op op_add (pv 3) pe_int) (pe_fn hD hr (by decide) (pa_cons (pv 0) (pa_cons pe_int pa_nil)))) (pa_cons (pe_fn hD hr (by decide) (pa_cons (pv 0) (pa_cons (pv 4) pa_nil))) pa_nil))) (pe_callTy call_int1 (by rfl) nint PyProof.Rows.boot_int (pa_cons (pe_cmpR op_eq (pe_fn hD hr (by decide) (pa_cons (pv 0) (pa_cons pe_int pa_nil))) pe_int (nomark _)) pa_nil)) (fun _ _ => rfl)))
        (pss_one (ps_if (pw_and (pt_cmpR op_eq (pv 7) pe_int (nomark _)) (pw_and1 (pt_cmpR op_lt (pv 11) (pv 4) (nomark _)))).pt
          (pss_one (ps_expr (pe_bm PySem.F.plainAttrs_list PySem.F.slot_list_append PySem.F.type_list_append mt_append (pv 5) (pa_cons (pe_tup (pa_cons pe_str (pa_cons (pv 11) pa_nil))) pa_nil))))
          (pss_one (ps_expr (pe_bm PySem.F.plainAttrs_list PySem.F.slot_list_append PySem.F.type_list_append mt_append (pv 5) (pa_cons (pe_ix ix_list (pe_lst (pa_cons (pe_tup (pa_cons pe_str (pa_cons (pv 9) (pa_cons (pv 8) pa_nil)))) (pa_cons (pe_tup (pa_cons pe_str (pa_cons (pv 9) (pa_cons (pv 10) pa_nil)))) (pa_cons (pe_tup (pa_cons pe_str (pa_cons (pv 9) pa_nil))) pa_nil)))) (pe_op op_mod (pv 7) pe_int) (fun _ _ => rfl)) pa_nil)))))))))))
      (pss_one (ps_ret (pv 5)))), ?_⟩
    dsimp only [nox_K, comp_K]
    walk_at "rd"
    refine ⟨len2 (Nat.zero_le _), fun l hl => ?_⟩
    have nlt : l ≠ t := hT.ne hl
    have nlb : l ≠ b := (ne_of_none hb hl).symm
    have T0 : Tape (upd H l (.lst [])) t k := hT.ext (ts := []) (.laid hl) (by simp)
    walk_at "rd"
    refine ⟨len2 (by show 2 ≤ 1000; decide), fun p hp => ?_⟩
    have npt : p ≠ t := T0.ne hp
    have npl : p ≠ l := fun z => by rw [z, upd_same] at hp; cases hp
    walk_at "rd"
    refine r_draw (T0.ext (ts := []) (.laid hp) (by simp)) (by omega) (by decide) (by decide) fun r1 H1 a1 b1 T1 e1 k1 => ?_
    walk_at "rd"
    refine r_eqI ?_
    walk_at "rd"
    refine .inr ⟨_, rfl, ?_⟩
    have hpL : SqL K H1 p [V.int most, V.int 12] := SqL.of (by rw [k1 p npt, upd_same])
    obtain ⟨mo, hmo, mo0, mo1⟩ : ∃ mo : Int, atI [V.int most, V.int 12] (if decide (r1 = 0) = true then 1 else 0) = some (.int mo) ∧ 0 ≤ mo ∧ mo ≤ 12 := by
      cases decide (r1 = 0)
      · exact ⟨most, rfl, hm1, hm2⟩
      · exact ⟨12, rfl, by decide, by decide⟩
    refine r_ixL hpL hmo ?_
    walk_at "rd"
    refine r_draw T1 (by omega) (by omega) (by omega) fun r2 H2 a2 b2 T2 e2 k2 => ?_
    have l2 : H2 l = some (.lst []) := by rw [k2 l nlt, k1 l nlt, upd_ne npl.symm, upd_same]
    have E2 : Ext [t] H H2 := (Ext.laid hl).trans ((Ext.laid hp).trans (e1.trans e2))
    walk_at "rd"
    refine ⟨r2, rfl, by omega, by omega, for_rangeN (lo := 0) (n := r2.toNat) (fun i σ' H' => ∃ (ds : List Deed) (vs : List V) (o6 o7 o8 o9 o10 o11 : Option V), σ' = [some (.ref t), some (.int most), some (.ref b), some (.int first), some (.int works), some (.ref l), o6, o7, o8, o9, o10, o11] ∧ ds.length = i ∧ (∀ d ∈ ds, DeedOk works d) ∧
      Tape H' t (k + 2 + 10 * i) ∧ Ext [t] H H' ∧ H' l = some (.lst vs) ∧ DenEL (yo H [t, l] H') (ds.map deedD) vs) ?_ ?_ ?_⟩
    · exact ⟨[], [], none, none, none, none, none, none, rfl, rfl, (fun _ h => absurd h (by simp)), T2.mono (by omega), E2, l2, .nil⟩
    · rintro i σ' H' hi ⟨ds, vs, o6, o7, o8, o9, o10, o11, rfl, hdl, hds, hT', e', hl', hden⟩ N_ B_ C_ R_ hN_ hC_ hR_
      have hvl : vs.length = i := by rw [hden.len, List.length_map, hdl]
      walk_at "rd"
      refine r_draw hT' (by omega) (by decide) (by decide) fun r3 H3 a3 b3 T3 e3 _ => ?_
      walk_at "rd"
      refine r_int T3 (by omega) fun n H4 n0 n1 T4 e4 => ?_
      walk_at "rd"
      refine ⟨_, _, rfl, ?_⟩
      have E4 : Ext [t] H' H4 := e3.trans e4
      have hbt : b ∉ [t] := by simpa using nbt
      have hltn : l ∉ [t] := by simpa using nlt
      walk_at "rd"
      refine ⟨b, _, rfl, .inl (SqL.of (E4 _ _ hbt (e' _ _ hbt hb))), ?_⟩
      rw [List.length_map]
      walk_at "rd"
      refine r_draw T4 (by omega) (by have := hB.one; omega) (by have := hB.few; omega) fun r5 H5 a5 b5 T5 e5 _ => ?_
      have E5 : Ext [t] H' H5 := E4.trans e5
      obtain ⟨bx, hbx, ebx⟩ := atI_ints (ns := bs) a5 b5
      refine r_ixL (SqL.of (E5 _ _ hbt (e' _ _ hbt hb))) ebx ?_
      walk_at "rd"
      refine ⟨b, _, rfl, .inl (SqL.of (E5 _ _ hbt (e' _ _ hbt hb))), ?_⟩
      rw [List.length_map]
      walk_at "rd"
      refine r_draw T5 (by omega) (by have := hB.one; omega) (by have := hB.few; omega) fun r6 H6 a6 b6 T6 e6 _ => ?_
      have E6 : Ext [t] H' H6 := E5.trans e6
      obtain ⟨ox, hox, eox⟩ := atI_ints (ns := bs) a6 b6
      refine r_ixL (SqL.of (E6 _ _ hbt (e' _ _ hbt hb))) eox ?_
      walk_at "rd"
      refine r_draw T6 (by omega) (by decide) (by decide) fun r7 H7 a7 b7 T7 e7 _ => ?_
      walk_at "rd"
      refine r_draw T7 (by omega) (by omega) (by omega) fun r8 H8 a8 b8 T8 e8 _ => ?_
      walk_at "rd"
      refine ⟨len2 (by show 2 ≤ 1000; decide), fun p1 hp1 => ?_⟩
      have np1 : p1 ≠ t := T8.ne hp1
      walk_at "rd"
      refine r_draw (T8.ext (ts := []) (.laid hp1) (by simp)) (by omega) (by decide) (by decide) fun r9 H9 a9 b9 T9 e9 k9 => ?_
      walk_at "rd"
      refine r_eqI ?_
      walk_at "rd"
      refine .inr ⟨_, rfl, ?_⟩
      have E9 : Ext [t] H' H9 := (E6.trans (e7.trans e8)).trans ((Ext.laid hp1).trans e9)
      have hL9 : SqL K H9 p1 [V.int (first + 1 + r7), V.int r8] := SqL.of (by rw [k9 p1 np1, upd_same])
      obtain ⟨ca, hca, ca0⟩ : ∃ ca : Int, atI [V.int (first + 1 + r7), V.int r8] (if decide (r9 = 0) = true then 1 else 0) = some (.int ca) ∧ 0 ≤ ca := by
        cases decide (r9 = 0)
        · exact ⟨_, rfl, by omega⟩
        · exact ⟨_, rfl, by omega⟩
      refine r_ixL hL9 hca ?_
      have l9 : H9 l = some (.lst vs) := E9 _ _ hltn hl'
      have fin : ∀ (d : Deed) (H6 : Hp) (p : Addr), DeedOk works d → Ext [] H9 H6 → p ≠ t → p ≠ l → DenE (yo H [t, l] H6) (deedD d) (.ref p) → ∀ o6 o7 o8 o9 o10 o11 : Option V, ∃ (ds : List Deed) (vs' : List V) (p6 p7 p8 p9 p10 p11 : Option V), [some (V.ref t), some (.int most), some (.ref b), some (.int first), some (.int works), some (.ref l), o6, o7, o8, o9, o10, o11] = [some (V.ref t), some (.int most), some (.ref b), some (.int first), some (.int works), some (.ref l), p6, p7, p8, p9, p10, p11] ∧ ds.length = i + 1 ∧ (∀ d ∈ ds, DeedOk works d) ∧
          Tape (upd H6 l (.lst (vs ++ [.ref p]))) t (k + 2 + 10 * (i + 1)) ∧ Ext [t] H (upd H6 l (.lst (vs ++ [.ref p]))) ∧ (upd H6 l (.lst (vs ++ [.ref p]))) l = some (.lst vs') ∧ DenEL (yo H [t, l] (upd H6 l (.lst (vs ++ [.ref p])))) (ds.map deedD) vs' := by
        intro d H6 p hd e6 npt npl hden6 o6 o7 o8 o9 o10 o11
        have E10 : Ext [l, t] H9 (upd H6 l (.lst (vs ++ [.ref p]))) := (e6.mono (by simp)).trans (.put (by simp))
        have E11 : Ext [l, t] H' (upd H6 l (.lst (vs ++ [.ref p]))) := (E9.mono (by simp)).trans E10
        refine ⟨ds ++ [d], vs ++ [.ref p], o6, o7, o8, o9, o10, o11, rfl, by rw [List.length_append, hdl]; rfl, fun z hz => ?_, ?_, ?_, upd_same, ?_⟩
        · rcases List.mem_append.mp hz with y | y
          · exact hds z y
          · rw [List.mem_singleton.mp y]; exact hd
        · exact ((T9.ext e6 (by simp)).ext (ts := [l]) (.put (by simp)) (by simpa using nlt.symm)).mono (by omega)
        · exact ((e'.mono (by simp)).trans E11).drop hl
        · rw [List.map_append]
          exact DenEL.append (hden.mono (E11.mono (by simp)).young) (.cons (hden6.mono (Ext.put (by simp)).young) .nil)
      have sz : vs.length < sizeLine := small1000 (by omega)
      walk_at "rd"
      refine r_eqI ?_
      walk_at "rd"
      refine ite2 (fun g => ?_) (fun g => ?_)
      · walk_at "rd"
        refine ite2 (fun g2 => ?_) (fun g2 => ?_)
        · have g2 := of_decide_eq_true g2
          walk_at "rd"
          refine r_tyL l9 ?_
          walk_at "rd"
          refine ⟨len2 (by show 2 ≤ 1000; decide), fun p hp => ?_⟩
          have npt := T9.ne hp
          have hfresh := hp
          have npl : p ≠ l := (ne_of_none l9 hp).symm
          walk_at "rd"
          refine r_app (by rw [upd_ne npl.symm]; exact l9) sz ?_
          refine L2.go_nx hN_ ?_
          refine fin (.call ca) _ p ⟨ca0, g2⟩ (.laid hp) npt npl (.tuple ?_ (.cons .str (.cons .int .nil))) _ _ _ _ _ _
          rw [yo_out ((e'.trans E9).none (by simpa using npt) hfresh) (by simp [npt, npl]), upd_same]
        · walk_at "rd"
          refine r_tyL l9 ?_
          walk_at "rd"
          refine ⟨len2 (by show 3 ≤ 1000; decide), fun s1 hs1 => ?_⟩
          walk_at "rd"
          refine ⟨len2 (by show 3 ≤ 1000; decide), fun s2 hs2 => ?_⟩
          walk_at "rd"
          refine ⟨len2 (by show 2 ≤ 1000; decide), fun s3 hs3 => ?_⟩
          walk_at "rd"
          refine ⟨len2 (by show 3 ≤ 1000; decide), fun s4 hs4 => ?_⟩
          have e12 : s1 ≠ s2 := ne_of_none upd_same hs2
          have e13 : s1 ≠ s3 := ne_of_none (by rw [upd_ne e12, upd_same]) hs3
          have e23 : s2 ≠ s3 := ne_of_none upd_same hs3
          have e14 : s1 ≠ s4 := ne_of_none (by rw [upd_ne e13, upd_ne e12, upd_same]) hs4
          have e24 : s2 ≠ s4 := ne_of_none (by rw [upd_ne e23, upd_same]) hs4
          have e34 : s3 ≠ s4 := ne_of_none upd_same hs4
          have f2 : H9 s2 = none := by rw [upd_ne e12.symm] at hs2; exact hs2
          have f3 : H9 s3 = none := by rw [upd_ne e23.symm, upd_ne e13.symm] at hs3; exact hs3
          have E0 := (Ext.laid (ts := []) (o := .tup [V.str "set", .int bx, .int n]) hs1).trans ((Ext.laid (o := .tup [V.str "add", .int bx, .int ox]) hs2).trans ((Ext.laid (o := .tup [V.str "tell", .int bx]) hs3).trans (Ext.laid (o := .lst [V.ref s1, .ref s2, .ref s3]) hs4)))
          have l10 := E0 _ _ (by simp) l9
          have hbx' := hB.all _ hbx
          have hox' := hB.all _ hox
          walk_at "rd"
          refine r_mod (by decide) ?_
          have h3 : r3 % 3 = 0 ∨ r3 % 3 = 1 ∨ r3 % 3 = 2 := by omega
          have q4 : SqL K (upd (upd (upd (upd H9 s1 (.tup [V.str "set", .int bx, .int n])) s2 (.tup [V.str "add", .int bx, .int ox])) s3 (.tup [V.str "tell", .int bx])) s4 (.lst [V.ref s1, .ref s2, .ref s3])) s4 [V.ref s1, .ref s2, .ref s3] := SqL.of upd_same
          rcases h3 with h | h | h
          · refine r_ixL (v := V.ref s1) q4 (by rw [h]; rfl) ?_
            walk_at "rd"
            have npt := T9.ne hs1
            have hfresh := hs1
            have npl : s1 ≠ l := (ne_of_none l9 hs1).symm
            refine r_app l10 sz ?_
            refine L2.go_nx hN_ ?_
            refine fin (.set bx n) _ s1 ⟨hbx'.1, hbx'.2, n0, n1⟩ E0 npt npl (.tuple ?_ (.cons .str (.cons .int (.cons .int .nil)))) _ _ _ _ _ _
            rw [yo_out ((e'.trans E9).none (by simpa using npt) hfresh) (by simp [npt, npl]), upd_ne e14, upd_ne e13, upd_ne e12, upd_same]
          · refine r_ixL (v := V.ref s2) q4 (by rw [h]; rfl) ?_
            walk_at "rd"
            have npt := T9.ne f2
            have hfresh := f2
            have npl : s2 ≠ l := (ne_of_none l9 f2).symm
            refine r_app l10 sz ?_
            refine L2.go_nx hN_ ?_
            refine fin (.add bx ox) _ s2 ⟨hbx'.1, hbx'.2, hox'.1, hox'.2⟩ E0 npt npl (.tuple ?_ (.cons .str (.cons .int (.cons .int .nil)))) _ _ _ _ _ _
            rw [yo_out ((e'.trans E9).none (by simpa using npt) hfresh) (by simp [npt, npl]), upd_ne e24, upd_ne e23, upd_same]
          · refine r_ixL (v := V.ref s3) q4 (by rw [h]; rfl) ?_
            walk_at "rd"
            have npt := T9.ne f3
            have hfresh := f3
            have npl : s3 ≠ l := (ne_of_none l9 f3).symm
            refine r_app l10 sz ?_
            refine L2.go_nx hN_ ?_
            refine fin (.tell bx) _ s3 ⟨hbx'.1, hbx'.2⟩ E0 npt npl (.tuple ?_ (.cons .str (.cons .int .nil))) _ _ _ _ _ _
            rw [yo_out ((e'.trans E9).none (by simpa using npt) hfresh) (by simp [npt, npl]), upd_ne e34, upd_same]
      · refine iteF ?_
        walk_at "rd"
        refine r_tyL l9 ?_
        walk_at "rd"
        refine ⟨len2 (by show 3 ≤ 1000; decide), fun s1 hs1 => ?_⟩
        walk_at "rd"
        refine ⟨len2 (by show 3 ≤ 1000; decide), fun s2 hs2 => ?_⟩
        walk_at "rd"
        refine ⟨len2 (by show 2 ≤ 1000; decide), fun s3 hs3 => ?_⟩
        walk_at "rd"
        refine ⟨len2 (by show 3 ≤ 1000; decide), fun s4 hs4 => ?_⟩
        have e12 : s1 ≠ s2 := ne_of_none upd_same hs2
        have e13 : s1 ≠ s3 := ne_of_none (by rw [upd_ne e12, upd_same]) hs3
        have e23 : s2 ≠ s3 := ne_of_none upd_same hs3
        have e14 : s1 ≠ s4 := ne_of_none (by rw [upd_ne e13, upd_ne e12, upd_same]) hs4
        have e24 : s2 ≠ s4 := ne_of_none (by rw [upd_ne e23, upd_same]) hs4
        have e34 : s3 ≠ s4 := ne_of_none upd_same hs4
        have f2 : H9 s2 = none := by rw [upd_ne e12.symm] at hs2; exact hs2
        have f3 : H9 s3 = none := by rw [upd_ne e23.symm, upd_ne e13.symm] at hs3; exact hs3
        have E0 := (Ext.laid (ts := []) (o := .tup [V.str "set", .int bx, .int n]) hs1).trans ((Ext.laid (o := .tup [V.str "add", .int bx, .int ox]) hs2).trans ((Ext.laid (o := .tup [V.str "tell", .int bx]) hs3).trans (Ext.laid (o := .lst [V.ref s1, .ref s2, .ref s3]) hs4)))
        have l10 := E0 _ _ (by simp) l9
        have hbx' := hB.all _ hbx
        have hox' := hB.all _ hox
        walk_at "rd"
        refine r_mod (by decide) ?_
        have h3 : r3 % 3 = 0 ∨ r3 % 3 = 1 ∨ r3 % 3 = 2 := by omega
        have q4 : SqL K (upd (upd (upd (upd H9 s1 (.tup [V.str "set", .int bx, .int n])) s2 (.tup [V.str "add", .int bx, .int ox])) s3 (.tup [V.str "tell", .int bx])) s4 (.lst [V.ref s1, .ref s2, .ref s3])) s4 [V.ref s1, .ref s2, .ref s3] := SqL.of upd_same
        rcases h3 with h | h | h
        · refine r_ixL (v := V.ref s1) q4 (by rw [h]; rfl) ?_
          walk_at "rd"
          have npt := T9.ne hs1
          have hfresh := hs1
          have npl : s1 ≠ l := (ne_of_none l9 hs1).symm
          refine r_app l10 sz ?_
          refine L2.go_nx hN_ ?_
          refine fin (.set bx n) _ s1 ⟨hbx'.1, hbx'.2, n0, n1⟩ E0 npt npl (.tuple ?_ (.cons .str (.cons .int (.cons .int .nil)))) _ _ _ _ _ _
          rw [yo_out ((e'.trans E9).none (by simpa using npt) hfresh) (by simp [npt, npl]), upd_ne e14, upd_ne e13, upd_ne e12, upd_same]
        · refine r_ixL (v := V.ref s2) q4 (by rw [h]; rfl) ?_
          walk_at "rd"
          have npt := T9.ne f2
          have hfresh := f2
          have npl : s2 ≠ l := (ne_of_none l9 f2).symm
          refine r_app l10 sz ?_
          refine L2.go_nx hN_ ?_
          refine fin (.add bx ox) _ s2 ⟨hbx'.1, hbx'.2, hox'.1, hox'.2⟩ E0 npt npl (.tuple ?_ (.cons .str (.cons .int (.cons .int .nil)))) _ _ _ _ _ _
          rw [yo_out ((e'.trans E9).none (by simpa using npt) hfresh) (by simp [npt, npl]), upd_ne e24, upd_ne e23, upd_same]
        · refine r_ixL (v := V.ref s3) q4 (by rw [h]; rfl) ?_
          walk_at "rd"
          have npt := T9.ne f3
          have hfresh := f3
          have npl : s3 ≠ l := (ne_of_none l9 f3).symm
          refine r_app l10 sz ?_
          refine L2.go_nx hN_ ?_
          refine fin (.tell bx) _ s3 ⟨hbx'.1, hbx'.2⟩ E0 npt npl (.tuple ?_ (.cons .str (.cons .int .nil))) _ _ _ _ _ _
          rw [yo_out ((e'.trans E9).none (by simpa using npt) hfresh) (by simp [npt, npl]), upd_ne e34, upd_same]
    · rintro σ' H' ⟨ds, vs, o6, o7, o8, o9, o10, o11, rfl, hdl, hds, hT', e', hl', hden⟩
      walk_at "rd"
      refine q l ds H' hl (hT'.mono (by omega)) e' hds (by omega) (.list ?_ (hden.mono (yo_less (by simp))))
      rw [yo_out hl (by simpa using nlt)]; exact hl'
end
end Fs
set_option maxHeartbeats 1000000
namespace Fs
open PySem L2
section
variable {P : Program} {w : World} {K : PySem.W.Frag} {mg : Str → Option Value} {base : Heap}
noncomputable abbrev sWork : Stmt := top 22
theorem scWork : FnScope ["_law_tape_here", "_law_many_here", "_law_most", "_law_first", "_law_works_here", "_law_left", "_law_size_here", "_law_boxes_here", "_law_found", "_law_there", "_law_end"] ["_law_tape_here", "_law_many_here", "_law_most", "_law_first", "_law_works_here"] (defScope sWork) := ⟨rfl, rfl, rfl, by decide +kernel, rfl, by decide +kernel, by decide +kernel⟩
theorem ok_work {f : Addr} {fd : FuncData} (F : Fun K "_law_work" "_law_work" sWork f fd) (nrange : mg "range" = none) (nlist : mg "list" = none) (nlen : mg "len" = none) (hD : Has P w K mg base "_law_draw" 1 ["_law_tape_here", "_law_many_here"] spDraw)
    (hX : Has P w K mg base "_law_nexts" 2 ["_law_tape_here", "_law_many_here"] (spNexts K)) (hE : Has P w K mg base "_law_deeds" 3 ["_law_tape_here", "_law_most", "_law_boxes_here", "_law_first", "_law_works_here"] (spDeedsE K)) :
    FnOk P w K mg base CX0 4 f fd ["_law_tape_here", "_law_many_here", "_law_most", "_law_first", "_law_works_here"] (spWorkE K) := by
  refine F.ok scWork (fun vs H Q E h => ?_) (fun cdv A outer s H vs Q E hr h => ?_)
  · obtain ⟨t, k, m, most, first, works, rfl, _⟩ := h
    rfl
  · obtain ⟨t, k, m, most, first, works, rfl, hT, hk, m1, m2, hm1, hm2, hf1, hf2, hw1, hw2, q⟩ := h
    refine ⟨_, pss_cons (ps_set (i := 5) scWork.nd rfl (Or.inr rfl) (pe_callTy (call_list_rng hr.hd) (by rfl) nlist PyProof.Rows.boot_list (pa_cons (pe_callTy call_range1 (by rfl) nrange PyProof.Rows.boot_range (pa_cons pe_int pa_nil)) pa_nil)))
      (pss_cons (ps_set (i := 6) scWork.nd rfl (Or.inl rfl) (pe_op op_add pe_int (pe_fn hD hr (by decide) (pa_cons (pv 0) (pa_cons (pe_ix ix_list (pe_lst (pa_cons pe_int (pa_cons pe_int (pa_cons pe_int pa_nil)))) (pe_fn hD hr (by decide) (pa_cons (pv 0) (pa_cons pe_int pa_nil))) (fun _ _ => rfl)) pa_nil)))))
      (pss_cons (ps_lc (i := 7) ["_law_k"] [5, 0] rfl (.of rfl) scWork.nd rfl (Or.inl rfl) (pi_range1 rfl nrange (pa_cons (pv 6) pa_nil)) (fun _ _ _ _ => pg_name (i := 0) (by show ((["_law_k", "_law_left", "_law_tape_here"] : List Str)).Nodup; decide) rfl (Or.inl rfl)) (fun _ _ _ _ => .nil)
          (fun _ _ _ _ => pe_bmK K rfl PySem.F.plainAttrs_list PySem.F.slot_list_pop PySem.F.type_list_pop mt_popAt (pv 1) (pa_cons (pe_fn hD hr (by decide) (pa_cons (pv 2) (pa_cons (pe_callB (len_seqK K rfl) (by rfl) nlen PySem.boot_len (pa_cons (pv 1) pa_nil)) pa_nil))) pa_nil)))
      (pss_cons (ps_set (i := 8) scWork.nd rfl (Or.inl rfl) (pe_lst pa_nil))
      (pss_cons (ps_for PassesOwn.never rfl (pi_list (pe_fn hX hr (by decide) (pa_cons (pv 0) (pa_cons (pv 1) pa_nil)))) (pg_name (i := 9) scWork.nd rfl (Or.inl rfl))
        (pss_cons (ps_set (i := 10) scWork.nd rfl (Or.inl rfl) (pe_ifExp (pt_cmpR (op_eqD hr) (pv 9) (pe_lst pa_nil) (nomark _)) (pe_tup (pa_cons pe_str pa_nil)) (pe_ifExp (pt_cmpR op_eq (pe_callB call_len_seq (by rfl) nlen PySem.boot_len (pa_cons (pv 9) pa_nil)) pe_int (nomark _))
            (pe_tup (pa_cons pe_str (pa_cons (pe_ix ix_list (pv 9) pe_int (fun _ _ => rfl)) pa_nil))) (pe_tup (pa_cons pe_str (pa_cons (pe_ix ix_list (pv 9) pe_int (fun _ _ => rfl)) (pa_cons (pe_ix ix_list (pv 9) pe_int (fun _ _ => rfl)) pa_nil)))))))
        (pss_one (ps_expr (pe_bm PySem.F.plainAttrs_list PySem.F.slot_list_append PySem.F.type_list_append mt_append (pv 8) (pa_cons (pe_tup (pa_cons (pe_fn hE hr (by decide) (pa_cons (pv 0) (pa_cons (pv 2) (pa_cons (pv 7) (pa_cons (pv 3) (pa_cons (pv 4) pa_nil)))))) (pa_cons (pv 10) pa_nil))) pa_nil))))))
      (pss_one (ps_ret (pv 8))))))), ?_⟩
    dsimp only [nox_K, comp_K]
    walk_at "rd"
    refine ⟨8, rfl, fun pr hpr => ?_⟩
    walk_at "rd"
    refine ⟨pr, 8, rfl, upd_same, by decide, fun lf hlf => ?_⟩
    have nrl : pr ≠ lf := ne_of_none upd_same hlf
    have hlf0 : H lf = none := by rw [upd_ne nrl.symm] at hlf; exact hlf
    have nlt : lf ≠ t := hT.ne hlf0
    have EG := (Ext.laid (ts := []) (o := .rng 0 8) hpr).trans (.laid (o := .lst (([0, 1, 2, 3, 4, 5, 6, 7] : List Int).map V.int)) hlf)
    generalize hG : upd (upd H pr (.rng 0 8)) lf (.lst (([0, 1, 2, 3, 4, 5, 6, 7] : List Int).map V.int)) = G at EG
    have hG' : upd (upd H pr (.rng 0 8)) lf (.lst ((List.range 8).map fun (i : Nat) => V.int (i : Int))) = G := hG
    have lG : G lf = some (.lst (([0, 1, 2, 3, 4, 5, 6, 7] : List Int).map V.int)) := by rw [← hG, upd_same]
    have TG := hT.ext EG (by simp)
    first | rw [hG'] | erw [hG']
    clear hG hG'
    walk_at "rd"
    refine ⟨len2 (by show 3 ≤ 1000; decide), fun p hp => ?_⟩
    have npt : p ≠ t := TG.ne hp
    have npl : p ≠ lf := (ne_of_none lG hp).symm
    walk_at "rd"
    refine r_draw (TG.ext (ts := []) (.laid hp) (by simp)) (by omega) (by decide) (by decide) fun r1 H1 a1 b1 T1 e1 k1 => ?_
    have hpL : SqL K H1 p (([3, 3, 8] : List Int).map V.int) := SqL.of (by rw [k1 p npt, upd_same]; rfl)
    obtain ⟨n8, hn8, en8⟩ := atI_ints (ns := [3, 3, 8]) a1 b1
    have hn8' : 3 ≤ n8 ∧ n8 ≤ 8 := by
      simp only [List.mem_cons, List.not_mem_nil, or_false] at hn8
      omega
    refine r_ixL hpL en8 ?_
    walk_at "rd"
    refine r_draw T1 (by omega) (by omega) (by omega) fun r2 H2 a2 b2 T2 e2 k2 => ?_
    have l2 : H2 lf = some (.lst (([0, 1, 2, 3, 4, 5, 6, 7] : List Int).map V.int)) := by rw [k2 lf nlt, k1 lf nlt, upd_ne npl.symm]; exact lG
    have E2 : Ext [t] H H2 := (EG.mono (by simp)).trans ((Ext.laid hp).trans (e1.trans e2))
    walk_at "rd"
    refine ⟨1 + r2, rfl, by omega, by omega, fun bx hbx => ?_⟩
    have nbt : bx ≠ t := T2.ne hbx
    have nbl : bx ≠ lf := (ne_of_none l2 hbx).symm
    refine loop_range (lo := 0) (n := (1 + r2).toNat) (fun i σ' H' => ∃ (o : Option V) (left bs : List Int), σ' = [o, some (.ref lf), some (.ref t)] ∧ left.length + i = 8 ∧ bs.length = i ∧ (∀ b ∈ left, 0 ≤ b ∧ b < 8) ∧ (∀ b ∈ bs, 0 ≤ b ∧ b < 8) ∧ H' lf = some (.lst (left.map V.int)) ∧ H' bx = some (.lst (bs.map V.int)) ∧ Tape H' t (k + 2 + i) ∧ Ext [t] H H') ?_ ?_ ?_
    · refine ⟨none, [0, 1, 2, 3, 4, 5, 6, 7], [], rfl, rfl, rfl, by decide, (fun _ h => absurd h (by simp)), ?_, upd_same, ?_, E2.trans (.laid hbx)⟩
      · rw [upd_ne nbl.symm]; exact l2
      · exact T2.ext (ts := []) (.laid hbx) (by simp)
    · rintro i σ' H' R hi ⟨o, left, bs, rfl, hll, hbl, hleft, hbs, hL, hBx, T', E'⟩ hR
      walk_at "rd"
      refine iteT ?_
      walk_at "rd"
      refine r_tyL hL ?_
      walk_at "rd"
      refine ⟨lf, _, rfl, .inl (SqL.of hL), ?_⟩
      rw [List.length_map]
      walk_at "rd"
      refine r_draw T' (by omega) (by omega) (by omega) fun r3 H3 a3 b3 T3 e3 k3 => ?_
      have l3 : H3 lf = some (.lst (left.map V.int)) := by rw [k3 lf nlt]; exact hL
      have b3x : H3 bx = some (.lst (bs.map V.int)) := by rw [k3 bx nbt]; exact hBx
      obtain ⟨j, rfl⟩ := Int.eq_ofNat_of_zero_le a3
      have hj : j < left.length := by omega
      walk_at "rd"
      refine ⟨lf, left.map V.int, (j : Int), j, V.int left[j], rfl, rfl, l3, by omega, by omega, ?_, by rw [List.getElem?_map, List.getElem?_eq_getElem hj]; rfl, ?_⟩
      · rw [List.length_map]
        exact seq_ix hj
      · refine ⟨bs.map V.int, by rw [upd_ne nbl]; exact b3x, small1000 (by rw [List.length_map]; omega), hR _ _ ?_⟩
        have hmem : left[j] ∈ left := List.getElem_mem hj
        refine ⟨_, left.eraseIdx j, bs ++ [left[j]], rfl, ?_, ?_, fun b hb => hleft b (List.mem_of_mem_eraseIdx hb), fun b hb => ?_, ?_, ?_, ?_, ?_⟩
        · rw [List.length_eraseIdx, if_pos hj]; omega
        · rw [List.length_append, hbl]; rfl
        · rcases List.mem_append.mp hb with y | y
          · exact hbs b y
          · rw [List.mem_singleton.mp y]; exact hleft _ hmem
        · rw [upd_ne nbl.symm, upd_same, map_erase]
        · rw [upd_same, List.map_append]; rfl
        · exact ((T3.ext (ts := [lf]) (.put (by simp)) (by simpa using nlt.symm)).ext (ts := [bx]) (.put (by simp)) (by simpa using nbt.symm)).mono (by omega)
        · have hbx0 : H bx = none := by
            cases z : H bx with
            | none => rfl
            | some o => rw [E2 _ _ (by simpa using nbt) z] at hbx; cases hbx
          have E4 : Ext [lf, bx, t] H (upd (upd H3 lf (.lst ((left.map V.int).eraseIdx j))) bx (.lst (bs.map V.int ++ [V.int left[j]]))) := (E'.mono (by simp)).trans ((e3.mono (by simp)).trans ((Ext.put (by simp)).trans (.put (by simp))))
          exact (E4.drop hlf0).drop hbx0
    · rintro σ' H3 ⟨o, left, bs, rfl, hll, hbl, hleft, hbs, hL, hBx, T3, E3⟩
      have hB : BsOk bs := ⟨by omega, by omega, hbs⟩
      walk_at "rd"
      refine ⟨len2 (Nat.zero_le _), fun l hl => ?_⟩
      have nlT : l ≠ t := T3.ne hl
      have nlb : l ≠ bx := (ne_of_none hBx hl).symm
      have hlH : H l = none := E3.none (by simpa using nlT) hl
      walk_at "rd"
      refine ⟨t, _, m, rfl, T3.ext (ts := []) (.laid hl) (by simp), by omega, m1, m2, fun nl nx H4 hnl T4 e4 hNx hDn => ?_⟩
      obtain ⟨a, vs, ea, hSq, hDL⟩ := hDn.ofList
      cases ea
      have nnl : nl ≠ l := (ne_of_none upd_same hnl).symm
      have hlen := hDL.len
      rw [List.length_map] at hlen
      have hnm : (nx.length : Int) = m := hNx.1
      have l4 : H4 l = some (.lst []) := e4 _ _ (by simpa using nlT) upd_same
      have E4 : Ext [t] H H4 := E3.trans ((Ext.laid hl).trans e4)
      have apart : Same (yo (upd H3 l (.lst [])) [t] H4) (yo (upd H3 l (.lst [])) [l, t] H4) := yo_apart (H0 := H) (by simp [upd_same])
      have hSq4 := Same.seq apart hSq
      have hDL4 := hDL.mono apart
      have bx4 : H4 bx = some (.lst (bs.map V.int)) := e4 _ _ (by simpa using nbt) (by rw [upd_ne nlb.symm]; exact hBx)
      refine ⟨nl, rfl, ⟨vs, yo_same.seq hSq4⟩, for_listN (xs := vs) (fun i σ' H' => ∃ (wk : List Blk) (ws : List V) (o9 o10 : Option V), σ' = [some (.ref t), some (.int m), some (.int most), some (.int first), some (.int works), some (.ref lf), some (.int (1 + r2)), some (.ref bx), some (.ref l), o9, o10] ∧ wk.length = i ∧
        (∀ b ∈ wk, BlkOk m works b ∧ b.ds.length ≤ 12) ∧ Tape H' t (k + 45 + 140 * i) ∧ Ext [l, t] H4 H' ∧ H' l = some (.lst ws) ∧ DenEL (yo H [l, t] H') (wk.map blkD) ws) ?_ ?_ ?_ ?_⟩
      · exact ⟨[], [], none, none, rfl, rfl, (fun _ h => absurd h (by simp)), T4.mono (by omega), .refl _ _, l4, .nil⟩
      · rintro i σ' H' hi ⟨wk, ws, o9, o10, rfl, hwl, hwk, T', e', hl', hden⟩
        exact yo_same.seq (Same.seq e'.young hSq4)
      · rintro i x σ' H' hx ⟨wk, ws, o9, o10, rfl, hwl, hwk, T', e', hl', hden⟩ N_ B_ C_ R_ hN_ hC_ hR_
        obtain ⟨dd, hdd, hDx⟩ := hDL4.get hx
        have hi : i < vs.length := (List.getElem?_eq_some_iff.mp hx).1
        obtain ⟨ns, hns, rfl⟩ : ∃ ns, nx[i]? = some ns ∧ dd = intsD ns := by
          rw [List.getElem?_map] at hdd
          cases z : nx[i]? with
          | none => rw [z] at hdd; cases hdd
          | some n => rw [z] at hdd; exact ⟨n, rfl, (Option.some.inj hdd).symm⟩
        have hok : NsOk m ns := hNx.2 ns (List.mem_of_getElem? hns)
        obtain ⟨c, zs, rfl, hc, hcs⟩ := hDx.ofList
        have hzs := hcs.ints
        subst hzs
        have hwl' : ws.length = i := by rw [hden.len, List.length_map, hwl]
        have hc' : SqL K H' c (ns.map V.int) := yo_same.seq (Same.seq e'.young hc)
        have tail : ∀ (en : Addr) (H6 : Hp), Ext [] H' H6 → H' en = none → DenE (yo H [l, t] H6) (endD ns) (.ref en) → ∀ D : Ends, (∀ (H7 : Hp) (o9 o10 : Option V), (∃ (wk : List Blk) (ws : List V) (p9 p10 : Option V), [some (V.ref t), some (.int m), some (.int most), some (.int first), some (.int works), some (.ref lf), some (.int (1 + r2)), some (.ref bx), some (.ref l), o9, o10] = [some (.ref t), some (.int m), some (.int most), some (.int first), some (.int works), some (.ref lf), some (.int (1 + r2)), some (.ref bx), some (.ref l), p9, p10] ∧ wk.length = i + 1 ∧
            (∀ b ∈ wk, BlkOk m works b ∧ b.ds.length ≤ 12) ∧ Tape H7 t (k + 45 + 140 * (i + 1)) ∧ Ext [l, t] H4 H7 ∧ H7 l = some (.lst ws) ∧ DenEL (yo H [l, t] H7) (wk.map blkD) ws) → D.nx [some (V.ref t), some (.int m), some (.int most), some (.int first), some (.int works), some (.ref lf), some (.int (1 + r2)), some (.ref bx), some (.ref l), o9, o10] H7) →
            tDrop (tBM K "list" rAppend (tVar 8) (tCons (tTup (tCons (tCall (spDeedsE K) [] E0 (tCons (tVar 0) (tCons (tVar 2) (tCons (tVar 7) (tCons (tVar 3) (tCons (tVar 4) tNil)))))) (tCons (tVar 10) tNil))) tNil)) D [some (V.ref t), some (.int m), some (.int most), some (.int first), some (.int works), some (.ref lf), some (.int (1 + r2)), some (.ref bx), some (.ref l), some (.ref c), some (.ref en)] H6 := by
          intro en H6 e6 hen hDe D hD
          have l6 := e6 _ _ (by simp) hl'
          walk_at "rd"
          refine r_tyL l6 ?_
          walk_at "rd"
          refine ⟨t, bx, _, most, first, works, bs, rfl, T'.ext e6 (by simp), by omega, hm1, hm2, hf1, hf2, hw1, hw2, e6 _ _ (by simp) (e' _ _ (by simp [nbt, nlb.symm]) bx4), nbt, hB, fun dl ds H7 hdl T7 e7 hds hdf hDd => ?_⟩
          have l7 := e7 _ _ (by simpa using nlT) l6
          have ndl : dl ≠ l := (ne_of_none l6 hdl).symm
          have EH : Ext [l, t] H H6 := (E4.mono (by simp)).trans (e'.trans (e6.mono (by simp)))
          have hDd' : DenE (yo H [l, t] H7) (.list (ds.map deedD)) (.ref dl) := (hDd.mono (yo_apart (H0 := H) (us := [l, t]) (by simp [l6]))).mono (yo_older EH (by simp))
          walk_at "rd"
          refine ⟨len2 (by show 2 ≤ 1000; decide), fun p hp => ?_⟩
          have npl : p ≠ l := (ne_of_none l7 hp).symm
          have npt : p ≠ t := T7.ne hp
          walk_at "rd"
          refine r_app (by rw [upd_ne npl.symm]; exact l7) (small1000 (by omega)) ?_
          refine hD _ _ _ ⟨wk ++ [⟨ds, ns⟩], ws ++ [.ref p], _, _, rfl, by rw [List.length_append, hwl]; rfl, fun b hb => ?_, ?_, ?_, upd_same, ?_⟩
          · rcases List.mem_append.mp hb with y | y
            · exact hwk b y
            · rw [List.mem_singleton.mp y]; exact ⟨⟨hok, hds, Nat.le_trans hdf (by decide)⟩, hdf⟩
          · exact ((T7.ext (ts := []) (.laid hp) (by simp)).ext (ts := [l]) (.put (by simp)) (by simpa using nlT.symm)).mono (by omega)
          · exact e'.trans ((e6.mono (by simp)).trans ((e7.mono (by simp)).trans ((Ext.laid hp).trans (.put (by simp)))))
          · have E7 : Ext [l, t] H7 (upd (upd H7 p (.tup [.ref dl, .ref en])) l (.lst (ws ++ [.ref p]))) := (Ext.laid hp).trans (.put (by simp))
            have E67 : Ext [l, t] H6 (upd (upd H7 p (.tup [.ref dl, .ref en])) l (.lst (ws ++ [.ref p]))) := (e7.mono (by simp)).trans E7
            rw [List.map_append]
            refine DenEL.append (hden.mono ((e6.mono (by simp)).trans E67).young) (.cons (.tuple ?_ (.cons (hDd'.mono E7.young) (.cons (hDe.mono E67.young) .nil))) .nil)
            rw [yo_out ((EH.trans (e7.mono (by simp))).none (by simp [npl, npt]) hp) (by simp [npl, npt]), upd_ne npl, upd_same]
        have nT : ∀ {en : Addr}, H' en = none → en ≠ t ∧ en ≠ l ∧ H en = none := fun {en} h => by
          have a1 := T'.ne h
          have a2 := (ne_of_none hl' h).symm
          exact ⟨a1, a2, ((E4.mono (us := [l, t]) (by simp)).trans e').none (by simp [a1, a2]) h⟩
        walk_at "rd"
        refine ⟨len2 (Nat.zero_le _), fun e0 he0 => ?_⟩
        have E0 : Ext [] H' (upd H' e0 (.lst [])) := .laid he0
        have hc0 : SqL K (upd H' e0 (.lst [])) c (ns.map V.int) := Same.seq (fun b o h => E0 b o (by simp) h) hc'
        rcases hok with h | ⟨x, h, _⟩ | ⟨x, y, h, _⟩
        · subst h
          refine ⟨intsD [], .list [], .list hc0 (DenL.ofInts []), .list (SqL.of upd_same) .nil, rfl, rfl, ?_⟩
          walk_at "rd"
          refine iteT ?_
          walk_at "rd"
          refine ⟨len2 (by show 1 ≤ 1000; decide), fun en hen => ?_⟩
          have hen' := E0.none (by simp) hen
          obtain ⟨z1, z2, z3⟩ := nT hen'
          refine r_gn (tail en _ (E0.trans (.laid hen)) hen' (.tuple ?_ (.cons .str .nil)) _ fun H7 o9 o10 h => hN_ _ _ h)
          rw [yo_out z3 (by simp [z1, z2]), upd_same]
        · subst h
          refine ⟨intsD [x], .list [], .list hc0 (DenL.ofInts [x]), .list (SqL.of upd_same) .nil, rfl, rfl, ?_⟩
          walk_at "rd"
          refine iteF ?_
          walk_at "rd"
          refine ⟨c, _, rfl, .inl hc0, ?_⟩
          walk_at "rd"
          refine r_eqI ?_
          walk_at "rd"
          refine iteT ?_
          walk_at "rd"
          refine ⟨len2 (by show 2 ≤ 1000; decide), fun en hen => ?_⟩
          have hen' := E0.none (by simp) hen
          obtain ⟨z1, z2, z3⟩ := nT hen'
          refine r_gn (tail en _ (E0.trans (.laid hen)) hen' (.tuple ?_ (.cons .str (.cons .int .nil))) _ fun H7 o9 o10 h => hN_ _ _ h)
          rw [yo_out z3 (by simp [z1, z2]), upd_same]
        · subst h
          refine ⟨intsD [x, y], .list [], .list hc0 (DenL.ofInts [x, y]), .list (SqL.of upd_same) .nil, rfl, rfl, ?_⟩
          walk_at "rd"
          refine iteF ?_
          walk_at "rd"
          refine ⟨c, _, rfl, .inl hc0, ?_⟩
          walk_at "rd"
          refine r_eqI ?_
          walk_at "rd"
          refine iteF ?_
          walk_at "rd"
          refine ⟨len2 (by show 3 ≤ 1000; decide), fun en hen => ?_⟩
          have hen' := E0.none (by simp) hen
          obtain ⟨z1, z2, z3⟩ := nT hen'
          refine r_gn (tail en _ (E0.trans (.laid hen)) hen' (.tuple ?_ (.cons .str (.cons .int (.cons .int .nil)))) _ fun H7 o9 o10 h => hN_ _ _ h)
          rw [yo_out z3 (by simp [z1, z2]), upd_same]
      · rintro σ' H' ⟨wk, ws, o9, o10, rfl, hwl, hwk, T', e', hl', hden⟩
        walk_at "rd"
        have EH : Ext [l, t] H H' := (E4.mono (by simp)).trans e'
        exact q l wk ws H' hlH nlT (T'.mono (by omega)) (EH.drop hlH) ⟨by omega, fun b hb => (hwk b hb).1⟩ (fun b hb => (hwk b hb).2) hl' hden
end
end Fs
set_option maxHeartbeats 1000000
namespace Fs
open PySem L2
section
variable {P : Program} {w : World} {K : PySem.W.Frag} {mg : Str → Option Value} {base : Heap}
noncomputable abbrev sSize : Stmt := top 24
theorem scSize : FnScope ["_law_works_here"] ["_law_works_here"] (defScope sSize) := ⟨rfl, rfl, rfl, by decide +kernel, rfl, by decide +kernel, by decide +kernel⟩
theorem ok_size {f : Addr} {fd : FuncData} (F : Fun K "_law_size" "_law_size" sSize f fd) (nsum : mg "sum" = none) (nlen : mg "len" = none) : FnOk P w K mg base CX0 1 f fd ["_law_works_here"] (spSize K) := by
  have nd2 : ((["_law_deeds_here", "_law_end"] : List Str)).Nodup := by decide
  refine F.ok scSize (fun vs H Q E h => ?_) (fun cdv A outer s H vs Q E hr h => ?_)
  · obtain ⟨wa, ws, rfl, _⟩ := h
    rfl
  · obtain ⟨wa, ws, rfl, hW, hl25, hl12, q⟩ := h
    refine ⟨_, pss_one (ps_ret (pe_callB (call_sumI hr.hd) (by rfl) nsum PyProof.Rows.boot_sum (pa_cons (pe_lc ["_law_work_here"] [] rfl (.of rfl) (pi_list (pv 0)) (fun _ _ _ _ => pg_name (i := 0) (by show ((["_law_work_here"] : List Str)).Nodup; decide) rfl (Or.inl rfl)) (fun _ _ _ _ => .nil)
      (fun _ _ _ _ => pe_callB (sumK K rfl hr.hd) (by rfl) nsum PyProof.Rows.boot_sum (pa_cons (pe_lc ["_law_deeds_here", "_law_end"] [] rfl (.of rfl) (pi_listK K rfl (pv 0)) (fun _ _ _ _ => pg_tupK (n := 2) K rfl rfl (pgs_cons (pg_name (i := 0) nd2 rfl (Or.inl rfl)) (pgs_cons (pg_name (i := 1) nd2 rfl (Or.inl rfl)) pgs_nil))) (fun _ _ _ _ => .nil) (fun _ _ _ _ => pe_callB (len_seqK K rfl) (by rfl) nlen PySem.boot_len (pa_cons (pv 0) pa_nil))) pa_nil))) pa_nil))), ?_⟩
    dsimp only [nox_K, comp_K]
    obtain ⟨wa', vs, ea, hSq, hDL⟩ := hW.ofList
    cases ea
    have hvl : vs.length = ws.length := by rw [hDL.len, List.length_map]
    walk_at "rd"
    refine ⟨wa, rfl, ⟨vs, hSq⟩, fun l hl => ?_⟩
    refine loop_list (xs := vs) (fun i σ' G => ∃ (o0 : Option V) (ns : List Int), σ' = [o0] ∧ Ext [l] H G ∧ G l = some (.lst (ns.map V.int)) ∧ ns.length = i) ?_ ?_ ?_ ?_
    · exact ⟨none, [], rfl, .laid hl, upd_same, rfl⟩
    · rintro i σ' G hi ⟨o0, ns, rfl, eG, hlG, hn⟩
      exact (eG.drop hl).toSame.seq hSq
    · rintro i v σ' G R hv ⟨o0, ns, rfl, eG, hlG, hn⟩ hR
      obtain ⟨dd, hdd, hDv⟩ := hDL.get hv
      obtain ⟨wk, hwk, rfl⟩ := map_get hdd
      have hil : i < ws.length := (List.getElem?_eq_some_iff.mp hwk).1
      obtain ⟨wb, bs, rfl, hbs, hdbs⟩ := hDv.ofList
      have hbl : bs.length = wk.length := by rw [hdbs.len, List.length_map]
      have h12 := hl12 wk (List.mem_of_getElem? hwk)
      have EG := eG.drop hl
      walk_at "rd"
      refine iteT ?_
      walk_at "rd"
      refine ⟨wb, rfl, ⟨bs, EG.toSame.seq hbs⟩, fun l2 hl2 => ?_⟩
      have nl2 : l ≠ l2 := ne_of_none hlG hl2
      refine loop_list (xs := bs) (fun j σ' G2 => ∃ (o0 o1 : Option V) (ms : List Int), σ' = [o0, o1] ∧ Ext [l2] G G2 ∧ G2 l2 = some (.lst (ms.map V.int)) ∧ ms.length = j) ?_ ?_ ?_ ?_
      · exact ⟨none, none, [], rfl, .laid hl2, upd_same, rfl⟩
      · rintro j σ' G2 hj ⟨o0, o1, ms, rfl, e2, hl22, hm⟩
        exact (e2.drop hl2).toSame.seq (EG.toSame.seq hbs)
      · rintro j v σ' G2 R hv ⟨o0, o1, ms, rfl, e2, hl22, hm⟩ hR
        obtain ⟨dd, hdd, hDv⟩ := hdbs.get hv
        obtain ⟨b, hb, rfl⟩ := map_get hdd
        have hjl : j < wk.length := (List.getElem?_eq_some_iff.mp hb).1
        obtain ⟨c, cs, rfl, hc, hcs⟩ := hDv.ofTuple
        obtain ⟨vd, q1, rfl, hd1, hr1⟩ := hcs.ofCons
        obtain ⟨ve, q2, rfl, hd2, hr2⟩ := hr1.ofCons
        have hr2 := hr2.ofNil
        subst hr2
        obtain ⟨dl, dvs, rfl, hdl, hdvs⟩ := hd1.ofList
        have E2 := EG.trans (e2.drop hl2)
        refine r_gtup (E2.toSame.seqT hc) rfl ?_
        walk_at "rd"
        refine iteT ?_
        walk_at "rd"
        refine ⟨dl, dvs, rfl, .inl (E2.toSame.seq hdl), ?_⟩
        refine ⟨_, hl22, small1000 (by rw [List.length_map]; omega), hR _ _ ⟨_, _, ms ++ [(dvs.length : Int)], rfl, e2.trans (.put (by simp)), ?_, by simp [hm]⟩⟩
        rw [upd_same, List.map_append]; rfl
      · rintro σ' G2 ⟨o0, o1, ms, rfl, e2, hl22, hm⟩
        walk_at "rd"
        refine ⟨l2, ms, rfl, SqL.of hl22, ?_⟩
        have E2 := e2.drop hl2
        refine ⟨_, E2 _ _ (by simp) hlG, small1000 (by rw [List.length_map]; omega), hR _ _ ⟨_, ns ++ [ms.sum], rfl, (eG.trans (E2.mono (by simp))).trans (.put (by simp)), ?_, by simp [hn]⟩⟩
        rw [upd_same, List.map_append]; rfl
    · rintro σ' G ⟨o0, ns, rfl, eG, hlG, hn⟩
      walk_at "rd"
      refine ⟨l, ns, rfl, SqL.of hlG, ?_⟩
      exact q _ G (eG.drop hl)
end
end Fs
set_option maxHeartbeats 1000000
namespace Fs
open PySem L2
section
variable {P : Program} {w : World} {K : PySem.W.Frag} {mg : Str → Option Value} {base : Heap}
noncomputable abbrev sSlim : Stmt := top 25
theorem scSlim : FnScope ["_law_works_here"] ["_law_works_here"] (defScope sSlim) := ⟨rfl, rfl, rfl, by decide +kernel, rfl, by decide +kernel, by decide +kernel⟩
theorem cut_take' (xs : List V) (n : Nat) : cutV xs none (some (n : Int)) = xs.take n := by
  unfold cutV
  rw [HT.sIx_none, HT.sIx_nat, List.drop_zero, Nat.sub_zero]
  by_cases h : n ≤ xs.length
  · rw [Nat.min_eq_left h]
  · rw [Nat.min_eq_right (by omega), List.take_of_length_le (Nat.le_refl _), List.take_of_length_le (by omega)]
theorem cut_drop (xs : List V) (n : Nat) : cutV xs (some (n : Int)) none = xs.drop n := by
  unfold cutV
  rw [HT.sIx_none, HT.sIx_nat]
  by_cases h : n ≤ xs.length
  · rw [Nat.min_eq_left h, List.take_of_length_le (by rw [List.length_drop]; omega)]
  · rw [Nat.min_eq_right (by omega), Nat.sub_self, List.take_zero, List.drop_of_length_le (by omega)]
theorem dtake {G : Hp} : ∀ {ds : List PyData} {vs : List V} (n : Nat), DenEL G ds vs → DenEL G (ds.take n) (vs.take n)
  | [], vs, n, h => by have := h.ofNil; subst this; simpa using DenEL.nil
  | d :: ds, vs, 0, h => by simpa using DenEL.nil
  | d :: ds, vs, n + 1, h => by
    obtain ⟨v, r, rfl, h1, h2⟩ := h.ofCons
    exact .cons h1 (dtake n h2)
theorem ddrop {G : Hp} : ∀ {ds : List PyData} {vs : List V} (n : Nat), DenEL G ds vs → DenEL G (ds.drop n) (vs.drop n)
  | [], vs, n, h => by have := h.ofNil; subst this; simpa using DenEL.nil
  | d :: ds, vs, 0, h => h
  | d :: ds, vs, n + 1, h => by
    obtain ⟨v, r, rfl, h1, h2⟩ := h.ofCons
    exact ddrop n h2
theorem ok_slim {f : Addr} {fd : FuncData} (F : Fun K "_law_slim" "_law_slim" sSlim f fd) (hSz : Has P w K mg base "_law_size" 1 ["_law_works_here"] (spSize K)) : FnOk P w K mg base CX0 2 f fd ["_law_works_here"] (spSlimE K) := by
  have nd2 : ((["_law_deeds_here", "_law_end"] : List Str)).Nodup := by decide
  refine F.ok scSlim (fun vs H Q E h => ?_) (fun cdv A outer s H vs Q E hr h => ?_)
  · obtain ⟨wa, ws, rfl, _⟩ := h
    rfl
  · obtain ⟨wa, ws, rfl, hW, hok, q⟩ := h
    refine ⟨_, pss_cons (ps_if (pt_cmpR op_le (pe_fn hSz hr (by decide) (pa_cons (pv 0) pa_nil)) pe_int (nomark _)) (pss_one (ps_ret (pv 0))) pss_nil)
      (pss_one (ps_ret (pe_op op_cat (pe_slice sl_list (pv 0) po_none (po_some pe_int)) (pe_lc ["_law_work_here"] [] rfl (.of rfl) (pi_list (pe_slice sl_list (pv 0) (po_some pe_int) po_none)) (fun _ _ _ _ => pg_name (i := 0) (by show ((["_law_work_here"] : List Str)).Nodup; decide) rfl (Or.inl rfl)) (fun _ _ _ _ => .nil)
        (fun _ _ _ _ => pe_lc ["_law_deeds_here", "_law_end"] [] rfl (.of rfl) (pi_listK K rfl (pv 0)) (fun _ _ _ _ => pg_tupK (n := 2) K rfl rfl (pgs_cons (pg_name (i := 0) nd2 rfl (Or.inl rfl)) (pgs_cons (pg_name (i := 1) nd2 rfl (Or.inl rfl)) pgs_nil))) (fun _ _ _ _ => .nil) (fun _ _ _ _ => pe_tup (pa_cons (pe_slice (sl_listK K rfl) (pv 0) po_none (po_some pe_int)) (pa_cons (pv 1) pa_nil)))))))), ?_⟩
    dsimp only [nox_K, comp_K]
    obtain ⟨wa', vs, ea, hSq, hDL⟩ := hW.ofList
    cases ea
    have hvl : vs.length = ws.length := by rw [hDL.len, List.length_map]
    have hfew := hok.few
    walk_at "rd"
    refine ⟨wa, ws, rfl, hW.den, hok.few, fun w hw => by obtain ⟨m, h1, h2, h3⟩ := hok.all w hw; have := h3.len; omega, fun r H1 e1 => ?_⟩
    walk_at "rd"
    refine ite2 (fun _ => ?_) (fun _ => ?_)
    · walk_at "rd"
      exact q wa ws H1 e1 (hW.mono e1.toSame) hok rfl
    · walk_at "rd"
      refine ⟨1, rfl, ?_⟩
      refine ⟨wa, vs, rfl, e1.toSame.seq hSq, fun l1 hl1 => ?_⟩
      rw [show (1 : Int) = ((1 : Nat) : Int) from rfl, cut_take']
      have e2 : Ext [] H1 (upd H1 l1 (.lst (vs.take 1))) := .laid hl1
      have hl12 : upd H1 l1 (.lst (vs.take 1)) l1 = some (.lst (vs.take 1)) := upd_same
      generalize upd H1 l1 (.lst (vs.take 1)) = H2 at e2 hl12 ⊢
      walk_at "rd"
      refine ⟨1, rfl, ?_⟩
      walk_at "rd"
      refine ⟨wa, vs, rfl, (e1.trans e2).toSame.seq hSq, fun l2 hl2 => ?_⟩
      rw [show (1 : Int) = ((1 : Nat) : Int) from rfl, cut_drop]
      have e3 : Ext [] H2 (upd H2 l2 (.lst (vs.drop 1))) := .laid hl2
      have hl23 : upd H2 l2 (.lst (vs.drop 1)) l2 = some (.lst (vs.drop 1)) := upd_same
      generalize upd H2 l2 (.lst (vs.drop 1)) = H3 at e3 hl23 ⊢
      have E3 := e1.trans (e2.trans e3)
      have hD3 : DenEL H ((ws.drop 1).map workD) (vs.drop 1) := by rw [List.map_drop]; exact ddrop 1 hDL
      have hdl : (vs.drop 1).length = (ws.drop 1).length := by rw [List.length_drop, List.length_drop, hvl]
      refine ⟨l2, rfl, ⟨_, SqL.of hl23⟩, fun l hl => ?_⟩
      have nl2 : l2 ≠ l := ne_of_none hl23 hl
      refine loop_list (xs := vs.drop 1) (fun i σ' G => ∃ (o0 : Option V) (us : List V), σ' = [o0] ∧ Ext [l] H3 G ∧ G l = some (.lst us) ∧ DenEL (wo [l] G) (((ws.drop 1).take i).map fun w => workD (w.map slimB)) us) ?_ ?_ ?_ ?_
      · exact ⟨none, [], rfl, .laid hl, upd_same, .nil⟩
      · rintro i σ' G hi ⟨o0, us, rfl, eG, hlG, hus⟩
        exact SqL.of (eG _ _ (by simpa using nl2) hl23)
      · rintro i v σ' G R hv ⟨o0, us, rfl, eG, hlG, hus⟩ hR
        obtain ⟨dd, hdd, hDv⟩ := hD3.get hv
        obtain ⟨wk, hwk, rfl⟩ := map_get hdd
        have hil : i < (ws.drop 1).length := (List.getElem?_eq_some_iff.mp hwk).1
        rw [List.length_drop] at hil
        obtain ⟨wb, bs, rfl, hbs, hdbs⟩ := hDv.ofList
        have hbl : bs.length = wk.length := by rw [hdbs.len, List.length_map]
        obtain ⟨m, hm1, hm2, hWk⟩ := hok.all wk (List.mem_of_mem_drop (List.mem_of_getElem? hwk))
        have hwm := hWk.len
        have EG := eG.drop hl
        have EHG := E3.trans EG
        have hul : us.length = i := by rw [hus.len, List.length_map, List.length_take, List.length_drop]; omega
        walk_at "rd"
        refine iteT ?_
        walk_at "rd"
        refine ⟨wb, rfl, ⟨bs, EHG.toSame.seq hbs⟩, fun le hle => ?_⟩
        have nle : l ≠ le := ne_of_none hlG hle
        refine loop_list (xs := bs) (fun j σ' G2 => ∃ (o0 o1 : Option V) (ts : List V), σ' = [o0, o1] ∧ Ext [le] G G2 ∧ G2 le = some (.lst ts) ∧ DenEL (wo [l, le] G2) ((wk.take j).map fun b => blkD (slimB b)) ts) ?_ ?_ ?_ ?_
        · exact ⟨none, none, [], rfl, .laid hle, upd_same, .nil⟩
        · rintro j σ' G2 hj ⟨o0, o1, ts, rfl, e4, hle4, hts⟩
          exact (e4.drop hle).toSame.seq (EHG.toSame.seq hbs)
        · rintro j v σ' G2 R hv ⟨o0, o1, ts, rfl, e4, hle4, hts⟩ hR
          obtain ⟨dd, hdd, hDv⟩ := hdbs.get hv
          obtain ⟨b, hb, rfl⟩ := map_get hdd
          have hjl : j < wk.length := (List.getElem?_eq_some_iff.mp hb).1
          obtain ⟨c, cs, rfl, hc, hcs⟩ := hDv.ofTuple
          obtain ⟨vd, q1, rfl, hd1, hr1⟩ := hcs.ofCons
          obtain ⟨ve, q2, rfl, hd2, hr2⟩ := hr1.ofCons
          have hr2 := hr2.ofNil
          subst hr2
          obtain ⟨dl, dvs, rfl, hdl, hdvs⟩ := hd1.ofList
          have E4 := EHG.trans (e4.drop hle)
          have htl : ts.length = j := by rw [hts.len, List.length_map, List.length_take]; omega
          refine r_gtup (E4.toSame.seqT hc) rfl ?_
          walk_at "rd"
          refine iteT ?_
          walk_at "rd"
          refine ⟨2, rfl, ?_⟩
          refine ⟨dl, dvs, rfl, E4.toSame.seq hdl, fun l5 hl5 => ?_⟩
          rw [show (2 : Int) = ((2 : Nat) : Int) from rfl, cut_take']
          have hl4 : G2 l = some (.lst us) := e4 _ _ (by simpa using nle) hlG
          have n5 : l5 ≠ l := (ne_of_none hl4 hl5).symm
          have n5e : l5 ≠ le := (ne_of_none hle4 hl5).symm
          walk_at "rd"
          refine ⟨len2 (by show 2 ≤ 1000; decide), fun p5 hp5 => ?_⟩
          have n55 : l5 ≠ p5 := ne_of_none upd_same hp5
          have np5l : p5 ≠ l := (ne_of_none (o := .lst us) (by rw [upd_ne n5.symm]; exact hl4) hp5).symm
          have np5e : p5 ≠ le := (ne_of_none (o := .lst ts) (by rw [upd_ne n5e.symm]; exact hle4) hp5).symm
          have e5 : Ext [] G2 (upd (upd G2 l5 (.lst (dvs.take 2))) p5 (.tup [.ref l5, ve])) := (Ext.laid hl5).trans (.laid hp5)
          refine ⟨ts, e5 _ _ (by simp) hle4, small1000 (by omega), hR _ _ ⟨_, _, ts ++ [.ref p5], rfl, e4.trans ((e5.mono (by simp)).trans (.put (by simp))), upd_same, ?_⟩⟩
          rw [take_get hb, List.map_append]
          have eF : Ext [l, le] G2 (upd (upd (upd G2 l5 (.lst (dvs.take 2))) p5 (.tup [.ref l5, ve])) le (.lst (ts ++ [.ref p5]))) := (e5.mono (by simp)).trans (.put (by simp))
          have old : Same H (wo [l, le] (upd (upd (upd G2 l5 (.lst (dvs.take 2))) p5 (.tup [.ref l5, ve])) le (.lst (ts ++ [.ref p5])))) := fun a o z => by
            have ha1 : a ≠ l := fun y => by rw [y] at z; have := E3 _ _ (by simp) z; rw [hl] at this; cases this
            have ha2 : a ≠ le := fun y => by rw [y] at z; have := EHG _ _ (by simp) z; rw [hle] at this; cases this
            rw [wo_out (by simp [ha1, ha2])]
            exact eF _ _ (by simp [ha1, ha2]) (E4 _ _ (by simp) z)
          refine DenEL.append (hts.mono eF.same) (.cons (.tuple (vs := [.ref l5, ve]) ?_ (.cons (.list (vs := dvs.take 2) ?_ ?_) (.cons (hd2.mono old) .nil))) .nil)
          · rw [wo_out (by simp [np5l, np5e]), upd_ne np5e, upd_same]
          · rw [wo_out (by simp [n5, n5e]), upd_ne n5e, upd_ne n55, upd_same]
          · show DenEL _ ((b.ds.take 2).map deedD) _
            rw [List.map_take]
            exact dtake 2 (hdvs.mono old)
        · rintro σ' G2 ⟨o0, o1, ts, rfl, e4, hle4, hts⟩
          rw [hbl, List.take_length] at hts
          have E4 := e4.drop hle
          have hl4 := E4 _ _ (by simp) hlG
          refine ⟨us, hl4, small1000 (by omega), hR _ _ ⟨_, us ++ [.ref le], rfl, (eG.trans (E4.mono (by simp))).trans (.put (by simp)), upd_same, ?_⟩⟩
          have hs : Same (wo [l] G2) (wo [l] (upd G2 l (.lst (us ++ [.ref le])))) := (Ext.put (ts := [l]) (by simp)).same
          rw [take_get hwk, List.map_append]
          refine DenEL.append ((hus.mono (E4.mono (us := [l]) (by simp)).same).mono hs) (.cons (.list (vs := ts) ?_ ?_) .nil)
          · rw [wo_out (by simpa using nle.symm), upd_ne nle.symm]; exact hle4
          · rw [List.map_map]
            exact (hts.mono (same_wo (by intro z hz; simp at hz; simp [hz]))).mono hs
      · rintro σ' G ⟨o0, us, rfl, eG, hlG, hus⟩
        rw [hdl, List.take_length] at hus
        have EG := eG.drop hl
        have hul : us.length = (ws.drop 1).length := by rw [hus.len, List.length_map]
        rw [List.length_drop] at hul
        refine ⟨l1, l, vs.take 1, us, rfl, rfl, (e3.trans EG) _ _ (by simp) hl12, hlG, len2 (by rw [List.length_take]; omega), fun lr hlr => ?_⟩
        have EF : Ext [] H (upd G lr (.lst (vs.take 1 ++ us))) := (E3.trans EG).trans (.laid hlr)
        refine q lr (slimWs ws) _ EF (.list upd_same ?_) (slim_ok hok) (slim_len ws)
        unfold slimWs
        rw [List.map_append, List.map_take, List.map_map]
        exact DenEL.append ((dtake 1 hDL).mono EF.toSame) ((hus.mono (wo_same _ _)).mono (Ext.laid (ts := []) hlr).toSame)
end
end Fs
set_option maxHeartbeats 1000000
namespace Fs
open PySem L2
section
variable {P : Program} {w : World} {K : PySem.W.Frag} {mg : Str → Option Value} {base : Heap}
noncomputable abbrev sWorks : Stmt := top 26
theorem scWorks : FnScope ["_law_tape_here", "_law_most", "_law_works_here", "_law_found", "_law_first", "_law_many_here"] ["_law_tape_here", "_law_most"] (defScope sWorks) := ⟨rfl, rfl, rfl, by decide +kernel, rfl, by decide +kernel, by decide +kernel⟩
theorem ok_works {f : Addr} {fd : FuncData} (F : Fun K "_law_works" "_law_works" sWorks f fd) (nrange : mg "range" = none) (nint : mg "int" = none) (hD : Has P w K mg base "_law_draw" 1 ["_law_tape_here", "_law_many_here"] spDraw)
    (hM : Has P w K mg base "_law_many" 2 ["_law_tape_here"] spMany) (hW : Has P w K mg base "_law_work" 4 ["_law_tape_here", "_law_many_here", "_law_most", "_law_first", "_law_works_here"] (spWorkE K)) (hS : Has P w K mg base "_law_slim" 2 ["_law_works_here"] (spSlimE K)) :
    FnOk P w K mg base CX0 5 f fd ["_law_tape_here", "_law_most"] (spWorksE K) := by
  refine F.ok scWorks (fun vs H Q E h => ?_) (fun cdv A outer s H vs Q E hr h => ?_)
  · obtain ⟨t, k, most, rfl, _⟩ := h
    rfl
  · obtain ⟨t, k, most, rfl, hT, hk, hm1, hm2, q⟩ := h
    refine ⟨_, pss_cons (ps_set (i := 2) scWorks.nd rfl (Or.inl rfl) (pe_ix ix_list (pe_lst (pa_cons (pe_op op_add pe_int (pe_fn hD hr (by decide) (pa_cons (pv 0) (pa_cons pe_int pa_nil)))) (pa_cons (pe_op op_add pe_int (pe_fn hD hr (by decide) (pa_cons (pv 0) (pa_cons pe_int pa_nil)))) pa_nil)))
        (pe_callTy call_int1 (by rfl) nint PyProof.Rows.boot_int (pa_cons (pe_cmpR op_eq (pe_fn hD hr (by decide) (pa_cons (pv 0) (pa_cons pe_int pa_nil))) pe_int (nomark _)) pa_nil)) (fun _ _ => rfl)))
      (pss_cons (ps_set (i := 3) scWorks.nd rfl (Or.inl rfl) (pe_lst pa_nil))
      (pss_cons (ps_for PassesOwn.never rfl (pi_range1 rfl nrange (pa_cons (pv 2) pa_nil)) (pg_name (i := 4) scWorks.nd rfl (Or.inl rfl))
        (pss_cons (ps_set (i := 5) scWorks.nd rfl (Or.inl rfl) (pe_ifExp (pt_cmpR op_lt (pv 2) pe_int (nomark _)) (pe_fn hM hr (by decide) (pa_cons (pv 0) pa_nil)) (pe_op op_add pe_int (pe_fn hD hr (by decide) (pa_cons (pv 0) (pa_cons pe_int pa_nil))))))
        (pss_one (ps_expr (pe_bm PySem.F.plainAttrs_list PySem.F.slot_list_append PySem.F.type_list_append mt_append (pv 3) (pa_cons (pe_fn hW hr (by decide) (pa_cons (pv 0) (pa_cons (pv 5) (pa_cons (pv 1) (pa_cons (pv 4) (pa_cons (pv 2) pa_nil)))))) pa_nil))))))
      (pss_one (ps_ret (pe_fn hS hr (by decide) (pa_cons (pv 3) pa_nil)))))), ?_⟩
    dsimp only [nox_K]
    walk_at "rd"
    refine r_draw hT (by omega) (by decide) (by decide) fun r1 H1 a1 b1 T1 e1 _ => ?_
    walk_at "rd"
    refine r_draw T1 (by omega) (by decide) (by decide) fun r2 H2 a2 b2 T2 e2 _ => ?_
    walk_at "rd"
    refine ⟨len2 (by show 2 ≤ 1000; decide), fun p hp => ?_⟩
    have np : p ≠ t := T2.ne hp
    walk_at "rd"
    refine r_draw (T2.ext (.laid (ts := []) hp) (by simp)) (by omega) (by decide) (by decide) fun r3 H3 a3 b3 T3 e3 k3 => ?_
    walk_at "rd"
    refine r_eqI ?_
    walk_at "rd"
    refine .inr ⟨_, rfl, ?_⟩
    have e4 : Ext [t] H H3 := (e1.trans e2).trans ((Ext.laid hp).trans e3)
    have hL : SqL K H3 p [V.int (1 + r1), V.int (5 + r2)] := SqL.of (by rw [k3 p np, upd_same])
    obtain ⟨n, hn1, hn2, en⟩ : ∃ n : Int, 1 ≤ n ∧ n ≤ 10 ∧ atI [V.int (1 + r1), V.int (5 + r2)] (if decide (r3 = 0) = true then (1 : Int) else 0) = some (.int n) := by
      cases c : decide (r3 = 0) with
      | true => exact ⟨5 + r2, by omega, by omega, rfl⟩
      | false => exact ⟨1 + r1, by omega, by omega, rfl⟩
    refine r_ixL hL en ?_
    clear en hL k3 e3 hp np
    walk_at "rd"
    refine ⟨len2 (Nat.zero_le _), fun l hl => ?_⟩
    have nlt : l ≠ t := T3.ne hl
    have hlH : H l = none := e4.none (by simpa using nlt) hl
    walk_at "rd"
    refine ⟨n, rfl, by omega, by omega, for_rangeN (lo := 0) (n := n.toNat) (fun i σ' H' => ∃ (as : List Addr) (ws : List (List Blk)) (o4 o5 : Option V), σ' = [some (.ref t), some (.int most), some (.int n), some (.ref l), o4, o5] ∧ as.length = i ∧ (∀ w ∈ ws, ∃ m : Int, 1 ≤ m ∧ m ≤ 12 ∧ WorkOk m n w) ∧ (∀ w ∈ ws, ∀ b ∈ w, b.ds.length ≤ 12) ∧
      l ∉ as ∧ (∀ a ∈ as, H a = none ∧ a ≠ t) ∧ as.Nodup ∧ Tape H' t (k + 3 + 2003 * i) ∧ Ext [l, t] H3 H' ∧ H' l = some (.lst (as.map V.ref)) ∧ WorksE (yo H (l :: t :: as) H') H' as ws) ?_ ?_ ?_⟩
    · exact ⟨[], [], _, _, rfl, rfl, by simp, by simp, by simp, by simp, .nil, T3.ext (ts := []) (.laid hl) (by simp), .laid hl, upd_same, .nil⟩
    · rintro i σ' H' hi ⟨as, ws, o4, o5, rfl, hal, hws, hfew, hla, has, hnd, T', e', hl', hA⟩ N_ B_ C_ R_ hN_ hC_ hR_
      have hin : i < 10 := by omega
      have EH : Ext [l, t] H H' := (e4.mono (by simp)).trans e'
      walk_at "rd"
      have fin : ∀ (m : Int) (H5 H6 : Hp) (a : Addr) (w1 : List Blk) (bs : List V), 1 ≤ m → m ≤ 12 → Ext [t] H' H5 → H5 a = none → a ≠ t → Tape H6 t (k + 3 + 2003 * (i + 1)) → Ext [t] H5 H6 → WorkOk m n w1 → (∀ b ∈ w1, b.ds.length ≤ 12) → H6 a = some (.lst bs) → DenEL (yo H5 [a, t] H6) (w1.map blkD) bs → ∀ o4 o5 : Option V,
          H6 l = some (.lst (as.map V.ref)) ∧ ∃ (as' : List Addr) (ws' : List (List Blk)) (o4' o5' : Option V), [some (V.ref t), some (.int most), some (.int n), some (.ref l), o4, o5] = [some (V.ref t), some (.int most), some (.int n), some (.ref l), o4', o5'] ∧ as'.length = i + 1 ∧ (∀ w ∈ ws', ∃ m : Int, 1 ≤ m ∧ m ≤ 12 ∧ WorkOk m n w) ∧ (∀ w ∈ ws', ∀ b ∈ w, b.ds.length ≤ 12) ∧
          l ∉ as' ∧ (∀ a ∈ as', H a = none ∧ a ≠ t) ∧ as'.Nodup ∧ Tape (upd H6 l (.lst (as.map V.ref ++ [V.ref a]))) t (k + 3 + 2003 * (i + 1)) ∧ Ext [l, t] H3 (upd H6 l (.lst (as.map V.ref ++ [V.ref a]))) ∧ (upd H6 l (.lst (as.map V.ref ++ [V.ref a]))) l = some (.lst (as'.map V.ref)) ∧ WorksE (yo H (l :: t :: as') (upd H6 l (.lst (as.map V.ref ++ [V.ref a])))) (upd H6 l (.lst (as.map V.ref ++ [V.ref a]))) as' ws' := by
        intro m H5 H6 a w1 bs hm1 hm2 e5 ha nat T6 e6 hw1 hf1 hba hden o4 o5
        have l5 : H5 l = some (.lst (as.map V.ref)) := e5 _ _ (by simpa using nlt) hl'
        have l6 : H6 l = some (.lst (as.map V.ref)) := e6 _ _ (by simpa using nlt) l5
        have nal : a ≠ l := (ne_of_none l5 ha).symm
        have haH' : H' a = none := e5.none (by simpa using nat) ha
        have haH : H a = none := EH.none (by simp [nal, nat]) haH'
        have naas : a ∉ as := fun hm => by
          obtain ⟨j, hj, e⟩ := List.getElem_of_mem hm
          obtain ⟨_, bs', _, hb', _⟩ := hA.get (i := j) (a := a) (by rw [List.getElem?_eq_getElem hj, e])
          rw [haH'] at hb'; cases hb'
        have E6 : Ext [l, t] H' (upd H6 l (.lst (as.map V.ref ++ [V.ref a]))) := (e5.mono (by simp)).trans ((e6.mono (by simp)).trans (.put (by simp)))
        refine ⟨l6, as ++ [a], ws ++ [w1], o4, o5, rfl, by rw [List.length_append, hal]; rfl, ?_, ?_, by simp [hla, nal.symm], ?_, ?_, ?_, e'.trans E6, by rw [upd_same, List.map_append]; rfl, ?_⟩
        · intro w hw
          rcases List.mem_append.mp hw with z | z
          · exact hws w z
          · rw [List.mem_singleton.mp z]; exact ⟨m, hm1, hm2, hw1⟩
        · intro w hw
          rcases List.mem_append.mp hw with z | z
          · exact hfew w z
          · rw [List.mem_singleton.mp z]; exact hf1
        · intro b hb
          rcases List.mem_append.mp hb with z | z
          · exact has b z
          · rw [List.mem_singleton.mp z]; exact ⟨haH, nat⟩
        · exact List.nodup_append.mpr ⟨hnd, by simp, by intro x hx y hy; simp at hy; subst hy; intro e; subst e; exact naas hx⟩
        · exact T6.ext (ts := [l]) (.put (by simp)) (by simpa using nlt.symm)
        · have key : Same (yo H (l :: t :: as) H') (yo H (l :: t :: (as ++ [a])) (upd H6 l (.lst (as.map V.ref ++ [V.ref a])))) := fun b o e => by
            obtain ⟨h1, h2, h3⟩ := yo_some e
            have nb : b ≠ a := fun z => by rw [z, haH'] at h3; cases h3
            have h2' : b ∉ [l, t] := fun z => h2 (by rcases List.mem_cons.mp z with z | z <;> simp_all)
            rw [yo_out h1 (fun z => h2 (by
              rcases List.mem_cons.mp z with z | z
              · simp [z]
              · rcases List.mem_cons.mp z with z | z
                · simp [z]
                · rcases List.mem_append.mp z with z | z
                  · simp [z]
                  · exact absurd (by simpa using z) nb))]
            exact E6 _ _ h2' h3
          refine (hA.mono key fun b hb o e => ?_).snoc (bs := bs) ?_ (hden.mono fun b o e => ?_)
          · have nbl : b ≠ l := fun z => hla (z ▸ hb)
            exact E6 _ _ (by simp [nbl, (has b hb).2]) e
          · rw [upd_ne nal]; exact hba
          · obtain ⟨h1, h2, h3⟩ := yo_some e
            have nbl : b ≠ l := fun z => by rw [z, l5] at h1; cases h1
            have nbt : b ≠ t := fun z => h2 (by simp [z])
            have nba : b ≠ a := fun z => h2 (by simp [z])
            have h1' : H' b = none := e5.none (by simpa using nbt) h1
            rw [yo_out (EH.none (by simp [nbl, nbt]) h1') (by
              intro z
              rcases List.mem_cons.mp z with z | z
              · exact nbl z
              · rcases List.mem_cons.mp z with z | z
                · exact nbt z
                · rcases List.mem_append.mp z with z | z
                  · obtain ⟨j, hj, e⟩ := List.getElem_of_mem z
                    obtain ⟨_, bs', _, hb', _⟩ := hA.get (i := j) (a := b) (by rw [List.getElem?_eq_getElem hj, e])
                    rw [h1'] at hb'; cases hb'
                  · exact nba (by simpa using z)), upd_ne nbl]
            exact h3
      refine ite2 (fun hn5 => ?_) (fun hn5 => ?_)
      · walk_at "rd"
        refine r_int T' (by omega) fun m H5 hm1' hm2' T5 e5 => ?_
        walk_at "rd"
        refine r_tyL (e5 _ _ (by simpa using nlt) hl') ?_
        walk_at "rd"
        refine ⟨t, _, m, most, _, n, rfl, T5, by omega, hm1', hm2', hm1, hm2, by omega, by omega, by omega, by omega, fun a w1 bs H6 ha nat T6 e6 hw1 hf1 hba hden => ?_⟩
        obtain ⟨l6, post⟩ := fin m H5 H6 a w1 bs hm1' hm2' e5 ha nat (T6.mono (by omega)) e6 hw1 hf1 hba hden _ _
        walk_at "rd"
        exact r_app l6 (small1000 (by rw [List.length_map]; omega)) (hN_ _ _ post)
      · walk_at "rd"
        refine r_draw T' (by omega) (by decide) (by decide) fun r H5 hm1' hm2' T5 e5 _ => ?_
        walk_at "rd"
        refine r_tyL (e5 _ _ (by simpa using nlt) hl') ?_
        walk_at "rd"
        refine ⟨t, _, 1 + r, most, _, n, rfl, T5, by omega, by omega, by omega, hm1, hm2, by omega, by omega, by omega, by omega, fun a w1 bs H6 ha nat T6 e6 hw1 hf1 hba hden => ?_⟩
        obtain ⟨l6, post⟩ := fin (1 + r) H5 H6 a w1 bs (by omega) (by omega) e5 ha nat (T6.mono (by omega)) e6 hw1 hf1 hba hden _ _
        walk_at "rd"
        exact r_app l6 (small1000 (by rw [List.length_map]; omega)) (hN_ _ _ post)
    · rintro σ' H' ⟨as, ws, o4, o5, rfl, hal, hws, hfew, hla, has, hnd, T', e', hl', hA⟩
      walk_at "rd"
      have hwl := hA.len
      refine ⟨l, ws, rfl, .list hl' (worksE_den hA yo_same), ⟨by rw [show ((ws.length : Nat) : Int) = n by omega]; exact hws, by omega, by omega⟩, fun l2 ws2 H4 e6 dW hok2 _ => ?_⟩
      walk_at "rd"
      exact q l2 ws2 H4 (T'.ext (ts := []) e6 (by simp) |>.mono (by omega)) (((e4.mono (by simp)).trans e' |>.drop hlH).trans (e6.mono (by simp))) dW hok2
end
end Fs
set_option maxHeartbeats 1000000
namespace Fs
open PySem L2
section
variable {P : Program} {w : World} {K : PySem.W.Frag} {mg : Str → Option Value} {base : Heap}
noncomputable abbrev sLed : Stmt := top 1
theorem scLed : FnScope ["starts", "nexts", "seen", "due", "place"] ["starts", "nexts"] (defScope sLed) := ⟨rfl, rfl, rfl, by decide +kernel, rfl, by decide +kernel, by decide +kernel⟩
theorem ok_ledN {f : Addr} {fd : FuncData} (F : Fun K "led_to" "led_to" sLed f fd) (nlist : mg "list" = none) : FnOk P w K mg base CX0 1 f fd ["starts", "nexts"] (spLedN K) := by
  refine F.ok scLed (fun vs H Q E h => ?_) (fun cdv A outer s H vs Q E hr h => ?_)
  · obtain ⟨st, nd, wk, m, works, ss, rfl, _⟩ := h
    rfl
  · obtain ⟨st, nd, wk, m, works, ss, rfl, hSt, hNx, hOk, hm, hss, hsl, q⟩ := h
    have hu := hu_of hr
    refine ⟨_, pss_cons (ps_set (i := 2) scLed.nd rfl (Or.inl rfl) pe_dnewK)
      (pss_cons (ps_set (i := 3) scLed.nd rfl (Or.inl rfl) (pe_callTy call_list_of (by rfl) nlist PyProof.Rows.boot_list (pa_cons (pv 0) pa_nil)))
      (pss_cons (ps_while PassesOwn.never (pt_truth (pv 3) (fun _ => rfl))
        (pss_cons (ps_set (i := 4) scLed.nd rfl (Or.inl rfl) (pe_bm0 PySem.F.plainAttrs_list PySem.F.slot_list_pop PySem.F.type_list_pop mt_pop (pv 3)))
        (pss_one (ps_if (pt_cmp (pc_dnotin hu (pv 4) (pv 2)))
          (pss_cons (ps_dput hu (pv 2) (pv 4) pe_bl rfl)
          (pss_one (ps_expr (pe_bm PySem.F.plainAttrs_list PySem.F.slot_list_extend PySem.F.type_list_extend mt_extend (pv 3) (pa_cons (pe_dget2 hu (pv 1) (pv 4) (pe_lst pa_nil) ⟨rfl, rfl, rfl, rfl⟩) pa_nil)))))
          pss_nil))))
      (pss_one (ps_ret (pv 2))))), ?_⟩
    dsimp only [nox_K, comp_K]
    walk_at "rd"
    have hwm := hOk.len
    have few : ∀ x, (nxt wk x).length ≤ 2 := fun x => (nxt_ok hOk x).few
    refine r_dnewK fun d hd => ?_
    walk_at "rd"
    have E0 : Ext [] H (upd H d (.dK [])) := .laid hd
    refine ⟨st, _, rfl, .inl (E0.toSame.seq hSt), fun du hdu => ?_⟩
    have nd1 : d ≠ du := ne_of_none upd_same hdu
    have hdu0 : H du = none := E0.none (by simp) hdu
    walk_at "rd"
    have st0 : LedI H st nd d du wk ss [] ss (upd (upd H d (.dK [])) du (.lst (ss.map V.int))) := by
      refine ⟨E0.trans (.laid hdu), ?_, upd_same, List.nodup_nil, (fun _ h => absurd h (by simp)), fun x hx => ?_, (fun _ h => absurd h (by simp)), fun s hs => .inr hs, Nat.zero_le _, by omega⟩
      · rw [upd_ne nd1, upd_same]; rfl
      · exact ⟨x, hx, .refl⟩
    refine ⟨LedW H st nd d du wk ss, ⟨_, [], ss, none, rfl, rfl, st0⟩, ?_⟩
    rintro μ σ' H' ⟨ks, due, o4, rfl, rfl, I⟩
    refine r_var (v := .ref du) rfl ⟨!(due.map V.int).isEmpty, .inl ⟨_, SqL.of I.hdu, rfl⟩, ?_⟩
    rcases List.eq_nil_or_concat due with h | ⟨init, y, h⟩
    · subst h
      refine iteF ?_
      walk_at "rd"
      exact q d ks H' hd I.ext I.hd I.nod I.end_
    · have h : due = init ++ [y] := by rw [h, List.concat_eq_append]
      have he : (!(due.map V.int).isEmpty) = true := by rw [h]; simp
      rw [he]
      refine iteT ⟨fun σ' H' => ∃ m', m' < (wk.length - cnt (fun x => decide (x ∈ ks)) wk.length) * 3 + due.length ∧ LedW H st nd d du wk ss m' σ' H', fun _ _ h => h, ?_⟩
      obtain ⟨s0, hs0, hyr⟩ := I.rd y (by rw [h]; simp)
      obtain ⟨y0, y1⟩ := hyr.range hOk (hss s0 hs0)
      have hc := cnt_le (fun x => decide (x ∈ ks)) wk.length
      have hdl : due.length = init.length + 1 := by rw [h]; simp
      have hfd := I.fewd
      have hfk := I.few
      walk_at "rd"
      refine r_tyL I.hdu ?_
      refine ⟨du, due.map V.int, .int y, rfl, rfl, I.hdu, by rw [h]; simp, ?_⟩
      have hinit : (due.map V.int).dropLast = init.map V.int := by rw [h]; simp
      rw [hinit]
      have d1 : upd H' du (.lst (init.map V.int)) d = some (.dK (ks.map fun k => ((Sum.inl k : Key), V.bl true))) := by rw [upd_ne nd1]; exact I.hd
      have e1 : Ext [] H (upd H' du (.lst (init.map V.int))) := ((I.ext.mono (us := [du]) (by simp)).trans (.put (by simp))).drop hdu0
      have u1 : upd H' du (.lst (init.map V.int)) du = some (.lst (init.map V.int)) := upd_same
      generalize upd H' du (.lst (init.map V.int)) = H1 at *
      walk_at "rd"
      refine ⟨d, _, rfl, DGet.k (k := Sum.inl y) d1, ?_⟩
      rw [valV_ks]
      by_cases hy : y ∈ ks
      · rw [if_pos hy]
        refine r_bl (iteF ?_)
        walk_at "rd"
        refine ⟨_, by rw [hdl]; exact Nat.lt_succ_self _, ks, init, _, rfl, rfl, e1, d1, u1, I.nod, I.rk, fun x hx => I.rd x (by rw [h]; exact List.mem_append_left _ hx), fun k hk c hc' => ?_, ?_, I.few, by omega⟩
        · rcases I.clo k hk c hc' with z | z
          · exact .inl z
          · rw [h] at z
            rcases List.mem_append.mp z with z | z
            · exact .inr z
            · rw [List.mem_singleton.mp z]; exact .inl hy
        · intro s1 hs1
          rcases I.one s1 hs1 with z | z
          · exact .inl z
          · rw [h] at z
            rcases List.mem_append.mp z with z | z
            · exact .inr z
            · rw [List.mem_singleton.mp z]; exact .inl hy
      · rw [if_neg hy]
        refine r_bl (iteT ?_)
        walk_at "rd"
        refine ⟨d, _, rfl, DPut.k (k := Sum.inl y) d1 (small1000 (by rw [List.length_map]; omega)), ?_⟩
        have hput : putK (ks.map fun k => ((Sum.inl k : Key), V.bl true)) (Sum.inl y) (V.bl true) = (ks ++ [y]).map fun k => ((Sum.inl k : Key), V.bl true) := by
          rw [putK_new _ (by rw [valV_ks, if_neg hy]), List.map_append]; rfl
        rw [hput]
        have d2 : upd H1 d (.dK ((ks ++ [y]).map fun k => ((Sum.inl k : Key), V.bl true))) d = some (.dK ((ks ++ [y]).map fun k => ((Sum.inl k : Key), V.bl true))) := upd_same
        have e2 : Ext [] H (upd H1 d (.dK ((ks ++ [y]).map fun k => ((Sum.inl k : Key), V.bl true)))) := ((e1.mono (us := [d]) (by simp)).trans (.put (by simp))).drop hd
        have u2 : upd H1 d (.dK ((ks ++ [y]).map fun k => ((Sum.inl k : Key), V.bl true))) du = some (.lst (init.map V.int)) := by rw [upd_ne nd1.symm]; exact u1
        generalize upd H1 d (.dK ((ks ++ [y]).map fun k => ((Sum.inl k : Key), V.bl true))) = H2 at *
        obtain ⟨kvs, hk1, hk2⟩ := hNx
        obtain ⟨c, hc1, hc2⟩ := hk2 y y0 (by omega)
        walk_at "rd"
        refine r_tyL u2 ?_
        walk_at "rd"
        refine ⟨nd, rfl, .inl ⟨kvs, .inl (e2 _ _ (by simp) hk1)⟩, ?_⟩
        walk_at "rd"
        refine ⟨len2 (Nat.zero_le _), fun e0 he0 => ?_⟩
        have e3 : Ext [] H2 (upd H2 e0 (.lst [])) := .laid he0
        refine ⟨some (.ref c), ?_, ?_⟩
        · have := DGet.k (k := Sum.inl y) ((e2.trans e3) _ _ (by simp) hk1)
          rw [hc1] at this
          exact this
        walk_at "rd"
        have hnl := few y
        have hmem : ∀ x, x ∈ ks → x ∈ ks ++ [y] := fun x hx => List.mem_append_left _ hx
        have hlt := cnt_lt (p := fun x => decide (x ∈ ks)) (q := fun x => decide (x ∈ ks ++ [y])) (x := y) (fun i hi => decide_eq_true (hmem i (of_decide_eq_true hi))) (decide_eq_true (by simp)) (decide_eq_false hy) wk.length y0 (by omega)
        have hle := cnt_le (fun x => decide (x ∈ ks ++ [y])) wk.length
        refine ⟨du, c, init.map V.int, (nxt wk y).map V.int, rfl, rfl, e3 _ _ (by simp) u2, (e2.trans e3) _ _ (by simp) hc2, len2 (by rw [List.length_map, List.length_map]; omega), ?_⟩
        refine ⟨_, ?_, ks ++ [y], init ++ nxt wk y, _, rfl, rfl, ?_, ?_, ?_, ?_, ?_, ?_, ?_, ?_, ?_, ?_⟩
        · rw [List.length_append]; omega
        · exact (((e2.trans e3).mono (us := [du]) (by simp)).trans (.put (by simp))).drop hdu0
        · rw [upd_ne nd1]; exact e3 _ _ (by simp) d2
        · rw [upd_same, List.map_append]
        · rw [List.nodup_append]
          refine ⟨I.nod, by simp, fun x hx z hz => ?_⟩
          rw [List.mem_singleton.mp hz]
          rintro rfl
          exact hy hx
        · intro x hx
          rcases List.mem_append.mp hx with z | z
          · exact I.rk x z
          · rw [List.mem_singleton.mp z]; exact ⟨s0, hs0, hyr⟩
        · intro x hx
          rcases List.mem_append.mp hx with z | z
          · exact I.rd x (by rw [h]; exact List.mem_append_left _ z)
          · exact ⟨s0, hs0, .step hyr z⟩
        · intro k hk c' hc'
          rcases List.mem_append.mp hk with z | z
          · rcases I.clo k z c' hc' with t | t
            · exact .inl (List.mem_append_left _ t)
            · rw [h] at t
              rcases List.mem_append.mp t with t | t
              · exact .inr (List.mem_append_left _ t)
              · exact .inl (List.mem_append_right _ t)
          · rw [List.mem_singleton.mp z] at hc'
            exact .inr (List.mem_append_right _ hc')
        · intro s1 hs1
          rcases I.one s1 hs1 with t | t
          · exact .inl (List.mem_append_left _ t)
          · rw [h] at t
            rcases List.mem_append.mp t with t | t
            · exact .inr (List.mem_append_left _ t)
            · exact .inl (List.mem_append_right _ t)
        · rw [List.length_append, List.length_singleton]; omega
        · rw [List.length_append]; omega
structure LedT (H : Hp) (d du : Addr) (N : Pl → List Pl) (starts U ks due : List Pl) (H' : Hp) : Prop where
  ext : Ext [] H H'
  hd : H' d = some (.dT (trueD ks))
  hdu : ∃ vs, H' du = some (.lst vs) ∧ PlsAt H' vs due
  nod : ks.Nodup
  rk : ∀ x ∈ ks, ∃ s ∈ starts, RT N s x
  rd : ∀ x ∈ due, ∃ s ∈ starts, RT N s x
  clo : ∀ k ∈ ks, ∀ c ∈ N k, c ∈ ks ∨ c ∈ due
  one : ∀ s ∈ starts, s ∈ ks ∨ s ∈ due
  fewd : due.length ≤ 8000 + 8000 * ks.length
def LedWT (H : Hp) (st nd d du : Addr) (N : Pl → List Pl) (starts U : List Pl) (μ : Nat) (σ' : St) (H' : Hp) : Prop := ∃ (ks due : List Pl) (o4 : Option V), μ = (U.length - ks.length) * 8001 + due.length ∧ σ' = [some (.ref st), some (.ref nd), some (.ref d), some (.ref du), o4] ∧ LedT H d du N starts U ks due H'
theorem LedT.end_ {H H' : Hp} {d du : Addr} {N : Pl → List Pl} {starts U ks : List Pl} (h : LedT H d du N starts U ks [] H') (x : Pl) : x ∈ ks ↔ ∃ s ∈ starts, RT N s x := by
  have key : ∀ s ∈ starts, ∀ y, RT N s y → y ∈ ks := by
    intro s hs y r
    induction r with
    | refl => exact (h.one s hs).elim id fun z => absurd z (by simp)
    | step _ hc ih => exact (h.clo _ ih _ hc).elim id fun z => absurd z (by simp)
  exact ⟨h.rk x, fun ⟨s, hs, r⟩ => key s hs x r⟩
theorem ok_ledT {f : Addr} {fd : FuncData} (F : Fun K "led_to" "led_to" sLed f fd) (nlist : mg "list" = none) : FnOk P w K mg base CX0 1 f fd ["starts", "nexts"] (spLedT K) := by
  refine F.ok scLed (fun vs H Q E h => ?_) (fun cdv A outer s H vs Q E hr h => ?_)
  · obtain ⟨st, nd, svs, starts, U, N, rfl, _⟩ := h
    rfl
  · obtain ⟨st, nd, svs, starts, U, N, rfl, hSt, hPl, hNx, hsU, hcU, hN, hU, hsl, q⟩ := h
    have hu := hu_of hr
    refine ⟨_, pss_cons (ps_set (i := 2) scLed.nd rfl (Or.inl rfl) pe_dnewT)
      (pss_cons (ps_set (i := 3) scLed.nd rfl (Or.inl rfl) (pe_callTy call_list_of (by rfl) nlist PyProof.Rows.boot_list (pa_cons (pv 0) pa_nil)))
      (pss_cons (ps_while PassesOwn.never (pt_truth (pv 3) (fun _ => rfl))
        (pss_cons (ps_set (i := 4) scLed.nd rfl (Or.inl rfl) (pe_bm0 PySem.F.plainAttrs_list PySem.F.slot_list_pop PySem.F.type_list_pop mt_pop (pv 3)))
        (pss_one (ps_if (pt_cmp (pc_dnotin hu (pv 4) (pv 2)))
          (pss_cons (ps_dput hu (pv 2) (pv 4) pe_bl rfl)
          (pss_one (ps_expr (pe_bm PySem.F.plainAttrs_list PySem.F.slot_list_extend PySem.F.type_list_extend mt_extend (pv 3) (pa_cons (pe_dget2 hu (pv 1) (pv 4) (pe_lst pa_nil) ⟨rfl, rfl, rfl, rfl⟩) pa_nil)))))
          pss_nil))))
      (pss_one (ps_ret (pv 2))))), ?_⟩
    dsimp only [nox_K, comp_K]
    walk_at "rd"
    refine (show ∀ p, H p = none → _ from fun d hd => ?_)
    walk_at "rd"
    have E0 : Ext [] H (upd H d (.dT [])) := .laid hd
    refine ⟨st, _, rfl, .inl (E0.toSame.seq hSt), fun du hdu => ?_⟩
    have nd1 : d ≠ du := ne_of_none upd_same hdu
    have hdu0 : H du = none := E0.none (by simp) hdu
    walk_at "rd"
    have st0 : LedT H d du N starts U [] starts (upd (upd H d (.dT [])) du (.lst svs)) := by
      have e : Ext [] H (upd (upd H d (.dT [])) du (.lst svs)) := E0.trans (.laid hdu)
      refine ⟨e, ?_, ⟨svs, upd_same, hPl.mono e.tk⟩, List.nodup_nil, (fun _ h => absurd h (by simp)), fun x hx => ⟨x, hx, .refl⟩, (fun _ h => absurd h (by simp)), fun s hs => .inr hs, by simp; omega⟩
      rw [upd_ne nd1, upd_same]; rfl
    refine ⟨LedWT H st nd d du N starts U, ⟨_, [], starts, none, rfl, rfl, st0⟩, ?_⟩
    rintro μ σ' H' ⟨ks, due, o4, rfl, rfl, I⟩
    obtain ⟨dvs, hdu', hdp⟩ := I.hdu
    refine r_var (v := .ref du) rfl ⟨!dvs.isEmpty, .inl ⟨_, SqL.of hdu', rfl⟩, ?_⟩
    rcases List.eq_nil_or_concat due with h | ⟨init, y, h⟩
    · subst h
      cases hdp
      refine iteF ?_
      walk_at "rd"
      exact q d ks H' hd I.ext I.hd I.nod I.end_
    · have h : due = init ++ [y] := by rw [h, List.concat_eq_append]
      rw [h] at hdp
      obtain ⟨ws, v, rfl, hws, vb, rfl, hvb⟩ := hdp.last
      have he : (!(ws ++ [V.ref vb]).isEmpty) = true := by simp
      rw [he]
      refine iteT ⟨fun σ' H' => ∃ m', m' < (U.length - ks.length) * 8001 + due.length ∧ LedWT H st nd d du N starts U m' σ' H', fun _ _ h => h, ?_⟩
      obtain ⟨s0, hs0, hyr⟩ := I.rd y (by rw [h]; simp)
      have hyU := hyr.within hcU (hsU s0 hs0)
      have hksU : ∀ x ∈ ks, x ∈ U := fun x hx => by
        obtain ⟨s1, hs1, r1⟩ := I.rk x hx
        exact r1.within hcU (hsU s1 hs1)
      have hkl := nodup_le I.nod hksU
      have hdl : due.length = init.length + 1 := by rw [h]; simp
      have hfd := I.fewd
      have hwl := hws.len
      walk_at "rd"
      refine r_tyL hdu' ?_
      refine ⟨du, ws ++ [V.ref vb], .ref vb, rfl, rfl, hdu', by simp, ?_⟩
      rw [List.dropLast_concat]
      have d1 : upd H' du (.lst ws) d = some (.dT (trueD ks)) := by rw [upd_ne nd1]; exact I.hd
      have e1 : Ext [] H (upd H' du (.lst ws)) := ((I.ext.mono (us := [du]) (by simp)).trans (.put (by simp))).drop hdu0
      have u1 : upd H' du (.lst ws) du = some (.lst ws) := upd_same
      have tk1 : TK H' (upd H' du (.lst ws)) := .put (by intro ys z; rw [hdu'] at z; cases z)
      have hws1 := hws.mono tk1
      have hvb1 := tk1 _ _ hvb
      generalize upd H' du (.lst ws) = H1 at d1 e1 u1 tk1 hws1 hvb1 ⊢
      walk_at "rd"
      refine ⟨d, _, rfl, DGet.t (k := plK y) d1 hvb1, ?_⟩
      rw [valV_pl]
      by_cases hy : y ∈ ks
      · rw [if_pos hy]
        refine r_bl (iteF ?_)
        walk_at "rd"
        refine ⟨_, by rw [hdl]; exact Nat.lt_succ_self _, ks, init, _, rfl, rfl, e1, d1, ⟨ws, u1, hws1⟩, I.nod, I.rk, fun x hx => I.rd x (by rw [h]; exact List.mem_append_left _ hx), fun k hk c hc' => ?_, fun s hs => ?_, by omega⟩
        · rcases I.clo k hk c hc' with z | z
          · exact .inl z
          · rw [h] at z
            rcases List.mem_append.mp z with z | z
            · exact .inr z
            · rw [List.mem_singleton.mp z]; exact .inl hy
        · rcases I.one s hs with z | z
          · exact .inl z
          · rw [h] at z
            rcases List.mem_append.mp z with z | z
            · exact .inr z
            · rw [List.mem_singleton.mp z]; exact .inl hy
      · rw [if_neg hy]
        refine r_bl (iteT ?_)
        walk_at "rd"
        refine ⟨d, _, rfl, DPut.t (k := plK y) d1 hvb1 (small3 (by unfold trueD; rw [List.length_map]; omega)), ?_⟩
        have hput : putK (trueD ks) (plK y) (V.bl true) = trueD (ks ++ [y]) := by
          rw [putK_new _ (by rw [valV_pl, if_neg hy])]; unfold trueD; rw [List.map_append]; rfl
        rw [hput]
        have d2 : upd H1 d (.dT (trueD (ks ++ [y]))) d = some (.dT (trueD (ks ++ [y]))) := upd_same
        have e2 : Ext [] H (upd H1 d (.dT (trueD (ks ++ [y])))) := ((e1.mono (us := [d]) (by simp)).trans (.put (by simp))).drop hd
        have u2 : upd H1 d (.dT (trueD (ks ++ [y]))) du = some (.lst ws) := by rw [upd_ne nd1.symm]; exact u1
        have tk2 : TK H1 (upd H1 d (.dT (trueD (ks ++ [y])))) := .put (by intro ys z; rw [d1] at z; cases z)
        have hws2 := hws1.mono tk2
        have hvb2 := tk2 _ _ hvb1
        generalize upd H1 d (.dT (trueD (ks ++ [y]))) = H2 at d2 e2 u2 tk2 hws2 hvb2 ⊢
        have hNx2 := hNx.mono e2
        obtain ⟨kvs, hk1, hk2⟩ := hNx2
        have hnod : (ks ++ [y]).Nodup := by
          rw [List.nodup_append]
          refine ⟨I.nod, by simp, fun x hx z hz => ?_⟩
          rw [List.mem_singleton.mp hz]
          rintro rfl
          exact hy hx
        have hkl2 := nodup_le (l2 := U) hnod fun x hx => by
          rcases List.mem_append.mp hx with z | z
          · exact hksU x z
          · rw [List.mem_singleton.mp z]; exact hyU
        rw [List.length_append, List.length_singleton] at hkl2
        have hNy := hN y
        walk_at "rd"
        refine r_tyL u2 ?_
        walk_at "rd"
        refine ⟨nd, rfl, .inr ⟨kvs, .inl hk1⟩, ?_⟩
        walk_at "rd"
        refine ⟨len2 (Nat.zero_le _), fun e0 he0 => ?_⟩
        have e3 : Ext [] H2 (upd H2 e0 (.lst [])) := .laid he0
        have u3 := e3 _ _ (by simp) u2
        have d3 := e3 _ _ (by simp) d2
        have hws3 := hws2.mono e3.tk
        have EE : Ext [] H (upd H2 e0 (.lst [])) := e2.trans e3
        have he03 : upd H2 e0 (.lst []) e0 = some (.lst []) := upd_same
        have fin : ∀ (c : Addr) (cvs : List V) (H3 : Hp), H3 = upd H2 e0 (.lst []) → H3 c = some (.lst cvs) → PlsAt H3 cvs (N y) → ∀ R : St → Hp → Prop, (∀ σ' H', (∃ m', m' < (U.length - ks.length) * 8001 + due.length ∧ LedWT H st nd d du N starts U m' σ' H') → R σ' H') → ∀ o4 : Option V,
            rExtend (.ref du) [.ref c] H3 (fun _ H4 => R [some (.ref st), some (.ref nd), some (.ref d), some (.ref du), o4] H4) := by
          rintro c cvs H3 rfl hc hcp R hR o4
          have hcl := hcp.len
          refine ⟨du, c, ws, cvs, rfl, rfl, u3, hc, by rw [sizeLine_eq]; omega, hR _ _ ?_⟩
          have tk4 : TK (upd H2 e0 (.lst [])) (upd (upd H2 e0 (.lst [])) du (.lst (ws ++ cvs))) := .put (by intro ys z; rw [u3] at z; cases z)
          refine ⟨_, ?_, ks ++ [y], init ++ N y, _, rfl, rfl, ?_, ?_, ⟨ws ++ cvs, upd_same, (hws3.append hcp).mono tk4⟩, hnod, ?_, ?_, ?_, ?_, ?_⟩
          · rw [List.length_append, List.length_append, List.length_singleton]; omega
          · exact ((EE.mono (us := [du]) (by simp)).trans (.put (by simp))).drop hdu0
          · rw [upd_ne nd1]; exact d3
          · intro x hx
            rcases List.mem_append.mp hx with z | z
            · exact I.rk x z
            · rw [List.mem_singleton.mp z]; exact ⟨s0, hs0, hyr⟩
          · intro x hx
            rcases List.mem_append.mp hx with z | z
            · exact I.rd x (by rw [h]; exact List.mem_append_left _ z)
            · exact ⟨s0, hs0, .step hyr z⟩
          · intro k hk c' hc'
            rcases List.mem_append.mp hk with z | z
            · rcases I.clo k z c' hc' with t | t
              · exact .inl (List.mem_append_left _ t)
              · rw [h] at t
                rcases List.mem_append.mp t with t | t
                · exact .inr (List.mem_append_left _ t)
                · exact .inl (List.mem_append_right _ t)
            · rw [List.mem_singleton.mp z] at hc'
              exact .inr (List.mem_append_right _ hc')
          · intro s hs
            rcases I.one s hs with t | t
            · exact .inl (List.mem_append_left _ t)
            · rw [h] at t
              rcases List.mem_append.mp t with t | t
              · exact .inr (List.mem_append_left _ t)
              · exact .inl (List.mem_append_right _ t)
          · rw [List.length_append, List.length_append, List.length_singleton]; omega
        have hvb3 := e3.tk _ _ hvb2
        rcases hk2 y with ⟨z1, z2⟩ | ⟨c, cvs, c1, c2, c3⟩
        · refine ⟨none, ?_, ?_⟩
          · have := DGet.t (k := plK y) (e3 _ _ (by simp) hk1) hvb3
            rw [z1] at this
            exact this
          walk_at "rd"
          exact fin e0 [] _ rfl he03 (by rw [z2]; exact .nil) _ (fun _ _ z => z) _
        · refine ⟨some (.ref c), ?_, ?_⟩
          · have := DGet.t (k := plK y) (e3 _ _ (by simp) hk1) hvb3
            rw [c1] at this
            exact this
          walk_at "rd"
          exact fin c cvs _ rfl (e3 _ _ (by simp) c2) (c3.mono e3.tk) _ (fun _ _ z => z) _
theorem ok_led2 {f : Addr} {fd : FuncData} (F : Fun K "led_to" "led_to" sLed f fd) (nlist : mg "list" = none) : FnOk P w K mg base CX0 1 f fd ["starts", "nexts"] (spLed2 K) :=
  ⟨fun vs H Q E h => h.elim ((ok_ledN (P := P) (w := w) (base := base) F nlist).len vs H Q E) ((ok_ledT (P := P) (w := w) (base := base) F nlist).len vs H Q E),
   fun A outer s H args us vs Q E hr h1 h2 h3 h => h.elim ((ok_ledN F nlist).run A outer s H args us vs Q E hr h1 h2 h3) ((ok_ledT F nlist).run A outer s H args us vs Q E hr h1 h2 h3)⟩
end
end Fs
set_option maxHeartbeats 1000000
namespace Fs
open PySem L2
section
variable {P : Program} {w : World} {K : PySem.W.Frag} {mg : Str → Option Value} {base : Heap}
noncomputable abbrev sWrites : Stmt := top 7
noncomputable abbrev sReads : Stmt := top 8
theorem scWrites : FnScope ["deed", "box"] ["deed", "box"] (defScope sWrites) := ⟨rfl, rfl, rfl, by decide +kernel, rfl, by decide +kernel, by decide +kernel⟩
theorem scReads : FnScope ["deed", "box"] ["deed", "box"] (defScope sReads) := ⟨rfl, rfl, rfl, by decide +kernel, rfl, by decide +kernel, by decide +kernel⟩
theorem r_andV {ta tb : TE} {σ : St} {H : Hp} {Q : VK} (h : ta σ H fun x H1 => ∃ c, x = .bl c ∧ if c = true then tb σ H1 Q else Q (.bl false) H1) : tAndV ta tb σ H Q := h
theorem r_orV {ta tb : TE} {σ : St} {H : Hp} {Q : VK} (h : ta σ H fun x H1 => ∃ c, x = .bl c ∧ if c = true then Q (.bl true) H1 else tb σ H1 Q) : tOrV ta tb σ H Q := h
theorem deed_open {K : PySem.W.Frag} {H : Hp} {d : Deed} {v : V} (h : Den K H (deedD d) v) : ∃ p, v = .ref p ∧ SqT K H p (V.str (dword d) :: (dargs d).map V.int) := by
  rw [deed_is] at h
  obtain ⟨p, ps, rfl, hp, hps⟩ := h.ofTuple
  obtain ⟨v1, q1, rfl, hv1, hq1⟩ := hps.ofCons
  have z1 := hv1.ofStr
  have z2 := hq1.ints
  subst z1 z2
  exact ⟨p, rfl, hp⟩
theorem at_arg (d : Deed) : atI (V.str (dword d) :: (dargs d).map V.int) ((1 : Nat) : Int) = some (V.int (darg d)) := by
  obtain ⟨r, hr⟩ := dargs_head d
  rw [hr]
  exact atI_nat rfl
theorem ok_writes {f wa : Addr} {fd : FuncData} (F : Fun K "writes_box" "writes_box" sWrites f fd) (hWr : mg "WRITING" = some (.ref wa)) (hWt : Writing K wa) : FnOk P w K mg base CX0 1 f fd ["deed", "box"] (spDeedB wrB K) := by
  refine F.ok scWrites (fun vs H Q E h => ?_) (fun cdv A outer s H vs Q E hr h => ?_)
  · obtain ⟨v, d, x, rfl, _⟩ := h
    rfl
  · obtain ⟨v, d, x, rfl, hd, q⟩ := h
    refine ⟨_, pss_one (ps_ret (pe_and (pe_cmpR op_in_seq (pe_ix ix_tup (pv 0) pe_int (fun _ _ => rfl)) (pe_glob (v := .ref wa) rfl hWr rfl) rfl) (pe_one (pe_cmpR op_eq (pe_ix ix_tup (pv 0) pe_int (fun _ _ => rfl)) (pv 1) (nomark _))))), ?_⟩
    dsimp only [nox_K]
    obtain ⟨p, rfl, hp⟩ := deed_open hd
    walk_at "rd"
    refine r_andV ?_
    walk_at "rd"
    refine r_ixT hp (show atI _ ((0 : Nat) : Int) = some (V.str (dword d)) from atI_nat rfl) ?_
    walk_at "rd"
    refine ⟨wa, [V.str "set", .str "add"], rfl, .inr (.inr hWt), rfl, rfl, ?_⟩
    rw [if_neg Bool.false_ne_true, deed_in]
    refine ⟨_, rfl, ?_⟩
    have hq := q H (.refl _ _)
    unfold wrB at hq
    cases hw : (wr d).isSome with
    | true =>
      rw [hw] at hq
      refine iteT ?_
      walk_at "rd"
      refine r_ixT hp (at_arg d) ?_
      walk_at "rd"
      exact r_eqI hq
    | false =>
      rw [hw] at hq
      exact iteF hq
theorem ok_reads {f wa : Addr} {fd : FuncData} (F : Fun K "reads_box" "reads_box" sReads f fd) (hWr : mg "READING" = some (.ref wa)) (hWt : Reading K wa) : FnOk P w K mg base CX0 1 f fd ["deed", "box"] (spDeedB rdB K) := by
  refine F.ok scReads (fun vs H Q E h => ?_) (fun cdv A outer s H vs Q E hr h => ?_)
  · obtain ⟨v, d, x, rfl, _⟩ := h
    rfl
  · obtain ⟨v, d, x, rfl, hd, q⟩ := h
    refine ⟨_, pss_one (ps_ret (pe_and (pe_cmpR op_in_seq (pe_ix ix_tup (pv 0) pe_int (fun _ _ => rfl)) (pe_glob (v := .ref wa) rfl hWr rfl) rfl) (pe_one (pe_cmpR op_in_seq (pv 1) (pe_slice sl_tup (pv 0) (po_some pe_int) po_none) rfl)))), ?_⟩
    dsimp only [nox_K]
    obtain ⟨p, rfl, hp⟩ := deed_open hd
    walk_at "rd"
    refine r_andV ?_
    walk_at "rd"
    refine r_ixT hp (show atI _ ((0 : Nat) : Int) = some (V.str (dword d)) from atI_nat rfl) ?_
    walk_at "rd"
    refine ⟨wa, [V.str "add", .str "tell"], rfl, .inr (.inr hWt), rfl, rfl, ?_⟩
    rw [if_neg Bool.false_ne_true, deed_read]
    refine ⟨_, rfl, ?_⟩
    cases hw : isRead d with
    | true =>
      refine iteT ?_
      walk_at "rd"
      refine ⟨1, rfl, ?_⟩
      walk_at "rd"
      refine ⟨p, _, rfl, hp, ?_, fun p2 hp2 => ?_⟩
      · intro h
        have := h.1
        revert this
        have hn : (V.str (dword d) :: (dargs d).map V.int).length = (dargs d).length + 1 := by simp
        have := (dargs_len d).1
        rw [hn]
        unfold HT.sIx
        simp
        try omega
      rw [cut1]
      refine ⟨p2, (dargs d).map V.int, rfl, .inr (SqT.of upd_same), rfl, flat_ints _, ?_⟩
      rw [if_neg Bool.false_ne_true, inV_ints]
      have hq := q _ (Ext.laid (o := .tup ((dargs d).map V.int)) hp2)
      unfold rdB at hq
      rw [hw] at hq
      exact hq
    | false =>
      have hq := q H (.refl _ _)
      unfold rdB at hq
      rw [hw] at hq
      exact iteF hq
end
end Fs
set_option maxHeartbeats 1000000
namespace Fs
open PySem L2
section
variable {P : Program} {w : World} {K : PySem.W.Frag} {mg : Str → Option Value} {base : Heap}
theorem cut_take (xs : List V) (n : Nat) : cutV xs none (some (n : Int)) = xs.take n := by
  unfold cutV
  rw [HT.sIx_none, HT.sIx_nat, List.drop_zero, Nat.sub_zero]
  by_cases h : n ≤ xs.length
  · rw [Nat.min_eq_left h]
  · rw [Nat.min_eq_right (by omega), List.take_of_length_le (Nat.le_refl _), List.take_of_length_le (by omega)]
theorem DenL.taken {K : PySem.W.Frag} {G : Hp} : ∀ {ds : List PyData} {vs : List V} (n : Nat), DenL K G ds vs → DenL K G (ds.take n) (vs.take n)
  | [], vs, n, h => by have := h.ofNil; subst this; simpa using DenL.nil
  | d :: ds, vs, 0, h => by simpa using DenL.nil
  | d :: ds, vs, n + 1, h => by
    obtain ⟨v, r, rfl, h1, h2⟩ := h.ofCons
    exact .cons h1 (DenL.taken n h2)
noncomputable def spTill (K : PySem.W.Frag) : Sp := fun vs H Q _ => ∃ (v : V) (ds : List Deed) (x : Int), vs = [v, .int x] ∧ Den K H (.list (ds.map deedD)) v ∧ ds.length ≤ 100 ∧
  ∀ (l : Addr) (us : List V) (H' : Hp), H l = none → Ext [] H H' → H' l = some (.lst us) → DenL K H' ((till x ds).map deedD) us → Q (.ref l) H'
noncomputable abbrev sTill : Stmt := top 9
theorem scTill : FnScope ["deeds", "box", "at", "deed"] ["deeds", "box"] (defScope sTill) := ⟨rfl, rfl, rfl, by decide +kernel, rfl, by decide +kernel, by decide +kernel⟩
theorem ok_till {f : Addr} {fd : FuncData} (F : Fun K "till_write" "till_write" sTill f fd) (nenum : mg "enumerate" = none) (nlist : mg "list" = none) (hWr : Has P w K mg base "writes_box" 1 ["deed", "box"] (spDeedB wrB K)) : FnOk P w K mg base CX0 2 f fd ["deeds", "box"] (spTill K) := by
  refine F.ok scTill (fun vs H Q E h => ?_) (fun cdv A outer s H vs Q E hr h => ?_)
  · obtain ⟨v, ds, x, rfl, _⟩ := h
    rfl
  · obtain ⟨v, ds, x, rfl, hd, hl, q⟩ := h
    refine ⟨_, pss_cons (ps_for PassesOwn.never rfl (pi_enum rfl nenum (pa_cons (pv 0) pa_nil)) (pg_tup (n := 2) rfl (pgs_cons (pg_name (i := 2) scTill.nd rfl (Or.inl rfl)) (pgs_cons (pg_name (i := 3) scTill.nd rfl (Or.inl rfl)) pgs_nil)))
        (pss_one (ps_if (pt_truthK K rfl (pe_fn hWr hr (by decide) (pa_cons (pv 3) (pa_cons (pv 1) pa_nil))) (fun _ => rfl)) (pss_one (ps_ret (pe_slice sl_list (pv 0) po_none (po_some (pe_op op_add (pv 2) pe_int))))) pss_nil)))
      (pss_one (ps_ret (pe_callTy call_list_of (by rfl) nlist PyProof.Rows.boot_list (pa_cons (pv 0) pa_nil)))), ?_⟩
    dsimp only [nox_K, comp_K]
    obtain ⟨a, dvs, rfl, hSq, hDL⟩ := hd.ofList
    have hvl : dvs.length = ds.length := by rw [hDL.len, List.length_map]
    walk_at "rd"
    refine ⟨a, rfl, ⟨dvs, hSq⟩, for_enum (xs := dvs) (fun i σ' H' => ∃ (o2 o3 : Option V), σ' = [some (.ref a), some (.int x), o2, o3] ∧ Ext [] H H' ∧ ∀ e ∈ ds.take i, wrB x e = false) ?_ ?_ ?_ ?_⟩
    · exact ⟨_, _, rfl, .refl _ _, by simp⟩
    · rintro i σ' H' hi ⟨o2, o3, rfl, e', hno⟩
      exact e'.toSame.seq hSq
    · rintro i y σ' H' pt hy ⟨o2, o3, rfl, e', hno⟩ hpt
      obtain ⟨dd, hdd, hDy⟩ := hDL.get hy
      obtain ⟨d, hd, rfl⟩ := map_get hdd
      have hi : i < ds.length := (List.getElem?_eq_some_iff.mp hd).1
      have e2 : Ext [] H' (upd H' pt (.tup [.int i, y])) := .laid hpt
      refine r_gtup (SqT.of upd_same) rfl ?_
      have E2 := e'.trans e2
      generalize upd H' pt (.tup [.int i, y]) = H2 at e2 E2 ⊢
      walk_at "rd"
      refine ⟨y, d, x, rfl, hDy.mono E2.toSame, fun H3 e3 => ?_⟩
      refine ⟨wrB x d, rfl, ?_⟩
      cases hw : wrB x d with
      | true =>
        refine iteT ?_
        walk_at "rd"
        refine ⟨(i : Int) + 1, rfl, ?_⟩
        refine ⟨a, dvs, rfl, (E2.trans e3).toSame.seq hSq, fun l hl => ?_⟩
        rw [show (i : Int) + 1 = ((i + 1 : Nat) : Int) by omega, cut_take]
        have E3 := E2.trans e3
        refine q l _ _ (E3.none (by simp) hl) (E3.trans (.laid hl)) upd_same ?_
        rw [till_first hno hd hw, List.map_take]
        exact DenL.taken _ (hDL.mono (E3.trans (.laid hl)).toSame)
      | false =>
        refine iteF ?_
        walk_at "rd"
        refine ⟨_, _, rfl, E2.trans e3, fun e he => ?_⟩
        rw [take_get hd] at he
        rcases List.mem_append.mp he with z | z
        · exact hno e z
        · rw [List.mem_singleton.mp z]; exact hw
    · rintro σ' H' ⟨o2, o3, rfl, e', hno⟩
      rw [hvl, List.take_length] at hno
      walk_at "rd"
      refine ⟨a, dvs, rfl, .inl (e'.toSame.seq hSq), fun l hl => ?_⟩
      refine q l _ _ (e'.none (by simp) hl) (e'.trans (.laid hl)) upd_same ?_
      rw [till_none hno]
      exact hDL.mono (e'.trans (.laid hl)).toSame
end
end Fs
set_option maxHeartbeats 1000000
namespace Fs
open PySem L2
section
variable {P : Program} {w : World} {K : PySem.W.Frag} {mg : Str → Option Value} {base : Heap}
noncomputable abbrev sBegins : Stmt := top 11
theorem scBegins : FnScope ["works", "number", "at", "box", "deeds", "end", "met"] ["works", "number", "at", "box"] (defScope sBegins) := ⟨rfl, rfl, rfl, by decide +kernel, rfl, by decide +kernel, by decide +kernel⟩
theorem endD_is' {m : Int} {ns : List Int} (h : NsOk m ns) : ∃ wd : Str, endD ns = .tuple (.str wd :: ns.map .int) ∧ True := by
  rcases h with z | ⟨x, z, _⟩ | ⟨x, y, z, _⟩ <;> subst z
  · exact ⟨_, rfl, True.intro⟩
  · exact ⟨_, rfl, True.intro⟩
  · exact ⟨_, rfl, True.intro⟩
theorem open_blk {H : Hp} {wa : Addr} {ws : List (List Blk)} {n a : Nat} {b : Blk} (hW : Den K H (worksD ws) (.ref wa)) (hb : blkAt ws ((n : Int), (a : Int)) = some b) :
    ∃ (vs bs : List V) (wb pb : Addr) (dl : Addr) (dvs : List V) (ve : V), SqL K H wa vs ∧ atI vs (n : Int) = some (.ref wb) ∧ SqL K H wb bs ∧ atI bs (a : Int) = some (.ref pb) ∧ SqT K H pb [.ref dl, ve] ∧ SqL K H dl dvs ∧ DenL K H (b.ds.map deedD) dvs ∧ Den K H (endD b.ns) ve := by
  rw [blkAt_nat] at hb
  cases hw : ws[n]? with
  | none => rw [hw] at hb; cases hb
  | some w1 =>
    rw [hw] at hb
    have hb : w1[a]? = some b := hb
    obtain ⟨wa', vs, ea, hvs, hdvs⟩ := hW.ofList
    cases ea
    obtain ⟨v1, hv1, hd1⟩ := hdvs.get' (i := n) (d := workD w1) (by rw [List.getElem?_map, hw]; rfl)
    obtain ⟨wb, bs, rfl, hbs, hdbs⟩ := hd1.ofList
    obtain ⟨v2, hv2, hd2⟩ := hdbs.get' (i := a) (d := blkD b) (by rw [List.getElem?_map, hb]; rfl)
    obtain ⟨pb, cs, rfl, hc, hcs⟩ := hd2.ofTuple
    obtain ⟨vd, q1, rfl, hdd, hr1⟩ := hcs.ofCons
    obtain ⟨ve, q2, rfl, hde, hr2⟩ := hr1.ofCons
    have hr2 := hr2.ofNil
    subst hr2
    obtain ⟨dl, dvs, rfl, hdl, hdd2⟩ := hdd.ofList
    exact ⟨vs, bs, wb, pb, dl, dvs, ve, hvs, atI_nat hv1, hbs, atI_nat hv2, hc, hdl, hdd2, hde⟩
theorem ok_begins {f : Addr} {fd : FuncData} (F : Fun K "begins_met" "begins_met" sBegins f fd) (nany : mg "any" = none) (hTw : Has P w K mg base "till_write" 2 ["deeds", "box"] (spTill K)) (hWr : Has P w K mg base "writes_box" 1 ["deed", "box"] (spDeedB wrB K)) : FnOk P w K mg base CX0 3 f fd ["works", "number", "at", "box"] (spBegins K) := by
  refine F.ok scBegins (fun vs H Q E h => ?_) (fun cdv A outer s H vs Q E hr h => ?_)
  · obtain ⟨wa, ws, n, b, x, rfl, _⟩ := h
    rfl
  · obtain ⟨wa, ws, n, a, x, rfl, hW, hok, hpl, q⟩ := h
    refine ⟨_, pss_cons (ps_asg (pe_ix ix_list (pe_ix ix_list (pv 0) (pv 1) (fun _ _ => rfl)) (pv 2) (fun _ _ => rfl)) (pg_tup (n := 2) rfl (pgs_cons (pg_name (i := 4) scBegins.nd rfl (Or.inl rfl)) (pgs_cons (pg_name (i := 5) scBegins.nd rfl (Or.inl rfl)) pgs_nil))))
      (pss_cons (ps_lc (i := 6) ["deed"] [] rfl (.of rfl) scBegins.nd rfl (Or.inl rfl) (pi_list (pe_fn hTw hr (by decide) (pa_cons (pv 4) (pa_cons (pv 3) pa_nil)))) (fun _ _ _ _ => pg_name (i := 0) (by show ((["deed"] : List Str)).Nodup; decide) rfl (Or.inl rfl)) (fun _ _ _ _ => .cons (pt_cmpR op_eq (pe_ix (ix_tupK K rfl) (pv 0) pe_int (fun _ _ => rfl)) pe_str (nomark _)) .nil) (fun _ _ _ _ => pe_tup (pa_cons (pe_ix (ix_tupK K rfl) (pv 0) pe_int (fun _ _ => rfl)) (pa_cons pe_int pa_nil))))
      (pss_cons (ps_if (pt_not (pt_truthK K rfl (pe_callB (call_anyB hr.hd) (by rfl) nany PyProof.Rows.boot_any (pa_cons (pe_lc ["deed"] [3] rfl (.of rfl) (pi_list (pv 4)) (fun _ _ _ _ => pg_name (i := 0) (by show ((["deed", "box"] : List Str)).Nodup; decide) rfl (Or.inl rfl)) (fun _ _ _ _ => .nil) (fun _ _ _ _ => pe_fn hWr hr (by decide) (pa_cons (pv 0) (pa_cons (pv 1) pa_nil)))) pa_nil)) (fun _ => rfl)))
        (pss_one (ps_expr (pe_bm PySem.F.plainAttrs_list PySem.F.slot_list_extend PySem.F.type_list_extend mt_extend (pv 6) (pa_cons (pe_lc ["to"] [1] rfl (.of rfl) (pi_tup (pe_slice sl_tup (pv 5) (po_some pe_int) po_none)) (fun _ _ _ _ => pg_name (i := 0) (by show ((["to", "number"] : List Str)).Nodup; decide) rfl (Or.inl rfl)) (fun _ _ _ _ => .nil) (fun _ _ _ _ => pe_tup (pa_cons (pv 1) (pa_cons (pv 0) pa_nil)))) pa_nil)))) pss_nil)
      (pss_one (ps_ret (pv 6))))), ?_⟩
    dsimp only [nox_K, comp_K]
    obtain ⟨b, hb⟩ := mem_places.mp hpl
    obtain ⟨m, n', w1, hp1, hw1, hm, hm1, hm2, hbok⟩ := hok.blk hb
    obtain ⟨vs, bs, wb, pb, dl, dvs, ve, s1, s2, s3, s4, s5, s6, s7, s8⟩ := open_blk hW hb
    walk_at "rd"
    refine r_ixL s1 s2 ?_
    walk_at "rd"
    refine r_ixL s3 s4 ?_
    refine r_gtup s5 rfl ?_
    walk_at "rd"
    have hds := hbok.few
    refine ⟨.ref dl, b.ds, x, rfl, .list s6 s7, by omega, fun lt tvs H1 hlt e1 hlt1 hden1 => ?_⟩
    have htl : tvs.length = (till x b.ds).length := by rw [hden1.len, List.length_map]
    have htl2 := till_len x b.ds
    refine ⟨lt, rfl, ⟨_, SqL.of hlt1⟩, fun l hl => ?_⟩
    have nltl : lt ≠ l := ne_of_none hlt1 hl
    refine loop_list (xs := tvs) (fun j σ' G => ∃ (o0 : Option V) (us : List V), σ' = [o0] ∧ Ext [l] H1 G ∧ G l = some (.lst us) ∧ PlsAt G us ((((till x b.ds).take j).filterMap callOf).map fun c => (c, 0))) ?_ ?_ ?_ ?_
    · exact ⟨none, [], rfl, .laid hl, upd_same, .nil⟩
    · rintro j σ' G hj ⟨o0, us, rfl, eG, hlG, hus⟩
      exact SqL.of (eG _ _ (by simpa using nltl) hlt1)
    · rintro j y σ' G R hy ⟨o0, us, rfl, eG, hlG, hus⟩ hR
      obtain ⟨dd, hdd, hDy⟩ := hden1.get hy
      obtain ⟨d, hd, rfl⟩ := map_get hdd
      obtain ⟨p, rfl, hp⟩ := deed_open hDy
      have hpG := (eG.drop hl).toSame.seqT hp
      have hjl : j < (till x b.ds).length := (List.getElem?_eq_some_iff.mp hd).1
      have hul := hus.len
      have hfl := List.length_filterMap_le callOf ((till x b.ds).take j)
      rw [List.length_take] at hfl
      rw [List.length_map] at hul
      have htake : ((till x b.ds).take (j + 1)).filterMap callOf = ((till x b.ds).take j).filterMap callOf ++ [d].filterMap callOf := by rw [take_get hd, List.filterMap_append]
      walk_at "rd"
      refine r_ixT hpG (show atI _ ((0 : Nat) : Int) = some (V.str (dword d)) from atI_nat rfl) ?_
      walk_at "rd"
      refine r_eqS ?_
      rw [deed_call]
      walk_at "rd"
      cases hw : isCall d with
      | true =>
        refine iteT (iteT ?_)
        walk_at "rd"
        refine r_ixT hpG (at_arg d) ?_
        walk_at "rd"
        refine ⟨len2 (by show 2 ≤ 1000; decide), fun p2 hp2 => ?_⟩
        have np2 : p2 ≠ l := (ne_of_none hlG hp2).symm
        have tk : TK G (upd (upd G p2 (.tup [.int (darg d), .int 0])) l (.lst (us ++ [.ref p2]))) := (Ext.laid hp2).tk.trans (.put (by intro ys z; rw [upd_ne np2.symm, hlG] at z; cases z))
        refine ⟨us, by rw [upd_ne np2.symm]; exact hlG, small1000 (by omega), hR _ _ ⟨_, us ++ [.ref p2], rfl, eG.trans ((Ext.laid hp2).trans (.put (by simp))), upd_same, ?_⟩⟩
        rw [htake, List.filterMap_cons, call_of d hw, List.map_append]
        exact (hus.mono tk).append (.one (by rw [upd_ne np2, upd_same]))
      | false =>
        refine iteF (iteF (hR _ _ ⟨_, us, rfl, eG, hlG, ?_⟩))
        have hn : callOf d = none := by
          unfold isCall at hw
          cases z : callOf d with
          | none => rfl
          | some y => rw [z] at hw; cases hw
        rw [htake, List.filterMap_cons, hn, List.filterMap_nil, List.append_nil]
        exact hus
    · rintro σ' G ⟨o0, us, rfl, eG, hlG, hus⟩
      rw [htl, List.take_length] at hus
      have EG : Ext [] H G := e1.trans (eG.drop hl)
      have hlH : H l = none := e1.none (by simp) hl
      have hul := hus.len
      have hfl := List.length_filterMap_le callOf (till x b.ds)
      rw [List.length_map] at hul
      walk_at "rd"
      have s6G := EG.toSame.seq s6
      refine ⟨dl, rfl, ⟨_, s6G⟩, fun lc hlc => ?_⟩
      have nlc : l ≠ lc := ne_of_none hlG hlc
      refine loop_list (xs := dvs) (fun j σ' G2 => ∃ (o0 : Option V), σ' = [o0, some (.int x)] ∧ Ext [lc] G G2 ∧ G2 lc = some (.lst (((b.ds.take j).map (wrB x)).map V.bl))) ?_ ?_ ?_ ?_
      · exact ⟨none, rfl, .laid hlc, upd_same⟩
      · rintro j σ' G2 hj ⟨o0, rfl, e2, hlc2⟩
        exact (e2.drop hlc).toSame.seq s6G
      · rintro j y σ' G2 R hy ⟨o0, rfl, e2, hlc2⟩ hR
        obtain ⟨dd, hdd, hDy⟩ := s7.get hy
        obtain ⟨d, hd, rfl⟩ := map_get hdd
        have hjl : j < b.ds.length := (List.getElem?_eq_some_iff.mp hd).1
        walk_at "rd"
        refine iteT ?_
        walk_at "rd"
        refine ⟨y, d, x, rfl, hDy.mono (EG.trans (e2.drop hlc)).toSame, fun H3 e3 => ?_⟩
        refine ⟨_, e3 _ _ (by simp) hlc2, small1000 (by rw [List.length_map, List.length_map, List.length_take]; omega), hR _ _ ⟨_, rfl, e2.trans ((e3.mono (by simp)).trans (.put (by simp))), ?_⟩⟩
        rw [upd_same, take_get hd, List.map_append, List.map_append]; rfl
      · rintro σ' G2 ⟨o0, rfl, e2, hlc2⟩
        have hdvl : dvs.length = b.ds.length := by rw [s7.len, List.length_map]
        rw [hdvl, List.take_length] at hlc2
        walk_at "rd"
        refine ⟨lc, b.ds.map (wrB x), rfl, SqL.of hlc2, ?_⟩
        refine ⟨wrote x b.ds, ?_, ?_⟩
        · have e : (b.ds.map (wrB x)).any id = wrote x b.ds := by unfold wrote; rw [List.any_map]; rfl
          rw [e]; rfl
        have EG2 : Ext [] G G2 := e2.drop hlc
        have hl2 := EG2 _ _ (by simp) hlG
        have hus2 := hus.mono EG2.tk
        have hmet : metOf ws x ((n : Int), (a : Int)) = metB x n b := by unfold metOf; rw [hb]
        cases hw : wrote x b.ds with
        | true =>
          refine iteF ?_
          walk_at "rd"
          refine q l us G2 hlH (EG.trans EG2) hl2 ?_
          rw [hmet]
          unfold metB
          rw [hw, if_pos rfl, List.append_nil]
          exact hus2
        | false =>
          refine iteT ?_
          walk_at "rd"
          refine r_tyL hl2 ?_
          walk_at "rd"
          obtain ⟨wd, hwd, _⟩ := endD_is' hbok.ns
          rw [hwd] at s8
          obtain ⟨en, es', rfl, hen, hes⟩ := s8.ofTuple
          obtain ⟨v3, r3, rfl, hd3, hr3⟩ := hes.ofCons
          have e3 := hd3.ofStr
          subst e3
          have e4 := hr3.ints
          subst e4
          have hnf := hbok.ns.few
          refine ⟨1, rfl, ?_⟩
          walk_at "rd"
          refine ⟨en, _, rfl, (EG.trans EG2).toSame.seqT hen, ?_, fun p hp => ?_⟩
          · intro h
            have := h.1
            revert this
            have hn : (V.str wd :: b.ns.map V.int).length = b.ns.length + 1 := by simp
            rw [hn]
            unfold HT.sIx
            simp
            try omega
          rw [cut1]
          have e3 : Ext [] G2 (upd G2 p (.tup (b.ns.map V.int))) := .laid hp
          have hl3 := e3 _ _ (by simp) hl2
          have hus3 := hus2.mono e3.tk
          have hp3 : upd G2 p (.tup (b.ns.map V.int)) p = some (.tup (b.ns.map V.int)) := upd_same
          generalize upd G2 p (.tup (b.ns.map V.int)) = G3 at e3 hl3 hus3 hp3 ⊢
          refine ⟨p, rfl, ⟨_, SqT.of hp3⟩, fun le hle => ?_⟩
          have npl : p ≠ le := ne_of_none hp3 hle
          have nle : l ≠ le := ne_of_none hl3 hle
          refine loop_tup (xs := b.ns.map V.int) (fun j σ' G4 => ∃ (o0 : Option V) (ts : List V), σ' = [o0, some (.int n)] ∧ Ext [le] G3 G4 ∧ G4 le = some (.lst ts) ∧ PlsAt G4 ts ((b.ns.take j).map fun t => ((n : Int), t))) ?_ ?_ ?_ ?_
          · exact ⟨none, [], rfl, .laid hle, upd_same, .nil⟩
          · rintro j σ' G4 hj ⟨o0, ts, rfl, e4, hle4, hts⟩
            exact SqT.of (e4 _ _ (by simpa using npl) hp3)
          · rintro j y σ' G4 R hy ⟨o0, ts, rfl, e4, hle4, hts⟩ hR
            obtain ⟨t, ht, rfl⟩ := map_get hy
            have hj : j < b.ns.length := (List.getElem?_eq_some_iff.mp ht).1
            have htl := hts.len
            rw [List.length_map, List.length_take] at htl
            walk_at "rd"
            refine iteT ?_
            walk_at "rd"
            refine ⟨len2 (by show 2 ≤ 1000; decide), fun p2 hp2 => ?_⟩
            have np2 : p2 ≠ le := (ne_of_none hle4 hp2).symm
            have tk : TK G4 (upd (upd G4 p2 (.tup [.int n, .int t])) le (.lst (ts ++ [.ref p2]))) := (Ext.laid hp2).tk.trans (.put (by intro ys z; rw [upd_ne np2.symm, hle4] at z; cases z))
            refine ⟨ts, by rw [upd_ne np2.symm]; exact hle4, small1000 (by omega), hR _ _ ⟨_, ts ++ [.ref p2], rfl, e4.trans ((Ext.laid hp2).trans (.put (by simp))), upd_same, ?_⟩⟩
            rw [take_get ht, List.map_append]
            exact (hts.mono tk).append (.one (by rw [upd_ne np2, upd_same]))
          · rintro σ' G4 ⟨o0, ts, rfl, e4, hle4, hts⟩
            rw [List.length_map, List.take_length] at hts
            have htl := hts.len
            rw [List.length_map] at htl
            have EG4 := e4.drop hle
            have hl4 := EG4 _ _ (by simp) hl3
            walk_at "rd"
            refine ⟨l, le, us, ts, rfl, rfl, hl4, hle4, len2 (by omega), ?_⟩
            walk_at "rd"
            have tk : TK G4 (upd G4 l (.lst (us ++ ts))) := .put (by intro ys z; rw [hl4] at z; cases z)
            refine q l (us ++ ts) _ hlH ?_ upd_same ?_
            · exact ((((EG.trans EG2).trans (e3.trans EG4)).mono (us := [l]) (by simp)).trans (.put (by simp))).drop hlH
            · rw [hmet]
              unfold metB
              rw [hw, if_neg Bool.false_ne_true]
              exact ((hus3.mono EG4.tk).append hts).mono tk
end
end Fs
set_option maxHeartbeats 1000000
namespace Fs
open PySem L2
section
variable {P : Program} {w : World} {K : PySem.W.Frag} {mg : Str → Option Value} {base : Heap}
noncomputable def placesTo (ws : List (List Blk)) (n : Nat) : List Pl := (List.range n).flatMap fun (n : Nat) => (List.range ((ws[n]?).getD []).length).map fun (a : Nat) => ((n : Int), (a : Int))
theorem placesTo_succ {ws : List (List Blk)} {n : Nat} {w : List Blk} (h : ws[n]? = some w) : placesTo ws (n + 1) = placesTo ws n ++ (List.range w.length).map fun (a : Nat) => ((n : Int), (a : Int)) := by
  unfold placesTo
  rw [List.range_succ, List.flatMap_append]
  simp [h]
theorem row_succ (n a : Nat) : ((List.range (a + 1)).map fun (a : Nat) => ((n : Int), (a : Int))) = ((List.range a).map fun (a : Nat) => ((n : Int), (a : Int))) ++ [((n : Int), (a : Int))] := by
  rw [List.range_succ, List.map_append]; rfl
theorem r_seqC {t u : TS} {D : Ends} {σ : St} {H : Hp} (C : St → Hp → Prop) (h2 : ∀ σ' H', C σ' H' → u D σ' H') (h1 : (∀ σ' H', C σ' H' → u D σ' H') → t { D with nx := u D } σ H) : tSeq t u D σ H := h1 h2
theorem r_ds2 {td ty tx : TE} {σ : St} {H : Hp} {Q : VK} (h : td σ H fun x H1 => ∃ a, x = .ref a ∧ IsD H1 a ∧ ty σ H1 fun y H2 => tx σ H2 fun z H3 => ∃ kvs k b, y = .ref b ∧ H3 a = some (.dT kvs) ∧ H3 b = some (.tup (k.map kV)) ∧ kvs.length < sizeLine ∧
  (∀ v, valV kvs k = some v → Q v H3) ∧ (valV kvs k = none → Q z (upd H3 a (.dT (putK kvs k z))))) : tDSet2 td ty tx σ H Q := h
theorem dn_nodup (ws : List (List Blk)) (n a : Nat) (hn : n < ws.length) : (placesTo ws n ++ (List.range a).map fun (a : Nat) => ((n : Int), (a : Int))).Nodup := by
  have row : ∀ (k l : Nat), ((List.range l).map fun (a : Nat) => ((k : Int), (a : Int))).Nodup := fun k l => List.Pairwise.map _ (fun x y h z => h (by have := (Prod.mk.inj z).2; omega)) List.nodup_range
  have fst : ∀ (k : Nat) (p : Pl), p ∈ placesTo ws k → p.1 < (k : Int) := fun k p hp => by
    obtain ⟨j, hj, h⟩ := List.mem_flatMap.mp hp
    obtain ⟨b, _, rfl⟩ := List.mem_map.mp h
    have := List.mem_range.mp hj
    show (j : Int) < k
    omega
  have all : ∀ k : Nat, (placesTo ws k).Nodup := by
    intro k
    induction k with
    | zero => exact List.nodup_nil
    | succ k ih =>
      unfold placesTo at ih ⊢
      rw [List.range_succ, List.flatMap_append, List.nodup_append]
      refine ⟨ih, by simpa using row k _, fun x hx y hy e => ?_⟩
      have h1 := fst k x hx
      simp only [List.flatMap_cons, List.flatMap_nil, List.append_nil] at hy
      obtain ⟨b, _, rfl⟩ := List.mem_map.mp hy
      rw [e] at h1
      have h1 : (k : Int) < k := h1
      omega
  rw [List.nodup_append]
  refine ⟨all n, row n a, fun x hx y hy e => ?_⟩
  have h1 := fst n x hx
  obtain ⟨b, _, rfl⟩ := List.mem_map.mp hy
  rw [e] at h1
  have h1 : (n : Int) < n := h1
  omega
noncomputable abbrev sAwait : Stmt := top 12
theorem scAwait : FnScope ["works", "box", "readers", "behind", "number", "work", "at", "deeds", "end", "place"] ["works", "box"] (defScope sAwait) := ⟨rfl, rfl, rfl, by decide +kernel, rfl, by decide +kernel, by decide +kernel⟩
theorem ok_await {f : Addr} {fd : FuncData} (F : Fun K "awaiting" "awaiting" sAwait f fd) (nenum : mg "enumerate" = none) (nany : mg "any" = none) (hTw : Has P w K mg base "till_write" 2 ["deeds", "box"] (spTill K)) (hRd : Has P w K mg base "reads_box" 1 ["deed", "box"] (spDeedB rdB K))
    (hBg : Has P w K mg base "begins_met" 3 ["works", "number", "at", "box"] (spBegins K)) (hLd : Has P w K mg base "led_to" 1 ["starts", "nexts"] (spLed2 K)) : FnOk P w K mg base CX0 4 f fd ["works", "box"] (spAwait K) := by
  refine F.ok scAwait (fun vs H Q E h => ?_) (fun cdv A outer s H vs Q E hr h => ?_)
  · obtain ⟨wa, ws, x, rfl, _⟩ := h
    rfl
  · obtain ⟨wa, ws, x, rfl, hW, hok, q⟩ := h
    have hu := hu_of hr
    refine ⟨_, pss_cons (ps_set (i := 2) scAwait.nd rfl (Or.inl rfl) (pe_lst pa_nil))
      (pss_cons (ps_set (i := 3) scAwait.nd rfl (Or.inl rfl) pe_dnewT)
      (pss_cons (ps_for PassesOwn.never rfl (pi_enum rfl nenum (pa_cons (pv 0) pa_nil)) (pg_tup (n := 2) rfl (pgs_cons (pg_name (i := 4) scAwait.nd rfl (Or.inl rfl)) (pgs_cons (pg_name (i := 5) scAwait.nd rfl (Or.inl rfl)) pgs_nil)))
        (pss_one (ps_for PassesOwn.never rfl (pi_enum rfl nenum (pa_cons (pv 5) pa_nil)) (pg_tup (n := 2) rfl (pgs_cons (pg_name (i := 6) scAwait.nd rfl (Or.inl rfl)) (pgs_cons (pg_tup (n := 2) rfl (pgs_cons (pg_name (i := 7) scAwait.nd rfl (Or.inl rfl)) (pgs_cons (pg_name (i := 8) scAwait.nd rfl (Or.inl rfl)) pgs_nil))) pgs_nil)))
          (pss_cons (ps_if (pt_truthK K rfl (pe_callB (call_anyB hr.hd) (by rfl) nany PyProof.Rows.boot_any (pa_cons (pe_lc ["deed"] [1] rfl (.of rfl) (pi_list (pe_fn hTw hr (by decide) (pa_cons (pv 7) (pa_cons (pv 1) pa_nil)))) (fun _ _ _ _ => pg_name (i := 0) (by show ((["deed", "box"] : List Str)).Nodup; decide) rfl (Or.inl rfl)) (fun _ _ _ _ => .nil) (fun _ _ _ _ => pe_fn hRd hr (by decide) (pa_cons (pv 0) (pa_cons (pv 1) pa_nil)))) pa_nil)) (fun _ => rfl))
            (pss_one (ps_expr (pe_bm PySem.F.plainAttrs_list PySem.F.slot_list_append PySem.F.type_list_append mt_append (pv 2) (pa_cons (pe_tup (pa_cons (pv 4) (pa_cons (pv 6) pa_nil))) pa_nil)))) pss_nil)
          (pss_one (ps_for PassesOwn.never rfl (pi_list (pe_fn hBg hr (by decide) (pa_cons (pv 0) (pa_cons (pv 4) (pa_cons (pv 6) (pa_cons (pv 1) pa_nil)))))) (pg_name (i := 9) scAwait.nd rfl (Or.inl rfl))
            (pss_one (ps_expr (pe_bm PySem.F.plainAttrs_list PySem.F.slot_list_append PySem.F.type_list_append mt_append (pe_dset2 hu (pv 3) (pv 9) (pe_lst pa_nil) ⟨rfl, rfl, rfl, rfl⟩) (pa_cons (pe_tup (pa_cons (pv 4) (pa_cons (pv 6) pa_nil))) pa_nil))))))))))
      (pss_one (ps_ret (pe_fn hLd hr (by decide) (pa_cons (pv 2) (pa_cons (pv 3) pa_nil))))))), ?_⟩
    dsimp only [nox_K, comp_K]
    walk_at "rd"
    refine ⟨len2 (Nat.zero_le _), fun rd hrd => ?_⟩
    walk_at "rd"
    refine (show ∀ p, _ = none → _ from fun nd hnd => ?_)
    walk_at "rd"
    have nrn : rd ≠ nd := ne_of_none upd_same hnd
    have hndH : H nd = none := by rw [upd_ne nrn.symm] at hnd; exact hnd
    have E1 : Ext [] H (upd (upd H rd (.lst [])) nd (.dT [])) := (Ext.laid hrd).trans (.laid hnd)
    have rd1 : upd (upd H rd (.lst [])) nd (.dT []) rd = some (.lst []) := by rw [upd_ne nrn, upd_same]
    have nd1 : upd (upd H rd (.lst [])) nd (.dT []) nd = some (.dT []) := upd_same
    generalize upd (upd H rd (.lst [])) nd (.dT []) = H1 at E1 rd1 nd1 ⊢
    obtain ⟨wa', vs, ea, hSq, hDL⟩ := hW.ofList
    cases ea
    have hvl : vs.length = ws.length := by rw [hDL.len, List.length_map]
    have pfew := places_len hok
    have extH : ∀ {G : Hp}, Ext [rd, nd] H1 G → Ext [] H G := fun {G} e => (((E1.mono (us := [rd, nd]) (by simp)).trans e).drop hrd).drop hndH
    refine ⟨wa, rfl, ⟨vs, E1.toSame.seq hSq⟩, for_enumN (xs := vs) (fun n σ' G => ∃ (rvs : List V) (o4 o5 o6 o7 o8 o9 : Option V), σ' = [some (.ref wa), some (.int x), some (.ref rd), some (.ref nd), o4, o5, o6, o7, o8, o9] ∧ Ext [rd, nd] H1 G ∧ G rd = some (.lst rvs) ∧ PlsAt G rvs ((placesTo ws n).filter (readAt ws x)) ∧
      NexB G nd (behindOf ws x (placesTo ws n)) (fun c => H1 c = none) (22 * (placesTo ws n).length)) ?_ ?_ ?_ ?_⟩
    · refine ⟨[], _, _, _, _, _, _, rfl, .refl _ _, rd1, .nil, [], nd1, Nat.zero_le _, fun p => .inl ⟨rfl, rfl⟩, fun p q c h => ?_⟩
      cases h
    · rintro n σ' G hn ⟨rvs, o4, o5, o6, o7, o8, o9, rfl, eG, hrG, hrp, hN⟩
      exact (extH eG).toSame.seq hSq
    · rintro n y σ' G pt hy ⟨rvs, o4, o5, o6, o7, o8, o9, rfl, eG, hrG, hrp, hN⟩ hpt N_ B_ C_ R_ hN_ hC_ hR_
      obtain ⟨dd, hdd, hDy⟩ := hDL.get hy
      obtain ⟨wk, hwk, rfl⟩ := map_get hdd
      obtain ⟨wb, bs, rfl, hbs, hdbs⟩ := hDy.ofList
      have hbl : bs.length = wk.length := by rw [hdbs.len, List.length_map]
      obtain ⟨m, hm1, hm2, hWk⟩ := hok.all wk (List.mem_of_getElem? hwk)
      have hwm := hWk.len
      have hsub : ∀ p ∈ placesTo ws n, p ∈ places ws := fun p hp => by
        unfold placesTo at hp; unfold places
        obtain ⟨k, hk, h⟩ := List.mem_flatMap.mp hp
        have hnl : n < ws.length := (List.getElem?_eq_some_iff.mp hwk).1
        exact List.mem_flatMap.mpr ⟨k, List.mem_range.mpr (by have := List.mem_range.mp hk; omega), h⟩
      have e2 : Ext [] G (upd G pt (.tup [.int n, .ref wb])) := .laid hpt
      refine r_gtup (SqT.of upd_same) rfl ?_
      have eG2 : Ext [rd, nd] H1 (upd G pt (.tup [.int n, .ref wb])) := eG.trans (e2.mono (by simp))
      have hr2 := e2 _ _ (by simp) hrG
      have hrp2 := hrp.mono e2.tk
      have hN2 := hN.mono e2 (by simp) (by simp) e2.tk
      generalize upd G pt (.tup [.int n, .ref wb]) = G2 at e2 eG2 hr2 hrp2 hN2 ⊢
      walk_at "rd"
      refine ⟨wb, rfl, ⟨bs, (extH eG2).toSame.seq hbs⟩, for_enumN (xs := bs) (fun a σ' G' => ∃ (rvs : List V) (o6 o7 o8 o9 : Option V), σ' = [some (.ref wa), some (.int x), some (.ref rd), some (.ref nd), some (.int n), some (.ref wb), o6, o7, o8, o9] ∧ Ext [rd, nd] H1 G' ∧ G' rd = some (.lst rvs) ∧ PlsAt G' rvs ((placesTo ws n ++ (List.range a).map fun (a : Nat) => ((n : Int), (a : Int))).filter (readAt ws x)) ∧
        NexB G' nd (behindOf ws x (placesTo ws n ++ (List.range a).map fun (a : Nat) => ((n : Int), (a : Int)))) (fun c => H1 c = none) (22 * (placesTo ws n ++ (List.range a).map fun (a : Nat) => ((n : Int), (a : Int))).length)) ?_ ?_ ?_ ?_⟩
      · refine ⟨rvs, _, _, _, _, rfl, eG2, hr2, ?_, ?_⟩
        · simpa using hrp2
        · simpa using hN2
      · rintro a σ' G' ha ⟨rvs, o6, o7, o8, o9, rfl, e', hr', hrp', hN'⟩
        exact (extH e').toSame.seq hbs
      · rintro a v σ' G' pt2 hv ⟨rvs, o6, o7, o8, o9, rfl, e', hr', hrp', hN'⟩ hpt2 N_ B_ C_ R_ hN_ hC_ hR_
        obtain ⟨dd, hdd, hDv⟩ := hdbs.get hv
        obtain ⟨b, hb, rfl⟩ := map_get hdd
        have hbok := hWk.blk b (List.mem_of_getElem? hb)
        obtain ⟨pb, cs, rfl, hc, hcs⟩ := hDv.ofTuple
        obtain ⟨vd, q1, rfl, hdd1, hr1⟩ := hcs.ofCons
        obtain ⟨ve, q2, rfl, hde, hr2'⟩ := hr1.ofCons
        have hr2' := hr2'.ofNil
        subst hr2'
        have hblk : blkAt ws ((n : Int), (a : Int)) = some b := by rw [blkAt_nat, hwk]; exact hb
        have hpl : ((n : Int), (a : Int)) ∈ places ws := mem_places.mpr ⟨b, hblk⟩
        generalize hdn : (placesTo ws n ++ (List.range a).map fun (a : Nat) => ((n : Int), (a : Int))) = dn at hrp' hN'
        have hsub2 : ∀ p ∈ dn, p ∈ places ws := fun p hp => by
          rw [← hdn] at hp
          rcases List.mem_append.mp hp with z | z
          · exact hsub p z
          · obtain ⟨a', ha', rfl⟩ := List.mem_map.mp z
            have ha1 : a < wk.length := (List.getElem?_eq_some_iff.mp hb).1
            have ha2 := List.mem_range.mp ha'
            exact mem_places.mpr ⟨wk[a'], by rw [blkAt_nat, hwk]; exact List.getElem?_eq_getElem (by omega)⟩
        have hrl := hrp'.len
        have e3 : Ext [] G' (upd G' pt2 (.tup [.int a, .ref pb])) := .laid hpt2
        refine r_gtup (SqT.of upd_same) rfl ?_
        have e3' : Ext [rd, nd] H1 (upd G' pt2 (.tup [.int a, .ref pb])) := e'.trans (e3.mono (by simp))
        have hr3 := e3 _ _ (by simp) hr'
        have hrp3 := hrp'.mono e3.tk
        have hN3 := hN'.mono e3 (by simp) (by simp) e3.tk
        generalize upd G' pt2 (.tup [.int a, .ref pb]) = G3 at e3 e3' hr3 hrp3 hN3 ⊢
        walk_at "rd"
        refine r_gtup ((extH e3').toSame.seqT hc) rfl ?_
        with_reducible refine L2.r_gcons ?_
        with_reducible refine L2.r_gn ?_
        with_reducible refine L2.r_gcons ?_
        with_reducible refine L2.r_gn ?_
        with_reducible refine L2.r_gnil ?_
        with_reducible refine L2.r_gnil ?_
        have hfin : placesTo ws n ++ (List.range (a + 1)).map (fun (a : Nat) => ((n : Int), (a : Int))) = dn ++ [((n : Int), (a : Int))] := by rw [row_succ, ← List.append_assoc, hdn]
        have hdl : dn.length ≤ 300 := by
          have := nodup_le (l1 := dn) (l2 := places ws) (by rw [← hdn]; exact dn_nodup ws n a (List.getElem?_eq_some_iff.mp hwk).1) hsub2
          omega
        with_reducible refine r_seqC (fun σ' G => ∃ (rvs : List V), σ' = [some (.ref wa), some (.int x), some (.ref rd), some (.ref nd), some (.int n), some (.ref wb), some (.int a), some vd, some ve, o9] ∧ Ext [rd, nd] H1 G ∧ G rd = some (.lst rvs) ∧ PlsAt G rvs ((dn ++ [((n : Int), (a : Int))]).filter (readAt ws x)) ∧ NexB G nd (behindOf ws x dn) (fun c => H1 c = none) (22 * dn.length)) ?_ (fun hC => ?_)
        · rintro σ' G4 ⟨rvs, rfl, e4, hr4, hrp4, hN4⟩
          walk_at "rd"
          refine ⟨wa, ws, n, a, x, rfl, hW.mono (extH e4).toSame, hok, hpl, fun lm us H5 hlm e5 hlm5 hus => ?_⟩
          have e45 : Ext [rd, nd] H1 H5 := e4.trans (e5.mono (by simp))
          have hml := met_len hok x ((n : Int), (a : Int))
          have hul := hus.len
          refine ⟨lm, rfl, ⟨_, SqL.of hlm5⟩, for_listN (xs := us) (fun j σ' G => ∃ (o9 : Option V), σ' = [some (.ref wa), some (.int x), some (.ref rd), some (.ref nd), some (.int n), some (.ref wb), some (.int a), some vd, some ve, o9] ∧ Ext [rd, nd] H1 G ∧ G lm = some (.lst us) ∧ PlsAt G us (metOf ws x ((n : Int), (a : Int))) ∧ G rd = some (.lst rvs) ∧ PlsAt G rvs ((dn ++ [((n : Int), (a : Int))]).filter (readAt ws x)) ∧
            NexB G nd (behindUp ws x dn ((n : Int), (a : Int)) ((metOf ws x ((n : Int), (a : Int))).take j)) (fun c => H1 c = none ∧ c ≠ lm) (22 * dn.length + j)) ?_ ?_ ?_ ?_⟩
          · refine ⟨_, rfl, e45, hlm5, hus, e5 _ _ (by simp) hr4, hrp4.mono e5.tk, ?_⟩
            rw [List.take_zero, behindUp_nil]
            obtain ⟨kvs, z⟩ := hN4
            refine ⟨kvs, e5 _ _ (by simp) z.at_, z.few, fun p => ?_, z.one⟩
            rcases z.all p with y | ⟨c, vs, h1, h2, h3, h4⟩
            · exact .inl y
            · exact .inr ⟨c, vs, h1, ⟨h2, ne_of_none h3 hlm⟩, e5 _ _ (by simp) h3, h4.mono e5.tk⟩
          · rintro j σ' G hj ⟨o9, rfl, e6, hlm6, hus6, hr6, hrp6, hN6⟩
            exact SqL.of hlm6
          · rintro j v σ' G hv ⟨o9, rfl, e6, hlm6, hus6, hr6, hrp6, kvs, hN6⟩ N_ B_ C_ R_ hN_ hC_ hR_
            obtain ⟨r, hr, rb, rfl, hrb⟩ := hus6.get hv
            have hjl : j < (metOf ws x ((n : Int), (a : Int))).length := (List.getElem?_eq_some_iff.mp hr).1
            have hkf := hN6.few
            walk_at "rd"
            refine r_ds2 ?_
            walk_at "rd"
            refine ⟨nd, rfl, .inr ⟨kvs, .inl hN6.at_⟩, ?_⟩
            walk_at "rd"
            refine ⟨len2 (Nat.zero_le _), fun e0 he0 => ?_⟩
            have e7 : Ext [] G (upd G e0 (.lst [])) := .laid he0
            have hN7 := hN6.mono e7 (by simp) (by simp) e7.tk
            have he07 : upd G e0 (.lst []) e0 = some (.lst []) := upd_same
            have he0H1 : H1 e0 = none := by
              by_cases z1 : e0 = rd
              · rw [z1, hr6] at he0; cases he0
              · by_cases z2 : e0 = nd
                · rw [z2, hN6.at_] at he0; cases he0
                · exact e6.none (by simp [z1, z2]) he0
            have he0lm : e0 ≠ lm := (ne_of_none hlm6 he0).symm
            have hlm7 := e7 _ _ (by simp) hlm6
            have hr7 := e7 _ _ (by simp) hr6
            have hus7 := hus6.mono e7.tk
            have hrp7 := hrp6.mono e7.tk
            have e67 : Ext [rd, nd] H1 (upd G e0 (.lst [])) := e6.trans (e7.mono (by simp))
            have hrb7 := e7.tk _ _ hrb
            have hfr : ∀ (p : Pl) (c : Addr), valV kvs (plK p) = some (.ref c) → c ≠ e0 := fun p c hc => by
              rcases hN6.all p with z | ⟨c', vs', h1, _, h3, _⟩
              · rw [z.1] at hc; cases hc
              · rw [h1] at hc; cases hc; exact ne_of_none h3 he0
            generalize upd G e0 (.lst []) = G7 at e7 hN7 he07 hlm7 hr7 hus7 hrp7 e67 hrb7 ⊢
            have put : ∀ (G8 : Hp) (kv : List (List Key × V)) (c : Addr) (cvs : List V), NexK G8 nd (behindUp ws x dn ((n : Int), (a : Int)) ((metOf ws x ((n : Int), (a : Int))).take j)) (fun c => H1 c = none ∧ c ≠ lm) (22 * dn.length + j + 1) kv → valV kv (plK r) = some (.ref c) → G8 c = some (.lst cvs) → PlsAt G8 cvs (behindUp ws x dn ((n : Int), (a : Int)) ((metOf ws x ((n : Int), (a : Int))).take j) r) → Ext [rd, nd] H1 G8 → G8 lm = some (.lst us) → PlsAt G8 us (metOf ws x ((n : Int), (a : Int))) → G8 rd = some (.lst rvs) → PlsAt G8 rvs ((dn ++ [((n : Int), (a : Int))]).filter (readAt ws x)) →
                ∀ (pt : Addr), G8 pt = none → ∀ o9 : Option V, cvs.length < 100000 ∧ (∃ (o9' : Option V), [some (V.ref wa), some (.int x), some (.ref rd), some (.ref nd), some (.int n), some (.ref wb), some (.int a), some vd, some ve, o9] = [some (V.ref wa), some (.int x), some (.ref rd), some (.ref nd), some (.int n), some (.ref wb), some (.int a), some vd, some ve, o9'] ∧ Ext [rd, nd] H1 (upd (upd G8 pt (.tup [.int n, .int a])) c (.lst (cvs ++ [.ref pt]))) ∧ (upd (upd G8 pt (.tup [.int n, .int a])) c (.lst (cvs ++ [.ref pt]))) lm = some (.lst us) ∧ PlsAt (upd (upd G8 pt (.tup [.int n, .int a])) c (.lst (cvs ++ [.ref pt]))) us (metOf ws x ((n : Int), (a : Int))) ∧ (upd (upd G8 pt (.tup [.int n, .int a])) c (.lst (cvs ++ [.ref pt]))) rd = some (.lst rvs) ∧ PlsAt (upd (upd G8 pt (.tup [.int n, .int a])) c (.lst (cvs ++ [.ref pt]))) rvs ((dn ++ [((n : Int), (a : Int))]).filter (readAt ws x)) ∧
                  NexB (upd (upd G8 pt (.tup [.int n, .int a])) c (.lst (cvs ++ [.ref pt]))) nd (behindUp ws x dn ((n : Int), (a : Int)) ((metOf ws x ((n : Int), (a : Int))).take (j + 1))) (fun c => H1 c = none ∧ c ≠ lm) (22 * dn.length + (j + 1))) := by
              intro G8 kv c cvs hK hc hcv hcp e8 hlm8 hus8 hr8 hrp8 pt hpt o9
              have e9 : Ext [] G8 (upd G8 pt (.tup [.int n, .int a])) := .laid hpt
              have hK9 := hK.mono e9 (by simp) (by simp) e9.tk
              have hc9 := e9 _ _ (by simp) hcv
              have hK10 := hK9.app (p := ((n : Int), (a : Int))) (pt := pt) hc hc9 (hcp.mono e9.tk) upd_same
              have hcok : H1 c = none ∧ c ≠ lm := by
                rcases hK.all r with z | ⟨c', _, h1, h2, _⟩
                · rw [z.1] at hc; cases hc
                · rw [h1] at hc; cases hc; exact h2
              have tk : TK G8 (upd (upd G8 pt (.tup [.int n, .int a])) c (.lst (cvs ++ [.ref pt]))) := e9.tk.trans (.put (by intro ys z; rw [hc9] at z; cases z))
              have nrc : rd ≠ c := fun z => by rw [← z, rd1] at hcok; cases hcok.1
              have hcl := hcp.len
              have hbl2 : (behindUp ws x dn ((n : Int), (a : Int)) ((metOf ws x ((n : Int), (a : Int))).take j) r).length ≤ 22 * dn.length + 22 := by
                unfold behindUp
                rw [List.length_append, List.length_map]
                have h1 := behind_len hok x r dn
                have h2 := List.length_filter_le (fun y => decide (y = r)) ((metOf ws x ((n : Int), (a : Int))).take j)
                rw [List.length_take] at h2
                omega
              refine ⟨by omega, o9, rfl, ?_, ?_, hus8.mono tk, ?_, hrp8.mono tk, ?_⟩
              · exact ((e8.trans (e9.mono (by simp))).mono (us := [c, rd, nd]) (by simp)).trans (.put (by simp)) |>.drop hcok.1
              · rw [upd_ne hcok.2.symm]; exact e9 _ _ (by simp) hlm8
              · rw [upd_ne nrc]; exact e9 _ _ (by simp) hr8
              · rw [take_get hr, behindUp_snoc]; exact ⟨kv, hK10⟩
            refine ⟨kvs, plK r, rb, rfl, hN7.at_, hrb7, small3 (by omega), fun v hv => ?_, fun hv => ?_⟩
            · rcases hN7.all r with z | ⟨c, cvs, h1, h2, h3, h4⟩
              · rw [z.1] at hv; cases hv
              · rw [h1] at hv; cases hv
                refine r_tyL h3 ?_
                walk_at "rd"
                refine ⟨len2 (by show 2 ≤ 1000; decide), fun pt hpt => ?_⟩
                obtain ⟨hlt, post⟩ := put G7 kvs c cvs ⟨hN7.at_, by have := hN7.few; omega, hN7.all, hN7.one⟩ h1 h3 h4 e67 hlm7 hus7 hr7 hrp7 pt hpt _
                walk_at "rd"
                exact r_app (Ext.laid (ts := []) hpt _ _ (by simp) h3) (small3 (by omega)) (hN_ _ _ post)
            · have hK8 := hN7.new hv he07 ⟨he0H1, he0lm⟩ hfr
              have n0d : e0 ≠ nd := ne_of he07 hN7.at_ (by intro z; cases z)
              have tk8 : TK G7 (upd G7 nd (.dT (putK kvs (plK r) (.ref e0)))) := .put (by intro ys z; rw [hN7.at_] at z; cases z)
              have h08 : upd G7 nd (.dT (putK kvs (plK r) (.ref e0))) e0 = some (.lst []) := by rw [upd_ne n0d]; exact he07
              have hN0 : behindUp ws x dn ((n : Int), (a : Int)) ((metOf ws x ((n : Int), (a : Int))).take j) r = [] := by
                rcases hN7.all r with z | ⟨c, cvs, h1, _⟩
                · exact z.2
                · rw [h1] at hv; cases hv
              have nlm : lm ≠ nd := ne_of hlm7 hN7.at_ (by intro z; cases z)
              refine r_tyL h08 ?_
              walk_at "rd"
              refine ⟨len2 (by show 2 ≤ 1000; decide), fun pt hpt => ?_⟩
              obtain ⟨hlt, post⟩ := put _ _ e0 [] hK8 (by rw [valV_put, if_pos rfl]) h08 (by rw [hN0]; exact .nil) (e67.trans (.put (by simp))) (by rw [upd_ne nlm]; exact hlm7) (hus7.mono tk8) (by rw [upd_ne nrn]; exact hr7) (hrp7.mono tk8) pt hpt _
              walk_at "rd"
              exact r_app (xs := []) (Ext.laid (ts := []) hpt _ _ (by simp) h08) (small3 (by simp)) (hN_ _ _ post)
          · rintro σ' G ⟨o9, rfl, e6, hlm6, hus6, hr6, hrp6, hN6⟩
            rw [hul, List.take_length, behindOf_snoc] at hN6
            refine L2.go_nx hN_ ?_
            refine ⟨rvs, _, _, _, _, rfl, e6, hr6, ?_, ?_⟩
            · rw [hfin]; exact hrp6
            · rw [hfin]
              obtain ⟨kvs, z⟩ := hN6
              refine ⟨kvs, z.at_, ?_, fun p => ?_, z.one⟩
              · have := z.few; rw [List.length_append, List.length_singleton]; omega
              · rcases z.all p with y | ⟨c, vs, h1, h2, h3, h4⟩
                · exact .inl y
                · exact .inr ⟨c, vs, h1, h2.1, h3, h4⟩
        · have hra : readAt ws x ((n : Int), (a : Int)) = readB x b := by unfold readAt; rw [hblk]
          have hds := hbok.few
          have htl2 := till_len x b.ds
          walk_at "rd"
          refine ⟨vd, b.ds, x, rfl, hdd1.mono (extH e3').toSame, by omega, fun lt tvs H4 hlt e4 hlt4 hden4 => ?_⟩
          have htl : tvs.length = (till x b.ds).length := by rw [hden4.len, List.length_map]
          refine ⟨lt, rfl, ⟨_, SqL.of hlt4⟩, fun lc hlc => ?_⟩
          have nlc : lt ≠ lc := ne_of_none hlt4 hlc
          refine loop_list (xs := tvs) (fun j σ' G => ∃ (o0 : Option V), σ' = [o0, some (.int x)] ∧ Ext [lc] H4 G ∧ G lc = some (.lst ((((till x b.ds).take j).map (rdB x)).map V.bl))) ?_ ?_ ?_ ?_
          · exact ⟨none, rfl, .laid hlc, upd_same⟩
          · rintro j σ' G hj ⟨o0, rfl, e5, hlc5⟩
            exact SqL.of (e5 _ _ (by simpa using nlc) hlt4)
          · rintro j y σ' G R hy ⟨o0, rfl, e5, hlc5⟩ hR
            obtain ⟨dd, hdd, hDy⟩ := hden4.get hy
            obtain ⟨d, hd, rfl⟩ := map_get hdd
            have hjl : j < (till x b.ds).length := (List.getElem?_eq_some_iff.mp hd).1
            walk_at "rd"
            refine iteT ?_
            walk_at "rd"
            refine ⟨y, d, x, rfl, hDy.mono (e5.drop hlc).toSame, fun H6 e6 => ?_⟩
            refine ⟨_, e6 _ _ (by simp) hlc5, small1000 (by rw [List.length_map, List.length_map, List.length_take]; omega), hR _ _ ⟨_, rfl, e5.trans ((e6.mono (by simp)).trans (.put (by simp))), ?_⟩⟩
            rw [upd_same, take_get hd, List.map_append, List.map_append]; rfl
          · rintro σ' G ⟨o0, rfl, e5, hlc5⟩
            rw [htl, List.take_length] at hlc5
            have e35 : Ext [] G3 G := e4.trans (e5.drop hlc)
            have hr5 := e35 _ _ (by simp) hr3
            have hrp5 := hrp3.mono e35.tk
            have hN5 := hN3.mono e35 (by simp) (by simp) e35.tk
            have e5' : Ext [rd, nd] H1 G := e3'.trans (e35.mono (by simp))
            have hfl := List.length_filter_le (readAt ws x) dn
            walk_at "rd"
            refine ⟨lc, (till x b.ds).map (rdB x), rfl, SqL.of hlc5, ?_⟩
            refine ⟨readB x b, ?_, ?_⟩
            · have e : ((till x b.ds).map (rdB x)).any id = readB x b := by unfold readB; rw [List.any_map]; rfl
              rw [e]; rfl
            cases hw : readB x b with
            | true =>
              refine iteT ?_
              walk_at "rd"
              refine r_tyL hr5 ?_
              walk_at "rd"
              refine ⟨len2 (by show 2 ≤ 1000; decide), fun p2 hp2 => ?_⟩
              have np2 : p2 ≠ rd := (ne_of_none hr5 hp2).symm
              with_reducible refine L2.r_nil ?_
              refine r_app (xs := rvs) (by rw [upd_ne np2.symm]; exact hr5) (small1000 (by omega)) ?_
              have tk : TK G (upd (upd G p2 (.tup [.int n, .int a])) rd (.lst (rvs ++ [.ref p2]))) := (Ext.laid hp2).tk.trans (.put (by intro ys z; rw [upd_ne np2.symm, hr5] at z; cases z))
              have e6 : Ext [rd] G (upd (upd G p2 (.tup [.int n, .int a])) rd (.lst (rvs ++ [.ref p2]))) := (Ext.laid hp2).trans (.put (by simp))
              have hnot : ∀ z ∈ [rd], ¬ H1 z = none := fun z hz y => by
                have e : z = rd := by simpa using hz
                rw [e, rd1] at y; cases y
              refine hC _ _ ⟨rvs ++ [.ref p2], rfl, e5'.trans (e6.mono (by simp)), upd_same, ?_, hN5.mono e6 (by simpa using nrn.symm) hnot tk⟩
              rw [List.filter_append, List.filter_cons, if_pos (by rw [hra, hw]), List.filter_nil]
              exact (hrp5.mono tk).append (.one (by rw [upd_ne np2, upd_same]))
            | false =>
              refine iteF ?_
              with_reducible refine L2.r_next ?_
              refine hC _ _ ⟨rvs, rfl, e5', hr5, ?_, hN5⟩
              rw [List.filter_append, List.filter_cons, if_neg (by rw [hra, hw]; exact Bool.false_ne_true), List.filter_nil, List.append_nil]
              exact hrp5
      · rintro σ' G' ⟨rvs, o6, o7, o8, o9, rfl, e', hr', hrp', hN'⟩
        rw [hbl] at hrp' hN'
        rw [← placesTo_succ hwk] at hrp' hN'
        walk_at "rd"
        exact ⟨rvs, _, _, _, _, _, _, rfl, e', hr', hrp', hN'⟩
    · rintro σ' G ⟨rvs, o4, o5, o6, o7, o8, o9, rfl, eG, hrG, hrp, hN⟩
      rw [hvl] at hrp hN
      have hrp : PlsAt G rvs ((places ws).filter (readAt ws x)) := hrp
      have hN : NexB G nd (behindOf ws x (places ws)) (fun c => H1 c = none) (22 * (places ws).length) := hN
      have hfl := List.length_filter_le (readAt ws x) (places ws)
      walk_at "rd"
      refine .inr ⟨rd, nd, rvs, (places ws).filter (readAt ws x), places ws, behindOf ws x (places ws), rfl, SqL.of hrG, hrp, hN.toT, fun p hp => (List.mem_filter.mp hp).1, fun p hp z hz => (mem_behind.mp hz).1, fun p => by have := behind_len hok x p (places ws); omega, by omega, by omega, fun d ks H' hd e5 hd5 hnod hks => ?_⟩
      exact q d ks H' ((extH eG).none (by simp) hd) ((extH eG).trans e5) hd5 hnod fun p => by rw [hks, asks_back]
end
end Fs
set_option maxHeartbeats 1000000
namespace Fs
open PySem L2
section
variable {P : Program} {w : World} {K : PySem.W.Frag} {mg : Str → Option Value} {base : Heap}
noncomputable abbrev sLReads : Stmt := top 29
theorem scLReads : FnScope ["_law_deed", "_law_box"] ["_law_deed", "_law_box"] (defScope sLReads) := ⟨rfl, rfl, rfl, by decide +kernel, rfl, by decide +kernel, by decide +kernel⟩
noncomputable def isAdd : Deed → Bool
  | .add _ _ => true
  | _ => false
noncomputable def isTell : Deed → Bool
  | .tell _ => true
  | _ => false
theorem word_add (d : Deed) : decide (dword d = "add") = isAdd d := by
  cases d with
  | add _ _ => exact decide_eq_true rfl
  | set _ _ => exact decide_eq_false (show ¬ ("set" : Str) = "add" by decide)
  | call _ => exact decide_eq_false (show ¬ ("call" : Str) = "add" by decide)
  | tell _ => exact decide_eq_false (show ¬ ("tell" : Str) = "add" by decide)
  | save _ => exact decide_eq_false (show ¬ ("save" : Str) = "add" by decide)
  | back _ => exact decide_eq_false (show ¬ ("back" : Str) = "add" by decide)
theorem word_tell (d : Deed) : decide (dword d = "tell") = isTell d := by
  cases d with
  | tell _ => exact decide_eq_true rfl
  | set _ _ => exact decide_eq_false (show ¬ ("set" : Str) = "tell" by decide)
  | call _ => exact decide_eq_false (show ¬ ("call" : Str) = "tell" by decide)
  | add _ _ => exact decide_eq_false (show ¬ ("add" : Str) = "tell" by decide)
  | save _ => exact decide_eq_false (show ¬ ("save" : Str) = "tell" by decide)
  | back _ => exact decide_eq_false (show ¬ ("back" : Str) = "tell" by decide)
theorem law_rd (x : Int) (d : Deed) : rdB x d = (isAdd d && decide (x ∈ dargs d) || (isTell d && decide (darg d = x))) := by
  cases d with
  | tell b =>
    show (true && decide (x ∈ [b])) = (false && _ || (true && decide (b = x)))
    rw [Bool.true_and, Bool.false_and, Bool.false_or, Bool.true_and]
    have : (x ∈ [b]) ↔ b = x := by simp [eq_comm]
    simp only [this]
  | add b o => show (true && _) = (true && _ || (false && _)); simp [dargs]
  | set b o => rfl
  | call b => rfl
  | save b => rfl
  | back b => rfl
theorem ok_lreads {f : Addr} {fd : FuncData} (F : Fun K "_law_reads" "_law_reads" sLReads f fd) : FnOk P w K mg base CX0 1 f fd ["_law_deed", "_law_box"] (spDeedB rdB K) := by
  refine F.ok scLReads (fun vs H Q E h => ?_) (fun cdv A outer s H vs Q E hr h => ?_)
  · obtain ⟨v, d, x, rfl, _⟩ := h
    rfl
  · obtain ⟨v, d, x, rfl, hd, q⟩ := h
    refine ⟨_, pss_one (ps_ret (pe_or (pe_and (pe_cmpR op_eq (pe_ix ix_tup (pv 0) pe_int (fun _ _ => rfl)) pe_str (nomark _)) (pe_one (pe_cmpR op_in_seq (pv 1) (pe_slice sl_tup (pv 0) (po_some pe_int) po_none) rfl)))
      (pe_one (pe_and (pe_cmpR op_eq (pe_ix ix_tup (pv 0) pe_int (fun _ _ => rfl)) pe_str (nomark _)) (pe_one (pe_cmpR op_eq (pe_ix ix_tup (pv 0) pe_int (fun _ _ => rfl)) (pv 1) (nomark _))))))), ?_⟩
    dsimp only [nox_K]
    obtain ⟨p, rfl, hp⟩ := deed_open hd
    have tail : ∀ H', Ext [] H H' → (isAdd d && decide (x ∈ dargs d)) = false → ∀ Q' : VK, (∀ H', Ext [] H H' → Q' (.bl (rdB x d)) H') → tAndV (tOp rEq (tOp (rIxT K) (tVar 0) (tC (V.int 0))) (tC (V.str "tell"))) (tOp rEq (tOp (rIxT K) (tVar 0) (tC (V.int 1))) (tVar 1)) [some (.ref p), some (.int x)] H' Q' := by
      intro H' e' hno Q' hQ
      have hp' := e'.toSame.seqT hp
      refine r_andV ?_
      walk_at "rd"
      refine r_ixT hp' (show atI _ ((0 : Nat) : Int) = some (V.str (dword d)) from atI_nat rfl) ?_
      walk_at "rd"
      refine r_eqS ?_
      rw [word_tell]
      refine ⟨_, rfl, ?_⟩
      have hq := hQ H' e'
      rw [law_rd, hno, Bool.false_or] at hq
      cases hw : isTell d with
      | true =>
        rw [hw] at hq
        refine iteT ?_
        walk_at "rd"
        refine r_ixT hp' (at_arg d) ?_
        walk_at "rd"
        exact r_eqI hq
      | false =>
        rw [hw] at hq
        exact iteF hq
    walk_at "rd"
    refine r_orV (r_andV ?_)
    walk_at "rd"
    refine r_ixT hp (show atI _ ((0 : Nat) : Int) = some (V.str (dword d)) from atI_nat rfl) ?_
    walk_at "rd"
    refine r_eqS ?_
    rw [word_add]
    refine ⟨_, rfl, ?_⟩
    cases hw : isAdd d with
    | true =>
      refine iteT ?_
      walk_at "rd"
      refine ⟨1, rfl, ?_⟩
      walk_at "rd"
      refine ⟨p, _, rfl, hp, ?_, fun p2 hp2 => ?_⟩
      · intro h
        have := h.1
        revert this
        have hn : (V.str (dword d) :: (dargs d).map V.int).length = (dargs d).length + 1 := by simp
        have := (dargs_len d).1
        rw [hn]
        unfold HT.sIx
        simp
        try omega
      rw [cut1]
      refine ⟨p2, (dargs d).map V.int, rfl, .inr (SqT.of upd_same), rfl, flat_ints _, ?_⟩
      rw [if_neg Bool.false_ne_true, inV_ints]
      refine ⟨_, rfl, ?_⟩
      cases hx : decide (x ∈ dargs d) with
      | true =>
        refine iteT ?_
        have hq := q _ (Ext.laid (o := .tup ((dargs d).map V.int)) hp2)
        rw [law_rd, hw, hx] at hq
        exact hq
      | false =>
        refine iteF ?_
        exact tail _ (.laid hp2) (by rw [hx, Bool.and_false]) _ q
    | false =>
      refine iteF ?_
      refine ⟨_, rfl, iteF ?_⟩
      exact tail H (.refl _ _) (by rw [hw]; rfl) _ q
end
end Fs
set_option maxHeartbeats 1000000
namespace Fs
open PySem L2
section
variable {P : Program} {w : World} {K : PySem.W.Frag} {mg : Str → Option Value} {base : Heap}
structure GoI (H : Hp) (d du : Addr) (ws : List (List Blk)) (x : Int) (p0 : Pl) (ks due : List Pl) (H' : Hp) : Prop where
  ext : Ext [] H H'
  hd : H' d = some (.dT (trueD ks))
  hdu : ∃ vs, H' du = some (.lst vs) ∧ PlsAt H' vs due
  nod : ks.Nodup
  rk : ∀ y ∈ ks, RT (metOf ws x) p0 y
  rd : ∀ y ∈ due, RT (metOf ws x) p0 y
  clo : ∀ k ∈ ks, readAt ws x k = false ∧ ∀ c ∈ metOf ws x k, c ∈ ks ∨ c ∈ due
  one : p0 ∈ ks ∨ p0 ∈ due
  fewd : due.length ≤ 1 + 22 * ks.length
theorem GoI.end_ {H H' : Hp} {d du : Addr} {ws : List (List Blk)} {x : Int} {p0 : Pl} {ks : List Pl} (h : GoI H d du ws x p0 ks [] H') : askB ws x p0 = false := by
  have key : ∀ y, RT (metOf ws x) p0 y → y ∈ ks := by
    intro y r
    induction r with
    | refl => exact h.one.elim id fun z => absurd z (by simp)
    | step _ hc ih => exact ((h.clo _ ih).2 _ hc).elim id fun z => absurd z (by simp)
  rw [Bool.eq_false_iff]
  intro hb
  obtain ⟨q, r, hq⟩ := askB_iff.mp hb
  rw [(h.clo q (key q r)).1] at hq
  cases hq
noncomputable abbrev sIsAsked : Stmt := top 31
theorem scIsAsked : FnScope ["_law_works_here", "_law_number_here", "_law_block", "_law_box", "_law_met", "_law_waiting", "_law_place", "_law_deeds_here", "_law_end", "_law_open_yet", "_law_deed"] ["_law_works_here", "_law_number_here", "_law_block", "_law_box"] (defScope sIsAsked) := ⟨rfl, rfl, rfl, by decide +kernel, rfl, by decide +kernel, by decide +kernel⟩
def GoW (H : Hp) (wa d du : Addr) (ws : List (List Blk)) (x : Int) (n b : Nat) (μ : Nat) (σ' : St) (H' : Hp) : Prop := ∃ (ks due : List Pl) (o6 o7 o8 o9 o10 : Option V), μ = ((places ws).length - ks.length) * 24 + due.length ∧
  σ' = [some (.ref wa), some (.int n), some (.int b), some (.int x), some (.ref d), some (.ref du), o6, o7, o8, o9, o10] ∧ GoI H d du ws x ((n : Int), (b : Int)) ks due H'
theorem ok_isasked {f : Addr} {fd : FuncData} (F : Fun K "_law_is_asked" "_law_is_asked" sIsAsked f fd) (hRd : Has P w K mg base "_law_reads" 1 ["_law_deed", "_law_box"] (spDeedB rdB K)) : FnOk P w K mg base CX0 2 f fd ["_law_works_here", "_law_number_here", "_law_block", "_law_box"] (spIsAsked K) := by
  refine F.ok scIsAsked (fun vs H Q E h => ?_) (fun cdv A outer s H vs Q E hr h => ?_)
  · obtain ⟨wa, ws, n, b, x, rfl, _⟩ := h
    rfl
  · obtain ⟨wa, ws, n, b, x, rfl, hW, hok, hpl, q⟩ := h
    have hu := hu_of hr
    refine ⟨_, pss_cons (ps_par (i := 4) (j := 5) rfl scIsAsked.nd rfl rfl (by decide) rfl rfl (pa_cons pe_dnewT (pa_cons (pe_lst (pa_cons (pe_tup (pa_cons (pv 1) (pa_cons (pv 2) pa_nil))) pa_nil)) pa_nil)) rfl)
      (pss_cons (ps_while PassesOwn.never (pt_cmpR (op_neD hr) (pv 5) (pe_lst pa_nil) (nomark _))
        (pss_cons (ps_set (i := 6) scIsAsked.nd rfl (Or.inr rfl) (pe_bm0 PySem.F.plainAttrs_list PySem.F.slot_list_pop PySem.F.type_list_pop mt_pop (pv 5)))
        (pss_one (ps_if (pt_cmp (pc_dnotin hu (pv 6) (pv 4)))
          (pss_cons (ps_dput hu (pv 4) (pv 6) pe_bl rfl)
          (pss_cons (ps_asg (pe_ix ix_list (pe_ix ix_list (pv 0) (pe_ix ix_tup (pv 6) pe_int (fun _ _ => rfl)) (fun _ _ => rfl)) (pe_ix ix_tup (pv 6) pe_int (fun _ _ => rfl)) (fun _ _ => rfl)) (pg_tup (n := 2) rfl (pgs_cons (pg_name (i := 7) scIsAsked.nd rfl (Or.inl rfl)) (pgs_cons (pg_name (i := 8) scIsAsked.nd rfl (Or.inl rfl)) pgs_nil))))
          (pss_cons (ps_set (i := 9) scIsAsked.nd rfl (Or.inl rfl) pe_bl)
          (pss_cons (ps_for PassesOwn.never rfl (pi_list (pv 7)) (pg_name (i := 10) scIsAsked.nd rfl (Or.inl rfl))
            (pss_cons (ps_if (pw_and (pt_truthK K rfl (pv 9) (fun _ => rfl)) (pw_and1 (pt_truthK K rfl (pe_fn hRd hr (by decide) (pa_cons (pv 10) (pa_cons (pv 3) pa_nil))) (fun _ => rfl)))).pt (pss_one (ps_ret pe_bl)) pss_nil)
            (pss_cons (ps_if (pw_and (pt_truthK K rfl (pv 9) (fun _ => rfl)) (pw_and1 (pt_cmpR op_eq (pe_ix ix_tup (pv 10) pe_int (fun _ _ => rfl)) pe_str (nomark _)))).pt (pss_one (ps_expr (pe_bm PySem.F.plainAttrs_list PySem.F.slot_list_append PySem.F.type_list_append mt_append (pv 5) (pa_cons (pe_tup (pa_cons (pe_ix ix_tup (pv 10) pe_int (fun _ _ => rfl)) (pa_cons pe_int pa_nil))) pa_nil)))) pss_nil)
            (pss_one (ps_if (pw_and (pt_cmpR op_in_seq (pe_ix ix_tup (pv 10) pe_int (fun _ _ => rfl)) (pe_tup (pa_cons pe_str (pa_cons pe_str pa_nil))) rfl) (pw_and1 (pt_cmpR op_eq (pe_ix ix_tup (pv 10) pe_int (fun _ _ => rfl)) (pv 3) (nomark _)))).pt (pss_one (ps_set (i := 9) scIsAsked.nd rfl (Or.inl rfl) pe_bl)) pss_nil)))))
          (pss_one (ps_if (pt_truthK K rfl (pv 9) (fun _ => rfl)) (pss_one (ps_expr (pe_bm PySem.F.plainAttrs_list PySem.F.slot_list_extend PySem.F.type_list_extend mt_extend (pv 5) (pa_cons (pe_lc ["_law_to"] [6] rfl (.of rfl) (pi_tup (pe_slice sl_tup (pv 8) (po_some pe_int) po_none)) (fun _ _ _ _ => pg_name (i := 0) (by show ((["_law_to", "_law_place"] : List Str)).Nodup; decide) rfl (Or.inl rfl)) (fun _ _ _ _ => .nil) (fun _ _ _ _ => pe_tup (pa_cons (pe_ix (ix_tupK K rfl) (pv 1) pe_int (fun _ _ => rfl)) (pa_cons (pv 0) pa_nil)))) pa_nil)))) pss_nil))))))
          pss_nil))))
      (pss_one (ps_ret pe_bl))), ?_⟩
    dsimp only [nox_K, comp_K]
    walk_at "rd"
    refine (show ∀ p, _ = none → _ from fun d hd => ?_)
    walk_at "rd"
    refine ⟨len2 (by show 2 ≤ 1000; decide), fun p hp => ?_⟩
    walk_at "rd"
    refine ⟨len2 (by show 1 ≤ 1000; decide), fun du hdu => ?_⟩
    have e0 : Ext [] H (upd H d (.dT [])) := .laid hd
    have E1 : Ext [] H (upd (upd (upd H d (.dT [])) p (.tup [.int n, .int b])) du (.lst [.ref p])) := e0.trans ((Ext.laid hp).trans (.laid hdu))
    have npd : p ≠ du := ne_of_none upd_same hdu
    have hduH : H du = none := (e0.trans (.laid hp)).none (by simp) hdu
    have ndp : d ≠ p := ne_of_none upd_same hp
    have ndu : d ≠ du := ne_of_none (o := .dT []) (by rw [upd_ne ndp, upd_same]) hdu
    refine ⟨_, _, rfl, ?_⟩
    have pfew := places_len hok
    have st0 : GoI H d du ws x ((n : Int), (b : Int)) [] [((n : Int), (b : Int))] (upd (upd (upd H d (.dT [])) p (.tup [.int n, .int b])) du (.lst [.ref p])) := by
      refine ⟨E1, by rw [upd_ne ndu, upd_ne ndp, upd_same]; rfl, ⟨[.ref p], upd_same, .one (by rw [upd_ne npd, upd_same])⟩, List.nodup_nil, (fun _ h => absurd h (by simp)), fun y hy => by rw [List.mem_singleton.mp hy]; exact .refl, (fun _ h => absurd h (by simp)), .inr (List.mem_singleton.mpr rfl), by simp⟩
    generalize upd (upd (upd H d (.dT [])) p (.tup [.int n, .int b])) du (.lst [.ref p]) = H1 at st0 ⊢
    walk_at "rd"
    refine ⟨GoW H wa d du ws x n b, ⟨_, [], _, _, _, _, _, _, rfl, rfl, st0⟩, ?_⟩
    rintro μ σ' H' ⟨ks, due, o6, o7, o8, o9, o10, rfl, rfl, I⟩
    obtain ⟨dvs, hdu', hdp⟩ := I.hdu
    walk_at "rd"
    refine ⟨len2 (Nat.zero_le _), fun en0 hen0 => ?_⟩
    have e2 : Ext [] H' (upd H' en0 (.lst [])) := .laid hen0
    have hdu2 := e2 _ _ (by simp) hdu'
    have hdp2 := hdp.mono e2.tk
    have hd2 := e2 _ _ (by simp) I.hd
    have ext2 := I.ext.trans e2
    refine ⟨pairsD due, .list [], .list (SqL.of hdu2) hdp2.den, .list (SqL.of upd_same) .nil, pairs_shaped due, rfl, ?_⟩
    rw [if_pos rfl, eqv_pairs_nil]
    generalize upd H' en0 (.lst []) = H2 at e2 hdu2 hdp2 hd2 ext2 ⊢
    walk_at "rd"
    rcases List.eq_nil_or_concat due with h | ⟨init, y, h⟩
    · subst h
      rw [decide_eq_true rfl]
      refine iteF ?_
      walk_at "rd"
      have hq := q H2 ext2
      rw [I.end_] at hq
      exact hq
    · have h : due = init ++ [y] := by rw [h, List.concat_eq_append]
      rw [decide_eq_false (by rw [h]; simp)]
      rw [h] at hdp2
      obtain ⟨wvs, v, rfl, hws, vb, rfl, hvb⟩ := hdp2.last
      refine iteT ⟨fun σ' H' => ∃ m', m' < ((places ws).length - ks.length) * 24 + due.length ∧ GoW H wa d du ws x n b m' σ' H', fun _ _ h => h, ?_⟩
      have hyr := I.rd y (by rw [h]; simp)
      have hcU : ∀ p ∈ places ws, ∀ q ∈ metOf ws x p, q ∈ places ws := fun p _ q hq => met_there hok hq
      have hyU := hyr.within hcU hpl
      have hksU : ∀ z ∈ ks, z ∈ places ws := fun z hz => (I.rk z hz).within hcU hpl
      have hkl := nodup_le I.nod hksU
      have hdl : due.length = init.length + 1 := by rw [h]; simp
      have hfd := I.fewd
      have hwl := hws.len
      walk_at "rd"
      refine r_tyL hdu2 ?_
      refine ⟨du, wvs ++ [V.ref vb], .ref vb, rfl, rfl, hdu2, by simp, ?_⟩
      rw [List.dropLast_concat]
      have d3 : upd H2 du (.lst wvs) d = some (.dT (trueD ks)) := by rw [upd_ne ndu]; exact hd2
      have e3 : Ext [] H (upd H2 du (.lst wvs)) := ((ext2.mono (us := [du]) (by simp)).trans (.put (by simp))).drop hduH
      have u3 : upd H2 du (.lst wvs) du = some (.lst wvs) := upd_same
      have tk3 : TK H2 (upd H2 du (.lst wvs)) := .put (by intro ys z; rw [hdu2] at z; cases z)
      have hws3 := hws.mono tk3
      have hvb3 := tk3 _ _ hvb
      generalize upd H2 du (.lst wvs) = H3 at d3 e3 u3 tk3 hws3 hvb3 ⊢
      walk_at "rd"
      refine ⟨d, _, rfl, DGet.t (k := plK y) d3 hvb3, ?_⟩
      rw [valV_pl]
      by_cases hy : y ∈ ks
      · rw [if_pos hy]
        refine r_bl (iteF ?_)
        walk_at "rd"
        refine ⟨_, by rw [hdl]; exact Nat.lt_succ_self _, ks, init, _, _, _, _, _, rfl, rfl, e3, d3, ⟨wvs, u3, hws3⟩, I.nod, I.rk, fun z hz => I.rd z (by rw [h]; exact List.mem_append_left _ hz), fun k hk => ⟨(I.clo k hk).1, fun c hc' => ?_⟩, ?_, by omega⟩
        · rcases (I.clo k hk).2 c hc' with z | z
          · exact .inl z
          · rw [h] at z
            rcases List.mem_append.mp z with z | z
            · exact .inr z
            · rw [List.mem_singleton.mp z]; exact .inl hy
        · rcases I.one with z | z
          · exact .inl z
          · rw [h] at z
            rcases List.mem_append.mp z with z | z
            · exact .inr z
            · rw [List.mem_singleton.mp z]; exact .inl hy
      · rw [if_neg hy]
        refine r_bl (iteT ?_)
        walk_at "rd"
        refine ⟨d, _, rfl, DPut.t (k := plK y) d3 hvb3 (small3 (by unfold trueD; rw [List.length_map]; omega)), ?_⟩
        have hput : putK (trueD ks) (plK y) (V.bl true) = trueD (ks ++ [y]) := by
          rw [putK_new _ (by rw [valV_pl, if_neg hy])]; unfold trueD; rw [List.map_append]; rfl
        rw [hput]
        have d4 : upd H3 d (.dT (trueD (ks ++ [y]))) d = some (.dT (trueD (ks ++ [y]))) := upd_same
        have e4 : Ext [] H (upd H3 d (.dT (trueD (ks ++ [y])))) := ((e3.mono (us := [d]) (by simp)).trans (.put (by simp))).drop hd
        have u4 : upd H3 d (.dT (trueD (ks ++ [y]))) du = some (.lst wvs) := by rw [upd_ne ndu.symm]; exact u3
        have tk4 : TK H3 (upd H3 d (.dT (trueD (ks ++ [y])))) := .put (by intro ys z; rw [d3] at z; cases z)
        have hws4 := hws3.mono tk4
        have hvb4 := tk4 _ _ hvb3
        generalize upd H3 d (.dT (trueD (ks ++ [y]))) = H4 at d4 e4 u4 tk4 hws4 hvb4 ⊢
        have hnod : (ks ++ [y]).Nodup := by
          rw [List.nodup_append]
          refine ⟨I.nod, by simp, fun z hz z' hz' => ?_⟩
          rw [List.mem_singleton.mp hz']
          rintro rfl
          exact hy hz
        have hkl2 := nodup_le (l2 := places ws) hnod fun z hz => by
          rcases List.mem_append.mp hz with t | t
          · exact hksU z t
          · rw [List.mem_singleton.mp t]; exact hyU
        rw [List.length_append, List.length_singleton] at hkl2
        obtain ⟨bk, hbk⟩ := mem_places.mp hyU
        obtain ⟨yn, ya, w1, hy2, hw1, hb1⟩ := blkAt_some hbk
        subst hy2
        obtain ⟨m, n', w1', hp1, hw1', hm, hm1, hm2, hbok⟩ := hok.blk hbk
        obtain ⟨wv, bs, wb, pb, dl, ds, ve, s1, s2, s3, s4, s5, s6, s7, s8⟩ := open_blk hW hbk
        have hra : readAt ws x ((yn : Int), (ya : Int)) = readB x bk := by unfold readAt; rw [hbk]
        have hmet : metOf ws x ((yn : Int), (ya : Int)) = metB x yn bk := by unfold metOf; rw [hbk]
        have hml := met_len hok x ((yn : Int), (ya : Int))
        have hdsl : ds.length = bk.ds.length := by rw [s7.len, List.length_map]
        have hds14 := hbok.few
        walk_at "rd"
        refine r_ixT (SqT.of hvb4) (show atI _ ((0 : Nat) : Int) = some (V.int yn) from atI_nat rfl) ?_
        refine r_ixL (e4.toSame.seq s1) s2 ?_
        walk_at "rd"
        refine r_ixT (SqT.of hvb4) (show atI _ ((1 : Nat) : Int) = some (V.int ya) from atI_nat rfl) ?_
        refine r_ixL (e4.toSame.seq s3) s4 ?_
        refine r_gtup (e4.toSame.seqT s5) rfl ?_
        walk_at "rd"
        refine ⟨dl, rfl, ⟨_, e4.toSame.seq s6⟩, for_listN (xs := ds) (fun j σ' G => ∃ (cvs : List V) (o10 : Option V), σ' = [some (.ref wa), some (.int n), some (.int b), some (.int x), some (.ref d), some (.ref du), some (.ref vb), some (.ref dl), some ve, some (.bl (!wrote x (bk.ds.take j))), o10] ∧ Ext [] H G ∧ G d = some (.dT (trueD (ks ++ [((yn : Int), (ya : Int))]))) ∧ G du = some (.lst cvs) ∧
          PlsAt G cvs (init ++ (((till x (bk.ds.take j)).filterMap callOf).map fun c => (c, 0))) ∧ G vb = some (.tup [.int yn, .int ya]) ∧ (till x (bk.ds.take j)).any (rdB x) = false) ?_ ?_ ?_ ?_⟩
        · refine ⟨wvs, _, rfl, e4, d4, u4, ?_, hvb4, rfl⟩
          simpa [till] using hws4
        · rintro j σ' G hj ⟨cvs, o10, rfl, eG, hdG, huG, hcp, hvG, hno⟩
          exact eG.toSame.seq s6
        · rintro j v σ' G hv ⟨cvs, o10, rfl, eG, hdG, huG, hcp, hvG, hno⟩ N_ B_ C_ R_ hN_ hC_ hR_
          obtain ⟨dd, hdd, hDv⟩ := s7.get hv
          obtain ⟨de, hde, rfl⟩ := map_get hdd
          have hjl : j < bk.ds.length := (List.getElem?_eq_some_iff.mp hde).1
          obtain ⟨pd, rfl, hpd⟩ := deed_open hDv
          have hcl := hcp.len
          have hfl := List.length_filterMap_le callOf (till x (bk.ds.take j))
          have htl := till_len x (bk.ds.take j)
          rw [List.length_take] at htl
          rw [List.length_append, List.length_map] at hcl
          have htk : bk.ds.take (j + 1) = bk.ds.take j ++ [de] := take_get hde
          have third : ∀ (G5 : Hp) (fl : Bool) (D : Ends), Ext [] H G5 → (∀ G6, Ext [] G5 G6 → D.nx [some (V.ref wa), some (.int n), some (.int b), some (.int x), some (.ref d), some (.ref du), some (.ref vb), some (.ref dl), some ve, some (.bl (fl && !wrB x de)), some (.ref pd)] G6) →
              tIfS (tAnd (tTest (tOp (rIn K false) (tOp (rIxT K) (tVar 10) (tC (V.int 0))) (tTup (tCons (tC (V.str "set")) (tCons (tC (V.str "add")) tNil))))) (tTest (tOp rEq (tOp (rIxT K) (tVar 10) (tC (V.int 1))) (tVar 3)))) (tAsg (tC (V.bl false)) (gName 9)) tNext D [some (V.ref wa), some (.int n), some (.int b), some (.int x), some (.ref d), some (.ref du), some (.ref vb), some (.ref dl), some ve, some (.bl fl), some (.ref pd)] G5 := by
            intro G5 fl D e5 hD
            have hp5 := e5.toSame.seqT hpd
            with_reducible refine L2.r_if ?_
            with_reducible refine L2.r_and ?_
            walk_at "rd"
            refine r_ixT hp5 (show atI _ ((0 : Nat) : Int) = some (V.str (dword de)) from atI_nat rfl) ?_
            walk_at "rd"
            refine ⟨len2 (by show 2 ≤ 1000; decide), fun pt hpt => ?_⟩
            have e6 : Ext [] G5 (upd G5 pt (.tup [.str "set", .str "add"])) := .laid hpt
            refine ⟨pt, [V.str "set", .str "add"], rfl, .inr (SqT.of upd_same), rfl, rfl, ?_⟩
            rw [if_neg Bool.false_ne_true, deed_in]
            refine ⟨_, rfl, ?_⟩
            have hq := hD _ e6
            have hp6 := e6.toSame.seqT hp5
            generalize upd G5 pt (.tup [.str "set", .str "add"]) = G6 at e6 hq hp6 ⊢
            unfold wrB at hq
            cases hw : (wr de).isSome with
            | true =>
              rw [hw] at hq
              refine iteT ?_
              walk_at "rd"
              refine r_ixT hp6 (at_arg de) ?_
              walk_at "rd"
              refine r_eqI ?_
              refine ⟨_, rfl, ?_⟩
              cases hx : decide (darg de = x) with
              | true =>
                rw [hx] at hq
                refine iteT ?_
                walk_at "rd"
                simpa using hq
              | false =>
                rw [hx] at hq
                refine iteF ?_
                with_reducible refine L2.r_next ?_
                simpa using hq
            | false =>
              rw [hw] at hq
              refine iteF (iteF ?_)
              with_reducible refine L2.r_next ?_
              simpa using hq
          cases hwt : wrote x (bk.ds.take j) with
          | true =>
            have hw1 : wrote x (bk.ds.take (j + 1)) = true := by rw [htk, wrote_snoc, hwt]; rfl
            have ht1 : till x (bk.ds.take (j + 1)) = till x (bk.ds.take j) := by rw [htk, till_app_shut hwt]
            walk_at "rd"
            refine ⟨false, rfl, iteF (iteF ?_)⟩
            walk_at "rd"
            refine ⟨false, rfl, iteF (iteF ?_)⟩
            with_reducible refine L2.r_next ?_
            refine third G false _ eG fun G6 e6 => hN_ _ _ ⟨cvs, some (.ref pd), ?_, eG.trans e6, e6 _ _ (by simp) hdG, e6 _ _ (by simp) huG, ?_, e6 _ _ (by simp) hvG, ?_⟩
            · rw [hw1]; rfl
            · rw [ht1]; exact hcp.mono e6.tk
            · rw [ht1]; exact hno
          | false =>
            have hw1 : wrote x (bk.ds.take (j + 1)) = wrB x de := by rw [htk, wrote_snoc, hwt]; rfl
            have ht1 : till x (bk.ds.take (j + 1)) = till x (bk.ds.take j) ++ [de] := by rw [htk, till_app_open hwt]
            walk_at "rd"
            refine ⟨true, rfl, iteT ?_⟩
            walk_at "rd"
            refine ⟨.ref pd, de, x, rfl, hDv.mono eG.toSame, fun G2 eG2 => ?_⟩
            refine ⟨rdB x de, rfl, ?_⟩
            cases hrd : rdB x de with
            | true =>
              refine iteT ?_
              walk_at "rd"
              have hask : askB ws x ((n : Int), (b : Int)) = true := askB_iff.mpr ⟨_, hyr, by rw [hra]; unfold readB; exact List.any_eq_true.mpr ⟨de, till_has hwt hde, hrd⟩⟩
              have hq := q G2 (eG.trans eG2)
              rw [hask] at hq
              exact hq
            | false =>
              refine iteF ?_
              have E2 := eG.trans eG2
              have hd2' := eG2 _ _ (by simp) hdG
              have hu2' := eG2 _ _ (by simp) huG
              have hcp2 := hcp.mono eG2.tk
              have hv2' := eG2 _ _ (by simp) hvG
              have hpd2 := E2.toSame.seqT hpd
              have hno1 : (till x (bk.ds.take (j + 1))).any (rdB x) = false := by rw [ht1, List.any_append, hno]; simp [hrd]
              walk_at "rd"
              refine ⟨true, rfl, iteT ?_⟩
              walk_at "rd"
              refine r_ixT hpd2 (show atI _ ((0 : Nat) : Int) = some (V.str (dword de)) from atI_nat rfl) ?_
              walk_at "rd"
              refine r_eqS ?_
              rw [deed_call]
              walk_at "rd"
              cases hcl2 : isCall de with
              | true =>
                refine iteT ?_
                walk_at "rd"
                refine r_tyL hu2' ?_
                walk_at "rd"
                refine r_ixT hpd2 (at_arg de) ?_
                walk_at "rd"
                refine ⟨len2 (by show 2 ≤ 1000; decide), fun p2 hp2 => ?_⟩
                have np2 : p2 ≠ du := (ne_of_none hu2' hp2).symm
                with_reducible refine L2.r_nil ?_
                refine r_app (xs := cvs) (by rw [upd_ne np2.symm]; exact hu2') (by rw [sizeLine_eq]; omega) ?_
                have tk : TK G2 (upd (upd G2 p2 (.tup [.int (darg de), .int 0])) du (.lst (cvs ++ [.ref p2]))) := (Ext.laid hp2).tk.trans (.put (by intro ys z; rw [upd_ne np2.symm, hu2'] at z; cases z))
                have ndd : d ≠ p2 := ne_of_none hd2' hp2
                have E5 : Ext [] H (upd (upd G2 p2 (.tup [.int (darg de), .int 0])) du (.lst (cvs ++ [.ref p2]))) := ((E2.mono (us := [du]) (by simp)).trans ((Ext.laid hp2).trans (.put (by simp)))).drop hduH
                refine third _ true _ E5 fun G6 e6 => hN_ _ _ ⟨cvs ++ [.ref p2], some (.ref pd), ?_, E5.trans e6, e6 _ _ (by simp) (by rw [upd_ne ndu, upd_ne ndd]; exact hd2'), e6 _ _ (by simp) upd_same, ?_, e6.tk _ _ (tk _ _ hv2'), hno1⟩
                · rw [hw1]; rfl
                · rw [ht1, List.filterMap_append, List.map_append, ← List.append_assoc, List.filterMap_cons, call_of de hcl2]
                  exact ((hcp2.mono tk).append (.one (p := (darg de, 0)) (by rw [upd_ne np2, upd_same]))).mono e6.tk
              | false =>
                refine iteF ?_
                with_reducible refine L2.r_next ?_
                have hn : callOf de = none := by
                  unfold isCall at hcl2
                  cases z : callOf de with
                  | none => rfl
                  | some y => rw [z] at hcl2; cases hcl2
                refine third _ true _ E2 fun G6 e6 => hN_ _ _ ⟨cvs, some (.ref pd), ?_, E2.trans e6, e6 _ _ (by simp) hd2', e6 _ _ (by simp) hu2', ?_, e6 _ _ (by simp) hv2', hno1⟩
                · rw [hw1]; rfl
                · rw [ht1, List.filterMap_append, List.filterMap_cons, hn, List.filterMap_nil, List.append_nil]
                  exact hcp2.mono e6.tk
        · rintro σ' G ⟨cvs, o10, rfl, eG, hdG, huG, hcp, hvG, hno⟩
          rw [hdsl, List.take_length] at hcp hno ⊢
          have hnr : readAt ws x ((yn : Int), (ya : Int)) = false := by rw [hra]; exact hno
          have hcl := hcp.len
          have hfl := List.length_filterMap_le callOf (till x bk.ds)
          have htl := till_len x bk.ds
          rw [List.length_append, List.length_map] at hcl
          have fin : ∀ (G6 : Hp) (cvs6 : List V), Ext [] H G6 → G6 d = some (.dT (trueD (ks ++ [((yn : Int), (ya : Int))]))) → G6 du = some (.lst cvs6) → PlsAt G6 cvs6 (init ++ metOf ws x ((yn : Int), (ya : Int))) → ∀ o6 o7 o8 o9 o10 : Option V,
              ∃ m', m' < ((places ws).length - ks.length) * 24 + due.length ∧ GoW H wa d du ws x n b m' [some (.ref wa), some (.int n), some (.int b), some (.int x), some (.ref d), some (.ref du), o6, o7, o8, o9, o10] G6 := by
            intro G6 cvs6 e6 hd6 hu6 hp6 o6 o7 o8 o9 o10
            refine ⟨_, ?_, ks ++ [((yn : Int), (ya : Int))], init ++ metOf ws x ((yn : Int), (ya : Int)), o6, o7, o8, o9, o10, rfl, rfl, e6, hd6, ⟨cvs6, hu6, hp6⟩, hnod, ?_, ?_, ?_, ?_, ?_⟩
            · rw [List.length_append, List.length_append, List.length_singleton]; omega
            · intro z hz
              rcases List.mem_append.mp hz with t | t
              · exact I.rk z t
              · rw [List.mem_singleton.mp t]; exact hyr
            · intro z hz
              rcases List.mem_append.mp hz with t | t
              · exact I.rd z (by rw [h]; exact List.mem_append_left _ t)
              · exact .step hyr t
            · intro k hk
              rcases List.mem_append.mp hk with t | t
              · refine ⟨(I.clo k t).1, fun c hc' => ?_⟩
                rcases (I.clo k t).2 c hc' with r | r
                · exact .inl (List.mem_append_left _ r)
                · rw [h] at r
                  rcases List.mem_append.mp r with r | r
                  · exact .inr (List.mem_append_left _ r)
                  · exact .inl (List.mem_append_right _ r)
              · rw [List.mem_singleton.mp t]
                exact ⟨hnr, fun c hc' => .inr (List.mem_append_right _ hc')⟩
            · rcases I.one with r | r
              · exact .inl (List.mem_append_left _ r)
              · rw [h] at r
                rcases List.mem_append.mp r with r | r
                · exact .inr (List.mem_append_left _ r)
                · exact .inl (List.mem_append_right _ r)
            · rw [List.length_append, List.length_append, List.length_singleton]; omega
          walk_at "rd"
          cases hwt : wrote x bk.ds with
          | true =>
            refine ⟨false, rfl, iteF ?_⟩
            with_reducible refine L2.r_next ?_
            refine fin G cvs eG hdG huG ?_ _ _ _ _ _
            rw [hmet]
            unfold metB callsOf
            rw [hwt, if_pos rfl, List.append_nil]
            exact hcp
          | false =>
            refine ⟨true, rfl, iteT ?_⟩
            walk_at "rd"
            refine r_tyL huG ?_
            walk_at "rd"
            obtain ⟨wd, hwd, _⟩ := endD_is' hbok.ns
            rw [hwd] at s8
            obtain ⟨en, es', rfl, hen, hes⟩ := s8.ofTuple
            obtain ⟨v3, r3, rfl, hd3', hr3⟩ := hes.ofCons
            have ee3 := hd3'.ofStr
            subst ee3
            have ee4 := hr3.ints
            subst ee4
            have hnf := hbok.ns.few
            refine ⟨1, rfl, ?_⟩
            walk_at "rd"
            refine ⟨en, _, rfl, eG.toSame.seqT hen, ?_, fun pp hpp => ?_⟩
            · intro hh
              have := hh.1
              revert this
              have hn : (V.str wd :: bk.ns.map V.int).length = bk.ns.length + 1 := by simp
              rw [hn]
              unfold HT.sIx
              simp
              try omega
            rw [cut1]
            have e5 : Ext [] G (upd G pp (.tup (bk.ns.map V.int))) := .laid hpp
            have hu5 := e5 _ _ (by simp) huG
            have hd5 := e5 _ _ (by simp) hdG
            have hv5 := e5 _ _ (by simp) hvG
            have hcp5 := hcp.mono e5.tk
            have hpp5 : upd G pp (.tup (bk.ns.map V.int)) pp = some (.tup (bk.ns.map V.int)) := upd_same
            generalize upd G pp (.tup (bk.ns.map V.int)) = G5 at e5 hu5 hd5 hv5 hcp5 hpp5 ⊢
            refine ⟨pp, rfl, ⟨_, SqT.of hpp5⟩, fun le hle => ?_⟩
            have npl : pp ≠ le := ne_of_none hpp5 hle
            have nvl : vb ≠ le := ne_of_none hv5 hle
            refine loop_tup (xs := bk.ns.map V.int) (fun j σ' G6 => ∃ (o0 : Option V) (ts : List V), σ' = [o0, some (.ref vb)] ∧ Ext [le] G5 G6 ∧ G6 le = some (.lst ts) ∧ PlsAt G6 ts ((bk.ns.take j).map fun t => ((yn : Int), t))) ?_ ?_ ?_ ?_
            · exact ⟨none, [], rfl, .laid hle, upd_same, .nil⟩
            · rintro j σ' G6 hj ⟨o0, ts, rfl, e6, hle6, hts⟩
              exact SqT.of (e6 _ _ (by simpa using npl) hpp5)
            · rintro j yy σ' G6 R hyy ⟨o0, ts, rfl, e6, hle6, hts⟩ hR
              obtain ⟨t, ht, rfl⟩ := map_get hyy
              have hj : j < bk.ns.length := (List.getElem?_eq_some_iff.mp ht).1
              have htl := hts.len
              rw [List.length_map, List.length_take] at htl
              walk_at "rd"
              refine iteT ?_
              walk_at "rd"
              refine r_ixT (SqT.of (e6 _ _ (by simpa using nvl) hv5)) (show atI _ ((0 : Nat) : Int) = some (V.int yn) from atI_nat rfl) ?_
              walk_at "rd"
              refine ⟨len2 (by show 2 ≤ 1000; decide), fun p2 hp2 => ?_⟩
              have np2 : p2 ≠ le := (ne_of_none hle6 hp2).symm
              have tk : TK G6 (upd (upd G6 p2 (.tup [.int yn, .int t])) le (.lst (ts ++ [.ref p2]))) := (Ext.laid hp2).tk.trans (.put (by intro ys z; rw [upd_ne np2.symm, hle6] at z; cases z))
              refine ⟨ts, by rw [upd_ne np2.symm]; exact hle6, small1000 (by omega), hR _ _ ⟨_, ts ++ [.ref p2], rfl, e6.trans ((Ext.laid hp2).trans (.put (by simp))), upd_same, ?_⟩⟩
              rw [take_get ht, List.map_append]
              exact (hts.mono tk).append (.one (by rw [upd_ne np2, upd_same]))
            · rintro σ' G6 ⟨o0, ts, rfl, e6, hle6, hts⟩
              rw [List.length_map, List.take_length] at hts
              have htl := hts.len
              rw [List.length_map] at htl
              have E6 := e6.drop hle
              have hu6 := E6 _ _ (by simp) hu5
              have hd6 := E6 _ _ (by simp) hd5
              walk_at "rd"
              refine ⟨du, le, cvs, ts, rfl, rfl, hu6, hle6, by rw [sizeLine_eq]; omega, ?_⟩
              have tk : TK G6 (upd G6 du (.lst (cvs ++ ts))) := .put (by intro ys z; rw [hu6] at z; cases z)
              refine fin _ (cvs ++ ts) (((((eG.trans e5).trans E6).mono (us := [du]) (by simp)).trans (.put (by simp))).drop hduH) (by rw [upd_ne ndu]; exact hd6) upd_same ?_ _ _ _ _ _
              rw [hmet]
              unfold metB callsOf
              rw [hwt, if_neg Bool.false_ne_true, ← List.append_assoc]
              exact ((hcp5.mono E6.tk).append hts).mono tk
end
end Fs
set_option maxHeartbeats 1000000
namespace Fs
open PySem L2
section
variable {P : Program} {w : World} {K : PySem.W.Frag} {mg : Str → Option Value} {base : Heap}
noncomputable def spNx (K : PySem.W.Frag) : Sp := fun vs H Q _ => ∃ (a : Addr) (wk : List Blk), vs = [.ref a] ∧ Den K H (workD wk) (.ref a) ∧ (∀ b ∈ wk, b.ns.length ≤ 2) ∧ wk.length ≤ 12 ∧
  ∀ (d : Addr) (H' : Hp), H d = none → Ext [] H H' → Nex H' d wk → Q (.ref d) H'
noncomputable abbrev sNx : Stmt := top 4
theorem scNx : FnScope ["work"] ["work"] (defScope sNx) := ⟨rfl, rfl, rfl, by decide +kernel, rfl, by decide +kernel, by decide +kernel⟩
theorem ok_nx {f : Addr} {fd : FuncData} (F : Fun K "nexts_of" "nexts_of" sNx f fd) (nlist : mg "list" = none) (nenum : mg "enumerate" = none) : FnOk P w K mg base CX0 1 f fd ["work"] (spNx K) := by
  refine F.ok scNx (fun vs H Q E h => ?_) (fun cdv A outer s H vs Q E hr h => ?_)
  · obtain ⟨a, w, rfl, _⟩ := h
    rfl
  · obtain ⟨a, wk, rfl, hW, hns, hwl, q⟩ := h
    have nd3 : ((["at", "deeds", "end"] : List Str)).Nodup := by decide
    refine ⟨_, pss_one (ps_ret (pe_dc ["at", "deeds", "end"] [] rfl (.of rfl) (pi_enum rfl nenum (pa_cons (pv 0) pa_nil)) (fun _ _ _ _ => pg_tupK (n := 2) K rfl rfl (pgs_cons (pg_name (i := 0) nd3 rfl (Or.inl rfl)) (pgs_cons (pg_tupK (n := 2) K rfl rfl (pgs_cons (pg_name (i := 1) nd3 rfl (Or.inl rfl)) (pgs_cons (pg_name (i := 2) nd3 rfl (Or.inl rfl)) pgs_nil))) pgs_nil))) (fun _ _ _ _ => .nil)
      (fun _ _ _ _ => pv 0) (fun _ _ _ _ => pe_callTy (list_ofK K rfl) (by rfl) nlist PyProof.Rows.boot_list (pa_cons (pe_slice (sl_tupK K rfl) (pv 2) (po_some pe_int) po_none) pa_nil)))), ?_⟩
    dsimp only [nox_K, comp_K]
    obtain ⟨a', vs, ea, hSq, hDL⟩ := hW.ofList
    cases ea
    have hvl : vs.length = wk.length := by rw [hDL.len, List.length_map]
    walk_at "rd"
    refine ⟨a, rfl, ⟨vs, hSq⟩, fun d hd => ?_⟩
    refine loop_enum (xs := vs) (fun i σ' H' => ∃ (kvs : List (Key × V)) (o0 o1 o2 : Option V), σ' = [o0, o1, o2] ∧ Ext [d] H H' ∧ H' d = some (.dK kvs) ∧ kvs.length ≤ i ∧ ∀ k : Int, 0 ≤ k → k < i → ∃ c, valV kvs (Sum.inl k) = some (.ref c) ∧ c ≠ d ∧ H' c = some (.lst ((nxt wk k).map V.int))) ?_ ?_ ?_ ?_
    · exact ⟨[], none, none, none, rfl, .laid hd, upd_same, Nat.le_refl _, fun k h0 h1 => absurd h1 (by omega)⟩
    · rintro i σ' H' hi ⟨kvs, o0, o1, o2, rfl, e', hd', hkl, hk⟩
      exact (e'.drop hd).toSame.seq hSq
    · rintro i x σ' H' pt R hx ⟨kvs, o0, o1, o2, rfl, e', hd', hkl, hk⟩ hpt hR
      obtain ⟨dd, hdd, hDx⟩ := hDL.get hx
      obtain ⟨b, hb, rfl⟩ := map_get hdd
      have hi : i < wk.length := (List.getElem?_eq_some_iff.mp hb).1
      have hb2 := hns b (List.mem_of_getElem? hb)
      obtain ⟨c, us, rfl, hc, hcs⟩ := hDx.ofTuple
      obtain ⟨v1, r1, rfl, hd1, hr1⟩ := hcs.ofCons
      obtain ⟨v2, r2, rfl, hd2, hr2⟩ := hr1.ofCons
      have hr2 := hr2.ofNil
      subst hr2
      obtain ⟨wd, hwd⟩ := endD_is hb2
      rw [hwd] at hd2
      obtain ⟨en, es', rfl, hen, hes⟩ := hd2.ofTuple
      obtain ⟨v3, r3, rfl, hd3, hr3⟩ := hes.ofCons
      have e3 := hd3.ofStr
      subst e3
      have e4 := hr3.ints
      subst e4
      have npt : pt ≠ d := (ne_of_none hd' hpt).symm
      have e1 : Ext [d] H (upd H' pt (.tup [.int i, .ref c])) := e'.trans (.laid hpt)
      have es : Same H (upd H' pt (.tup [.int i, .ref c])) := (e1.drop hd).toSame
      have hd1' : upd H' pt (.tup [.int i, .ref c]) d = some (.dK kvs) := by rw [upd_ne npt.symm]; exact hd'
      have hpt1 : SqT K (upd H' pt (.tup [.int i, .ref c])) pt [.int i, .ref c] := SqT.of upd_same
      have hk1 : Ext [] H' (upd H' pt (.tup [.int i, .ref c])) := .laid hpt
      generalize upd H' pt (.tup [.int i, .ref c]) = H1 at *
      refine r_gtup hpt1 rfl ?_
      walk_at "rd"
      refine r_gtup (es.seqT hc) rfl ?_
      walk_at "rd"
      refine iteT ?_
      walk_at "rd"
      refine ⟨1, rfl, ?_⟩
      walk_at "rd"
      refine ⟨en, _, rfl, es.seqT hen, ?_, fun p hp => ?_⟩
      · intro h
        have := h.1
        revert this
        have hn : (V.str wd :: b.ns.map V.int).length = b.ns.length + 1 := by simp
        rw [hn]
        unfold HT.sIx
        simp
        try omega
      have hcut : cutV (V.str wd :: b.ns.map V.int) (some 1) none = b.ns.map V.int := by
        match hh : b.ns, hb2 with
        | [], _ => rfl
        | [x], _ => rfl
        | [x, y], _ => rfl
      rw [hcut]
      have npl : p ≠ d := (ne_of_none hd1' hp).symm
      walk_at "rd"
      refine ⟨p, _, rfl, .inr (SqT.of upd_same), fun l2 hl2 => ?_⟩
      have e2 : Ext [] H1 (upd (upd H1 p (.tup (b.ns.map V.int))) l2 (.lst (b.ns.map V.int))) := (Ext.laid hp).trans (.laid hl2)
      have hl2s : upd (upd H1 p (.tup (b.ns.map V.int))) l2 (.lst (b.ns.map V.int)) l2 = some (.lst (b.ns.map V.int)) := upd_same
      have n2 : l2 ≠ d := (ne_of_none (Ext.laid (ts := []) hp _ _ (by simp) hd1') hl2).symm
      generalize upd (upd H1 p (.tup (b.ns.map V.int))) l2 (.lst (b.ns.map V.int)) = H2 at *
      refine ⟨kvs, Sum.inl (i : Int), rfl, e2 _ _ (by simp) hd1', small1000 (by omega), hR _ _ ⟨_, _, _, _, rfl, ?_, upd_same, ?_, fun k k0 k1 => ?_⟩⟩
      · exact e1.trans ((e2.mono (by simp)).trans (.put (by simp)))
      · have := length_putK kvs (Sum.inl (i : Int) : Key) (.ref l2)
        omega
      · rw [valV_put]
        by_cases z : k = (i : Int)
        · subst z
          rw [if_pos rfl]
          refine ⟨l2, rfl, n2, ?_⟩
          rw [upd_ne n2, hl2s, nxt_nat hb]
        · rw [if_neg (fun y => z (Sum.inl.inj y))]
          obtain ⟨c', h1, h2, h3⟩ := hk k k0 (by omega)
          exact ⟨c', h1, h2, by rw [upd_ne h2]; exact (hk1.trans e2) _ _ (by simp) h3⟩
    · rintro σ' H' ⟨kvs, o0, o1, o2, rfl, e', hd', hkl, hk⟩
      rw [hvl] at hk
      refine q d H' hd (e'.drop hd) ⟨kvs, hd', fun k k0 k1 => ?_⟩
      obtain ⟨c, h1, _, h3⟩ := hk k k0 k1
      exact ⟨c, h1, h3⟩
end
end Fs
set_option maxHeartbeats 1000000
namespace Fs
open PySem L2
section
variable {P : Program} {w : World} {K : PySem.W.Frag} {mg : Str → Option Value} {base : Heap}
noncomputable def NsAt (l : Addr) (H : Hp) : List V → List (List Int) → Prop := Paired fun v ns => ∃ b, v = .ref b ∧ b ≠ l ∧ H b = some (.lst (ns.map V.int))
noncomputable def spEndsI (K : PySem.W.Frag) : Sp := fun vs H Q _ => ∃ (a : Addr) (w : List Blk), vs = [.ref a] ∧ Den K H (workD w) (.ref a) ∧ (∀ b ∈ w, b.ns.length ≤ 2) ∧ w.length ≤ 12 ∧
  ∀ (l : Addr) (us : List V) (H' : Hp), H l = none → Ext [] H H' → H' l = some (.lst us) → NsAt l H' us (w.map Blk.ns) → Q (.ref l) H'
theorem NsAt.mono {l : Addr} {H H' : Hp} {us : List V} {ns : List (List Int)} (h : NsAt l H us ns) (e : Ext [l] H H') : NsAt l H' us ns := Paired.mapP h fun _ _ ⟨b, h1, h2, h3⟩ => ⟨b, h1, h2, e _ _ (by simpa using h2) h3⟩
theorem NsAt.len {l : Addr} {H : Hp} {us : List V} {ns : List (List Int)} (h : NsAt l H us ns) : us.length = ns.length := Paired.length h
theorem NsAt.get {l : Addr} {H : Hp} : ∀ {us : List V} {wk : List Blk}, NsAt l H us (wk.map Blk.ns) → ∀ {x : Int}, 0 ≤ x → x < wk.length → ∃ c, atI us x = some (.ref c) ∧ H c = some (.lst ((nxt wk x).map V.int)) := by
  have key : ∀ {us : List V} {wk : List Blk} {i : Nat} {b : Blk}, NsAt l H us (wk.map Blk.ns) → wk[i]? = some b → ∃ c, us[i]? = some (.ref c) ∧ H c = some (.lst (b.ns.map V.int)) := by
    intro us wk
    induction wk generalizing us with
    | nil => intro i b _ h; simp at h
    | cons b0 r ih =>
      intro i b h hb
      cases h with
      | cons a t =>
        obtain ⟨c, rfl, _, hc⟩ := a
        cases i with
        | zero => simp at hb; subst hb; exact ⟨c, rfl, hc⟩
        | succ i =>
          obtain ⟨c', h1, h2⟩ := ih t (by simpa using hb)
          exact ⟨c', by simpa using h1, h2⟩
  intro us wk h x h0 h1
  obtain ⟨i, rfl⟩ := Int.eq_ofNat_of_zero_le h0
  have hi : i < wk.length := by omega
  obtain ⟨c, h2, h3⟩ := key h (List.getElem?_eq_getElem hi)
  exact ⟨c, atI_nat h2, by rw [nxt_nat (List.getElem?_eq_getElem hi)]; exact h3⟩
noncomputable abbrev sEnds : Stmt := top 27
theorem scEnds : FnScope ["_law_work_here"] ["_law_work_here"] (defScope sEnds) := ⟨rfl, rfl, rfl, by decide +kernel, rfl, by decide +kernel, by decide +kernel⟩
theorem ok_ends {f : Addr} {fd : FuncData} (F : Fun K "_law_ends" "_law_ends" sEnds f fd) (nlist : mg "list" = none) : FnOk P w K mg base CX0 1 f fd ["_law_work_here"] (spEndsI K) := by
  refine F.ok scEnds (fun vs H Q E h => ?_) (fun cdv A outer s H vs Q E hr h => ?_)
  · obtain ⟨a, w, rfl, _⟩ := h
    rfl
  · obtain ⟨a, wk, rfl, hW, hns, hwl, q⟩ := h
    have nd2 : ((["_law_deeds_here", "_law_end"] : List Str)).Nodup := by decide
    refine ⟨_, pss_one (ps_ret (pe_lc ["_law_deeds_here", "_law_end"] [] rfl (.of rfl) (pi_list (pv 0)) (fun _ _ _ _ => pg_tupK (n := 2) K rfl rfl (pgs_cons (pg_name (i := 0) nd2 rfl (Or.inl rfl)) (pgs_cons (pg_name (i := 1) nd2 rfl (Or.inl rfl)) pgs_nil))) (fun _ _ _ _ => .nil)
      (fun _ _ _ _ => pe_callTy (list_ofK K rfl) (by rfl) nlist PyProof.Rows.boot_list (pa_cons (pe_slice (sl_tupK K rfl) (pv 1) (po_some pe_int) po_none) pa_nil)))), ?_⟩
    dsimp only [nox_K, comp_K]
    obtain ⟨a', vs, ea, hSq, hDL⟩ := hW.ofList
    cases ea
    have hvl : vs.length = wk.length := by rw [hDL.len, List.length_map]
    walk_at "rd"
    refine ⟨a, rfl, ⟨vs, hSq⟩, fun l hl => ?_⟩
    refine loop_list (xs := vs) (fun i σ' H' => ∃ (ws : List V) (o0 o1 : Option V), σ' = [o0, o1] ∧ Ext [l] H H' ∧ H' l = some (.lst ws) ∧ NsAt l H' ws ((wk.take i).map Blk.ns)) ?_ ?_ ?_ ?_
    · exact ⟨[], none, none, rfl, .laid hl, upd_same, .nil⟩
    · rintro i σ' H' hi ⟨ws, o0, o1, rfl, e', hl', hden⟩
      exact (e'.drop hl).toSame.seq hSq
    · rintro i x σ' H' R hx ⟨ws, o0, o1, rfl, e', hl', hden⟩ hR
      have es : Same H H' := (e'.drop hl).toSame
      obtain ⟨dd, hdd, hDx⟩ := hDL.get hx
      obtain ⟨b, hb, rfl⟩ : ∃ b, wk[i]? = some b ∧ dd = blkD b := by
        rw [List.getElem?_map] at hdd
        cases z : wk[i]? with
        | none => rw [z] at hdd; cases hdd
        | some n => rw [z] at hdd; exact ⟨n, rfl, (Option.some.inj hdd).symm⟩
      have hi : i < wk.length := (List.getElem?_eq_some_iff.mp hb).1
      have hb2 := hns b (List.mem_of_getElem? hb)
      obtain ⟨c, us, rfl, hc, hcs⟩ := hDx.ofTuple
      obtain ⟨v1, r1, rfl, hd1, hr1⟩ := hcs.ofCons
      obtain ⟨v2, r2, rfl, hd2, hr2⟩ := hr1.ofCons
      have hr2 := hr2.ofNil
      subst hr2
      obtain ⟨wd, hwd⟩ := endD_is hb2
      rw [hwd] at hd2
      obtain ⟨en, es', rfl, hen, hes⟩ := hd2.ofTuple
      obtain ⟨v3, r3, rfl, hd3, hr3⟩ := hes.ofCons
      have e3 := hd3.ofStr
      subst e3
      have e4 := hr3.ints
      subst e4
      refine r_gtup (es.seqT hc) rfl ?_
      walk_at "rd"
      refine iteT ?_
      walk_at "rd"
      refine ⟨1, rfl, ?_⟩
      walk_at "rd"
      refine ⟨en, _, rfl, es.seqT hen, ?_, fun p hp => ?_⟩
      · intro h
        have := h.1
        revert this
        have hn : (V.str wd :: b.ns.map V.int).length = b.ns.length + 1 := by simp
        rw [hn]
        unfold HT.sIx
        simp
        try omega
      have hcut : cutV (V.str wd :: b.ns.map V.int) (some 1) none = b.ns.map V.int := by
        match hh : b.ns, hb2 with
        | [], _ => rfl
        | [x], _ => rfl
        | [x, y], _ => rfl
      rw [hcut]
      have npl : p ≠ l := (ne_of_none hl' hp).symm
      walk_at "rd"
      refine ⟨p, _, rfl, .inr (SqT.of upd_same), fun l2 hl2 => ?_⟩
      have l' : upd H' p (.tup (b.ns.map V.int)) l = some (.lst ws) := by rw [upd_ne npl.symm]; exact hl'
      have n2 : l2 ≠ l := (ne_of_none l' hl2).symm
      have hwsl : ws.length = i := by rw [hden.len, List.length_map, List.length_take]; omega
      refine ⟨ws, by rw [upd_ne n2.symm]; exact l', small1000 (by omega), hR _ _ ⟨ws ++ [.ref l2], _, _, rfl, ?_, upd_same, ?_⟩⟩
      · exact e'.trans ((Ext.laid hp).trans ((Ext.laid hl2).trans (.put (by simp))))
      · have ht : wk.take (i + 1) = wk.take i ++ [b] := by rw [List.take_add_one, hb]; rfl
        have E2 : Ext [l] H' (upd (upd (upd H' p (.tup (b.ns.map V.int))) l2 (.lst (b.ns.map V.int))) l (.lst (ws ++ [.ref l2]))) := (Ext.laid hp).trans ((Ext.laid hl2).trans (.put (by simp)))
        rw [ht, List.map_append]
        exact Paired.snoc (hden.mono E2) ⟨l2, rfl, n2, by rw [upd_ne n2, upd_same]⟩
    · rintro σ' H' ⟨ws, o0, o1, rfl, e', hl', hden⟩
      rw [hvl, List.take_length] at hden
      exact q l ws H' hl (e'.drop hl) hl' hden
end
end Fs
set_option maxHeartbeats 1000000
namespace Fs
open PySem L2
section
variable {P : Program} {w : World} {K : PySem.W.Frag} {mg : Str → Option Value} {base : Heap}
theorem anyK (K : PySem.W.Frag) {X : Cx} (h : X.K = K) (hh : X.A.handled = none) : CallR X (.builtin "any") (rAnyB K) := h ▸ call_anyB hh
noncomputable abbrev sWriters : Stmt := top 10
theorem scWriters : FnScope ["work", "box"] ["work", "box"] (defScope sWriters) := ⟨rfl, rfl, rfl, by decide +kernel, rfl, by decide +kernel, by decide +kernel⟩
theorem ok_writers {f : Addr} {fd : FuncData} (F : Fun K "writers" "writers" sWriters f fd) (nenum : mg "enumerate" = none) (nany : mg "any" = none) (hWr : Has P w K mg base "writes_box" 1 ["deed", "box"] (spDeedB wrB K)) : FnOk P w K mg base CX0 2 f fd ["work", "box"] (spWriters K) := by
  have nd3 : ((["at", "deeds", "end", "box"] : List Str)).Nodup := by decide
  refine F.ok scWriters (fun vs H Q E h => ?_) (fun cdv A outer s H vs Q E hr h => ?_)
  · obtain ⟨wa, wk, m, works, x, rfl, _⟩ := h
    rfl
  · obtain ⟨wa, wk, m, works, x, rfl, hW, hOk, hm, q⟩ := h
    refine ⟨_, pss_one (ps_ret (pe_lc ["at", "deeds", "end"] [1] rfl (.of rfl) (pi_enum rfl nenum (pa_cons (pv 0) pa_nil)) (fun _ _ _ _ => pg_tupK (n := 2) K rfl rfl (pgs_cons (pg_name (i := 0) nd3 rfl (Or.inl rfl)) (pgs_cons (pg_tupK (n := 2) K rfl rfl (pgs_cons (pg_name (i := 1) nd3 rfl (Or.inl rfl)) (pgs_cons (pg_name (i := 2) nd3 rfl (Or.inl rfl)) pgs_nil))) pgs_nil)))
      (fun _ _ _ _ => .cons (pt_truthK K rfl (pe_callB (anyK K rfl hr.hd) (by rfl) nany PyProof.Rows.boot_any (pa_cons (pe_lc ["deed"] [3] rfl (.of rfl) (pi_listK K rfl (pv 1)) (fun _ _ _ _ => pg_name (i := 0) (by show ((["deed", "box"] : List Str)).Nodup; decide) rfl (Or.inl rfl)) (fun _ _ _ _ => .nil) (fun _ _ _ _ => pe_fn hWr hr (by decide) (pa_cons (pv 0) (pa_cons (pv 1) pa_nil)))) pa_nil)) (fun _ => rfl)) .nil) (fun _ _ _ _ => pv 0))), ?_⟩
    dsimp only [nox_K, comp_K]
    obtain ⟨a', vs, ea, hSq, hDL⟩ := hW.ofList
    cases ea
    have hvl : vs.length = wk.length := by rw [hDL.len, List.length_map]
    have hwm := hOk.len
    walk_at "rd"
    refine ⟨wa, rfl, ⟨vs, hSq⟩, fun l hl => ?_⟩
    refine loop_enum (xs := vs) (fun i σ' H' => ∃ (o0 o1 o2 : Option V), σ' = [o0, o1, o2, some (.int x)] ∧ Ext [l] H H' ∧ H' l = some (.lst ((wrTo wk x i).map V.int))) ?_ ?_ ?_ ?_
    · exact ⟨none, none, none, rfl, .laid hl, upd_same⟩
    · rintro i σ' H' hi ⟨o0, o1, o2, rfl, e', hl'⟩
      exact (e'.drop hl).toSame.seq hSq
    · rintro i y σ' H' pt R hy ⟨o0, o1, o2, rfl, e', hl'⟩ hpt hR
      obtain ⟨dd, hdd, hDx⟩ := hDL.get hy
      obtain ⟨b, hb, rfl⟩ := map_get hdd
      have hi : i < wk.length := (List.getElem?_eq_some_iff.mp hb).1
      obtain ⟨c, us, rfl, hc, hcs⟩ := hDx.ofTuple
      obtain ⟨v1, r1, rfl, hd1, hr1⟩ := hcs.ofCons
      obtain ⟨v2, r2, rfl, hd2, hr2⟩ := hr1.ofCons
      have hr2 := hr2.ofNil
      subst hr2
      obtain ⟨dl, dvs, rfl, hdl, hdvs⟩ := hd1.ofList
      have hbok := hOk.blk b (List.mem_of_getElem? hb)
      have npt : pt ≠ l := (ne_of_none hl' hpt).symm
      have e1 : Ext [l] H (upd H' pt (.tup [.int i, .ref c])) := e'.trans (.laid hpt)
      have es : Same H (upd H' pt (.tup [.int i, .ref c])) := (e1.drop hl).toSame
      have hl1 : upd H' pt (.tup [.int i, .ref c]) l = some (.lst ((wrTo wk x i).map V.int)) := by rw [upd_ne npt.symm]; exact hl'
      have hpt1 : SqT K (upd H' pt (.tup [.int i, .ref c])) pt [.int i, .ref c] := SqT.of upd_same
      generalize upd H' pt (.tup [.int i, .ref c]) = H1 at *
      refine r_gtup hpt1 rfl ?_
      walk_at "rd"
      refine r_gtup (es.seqT hc) rfl ?_
      walk_at "rd"
      refine ⟨dl, rfl, ⟨dvs, es.seq hdl⟩, fun lc hlc => ?_⟩
      have nlc : l ≠ lc := ne_of_none hl1 hlc
      refine loop_list (xs := dvs) (fun j σ' G2 => ∃ (o0 : Option V), σ' = [o0, some (.int x)] ∧ Ext [lc] H1 G2 ∧ G2 lc = some (.lst (((b.ds.take j).map (wrB x)).map V.bl))) ?_ ?_ ?_ ?_
      · exact ⟨none, rfl, .laid hlc, upd_same⟩
      · rintro j σ' G2 hj ⟨o0, rfl, e2, hlc2⟩
        exact (e2.drop hlc).toSame.seq (es.seq hdl)
      · rintro j y σ' G2 R2 hy ⟨o0, rfl, e2, hlc2⟩ hR2
        obtain ⟨dd, hdd, hDy⟩ := hdvs.get hy
        obtain ⟨d, hd, rfl⟩ := map_get hdd
        have hjl : j < b.ds.length := (List.getElem?_eq_some_iff.mp hd).1
        walk_at "rd"
        refine iteT ?_
        walk_at "rd"
        refine ⟨y, d, x, rfl, (hDy.mono es).mono (e2.drop hlc).toSame, fun H3 e3 => ?_⟩
        refine ⟨_, e3 _ _ (by simp) hlc2, small1000 (by rw [List.length_map, List.length_map, List.length_take]; have := hbok.few; omega), hR2 _ _ ⟨_, rfl, e2.trans ((e3.mono (by simp)).trans (.put (by simp))), ?_⟩⟩
        rw [upd_same, take_get hd, List.map_append, List.map_append]; rfl
      · rintro σ' G2 ⟨o0, rfl, e2, hlc2⟩
        have hdvl : dvs.length = b.ds.length := by rw [hdvs.len, List.length_map]
        rw [hdvl, List.take_length] at hlc2
        walk_at "rd"
        refine ⟨lc, b.ds.map (wrB x), rfl, SqL.of hlc2, ?_⟩
        refine ⟨wrote x b.ds, ?_, ?_⟩
        · have e : (b.ds.map (wrB x)).any id = wrote x b.ds := by unfold wrote; rw [List.any_map]; rfl
          rw [e]; rfl
        have E2 : Ext [] H1 G2 := e2.drop hlc
        have hl2 := E2 _ _ (by simp) hl1
        have hs := wrTo_succ wk x i
        have hll := wrTo_len wk x i
        rw [hasW_at hb] at hs
        cases hw : wrote x b.ds with
        | true =>
          rw [hw, if_pos rfl] at hs
          refine iteT (iteT ?_)
          walk_at "rd"
          refine ⟨_, hl2, small1000 (by rw [List.length_map]; omega), hR _ _ ⟨_, _, _, rfl, (e1.trans (E2.mono (by simp))).trans (.put (by simp)), ?_⟩⟩
          rw [upd_same, hs, List.map_append]; rfl
        | false =>
          rw [hw, if_neg Bool.false_ne_true] at hs
          refine iteF (iteF (hR _ _ ⟨_, _, _, rfl, e1.trans (E2.mono (by simp)), ?_⟩))
          rw [hs]; exact hl2
    · rintro σ' H' ⟨o0, o1, o2, rfl, e', hl'⟩
      rw [hvl] at hl'
      exact q l H' hl (e'.drop hl) hl'
end
end Fs
set_option maxHeartbeats 1000000
namespace Fs
open PySem L2
section
variable {P : Program} {w : World} {K : PySem.W.Frag} {mg : Str → Option Value} {base : Heap}
noncomputable abbrev sLWrites : Stmt := top 30
theorem inK (K : PySem.W.Frag) {X : Cx} (h : X.K = K) : OpR X (compareOp .In) (rIn K false) := h ▸ op_in_seq
theorem scLWrites : FnScope ["_law_work_here", "_law_box"] ["_law_work_here", "_law_box"] (defScope sLWrites) := ⟨rfl, rfl, rfl, by decide +kernel, rfl, by decide +kernel, by decide +kernel⟩
theorem ok_lwrites {f : Addr} {fd : FuncData} (F : Fun K "_law_writes" "_law_writes" sLWrites f fd) (nrange : mg "range" = none) (nlen : mg "len" = none) (nany : mg "any" = none) : FnOk P w K mg base CX0 1 f fd ["_law_work_here", "_law_box"] (spWriters K) := by
  have nd3 : ((["_law_b", "_law_box", "_law_work_here"] : List Str)).Nodup := by decide
  refine F.ok scLWrites (fun vs H Q E h => ?_) (fun cdv A outer s H vs Q E hr h => ?_)
  · obtain ⟨wa, wk, m, works, x, rfl, _⟩ := h
    rfl
  · obtain ⟨wa, wk, m, works, x, rfl, hW, hOk, hm, q⟩ := h
    refine ⟨_, pss_one (ps_ret (pe_lc ["_law_b"] [1, 0] rfl (.of rfl) (pi_range1 rfl nrange (pa_cons (pe_callB call_len_seq (by rfl) nlen PySem.boot_len (pa_cons (pv 0) pa_nil)) pa_nil)) (fun _ _ _ _ => pg_name (i := 0) nd3 rfl (Or.inl rfl))
      (fun _ _ _ _ => .cons (pt_truthK K rfl (pe_callB (anyK K rfl hr.hd) (by rfl) nany PyProof.Rows.boot_any (pa_cons (pe_lc ["_law_one"] [1] rfl (.of rfl) (pi_listK K rfl (pe_ix (ix_tupK K rfl) (pe_ix (ix_listK K rfl) (pv 2) (pv 0) (fun _ _ => rfl)) pe_int (fun _ _ => rfl))) (fun _ _ _ _ => pg_name (i := 0) (by show ((["_law_one", "_law_box"] : List Str)).Nodup; decide) rfl (Or.inl rfl)) (fun _ _ _ _ => .nil)
        (fun _ _ _ _ => pe_and (pe_cmpR (inK K rfl) (pe_ix (ix_tupK K rfl) (pv 0) pe_int (fun _ _ => rfl)) (pe_tup (pa_cons pe_str (pa_cons pe_str pa_nil))) rfl) (pe_one (pe_cmpR op_eq (pe_ix (ix_tupK K rfl) (pv 0) pe_int (fun _ _ => rfl)) (pv 1) (nomark _))))) pa_nil)) (fun _ => rfl)) .nil) (fun _ _ _ _ => pv 0))), ?_⟩
    dsimp only [nox_K, comp_K]
    obtain ⟨a', vs, ea, hSq, hDL⟩ := hW.ofList
    cases ea
    have hvl : vs.length = wk.length := by rw [hDL.len, List.length_map]
    have hwm := hOk.len
    walk_at "rd"
    refine ⟨wa, _, rfl, .inl hSq, ?_⟩
    walk_at "rd"
    refine ⟨_, rfl, by omega, by omega, fun l hl => ?_⟩
    refine loop_range (lo := 0) (n := (vs.length : Int).toNat) (fun i σ' H' => ∃ (o0 : Option V), σ' = [o0, some (.int x), some (.ref wa)] ∧ Ext [l] H H' ∧ H' l = some (.lst ((wrTo wk x i).map V.int))) ?_ ?_ ?_
    · exact ⟨none, rfl, .laid hl, upd_same⟩
    · rintro i σ' H1 R hi ⟨o0, rfl, e1, hl1⟩ hR
      have hi : i < wk.length := by omega
      obtain ⟨b, hb⟩ : ∃ b, wk[i]? = some b := ⟨wk[i], List.getElem?_eq_getElem hi⟩
      have es : Same H H1 := (e1.drop hl).toSame
      obtain ⟨y, hy, hDx⟩ := hDL.get' (i := i) (d := blkD b) (by rw [List.getElem?_map, hb]; rfl)
      obtain ⟨c, us, rfl, hc, hcs⟩ := hDx.ofTuple
      obtain ⟨v1, r1, rfl, hd1, hr1⟩ := hcs.ofCons
      obtain ⟨v2, r2, rfl, hd2, hr2⟩ := hr1.ofCons
      have hr2 := hr2.ofNil
      subst hr2
      obtain ⟨dl, dvs, rfl, hdl, hdvs⟩ := hd1.ofList
      have hbok := hOk.blk b (List.mem_of_getElem? hb)
      walk_at "rd"
      refine r_ixL (es.seq hSq) (show atI vs (0 + (i : Int)) = some (.ref c) by rw [Int.zero_add]; exact atI_nat hy) ?_
      walk_at "rd"
      refine r_ixT (es.seqT hc) (show atI _ ((0 : Nat) : Int) = some (V.ref dl) from atI_nat rfl) ?_
      walk_at "rd"
      refine ⟨dl, rfl, ⟨dvs, es.seq hdl⟩, fun lc hlc => ?_⟩
      have nlc : l ≠ lc := ne_of_none hl1 hlc
      refine loop_list (xs := dvs) (fun j σ' G2 => ∃ (o0 : Option V), σ' = [o0, some (.int x)] ∧ Ext [lc] H1 G2 ∧ G2 lc = some (.lst (((b.ds.take j).map (wrB x)).map V.bl))) ?_ ?_ ?_ ?_
      · exact ⟨none, rfl, .laid hlc, upd_same⟩
      · rintro j σ' G2 hj ⟨o0, rfl, e2, hlc2⟩
        exact (e2.drop hlc).toSame.seq (es.seq hdl)
      · rintro j y σ' G2 R2 hy ⟨o0, rfl, e2, hlc2⟩ hR2
        obtain ⟨dd, hdd, hDy⟩ := hdvs.get hy
        obtain ⟨d, hd, rfl⟩ := map_get hdd
        obtain ⟨p, rfl, hp0⟩ := deed_open hDy
        have hp := (e2.drop hlc).toSame.seqT (es.seqT hp0)
        have hjl : j < b.ds.length := (List.getElem?_eq_some_iff.mp hd).1
        walk_at "rd"
        refine iteT ?_
        walk_at "rd"
        refine r_andV ?_
        walk_at "rd"
        refine r_ixT hp (show atI _ ((0 : Nat) : Int) = some (V.str (dword d)) from atI_nat rfl) ?_
        walk_at "rd"
        refine ⟨len2 (by show 2 ≤ 1000; decide), fun pt hpt => ?_⟩
        have e6 : Ext [] G2 (upd G2 pt (.tup [.str "set", .str "add"])) := .laid hpt
        refine ⟨pt, [V.str "set", .str "add"], rfl, .inr (SqT.of upd_same), rfl, rfl, ?_⟩
        rw [if_neg Bool.false_ne_true, deed_in]
        refine ⟨_, rfl, ?_⟩
        have hp6 := e6.toSame.seqT hp
        generalize upd G2 pt (.tup [.str "set", .str "add"]) = G6 at e6 hp6 ⊢
        have fin : ∃ xs : List V, G6 lc = some (.lst xs) ∧ xs.length < sizeLine ∧ R2 [some (.ref p), some (.int x)] (upd G6 lc (.lst (xs ++ [.bl (wrB x d)]))) := by
          refine ⟨_, e6 _ _ (by simp) hlc2, small1000 (by rw [List.length_map, List.length_map, List.length_take]; have := hbok.few; omega), hR2 _ _ ⟨_, rfl, e2.trans ((e6.mono (by simp)).trans (.put (by simp))), ?_⟩⟩
          rw [upd_same, take_get hd, List.map_append, List.map_append]; rfl
        unfold wrB at fin
        cases hw : (wr d).isSome with
        | true =>
          rw [hw] at fin
          refine iteT ?_
          walk_at "rd"
          refine r_ixT hp6 (at_arg d) ?_
          walk_at "rd"
          refine r_eqI ?_
          exact fin
        | false =>
          rw [hw] at fin
          exact iteF fin
      · rintro σ' G2 ⟨o0, rfl, e2, hlc2⟩
        have hdvl : dvs.length = b.ds.length := by rw [hdvs.len, List.length_map]
        rw [hdvl, List.take_length] at hlc2
        walk_at "rd"
        refine ⟨lc, b.ds.map (wrB x), rfl, SqL.of hlc2, ?_⟩
        refine ⟨wrote x b.ds, ?_, ?_⟩
        · have e : (b.ds.map (wrB x)).any id = wrote x b.ds := by unfold wrote; rw [List.any_map]; rfl
          rw [e]; rfl
        have E2 : Ext [] H1 G2 := e2.drop hlc
        have hl2 := E2 _ _ (by simp) hl1
        have hs := wrTo_succ wk x i
        have hll := wrTo_len wk x i
        rw [hasW_at hb] at hs
        cases hw : wrote x b.ds with
        | true =>
          rw [hw, if_pos rfl] at hs
          refine iteT (iteT ?_)
          walk_at "rd"
          refine ⟨_, hl2, small1000 (by rw [List.length_map]; omega), hR _ _ ⟨_, rfl, (e1.trans (E2.mono (by simp))).trans (.put (by simp)), ?_⟩⟩
          rw [upd_same, hs, List.map_append, Int.zero_add]; rfl
        | false =>
          rw [hw, if_neg Bool.false_ne_true] at hs
          refine iteF (iteF (hR _ _ ⟨_, rfl, e1.trans (E2.mono (by simp)), ?_⟩))
          rw [hs]; exact hl2
    · rintro σ' H' ⟨o0, rfl, e', hl'⟩
      rw [Int.toNat_natCast, hvl] at hl'
      exact q l H' hl (e'.drop hl) hl'
end
end Fs
set_option maxHeartbeats 1000000
namespace Fs
open PySem L2
section
variable {P : Program} {w : World} {K : PySem.W.Frag} {mg : Str → Option Value} {base : Heap}
noncomputable abbrev sAwaited : Stmt := top 14
theorem scAwaited : FnScope ["works", "number", "box", "waiting"] ["works", "number", "box"] (defScope sAwaited) := ⟨rfl, rfl, rfl, by decide +kernel, rfl, by decide +kernel, by decide +kernel⟩
theorem ok_awaited {f : Addr} {fd : FuncData} (F : Fun K "awaited" "awaited" sAwaited f fd) (nrange : mg "range" = none) (nlen : mg "len" = none) (hAw : Has P w K mg base "awaiting" 4 ["works", "box"] (spAwait K)) : FnOk P w K mg base CX0 5 f fd ["works", "number", "box"] (spAwaited K) := by
  refine F.ok scAwaited (fun vs H Q E h => ?_) (fun cdv A outer s H vs Q E hr h => ?_)
  · obtain ⟨wa, ws, n, wk, x, rfl, _⟩ := h
    rfl
  · obtain ⟨wa, ws, n, wk, x, rfl, hW, hok, hwk, q⟩ := h
    have hu := hu_of hr
    refine ⟨_, pss_cons (ps_set (i := 3) scAwaited.nd rfl (Or.inr rfl) (pe_fn hAw hr (by decide) (pa_cons (pv 0) (pa_cons (pv 2) pa_nil))))
      (pss_one (ps_ret (pe_lc ["at"] [1, 3] rfl (.of rfl) (pi_range1 rfl nrange (pa_cons (pe_callB call_len_seq (by rfl) nlen PySem.boot_len (pa_cons (pe_ix ix_list (pv 0) (pv 1) (fun _ _ => rfl)) pa_nil)) pa_nil)) (fun _ _ _ _ => pg_name (i := 0) (by show ((["at", "number", "waiting"] : List Str)).Nodup; decide) rfl (Or.inl rfl)) (fun _ _ _ _ => .cons (pt_cmp (pc_din hu (pe_tup (pa_cons (pv 1) (pa_cons (pv 0) pa_nil))) (pv 2))) .nil) (fun _ _ _ _ => pv 0)))), ?_⟩
    dsimp only [nox_K, comp_K]
    obtain ⟨a', vs, ea, hSq, hDL⟩ := hW.ofList
    cases ea
    obtain ⟨vw, hvw, hDw⟩ := hDL.get' (i := n) (d := workD wk) (by rw [List.getElem?_map, hwk]; rfl)
    obtain ⟨wb, bs, rfl, hbs, hdbs⟩ := hDw.ofList
    have hbl : bs.length = wk.length := by rw [hdbs.len, List.length_map]
    obtain ⟨m, hm1, hm2, hWk⟩ := hok.all wk (List.mem_of_getElem? hwk)
    have hwm := hWk.len
    walk_at "rd"
    refine ⟨wa, ws, x, rfl, hW, hok, fun d ks H1 hd e1 hd1 hnod hks => ?_⟩
    walk_at "rd"
    refine r_ixL (e1.toSame.seq hSq) (atI_nat hvw) ?_
    walk_at "rd"
    refine ⟨wb, _, rfl, .inl (e1.toSame.seq hbs), ?_⟩
    walk_at "rd"
    refine ⟨_, rfl, by omega, by omega, fun l hl => ?_⟩
    have nld : d ≠ l := ne_of_none hd1 hl
    refine loop_range (lo := 0) (n := (bs.length : Int).toNat) (fun i σ' G => ∃ (o0 : Option V), σ' = [o0, some (.int n), some (.ref d)] ∧ Ext [l] H1 G ∧ G l = some (.lst ((waitTo ws x n i).map V.int))) ?_ ?_ ?_
    · exact ⟨none, rfl, .laid hl, upd_same⟩
    · rintro i σ' G R hi ⟨o0, rfl, e2, hlG⟩ hR
      have hi : i < wk.length := by omega
      have hd2 : G d = some (.dT (trueD ks)) := (e2.drop hl) _ _ (by simp) hd1
      have hal := waitTo_len ws x n i
      walk_at "rd"
      refine ⟨len2 (by show 2 ≤ 1000; decide), fun p hp => ?_⟩
      have e4 : Ext [] G (upd G p (.tup [.int (n : Int), .int (0 + (i : Int))])) := .laid hp
      have hp4 : upd G p (.tup [.int (n : Int), .int (0 + (i : Int))]) p = some (.tup [.int (n : Int), .int (0 + (i : Int))]) := upd_same
      have hd4 := e4 _ _ (by simp) hd2
      have hl4 := e4 _ _ (by simp) hlG
      generalize upd G p (.tup [.int (n : Int), .int (0 + (i : Int))]) = G4 at e4 hp4 hd4 hl4 ⊢
      walk_at "rd"
      refine ⟨d, _, rfl, DGet.t (k := plK ((n : Int), 0 + (i : Int))) hd4 hp4, ?_⟩
      rw [valV_pl]
      have hask : askB ws x ((n : Int), (i : Int)) = decide (((n : Int), (0 + (i : Int))) ∈ ks) := by
        rw [Bool.eq_iff_iff, askB_iff, decide_eq_true_iff, hks, Int.zero_add]
      by_cases hm : ((n : Int), (0 + (i : Int))) ∈ ks
      · rw [if_pos hm]
        refine r_bl (iteT (iteT ?_))
        walk_at "rd"
        refine ⟨_, hl4, small1000 (by rw [List.length_map]; omega), hR _ _ ⟨_, rfl, (e2.trans (e4.mono (by simp))).trans (.put (by simp)), ?_⟩⟩
        rw [upd_same, waitTo_succ, hask, decide_eq_true hm, if_pos rfl, List.map_append, Int.zero_add]; rfl
      · rw [if_neg hm]
        refine r_bl (iteF (iteF (hR _ _ ⟨_, rfl, e2.trans (e4.mono (by simp)), ?_⟩)))
        rw [hl4, waitTo_succ, hask, decide_eq_false hm, if_neg Bool.false_ne_true]
    · rintro σ' G ⟨o0, rfl, e2, hlG⟩
      rw [Int.toNat_natCast, hbl] at hlG
      exact q l G (e1.none (by simp) hl) (e1.trans (e2.drop hl)) hlG
end
end Fs
set_option maxHeartbeats 1000000
namespace L2
open PySem PySem.Spec PyProof.Rows
section
variable {X : Cx} {elts : List Expr} {k : Nat} {tpos : Pos}
variable {X : Cx} {elt tg iter tg2 iter2 : Expr} {ifs ifs2 : List Expr} {scope : Scope} {own : List Str} {cap : List Nat} {wi wi2 : TI} {g g2 : TG} {tts tts2 : List TT} {te : TE} {pos : Pos}
theorem ps_lc2 {i : Nat} {x : Str} {px spos : Pos} (own : List Str) (cap : List Nat) (hc : X.calm = true) (S : CompScope X own cap scope) (hN : X.N.Nodup) (hix : X.N[i]? = some x) (hx : Loc X.env.scope x)
    (hi : PI X tg iter wi) (hg : ∀ cl s H ex, PG (compCx X own cap scope cl s H ex) tg g)
    (ht : ∀ cl s H ex, PTs (compCx X own cap scope cl s H ex) ifs tts) (hi2 : ∀ cl s H ex, PI (compCx X own cap scope cl s H ex) tg2 iter2 wi2) (hg2 : ∀ cl s H ex, PG (compCx X own cap scope cl s H ex) tg2 g2)
    (ht2 : ∀ cl s H ex, PTs (compCx X own cap scope cl s H ex) ifs2 tts2) (he : ∀ cl s H ex, PE (compCx X own cap scope cl s H ex) elt te)
    (hsw : swapsWith (.ListComp elt [⟨tg, iter, ifs, 0⟩, ⟨tg2, iter2, ifs2, 0⟩] scope pos) (some (.Name x px)) spos.line X.env = pure true := by rfl) (hs : ∀ x, foldedSetIterable iter X.env x = pure x := by intro _; rfl)
    (hs2 : ∀ cl s H ex x, foldedSetIterable iter2 (compCx X own cap scope cl s H ex).env x = pure x := by intros; rfl)
    (hf : X.fn x = true ∨ X.env.scope.names.lookup x = some .local := by first | exact .inl rfl | exact .inr rfl | assumption) :
    PS X (.Assign [.Name x px] (.ListComp elt [⟨tg, iter, ifs, 0⟩, ⟨tg2, iter2, ifs2, 0⟩] scope pos) spos) (tAsg (tComp own cap (.lst []) wi g tts fun l => bNext wi2 g2 tts2 (eApp te l)) (gName i)) := by
  intro pins s σ H D I h
  rw [exec_Assign_Name_used _ _ _ _ hsw]
  refine wpAny_bind (wpAny_standAt (wpAny_bind ?_))
  show wpAny _ X.A (do let _ ← comprehension (.ListComp elt [⟨tg, iter, ifs, 0⟩, ⟨tg2, iter2, ifs2, 0⟩] scope pos) scope X.env _ (newList []) false (eval iter X.env) (some (assign (.Name x px) X.env))) _ _ s
  refine wpAny_bind (thn (comp_use (behOf := behNext (.ListComp elt [⟨tg, iter, ifs, 0⟩, ⟨tg2, iter2, ifs2, 0⟩] scope pos) iter2 1) hc S rfl hi acc_list (fun _ _ _ _ _ => clause_list20) hg ht
    (fun cl s H ex l => pb_next rfl hc clause_list21 (hi2 cl s H ex) (hg2 cl s H ex) (ht2 cl s H ex) (pb_list (he cl s H ex)) (hs2 cl s H ex)) hs hN hix hx hf pins s σ H D I h) fun _ s' hq => ?_)
  exact wpAny_pure (wpAny_pure hq)
end
end L2
set_option maxHeartbeats 1000000
namespace Fs
open PySem L2
section
variable {P : Program} {w : World} {K : PySem.W.Frag} {mg : Str → Option Value} {base : Heap}
noncomputable abbrev sReached : Stmt := top 13
theorem scReached : FnScope ["works", "number", "box", "nexts", "starts"] ["works", "number", "box"] (defScope sReached) := ⟨rfl, rfl, rfl, by decide +kernel, rfl, by decide +kernel, by decide +kernel⟩
theorem ok_reached {f : Addr} {fd : FuncData} (F : Fun K "reached" "reached" sReached f fd) (nsort : mg "sorted" = none) (hX : Has P w K mg base "nexts_of" 1 ["work"] (spNx K)) (hWs : Has P w K mg base "writers" 2 ["work", "box"] (spWriters K)) (hLd : Has P w K mg base "led_to" 1 ["starts", "nexts"] (spLed2 K)) : FnOk P w K mg base CX0 3 f fd ["works", "number", "box"] (spReached K) := by
  have nd3 : ((["at", "to", "nexts"] : List Str)).Nodup := by decide
  refine F.ok scReached (fun vs H Q E h => ?_) (fun cdv A outer s H vs Q E hr h => ?_)
  · obtain ⟨wa, ws, n, wk, x, rfl, _⟩ := h
    rfl
  · obtain ⟨wa, ws, n, wk, x, rfl, hW, hok, hwk, q⟩ := h
    have hu := hu_of hr
    refine ⟨_, pss_cons (ps_set (i := 3) scReached.nd rfl (Or.inr rfl) (pe_fn hX hr (by decide) (pa_cons (pe_ix ix_list (pv 0) (pv 1) (fun _ _ => rfl)) pa_nil)))
      (pss_cons (ps_lc2 (i := 4) ["at", "to"] [3] rfl (.of rfl) scReached.nd rfl (Or.inl rfl) (pi_list (pe_fn hWs hr (by decide) (pa_cons (pe_ix ix_list (pv 0) (pv 1) (fun _ _ => rfl)) (pa_cons (pv 2) pa_nil)))) (fun _ _ _ _ => pg_name (i := 0) nd3 rfl (Or.inl rfl)) (fun _ _ _ _ => .nil)
        (fun _ _ _ _ => pi_listK K rfl (pe_dget hu (pv 2) (pv 0) (fun _ _ => rfl))) (fun _ _ _ _ => pg_name (i := 1) nd3 rfl (Or.inl rfl)) (fun _ _ _ _ => .nil) (fun _ _ _ _ => pv 1))
      (pss_one (ps_ret (pe_callB (call_sortD hr.hd) (by rfl) nsort PyProof.Rows.boot_sorted (pa_cons (pe_fn hLd hr (by decide) (pa_cons (pv 4) (pa_cons (pv 3) pa_nil))) pa_nil))))), ?_⟩
    dsimp only [nox_K, comp_K]
    obtain ⟨a', vs, ea, hSq, hDL⟩ := hW.ofList
    cases ea
    obtain ⟨vw, hvw, hDw⟩ := hDL.get' (i := n) (d := workD wk) (by rw [List.getElem?_map, hwk]; rfl)
    obtain ⟨wb, bs, rfl, hbs, hdbs⟩ := hDw.ofList
    obtain ⟨m, hm1, hm2, hWk⟩ := hok.all wk (List.mem_of_getElem? hwk)
    have hwm := hWk.len
    walk_at "rd"
    refine r_ixL hSq (atI_nat hvw) ?_
    walk_at "rd"
    refine ⟨wb, wk, rfl, hDw, fun b hb => (hWk.blk b hb).ns.few, by omega, fun nd H1 hnd e1 hNx => ?_⟩
    walk_at "rd"
    refine r_ixL (e1.toSame.seq hSq) (atI_nat hvw) ?_
    walk_at "rd"
    refine ⟨wb, wk, m, _, x, rfl, hDw.mono e1.toSame, hWk, hm2, fun lw H2 hlw e2 hlw2 => ?_⟩
    walk_at "rd"
    refine ⟨lw, rfl, ⟨_, SqL.of hlw2⟩, fun l hl => ?_⟩
    have nlw : lw ≠ l := ne_of_none hlw2 hl
    refine loop_list (xs := (wrTo wk x wk.length).map V.int) (fun i σ' G => ∃ (o0 o1 : Option V), σ' = [o0, o1, some (.ref nd)] ∧ Ext [l] H2 G ∧ G l = some (.lst ((((wrTo wk x wk.length).take i).flatMap (nxt wk)).map V.int))) ?_ ?_ ?_ ?_
    · exact ⟨none, none, rfl, .laid hl, upd_same⟩
    · rintro i σ' G hi ⟨o0, o1, rfl, e3, hlG⟩
      exact SqL.of (e3 _ _ (by simpa using nlw) hlw2)
    · rintro i v σ' G R hv ⟨o0, o1, rfl, e3, hlG⟩ hR
      obtain ⟨y, hy, rfl⟩ := map_get hv
      obtain ⟨k, rfl, hk, hkw⟩ := mem_wrTo.mp (List.mem_of_getElem? hy)
      obtain ⟨kvs, hq0, hq2⟩ := hNx.mono e2
      obtain ⟨c, hc1, hc0⟩ := hq2 k (by omega) (by omega)
      have ncl : c ≠ l := ne_of_none hc0 hl
      have hq1 := (e3.drop hl) _ _ (by simp) hq0
      have hc2 := (e3.drop hl) _ _ (by simp) hc0
      walk_at "rd"
      refine iteT ?_
      unfold bNext
      walk_at "rd"
      refine ⟨nd, .ref c, rfl, ?_, ?_⟩
      · have := DGet.k (k := Sum.inl (k : Int)) hq1
        rw [hc1] at this
        exact this
      have hll := flat_len (nxt wk) (fun a => (nxt_ok hWk a).few) ((wrTo wk x wk.length).take i)
      have hwl := wrTo_len wk x wk.length
      have hn2 := (nxt_ok hWk (k : Int)).few
      rw [List.length_take] at hll
      refine ⟨c, rfl, ⟨_, SqL.of hc2⟩, ?_⟩
      refine loop_list (xs := (nxt wk (k : Int)).map V.int) (fun j σ' G2 => ∃ (o1 : Option V), σ' = [some (.int k), o1, some (.ref nd)] ∧ Ext [l] G G2 ∧ G2 l = some (.lst ((((wrTo wk x wk.length).take i).flatMap (nxt wk) ++ (nxt wk (k : Int)).take j).map V.int))) ?_ ?_ ?_ ?_
      · exact ⟨_, rfl, .refl _ _, by rw [hlG, List.take_zero, List.append_nil]⟩
      · rintro j σ' G2 hj ⟨o1, rfl, e4, hl4⟩
        exact SqL.of (e4 _ _ (by simpa using ncl) hc2)
      · rintro j v σ' G2 R2 hv ⟨o1, rfl, e4, hl4⟩ hR2
        obtain ⟨z, hz, rfl⟩ := map_get hv
        walk_at "rd"
        refine iteT ?_
        walk_at "rd"
        refine ⟨_, hl4, small1000 (by rw [List.length_map, List.length_append, List.length_take]; omega), hR2 _ _ ⟨_, rfl, e4.trans (.put (by simp)), ?_⟩⟩
        rw [upd_same, take_get hz, ← List.append_assoc, List.map_append, List.map_append, List.map_append]; rfl
      · rintro σ' G2 ⟨o1, rfl, e4, hl4⟩
        rw [List.length_map, List.take_length] at hl4
        refine hR _ _ ⟨_, _, rfl, e3.trans e4, ?_⟩
        rw [hl4, take_get hy, List.flatMap_append, List.flatMap_cons, List.flatMap_nil, List.append_nil]
    · rintro σ' G ⟨o0, o1, rfl, e3, hlG⟩
      rw [List.length_map, List.take_length] at hlG
      have E3 := e3.drop hl
      have hll := flat_len (nxt wk) (fun a => (nxt_ok hWk a).few) (wrTo wk x wk.length)
      have hwl := wrTo_len wk x wk.length
      walk_at "rd"
      refine .inl ⟨l, nd, wk, m, _, startsOf wk x, rfl, SqL.of hlG, hNx.mono (e2.trans E3), hWk, hm2, fun s hs => ?_, by unfold startsOf; omega, fun d ks H4 hd e4 hd4 hnod hks => ?_⟩
      · obtain ⟨y, _, hy2⟩ := List.mem_flatMap.mp hs
        have := (nxt_ok hWk y).range s hy2
        exact ⟨by omega, this.2⟩
      walk_at "rd"
      refine ⟨d, ks, _, rfl, hd4, by rw [List.map_map]; rfl, ?_, fun ls ns hls hp hso => ?_⟩
      · have : ks.length ≤ ((List.range wk.length).map fun (i : Nat) => (i : Int)).length := nodup_le hnod fun y hy => by
          obtain ⟨s, hs, r⟩ := (hks y).mp hy
          obtain ⟨z, _, hz⟩ := List.mem_flatMap.mp hs
          have h1 := (nxt_ok hWk z).range s hz
          have := r.range hWk ⟨by omega, h1.2⟩
          exact List.mem_map.mpr ⟨y.toNat, List.mem_range.mpr (by omega), by omega⟩
        rw [List.length_map, List.length_range] at this
        omega
      have EF : Ext [] H H4 := e1.trans ((e2.trans E3).trans e4)
      exact q ls ns _ (EF.none (by simp) hls) (EF.trans (.laid hls)) upd_same hso (hp.symm.nodup hnod) fun y => by rw [hp.mem_iff, hks]
end
end Fs
set_option maxHeartbeats 1000000
namespace Fs
open PySem L2
section
variable {P : Program} {w : World} {K : PySem.W.Frag} {mg : Str → Option Value} {base : Heap}
noncomputable abbrev sBehind : Stmt := top 32
theorem scBehind : FnScope ["_law_work_here", "_law_box", "_law_found", "_law_nexts_here", "_law_block", "_law_turn"] ["_law_work_here", "_law_box"] (defScope sBehind) := ⟨rfl, rfl, rfl, by decide +kernel, rfl, by decide +kernel, by decide +kernel⟩
theorem ok_behind {f : Addr} {fd : FuncData} (F : Fun K "_law_behind" "_law_behind" sBehind f fd) (nrange : mg "range" = none) (nlen : mg "len" = none) (nlist : mg "list" = none) (nset : mg "set" = none) (nsort : mg "sorted" = none)
    (hEn : Has P w K mg base "_law_ends" 1 ["_law_work_here"] (spEndsI K)) (hLw : Has P w K mg base "_law_writes" 1 ["_law_work_here", "_law_box"] (spWriters K)) : FnOk P w K mg base CX0 2 f fd ["_law_work_here", "_law_box"] (spBehind K) := by
  refine F.ok scBehind (fun vs H Q E h => ?_) (fun cdv A outer s H vs Q E hr h => ?_)
  · obtain ⟨wa, wk, m, works, x, rfl, _⟩ := h
    rfl
  · obtain ⟨wa, wk, m, works, x, rfl, hW, hOk, hm, q⟩ := h
    refine ⟨_, pss_cons (ps_asg (pe_tup (pa_cons (pe_lst pa_nil) (pa_cons (pe_fn hEn hr (by decide) (pa_cons (pv 0) pa_nil)) pa_nil))) (pg_tup (n := 2) rfl (pgs_cons (pg_name (i := 2) scBehind.nd rfl (Or.inr rfl)) (pgs_cons (pg_name (i := 3) scBehind.nd rfl (Or.inl rfl)) pgs_nil))))
      (pss_cons (ps_for PassesOwn.never rfl (pi_list (pe_fn hLw hr (by decide) (pa_cons (pv 0) (pa_cons (pv 1) pa_nil)))) (pg_name (i := 4) scBehind.nd rfl (Or.inl rfl))
        (pss_one (ps_set (i := 2) scBehind.nd rfl (Or.inr rfl) (pe_op op_cat (pv 2) (pe_ix ix_list (pv 3) (pv 4) (fun _ _ => rfl))))))
      (pss_cons (ps_for PassesOwn.never rfl (pi_range1 rfl nrange (pa_cons (pe_callB call_len_seq (by rfl) nlen PySem.boot_len (pa_cons (pv 0) pa_nil)) pa_nil)) (pg_name (i := 5) scBehind.nd rfl (Or.inl rfl))
        (pss_one (ps_for PassesOwn.never rfl (pi_list (pe_callTy call_list_of (by rfl) nlist PyProof.Rows.boot_list (pa_cons (pv 2) pa_nil))) (pg_name (i := 4) scBehind.nd rfl (Or.inl rfl))
          (pss_one (ps_set (i := 2) scBehind.nd rfl (Or.inr rfl) (pe_op op_cat (pv 2) (pe_lc ["_law_to"] [2] rfl (.of rfl) (pi_list (pe_ix ix_list (pv 3) (pv 4) (fun _ _ => rfl))) (fun _ _ _ _ => pg_name (i := 0) (by show ((["_law_to", "_law_found"] : List Str)).Nodup; decide) rfl (Or.inl rfl)) (fun _ _ _ _ => .cons (pt_cmpR (notInK K rfl) (pv 0) (pv 1) rfl) .nil) (fun _ _ _ _ => pv 0))))))))
      (pss_one (ps_ret (pe_callB (call_sortS hr.hd) (by rfl) nsort PyProof.Rows.boot_sorted (pa_cons (pe_callTy (call_setL hr.hd) (by rfl) nset PyProof.Rows.boot_set (pa_cons (pv 2) pa_nil)) pa_nil)))))), ?_⟩
    dsimp only [nox_K, comp_K]
    obtain ⟨a', vs, ea, hSq, hDL⟩ := hW.ofList
    cases ea
    have hvl : vs.length = wk.length := by rw [hDL.len, List.length_map]
    have hwm := hOk.len
    have few : ∀ y, (nxt wk y).length ≤ 2 := fun y => (nxt_ok hOk y).few
    have hss : (startsOf wk x).length ≤ 24 := by
      have h1 := flat_len (nxt wk) few (wrTo wk x wk.length)
      have h2 := wrTo_len wk x wk.length
      unfold startsOf; omega
    have hrg : ∀ y, (∃ s ∈ startsOf wk x, Reach (nxt wk) s y) → 0 ≤ y ∧ y < (wk.length : Int) := by
      rintro y ⟨s, hs, r⟩
      obtain ⟨z, _, hz⟩ := List.mem_flatMap.mp hs
      have h1 := (nxt_ok hOk z).range s hz
      have := r.range hOk ⟨by omega, h1.2⟩
      omega
    walk_at "rd"
    refine ⟨len2 (Nat.zero_le _), fun p1 hp1 => ?_⟩
    have e0 : Ext [] H (upd H p1 (.lst [])) := .laid hp1
    have hp10 : upd H p1 (.lst []) p1 = some (.lst []) := upd_same
    generalize upd H p1 (.lst []) = H0 at e0 hp10 ⊢
    walk_at "rd"
    refine ⟨wa, wk, rfl, hW.mono e0.toSame, fun b hb => (hOk.blk b hb).ns.few, by omega, fun n us H1 hn e1 hn1 hN1 => ?_⟩
    walk_at "rd"
    refine ⟨len2 (by show 2 ≤ 1000; decide), fun p3 hp3 => ?_⟩
    have e2 : Ext [] H1 (upd H1 p3 (.tup [.ref p1, .ref n])) := .laid hp3
    have hp32 : SqT K (upd H1 p3 (.tup [.ref p1, .ref n])) p3 [.ref p1, .ref n] := SqT.of upd_same
    generalize upd H1 p3 (.tup [.ref p1, .ref n]) = H2 at e2 hp32 ⊢
    refine r_gtup hp32 rfl ?_
    have hn2 := e2 _ _ (by simp) hn1
    have hN2 : NsAt n H2 us (wk.map Blk.ns) := hN1.mono (e2.mono (by simp))
    have E2 : Ext [] H H2 := e0.trans (e1.trans e2)
    have hp12 := (e1.trans e2) _ _ (by simp) hp10
    walk_at "rd"
    refine ⟨wa, wk, m, works, x, rfl, hW.mono E2.toSame, hOk, hm, fun lw H3 hlw e3 hlw3 => ?_⟩
    walk_at "rd"
    have hwl := wrTo_len wk x wk.length
    refine ⟨lw, rfl, ⟨_, SqL.of hlw3⟩, for_listN (xs := (wrTo wk x wk.length).map V.int) (fun i σ' G => ∃ (pf : Addr) (o4 o5 : Option V), σ' = [some (.ref wa), some (.int x), some (.ref pf), some (.ref n), o4, o5] ∧ Ext [] H3 G ∧ G pf = some (.lst ((((wrTo wk x wk.length).take i).flatMap (nxt wk)).map V.int))) ?_ ?_ ?_ ?_⟩
    · exact ⟨p1, _, _, rfl, .refl _ _, e3 _ _ (by simp) hp12⟩
    · rintro i σ' G hi ⟨pf, o4, o5, rfl, eG, hpf⟩
      exact SqL.of (eG _ _ (by simp) hlw3)
    · rintro i v σ' G hv ⟨pf, o4, o5, rfl, eG, hpf⟩ N_ B_ C_ R_ hN_ hC_ hR_
      obtain ⟨y, hy, rfl⟩ := map_get hv
      obtain ⟨k, rfl, hk, hkw⟩ := mem_wrTo.mp (List.mem_of_getElem? hy)
      have EG := e3.trans eG
      obtain ⟨c, hat, hc⟩ := (hN2.mono (EG.mono (by simp))).get (x := (k : Int)) (by omega) (by omega)
      have hll := flat_len (nxt wk) few ((wrTo wk x wk.length).take i)
      have hn2' := few (k : Int)
      rw [List.length_take] at hll
      walk_at "rd"
      refine r_ixL (SqL.of (EG _ _ (by simp) hn2)) hat ?_
      refine ⟨pf, c, _, _, rfl, rfl, hpf, hc, len2 (by rw [List.length_map, List.length_map]; omega), fun f1 hf1 => ?_⟩
      walk_at "rd"
      refine ⟨f1, _, _, rfl, eG.trans (.laid hf1), ?_⟩
      rw [upd_same, take_get hy, List.flatMap_append, List.map_append]
      simp
    · rintro σ' G ⟨pf, o4, o5, rfl, eG, hpf⟩
      rw [List.length_map, List.take_length] at hpf
      have EG := e3.trans eG
      have hpf : G pf = some (.lst ((startsOf wk x).map V.int)) := hpf
      walk_at "rd"
      refine ⟨wa, vs, rfl, .inl ((E2.trans EG).toSame.seq hSq), ?_⟩
      rw [hvl]
      walk_at "rd"
      refine ⟨_, rfl, by omega, by omega, for_rangeN (lo := 0) (n := (wk.length : Int).toNat) (fun t σ' G1 => ∃ (pf : Addr) (Fs : List Int) (o4 o5 : Option V), σ' = [some (.ref wa), some (.int x), some (.ref pf), some (.ref n), o4, o5] ∧ Ext [] G G1 ∧ G1 pf = some (.lst (Fs.map V.int)) ∧ BehI (nxt wk) (startsOf wk x) wk.length Fs ∧ Lays (nxt wk) (startsOf wk x) t Fs) ?_ ?_ ?_⟩
      · exact ⟨pf, _, _, _, rfl, .refl _ _, hpf, .start _ _ _, .zero fun _ h => h⟩
      · rintro t σ' G1 ht ⟨pf, Fs, o4, o5, rfl, e4, hpf1, hI, hL⟩ N_ B_ C_ R_ hN_ hC_ hR_
        walk_at "rd"
        refine ⟨pf, _, rfl, .inl (SqL.of hpf1), fun ls hls => ?_⟩
        have e5 : Ext [] G1 (upd G1 ls (.lst (Fs.map V.int))) := .laid hls
        have hls2 : upd G1 ls (.lst (Fs.map V.int)) ls = some (.lst (Fs.map V.int)) := upd_same
        have hpf2 := e5 _ _ (by simp) hpf1
        generalize upd G1 ls (.lst (Fs.map V.int)) = G2 at e5 hls2 hpf2 ⊢
        refine ⟨ls, rfl, ⟨_, SqL.of hls2⟩, for_listN (xs := Fs.map V.int) (fun i σ' G3 => ∃ (pf : Addr) (Fs' : List Int) (o4 : Option V), σ' = [some (.ref wa), some (.int x), some (.ref pf), some (.ref n), o4, some (.int (0 + t))] ∧ Ext [] G2 G3 ∧ G3 pf = some (.lst (Fs'.map V.int)) ∧ BehI (nxt wk) (startsOf wk x) wk.length Fs' ∧ (∀ y ∈ Fs, y ∈ Fs') ∧ ∀ b ∈ Fs.take i, ∀ c ∈ nxt wk b, c ∈ Fs') ?_ ?_ ?_ ?_⟩
        · exact ⟨pf, Fs, _, rfl, .refl _ _, hpf2, hI, fun _ h => h, fun b hb => absurd hb (by simp)⟩
        · rintro i σ' G3 hi ⟨pf, Fs', o4, rfl, e6, hpf3, hI3, hsub, hcl⟩
          exact SqL.of (e6 _ _ (by simp) hls2)
        · rintro i v σ' G3 hv ⟨pf, Fs', o4, rfl, e6, hpf3, hI3, hsub, hcl⟩ N_ B_ C_ R_ hN_ hC_ hR_
          obtain ⟨y, hy, rfl⟩ := map_get hv
          have hyF := List.mem_of_getElem? hy
          obtain ⟨y0, y1⟩ := hrg y (hI.rk y hyF)
          have E3 := EG.trans (e4.trans (e5.trans e6))
          obtain ⟨c, hat, hc⟩ := (hN2.mono (E3.mono (by simp))).get (x := y) y0 y1
          have hFl := hI3.len
          have hcn := cnt_le (fun x => decide (x ∈ Fs')) wk.length
          have hf := few y
          walk_at "rd"
          refine r_ixL (SqL.of (E3 _ _ (by simp) hn2)) hat ?_
          refine ⟨c, rfl, ⟨_, SqL.of hc⟩, fun lc hlc => ?_⟩
          refine loop_list (xs := (nxt wk y).map V.int) (fun k σ' H3 => ∃ (o0 : Option V), σ' = [o0, some (.ref pf)] ∧ Ext [lc] G3 H3 ∧ H3 lc = some (.lst ((((nxt wk y).take k).filter fun x => !decide (x ∈ Fs')).map V.int))) ?_ ?_ ?_ ?_
          · exact ⟨none, rfl, .laid hlc, upd_same⟩
          · rintro k σ' H3 hk ⟨o0, rfl, e7, h3⟩
            exact SqL.of ((e7.drop hlc) _ _ (by simp) hc)
          · rintro k v σ' H3 R hv ⟨o0, rfl, e7, h3⟩ hR
            obtain ⟨z, hz, rfl⟩ := map_get hv
            have hk : k < (nxt wk y).length := (List.getElem?_eq_some_iff.mp hz).1
            walk_at "rd"
            refine r_ninI (SqL.of ((e7.drop hlc) _ _ (by simp) hpf3)) ?_
            walk_at "rd"
            by_cases g2 : z ∈ Fs'
            · rw [decide_eq_true g2]
              refine iteF (iteF (hR _ _ ⟨_, rfl, e7, ?_⟩))
              rw [take_get hz, List.filter_append]
              simpa [g2] using h3
            · rw [decide_eq_false g2]
              refine iteT (iteT ?_)
              walk_at "rd"
              have hl3 : ((((nxt wk y).take k).filter fun x => !decide (x ∈ Fs')).map V.int).length ≤ 2 := by
                rw [List.length_map]
                refine Nat.le_trans (List.length_filter_le _ _) ?_
                rw [List.length_take]; omega
              refine ⟨_, h3, small1000 (by omega), hR _ _ ⟨_, rfl, e7.trans (.put (by simp)), ?_⟩⟩
              rw [take_get hz, List.filter_append, upd_same]
              simp [g2]
          · rintro σ' H3 ⟨o0, rfl, e7, h3⟩
            rw [List.length_map, List.take_length] at h3
            have e7' := e7.drop hlc
            have hfl := List.length_filter_le (fun x => !decide (x ∈ Fs')) (nxt wk y)
            refine ⟨pf, lc, _, _, rfl, rfl, e7' _ _ (by simp) hpf3, h3, len2 (by rw [List.length_map, List.length_map]; omega), fun f1 hf1 => ?_⟩
            walk_at "rd"
            refine ⟨f1, grow (nxt wk) Fs' y, _, rfl, e6.trans (e7'.trans (.laid hf1)), ?_, hI3.grow (hsub y hyF) few hrg, fun z hz => mem_grow.mpr (.inl (hsub z hz)), fun b hb c hc => ?_⟩
            · rw [upd_same]; unfold grow; rw [List.map_append]
            · rw [take_get hy] at hb
              rcases List.mem_append.mp hb with z | z
              · exact mem_grow.mpr (.inl (hcl b z c hc))
              · rw [List.mem_singleton.mp z] at hc
                exact mem_grow.mpr (.inr hc)
        · rintro σ' G3 ⟨pf, Fs', o4, rfl, e6, hpf3, hI3, hsub, hcl⟩
          rw [List.length_map, List.take_length] at hcl
          walk_at "rd"
          exact ⟨pf, Fs', _, _, rfl, e4.trans (e5.trans e6), hpf3, hI3, hL.succ hsub hcl⟩
      · rintro σ' G1 ⟨pf, Fs, o4, o5, rfl, e4, hpf1, hI, hL⟩
        rw [Int.toNat_natCast] at hL
        have hFl := hI.len
        have hcn := cnt_le (fun x => decide (x ∈ Fs)) wk.length
        have hal := addAll_len Fs
        walk_at "rd"
        refine ⟨pf, Fs, rfl, SqL.of hpf1, by omega, fun ls hls => ?_⟩
        walk_at "rd"
        refine ⟨ls, addAll Fs, rfl, upd_same, by omega, fun lx ns hlx hp hso => ?_⟩
        have EF : Ext [] H (upd G1 ls (setO w (addAll Fs))) := (E2.trans (EG.trans e4)).trans (.laid hls)
        exact q lx ns _ (EF.none (by simp) hlx) (EF.trans (.laid hlx)) upd_same hso (hp.symm.nodup (addAll_nodup Fs)) fun y => by rw [hp.mem_iff, mem_addAll, hL.all hI hrg]
end
end Fs
set_option maxHeartbeats 1000000
namespace Fs
open PySem L2
section
variable {P : Program} {w : World} {K : PySem.W.Frag} {mg : Str → Option Value} {base : Heap}
noncomputable abbrev sBusy : Stmt := top 15
theorem scBusy : FnScope ["works", "number", "box", "waited", "between"] ["works", "number", "box"] (defScope sBusy) := ⟨rfl, rfl, rfl, by decide +kernel, rfl, by decide +kernel, by decide +kernel⟩
theorem ok_busy {f : Addr} {fd : FuncData} (F : Fun K "busy" "busy" sBusy f fd) (nsort : mg "sorted" = none) (nset : mg "set" = none) (hAw : Has P w K mg base "awaited" 5 ["works", "number", "box"] (spAwaited K)) (hRe : Has P w K mg base "reached" 3 ["works", "number", "box"] (spReached K)) (hWr : Has P w K mg base "writers" 2 ["work", "box"] (spWriters K)) :
    FnOk P w K mg base CX0 6 f fd ["works", "number", "box"] (spBusy K) := by
  refine F.ok scBusy (fun vs H Q E h => ?_) (fun cdv A outer s H vs Q E hr h => ?_)
  · obtain ⟨wa, ws, n, wk, x, rfl, _⟩ := h
    rfl
  · obtain ⟨wa, ws, n, wk, x, rfl, hW, hok, hwk, q⟩ := h
    refine ⟨_, pss_cons (ps_set (i := 3) scBusy.nd rfl (Or.inr rfl) (pe_fn hAw hr (by decide) (pa_cons (pv 0) (pa_cons (pv 1) (pa_cons (pv 2) pa_nil)))))
      (pss_cons (ps_lc (i := 4) ["at"] [3] rfl (.of rfl) scBusy.nd rfl (Or.inl rfl) (pi_list (pe_fn hRe hr (by decide) (pa_cons (pv 0) (pa_cons (pv 1) (pa_cons (pv 2) pa_nil))))) (fun _ _ _ _ => pg_name (i := 0) (by show ((["at", "waited"] : List Str)).Nodup; decide) rfl (Or.inl rfl)) (fun _ _ _ _ => .cons (pt_cmpR (inK K rfl) (pv 0) (pv 1) rfl) .nil) (fun _ _ _ _ => pv 0))
      (pss_one (ps_ret (pe_callB (call_sortS hr.hd) (by rfl) nsort PyProof.Rows.boot_sorted (pa_cons (pe_op op_orS
        (pe_callTy (call_setL hr.hd) (by rfl) nset PyProof.Rows.boot_set (pa_cons (pe_fn hWr hr (by decide) (pa_cons (pe_ix ix_list (pv 0) (pv 1) (fun _ _ => rfl)) (pa_cons (pv 2) pa_nil))) pa_nil))
        (pe_callTy (call_setL hr.hd) (by rfl) nset PyProof.Rows.boot_set (pa_cons (pv 4) pa_nil))) pa_nil))))), ?_⟩
    dsimp only [nox_K, comp_K, nox_w, cx_w]
    obtain ⟨a', vs, ea, hSq, hDL⟩ := hW.ofList
    cases ea
    obtain ⟨vw, hvw, hDw⟩ := hDL.get' (i := n) (d := workD wk) (by rw [List.getElem?_map, hwk]; rfl)
    obtain ⟨m, hm1, hm2, hWk⟩ := hok.all wk (List.mem_of_getElem? hwk)
    have hwm := hWk.len
    walk_at "rd"
    refine ⟨wa, ws, n, wk, x, rfl, hW, hok, hwk, fun la H1 hla e1 hla1 => ?_⟩
    walk_at "rd"
    refine ⟨wa, ws, n, wk, x, rfl, hW.mono e1.toSame, hok, hwk, fun lr ns H2 hlr e2 hlr2 hp hd hy => ?_⟩
    have hrg : ∀ y ∈ ns, 0 ≤ y ∧ y < m := fun y hy' => starts_range hWk ((hy y).mp hy')
    have hnl := rise_len hp hd hrg
    have hla2 := e2 _ _ (by simp) hla1
    walk_at "rd"
    refine ⟨lr, rfl, ⟨_, SqL.of hlr2⟩, fun lc hlc => ?_⟩
    refine loop_list (xs := ns.map V.int) (fun j σ' G => ∃ (o0 : Option V), σ' = [o0, some (.ref la)] ∧ Ext [lc] H2 G ∧ G lc = some (.lst (((ns.take j).filter fun y => decide (y ∈ waitTo ws x n wk.length)).map V.int))) ?_ ?_ ?_ ?_
    · exact ⟨none, rfl, .laid hlc, upd_same⟩
    · rintro j σ' G hj ⟨o0, rfl, e3, hlc3⟩
      exact SqL.of (e3 _ _ (by simpa using ne_of_none hlr2 hlc) hlr2)
    · rintro j v σ' G R hv ⟨o0, rfl, e3, hlc3⟩ hR
      obtain ⟨y, hy', rfl⟩ := map_get hv
      have hjl : j < ns.length := (List.getElem?_eq_some_iff.mp hy').1
      have htk : ns.take (j + 1) = ns.take j ++ [y] := by rw [List.take_add_one, hy']; rfl
      have hfl := List.length_filter_le (fun y => decide (y ∈ waitTo ws x n wk.length)) (ns.take j)
      rw [List.length_take] at hfl
      walk_at "rd"
      refine ⟨la, _, rfl, .inl (SqL.of (e3 _ _ (by simpa using ne_of_none hla2 hlc) hla2)), rfl, flat_ints _, ?_⟩
      rw [if_neg Bool.false_ne_true, inV_ints]
      walk_at "rd"
      by_cases hc : y ∈ waitTo ws x n wk.length
      · rw [decide_eq_true hc]
        refine iteT (iteT ?_)
        walk_at "rd"
        refine ⟨_, hlc3, small1000 (by rw [List.length_map]; omega), hR _ _ ⟨_, rfl, e3.trans (.put (by simp)), ?_⟩⟩
        rw [upd_same, htk, List.filter_append, List.filter_cons, decide_eq_true hc, if_pos rfl, List.filter_nil, List.map_append]; rfl
      · rw [decide_eq_false hc]
        refine iteF (iteF (hR _ _ ⟨_, rfl, e3, ?_⟩))
        rw [hlc3, htk, List.filter_append, List.filter_cons, decide_eq_false hc, if_neg Bool.false_ne_true, List.filter_nil, List.append_nil]
    · rintro σ' G ⟨o0, rfl, e3, hlc3⟩
      rw [List.length_map, List.take_length] at hlc3
      generalize hF : ns.filter (fun y => decide (y ∈ waitTo ws x n wk.length)) = F at hlc3
      have hFm : ∀ y, y ∈ F ↔ y ∈ ns ∧ y ∈ waitTo ws x n wk.length := fun y => by rw [← hF, List.mem_filter, decide_eq_true_eq]
      have hFl : F.length ≤ ns.length := by rw [← hF]; exact List.length_filter_le _ _
      have E3 : Ext [] H2 G := e3.drop hlc
      have dW3 := hW.mono (e1.trans (e2.trans E3)).toSame
      have hwl := wrTo_len wk x wk.length
      walk_at "rd"
      refine r_ixL ((e1.trans (e2.trans E3)).toSame.seq hSq) (atI_nat hvw) ?_
      walk_at "rd"
      obtain ⟨wb, bs, rfl, hbs, hdbs⟩ := hDw.ofList
      refine ⟨wb, wk, m, _, x, rfl, (Den.list hbs hdbs).mono (e1.trans (e2.trans E3)).toSame, hWk, hm2, fun lw H4 hlw e4 hlw4 => ?_⟩
      walk_at "rd"
      refine ⟨lw, wrTo wk x wk.length, rfl, SqL.of hlw4, by omega, fun s1 hs1 => ?_⟩
      have X5 : Ext [] H4 (upd H4 s1 (setO w (addAll (wrTo wk x wk.length)))) := .laid hs1
      have hs15 : (upd H4 s1 (setO w (addAll (wrTo wk x wk.length)))) s1 = some (setO w (addAll (wrTo wk x wk.length))) := upd_same
      generalize upd H4 s1 (setO w (addAll (wrTo wk x wk.length))) = H5 at X5 hs15 ⊢
      walk_at "rd"
      refine ⟨lc, F, rfl, SqL.of ((e4.trans X5) _ _ (by simp) hlc3), by omega, fun s2 hs2 => ?_⟩
      have hal1 := addAll_len (wrTo wk x wk.length)
      have hal2 := addAll_len F
      walk_at "rd"
      refine ⟨s1, s2, _, _, rfl, rfl, ne_of_none hs15 hs2, by rw [upd_ne (ne_of_none hs15 hs2)]; exact hs15, upd_same, small_of hm2 fun y hy' => wrTo_range hWk ((mem_addAll _).mp hy'), small_of hm2 fun y hy' => hrg y ((hFm y).mp ((mem_addAll _).mp hy')).1, by omega, fun s3 us hs3 hun hus => ?_⟩
      have X6 : Ext [] H5 (upd H5 s2 (setO w (addAll F))) := .laid hs2
      generalize upd H5 s2 (setO w (addAll F)) = H6 at X6 hs3 ⊢
      have hub : ∀ y ∈ us, 0 ≤ y ∧ y < m := fun y hy' => by
        rcases (hus y).mp hy' with z | z
        · exact wrTo_range hWk ((mem_addAll _).mp z)
        · exact hrg y ((hFm y).mp ((mem_addAll _).mp z)).1
      walk_at "rd"
      refine ⟨s3, us, rfl, upd_same, ?_, fun lx nx hlx hpx hso => ?_⟩
      · have := nodup_len 12 hun fun y hy' => by have := hub y hy'; omega
        omega
      · have EF : Ext [] H (upd H6 s3 (setO w us)) := (e1.trans (e2.trans (E3.trans (e4.trans (X5.trans X6))))).trans (.laid hs3)
        refine q lx nx _ (EF.none (by simp) hlx) (EF.trans (.laid hlx)) upd_same hso (hpx.symm.nodup hun) fun y => ?_
        rw [hpx.mem_iff, hus, mem_addAll, mem_addAll, hFm, hy]
        rfl
end
end Fs
set_option maxHeartbeats 1000000
namespace Fs
open PySem L2
section
variable {P : Program} {w : World} {K : PySem.W.Frag} {mg : Str → Option Value} {base : Heap}
noncomputable abbrev sLBusy : Stmt := top 33
theorem scLBusy : FnScope ["_law_works_here", "_law_number_here", "_law_box", "_law_work_here", "_law_both"] ["_law_works_here", "_law_number_here", "_law_box"] (defScope sLBusy) := ⟨rfl, rfl, rfl, by decide +kernel, rfl, by decide +kernel, by decide +kernel⟩
theorem ok_lbusy {f : Addr} {fd : FuncData} (F : Fun K "_law_busy" "_law_busy" sLBusy f fd) (nsort : mg "sorted" = none) (nset : mg "set" = none) (hB : Has P w K mg base "_law_behind" 2 ["_law_work_here", "_law_box"] (spBehind K)) (hA : Has P w K mg base "_law_is_asked" 2 ["_law_works_here", "_law_number_here", "_law_block", "_law_box"] (spIsAsked K)) (hWr : Has P w K mg base "_law_writes" 1 ["_law_work_here", "_law_box"] (spWriters K)) :
    FnOk P w K mg base CX0 3 f fd ["_law_works_here", "_law_number_here", "_law_box"] (spBusy K) := by
  refine F.ok scLBusy (fun vs H Q E h => ?_) (fun cdv A outer s H vs Q E hr h => ?_)
  · obtain ⟨wa, ws, n, wk, x, rfl, _⟩ := h
    rfl
  · obtain ⟨wa, ws, n, wk, x, rfl, hW, hok, hwk, q⟩ := h
    refine ⟨_, pss_cons (ps_set (i := 3) scLBusy.nd rfl (Or.inl rfl) (pe_ix ix_list (pv 0) (pv 1) (fun _ _ => rfl)))
      (pss_cons (ps_lc (i := 4) ["_law_b"] [0, 1, 2] rfl (.of rfl) scLBusy.nd rfl (Or.inl rfl) (pi_list (pe_fn hB hr (by decide) (pa_cons (pv 3) (pa_cons (pv 2) pa_nil)))) (fun _ _ _ _ => pg_name (i := 0) (by show ((["_law_b", "_law_works_here", "_law_number_here", "_law_box"] : List Str)).Nodup; decide) rfl (Or.inl rfl)) (fun _ _ _ _ => .cons (pt_truthK K rfl (pe_fn hA hr (by decide) (pa_cons (pv 1) (pa_cons (pv 2) (pa_cons (pv 0) (pa_cons (pv 3) pa_nil))))) (fun _ => rfl)) .nil) (fun _ _ _ _ => pv 0))
      (pss_one (ps_ret (pe_callB (call_sortS hr.hd) (by rfl) nsort PyProof.Rows.boot_sorted (pa_cons (pe_callTy (call_setL hr.hd) (by rfl) nset PyProof.Rows.boot_set (pa_cons (pe_op op_cat (pe_fn hWr hr (by decide) (pa_cons (pv 3) (pa_cons (pv 2) pa_nil))) (pv 4)) pa_nil)) pa_nil))))), ?_⟩
    dsimp only [nox_K, comp_K, nox_w, cx_w]
    obtain ⟨a', vs, ea, hSq, hDL⟩ := hW.ofList
    cases ea
    obtain ⟨vw, hvw, hDw⟩ := hDL.get' (i := n) (d := workD wk) (by rw [List.getElem?_map, hwk]; rfl)
    obtain ⟨wb, bs, rfl, hbs, hdbs⟩ := hDw.ofList
    obtain ⟨m, hm1, hm2, hWk⟩ := hok.all wk (List.mem_of_getElem? hwk)
    have hwm := hWk.len
    have hDw : Den K H (workD wk) (.ref wb) := .list hbs hdbs
    walk_at "rd"
    refine r_ixL hSq (atI_nat hvw) ?_
    walk_at "rd"
    refine ⟨wb, wk, m, _, x, rfl, hDw, hWk, hm2, fun lr ns H2 hlr e2 hlr2 hp hd hy => ?_⟩
    have hrg : ∀ y ∈ ns, 0 ≤ y ∧ y < m := fun y hy' => starts_range hWk ((hy y).mp hy')
    have hnl := rise_len hp hd hrg
    walk_at "rd"
    refine ⟨lr, rfl, ⟨_, SqL.of hlr2⟩, fun lc hlc => ?_⟩
    have dW2 := hW.mono e2.toSame
    refine loop_list (xs := ns.map V.int) (fun j σ' G => ∃ (o0 : Option V), σ' = [o0, some (.ref wa), some (.int n), some (.int x)] ∧ Ext [lc] H2 G ∧ G lc = some (.lst (((ns.take j).filter fun y => decide (y ∈ waitTo ws x n wk.length)).map V.int))) ?_ ?_ ?_ ?_
    · exact ⟨none, rfl, .laid hlc, upd_same⟩
    · rintro j σ' G hj ⟨o0, rfl, e3, hlc3⟩
      exact SqL.of (e3 _ _ (by simpa using ne_of_none hlr2 hlc) hlr2)
    · rintro j v σ' G R hv ⟨o0, rfl, e3, hlc3⟩ hR
      obtain ⟨y, hy', rfl⟩ := map_get hv
      have hjl : j < ns.length := (List.getElem?_eq_some_iff.mp hy').1
      have htk : ns.take (j + 1) = ns.take j ++ [y] := by rw [List.take_add_one, hy']; rfl
      have hfl := List.length_filter_le (fun y => decide (y ∈ waitTo ws x n wk.length)) (ns.take j)
      rw [List.length_take] at hfl
      obtain ⟨y0, y1⟩ := hrg y (List.mem_of_getElem? hy')
      obtain ⟨b, rfl⟩ : ∃ b : Nat, y = (b : Int) := ⟨y.toNat, by omega⟩
      have hbl : b < wk.length := by omega
      have hpl : ((n : Int), (b : Int)) ∈ places ws := by
        refine mem_places.mpr ?_
        rw [blkAt_nat, hwk]
        exact ⟨_, List.getElem?_eq_getElem hbl⟩
      have hiff : ((b : Int) ∈ waitTo ws x n wk.length) ↔ askB ws x ((n : Int), (b : Int)) = true := by
        rw [mem_waitTo]
        constructor
        · rintro ⟨a, ha, _, h⟩
          rw [show b = a by omega]; exact h
        · exact fun h => ⟨b, rfl, hbl, h⟩
      walk_at "rd"
      refine ⟨wa, ws, n, b, x, rfl, dW2.mono (e3.drop hlc).toSame, hok, hpl, fun G6 e6 => ?_⟩
      have hlc6 := e6 _ _ (by simp) hlc3
      refine ⟨askB ws x ((n : Int), (b : Int)), rfl, ?_⟩
      cases hask : askB ws x ((n : Int), (b : Int)) with
      | true =>
        have hc := hiff.mpr hask
        refine iteT (iteT ?_)
        walk_at "rd"
        refine ⟨_, hlc6, small1000 (by rw [List.length_map]; omega), hR _ _ ⟨_, rfl, (e3.trans (e6.mono (by simp))).trans (.put (by simp)), ?_⟩⟩
        rw [upd_same, htk, List.filter_append, List.filter_cons, decide_eq_true hc, if_pos rfl, List.filter_nil, List.map_append]; rfl
      | false =>
        have hc : ¬ (b : Int) ∈ waitTo ws x n wk.length := fun z => by rw [hiff.mp z] at hask; cases hask
        refine iteF (iteF (hR _ _ ⟨_, rfl, e3.trans (e6.mono (by simp)), ?_⟩))
        rw [hlc6, htk, List.filter_append, List.filter_cons, decide_eq_false hc, if_neg Bool.false_ne_true, List.filter_nil, List.append_nil]
    · rintro σ' G ⟨o0, rfl, e3, hlc3⟩
      rw [List.length_map, List.take_length] at hlc3
      generalize hF : ns.filter (fun y => decide (y ∈ waitTo ws x n wk.length)) = F at hlc3
      have hFm : ∀ y, y ∈ F ↔ y ∈ ns ∧ y ∈ waitTo ws x n wk.length := fun y => by rw [← hF, List.mem_filter, decide_eq_true_eq]
      have hFl : F.length ≤ ns.length := by rw [← hF]; exact List.length_filter_le _ _
      have E3 : Ext [] H2 G := e3.drop hlc
      have hwl := wrTo_len wk x wk.length
      walk_at "rd"
      refine ⟨wb, wk, m, _, x, rfl, hDw.mono (e2.trans E3).toSame, hWk, hm2, fun lw H4 hlw e4 hlw4 => ?_⟩
      walk_at "rd"
      refine ⟨lw, lc, _, _, rfl, rfl, hlw4, e4 _ _ (by simp) hlc3, len2 (by rw [List.length_map, List.length_map]; omega), fun f1 hf1 => ?_⟩
      rw [← List.map_append]
      have X5 : Ext [] H4 (upd H4 f1 (.lst ((wrTo wk x wk.length ++ F).map V.int))) := .laid hf1
      have hf15 : (upd H4 f1 (.lst ((wrTo wk x wk.length ++ F).map V.int))) f1 = some (.lst ((wrTo wk x wk.length ++ F).map V.int)) := upd_same
      generalize upd H4 f1 (.lst ((wrTo wk x wk.length ++ F).map V.int)) = H5 at X5 hf15 ⊢
      walk_at "rd"
      have hal := addAll_len (wrTo wk x wk.length ++ F)
      rw [List.length_append] at hal
      refine ⟨f1, _, rfl, SqL.of hf15, by rw [List.length_append]; omega, fun s1 hs1 => ?_⟩
      walk_at "rd"
      refine ⟨s1, _, rfl, upd_same, by omega, fun lx nx hlx hpx hso => ?_⟩
      have EF : Ext [] H (upd H5 s1 (setO w (addAll (wrTo wk x wk.length ++ F)))) := (e2.trans (E3.trans (e4.trans X5))).trans (.laid hs1)
      refine q lx nx _ (EF.none (by simp) hlx) (EF.trans (.laid hlx)) upd_same hso (hpx.symm.nodup (addAll_nodup _)) fun y => ?_
      rw [hpx.mem_iff, mem_addAll, List.mem_append, hFm, hy]
      rfl
end
end Fs
set_option maxHeartbeats 1000000
namespace Fs
open PySem L2
section
variable {P : Program} {w : World} {K : PySem.W.Frag} {mg : Str → Option Value} {base : Heap}
noncomputable abbrev sLBoxes : Stmt := top 34
theorem scLBoxes : FnScope ["_law_work_here"] ["_law_work_here"] (defScope sLBoxes) := ⟨rfl, rfl, rfl, by decide +kernel, rfl, by decide +kernel, by decide +kernel⟩
theorem ok_lboxes {f : Addr} {fd : FuncData} (F : Fun K "_law_boxes" "_law_boxes" sLBoxes f fd) (nrange : mg "range" = none) (hWr : Has P w K mg base "_law_writes" 1 ["_law_work_here", "_law_box"] (spWriters K)) :
    FnOk P w K mg base CX0 2 f fd ["_law_work_here"] (spBoxesL K) := by
  refine F.ok scLBoxes (fun vs H Q E h => ?_) (fun cdv A outer s H vs Q E hr h => ?_)
  · obtain ⟨wa, wk, m, works, rfl, _⟩ := h
    rfl
  · obtain ⟨wa, wk, m, works, rfl, hW, hOk, hm, q⟩ := h
    refine ⟨_, pss_one (ps_ret (pe_lc ["_law_box"] [0] rfl (.of rfl) (pi_range1 rfl nrange (pa_cons pe_int pa_nil)) (fun _ _ _ _ => pg_name (i := 0) (by show ((["_law_box", "_law_work_here"] : List Str)).Nodup; decide) rfl (Or.inl rfl)) (fun _ _ _ _ => .cons (pt_cmpR (neDK K rfl hr) (pe_fn hWr hr (by decide) (pa_cons (pv 1) (pa_cons (pv 0) pa_nil))) (pe_lst pa_nil) (nomark _)) .nil) (fun _ _ _ _ => pv 0))), ?_⟩
    try dsimp only [nox_K, comp_K, nox_w, cx_w]
    have hwm := hOk.len
    walk_at "rd"
    refine ⟨8, rfl, by decide, by decide, fun lc hlc => ?_⟩
    refine loop_range (lo := 0) (n := (8 : Int).toNat) (fun j σ' G => ∃ (o0 : Option V), σ' = [o0, some (.ref wa)] ∧ Ext [lc] H G ∧ G lc = some (.lst ((boxTo wk j).map V.int))) ?_ ?_ ?_
    · exact ⟨none, rfl, .laid hlc, upd_same⟩
    · rintro j σ' G R hj ⟨o0, rfl, e3, hlc3⟩ hR
      have hj8 : j < 8 := hj
      have hbl := boxTo_len wk j
      walk_at "rd"
      refine ⟨wa, wk, m, works, (j : Int), by show [V.ref wa, V.int (0 + (j : Int))] = [V.ref wa, V.int (j : Int)]; rw [Int.zero_add], hW.mono (e3.drop hlc).toSame, hOk, hm, fun lw G4 hlw e4 hlw4 => ?_⟩
      walk_at "rd"
      refine ⟨len2 (Nat.zero_le _), fun le hle => ?_⟩
      have X5 : Ext [] G4 (upd G4 le (.lst [])) := .laid hle
      have hle5 : (upd G4 le (.lst [])) le = some (.lst []) := upd_same
      generalize upd G4 le (.lst []) = G5 at X5 hle5 ⊢
      have hwl := wrTo_len wk (j : Int) wk.length
      obtain ⟨t1, t2, t3⟩ := ints_tame (ns := wrTo wk (j : Int) wk.length) (fun n hn => by have := wrTo_range hOk hn; omega) (by omega)
      have tS := tame_shaped t1 t3 ⟨_, rfl⟩
      obtain ⟨z1, z2, z3⟩ := ints_tame (ns := []) (fun n hn => by cases hn) (by decide)
      have zS := tame_shaped z1 z3 ⟨_, rfl⟩
      refine ⟨intsD (wrTo wk (j : Int) wk.length), intsD [], .list (SqL.of (X5 _ _ (by simp) hlw4)) (DenL.ofInts _), .list (SqL.of hle5) (DenL.ofInts _), tS, zS, ?_⟩
      rw [if_pos rfl]
      have hev : PyData.eqv (intsD (wrTo wk (j : Int) wk.length)) (intsD []) = decide (wrTo wk (j : Int) wk.length = []) := by
        cases wrTo wk (j : Int) wk.length with
        | nil => rfl
        | cons a r => simp [intsD, PyData.eqv, PyData.eqvAll]
      rw [hev]
      walk_at "rd"
      have hlc5 := (e4.trans X5) _ _ (by simp) hlc3
      by_cases hc : wrTo wk (j : Int) wk.length = []
      · rw [decide_eq_true hc]
        refine iteF (iteF (hR _ _ ⟨_, rfl, e3.trans ((e4.trans X5).mono (by simp)), ?_⟩))
        rw [hlc5, boxTo_succ, if_pos hc]
      · rw [decide_eq_false hc]
        refine iteT (iteT ?_)
        walk_at "rd"
        refine ⟨_, hlc5, small1000 (by rw [List.length_map]; omega), hR _ _ ⟨_, rfl, (e3.trans ((e4.trans X5).mono (by simp))).trans (.put (by simp)), ?_⟩⟩
        rw [upd_same, boxTo_succ, if_neg hc, List.map_append, Int.zero_add]; rfl
    · rintro σ' G ⟨o0, rfl, e3, hlc3⟩
      exact q lc G hlc (e3.drop hlc) hlc3
end
end Fs
set_option maxHeartbeats 1000000
namespace L2
open PySem PySem.Spec PyProof.Rows
noncomputable def scalD : PyData → Bool
  | .int _ => true
  | .str _ => true
  | _ => false
theorem scalL {H H' : Hp} : ∀ {ds : List PyData} {vs : List V}, ds.all scalD = true → DenEL H ds vs → DenEL H' ds vs
  | [], _, _, e => by have := e.ofNil; subst this; exact .nil
  | d :: ds, _, h, e => by
    obtain ⟨v, r, rfl, e1, e2⟩ := e.ofCons
    rw [List.all_cons, Bool.and_eq_true] at h
    refine .cons ?_ (scalL h.2 e2)
    cases d with
    | int i => rw [e1.ofInt]; exact .int
    | str i => rw [e1.ofStr]; exact .str
    | none => simp [scalD] at h
    | bool => simp [scalD] at h
    | list => simp [scalD] at h
    | tuple => simp [scalD] at h
    | dict => simp [scalD] at h
section
variable {H : Hp} {d : Addr} {us us' : List V}
theorem tupE_put {o : HO} {ds : List PyData} {v : V} (hd : H d = some (.lst us)) (h : ds.all scalD = true) (e : DenE H (.tuple ds) v) : DenE (upd H d o) (.tuple ds) v := by
  obtain ⟨p, vs, rfl, h1, h2⟩ := e.ofTupleE
  have np : p ≠ d := fun z => by rw [z, hd] at h1; cases h1
  exact .tuple (by rw [upd_ne np]; exact h1) (scalL h h2)
theorem deedE_put {o : HO} {x : Deed} {v : V} (hd : H d = some (.lst us)) (e : DenE H (deedD x) v) : DenE (upd H d o) (deedD x) v := by
  cases x <;> exact tupE_put hd rfl e
theorem endE_put {o : HO} {ns : List Int} {v : V} (hd : H d = some (.lst us)) (e : DenE H (endD ns) v) : DenE (upd H d o) (endD ns) v := by
  match ns, e with
  | [], e => exact tupE_put hd rfl e
  | [x], e => exact tupE_put hd rfl e
  | x :: y :: _, e => exact tupE_put hd rfl e
theorem deedsE_put {o : HO} (hd : H d = some (.lst us)) : ∀ {ds : List Deed} {vs : List V}, DenEL H (ds.map deedD) vs → DenEL (upd H d o) (ds.map deedD) vs
  | [], _, e => by have := e.ofNil; subst this; exact .nil
  | x :: ds, _, e => by
    obtain ⟨v, r, rfl, e1, e2⟩ := e.ofCons
    exact .cons (deedE_put hd e1) (deedsE_put hd e2)
theorem deed_tuple (x : Deed) : ∃ s r, deedD x = .tuple (.str s :: r) := by cases x <;> exact ⟨_, _, rfl⟩
theorem deed_ne_blk {x : Deed} {b : Blk} {v : V} (h1 : DenE H (deedD x) v) (h2 : DenE H (blkD b) v) : False := by
  obtain ⟨s, r, e⟩ := deed_tuple x
  rw [e] at h1
  obtain ⟨p, vs, rfl, a1, a2⟩ := h1.ofTupleE
  obtain ⟨q, ws, e2, b1, b2⟩ := h2.ofTupleE
  cases e2
  rw [a1] at b1
  cases b1
  obtain ⟨v, r', e3, c1, _⟩ := a2.ofCons
  obtain ⟨v', r'', e4, c2, _⟩ := b2.ofCons
  subst e3
  cases e4
  rw [c1.ofStr] at c2
  obtain ⟨_, _, z, _⟩ := c2.ofListE
  cases z
theorem deed_ne_work {x : Deed} {w : List Blk} {v : V} (h1 : DenE H (deedD x) v) (h2 : DenE H (workD w) v) : False := by
  obtain ⟨s, r, e⟩ := deed_tuple x
  rw [e] at h1
  obtain ⟨p, vs, rfl, a1, a2⟩ := h1.ofTupleE
  obtain ⟨q, ws, e2, b1, b2⟩ := h2.ofListE
  cases e2
  rw [a1] at b1
  cases b1
variable {ds ds' : List Deed}
def Put (ds' : List Deed) (b b' : Blk) : Prop := b'.ns = b.ns ∧ (b'.ds = b.ds ∨ b'.ds = ds')
theorem blk_put (hd : H d = some (.lst us)) (hn : DenEL H (ds'.map deedD) us') {b : Blk} {v : V} (e : DenE H (blkD b) v) : ∃ b', DenE (upd H d (.lst us')) (blkD b') v ∧ Put ds' b b' := by
  obtain ⟨p, vs, rfl, h1, h2⟩ := e.ofTupleE
  obtain ⟨v1, r1, rfl, c1, h3⟩ := h2.ofCons
  obtain ⟨v2, r2, rfl, c2, h4⟩ := h3.ofCons
  have := h4.ofNil
  subst this
  have np : p ≠ d := fun z => by rw [z, hd] at h1; cases h1
  obtain ⟨a, dvs, rfl, f1, f2⟩ := c1.ofListE
  have hp : (upd H d (.lst us')) p = some (.tup [.ref a, v2]) := by rw [upd_ne np]; exact h1
  by_cases ha : a = d
  · subst ha
    exact ⟨⟨ds', b.ns⟩, .tuple hp (.cons (.list upd_same (deedsE_put hd hn)) (.cons (endE_put hd c2) .nil)), rfl, .inr rfl⟩
  · exact ⟨b, .tuple hp (.cons (.list (by rw [upd_ne ha]; exact f1) (deedsE_put hd f2)) (.cons (endE_put hd c2) .nil)), rfl, .inl rfl⟩
theorem blks_put (hd : H d = some (.lst us)) (hn : DenEL H (ds'.map deedD) us') : ∀ {w : List Blk} {bs : List V}, DenEL H (w.map blkD) bs → ∃ w' : List Blk, DenEL (upd H d (.lst us')) (w'.map blkD) bs ∧ w'.length = w.length ∧ ∀ b' ∈ w', ∃ b ∈ w, Put ds' b b'
  | [], _, e => by have := e.ofNil; subst this; exact ⟨[], .nil, rfl, fun _ h => by cases h⟩
  | b :: w, _, e => by
    obtain ⟨v, r, rfl, e1, e2⟩ := e.ofCons
    obtain ⟨b', g1, g2⟩ := blk_put hd hn e1
    obtain ⟨w', k1, k2, k3⟩ := blks_put hd hn e2
    refine ⟨b' :: w', .cons g1 k1, by simp [k2], fun c hc => ?_⟩
    rcases List.mem_cons.mp hc with z | z
    · exact ⟨b, List.mem_cons_self .., z ▸ g2⟩
    · obtain ⟨b0, h0, h1⟩ := k3 c z
      exact ⟨b0, List.mem_cons_of_mem _ h0, h1⟩
theorem work_put (hd : H d = some (.lst us)) (ho : DenEL H (ds.map deedD) us) (hn : DenEL H (ds'.map deedD) us') {w : List Blk} {v : V} (hw : w ≠ []) (e : DenE H (workD w) v) : ∃ w' : List Blk, DenE (upd H d (.lst us')) (workD w') v ∧ w'.length = w.length ∧ ∀ b' ∈ w', ∃ b ∈ w, Put ds' b b' := by
  obtain ⟨a, bs, rfl, h1, h2⟩ := e.ofListE
  have na : a ≠ d := fun z => by
    subst z
    rw [hd] at h1
    cases h1
    cases w with
    | nil => exact hw rfl
    | cons b w =>
      obtain ⟨v, r, rfl, e1, _⟩ := h2.ofCons
      cases ds with
      | nil => have := ho.ofNil; cases this
      | cons x ds =>
        obtain ⟨v', r', e3, e4, _⟩ := ho.ofCons
        cases e3
        exact deed_ne_blk e4 e1
  obtain ⟨w', k1, k2, k3⟩ := blks_put hd hn h2
  exact ⟨w', .list (by rw [upd_ne na]; exact h1) k1, k2, k3⟩
theorem worksL_put (hd : H d = some (.lst us)) (ho : DenEL H (ds.map deedD) us) (hn : DenEL H (ds'.map deedD) us') : ∀ {ws : List (List Blk)} {vs : List V}, (∀ w ∈ ws, w ≠ []) → DenEL H (ws.map workD) vs → ∃ ws' : List (List Blk), DenEL (upd H d (.lst us')) (ws'.map workD) vs ∧ ws'.length = ws.length ∧ ∀ w' ∈ ws', ∃ w ∈ ws, w'.length = w.length ∧ ∀ b' ∈ w', ∃ b ∈ w, Put ds' b b'
  | [], _, _, e => by have := e.ofNil; subst this; exact ⟨[], .nil, rfl, fun _ h => by cases h⟩
  | w :: ws, _, hne, e => by
    obtain ⟨v, r, rfl, e1, e2⟩ := e.ofCons
    obtain ⟨w', g1, g2, g3⟩ := work_put hd ho hn (hne w (List.mem_cons_self ..)) e1
    obtain ⟨ws', k1, k2, k3⟩ := worksL_put hd ho hn (fun x hx => hne x (List.mem_cons_of_mem _ hx)) e2
    refine ⟨w' :: ws', .cons g1 k1, by simp [k2], fun c hc => ?_⟩
    rcases List.mem_cons.mp hc with z | z
    · exact ⟨w, List.mem_cons_self .., z ▸ ⟨g2, g3⟩⟩
    · obtain ⟨w0, h0, h1⟩ := k3 c z
      exact ⟨w0, List.mem_cons_of_mem _ h0, h1⟩
theorem works_put {ws : List (List Blk)} {l : Addr} (hok : WsOk ws) (hd : H d = some (.lst us)) (ho : DenEL H (ds.map deedD) us) (hn : DenEL H (ds'.map deedD) us') (hds : ∀ x ∈ ds', DeedOk (ws.length : Int) x) (hl : ds'.length ≤ 20) (e : DenE H (worksD ws) (.ref l)) :
    ∃ ws' : List (List Blk), DenE (upd H d (.lst us')) (worksD ws') (.ref l) ∧ WsOk ws' ∧ ws'.length = ws.length := by
  have hne : ∀ w ∈ ws, w ≠ [] := fun w hw z => by
    obtain ⟨m, h1, _, h3⟩ := hok.all w hw
    have := h3.len
    subst z
    simp at this
    omega
  obtain ⟨a, vs, ea, h1, h2⟩ := e.ofListE
  cases ea
  have na : l ≠ d := fun z => by
    subst z
    rw [hd] at h1
    cases h1
    cases ws with
    | nil => have := hok.one; simp at this
    | cons b w =>
      obtain ⟨v, r, rfl, e1, _⟩ := h2.ofCons
      cases ds with
      | nil => have := ho.ofNil; cases this
      | cons x ds =>
        obtain ⟨v', r', e3, e4, _⟩ := ho.ofCons
        cases e3
        exact deed_ne_work e4 e1
  obtain ⟨ws', k1, k2, k3⟩ := worksL_put hd ho hn hne h2
  refine ⟨ws', .list (by rw [upd_ne na]; exact h1) k1, ⟨fun w' hw' => ?_, by rw [k2]; exact hok.one, by rw [k2]; exact hok.few⟩, k2⟩
  obtain ⟨w, hw, g1, g2⟩ := k3 w' hw'
  obtain ⟨m, m1, m2, m3⟩ := hok.all w hw
  refine ⟨m, m1, m2, by rw [g1]; exact m3.len, fun b' hb' => ?_⟩
  obtain ⟨b, hb, p1, p2⟩ := g2 b' hb'
  have hb := m3.blk b hb
  rw [k2]
  refine ⟨by rw [p1]; exact hb.ns, fun x hx => ?_, ?_⟩
  · rcases p2 with z | z
    · rw [z] at hx; exact hb.ds x hx
    · rw [z] at hx; exact hds x hx
  · rcases p2 with z | z
    · rw [z]; exact hb.few
    · rw [z]; exact hl
end
theorem wo_upd {ts : List Addr} {G : Hp} {d : Addr} {o : HO} (h : d ∉ ts) : wo ts (upd G d o) = upd (wo ts G) d o := by
  funext b
  by_cases hb : b = d
  · subst hb; rw [wo_out h, upd_same, upd_same]
  · rw [upd_ne hb]
    by_cases ht : b ∈ ts
    · rw [wo_in ht, wo_in ht]
    · rw [wo_out ht, wo_out ht, upd_ne hb]
mutual
theorem DenE.off {H : Hp} {t : Addr} {x : Int} {r : List V} (ht : H t = some (.lst (.int x :: r))) : ∀ {d : PyData} {v : V}, noI d = true → DenE H d v → DenE (wo [t] H) d v
  | .none, _, _, e => by simp only [DenE] at e ⊢; exact e
  | .bool _, _, _, e => by simp only [DenE] at e ⊢; exact e
  | .int _, _, _, e => by simp only [DenE] at e ⊢; exact e
  | .str _, _, _, e => by simp only [DenE] at e ⊢; exact e
  | .list ds, _, hn, e => by
    simp only [DenE] at e ⊢
    obtain ⟨a, vs, e1, e2, e3⟩ := e
    simp only [noI, Bool.and_eq_true] at hn
    refine ⟨a, vs, e1, ?_, DenEL.off ht hn.1 e3⟩
    rw [wo_out]
    · exact e2
    · intro h
      have h := List.mem_singleton.mp h
      subst h
      rw [ht] at e2
      cases e2
      cases ds with
      | nil => have := e3.ofNil; cases this
      | cons d ds =>
        obtain ⟨v, r', e4, e5, _⟩ := e3.ofCons
        cases e4
        cases d with
        | int i => simp at hn
        | none => simp only [DenE] at e5; cases e5
        | bool => simp only [DenE] at e5; cases e5
        | str => simp only [DenE] at e5; cases e5
        | list => simp only [DenE] at e5; obtain ⟨_, _, z, _⟩ := e5; cases z
        | tuple => simp only [DenE] at e5; obtain ⟨_, _, z, _⟩ := e5; cases z
        | dict => simp only [DenE] at e5
  | .tuple ds, _, hn, e => by
    simp only [DenE] at e ⊢
    obtain ⟨a, vs, e1, e2, e3⟩ := e
    simp only [noI] at hn
    refine ⟨a, vs, e1, ?_, DenEL.off ht hn e3⟩
    rw [wo_out]
    · exact e2
    · intro h
      have h := List.mem_singleton.mp h
      subst h
      rw [ht] at e2; cases e2
  | .dict _, _, _, e => by simp only [DenE] at e
theorem DenEL.off {H : Hp} {t : Addr} {x : Int} {r : List V} (ht : H t = some (.lst (.int x :: r))) : ∀ {ds : List PyData} {vs : List V}, noIs ds = true → DenEL H ds vs → DenEL (wo [t] H) ds vs
  | [], _, _, e => by simp only [DenEL] at e ⊢; exact e
  | d :: ds, _, hn, e => by
    simp only [DenEL] at e ⊢
    simp only [noIs, Bool.and_eq_true] at hn
    obtain ⟨v, r, e1, e2, e3⟩ := e
    exact ⟨v, r, e1, DenE.off ht hn.1 e2, DenEL.off ht hn.2 e3⟩
end
theorem Tape.worksE {H : Hp} {t : Addr} {k : Nat} {ws : List (List Blk)} {v : V} (T : Tape H t k) (h : DenE H (worksD ws) v) : DenE (wo [t] H) (worksD ws) v := by
  obtain ⟨a, b, c, h1, _⟩ := T
  exact DenE.off h1 (noI_works ws) h
end L2
set_option maxHeartbeats 1000000
namespace Fs
open PySem L2
section
variable {P : Program} {w : World} {K : PySem.W.Frag} {mg : Str → Option Value} {base : Heap}
noncomputable abbrev sLaw : Stmt := top 35
theorem scLaw : FnScope ["_law_script", "_law_k", "_law_tape_here", "_law_works_here", "_law_numbers", "_law_boxes_here", "_law_number_here", "_law_box", "_law_due", "_law_found", "_law_turn", "_law_deeds_here", "_law_odd", "_law_place"] ["_law_script"] (defScope sLaw) := ⟨rfl, rfl, rfl, by decide +kernel, rfl, by decide +kernel, by decide +kernel⟩
noncomputable def spLaw (K : PySem.W.Frag) : Sp := fun vs H Q _ => ∃ (a : Addr) (ns : List Int), vs = [.ref a] ∧ SqL K H a (ns.map V.int) ∧ ns.length ≤ 63 ∧ Only H ∧ ∀ H', Q (.bl true) H'
theorem gen_ends {t : TS} {D : Ends} {σ : St} {H : Hp} (h : ∀ D' : Ends, (∀ σ H, D.nx σ H → D'.nx σ H) → (∀ σ H, D.ct σ H → D'.ct σ H) → (∀ σ H, D.bk σ H → D'.bk σ H) → (∀ v H, D.rt v H → D'.rt v H) → t D' σ H) : t D σ H := h D (fun _ _ h => h) (fun _ _ h => h) (fun _ _ h => h) (fun _ _ h => h)
theorem ok_law {f : Addr} {fd : FuncData} (F : Fun K "law" "law" sLaw f fd) (nrange : mg "range" = none) (nlen : mg "len" = none) (nmax : mg "max" = none) (nmin : mg "min" = none) (nrepr : mg "repr" = none) (nlist : mg "list" = none) (nint : mg "int" = none)
    (hT : Has P w K mg base "_law_tape" 1 ["_law_script", "_law_k"] (spTape K)) (hD : Has P w K mg base "_law_draw" 1 ["_law_tape_here", "_law_many_here"] spDraw) (hW : Has P w K mg base "_law_works" 5 ["_law_tape_here", "_law_most"] (spWorksE K)) (hZ : Has P w K mg base "_law_size" 1 ["_law_works_here"] (spSize K))
    (hLB : Has P w K mg base "_law_busy" 3 ["_law_works_here", "_law_number_here", "_law_box"] (spBusy K)) (hB : Has P w K mg base "busy" 6 ["works", "number", "box"] (spBusy K)) (hX : Has P w K mg base "_law_boxes" 2 ["_law_work_here"] (spBoxesL K)) :
    FnOk P w K mg base CX0 7 f fd ["_law_script"] (spLaw K) := by
  refine F.ok scLaw (fun vs H Q E h => ?_) (fun cdv A outer s H vs Q E hr h => ?_)
  · obtain ⟨a, ns, rfl, _⟩ := h
    rfl
  · obtain ⟨a, ns, rfl, hSq, hlen, hOnly, q⟩ := h
    refine ⟨_, (pss_cons (ps_for PassesOwn.never rfl (pi_range1 rfl nrange (pa_cons (pe_callB (call_max2 rfl) (by rfl) nmax PyProof.Rows.boot_max (pa_cons pe_int (pa_cons (pe_callB (call_min2 rfl) (by rfl) nmin PyProof.Rows.boot_min (pa_cons (pe_callB call_len_seq (by rfl) nlen PySem.boot_len (pa_cons (pv 0) pa_nil)) (pa_cons pe_int pa_nil))) pa_nil))) pa_nil)) (pg_name (i := 1) scLaw.nd rfl (Or.inl rfl))
      (pss_cons (ps_set (i := 2) scLaw.nd rfl (Or.inl rfl) (pe_fn hT hr (by decide) (pa_cons (pv 0) (pa_cons (pv 1) pa_nil))))
      (pss_cons (ps_set (i := 3) scLaw.nd rfl (Or.inl rfl) (pe_fn hW hr (by decide) (pa_cons (pv 2) (pa_cons pe_int pa_nil))))
      (pss_cons (ps_par (i := 4) (j := 5) rfl scLaw.nd rfl rfl (by decide) rfl rfl (pa_cons (pe_callTy (call_list_rng hr.hd) (by rfl) nlist PyProof.Rows.boot_list (pa_cons (pe_callTy call_range1 (by rfl) nrange PyProof.Rows.boot_range (pa_cons (pe_callB call_len_seq (by rfl) nlen PySem.boot_len (pa_cons (pv 3) pa_nil)) pa_nil)) pa_nil)) (pa_cons (pe_callTy (call_list_rng hr.hd) (by rfl) nlist PyProof.Rows.boot_list (pa_cons (pe_callTy call_range1 (by rfl) nrange PyProof.Rows.boot_range (pa_cons pe_int pa_nil)) pa_nil)) pa_nil)) rfl)
      (pss_cons (ps_if (pt_cmpR op_gt (pe_callB call_len_seq (by rfl) nlen PySem.boot_len (pa_cons (pv 3) pa_nil)) pe_int (nomark _)) (pss_one (ps_set (i := 4) scLaw.nd rfl (Or.inl rfl) (pe_lst (pa_cons (pe_fn hD hr (by decide) (pa_cons (pv 2) (pa_cons (pe_callB call_len_seq (by rfl) nlen PySem.boot_len (pa_cons (pv 3) pa_nil)) pa_nil))) (pa_cons (pe_op op_sub (pe_callB call_len_seq (by rfl) nlen PySem.boot_len (pa_cons (pv 3) pa_nil)) pe_int) pa_nil))))) pss_nil)
      (pss_cons (ps_if (pt_cmpR op_gt (pe_fn hZ hr (by decide) (pa_cons (pv 3) pa_nil)) pe_int (nomark _)) (pss_one (ps_par (i := 4) (j := 5) rfl scLaw.nd rfl rfl (by decide) rfl rfl (pa_cons (pe_slice sl_list (pv 4) po_none (po_some (pe_op op_mul pe_int (pe_callTy call_int1 (by rfl) nint PyProof.Rows.boot_int (pa_cons (pe_cmpR op_eq (pv 1) pe_int (nomark _)) pa_nil))))) (pa_cons (pe_lst (pa_cons (pe_fn hD hr (by decide) (pa_cons (pv 2) (pa_cons pe_int pa_nil))) (pa_cons (pe_fn hD hr (by decide) (pa_cons (pv 2) (pa_cons pe_int pa_nil))) pa_nil))) pa_nil)) rfl)) pss_nil)
      (pss_cons (ps_for PassesOwn.never rfl (pi_list (pv 4)) (pg_name (i := 6) scLaw.nd rfl (Or.inl rfl))
      (pss_one (ps_for PassesOwn.never rfl (pi_list (pv 5)) (pg_name (i := 7) scLaw.nd rfl (Or.inl rfl))
      (pss_cons (ps_set (i := 8) scLaw.nd rfl (Or.inl rfl) (pe_fn hLB hr (by decide) (pa_cons (pv 3) (pa_cons (pv 6) (pa_cons (pv 7) pa_nil)))))
      (pss_cons (ps_set (i := 9) scLaw.nd rfl (Or.inl rfl) (pe_fn hB hr (by decide) (pa_cons (pv 3) (pa_cons (pv 6) (pa_cons (pv 7) pa_nil)))))
      (pss_cons (ps_if (pt_cmpR op_ne (pe_callB (call_repr hr) (by rfl) nrepr PyProof.Rows.boot_repr (pa_cons (pv 9) pa_nil)) (pe_callB (call_repr hr) (by rfl) nrepr PyProof.Rows.boot_repr (pa_cons (pv 8) pa_nil)) (nomark _)) (pss_one (ps_ret pe_bl)) pss_nil)
      (pss_cons (ps_if (pw_and (pt_cmpR op_notIn_seq (pv 7) (pe_fn hX hr (by decide) (pa_cons (pe_ix ix_list (pv 3) (pv 6) (fun _ _ => rfl)) pa_nil)) rfl) (pw_and1 (pt_cmpR (op_neD hr) (pv 9) (pe_lst pa_nil) (nomark _)))).pt (pss_one (ps_ret pe_bl)) pss_nil)
      (pss_cons (ps_expr (pe_bm PySem.F.plainAttrs_list PySem.F.slot_list_append PySem.F.type_list_append mt_append (pv 9) (pa_cons pe_int pa_nil)))
      (pss_one (ps_if (pt_cmpR (op_neD hr) (pe_fn hB hr (by decide) (pa_cons (pv 3) (pa_cons (pv 6) (pa_cons (pv 7) pa_nil)))) (pv 8) (nomark _)) (pss_one (ps_ret pe_bl)) pss_nil))))))))))
      (pss_cons (ps_par (i := 6) (j := 7) rfl scLaw.nd rfl rfl (by decide) rfl rfl (pa_cons (pe_fn hD hr (by decide) (pa_cons (pv 2) (pa_cons (pe_callB call_len_seq (by rfl) nlen PySem.boot_len (pa_cons (pv 3) pa_nil)) pa_nil))) (pa_cons (pe_fn hD hr (by decide) (pa_cons (pv 2) (pa_cons pe_int pa_nil))) pa_nil)) rfl)
      (pss_one (ps_for PassesOwn.never rfl (pi_range1 rfl nrange (pa_cons pe_int pa_nil)) (pg_name (i := 10) scLaw.nd rfl (Or.inl rfl))
      (pss_cons (ps_set (i := 11) scLaw.nd rfl (Or.inl rfl) (pe_ix ix_tup (pe_ix ix_list (pe_ix ix_list (pv 3) (pv 6) (fun _ _ => rfl)) (pe_fn hD hr (by decide) (pa_cons (pv 2) (pa_cons (pe_callB call_len_seq (by rfl) nlen PySem.boot_len (pa_cons (pe_ix ix_list (pv 3) (pv 6) (fun _ _ => rfl)) pa_nil)) pa_nil))) (fun _ _ => rfl)) pe_int (fun _ _ => rfl)))
      (pss_cons (ps_set (i := 12) scLaw.nd rfl (Or.inl rfl) (pe_ix ix_list (pe_lst (pa_cons (pe_tup (pa_cons pe_str (pa_cons (pv 7) pa_nil))) (pa_cons (pe_tup (pa_cons pe_str (pa_cons (pv 7) (pa_cons pe_int pa_nil)))) (pa_cons (pe_tup (pa_cons pe_str (pa_cons (pe_fn hD hr (by decide) (pa_cons (pv 2) (pa_cons (pe_callB call_len_seq (by rfl) nlen PySem.boot_len (pa_cons (pv 3) pa_nil)) pa_nil))) pa_nil))) pa_nil)))) (pv 10) (fun _ _ => rfl)))
      (pss_cons (ps_if (pt_cmpR op_lt (pe_callB call_len_seq (by rfl) nlen PySem.boot_len (pa_cons (pv 11) pa_nil)) pe_int (nomark _)) (pss_one (ps_expr (pe_bm PySem.F.plainAttrs_list PySem.F.slot_list_insert PySem.F.type_list_insert mt_insert (pv 11) (pa_cons (pe_fn hD hr (by decide) (pa_cons (pv 2) (pa_cons (pe_op op_add (pe_callB call_len_seq (by rfl) nlen PySem.boot_len (pa_cons (pv 11) pa_nil)) pe_int) pa_nil))) (pa_cons (pv 12) pa_nil))))) pss_nil)
      (pss_one (ps_for PassesOwn.never rfl (pi_list (pv 4)) (pg_name (i := 13) scLaw.nd rfl (Or.inl rfl))
      (pss_one (ps_if (pt_cmpR (op_neD hr) (pe_fn hB hr (by decide) (pa_cons (pv 3) (pa_cons (pv 13) (pa_cons (pv 7) pa_nil)))) (pe_fn hLB hr (by decide) (pa_cons (pv 3) (pa_cons (pv 13) (pa_cons (pv 7) pa_nil)))) (nomark _)) (pss_one (ps_ret pe_bl)) pss_nil)))))))))))))))))
      (pss_one (ps_ret pe_bl))), ?_⟩
    dsimp only [nox_K, comp_K]
    have hOx : ∀ {G : Hp} {d : Addr} {xs ys : List V}, Ext [] H G → G d = some (.lst xs) → Ext [] H (upd G d (.lst ys)) := by
      intro G d xs ys e hd b o _ hb
      rcases hOnly b with z | ⟨o', zs, z⟩
      · rw [z] at hb; cases hb
      · have hG := e b o (by simp) hb
        have nb : b ≠ d := fun y => by
          rw [y, hd] at hG
          rw [z] at hb
          cases hb
          cases hG
        rw [upd_ne nb]; exact hG
    walk_at "rd"
    refine ⟨a, _, rfl, .inl hSq, ?_⟩
    rw [List.length_map]
    walk_at "rd"
    refine ⟨_, _, rfl, ?_⟩
    walk_at "rd"
    refine ⟨_, _, rfl, ?_⟩
    generalize hN : (if (if (3 : Int) < (ns.length : Int) then (3 : Int) else (ns.length : Int)) > 1 then (if (3 : Int) < (ns.length : Int) then (3 : Int) else (ns.length : Int)) else 1) = N
    have hN1 : 1 ≤ N ∧ N ≤ 3 := by
      rw [← hN]
      repeat' split
      all_goals omega
    walk_at "rd"
    refine ⟨N, rfl, by omega, by omega, for_range (lo := 0) (n := N.toNat) (fun i σ' H' => ∃ (o1 o2 o3 o4 o5 o6 o7 o8 o9 o10 o11 o12 o13 : Option V), σ' = [some (.ref a), o1, o2, o3, o4, o5, o6, o7, o8, o9, o10, o11, o12, o13] ∧ Ext [] H H') ?_ ?_ ?_⟩
    · exact ⟨_, _, _, _, _, _, _, _, _, _, _, _, _, rfl, .refl _ _⟩
    · rintro i σ' H' hi ⟨o1, o2, o3, o4, o5, o6, o7, o8, o9, o10, o11, o12, o13, rfl, e'⟩
      with_reducible refine L2.r_gn ?_
      refine gen_ends fun DA hnA _ _ _ => ?_
      walk_at "rd"
      refine ⟨a, ns, i, by show [V.ref a, V.int (0 + (i : Int))] = [V.ref a, V.int (i : Int)]; rw [Int.zero_add], e'.toSame.seq hSq, by omega, fun t H1 ht T1 s1 => ?_⟩
      walk_at "rd"
      refine ⟨t, 0, 4, rfl, T1, by omega, by decide, by decide, fun l ws H2 T2 e2 dWE hok => ?_⟩
      have e12 : Ext [t] H' H2 := (show Ext [t] H' H1 from fun b o _ h => s1 b o h).trans e2
      have EH2 : Ext [] H H2 := e'.trans (e12.drop ht)
      have htH : H t = none := e'.none (by simp) ht
      have hof := hok.few
      have ho1 := hok.one
      have dWo := T2.worksE dWE
      obtain ⟨l', us, ee, hSl, hDus⟩ := DenE.ofList (K := K) dWE
      cases ee
      have hul := hDus.len
      rw [List.length_map] at hul
      walk_at "rd"
      refine ⟨l, us, rfl, .inl hSl, ?_⟩
      walk_at "rd"
      refine ⟨_, rfl, fun p1 hp1 => ?_⟩
      walk_at "rd"
      refine ⟨p1, us.length, rfl, upd_same, by omega, fun ln hln => ?_⟩
      walk_at "rd"
      refine ⟨8, rfl, fun p2 hp2 => ?_⟩
      walk_at "rd"
      refine ⟨p2, 8, rfl, upd_same, by decide, fun lb hlb => ?_⟩
      have X1 : Ext [] H2 (upd H2 p1 (.rng 0 (us.length : Int))) := .laid hp1
      generalize upd H2 p1 (.rng 0 (us.length : Int)) = G1 at X1 hln hp2 hlb ⊢
      have X2 : Ext [] G1 (upd G1 ln (.lst ((List.range us.length).map fun (i : Nat) => V.int (i : Int)))) := .laid hln
      have hln2 : (upd G1 ln (.lst ((List.range us.length).map fun (i : Nat) => V.int (i : Int)))) ln = some (.lst ((List.range us.length).map fun (i : Nat) => V.int (i : Int))) := upd_same
      generalize upd G1 ln (.lst ((List.range us.length).map fun (i : Nat) => V.int (i : Int))) = G2 at X2 hln2 hp2 hlb ⊢
      have X3 : Ext [] G2 (upd G2 p2 (.rng 0 8)) := .laid hp2
      generalize upd G2 p2 (.rng 0 8) = G3 at X3 hlb ⊢
      have X4 : Ext [] G3 (upd G3 lb (.lst ((List.range 8).map fun (i : Nat) => V.int (i : Int)))) := .laid hlb
      have hlb4 : (upd G3 lb (.lst ((List.range 8).map fun (i : Nat) => V.int (i : Int)))) lb = some (.lst ((List.range 8).map fun (i : Nat) => V.int (i : Int))) := upd_same
      generalize upd G3 lb (.lst ((List.range 8).map fun (i : Nat) => V.int (i : Int))) = G4 at X4 hlb4 ⊢
      have X24 : Ext [] H2 G4 := X1.trans (X2.trans (X3.trans X4))
      have nln0 : ln ≠ t := (T2.ext X1 (by simp)).ne hln
      have nlb0 : lb ≠ t := (T2.ext (X1.trans (X2.trans X3)) (by simp)).ne hlb
      have hlnH : H2 ln = none := X1.none (by simp) hln
      have hln4 := (X3.trans X4) _ _ (by simp) hln2
      have T4 := T2.ext X24 (by simp)
      have hlb4' : G4 lb = some (.lst (([0, 1, 2, 3, 4, 5, 6, 7] : List Int).map V.int)) := hlb4
      walk_at "rd"
      refine ⟨_, _, rfl, ?_⟩
      with_reducible refine r_seqC (fun σ' G => ∃ (ln : Addr) (nums : List Nat) (kk : Nat), σ' = [some (.ref a), some (.int (0 + (i : Int))), some (.ref t), some (.ref l), some (.ref ln), some (.ref lb), o6, o7, o8, o9, o10, o11, o12, o13] ∧ Tape G t kk ∧ kk ≤ 30000 ∧ Ext [t] H2 G ∧ H2 ln = none ∧ ln ≠ t ∧ G ln = some (.lst (nums.map fun (n : Nat) => V.int (n : Int))) ∧ (∀ n ∈ nums, n < ws.length) ∧ nums.length ≤ 30 ∧ G lb = some (.lst (([0, 1, 2, 3, 4, 5, 6, 7] : List Int).map V.int))) ?_ (fun hC => ?_)
      · rintro σ' G ⟨ln, nums, kk, rfl, TG, hkk, eG, hlnH, nln, hln, hnums, hnl, hlb⟩
        with_reducible refine r_seqC (fun σ' G => ∃ (ln lb : Addr) (nums : List Nat) (bxs : List Int) (kk : Nat), σ' = [some (.ref a), some (.int (0 + (i : Int))), some (.ref t), some (.ref l), some (.ref ln), some (.ref lb), o6, o7, o8, o9, o10, o11, o12, o13] ∧ Tape G t kk ∧ kk ≤ 31000 ∧ Ext [t] H2 G ∧ H2 ln = none ∧ ln ≠ t ∧ G ln = some (.lst (nums.map fun (n : Nat) => V.int (n : Int))) ∧ (∀ n ∈ nums, n < ws.length) ∧ nums.length ≤ 30 ∧ G lb = some (.lst (bxs.map V.int)) ∧ bxs.length ≤ 8 ∧ ∀ x ∈ bxs, 0 ≤ x ∧ x < 8) ?_ (fun hC => ?_)
        · rintro σ' G ⟨ln, lb, nums, bxs, kk, rfl, TG, hkk, eG, hlnH, nln, hln, hnums, hnl, hlb, hbl, hbx⟩
          have dGE : DenE G (worksD ws) (.ref l) := (dWo.mono eG.same).mono (wo_same _ _)
          have dG : Den K G (worksD ws) (.ref l) := dGE.den
          walk_at "rd"
          refine ⟨ln, rfl, ⟨_, SqL.of hln⟩, for_list (xs := nums.map fun (n : Nat) => V.int (n : Int)) (fun j σ' G' => ∃ (o6 o7 o8 o9 o10 o11 o12 o13 : Option V), σ' = [some (.ref a), some (.int (0 + (i : Int))), some (.ref t), some (.ref l), some (.ref ln), some (.ref lb), o6, o7, o8, o9, o10, o11, o12, o13] ∧ Ext [] G G') ?_ ?_ ?_ ?_⟩
          · exact ⟨_, _, _, _, _, _, _, _, rfl, .refl _ _⟩
          · rintro j σ' G' hj ⟨o6, o7, o8, o9, o10, o11, o12, o13, rfl, eG'⟩
            exact SqL.of (eG' _ _ (by simp) hln)
          · rintro j v σ' G' hv ⟨o6, o7, o8, o9, o10, o11, o12, o13, rfl, eG'⟩
            with_reducible refine L2.r_gn ?_
            refine gen_ends fun DB hnB _ _ _ => ?_
            obtain ⟨n, hn, rfl⟩ := map_get hv
            have hnw := hnums n (List.mem_of_getElem? hn)
            have dG' := dG.mono eG'.toSame
            obtain ⟨l', us', ee, hSl', hDus'⟩ := dG'.ofList
            cases ee
            obtain ⟨wk, hwk⟩ : ∃ wk, ws[n]? = some wk := ⟨_, List.getElem?_eq_getElem hnw⟩
            obtain ⟨vw, hvw, dw⟩ := hDus'.get' (i := n) (d := workD wk) (by rw [List.getElem?_map, hwk]; rfl)
            obtain ⟨m, hm1, hm2, hOk⟩ := hok.all wk (List.mem_of_getElem? hwk)
            have hwm := hOk.len
            obtain ⟨b0, bs, rfl, hSb, hDb⟩ := dw.ofList
            walk_at "rd"
            have hlb' := eG' _ _ (by simp) hlb
            refine ⟨lb, rfl, ⟨_, SqL.of hlb'⟩, for_list (xs := bxs.map V.int) (fun j σ' G2 => ∃ (o7 o8 o9 o10 o11 o12 o13 : Option V), σ' = [some (.ref a), some (.int (0 + (i : Int))), some (.ref t), some (.ref l), some (.ref ln), some (.ref lb), some (.int (n : Int)), o7, o8, o9, o10, o11, o12, o13] ∧ Ext [] G' G2) ?_ ?_ ?_ ?_⟩
            · exact ⟨_, _, _, _, _, _, _, rfl, .refl _ _⟩
            · rintro j σ' G2 hj ⟨o7, o8, o9, o10, o11, o12, o13, rfl, e2'⟩
              exact SqL.of (e2' _ _ (by simp) hlb')
            · rintro j v σ' G2 hv ⟨o7, o8, o9, o10, o11, o12, o13, rfl, e2'⟩
              with_reducible refine L2.r_gn ?_
              refine gen_ends fun DC hnC _ _ _ => ?_
              obtain ⟨x, hx, rfl⟩ := map_get hv
              have hxr := hbx x (List.mem_of_getElem? hx)
              have dW2 := dG'.mono e2'.toSame
              have dw2 : Den K G2 (workD wk) (.ref b0) := Den.mono e2'.toSame (.list hSb hDb)
              walk_at "rd"
              refine ⟨l, ws, n, wk, x, rfl, dW2, hok, hwk, fun ld ns1 H3 hld e3 hld3 hp1 hd1 hy1 => ?_⟩
              have hrg : ∀ y ∈ ns1, 0 ≤ y ∧ y < m := fun y hy => busy_range hOk ((hy1 y).mp hy)
              have hnl1 := rise_len hp1 hd1 hrg
              obtain ⟨t1, t2, t3⟩ := ints_tame (ns := ns1) (fun n hn => by have := hrg n hn; omega) (by omega)
              obtain ⟨u1, u2, u3⟩ := tame_shown t1 t2 t3
              have tS := tame_shaped t1 t3 ⟨_, rfl⟩
              walk_at "rd"
              refine ⟨l, ws, n, wk, x, rfl, dW2.mono e3.toSame, hok, hwk, fun lf ns2 H4 hlf e4 hlf4 hp2 hd2 hy2 => ?_⟩
              obtain rfl : ns2 = ns1 := rising_same hp2 hd2 hp1 hd1 fun y => by rw [hy2, hy1]
              have hld4 := e4 _ _ (by simp) hld3
              have E4 : Ext [] G2 H4 := e3.trans e4
              walk_at "rd"
              refine ⟨lf, intsD ns2, rfl, .list (SqL.of hlf4) (DenL.ofInts _), u1, u2, u3, ?_⟩
              walk_at "rd"
              refine ⟨ld, intsD ns2, rfl, .list (SqL.of hld4) (DenL.ofInts _), u1, u2, u3, ?_⟩
              walk_at "rd"
              refine r_neS ?_
              rw [decide_eq_true rfl]
              walk_at "rd"
              refine iteF ?_
              with_reducible refine L2.r_next ?_
              with_reducible refine r_seqC (fun σ' G5 => ∃ (o10 o11 o12 o13 : Option V), σ' = [some (.ref a), some (.int (0 + (i : Int))), some (.ref t), some (.ref l), some (.ref ln), some (.ref lb), some (.int (n : Int)), some (.int x), some (.ref ld), some (.ref lf), o10, o11, o12, o13] ∧ Ext [] H4 G5) ?_ (fun hC => ?_)
              · rintro σ' G5 ⟨o10, o11, o12, o13, rfl, e5⟩
                have hlf5 := e5 _ _ (by simp) hlf4
                have hld5 := e5 _ _ (by simp) hld4
                walk_at "rd"
                refine r_tyL hlf5 ?_
                walk_at "rd"
                refine r_app hlf5 (small1000 (by rw [List.length_map]; omega)) ?_
                have X6 : Ext [lf] G5 (upd G5 lf (.lst (ns2.map V.int ++ [.int 0]))) := .put (by simp)
                generalize upd G5 lf (.lst (ns2.map V.int ++ [.int 0])) = H6 at X6 ⊢
                have E6 : Ext [] H3 H6 := (((e4.trans e5).mono (us := [lf]) (by simp)).trans X6).drop hlf
                walk_at "rd"
                refine ⟨l, ws, n, wk, x, rfl, dW2.mono (e3.trans E6).toSame, hok, hwk, fun lQ nsQ H7 hlQ e7 hlQ7 hpQ hdQ hyQ => ?_⟩
                obtain rfl : nsQ = ns2 := rising_same hpQ hdQ hp1 hd1 fun y => by rw [hyQ, hy1]
                walk_at "rd"
                refine ⟨intsD nsQ, intsD nsQ, .list (SqL.of hlQ7) (DenL.ofInts _), .list (SqL.of ((E6.trans e7) _ _ (by simp) hld3)) (DenL.ofInts _), tS, tS, ?_⟩
                rw [if_pos rfl, eqv_refl _ (tame_nodict t1)]
                walk_at "rd"
                refine iteF ?_
                walk_at "rd"
                exact hnC _ _ ⟨_, _, _, _, _, _, _, rfl, e2'.trans (e3.trans (E6.trans e7))⟩
              · refine gen_ends fun DF hnF _ _ _ => ?_
                replace hC := fun σ' H' h => hnF σ' H' (hC σ' H' h)
                walk_at "rd"
                refine r_ixL ((e2'.trans E4).toSame.seq hSl') (atI_nat hvw) ?_
                walk_at "rd"
                refine ⟨b0, wk, m, _, rfl, dw2.mono E4.toSame, hOk, hm2, fun lx H5 hlx e5 hlx5 => ?_⟩
                walk_at "rd"
                refine ⟨lx, _, rfl, .inl (SqL.of hlx5), rfl, flat_ints _, ?_⟩
                rw [if_pos rfl, inV_ints]
                walk_at "rd"
                by_cases hxb : x ∈ boxTo wk 8
                · rw [decide_eq_true hxb]
                  refine iteF ?_
                  refine iteF ?_
                  with_reducible refine L2.r_next ?_
                  exact hC _ _ ⟨_, _, _, _, rfl, e5⟩
                · rw [decide_eq_false hxb]
                  refine iteT ?_
                  have hw0 : wrTo wk x wk.length = [] := by
                    by_cases z : wrTo wk x wk.length = []
                    · exact z
                    · exact absurd (mem_boxTo.mpr ⟨by omega, z⟩) hxb
                  have hn0 : ns2 = [] := by
                    cases ns2 with
                    | nil => rfl
                    | cons y r => exact absurd ((hy1 y).mp (List.mem_cons_self ..)) (busy_none hw0 y)
                  subst hn0
                  walk_at "rd"
                  refine ⟨len2 (Nat.zero_le _), fun le hle => ?_⟩
                  refine ⟨intsD [], intsD [], .list (SqL.of ((e5.trans (.laid hle)) _ _ (by simp) hlf4)) (DenL.ofInts _), .list (SqL.of upd_same) (DenL.ofInts _), tS, tS, ?_⟩
                  rw [if_pos rfl, eqv_refl _ (tame_nodict t1)]
                  walk_at "rd"
                  refine iteF ?_
                  with_reducible refine L2.r_next ?_
                  exact hC _ _ ⟨_, _, _, _, rfl, e5.trans (.laid hle)⟩
            · rintro σ' G2 ⟨o7, o8, o9, o10, o11, o12, o13, rfl, e2'⟩
              walk_at "rd"
              exact hnB _ _ ⟨_, _, _, _, _, _, _, _, rfl, eG'.trans e2'⟩
          · rintro σ' G' ⟨o6, o7, o8, o9, o10, o11, o12, o13, rfl, eG'⟩
            have EG' : Ext [t] H2 G' := eG.trans (eG'.mono (by simp))
            have TG' := TG.ext eG' (by simp)
            have hln' := eG' _ _ (by simp) hln
            have dGl : DenE (wo [t, ln] G') (worksD ws) (.ref l) := dWo.mono fun b o hb => by
              by_cases z : b ∈ [t]
              · rw [wo_in z] at hb; cases hb
              · rw [wo_out z] at hb
                have nb : b ≠ ln := ne_of_none hb hlnH
                have nt : b ≠ t := by simpa using z
                rw [wo_out (by simp [nb, nt])]
                exact EG' _ _ z hb
            have EHG : Ext [] H G' := ((EH2.mono (us := [t]) (by simp)).trans EG').drop htH
            obtain ⟨l', us', ee, hl', hD'⟩ := dGl.ofListE
            cases ee
            have hul2 := hD'.len
            rw [List.length_map] at hul2
            walk_at "rd"
            refine ⟨l, us', rfl, .inl (SqL.of (wo_same _ _ _ _ hl')), ?_⟩
            rw [show us'.length = ws.length by omega]
            walk_at "rd"
            refine r_draw (n := (ws.length : Int)) TG' (by omega) (by omega) (by omega) fun r1 G1 a1 b1 TG1 eG1 _ => ?_
            walk_at "rd"
            refine r_draw TG1 (by omega) (by decide) (by decide) fun x G2 a2 b2 TG2 eG2 _ => ?_
            obtain ⟨n0, rfl⟩ := Int.eq_ofNat_of_zero_le a1
            walk_at "rd"
            refine ⟨_, _, rfl, ?_⟩
            have eG12 : Ext [t] G' G2 := eG1.trans eG2
            walk_at "rd"
            refine ⟨3, rfl, by decide, by decide, for_range (lo := 0) (n := (3 : Int).toNat) (fun j σ' G3 => ∃ (ws' : List (List Blk)) (kk' : Nat) (o8 o9 o10 o11 o12 o13 : Option V), σ' = [some (.ref a), some (.int (0 + (i : Int))), some (.ref t), some (.ref l), some (.ref ln), some (.ref lb), some (.int (n0 : Int)), some (.int x), o8, o9, o10, o11, o12, o13] ∧ Tape G3 t kk' ∧ kk' ≤ 31100 + 10 * j ∧ Ext [] H G3 ∧ DenE (wo [t, ln] G3) (worksD ws') (.ref l) ∧ WsOk ws' ∧ ws'.length = ws.length ∧ G3 ln = some (.lst (nums.map fun (n : Nat) => V.int (n : Int)))) ?_ ?_ ?_⟩
            · exact ⟨ws, _, _, _, _, _, _, _, rfl, TG2, by omega, ((EHG.mono (us := [t]) (by simp)).trans eG12).drop htH, dGl.mono (eG12.mono (us := [t, ln]) (by simp)).same, hok, rfl, eG12 _ _ (by simpa using nln) hln'⟩
            · rintro j σ' G3 hj ⟨ws', kk', o8, o9, o10, o11, o12, o13, rfl, T3, hk3, E3, d3, hok3, hwl3, hln3⟩
              with_reducible refine L2.r_gn ?_
              refine gen_ends fun DD hnD _ _ _ => ?_
              have hj3 : j < 3 := hj
              obtain ⟨l3, us3, ee, hl3, hD3⟩ := d3.ofListE
              cases ee
              have hul3 := hD3.len
              rw [List.length_map] at hul3
              obtain ⟨wk, hwk⟩ : ∃ wk, ws'[n0]? = some wk := ⟨_, List.getElem?_eq_getElem (by omega)⟩
              obtain ⟨vw, hvw, dw⟩ := hD3.get' (i := n0) (d := workD wk) (by rw [List.getElem?_map, hwk]; rfl)
              obtain ⟨m, hm1, hm2, hOk⟩ := hok3.all wk (List.mem_of_getElem? hwk)
              have hwm := hOk.len
              obtain ⟨a0, bs, rfl, ha0, hDb⟩ := dw.ofListE
              have hbsl := hDb.len
              rw [List.length_map] at hbsl
              have g3 : ∀ {b : Addr} {o : HO}, wo [t, ln] G3 b = some o → b ≠ t ∧ b ≠ ln ∧ G3 b = some o := by
                intro b o hb
                by_cases z : b ∈ [t, ln]
                · rw [wo_in z] at hb; cases hb
                · rw [wo_out z] at hb
                  simp at z
                  exact ⟨z.1, z.2, hb⟩
              walk_at "rd"
              refine r_ixL (SqL.of (g3 hl3).2.2) (atI_nat hvw) ?_
              walk_at "rd"
              refine r_ixL (SqL.of (g3 hl3).2.2) (atI_nat hvw) ?_
              walk_at "rd"
              refine ⟨a0, bs, rfl, .inl (SqL.of (g3 ha0).2.2), ?_⟩
              walk_at "rd"
              refine r_draw (n := (bs.length : Int)) T3 (by omega) (by omega) (by omega) fun r3 G4 a3 b3 T4' e4 _ => ?_
              obtain ⟨b, rfl⟩ := Int.eq_ofNat_of_zero_le a3
              obtain ⟨blk, hblk⟩ : ∃ blk, wk[b]? = some blk := ⟨_, List.getElem?_eq_getElem (by omega)⟩
              obtain ⟨vb, hvb, db⟩ := hDb.get' (i := b) (d := blkD blk) (by rw [List.getElem?_map, hblk]; rfl)
              obtain ⟨p, pvs, rfl, hp, hpv⟩ := db.ofTupleE
              obtain ⟨v1, q1', rfl, c1, hq1'⟩ := hpv.ofCons
              obtain ⟨v2, q2', rfl, c2, hq2'⟩ := hq1'.ofCons
              have hq2' := hq2'.ofNil
              subst hq2'
              obtain ⟨d, dus, rfl, hd, hdus⟩ := c1.ofListE
              have hbok := hOk.blk blk (List.mem_of_getElem? hblk)
              have hdl := hdus.len
              rw [List.length_map] at hdl
              have g4 : ∀ {b : Addr} {o : HO}, wo [t, ln] G3 b = some o → G4 b = some o := fun {b o} hb => e4 _ _ (by simpa using (g3 hb).1) (g3 hb).2.2
              walk_at "rd"
              refine r_ixL (SqL.of (g4 ha0)) (atI_nat hvb) ?_
              walk_at "rd"
              refine r_ixT (SqT.of (g4 hp)) rfl ?_
              walk_at "rd"
              refine ⟨len2 (by show 2 ≤ 1000; decide), fun q1 hq1 => ?_⟩
              have Y5 : Ext [] G4 (upd G4 q1 (.tup [.str "tell", .int x])) := .laid hq1
              have hq15 : (upd G4 q1 (.tup [.str "tell", .int x])) q1 = some (.tup [.str "tell", .int x]) := upd_same
              generalize upd G4 q1 (.tup [.str "tell", .int x]) = G5 at Y5 hq15 ⊢
              walk_at "rd"
              refine ⟨len2 (by show 3 ≤ 1000; decide), fun q2 hq2 => ?_⟩
              have Y6 : Ext [] G5 (upd G5 q2 (.tup [.str "set", .int x, .int 3])) := .laid hq2
              have hq26 : (upd G5 q2 (.tup [.str "set", .int x, .int 3])) q2 = some (.tup [.str "set", .int x, .int 3]) := upd_same
              generalize upd G5 q2 (.tup [.str "set", .int x, .int 3]) = G6 at Y6 hq26 ⊢
              have Y46 : Ext [] G4 G6 := Y5.trans Y6
              walk_at "rd"
              refine ⟨l, us3, rfl, .inl (SqL.of (Y46 _ _ (by simp) (g4 hl3))), ?_⟩
              walk_at "rd"
              refine r_draw (n := (us3.length : Int)) (T4'.ext Y46 (by simp)) (by omega) (by omega) (by omega) fun r4 G7 a4 b4 T7 e7 _ => ?_
              walk_at "rd"
              refine ⟨len2 (by show 2 ≤ 1000; decide), fun q3 hq3 => ?_⟩
              have Y8 : Ext [] G7 (upd G7 q3 (.tup [.str "call", .int r4])) := .laid hq3
              have hq38 : (upd G7 q3 (.tup [.str "call", .int r4])) q3 = some (.tup [.str "call", .int r4]) := upd_same
              generalize upd G7 q3 (.tup [.str "call", .int r4]) = G8 at Y8 hq38 ⊢
              walk_at "rd"
              refine ⟨len2 (by show 3 ≤ 1000; decide), fun lq hlq => ?_⟩
              have Y9 : Ext [] G8 (upd G8 lq (.lst [.ref q1, .ref q2, .ref q3])) := .laid hlq
              have hlq9 : (upd G8 lq (.lst [.ref q1, .ref q2, .ref q3])) lq = some (.lst [.ref q1, .ref q2, .ref q3]) := upd_same
              generalize upd G8 lq (.lst [.ref q1, .ref q2, .ref q3]) = G9 at Y9 hlq9 ⊢
              have T9 := T7.ext (Y8.trans Y9) (by simp)
              have Y39 : Ext [t] G3 G9 := e4.trans ((Y46.mono (by simp)).trans (e7.trans ((Y8.trans Y9).mono (by simp))))
              have hln4 := e4 _ _ (by simpa using nln) hln3
              have nq1 : q1 ≠ t ∧ q1 ≠ ln := ⟨T4'.ne hq1, (ne_of_none hln4 hq1).symm⟩
              have nq2 : q2 ≠ t ∧ q2 ≠ ln := ⟨(T4'.ext Y5 (by simp)).ne hq2, (ne_of_none (Y5 _ _ (by simp) hln4) hq2).symm⟩
              have nq3 : q3 ≠ t ∧ q3 ≠ ln := ⟨T7.ne hq3, (ne_of_none (e7 _ _ (by simpa using nln) (Y46 _ _ (by simp) hln4)) hq3).symm⟩
              have h19 : G9 q1 = some (.tup [.str "tell", .int x]) := (Y8.trans Y9) _ _ (by simp) (e7 _ _ (by simpa using nq1.1) (Y6 _ _ (by simp) hq15))
              have h29 : G9 q2 = some (.tup [.str "set", .int x, .int 3]) := (Y8.trans Y9) _ _ (by simp) (e7 _ _ (by simpa using nq2.1) hq26)
              have h39 : G9 q3 = some (.tup [.str "call", .int r4]) := Y9 _ _ (by simp) hq38
              obtain ⟨po, xo, hpo, hxo, hat⟩ : ∃ (po : Addr) (xo : Deed), DenE (wo [t, ln] G9) (deedD xo) (.ref po) ∧ DeedOk (ws'.length : Int) xo ∧ atI [V.ref q1, V.ref q2, V.ref q3] (0 + (j : Int)) = some (.ref po) := by
                rcases (show j = 0 ∨ j = 1 ∨ j = 2 by omega) with z | z | z
                · subst z
                  exact ⟨q1, .tell x, .tuple (by rw [wo_out (by simp [nq1])]; exact h19) (.cons .str (.cons .int .nil)), ⟨a2, b2⟩, rfl⟩
                · subst z
                  exact ⟨q2, .set x 3, .tuple (by rw [wo_out (by simp [nq2])]; exact h29) (.cons .str (.cons .int (.cons .int .nil))), ⟨a2, b2, by decide, by decide⟩, rfl⟩
                · subst z
                  exact ⟨q3, .call r4, .tuple (by rw [wo_out (by simp [nq3])]; exact h39) (.cons .str (.cons .int .nil)), ⟨a4, by omega⟩, rfl⟩
              walk_at "rd"
              refine r_ixL (SqL.of hlq9) hat ?_
              with_reducible refine L2.r_gn ?_
              have d9 : DenE (wo [t, ln] G9) (worksD ws') (.ref l) := d3.mono (Y39.mono (us := [t, ln]) (by simp)).same
              have E9 : Ext [] H G9 := ((E3.mono (us := [t]) (by simp)).trans Y39).drop htH
              have hd9 : G9 d = some (.lst dus) := Y39 _ _ (by simpa using (g3 hd).1) (g3 hd).2.2
              have hdus9 := hdus.mono (Y39.mono (us := [t, ln]) (by simp)).same
              have hln9 := Y39 _ _ (by simpa using nln) hln3
              with_reducible refine r_seqC (fun σ' G => ∃ (ws' : List (List Blk)) (kk' : Nat) (o8 o9 o10 o11 o12 o13 : Option V), σ' = [some (.ref a), some (.int (0 + (i : Int))), some (.ref t), some (.ref l), some (.ref ln), some (.ref lb), some (.int (n0 : Int)), some (.int x), o8, o9, o10, o11, o12, o13] ∧ Tape G t kk' ∧ kk' ≤ 31100 + 10 * (j + 1) ∧ Ext [] H G ∧ DenE (wo [t, ln] G) (worksD ws') (.ref l) ∧ WsOk ws' ∧ ws'.length = ws.length ∧ G ln = some (.lst (nums.map fun (n : Nat) => V.int (n : Int)))) ?_ (fun hC => ?_)
              · rintro σ' G ⟨ws', kk', o8, o9, o10, o11, o12, o13, rfl, TG, hkG, EG, dG, hokG, hwlG, hlnG⟩
                have dGK : Den K G (worksD ws') (.ref l) := (dG.mono (wo_same _ _)).den
                walk_at "rd"
                refine ⟨ln, rfl, ⟨_, SqL.of hlnG⟩, for_list (xs := nums.map fun (n : Nat) => V.int (n : Int)) (fun j σ' G' => ∃ (o13 : Option V), σ' = [some (.ref a), some (.int (0 + (i : Int))), some (.ref t), some (.ref l), some (.ref ln), some (.ref lb), some (.int (n0 : Int)), some (.int x), o8, o9, o10, o11, o12, o13] ∧ Ext [] G G') ?_ ?_ ?_ ?_⟩
                · exact ⟨_, rfl, .refl _ _⟩
                · rintro j σ' G' hj ⟨o13, rfl, eG'⟩
                  exact SqL.of (eG' _ _ (by simp) hlnG)
                · rintro j v σ' G' hv ⟨o13, rfl, eG'⟩
                  with_reducible refine L2.r_gn ?_
                  refine gen_ends fun DE hnE _ _ _ => ?_
                  obtain ⟨n, hn, rfl⟩ := map_get hv
                  have hnw := hnums n (List.mem_of_getElem? hn)
                  obtain ⟨wk, hwk⟩ : ∃ wk, ws'[n]? = some wk := ⟨_, List.getElem?_eq_getElem (by omega)⟩
                  obtain ⟨m, hm1, hm2, hOk⟩ := hokG.all wk (List.mem_of_getElem? hwk)
                  have hwm := hOk.len
                  walk_at "rd"
                  refine ⟨l, ws', n, wk, x, rfl, dGK.mono eG'.toSame, hokG, hwk, fun ld ns1 H3 hld e3 hld3 hp1 hd1 hy1 => ?_⟩
                  have hrg : ∀ y ∈ ns1, 0 ≤ y ∧ y < m := fun y hy => busy_range hOk ((hy1 y).mp hy)
                  have hnl1 := rise_len hp1 hd1 hrg
                  obtain ⟨t1, t2, t3⟩ := ints_tame (ns := ns1) (fun n hn => by have := hrg n hn; omega) (by omega)
                  have tS := tame_shaped t1 t3 ⟨_, rfl⟩
                  walk_at "rd"
                  refine ⟨l, ws', n, wk, x, rfl, dGK.mono (eG'.trans e3).toSame, hokG, hwk, fun lf ns2 H4 hlf e4 hlf4 hp2 hd2 hy2 => ?_⟩
                  obtain rfl : ns2 = ns1 := rising_same hp2 hd2 hp1 hd1 fun y => by rw [hy2, hy1]
                  refine ⟨intsD ns2, intsD ns2, .list (SqL.of (e4 _ _ (by simp) hld3)) (DenL.ofInts _), .list (SqL.of hlf4) (DenL.ofInts _), tS, tS, ?_⟩
                  rw [if_pos rfl, eqv_refl _ (tame_nodict t1)]
                  walk_at "rd"
                  refine iteF ?_
                  walk_at "rd"
                  exact hnE _ _ ⟨_, rfl, eG'.trans (e3.trans e4)⟩
                · rintro σ' G' ⟨o13, rfl, eG'⟩
                  walk_at "rd"
                  exact hnD _ _ ⟨ws', kk', _, _, _, _, _, _, rfl, TG.ext eG' (by simp), hkG, EG.trans eG', dG.mono (eG'.mono (us := [t, ln]) (by simp)).same, hokG, hwlG, eG' _ _ (by simp) hlnG⟩
              · refine gen_ends fun DF hnF _ _ _ => ?_
                replace hC := fun σ' H' h => hnF σ' H' (hC σ' H' h)
                walk_at "rd"
                refine ⟨d, dus, rfl, .inl (SqL.of hd9), ?_⟩
                walk_at "rd"
                refine ite2 (fun hlt => ?_) (fun hlt => ?_)
                · have hlt : (dus.length : Int) < 20 := by simpa using hlt
                  walk_at "rd"
                  refine r_tyL hd9 ?_
                  walk_at "rd"
                  refine ⟨d, dus, rfl, .inl (SqL.of hd9), ?_⟩
                  walk_at "rd"
                  refine r_draw (n := (dus.length : Int) + 1) T9 (by omega) (by omega) (by omega) fun r5 G10 a5 b5 T10 e10 _ => ?_
                  walk_at "rd"
                  have hd10 := e10 _ _ (by simpa using (g3 hd).1) hd9
                  refine ⟨d, dus, r5, _, rfl, rfl, hd10, a5, by omega, by omega, ?_⟩
                  have ndt : d ∉ [t, ln] := by simp [(g3 hd).1, (g3 hd).2.1]
                  have W10 := (e10.mono (us := [t, ln]) (by simp)).same
                  have hdw : wo [t, ln] G10 d = some (.lst dus) := by rw [wo_out ndt]; exact hd10
                  have E10 : Ext [] H G10 := ((E9.mono (us := [t]) (by simp)).trans e10).drop htH
                  obtain ⟨ws2, y1, y2, y3⟩ := works_put (us' := dus.take r5.toNat ++ V.ref po :: dus.drop r5.toNat) (ds := blk.ds) (ds' := blk.ds.take r5.toNat ++ xo :: blk.ds.drop r5.toNat) hok3 hdw (hdus9.mono W10) (by
                    rw [List.map_append, List.map_cons, List.map_take, List.map_drop]
                    exact DenEL.append (dtake _ (hdus9.mono W10)) (.cons (hpo.mono W10) (ddrop _ (hdus9.mono W10)))) (fun y hy => by
                    rcases List.mem_append.mp hy with z | z
                    · exact hbok.ds y (List.mem_of_mem_take z)
                    · rcases List.mem_cons.mp z with z | z
                      · rw [z]; exact hxo
                      · exact hbok.ds y (List.mem_of_mem_drop z)) (by rw [List.length_append, List.length_cons, List.length_take, List.length_drop]; omega) (d9.mono W10)
                  rw [← wo_upd ndt] at y1
                  exact hC _ _ ⟨ws2, _, _, _, _, _, _, _, rfl, T10.ext (ts := [d]) (.put (by simp)) (by simpa using (g3 hd).1.symm), by omega, hOx E10 hd10, y1, y2, by omega, by rw [upd_ne (g3 hd).2.1.symm]; exact e10 _ _ (by simpa using nln) hln9⟩
                · with_reducible refine L2.r_next ?_
                  exact hC _ _ ⟨ws', _, _, _, _, _, _, _, rfl, T9, by omega, E9, d9, hok3, hwl3, hln9⟩
            · rintro σ' G3 ⟨ws', kk', o8, o9, o10, o11, o12, o13, rfl, T3, hk3, E3, _⟩
              walk_at "rd"
              exact hnA _ _ ⟨_, _, _, _, _, _, _, _, _, _, _, _, _, rfl, E3⟩
        · refine gen_ends fun DF hnF _ _ _ => ?_
          replace hC := fun σ' H' h => hnF σ' H' (hC σ' H' h)
          walk_at "rd"
          have dG : Den K G (worksD ws) (.ref l) := ((dWo.mono eG.same).mono (wo_same _ _)).den
          refine ⟨l, ws, rfl, dG, by omega, fun w hw => by obtain ⟨m, _, h2, h3⟩ := hok.all w hw; have := h3.len; omega, fun r G1 eG1 => ?_⟩
          have hln1 := eG1 _ _ (by simp) hln
          walk_at "rd"
          refine ite2 (fun hbig => ?_) (fun hbig => ?_)
          · walk_at "rd"
            refine r_eqI ?_
            walk_at "rd"
            refine .inr ⟨_, rfl, ?_⟩
            have hbit := bit01 (decide ((0 : Int) + (i : Int) = 0))
            generalize (if decide ((0 : Int) + (i : Int) = 0) = true then (1 : Int) else 0) = bit at hbit ⊢
            refine r_mul (.inl ⟨by decide, by decide⟩) ?_
            refine ⟨2 * bit, rfl, ?_⟩
            refine ⟨ln, _, rfl, SqL.of hln1, fun lq hlq => ?_⟩
            rw [show 2 * bit = (((2 * bit).toNat : Nat) : Int) by omega, cut_take', ← List.map_take]
            have nlq : lq ≠ t := (TG.ext eG1 (by simp)).ne hlq
            have Y2 : Ext [] G1 (upd G1 lq (.lst ((nums.take (2 * bit).toNat).map fun (n : Nat) => V.int (n : Int)))) := .laid hlq
            have hlq2 : (upd G1 lq (.lst ((nums.take (2 * bit).toNat).map fun (n : Nat) => V.int (n : Int)))) lq = some (.lst ((nums.take (2 * bit).toNat).map fun (n : Nat) => V.int (n : Int))) := upd_same
            generalize upd G1 lq (.lst ((nums.take (2 * bit).toNat).map fun (n : Nat) => V.int (n : Int))) = G2 at Y2 hlq2 ⊢
            walk_at "rd"
            refine r_draw (TG.ext (eG1.trans Y2) (by simp)) (by omega) (by decide) (by decide) fun r1 G3 a1 b1 T3 eG3 _ => ?_
            walk_at "rd"
            refine r_draw T3 (by omega) (by decide) (by decide) fun r2 G4 a2 b2 T4 eG4 _ => ?_
            walk_at "rd"
            refine ⟨len2 (by show 2 ≤ 1000; decide), fun lp hlp => ?_⟩
            walk_at "rd"
            refine ⟨_, _, rfl, ?_⟩
            have E34 : Ext [t] G2 G4 := eG3.trans eG4
            have hlq4 := E34 _ _ (by simpa using nlq) hlq2
            have E14 : Ext [t] H2 G4 := eG.trans (((eG1.trans Y2).mono (by simp)).trans E34)
            have EH1 : Ext [t] H2 G1 := eG.trans (eG1.mono (by simp))
            exact hC _ _ ⟨lq, lp, nums.take (2 * bit).toNat, [r1, r2], _, rfl, T4.ext (ts := []) (.laid hlp) (by simp), by omega, E14.trans (.laid hlp), EH1.none (by simpa using nlq) hlq, nlq, by rw [upd_ne (ne_of_none hlq4 hlp)]; exact hlq4, fun n hn => hnums n (List.mem_of_mem_take hn), by rw [List.length_take]; omega, upd_same, by show 2 ≤ 8; decide, fun x hx => by
              rcases List.mem_cons.mp hx with z | z
              · omega
              · have := List.mem_singleton.mp z; omega⟩
          · with_reducible refine L2.r_next ?_
            exact hC _ _ ⟨ln, lb, nums, [0, 1, 2, 3, 4, 5, 6, 7], kk, rfl, TG.ext eG1 (by simp), by omega, eG.trans (eG1.mono (by simp)), hlnH, nln, hln1, hnums, hnl, eG1 _ _ (by simp) hlb, by decide, by decide⟩
      · refine gen_ends fun DF hnF _ _ _ => ?_
        replace hC := fun σ' H' h => hnF σ' H' (hC σ' H' h)
        walk_at "rd"
        have dG : DenE G4 (worksD ws) (.ref l) := dWE.mono X24.toSame
        refine ⟨l, us, rfl, .inl (X24.toSame.seq hSl), ?_⟩
        walk_at "rd"
        refine ite2 (fun hbig => ?_) (fun hbig => ?_)
        · walk_at "rd"
          refine ⟨l, us, rfl, .inl (X24.toSame.seq hSl), ?_⟩
          walk_at "rd"
          refine r_draw (n := (us.length : Int)) T4 (by omega) (by omega) (by omega) fun r1 G5 a1 b1 T5 e5 _ => ?_
          walk_at "rd"
          obtain ⟨l5, us5, ee5, hSl5, hDus5⟩ := DenE.ofList (K := K) (((T4.worksE dG).mono e5.same).mono (wo_same _ _))
          cases ee5
          have hul5 := hDus5.len
          rw [List.length_map] at hul5
          refine ⟨l, us5, rfl, .inl hSl5, ?_⟩
          rw [show us5.length = us.length by omega]
          walk_at "rd"
          refine ⟨len2 (by show 2 ≤ 1000; decide), fun lp hlp => ?_⟩
          with_reducible refine L2.r_gn ?_
          have hlb5 := e5 _ _ (by simpa using nlb0) hlb4'
          have hr1 : (r1.toNat : Int) = r1 := Int.toNat_of_nonneg a1
          have nlp : lp ≠ t := T5.ne hlp
          refine hC _ _ ⟨lp, [r1.toNat, us.length - 1], _, rfl, T5.ext (ts := []) (.laid hlp) (by simp), by omega, (X24.mono (by simp)).trans (e5.trans (.laid hlp)), ((X24.mono (us := [t]) (by simp)).trans e5).none (by simpa using nlp) hlp, nlp, ?_, ?_, by show 2 ≤ 30; decide, ?_⟩
          · rw [upd_same]
            show some (HO.lst [V.int r1, V.int ((us.length : Int) - 1)]) = some (HO.lst [V.int (r1.toNat : Int), V.int ((us.length - 1 : Nat) : Int)])
            rw [hr1, show ((us.length - 1 : Nat) : Int) = (us.length : Int) - 1 by omega]
          · intro n hn
            rcases List.mem_cons.mp hn with z | z
            · omega
            · have := List.mem_singleton.mp z; omega
          · rw [upd_ne (ne_of_none hlb5 hlp)]; exact hlb5
        · with_reducible refine L2.r_next ?_
          exact hC _ _ ⟨ln, List.range us.length, _, rfl, T4, by omega, X24.mono (by simp), hlnH, nln0, hln4, fun n hn => by have := List.mem_range.mp hn; omega, by rw [List.length_range]; omega, hlb4'⟩
    · rintro σ' H' ⟨o1, o2, o3, o4, o5, o6, o7, o8, o9, o10, o11, o12, o13, rfl, e'⟩
      walk_at "rd"
      exact q H'
end
end Fs
set_option maxHeartbeats 1000000
namespace Fs
open PySem L2
theorem has_mk {P : Program} {w : World} {K : PySem.W.Frag} {mg : Str → Option Value} {base h : Heap} {x : Str} {st : Stmt} {k : Nat} {ps : List Str} {sp : Sp} {f : Addr} {oc : Value} {od an : Option Addr} {osl : Array (Option Value)} {kV doc pm cdv ct : Value} (X : K.In h) (G : h.Ns mainGlobals mg)
    (a : PySem.W.nsIn K mainGlobals x = some (some (.ref f))) (l : K.lookup f = some ⟨oc, od, .func (PySem.W.fnOf x x (defArgs st) (defBody st) (defScope st) .none kV doc pm an cdv ct), osl⟩) (c : PySem.W.codeIn K cdv x = true) (kk : PySem.W.keepIn K (.ref f) = true)
    (hb : ∀ (kV doc pm : Value) (an : Option Addr) (cdv ct : Value) (us : List Value), us.length = ps.length → bindArgs (PySem.W.fnOf x x (defArgs st) (defBody st) (defScope st) .none kV doc pm an cdv ct) ⟨us, []⟩ = pure (ps.zip us))
    (ok : ∀ fd, Fun K x x st f fd → FnOk P w K mg base CX0 k f fd ps sp) : Has P w K mg base x k ps sp := by
  have F := fun_mk (st := st) l c kk
  exact ⟨f, _, ok _ F, PySem.W.mg_of X G a, kk, F.binds hb⟩
theorem lenIs1 {us : List Value} (h : us.length = 1) : ∃ a0, us = [a0] := by
  match us, h with
  | [a0], _ => exact ⟨a0, rfl⟩
theorem lenIs2 {us : List Value} (h : us.length = 2) : ∃ a0 a1, us = [a0, a1] := by
  match us, h with
  | [a0, a1], _ => exact ⟨a0, a1, rfl⟩
theorem lenIs3 {us : List Value} (h : us.length = 3) : ∃ a0 a1 a2, us = [a0, a1, a2] := by
  match us, h with
  | [a0, a1, a2], _ => exact ⟨a0, a1, a2, rfl⟩
theorem lenIs4 {us : List Value} (h : us.length = 4) : ∃ a0 a1 a2 a3, us = [a0, a1, a2, a3] := by
  match us, h with
  | [a0, a1, a2, a3], _ => exact ⟨a0, a1, a2, a3, rfl⟩
theorem lenIs5 {us : List Value} (h : us.length = 5) : ∃ a0 a1 a2 a3 a4, us = [a0, a1, a2, a3, a4] := by
  match us, h with
  | [a0, a1, a2, a3, a4], _ => exact ⟨a0, a1, a2, a3, a4, rfl⟩
theorem all_mk {l : PySem.W.OpenLaw} {w : World} {K : PySem.W.Frag} {h : Heap} {mg : Str → Option Value} {fa f1 f2 f3 f4 f5 f6 f7 f8 f9 f10 f11 f12 f13 f14 f15 f16 f17 f18 f19 f20 f21 f22 f23 f24 f25 f26 f27 f28 f29 wa0 wa1 : Addr} (X : K.In h) (G : h.Ns mainGlobals mg) (hfa : mg "law" = some (.ref fa))
    {od1 an1 od2 an2 od3 an3 od4 an4 od5 an5 od6 an6 od7 an7 od8 an8 od9 an9 od10 an10 od11 an11 od12 an12 od13 an13 od14 an14 od15 an15 od16 an16 od17 an17 od18 an18 od19 an19 od20 an20 od21 an21 od22 an22 od23 an23 od24 an24 od25 an25 od26 an26 od27 an27 od28 an28 od29 an29 : Option Addr} {sl1 sl2 sl3 sl4 sl5 sl6 sl7 sl8 sl9 sl10 sl11 sl12 sl13 sl14 sl15 sl16 sl17 sl18 sl19 sl20 sl21 sl22 sl23 sl24 sl25 sl26 sl27 sl28 sl29 : Array (Option Value)} {oc1 kV1 dc1 pm1 cd1 ct1 oc2 kV2 dc2 pm2 cd2 ct2 oc3 kV3 dc3 pm3 cd3 ct3 oc4 kV4 dc4 pm4 cd4 ct4 oc5 kV5 dc5 pm5 cd5 ct5 oc6 kV6 dc6 pm6 cd6 ct6 oc7 kV7 dc7 pm7 cd7 ct7 oc8 kV8 dc8 pm8 cd8 ct8 oc9 kV9 dc9 pm9 cd9 ct9 oc10 kV10 dc10 pm10 cd10 ct10 oc11 kV11 dc11 pm11 cd11 ct11 oc12 kV12 dc12 pm12 cd12 ct12 oc13 kV13 dc13 pm13 cd13 ct13 oc14 kV14 dc14 pm14 cd14 ct14 oc15 kV15 dc15 pm15 cd15 ct15 oc16 kV16 dc16 pm16 cd16 ct16 oc17 kV17 dc17 pm17 cd17 ct17 oc18 kV18 dc18 pm18 cd18 ct18 oc19 kV19 dc19 pm19 cd19 ct19 oc20 kV20 dc20 pm20 cd20 ct20 oc21 kV21 dc21 pm21 cd21 ct21 oc22 kV22 dc22 pm22 cd22 ct22 oc23 kV23 dc23 pm23 cd23 ct23 oc24 kV24 dc24 pm24 cd24 ct24 oc25 kV25 dc25 pm25 cd25 ct25 oc26 kV26 dc26 pm26 cd26 ct26 oc27 kV27 dc27 pm27 cd27 ct27 oc28 kV28 dc28 pm28 cd28 ct28 oc29 kV29 dc29 pm29 cd29 ct29 : Value}
    (a1 : PySem.W.nsIn K mainGlobals "_law_tape" = some (some (.ref f1))) (l1 : K.lookup f1 = some ⟨oc1, od1, .func (PySem.W.fnOf "_law_tape" "_law_tape" (defArgs sTape) (defBody sTape) (defScope sTape) .none kV1 dc1 pm1 an1 cd1 ct1), sl1⟩) (c1 : PySem.W.codeIn K cd1 "_law_tape" = true) (k1 : PySem.W.keepIn K (.ref f1) = true)
    (a2 : PySem.W.nsIn K mainGlobals "_law_draw" = some (some (.ref f2))) (l2 : K.lookup f2 = some ⟨oc2, od2, .func (PySem.W.fnOf "_law_draw" "_law_draw" (defArgs sDraw) (defBody sDraw) (defScope sDraw) .none kV2 dc2 pm2 an2 cd2 ct2), sl2⟩) (c2 : PySem.W.codeIn K cd2 "_law_draw" = true) (k2 : PySem.W.keepIn K (.ref f2) = true)
    (a3 : PySem.W.nsIn K mainGlobals "_law_nexts" = some (some (.ref f3))) (l3 : K.lookup f3 = some ⟨oc3, od3, .func (PySem.W.fnOf "_law_nexts" "_law_nexts" (defArgs sNexts) (defBody sNexts) (defScope sNexts) .none kV3 dc3 pm3 an3 cd3 ct3), sl3⟩) (c3 : PySem.W.codeIn K cd3 "_law_nexts" = true) (k3 : PySem.W.keepIn K (.ref f3) = true)
    (a4 : PySem.W.nsIn K mainGlobals "_law_number" = some (some (.ref f4))) (l4 : K.lookup f4 = some ⟨oc4, od4, .func (PySem.W.fnOf "_law_number" "_law_number" (defArgs sNumber) (defBody sNumber) (defScope sNumber) .none kV4 dc4 pm4 an4 cd4 ct4), sl4⟩) (c4 : PySem.W.codeIn K cd4 "_law_number" = true) (k4 : PySem.W.keepIn K (.ref f4) = true)
    (a5 : PySem.W.nsIn K mainGlobals "_law_deeds" = some (some (.ref f5))) (l5 : K.lookup f5 = some ⟨oc5, od5, .func (PySem.W.fnOf "_law_deeds" "_law_deeds" (defArgs sDeeds) (defBody sDeeds) (defScope sDeeds) .none kV5 dc5 pm5 an5 cd5 ct5), sl5⟩) (c5 : PySem.W.codeIn K cd5 "_law_deeds" = true) (k5 : PySem.W.keepIn K (.ref f5) = true)
    (a6 : PySem.W.nsIn K mainGlobals "_law_work" = some (some (.ref f6))) (l6 : K.lookup f6 = some ⟨oc6, od6, .func (PySem.W.fnOf "_law_work" "_law_work" (defArgs sWork) (defBody sWork) (defScope sWork) .none kV6 dc6 pm6 an6 cd6 ct6), sl6⟩) (c6 : PySem.W.codeIn K cd6 "_law_work" = true) (k6 : PySem.W.keepIn K (.ref f6) = true)
    (a7 : PySem.W.nsIn K mainGlobals "_law_many" = some (some (.ref f7))) (l7 : K.lookup f7 = some ⟨oc7, od7, .func (PySem.W.fnOf "_law_many" "_law_many" (defArgs sMany) (defBody sMany) (defScope sMany) .none kV7 dc7 pm7 an7 cd7 ct7), sl7⟩) (c7 : PySem.W.codeIn K cd7 "_law_many" = true) (k7 : PySem.W.keepIn K (.ref f7) = true)
    (a8 : PySem.W.nsIn K mainGlobals "_law_size" = some (some (.ref f8))) (l8 : K.lookup f8 = some ⟨oc8, od8, .func (PySem.W.fnOf "_law_size" "_law_size" (defArgs sSize) (defBody sSize) (defScope sSize) .none kV8 dc8 pm8 an8 cd8 ct8), sl8⟩) (c8 : PySem.W.codeIn K cd8 "_law_size" = true) (k8 : PySem.W.keepIn K (.ref f8) = true)
    (a9 : PySem.W.nsIn K mainGlobals "_law_slim" = some (some (.ref f9))) (l9 : K.lookup f9 = some ⟨oc9, od9, .func (PySem.W.fnOf "_law_slim" "_law_slim" (defArgs sSlim) (defBody sSlim) (defScope sSlim) .none kV9 dc9 pm9 an9 cd9 ct9), sl9⟩) (c9 : PySem.W.codeIn K cd9 "_law_slim" = true) (k9 : PySem.W.keepIn K (.ref f9) = true)
    (a10 : PySem.W.nsIn K mainGlobals "_law_works" = some (some (.ref f10))) (l10 : K.lookup f10 = some ⟨oc10, od10, .func (PySem.W.fnOf "_law_works" "_law_works" (defArgs sWorks) (defBody sWorks) (defScope sWorks) .none kV10 dc10 pm10 an10 cd10 ct10), sl10⟩) (c10 : PySem.W.codeIn K cd10 "_law_works" = true) (k10 : PySem.W.keepIn K (.ref f10) = true)
    (a11 : PySem.W.nsIn K mainGlobals "led_to" = some (some (.ref f11))) (l11 : K.lookup f11 = some ⟨oc11, od11, .func (PySem.W.fnOf "led_to" "led_to" (defArgs sLed) (defBody sLed) (defScope sLed) .none kV11 dc11 pm11 an11 cd11 ct11), sl11⟩) (c11 : PySem.W.codeIn K cd11 "led_to" = true) (k11 : PySem.W.keepIn K (.ref f11) = true)
    (a12 : PySem.W.nsIn K mainGlobals "writes_box" = some (some (.ref f12))) (l12 : K.lookup f12 = some ⟨oc12, od12, .func (PySem.W.fnOf "writes_box" "writes_box" (defArgs sWrites) (defBody sWrites) (defScope sWrites) .none kV12 dc12 pm12 an12 cd12 ct12), sl12⟩) (c12 : PySem.W.codeIn K cd12 "writes_box" = true) (k12 : PySem.W.keepIn K (.ref f12) = true)
    (a13 : PySem.W.nsIn K mainGlobals "reads_box" = some (some (.ref f13))) (l13 : K.lookup f13 = some ⟨oc13, od13, .func (PySem.W.fnOf "reads_box" "reads_box" (defArgs sReads) (defBody sReads) (defScope sReads) .none kV13 dc13 pm13 an13 cd13 ct13), sl13⟩) (c13 : PySem.W.codeIn K cd13 "reads_box" = true) (k13 : PySem.W.keepIn K (.ref f13) = true)
    (a14 : PySem.W.nsIn K mainGlobals "till_write" = some (some (.ref f14))) (l14 : K.lookup f14 = some ⟨oc14, od14, .func (PySem.W.fnOf "till_write" "till_write" (defArgs sTill) (defBody sTill) (defScope sTill) .none kV14 dc14 pm14 an14 cd14 ct14), sl14⟩) (c14 : PySem.W.codeIn K cd14 "till_write" = true) (k14 : PySem.W.keepIn K (.ref f14) = true)
    (a15 : PySem.W.nsIn K mainGlobals "begins_met" = some (some (.ref f15))) (l15 : K.lookup f15 = some ⟨oc15, od15, .func (PySem.W.fnOf "begins_met" "begins_met" (defArgs sBegins) (defBody sBegins) (defScope sBegins) .none kV15 dc15 pm15 an15 cd15 ct15), sl15⟩) (c15 : PySem.W.codeIn K cd15 "begins_met" = true) (k15 : PySem.W.keepIn K (.ref f15) = true)
    (a16 : PySem.W.nsIn K mainGlobals "awaiting" = some (some (.ref f16))) (l16 : K.lookup f16 = some ⟨oc16, od16, .func (PySem.W.fnOf "awaiting" "awaiting" (defArgs sAwait) (defBody sAwait) (defScope sAwait) .none kV16 dc16 pm16 an16 cd16 ct16), sl16⟩) (c16 : PySem.W.codeIn K cd16 "awaiting" = true) (k16 : PySem.W.keepIn K (.ref f16) = true)
    (a17 : PySem.W.nsIn K mainGlobals "_law_reads" = some (some (.ref f17))) (l17 : K.lookup f17 = some ⟨oc17, od17, .func (PySem.W.fnOf "_law_reads" "_law_reads" (defArgs sLReads) (defBody sLReads) (defScope sLReads) .none kV17 dc17 pm17 an17 cd17 ct17), sl17⟩) (c17 : PySem.W.codeIn K cd17 "_law_reads" = true) (k17 : PySem.W.keepIn K (.ref f17) = true)
    (a18 : PySem.W.nsIn K mainGlobals "_law_is_asked" = some (some (.ref f18))) (l18 : K.lookup f18 = some ⟨oc18, od18, .func (PySem.W.fnOf "_law_is_asked" "_law_is_asked" (defArgs sIsAsked) (defBody sIsAsked) (defScope sIsAsked) .none kV18 dc18 pm18 an18 cd18 ct18), sl18⟩) (c18 : PySem.W.codeIn K cd18 "_law_is_asked" = true) (k18 : PySem.W.keepIn K (.ref f18) = true)
    (a19 : PySem.W.nsIn K mainGlobals "nexts_of" = some (some (.ref f19))) (l19 : K.lookup f19 = some ⟨oc19, od19, .func (PySem.W.fnOf "nexts_of" "nexts_of" (defArgs sNx) (defBody sNx) (defScope sNx) .none kV19 dc19 pm19 an19 cd19 ct19), sl19⟩) (c19 : PySem.W.codeIn K cd19 "nexts_of" = true) (k19 : PySem.W.keepIn K (.ref f19) = true)
    (a20 : PySem.W.nsIn K mainGlobals "_law_ends" = some (some (.ref f20))) (l20 : K.lookup f20 = some ⟨oc20, od20, .func (PySem.W.fnOf "_law_ends" "_law_ends" (defArgs sEnds) (defBody sEnds) (defScope sEnds) .none kV20 dc20 pm20 an20 cd20 ct20), sl20⟩) (c20 : PySem.W.codeIn K cd20 "_law_ends" = true) (k20 : PySem.W.keepIn K (.ref f20) = true)
    (a21 : PySem.W.nsIn K mainGlobals "writers" = some (some (.ref f21))) (l21 : K.lookup f21 = some ⟨oc21, od21, .func (PySem.W.fnOf "writers" "writers" (defArgs sWriters) (defBody sWriters) (defScope sWriters) .none kV21 dc21 pm21 an21 cd21 ct21), sl21⟩) (c21 : PySem.W.codeIn K cd21 "writers" = true) (k21 : PySem.W.keepIn K (.ref f21) = true)
    (a22 : PySem.W.nsIn K mainGlobals "_law_writes" = some (some (.ref f22))) (l22 : K.lookup f22 = some ⟨oc22, od22, .func (PySem.W.fnOf "_law_writes" "_law_writes" (defArgs sLWrites) (defBody sLWrites) (defScope sLWrites) .none kV22 dc22 pm22 an22 cd22 ct22), sl22⟩) (c22 : PySem.W.codeIn K cd22 "_law_writes" = true) (k22 : PySem.W.keepIn K (.ref f22) = true)
    (a23 : PySem.W.nsIn K mainGlobals "awaited" = some (some (.ref f23))) (l23 : K.lookup f23 = some ⟨oc23, od23, .func (PySem.W.fnOf "awaited" "awaited" (defArgs sAwaited) (defBody sAwaited) (defScope sAwaited) .none kV23 dc23 pm23 an23 cd23 ct23), sl23⟩) (c23 : PySem.W.codeIn K cd23 "awaited" = true) (k23 : PySem.W.keepIn K (.ref f23) = true)
    (a24 : PySem.W.nsIn K mainGlobals "reached" = some (some (.ref f24))) (l24 : K.lookup f24 = some ⟨oc24, od24, .func (PySem.W.fnOf "reached" "reached" (defArgs sReached) (defBody sReached) (defScope sReached) .none kV24 dc24 pm24 an24 cd24 ct24), sl24⟩) (c24 : PySem.W.codeIn K cd24 "reached" = true) (k24 : PySem.W.keepIn K (.ref f24) = true)
    (a25 : PySem.W.nsIn K mainGlobals "_law_behind" = some (some (.ref f25))) (l25 : K.lookup f25 = some ⟨oc25, od25, .func (PySem.W.fnOf "_law_behind" "_law_behind" (defArgs sBehind) (defBody sBehind) (defScope sBehind) .none kV25 dc25 pm25 an25 cd25 ct25), sl25⟩) (c25 : PySem.W.codeIn K cd25 "_law_behind" = true) (k25 : PySem.W.keepIn K (.ref f25) = true)
    (a26 : PySem.W.nsIn K mainGlobals "busy" = some (some (.ref f26))) (l26 : K.lookup f26 = some ⟨oc26, od26, .func (PySem.W.fnOf "busy" "busy" (defArgs sBusy) (defBody sBusy) (defScope sBusy) .none kV26 dc26 pm26 an26 cd26 ct26), sl26⟩) (c26 : PySem.W.codeIn K cd26 "busy" = true) (k26 : PySem.W.keepIn K (.ref f26) = true)
    (a27 : PySem.W.nsIn K mainGlobals "_law_busy" = some (some (.ref f27))) (l27 : K.lookup f27 = some ⟨oc27, od27, .func (PySem.W.fnOf "_law_busy" "_law_busy" (defArgs sLBusy) (defBody sLBusy) (defScope sLBusy) .none kV27 dc27 pm27 an27 cd27 ct27), sl27⟩) (c27 : PySem.W.codeIn K cd27 "_law_busy" = true) (k27 : PySem.W.keepIn K (.ref f27) = true)
    (a28 : PySem.W.nsIn K mainGlobals "_law_boxes" = some (some (.ref f28))) (l28 : K.lookup f28 = some ⟨oc28, od28, .func (PySem.W.fnOf "_law_boxes" "_law_boxes" (defArgs sLBoxes) (defBody sLBoxes) (defScope sLBoxes) .none kV28 dc28 pm28 an28 cd28 ct28), sl28⟩) (c28 : PySem.W.codeIn K cd28 "_law_boxes" = true) (k28 : PySem.W.keepIn K (.ref f28) = true)
    (a29 : PySem.W.nsIn K mainGlobals "law" = some (some (.ref f29))) (l29 : K.lookup f29 = some ⟨oc29, od29, .func (PySem.W.fnOf "law" "law" (defArgs sLaw) (defBody sLaw) (defScope sLaw) .none kV29 dc29 pm29 an29 cd29 ct29), sl29⟩) (c29 : PySem.W.codeIn K cd29 "law" = true) (k29 : PySem.W.keepIn K (.ref f29) = true)
    (u0 : PySem.W.nsIn K mainGlobals "WRITING" = some (some (.ref wa0))) (v0 : Writing K wa0)
    (u1 : PySem.W.nsIn K mainGlobals "READING" = some (some (.ref wa1))) (v1 : Reading K wa1)
    (z1 : PySem.W.nsIn K mainGlobals "range" = some none) (z2 : PySem.W.nsIn K mainGlobals "len" = some none) (z3 : PySem.W.nsIn K mainGlobals "abs" = some none) (z4 : PySem.W.nsIn K mainGlobals "int" = some none) (z5 : PySem.W.nsIn K mainGlobals "max" = some none) (z6 : PySem.W.nsIn K mainGlobals "min" = some none) (z7 : PySem.W.nsIn K mainGlobals "list" = some none) (z8 : PySem.W.nsIn K mainGlobals "repr" = some none) (z9 : PySem.W.nsIn K mainGlobals "enumerate" = some none) (z10 : PySem.W.nsIn K mainGlobals "any" = some none) (z11 : PySem.W.nsIn K mainGlobals "sum" = some none) (z12 : PySem.W.nsIn K mainGlobals "sorted" = some none) (z13 : PySem.W.nsIn K mainGlobals "set" = some none) :
    ∃ fd : FuncData, (∀ (s : Shared) (v : Value), BindsTo s fd ⟨[v], []⟩ [("_law_script", v)]) ∧ ∀ base : Heap, K.In base → base.Ns mainGlobals mg → FnOk l.prog w K mg base CX0 7 fa fd ["_law_script"] (spLaw K) := by
  have e := hfa.symm.trans (PySem.W.mg_of X G a29)
  cases e
  have nrange := PySem.W.mg_none_of X G z1
  have nlen := PySem.W.mg_none_of X G z2
  have nabs := PySem.W.mg_none_of X G z3
  have nint := PySem.W.mg_none_of X G z4
  have nmax := PySem.W.mg_none_of X G z5
  have nmin := PySem.W.mg_none_of X G z6
  have nlist := PySem.W.mg_none_of X G z7
  have nrepr := PySem.W.mg_none_of X G z8
  have nenumerate := PySem.W.mg_none_of X G z9
  have nany := PySem.W.mg_none_of X G z10
  have nsum := PySem.W.mg_none_of X G z11
  have nsorted := PySem.W.mg_none_of X G z12
  have nset := PySem.W.mg_none_of X G z13
  have hwr := PySem.W.mg_of X G u0
  have hrd := PySem.W.mg_of X G u1
  have FL := fun_mk (st := sLaw) l29 c29 k29
  refine ⟨PySem.W.fnOf "law" "law" (defArgs sLaw) (defBody sLaw) (defScope sLaw) .none kV29 dc29 pm29 an29 cd29 ct29, fun s v => .of_eq rfl, fun base _ _ => ?_⟩
  have htape : Has l.prog w K mg base "_law_tape" 1 ["_law_script", "_law_k"] (spTape K) := has_mk (st := sTape) X G a1 l1 c1 k1 (fun _ _ _ _ _ _ us hl => by obtain ⟨_, _, rfl⟩ := lenIs2 hl; rfl) fun _ F => ok_tape F nlen nabs nint
  have hdraw : Has l.prog w K mg base "_law_draw" 1 ["_law_tape_here", "_law_many_here"] spDraw := has_mk (st := sDraw) X G a2 l2 c2 k2 (fun _ _ _ _ _ _ us hl => by obtain ⟨_, _, rfl⟩ := lenIs2 hl; rfl) fun _ F => ok_draw F
  have hnexts : Has l.prog w K mg base "_law_nexts" 2 ["_law_tape_here", "_law_many_here"] (spNexts K) := has_mk (st := sNexts) X G a3 l3 c3 k3 (fun _ _ _ _ _ _ us hl => by obtain ⟨_, _, rfl⟩ := lenIs2 hl; rfl) fun _ F => ok_nexts F nrange nmax hdraw
  have hnumber : Has l.prog w K mg base "_law_number" 2 ["_law_tape_here"] spNumber := has_mk (st := sNumber) X G a4 l4 c4 k4 (fun _ _ _ _ _ _ us hl => by obtain ⟨_, rfl⟩ := lenIs1 hl; rfl) fun _ F => ok_number F hdraw
  have hdeeds : Has l.prog w K mg base "_law_deeds" 3 ["_law_tape_here", "_law_most", "_law_boxes_here", "_law_first", "_law_works_here"] (spDeedsE K) := has_mk (st := sDeeds) X G a5 l5 c5 k5 (fun _ _ _ _ _ _ us hl => by obtain ⟨_, _, _, _, _, rfl⟩ := lenIs5 hl; rfl) fun _ F => ok_deeds F nrange nint nlen hdraw hnumber
  have hwork : Has l.prog w K mg base "_law_work" 4 ["_law_tape_here", "_law_many_here", "_law_most", "_law_first", "_law_works_here"] (spWorkE K) := has_mk (st := sWork) X G a6 l6 c6 k6 (fun _ _ _ _ _ _ us hl => by obtain ⟨_, _, _, _, _, rfl⟩ := lenIs5 hl; rfl) fun _ F => ok_work F nrange nlist nlen hdraw hnexts hdeeds
  have hmany : Has l.prog w K mg base "_law_many" 2 ["_law_tape_here"] spMany := has_mk (st := sMany) X G a7 l7 c7 k7 (fun _ _ _ _ _ _ us hl => by obtain ⟨_, rfl⟩ := lenIs1 hl; rfl) fun _ F => ok_many F nint hdraw
  have hsize : Has l.prog w K mg base "_law_size" 1 ["_law_works_here"] (spSize K) := has_mk (st := sSize) X G a8 l8 c8 k8 (fun _ _ _ _ _ _ us hl => by obtain ⟨_, rfl⟩ := lenIs1 hl; rfl) fun _ F => ok_size F nsum nlen
  have hslim : Has l.prog w K mg base "_law_slim" 2 ["_law_works_here"] (spSlimE K) := has_mk (st := sSlim) X G a9 l9 c9 k9 (fun _ _ _ _ _ _ us hl => by obtain ⟨_, rfl⟩ := lenIs1 hl; rfl) fun _ F => ok_slim F hsize
  have hworks : Has l.prog w K mg base "_law_works" 5 ["_law_tape_here", "_law_most"] (spWorksE K) := has_mk (st := sWorks) X G a10 l10 c10 k10 (fun _ _ _ _ _ _ us hl => by obtain ⟨_, _, rfl⟩ := lenIs2 hl; rfl) fun _ F => ok_works F nrange nint hdraw hmany hwork hslim
  have hled_to : Has l.prog w K mg base "led_to" 1 ["starts", "nexts"] (spLed2 K) := has_mk (st := sLed) X G a11 l11 c11 k11 (fun _ _ _ _ _ _ us hl => by obtain ⟨_, _, rfl⟩ := lenIs2 hl; rfl) fun _ F => ok_led2 F nlist
  have hwrites_box : Has l.prog w K mg base "writes_box" 1 ["deed", "box"] (spDeedB wrB K) := has_mk (st := sWrites) X G a12 l12 c12 k12 (fun _ _ _ _ _ _ us hl => by obtain ⟨_, _, rfl⟩ := lenIs2 hl; rfl) fun _ F => ok_writes F hwr v0
  have hreads_box : Has l.prog w K mg base "reads_box" 1 ["deed", "box"] (spDeedB rdB K) := has_mk (st := sReads) X G a13 l13 c13 k13 (fun _ _ _ _ _ _ us hl => by obtain ⟨_, _, rfl⟩ := lenIs2 hl; rfl) fun _ F => ok_reads F hrd v1
  have htill_write : Has l.prog w K mg base "till_write" 2 ["deeds", "box"] (spTill K) := has_mk (st := sTill) X G a14 l14 c14 k14 (fun _ _ _ _ _ _ us hl => by obtain ⟨_, _, rfl⟩ := lenIs2 hl; rfl) fun _ F => ok_till F nenumerate nlist hwrites_box
  have hbegins_met : Has l.prog w K mg base "begins_met" 3 ["works", "number", "at", "box"] (spBegins K) := has_mk (st := sBegins) X G a15 l15 c15 k15 (fun _ _ _ _ _ _ us hl => by obtain ⟨_, _, _, _, rfl⟩ := lenIs4 hl; rfl) fun _ F => ok_begins F nany htill_write hwrites_box
  have hawaiting : Has l.prog w K mg base "awaiting" 4 ["works", "box"] (spAwait K) := has_mk (st := sAwait) X G a16 l16 c16 k16 (fun _ _ _ _ _ _ us hl => by obtain ⟨_, _, rfl⟩ := lenIs2 hl; rfl) fun _ F => ok_await F nenumerate nany htill_write hreads_box hbegins_met hled_to
  have hreads : Has l.prog w K mg base "_law_reads" 1 ["_law_deed", "_law_box"] (spDeedB rdB K) := has_mk (st := sLReads) X G a17 l17 c17 k17 (fun _ _ _ _ _ _ us hl => by obtain ⟨_, _, rfl⟩ := lenIs2 hl; rfl) fun _ F => ok_lreads F
  have his_asked : Has l.prog w K mg base "_law_is_asked" 2 ["_law_works_here", "_law_number_here", "_law_block", "_law_box"] (spIsAsked K) := has_mk (st := sIsAsked) X G a18 l18 c18 k18 (fun _ _ _ _ _ _ us hl => by obtain ⟨_, _, _, _, rfl⟩ := lenIs4 hl; rfl) fun _ F => ok_isasked F hreads
  have hnexts_of : Has l.prog w K mg base "nexts_of" 1 ["work"] (spNx K) := has_mk (st := sNx) X G a19 l19 c19 k19 (fun _ _ _ _ _ _ us hl => by obtain ⟨_, rfl⟩ := lenIs1 hl; rfl) fun _ F => ok_nx F nlist nenumerate
  have hends : Has l.prog w K mg base "_law_ends" 1 ["_law_work_here"] (spEndsI K) := has_mk (st := sEnds) X G a20 l20 c20 k20 (fun _ _ _ _ _ _ us hl => by obtain ⟨_, rfl⟩ := lenIs1 hl; rfl) fun _ F => ok_ends F nlist
  have hwriters : Has l.prog w K mg base "writers" 2 ["work", "box"] (spWriters K) := has_mk (st := sWriters) X G a21 l21 c21 k21 (fun _ _ _ _ _ _ us hl => by obtain ⟨_, _, rfl⟩ := lenIs2 hl; rfl) fun _ F => ok_writers F nenumerate nany hwrites_box
  have hwrites : Has l.prog w K mg base "_law_writes" 1 ["_law_work_here", "_law_box"] (spWriters K) := has_mk (st := sLWrites) X G a22 l22 c22 k22 (fun _ _ _ _ _ _ us hl => by obtain ⟨_, _, rfl⟩ := lenIs2 hl; rfl) fun _ F => ok_lwrites F nrange nlen nany
  have hawaited : Has l.prog w K mg base "awaited" 5 ["works", "number", "box"] (spAwaited K) := has_mk (st := sAwaited) X G a23 l23 c23 k23 (fun _ _ _ _ _ _ us hl => by obtain ⟨_, _, _, rfl⟩ := lenIs3 hl; rfl) fun _ F => ok_awaited F nrange nlen hawaiting
  have hreached : Has l.prog w K mg base "reached" 3 ["works", "number", "box"] (spReached K) := has_mk (st := sReached) X G a24 l24 c24 k24 (fun _ _ _ _ _ _ us hl => by obtain ⟨_, _, _, rfl⟩ := lenIs3 hl; rfl) fun _ F => ok_reached F nsorted hnexts_of hwriters hled_to
  have hbehind : Has l.prog w K mg base "_law_behind" 2 ["_law_work_here", "_law_box"] (spBehind K) := has_mk (st := sBehind) X G a25 l25 c25 k25 (fun _ _ _ _ _ _ us hl => by obtain ⟨_, _, rfl⟩ := lenIs2 hl; rfl) fun _ F => ok_behind F nrange nlen nlist nset nsorted hends hwrites
  have hbusy : Has l.prog w K mg base "busy" 6 ["works", "number", "box"] (spBusy K) := has_mk (st := sBusy) X G a26 l26 c26 k26 (fun _ _ _ _ _ _ us hl => by obtain ⟨_, _, _, rfl⟩ := lenIs3 hl; rfl) fun _ F => ok_busy F nsorted nset hawaited hreached hwriters
  have hlbusy : Has l.prog w K mg base "_law_busy" 3 ["_law_works_here", "_law_number_here", "_law_box"] (spBusy K) := has_mk (st := sLBusy) X G a27 l27 c27 k27 (fun _ _ _ _ _ _ us hl => by obtain ⟨_, _, _, rfl⟩ := lenIs3 hl; rfl) fun _ F => ok_lbusy F nsorted nset hbehind his_asked hwrites
  have hboxes : Has l.prog w K mg base "_law_boxes" 2 ["_law_work_here"] (spBoxesL K) := has_mk (st := sLBoxes) X G a28 l28 c28 k28 (fun _ _ _ _ _ _ us hl => by obtain ⟨_, rfl⟩ := lenIs1 hl; rfl) fun _ F => ok_lboxes F nrange hwrites
  exact ok_law FL nrange nlen nmax nmin nrepr nlist nint htape hdraw hworks hsize hlbusy hbusy hboxes
theorem walk {l : PySem.W.OpenLaw} {q : Program} {loose : List Str} {XP : (Str → Option Value) → Heap → Prop} {YP : World → Heap → Prop} {d : DefRec} {K : Params → PySem.W.Frag} (hn : l.most = some 63) (hdf : d.params.defaults = [])
    (hY : ∀ (w : World) (h : Heap), YP w h → (K w.params).In h)
    (F : ∀ (w : World) (mg : Str → Option Value) (fa : Addr) (h : Heap), (K w.params).In h → h.Ns mainGlobals mg → mg d.name = some (.ref fa) →
      ∃ fd : FuncData, (∀ (s : Shared) (u : Value), BindsTo s fd ⟨[u], []⟩ [("_law_script", u)]) ∧ ∀ base : Heap, (K w.params).In base → base.Ns mainGlobals mg → FnOk l.prog w (K w.params) mg base CX0 7 fa fd ["_law_script"] (spLaw (K w.params))) :
    PySem.W.WalkO q loose XP YP l.row.toRowW d [] (fun f vs => PySem.call f vs) :=
  L2.walk_of (n := 63) (k := 7) (x := "_law_script") (CX := fun _ => CX0) (sp := fun w => spLaw (K w.params)) hn (by decide) hdf ⟨rfl, by decide, by decide, rfl⟩ hY F (fun _ _ a ns hl hO hS => ⟨a, ns, rfl, hS, hl, hO, fun _ => rfl⟩) fun _ _ _ _ _ z => z
end Fs
open PySem PySem.W PyProof.Rows
set_option maxRecDepth 100000 in
set_option maxHeartbeats 0 in
theorem PySem.Challenge.cw_fewsaves_k06_busy_holds : PySem.Challenge.rw_fewsaves_k06_busy.Holds := by
  w_on; o_law; k_head; (case hw => w_witness2)
  k_fill
  refine Fs.walk (l := PySem.Challenge.rw_fewsaves_k06_busy) rfl rfl (fun w h Y => PySem.W.kIn_of Y) ?F
  case F =>
    intro w mg fa h KX G hmg
    refine' Fs.all_mk KX G hmg ?a1 ?l1 ?c1 ?k1 ?a2 ?l2 ?c2 ?k2 ?a3 ?l3 ?c3 ?k3 ?a4 ?l4 ?c4 ?k4 ?a5 ?l5 ?c5 ?k5 ?a6 ?l6 ?c6 ?k6 ?a7 ?l7 ?c7 ?k7 ?a8 ?l8 ?c8 ?k8 ?a9 ?l9 ?c9 ?k9 ?a10 ?l10 ?c10 ?k10 ?a11 ?l11 ?c11 ?k11 ?a12 ?l12 ?c12 ?k12 ?a13 ?l13 ?c13 ?k13 ?a14 ?l14 ?c14 ?k14 ?a15 ?l15 ?c15 ?k15 ?a16 ?l16 ?c16 ?k16 ?a17 ?l17 ?c17 ?k17 ?a18 ?l18 ?c18 ?k18 ?a19 ?l19 ?c19 ?k19 ?a20 ?l20 ?c20 ?k20 ?a21 ?l21 ?c21 ?k21 ?a22 ?l22 ?c22 ?k22 ?a23 ?l23 ?c23 ?k23 ?a24 ?l24 ?c24 ?k24 ?a25 ?l25 ?c25 ?k25 ?a26 ?l26 ?c26 ?k26 ?a27 ?l27 ?c27 ?k27 ?a28 ?l28 ?c28 ?k28 ?a29 ?l29 ?c29 ?k29 ?u0 ?v0 ?u1 ?v1 ?z1 ?z2 ?z3 ?z4 ?z5 ?z6 ?z7 ?z8 ?z9 ?z10 ?z11 ?z12 ?z13
    (case a1 => k_is)
    (case l1 => k_is)
    (case c1 => k_is)
    (case k1 => k_is)
    (case a2 => k_is)
    (case l2 => k_is)
    (case c2 => k_is)
    (case k2 => k_is)
    (case a3 => k_is)
    (case l3 => k_is)
    (case c3 => k_is)
    (case k3 => k_is)
    (case a4 => k_is)
    (case l4 => k_is)
    (case c4 => k_is)
    (case k4 => k_is)
    (case a5 => k_is)
    (case l5 => k_is)
    (case c5 => k_is)
    (case k5 => k_is)
    (case a6 => k_is)
    (case l6 => k_is)
    (case c6 => k_is)
    (case k6 => k_is)
    (case a7 => k_is)
    (case l7 => k_is)
    (case c7 => k_is)
    (case k7 => k_is)
    (case a8 => k_is)
    (case l8 => k_is)
    (case c8 => k_is)
    (case k8 => k_is)
    (case a9 => k_is)
    (case l9 => k_is)
    (case c9 => k_is)
    (case k9 => k_is)
    (case a10 => k_is)
    (case l10 => k_is)
    (case c10 => k_is)
    (case k10 => k_is)
    (case a11 => k_is)
    (case l11 => k_is)
    (case c11 => k_is)
    (case k11 => k_is)
    (case a12 => k_is)
    (case l12 => k_is)
    (case c12 => k_is)
    (case k12 => k_is)
    (case a13 => k_is)
    (case l13 => k_is)
    (case c13 => k_is)
    (case k13 => k_is)
    (case a14 => k_is)
    (case l14 => k_is)
    (case c14 => k_is)
    (case k14 => k_is)
    (case a15 => k_is)
    (case l15 => k_is)
    (case c15 => k_is)
    (case k15 => k_is)
    (case a16 => k_is)
    (case l16 => k_is)
    (case c16 => k_is)
    (case k16 => k_is)
    (case a17 => k_is)
    (case l17 => k_is)
    (case c17 => k_is)
    (case k17 => k_is)
    (case a18 => k_is)
    (case l18 => k_is)
    (case c18 => k_is)
    (case k18 => k_is)
    (case a19 => k_is)
    (case l19 => k_is)
    (case c19 => k_is)
    (case k19 => k_is)
    (case a20 => k_is)
    (case l20 => k_is)
    (case c20 => k_is)
    (case k20 => k_is)
    (case a21 => k_is)
    (case l21 => k_is)
    (case c21 => k_is)
    (case k21 => k_is)
    (case a22 => k_is)
    (case l22 => k_is)
    (case c22 => k_is)
    (case k22 => k_is)
    (case a23 => k_is)
    (case l23 => k_is)
    (case c23 => k_is)
    (case k23 => k_is)
    (case a24 => k_is)
    (case l24 => k_is)
    (case c24 => k_is)
    (case k24 => k_is)
    (case a25 => k_is)
    (case l25 => k_is)
    (case c25 => k_is)
    (case k25 => k_is)
    (case a26 => k_is)
    (case l26 => k_is)
    (case c26 => k_is)
    (case k26 => k_is)
    (case a27 => k_is)
    (case l27 => k_is)
    (case c27 => k_is)
    (case k27 => k_is)
    (case a28 => k_is)
    (case l28 => k_is)
    (case c28 => k_is)
    (case k28 => k_is)
    (case a29 => k_is)
    (case l29 => k_is)
    (case c29 => k_is)
    (case k29 => k_is)
    (case u0 => k_is)
    (case v0 => exact ⟨_, _, _, by k_is, rfl, rfl, by decide, .cons ⟨_, rfl⟩ (.cons ⟨_, rfl⟩ .nil)⟩)
    (case u1 => k_is)
    (case v1 => exact ⟨_, _, _, by k_is, rfl, rfl, by decide, .cons ⟨_, rfl⟩ (.cons ⟨_, rfl⟩ .nil)⟩)
    (case z1 => k_is)
    (case z2 => k_is)
    (case z3 => k_is)
    (case z4 => k_is)
    (case z5 => k_is)
    (case z6 => k_is)
    (case z7 => k_is)
    (case z8 => k_is)
    (case z9 => k_is)
    (case z10 => k_is)
    (case z11 => k_is)
    (case z12 => k_is)
    (case z13 => k_is)
